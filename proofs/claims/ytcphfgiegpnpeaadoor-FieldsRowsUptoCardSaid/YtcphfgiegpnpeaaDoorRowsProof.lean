/- For every input of bulk at most 1048576, jackfieldlaw01.FieldsRows returns true and leaves its arguments as they were: the second form's row and its tied card. Conditions: the bound on the bulk; the listed errors' variables start as the program's text lays them. -/
import Derived.Test.YtcphfgiegpnpeaaDoorBulk
import Derived.Test.YtcphfgiegpnpeaaDoorRowsw
import Derived.Test.YtcphfgiegpnpeaaDoorCards
import Derived.Test.YtcphfgiegpnpeaaDoorTie
namespace Go.Proofs.YtcphfgiegpnpeaaDoor
open Go.ChangeShapes Go.WideShapes Go.ChangeAt Go.WideMaps Go.WideElems Go.RowKit
open Go.ChangeMaps (open_string shut_string)

theorem rows_contract (H : Type) (enc : TypeId × Value → H) (W : World) (base : Nat) (args : Array Value) (ds gs : List (DataW H)) (before : List MemPlace)
    (hval : ∀ (j : Nat) t v, Tryd.f6.params[j]? = some t → args[j]? = some v → Value.okWide Tryd.prog W .any base t v)
    (hW : DataW.Whole enc Tryd.prog Tryd.f6.params.toList Rows.fieldsRowsSpec.vars false W args.toList ds gs before) (hL : laidMetH Tryd.prog laid5 W) (hk : Rows.uptoSmall H (ds ++ gs) = true) :
    Calls Tryd.prog 6 args W fun e W' => ∃ v, e = .returned v ∧ Rows.fieldsRowsSpec.post enc Tryd.prog Tryd.f6 false true false false W args v W' := by
  have hW' := hW
  have hlt0 : ∀ x ∈ before, x.block < W.heap.size := fun x hx => hW.lt x hx
  obtain ⟨p, q, hA0, hV, rfl, hfz, hnd⟩ := hW
  have hA : DataW.TrodAll enc Tryd.prog W 0 (fun _ => true) true Tryd.f6.params.toList args.toList ds p := hA0
  rw [Tryd.params6] at hA hval
  obtain ⟨v0, v1, v2, d0, d1, d2, p0, p1, p2, hargs, rfl, rfl, h0, h1, h2⟩ := trodAll_three hA
  obtain rfl : args = #[v0, v1, v2] := by cases args; simp_all
  obtain ⟨rfl, rfl⟩ := trodVars_none hV
  have hbk := bulk_small hk
  obtain ⟨s0, rfl, rfl, rfl, hs0⟩ := open_string Tryd.underlying9 (hval 0 9 v0 rfl rfl) h0
  have hb0 : s0.size ≤ 1048576 := str_small hbk (by simp)
  obtain ⟨s1, rfl, rfl, rfl, hs1⟩ := open_string Tryd.underlying9 (hval 1 9 v1 rfl rfl) h1
  have hb1 : s1.size ≤ 1048576 := str_small hbk (by simp)
  obtain ⟨x2, l2, c2, rfl⟩ := okWide_slice Tryd.underlying22 (hval 2 22 v2 rfl rfl)
  obtain ⟨f2, hf2⟩ := h2
  obtain ⟨A2, n2, k2, cs2, e2, hn2, hc2, hr2, hok2, hd2⟩ := open_cells hf2
  have hb2 := sl_small hbk (d := d2) (by simp) hd2
  obtain ⟨rfl, rfl, rfl⟩ : x2 = A2 ∧ l2 = n2 ∧ c2 = k2 := by
    have e : [Value.slice x2 l2 c2] = [Value.slice A2 n2 k2] := e2
    injection e with e
    injection e with y1 y2 y3
    exact ⟨y1, y2, y3⟩
  obtain ⟨E, hE⟩ := sents5 hL
  have h5 : ∀ i, i < 5 → i ∈ idx5 := by decide
  have es : Rows.fieldsRowsSpec.fn H ([.lit (.string s0.data.toList), .lit (.string s1.data.toList), d2] ++ []) = { results := [.lit (.bool true)], args := [.lit (.string s0.data.toList), .lit (.string s1.data.toList), d2] } := by simp [Rows.fieldsRowsSpec]
  refine (rows_any E s0 s1 l2 c2 x2 cs2 W (hE.errs h5) (hE.size (by decide)) hb0 hb1 hn2 hc2 hr2 hok2 hb2).mono fun e W' ⟨he, hb⟩ => ?_
  subst he
  have q2 : ∀ x ∈ p2, x.block < W.heap.size := fun x hx => hlt0 x (by simp [hx])
  refine ⟨_, rfl, _, _, _, [], [] ++ ([] ++ p2), [], hW', ?_, ?_, ?_, hb.frame _, fun h => by cases h⟩
  · rw [es]; exact trodAll_mk1 (shut_bool Tryd.underlying4 true)
  · rw [es]; exact trodAll_mk3 (shut_string Tryd.underlying9 hs0) (shut_string Tryd.underlying9 hs1) (Below.trod laidOut read22 row22 ⟨f2, hf2⟩ hb q2)
  · rw [es]; rfl

set_option maxRecDepth 100000 in
theorem rows_lifted (os : Os) (started : os.Started) (H : Type) (enc : TypeId × Value → H) (F : Stop.Interp) :
    ReturnsInHanded {} Tryd.checked os 6 .any ((Rows.OpenSpec.upto Rows.fieldsRowsSpec).preRow enc Tryd.prog Tryd.f6 Rows.fieldsRowsUptoRow.domain false Rows.fieldsRowsUptoRow.laid) (((Rows.OpenSpec.upto Rows.fieldsRowsSpec).at F).post enc Tryd.prog Tryd.f6 false true false false) := by
  refine returnsInHanded_of_row (C := Tryd.checked) (s := Rows.OpenSpec.upto Rows.fieldsRowsSpec) own started (by kernel_rfl) Tryd.func6
    (witness_row_atRef (enc := enc) (C := Tryd.checked) false (World.doorLaid Tryd.prog 400 os) #[.string ⟨#[]⟩, .string ⟨#[]⟩, .slice none 0 0] rfl (by kernel_rfl) (by kernel_rfl) (by kernel_rfl)
      (OpenSpec.preRow_of_cond 8 (x := ([.lit (.string []), .lit (.string []), .nil], [], [])) (by kernel_rfl) (by kernel_rfl) (fun k hk => by cases hk; kernel_rfl) (by kernel_rfl) (door_met5 os _))) ?_
  intro W base args ds gs before hval hW _ hcond _ hL _ _
  exact rows_contract H enc W base args ds gs before hval hW hL (hcond _ rfl)

theorem rows_row : Rows.FieldsRowsUptoSaid :=
  OpenClaim.holds_of_cond 6 Tryd.f6 rfl rfl rfl rfl rfl rfl rfl ⟨rfl, rfl, rfl, rfl, rfl⟩ rfl rfl rfl rfl rfl (by kernel_rfl) Tryd.func6 (by kernel_rfl)
    (of_decide_eq_true (by kernel_rfl)) (by unfold Func.isWrapper; rw [if_neg (of_decide_eq_false (by kernel_rfl))]; exact ⟨rfl, rfl⟩)
    (fun os started H enc _ F => by rw [OpenClaim.pre_eq_preRow]; exact rows_lifted os started H enc F)

theorem rows_holds : Rows.FieldsRowsUptoCardSaid :=
  Claim7.holds_tied_plain_at .later [] _ _ _ _ rows_row (fun _ h => by cases h) (by kernel_rfl) (fun _ h => by cases h) fieldsRowsUpto_row_tie rfl ⟨rfl, rfl⟩ (by kernel_rfl) rfl
    (fun f fn hf hfn => by
      obtain rfl : f = 6 := Option.some.inj ((show Tryd.prog.funcNamed "jackfield/jackfieldlaw01.FieldsRows" = some 6 by kernel_rfl).symm.trans hf) |>.symm
      obtain rfl : fn = Tryd.f6 := (Option.some.inj (Tryd.func6.symm.trans hfn)).symm
      exact ⟨by kernel_rfl, fun j t ht => by
        rw [Tryd.params6] at ht
        have hm : t ∈ [9, 9, 22] := by simpa using Array.mem_of_getElem? ht
        have hall : ([9, 9, 22].all fun u => !Tryd.prog.wantsStandIn u) = true := by kernel_rfl
        exact (show Tryd.prog.wantsStandIn t = false by simpa using List.all_eq_true.1 hall t hm)⟩)
    (by kernel_rfl)
#print axioms rows_holds
end Go.Proofs.YtcphfgiegpnpeaaDoor

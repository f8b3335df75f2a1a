/- For every input of bulk at most 1048576, jackfieldlaw01.FieldsTake returns true and leaves its arguments as they were: the second form's row and its tied card. Conditions: the bound on the bulk; the listed errors' variables start as the program's text lays them. -/
import Derived.Test.YtcphfgiegpnpeaaDoorBulk
import Derived.Test.YtcphfgiegpnpeaaDoorTakew
import Derived.Test.YtcphfgiegpnpeaaDoorCards
import Derived.Test.YtcphfgiegpnpeaaDoorTie
namespace Go.Proofs.YtcphfgiegpnpeaaDoor
open Go.ChangeShapes Go.WideShapes Go.ChangeAt Go.WideMaps Go.WideElems Go.RowKit
open Go.ChangeMaps (open_string shut_string)

theorem take_contract (H : Type) (enc : TypeId × Value → H) (W : World) (base : Nat) (args : Array Value) (ds gs : List (DataW H)) (before : List MemPlace)
    (hval : ∀ (j : Nat) t v, Tryd.f4.params[j]? = some t → args[j]? = some v → Value.okWide Tryd.prog W .any base t v)
    (hW : DataW.Whole enc Tryd.prog Tryd.f4.params.toList Rows.fieldsTakeSpec.vars false W args.toList ds gs before) (hL : laidMetH Tryd.prog laid18 W) (hk : Rows.uptoSmall H (ds ++ gs) = true) :
    Calls Tryd.prog 4 args W fun e W' => ∃ v, e = .returned v ∧ Rows.fieldsTakeSpec.post enc Tryd.prog Tryd.f4 false true false false W args v W' := by
  have hW' := hW
  have hlt0 : ∀ x ∈ before, x.block < W.heap.size := fun x hx => hW.lt x hx
  obtain ⟨p, q, hA0, hV, rfl, hfz, hnd⟩ := hW
  have hA : DataW.TrodAll enc Tryd.prog W 0 (fun _ => true) true Tryd.f4.params.toList args.toList ds p := hA0
  rw [Tryd.params4] at hA hval
  obtain ⟨v0, v1, d0, d1, p0, p1, hargs, rfl, rfl, h0, h1⟩ := trodAll_two hA
  obtain rfl : args = #[v0, v1] := by cases args; simp_all
  obtain ⟨rfl, rfl⟩ := trodVars_none hV
  have hbk := bulk_small hk
  obtain ⟨s0, rfl, rfl, rfl, hs0⟩ := open_string Tryd.underlying9 (hval 0 9 v0 rfl rfl) h0
  have hb0 : s0.size ≤ 1048576 := str_small hbk (by simp)
  obtain ⟨x1, l1, c1, rfl⟩ := okWide_slice Tryd.underlying24 (hval 1 24 v1 rfl rfl)
  obtain ⟨f1, hf1⟩ := h1
  obtain ⟨A1, n1, k1, bs1, e1, hn1, hc1, hm1, hr1, hd1⟩ := open_bytes hf1
  have hb1 := sl_small hbk (d := d1) (by simp) hd1
  obtain ⟨rfl, rfl, rfl⟩ : x1 = A1 ∧ l1 = n1 ∧ c1 = k1 := by
    have e : [Value.slice x1 l1 c1] = [Value.slice A1 n1 k1] := e1
    injection e with e
    injection e with y1 y2 y3
    exact ⟨y1, y2, y3⟩
  obtain ⟨E, hE⟩ := sents18 hL
  have es : Rows.fieldsTakeSpec.fn H ([.lit (.string s0.data.toList), d1] ++ []) = { results := [.lit (.bool true)], args := [.lit (.string s0.data.toList), d1] } := by simp [Rows.fieldsTakeSpec]
  refine (take_all E s0 l1 c1 x1 bs1 W hE hb0 hn1 hc1 hb1 hr1).mono fun e W' ⟨he, hb⟩ => ?_
  subst he
  have q1 : ∀ x ∈ p1, x.block < W.heap.size := fun x hx => hlt0 x (by simp [hx])
  refine ⟨_, rfl, _, _, _, [], [] ++ p1, [], hW', ?_, ?_, ?_, hb.frame _, fun h => by cases h⟩
  · rw [es]; exact trodAll_mk1 (shut_bool Tryd.underlying4 true)
  · rw [es]; exact trodAll_mk2 (shut_string Tryd.underlying9 hs0) (Below.trod laidOut read24 row24 ⟨f1, hf1⟩ hb q1)
  · rw [es]; rfl

set_option maxRecDepth 100000 in
theorem take_lifted (os : Os) (started : os.Started) (H : Type) (enc : TypeId × Value → H) (F : Stop.Interp) :
    ReturnsInHanded {} Tryd.checked os 4 .any ((Rows.OpenSpec.upto Rows.fieldsTakeSpec).preRow enc Tryd.prog Tryd.f4 Rows.fieldsTakeUptoRow.domain false Rows.fieldsTakeUptoRow.laid) (((Rows.OpenSpec.upto Rows.fieldsTakeSpec).at F).post enc Tryd.prog Tryd.f4 false true false false) := by
  refine returnsInHanded_of_row (C := Tryd.checked) (s := Rows.OpenSpec.upto Rows.fieldsTakeSpec) own started (by kernel_rfl) Tryd.func4
    (witness_row_atRef (enc := enc) (C := Tryd.checked) false (World.doorLaid Tryd.prog 400 os) #[.string ⟨#[]⟩, .slice none 0 0] rfl (by kernel_rfl) (by kernel_rfl) (by kernel_rfl)
      (OpenSpec.preRow_of_cond 8 (x := ([.lit (.string []), .nil], [], [])) (by kernel_rfl) (by kernel_rfl) (fun k hk => by cases hk; kernel_rfl) (by kernel_rfl) (door_met18 os _))) ?_
  intro W base args ds gs before hval hW _ hcond _ hL _ _
  exact take_contract H enc W base args ds gs before hval hW hL (hcond _ rfl)

theorem take_row : Rows.FieldsTakeUptoSaid :=
  OpenClaim.holds_of_cond 4 Tryd.f4 rfl rfl rfl rfl rfl rfl rfl ⟨rfl, rfl, rfl, rfl, rfl⟩ rfl rfl rfl rfl rfl (by kernel_rfl) Tryd.func4 (by kernel_rfl)
    (of_decide_eq_true (by kernel_rfl)) (by unfold Func.isWrapper; rw [if_neg (of_decide_eq_false (by kernel_rfl))]; exact ⟨rfl, rfl⟩)
    (fun os started H enc _ F => by rw [OpenClaim.pre_eq_preRow]; exact take_lifted os started H enc F)

theorem take_holds : Rows.FieldsTakeUptoCardSaid :=
  Claim7.holds_tied_plain_at .later [] _ _ _ _ take_row (fun _ h => by cases h) (by kernel_rfl) (fun _ h => by cases h) fieldsTakeUpto_row_tie rfl ⟨rfl, rfl⟩ (by kernel_rfl) rfl
    (fun f fn hf hfn => by
      obtain rfl : f = 4 := Option.some.inj ((show Tryd.prog.funcNamed "jackfield/jackfieldlaw01.FieldsTake" = some 4 by kernel_rfl).symm.trans hf) |>.symm
      obtain rfl : fn = Tryd.f4 := (Option.some.inj (Tryd.func4.symm.trans hfn)).symm
      exact ⟨by kernel_rfl, fun j t ht => by
        rw [Tryd.params4] at ht
        have hm : t ∈ [9, 24] := by simpa using Array.mem_of_getElem? ht
        have hall : ([9, 24].all fun u => !Tryd.prog.wantsStandIn u) = true := by kernel_rfl
        exact (show Tryd.prog.wantsStandIn t = false by simpa using List.all_eq_true.1 hall t hm)⟩)
    (by kernel_rfl)
#print axioms take_holds
end Go.Proofs.YtcphfgiegpnpeaaDoor

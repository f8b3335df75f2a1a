/- For every layout and all bytes (of bulk at most 1048576 together), jackfieldlaw01.FieldsGrow returns true and leaves its arguments as they were: the second form's row and its tied card. Conditions: the bound on the bulk; the five errors' variables start as the program's text lays them. -/
import Derived.Test.YtcphfgiegpnpeaaDoorBulk
import Derived.Test.YtcphfgiegpnpeaaDoorGrow
import Derived.Test.YtcphfgiegpnpeaaDoorCards
import Derived.Test.YtcphfgiegpnpeaaDoorTie
namespace Go.Proofs.YtcphfgiegpnpeaaDoor
open Go.ChangeShapes Go.WideShapes Go.ChangeAt Go.WideMaps Go.WideElems Go.RowKit
open Go.ChangeMaps (open_string shut_string)

theorem grow_contract (H : Type) (enc : TypeId × Value → H) (W : World) (base : Nat) (args : Array Value) (ds gs : List (DataW H)) (before : List MemPlace)
    (hval : ∀ (j : Nat) t v, Tryd.f10.params[j]? = some t → args[j]? = some v → Value.okWide Tryd.prog W .any base t v)
    (hW : DataW.Whole enc Tryd.prog Tryd.f10.params.toList Rows.fieldsGrowSpec.vars false W args.toList ds gs before) (hL : laidMetH Tryd.prog laid5 W) (hk : Rows.uptoSmall H (ds ++ gs) = true) :
    Calls Tryd.prog 10 args W fun e W' => ∃ v, e = .returned v ∧ Rows.fieldsGrowSpec.post enc Tryd.prog Tryd.f10 false true false false W args v W' := by
  have hW' := hW
  have hlt0 : ∀ x ∈ before, x.block < W.heap.size := fun x hx => hW.lt x hx
  obtain ⟨p, q, hA0, hV, rfl, hfz, hnd⟩ := hW
  have hA : DataW.TrodAll enc Tryd.prog W 0 (fun _ => true) true Tryd.f10.params.toList args.toList ds p := hA0
  rw [Tryd.params10] at hA hval
  obtain ⟨v0, v1, v2, d0, d1, d2, p0, p1, p2, hargs, rfl, rfl, h0, h1, h2⟩ := trodAll_three hA
  obtain rfl : args = #[v0, v1, v2] := by cases args; simp_all
  obtain ⟨rfl, rfl⟩ := trodVars_none hV
  have hbk := bulk_small hk
  obtain ⟨s, rfl, rfl, rfl, hs⟩ := open_string Tryd.underlying9 (hval 0 9 v0 rfl rfl) h0
  obtain ⟨a1, l1, c1, rfl⟩ := okWide_slice Tryd.underlying24 (hval 1 24 v1 rfl rfl)
  obtain ⟨a2, l2, c2, rfl⟩ := okWide_slice Tryd.underlying24 (hval 2 24 v2 rfl rfl)
  obtain ⟨f1, hf1⟩ := h1
  obtain ⟨f2, hf2⟩ := h2
  obtain ⟨A1, n1, k1, bs, e1, hn1, hc1, hm1, hr1, hd1⟩ := open_bytes hf1
  obtain ⟨A2, n2, k2, ms, e2, hn2, hc2, hm2, hr2, hd2⟩ := open_bytes hf2
  have hb1 := sl_small hbk (d := d1) (by simp) hd1
  have hb2 := sl_small hbk (d := d2) (by simp) hd2
  obtain ⟨rfl, rfl, rfl⟩ : a1 = A1 ∧ l1 = n1 ∧ c1 = k1 := by
    have e : [Value.slice a1 l1 c1] = [Value.slice A1 n1 k1] := e1
    injection e with e
    injection e with x1 x2 x3
    exact ⟨x1, x2, x3⟩
  obtain ⟨rfl, rfl, rfl⟩ : a2 = A2 ∧ l2 = n2 ∧ c2 = k2 := by
    have e : [Value.slice a2 l2 c2] = [Value.slice A2 n2 k2] := e2
    injection e with e
    injection e with x1 x2 x3
    exact ⟨x1, x2, x3⟩
  obtain ⟨E, hE⟩ := sents5 hL
  have h5 : ∀ i, i < 5 → i ∈ idx5 := by decide
  have es : Rows.fieldsGrowSpec.fn H ([.lit (.string s.data.toList), d1, d2] ++ []) = { results := [.lit (.bool true)], args := [.lit (.string s.data.toList), d1, d2] } := by simp [Rows.fieldsGrowSpec]
  refine (grow_any E s l1 c1 l2 c2 a1 a2 bs ms W (hE.errs h5) (hE.size (by decide)) hs hn1 hn2 hc1 hm1 hr1 hr2 (by omega)).mono fun e W' ⟨he, hb⟩ => ?_
  subst he
  have q1 : ∀ x ∈ p1, x.block < W.heap.size := fun x hx => hlt0 x (by simp [hx])
  have q2 : ∀ x ∈ p2, x.block < W.heap.size := fun x hx => hlt0 x (by simp [hx])
  refine ⟨_, rfl, _, _, _, [], [] ++ (p1 ++ p2), [], hW', ?_, ?_, ?_, hb.frame _, fun h => by cases h⟩
  · rw [es]; exact trodAll_mk1 (shut_bool Tryd.underlying4 true)
  · rw [es]; exact trodAll_mk3 (shut_string Tryd.underlying9 hs) (Below.trod laidOut read24 row24 ⟨f1, hf1⟩ hb q1) (Below.trod laidOut read24 row24 ⟨f2, hf2⟩ hb q2)
  · rw [es]; rfl

set_option maxRecDepth 100000 in
theorem grow_lifted (os : Os) (started : os.Started) (H : Type) (enc : TypeId × Value → H) (F : Stop.Interp) :
    ReturnsInHanded {} Tryd.checked os 10 .any ((Rows.OpenSpec.upto Rows.fieldsGrowSpec).preRow enc Tryd.prog Tryd.f10 Rows.fieldsGrowUptoRow.domain false Rows.fieldsGrowUptoRow.laid) (((Rows.OpenSpec.upto Rows.fieldsGrowSpec).at F).post enc Tryd.prog Tryd.f10 false true false false) := by
  refine returnsInHanded_of_row (C := Tryd.checked) (s := Rows.OpenSpec.upto Rows.fieldsGrowSpec) own started (by kernel_rfl) Tryd.func10
    (witness_row_atRef (enc := enc) (C := Tryd.checked) false (World.doorLaid Tryd.prog 400 os) #[.string ⟨#[]⟩, .slice none 0 0, .slice none 0 0] rfl (by kernel_rfl) (by kernel_rfl) (by kernel_rfl)
      (OpenSpec.preRow_of_cond 8 (x := ([.lit (.string []), .nil, .nil], [], [])) (by kernel_rfl) (by kernel_rfl) (fun k hk => by cases hk; kernel_rfl) (by kernel_rfl) (door_met5 os _))) ?_
  intro W base args ds gs before hval hW _ hcond _ hL _ _
  exact grow_contract H enc W base args ds gs before hval hW hL (hcond _ rfl)

theorem grow_row : Rows.FieldsGrowUptoSaid :=
  OpenClaim.holds_of_cond 10 Tryd.f10 rfl rfl rfl rfl rfl rfl rfl ⟨rfl, rfl, rfl, rfl, rfl⟩ rfl rfl rfl rfl rfl (by kernel_rfl) Tryd.func10 (by kernel_rfl)
    (of_decide_eq_true (by kernel_rfl)) (by unfold Func.isWrapper; rw [if_neg (of_decide_eq_false (by kernel_rfl))]; exact ⟨rfl, rfl⟩)
    (fun os started H enc _ F => by rw [OpenClaim.pre_eq_preRow]; exact grow_lifted os started H enc F)

theorem grow_holds : Rows.FieldsGrowUptoCardSaid :=
  Claim7.holds_tied_plain_at .later [] _ _ _ _ grow_row (fun _ h => by cases h) (by kernel_rfl) (fun _ h => by cases h) fieldsGrowUpto_row_tie rfl ⟨rfl, rfl⟩ (by kernel_rfl) rfl
    (fun f fn hf hfn => by
      obtain rfl : f = 10 := Option.some.inj ((show Tryd.prog.funcNamed "jackfield/jackfieldlaw01.FieldsGrow" = some 10 by kernel_rfl).symm.trans hf) |>.symm
      obtain rfl : fn = Tryd.f10 := (Option.some.inj (Tryd.func10.symm.trans hfn)).symm
      exact ⟨by kernel_rfl, fun j t ht => by
        rw [Tryd.params10] at ht
        have hm : t ∈ [9, 24, 24] := by simpa using Array.mem_of_getElem? ht
        have hall : ([9, 24, 24].all fun u => !Tryd.prog.wantsStandIn u) = true := by kernel_rfl
        exact (show Tryd.prog.wantsStandIn t = false by simpa using List.all_eq_true.1 hall t hm)⟩)
    (by kernel_rfl)
#print axioms grow_holds
end Go.Proofs.YtcphfgiegpnpeaaDoor

/- For every input, jackfieldlaw08.LabelWild returns true and leaves its arguments as they were: the row and its tied card. Conditions: the listed variables start as the program's text lays them. -/
import Derived.Test.YtooplfpffmnkfaaDoorWildw
import Derived.Test.YtooplfpffmnkfaaDoorArgs
import Derived.Test.YtooplfpffmnkfaaDoorCards
import Derived.Test.YtooplfpffmnkfaaDoorTie
import Derived.SizedLaws
namespace Go.Proofs.YtooplfpffmnkfaaDoor
open Go.ChangeShapes Go.WideShapes Go.ChangeAt Go.WideMaps Go.WideElems Go.RowKit
open Go.ChangeMaps (open_string shut_string)

set_option maxRecDepth 100000 in
theorem wildw_contract (H : Type) (enc : TypeId × Value → H) (W : World) (base : Nat) (args : Array Value) (ds gs : List (DataW H)) (before : List MemPlace)
    (hval : ∀ (j : Nat) t v, Tryd.f7.params[j]? = some t → args[j]? = some v → Value.okWide Tryd.prog W .any base t v)
    (hW : DataW.Whole enc Tryd.prog Tryd.f7.params.toList Rows.labelWildSpec.vars false W args.toList ds gs before) (hL : laidMetH Tryd.prog laid3 W) (hsh : W.ShapedOpen Tryd.prog)
    (hsz0 : (DataW.weightsEach Tryd.prog (Tryd.f7.params.toList ++ Rows.labelWildSpec.plain.varTypes Tryd.prog) (ds ++ gs)).all (· ≤ reachBytes) = true) :
    Calls Tryd.prog 7 args W fun e W' => ∃ v, e = .returned v ∧ Rows.labelWildSpec.post enc Tryd.prog Tryd.f7 false true false false W args v W' := by
  have hW' := hW
  have hlt0 : ∀ x ∈ before, x.block < W.heap.size := fun x hx => hW.lt x hx
  obtain ⟨p, q, hA0, hV, rfl, hfz, hnd⟩ := hW
  have hA : DataW.TrodAll enc Tryd.prog W 0 (fun _ => true) true Tryd.f7.params.toList args.toList ds p := hA0
  rw [Tryd.params7] at hA hval
  have hsz := hsz0
  rw [Tryd.params7] at hsz
  obtain ⟨v0, v1, d0, d1, p0, p1, hargs, rfl, rfl, h0, h1⟩ := trodAll_two hA
  obtain rfl : args = #[v0, v1] := by cases args; simp_all
  obtain ⟨rfl, rfl⟩ := trodVars_none hV
  obtain ⟨s0, rfl, rfl, rfl, hs0⟩ := open_string Tryd.underlying9 (hval 0 9 v0 rfl rfl) h0
  obtain ⟨a1, l1, c1, rfl⟩ := okWide_slice Tryd.underlying28 (hval 1 28 v1 rfl rfl)
  obtain ⟨f1, hf1⟩ := h1
  obtain ⟨A1, n1, k1, b1, e1, hn1, hc1, hm1, hr1⟩ := open_texts hf1
  obtain ⟨rfl, rfl, rfl⟩ : a1 = A1 ∧ l1 = n1 ∧ c1 = k1 := by
    have e : [Value.slice a1 l1 c1] = [Value.slice A1 n1 k1] := e1
    injection e with e
    injection e with x1 x2 x3
    exact ⟨x1, x2, x3⟩
  obtain ⟨a, m, hE⟩ := env3 hL hsh
  subst hn1
  have es : Rows.labelWildSpec.fn H ([.lit (.string s0.data.toList), d1] ++ []) = { results := [.lit (.bool true)], args := [.lit (.string s0.data.toList), d1] } := by simp [Rows.labelWildSpec]
  refine (lawWild_any s0 a1 c1 b1 a m W hE hs0 hr1 hc1 hm1).mono fun e W' ⟨he, hb⟩ => ?_
  subst he
  have q1 : ∀ x ∈ p1, x.block < W.heap.size := fun x hx => hlt0 x (by simp [hx])
  refine ⟨_, rfl, _, _, _, [], [] ++ p1, [], hW', ?_, ?_, ?_, hb.frame _, fun h => by cases h⟩
  · rw [es]; exact trodAll_mk1 (shut_bool Tryd.underlying4 true)
  · rw [es]; exact trodAll_mk2 (shut_string Tryd.underlying9 hs0) (Below.trod laidOut readTexts rowTexts ⟨f1, hf1⟩ hb q1)
  · rw [es]; rfl

set_option maxRecDepth 100000 in
theorem wildw_lifted (os : Os) (started : os.Started) (H : Type) (enc : TypeId × Value → H) (F : Stop.Interp) :
    ReturnsInHanded {} Tryd.checked os 7 .any ((OpenSpec.ofChange Rows.labelWildSpec).preRow enc Tryd.prog Tryd.f7 Rows.labelWildRow.domain false Rows.labelWildRow.laid) (((OpenSpec.ofChange Rows.labelWildSpec).at F).post enc Tryd.prog Tryd.f7 false true false false) := by
  refine returnsInHanded_of_row (C := Tryd.checked) (s := (OpenSpec.ofChange Rows.labelWildSpec)) own started (by kernel_rfl) Tryd.func7
    (witness3 (enc := enc) #[.string ⟨#[]⟩, .slice none 0 0] (World.shaped_of_ZipB (by kernel_rfl) (by kernel_rfl)) (by kernel_rfl)
      (OpenSpec.preRow_of_cond 8 (x := ([.lit (.string []), .nil], [], [])) (by kernel_rfl) (by kernel_rfl) (fun k hk => by cases hk) (by kernel_rfl) (door_met3 os _))) ?_
  intro W base args ds gs before hval hW _ hcond hsz hL hsh _
  exact wildw_contract H enc W base args ds gs before hval hW hL hsh hsz

theorem wildw_row : Rows.LabelWildSaid :=
  OpenClaim.holds_of_cond 7 Tryd.f7 rfl rfl rfl rfl rfl rfl rfl ⟨rfl, rfl, rfl, rfl, rfl⟩ rfl rfl rfl rfl rfl (by kernel_rfl) Tryd.func7 (by kernel_rfl)
    (of_decide_eq_true (by kernel_rfl)) (by unfold Func.isWrapper; rw [if_neg (of_decide_eq_false (by kernel_rfl))]; exact ⟨rfl, rfl⟩)
    (fun os started H enc _ F => by rw [OpenClaim.pre_eq_preRow]; exact wildw_lifted os started H enc F)

theorem wildw_holds : Rows.LabelWildCardSaid :=
  Claim7.holds_tied_plain_at .later [] _ _ _ _ wildw_row (fun _ h => by cases h) (by kernel_rfl) (fun _ h => by cases h) labelWild_row_tie rfl ⟨rfl, rfl⟩ (by kernel_rfl) rfl
    (fun f fn hf hfn => by
      obtain rfl : f = 7 := Option.some.inj ((show Tryd.prog.funcNamed "jackfield/jackfieldlaw08.LabelWild" = some 7 by kernel_rfl).symm.trans hf) |>.symm
      obtain rfl : fn = Tryd.f7 := (Option.some.inj (Tryd.func7.symm.trans hfn)).symm
      exact ⟨by kernel_rfl, fun j t ht => by
        rw [Tryd.params7] at ht
        have hm : t ∈ [9, 28] := by simpa using Array.mem_of_getElem? ht
        have hall : ([9, 28].all fun u => !Tryd.prog.wantsStandIn u) = true := by kernel_rfl
        exact (show Tryd.prog.wantsStandIn t = false by simpa using List.all_eq_true.1 hall t hm)⟩)
    (by kernel_rfl)
#print axioms wildw_holds
end Go.Proofs.YtooplfpffmnkfaaDoor

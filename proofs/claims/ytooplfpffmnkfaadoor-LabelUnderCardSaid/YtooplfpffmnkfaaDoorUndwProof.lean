/- For every input, jackfieldlaw08.LabelUnder returns true and leaves its arguments as they were: the row and its tied card. Conditions: the listed variables start as the program's text lays them. -/
import Derived.Test.YtooplfpffmnkfaaDoorUndw
import Derived.Test.YtooplfpffmnkfaaDoorArgs
import Derived.Test.YtooplfpffmnkfaaDoorCards
import Derived.Test.YtooplfpffmnkfaaDoorTie
import Derived.SizedLaws
namespace Go.Proofs.YtooplfpffmnkfaaDoor
open Go.ChangeShapes Go.WideShapes Go.ChangeAt Go.WideMaps Go.WideElems Go.RowKit
open Go.ChangeMaps (open_string shut_string)

set_option maxRecDepth 100000 in
theorem undw_contract (H : Type) (enc : TypeId × Value → H) (W : World) (base : Nat) (args : Array Value) (ds gs : List (DataW H)) (before : List MemPlace)
    (hval : ∀ (j : Nat) t v, Tryd.f6.params[j]? = some t → args[j]? = some v → Value.okWide Tryd.prog W .any base t v)
    (hW : DataW.Whole enc Tryd.prog Tryd.f6.params.toList Rows.labelUnderSpec.vars false W args.toList ds gs before) (hL : laidMetH Tryd.prog laid3 W) (hsh : W.ShapedOpen Tryd.prog)
    (hsz0 : (DataW.weightsEach Tryd.prog (Tryd.f6.params.toList ++ Rows.labelUnderSpec.plain.varTypes Tryd.prog) (ds ++ gs)).all (· ≤ reachBytes) = true) :
    Calls Tryd.prog 6 args W fun e W' => ∃ v, e = .returned v ∧ Rows.labelUnderSpec.post enc Tryd.prog Tryd.f6 false true false false W args v W' := by
  have hW' := hW
  have hlt0 : ∀ x ∈ before, x.block < W.heap.size := fun x hx => hW.lt x hx
  obtain ⟨p, q, hA0, hV, rfl, hfz, hnd⟩ := hW
  have hA : DataW.TrodAll enc Tryd.prog W 0 (fun _ => true) true Tryd.f6.params.toList args.toList ds p := hA0
  rw [Tryd.params6] at hA hval
  have hsz := hsz0
  rw [Tryd.params6] at hsz
  obtain ⟨v0, v1, v2, d0, d1, d2, p0, p1, p2, hargs, rfl, rfl, h0, h1, h2⟩ := trodAll_three hA
  obtain rfl : args = #[v0, v1, v2] := by cases args; simp_all
  obtain ⟨rfl, rfl⟩ := trodVars_none hV
  obtain ⟨s0, rfl, rfl, rfl, hs0⟩ := open_string Tryd.underlying9 (hval 0 9 v0 rfl rfl) h0
  obtain ⟨s1, rfl, rfl, rfl, hs1⟩ := open_string Tryd.underlying9 (hval 1 9 v1 rfl rfl) h1
  obtain ⟨a2, l2, c2, rfl⟩ := okWide_slice Tryd.underlying28 (hval 2 28 v2 rfl rfl)
  obtain ⟨f2, hf2⟩ := h2
  obtain ⟨A2, n2, k2, b2, e2, hn2, hc2, hm2, hr2⟩ := open_texts hf2
  obtain ⟨rfl, rfl, rfl⟩ : a2 = A2 ∧ l2 = n2 ∧ c2 = k2 := by
    have e : [Value.slice a2 l2 c2] = [Value.slice A2 n2 k2] := e2
    injection e with e
    injection e with x1 x2 x3
    exact ⟨x1, x2, x3⟩
  obtain ⟨a, m, hE⟩ := env3 hL hsh
  subst hn2
  have es : Rows.labelUnderSpec.fn H ([.lit (.string s0.data.toList), .lit (.string s1.data.toList), d2] ++ []) = { results := [.lit (.bool true)], args := [.lit (.string s0.data.toList), .lit (.string s1.data.toList), d2] } := by simp [Rows.labelUnderSpec]
  refine (lawUnder_any s0 s1 a2 c2 b2 a m W hE hs0 hs1 hr2 hc2 hm2).mono fun e W' ⟨he, hb⟩ => ?_
  subst he
  have q2 : ∀ x ∈ p2, x.block < W.heap.size := fun x hx => hlt0 x (by simp [hx])
  refine ⟨_, rfl, _, _, _, [], [] ++ ([] ++ p2), [], hW', ?_, ?_, ?_, hb.frame _, fun h => by cases h⟩
  · rw [es]; exact trodAll_mk1 (shut_bool Tryd.underlying4 true)
  · rw [es]; exact trodAll_mk3 (shut_string Tryd.underlying9 hs0) (shut_string Tryd.underlying9 hs1) (Below.trod laidOut readTexts rowTexts ⟨f2, hf2⟩ hb q2)
  · rw [es]; rfl

set_option maxRecDepth 100000 in
theorem undw_lifted (os : Os) (started : os.Started) (H : Type) (enc : TypeId × Value → H) (F : Stop.Interp) :
    ReturnsInHanded {} Tryd.checked os 6 .any ((OpenSpec.ofChange Rows.labelUnderSpec).preRow enc Tryd.prog Tryd.f6 Rows.labelUnderRow.domain false Rows.labelUnderRow.laid) (((OpenSpec.ofChange Rows.labelUnderSpec).at F).post enc Tryd.prog Tryd.f6 false true false false) := by
  refine returnsInHanded_of_row (C := Tryd.checked) (s := (OpenSpec.ofChange Rows.labelUnderSpec)) own started (by kernel_rfl) Tryd.func6
    (witness3 (enc := enc) #[.string ⟨#[]⟩, .string ⟨#[]⟩, .slice none 0 0] (World.shaped_of_ZipB (by kernel_rfl) (by kernel_rfl)) (by kernel_rfl)
      (OpenSpec.preRow_of_cond 8 (x := ([.lit (.string []), .lit (.string []), .nil], [], [])) (by kernel_rfl) (by kernel_rfl) (fun k hk => by cases hk) (by kernel_rfl) (door_met3 os _))) ?_
  intro W base args ds gs before hval hW _ hcond hsz hL hsh _
  exact undw_contract H enc W base args ds gs before hval hW hL hsh hsz

theorem undw_row : Rows.LabelUnderSaid :=
  OpenClaim.holds_of_cond 6 Tryd.f6 rfl rfl rfl rfl rfl rfl rfl ⟨rfl, rfl, rfl, rfl, rfl⟩ rfl rfl rfl rfl rfl (by kernel_rfl) Tryd.func6 (by kernel_rfl)
    (of_decide_eq_true (by kernel_rfl)) (by unfold Func.isWrapper; rw [if_neg (of_decide_eq_false (by kernel_rfl))]; exact ⟨rfl, rfl⟩)
    (fun os started H enc _ F => by rw [OpenClaim.pre_eq_preRow]; exact undw_lifted os started H enc F)

theorem undw_holds : Rows.LabelUnderCardSaid :=
  Claim7.holds_tied_plain_at .later [] _ _ _ _ undw_row (fun _ h => by cases h) (by kernel_rfl) (fun _ h => by cases h) labelUnder_row_tie rfl ⟨rfl, rfl⟩ (by kernel_rfl) rfl
    (fun f fn hf hfn => by
      obtain rfl : f = 6 := Option.some.inj ((show Tryd.prog.funcNamed "jackfield/jackfieldlaw08.LabelUnder" = some 6 by kernel_rfl).symm.trans hf) |>.symm
      obtain rfl : fn = Tryd.f6 := (Option.some.inj (Tryd.func6.symm.trans hfn)).symm
      exact ⟨by kernel_rfl, fun j t ht => by
        rw [Tryd.params6] at ht
        have hm : t ∈ [9, 9, 28] := by simpa using Array.mem_of_getElem? ht
        have hall : ([9, 9, 28].all fun u => !Tryd.prog.wantsStandIn u) = true := by kernel_rfl
        exact (show Tryd.prog.wantsStandIn t = false by simpa using List.all_eq_true.1 hall t hm)⟩)
    (by kernel_rfl)
#print axioms undw_holds
end Go.Proofs.YtooplfpffmnkfaaDoor

/- For every input, jackfieldlaw06.ScanFeeds returns true and leaves its arguments as they were: the row and its tied card. Conditions: the listed variables start as the program's text lays them. -/
import Derived.Test.YtmhfhdbaeijcfaaDoorFdw
import Derived.Test.YtmhfhdbaeijcfaaDoorAgx
import Derived.Test.YtmhfhdbaeijcfaaDoorLap
import Derived.Test.YtmhfhdbaeijcfaaDoorArgs
import Derived.Test.YtmhfhdbaeijcfaaDoorCards
import Derived.Test.YtmhfhdbaeijcfaaDoorTie
import Derived.SizedLaws
import Derived.Deep.Fields
import Derived.Deep.Slices
namespace Go.Proofs.YtmhfhdbaeijcfaaDoor
open Go.ChangeShapes Go.WideShapes Go.ChangeAt Go.WideMaps Go.WideElems Go.RowKit
open Go.ChangeMaps (open_string shut_string)
open Go.Deep
open Go.Proofs.YtmhfhdbaeijcfaaDoor.H

set_option maxRecDepth 100000 in
theorem feeds_contract (H : Type) (enc : TypeId × Value → H) (W : World) (base : Nat) (args : Array Value) (ds gs : List (DataW H)) (before : List MemPlace)
    (hval : ∀ (j : Nat) t v, Tryd.f7.params[j]? = some t → args[j]? = some v → Value.okWide Tryd.prog W .any base t v)
    (hW : DataW.Whole enc Tryd.prog Tryd.f7.params.toList Rows.scanFeedsSpec.vars false W args.toList ds gs before) (hL : laidMetH Tryd.prog laidP W) :
    Calls Tryd.prog 7 args W fun e W' => ∃ v, e = .returned v ∧ Rows.scanFeedsSpec.post enc Tryd.prog Tryd.f7 false true false false W args v W' := by
  have hW' := hW
  have hlt0 : ∀ x ∈ before, x.block < W.heap.size := fun x hx => hW.lt x hx
  obtain ⟨p, q, hA0, hV, rfl, hfz, hnd⟩ := hW
  have hA : DataW.TrodAll enc Tryd.prog W 0 (fun _ => true) true Tryd.f7.params.toList args.toList ds p := hA0
  rw [Tryd.params7] at hA hval
  obtain ⟨v0, d0, rfl, rfl, h0⟩ := trodAll_one hA
  obtain ⟨rfl, rfl⟩ := trodVars_none hV
  obtain ⟨a0, l0, c0, rfl⟩ := okWide_slice Tryd.underlying58 (hval 0 58 v0 rfl rfl)
  obtain ⟨f0, hf0⟩ := h0
  obtain ⟨A0, n0, k0, b0, e0, hn0, hc0, hm0, hr0⟩ := open_parts hf0
  obtain ⟨rfl, rfl, rfl⟩ : a0 = A0 ∧ l0 = n0 ∧ c0 = k0 := by
    have e : [Value.slice a0 l0 c0] = [Value.slice A0 n0 k0] := e0
    injection e with e
    injection e with x1 x2 x3
    exact ⟨x1, x2, x3⟩
  obtain ⟨E, ad, hE, hE5, h18⟩ := env_p hL
  have es : Rows.scanFeedsSpec.fn H ([d0] ++ []) = { results := [.lit (.bool true)], args := [d0] } := by simp [Rows.scanFeedsSpec]
  refine (feeds_any l0 c0 a0 b0 E ad (ad 0) W hE hE5 h18 rfl hn0 hc0 hm0 hr0).mono fun e W' ⟨he, hb⟩ => ?_
  subst he
  have q0 : ∀ x ∈ p, x.block < W.heap.size := fun x hx => hlt0 x (by simp [hx])
  refine ⟨_, rfl, _, _, _, [], p, [], hW', ?_, ?_, ?_, hb.frame _, fun h => by cases h⟩
  · rw [es]; exact trodAll_mk1 (shut_bool Tryd.underlying4 true)
  · rw [es]; exact trodAll_mk1 (Below.trod laidOut read58 row58 ⟨f0, hf0⟩ hb q0)
  · rw [es]; rfl

set_option maxRecDepth 100000 in
theorem feeds_lifted (os : Os) (started : os.Started) (H : Type) (enc : TypeId × Value → H) :
    ReturnsInHanded {} Tryd.checked os 7 .any (fun w args => (Rows.scanFeedsSpec.pre enc Tryd.prog Tryd.f7 [] false w args ∧ laidMetH Tryd.prog laidP w) ∧ sizedMet enc Tryd.prog Tryd.f7 (OpenSpec.ofChange Rows.scanFeedsSpec) false w args)
      (Rows.scanFeedsSpec.post enc Tryd.prog Tryd.f7 false true false false) := by
  refine returnsInHanded_of_change_and (C := Tryd.checked) (X := fun w _ => laidMetH Tryd.prog laidP w) (fun _ _ _ hh h => h.of_heap hh) own started (by kernel_rfl) Tryd.func7
    (ChangeSpec.witness_shaped (enc := enc) (C := Tryd.checked) (os := os) (X := fun w _ => laidMetH Tryd.prog laidP w) false (World.doorLaid Tryd.prog 400 os) #[.slice none 0 0] 8 rfl (World.shaped_of_RefB (by kernel_rfl) (by kernel_rfl)) (by kernel_rfl) (by kernel_rfl) (by kernel_rfl) (door_metP os _)) ?_
  intro W base args ds gs before hval0 hW _ _ hL _
  exact feeds_contract H enc W base args ds gs before hval0 hW hL

theorem feeds_row : Rows.ScanFeedsSaid :=
  OpenClaim.holds_of_wide 7 Tryd.f7 rfl rfl rfl rfl rfl rfl rfl ⟨rfl, rfl, rfl, rfl, rfl⟩ rfl rfl rfl rfl rfl (by kernel_rfl) Tryd.func7 (by kernel_rfl)
    (of_decide_eq_true (by kernel_rfl)) (by unfold Func.isWrapper; rw [if_neg (of_decide_eq_false (by kernel_rfl))]; exact ⟨rfl, rfl⟩)
    (fun os started H enc _ => feeds_lifted os started H enc)

theorem feeds_holds : Rows.ScanFeedsCardSaid :=
  Claim7.holds_tied_plain_at .later [] _ _ _ _ feeds_row (fun _ h => by cases h) (by kernel_rfl) (fun _ h => by cases h) scanFeeds_row_tie rfl ⟨rfl, rfl⟩ (by kernel_rfl) rfl
    (fun f fn hf hfn => by
      obtain rfl : f = 7 := Option.some.inj ((show Tryd.prog.funcNamed "jackfield/jackfieldlaw06.ScanFeeds" = some 7 by kernel_rfl).symm.trans hf) |>.symm
      obtain rfl : fn = Tryd.f7 := (Option.some.inj (Tryd.func7.symm.trans hfn)).symm
      exact ⟨by kernel_rfl, fun j t ht => by
        rw [Tryd.params7] at ht
        have hm : t ∈ [58] := by simpa using Array.mem_of_getElem? ht
        have hall : ([58].all fun u => !Tryd.prog.wantsStandIn u) = true := by kernel_rfl
        exact (show Tryd.prog.wantsStandIn t = false by simpa using List.all_eq_true.1 hall t hm)⟩)
    (by kernel_rfl)
#print axioms feeds_holds
end Go.Proofs.YtmhfhdbaeijcfaaDoor

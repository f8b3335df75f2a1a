/- For every input, jackfieldlaw05.FramePuts returns true and leaves its arguments as they were: the row and its tied card. Conditions: the listed variables start as the program's text lays them. -/
import Derived.Test.YtmhfhdbaeijcfaaDoorPug
import Derived.Test.YtmhfhdbaeijcfaaDoorPux
import Derived.Test.YtmhfhdbaeijcfaaDoorArgs
import Derived.Test.YtmhfhdbaeijcfaaDoorCards
import Derived.Test.YtmhfhdbaeijcfaaDoorTie
import Derived.SizedLaws
import Derived.Deep.Fields
import Derived.Deep.Slices
namespace Go.Proofs.YtmhfhdbaeijcfaaDoor
open Go.ChangeShapes Go.WideShapes Go.ChangeAt Go.WideMaps Go.WideElems Go.RowKit
open Go.ChangeMaps (open_string shut_string)
open Go.Deep
open Go.Proofs.YtmhfhdbaeijcfaaDoor.H

theorem puts_any (f : Fr) (m : Nat) (v : Value) (E : Nat → Value) (ad : Nat → Addr) (a : Addr) (w : World) (hm : Hid (f.bs.length = m)) (hv : Hid (v = .agg (f.cells m).toArray)) (hE : Env w E 159 (.pointer (some a))) (hE5 : F.Errs w E) (h18 : Eighteen w ad) (ha : ad 0 = a) (hf : f.ok w w.heap.size) :
    Calls Tryd.prog 3 #[v] w fun e w' => e = .returned (.bool true) ∧ Below w.heap.size w w' := by
  have hk : f.kind < 7 ∨ (7 ≤ f.kind ∧ f.kind ≤ 17) ∨ 17 < f.kind := by omega
  cases hb : valid f with
  | true =>
    have hu := used_kind _ (valid_used hb)
    rcases hk with hk | hk | hk
    · exact puts_g0 f m v E ad a w hm hv hE hE5 h18 ha hf hb hk
    · exact puts_g1 f m v E ad a w hm hv hE hE5 h18 ha hf hb hk
    · omega
  | false =>
    by_cases hk7 : f.kind < 7
    · exact puts_b0 f m v E ad a w hm hv hE hE5 h18 ha hf hb hk7
    · exact puts_b1 (decide (f.kind ≤ 17)) f m v E ad a w hm hv hE hE5 h18 ha hf hb ⟨by omega, rfl⟩
/-- The listed variables: all of them. -/
def laidP : List (String × DataW Unit) := [("jackfield/hash.roundWords", Rows.laid_jackfield_hash_roundWords), ("jackfield/api.ErrRange", Rows.laid_jackfield_api_ErrRange), ("jackfield/api.ErrShort", Rows.laid_jackfield_api_ErrShort), ("jackfield/api.ErrLong", Rows.laid_jackfield_api_ErrLong), ("jackfield/api.ErrTail", Rows.laid_jackfield_api_ErrTail), ("jackfield/api.ErrBroken", Rows.laid_jackfield_api_ErrBroken), ("jackfield/api.ErrPower", Rows.laid_jackfield_api_ErrPower), ("jackfield/api.ErrFrame", Rows.laid_jackfield_api_ErrFrame), ("jackfield/api.ErrFull", Rows.laid_jackfield_api_ErrFull), ("jackfield/api.ErrGap", Rows.laid_jackfield_api_ErrGap), ("jackfield/api.ErrName", Rows.laid_jackfield_api_ErrName), ("jackfield/api.ErrTaken", Rows.laid_jackfield_api_ErrTaken), ("jackfield/api.ErrNone", Rows.laid_jackfield_api_ErrNone), ("jackfield/api.ErrOwner", Rows.laid_jackfield_api_ErrOwner), ("jackfield/api.ErrProof", Rows.laid_jackfield_api_ErrProof), ("jackfield/api.ErrWindow", Rows.laid_jackfield_api_ErrWindow), ("jackfield/api.ErrStream", Rows.laid_jackfield_api_ErrStream), ("jackfield/api.ErrState", Rows.laid_jackfield_api_ErrState), ("jackfield/api.ErrBusy", Rows.laid_jackfield_api_ErrBusy)]
theorem env_p {W : World} (h : laidMetH Tryd.prog laidP W) : ∃ (E : Nat → Value) (ad : Nat → Addr), Env W E 159 (.pointer (some (ad 0))) ∧ F.Errs W E ∧ Eighteen W ad := by
  rw [MakeChecks.laidMetH_plain _ _ _ (by kernel_rfl)] at h
  obtain ⟨hK, hl⟩ := laid_split h
  obtain ⟨E, hS⟩ := sents_of_laid _ order18 hl (by
    intro x hx
    simp at hx
    rcases hx with rfl | rfl | rfl | rfl | rfl | rfl | rfl | rfl | rfl | rfl | rfl | rfl | rfl | rfl | rfl | rfl | rfl | rfl <;> exact ⟨_, rfl⟩) (by kernel_rfl) (by
    intro g hg
    simp [order18] at hg
    rcases hg with rfl | rfl | rfl | rfl | rfl | rfl | rfl | rfl | rfl | rfl | rfl | rfl | rfl | rfl | rfl | rfl | rfl | rfl <;> kernel_rfl)
  refine ⟨_, fun g => adOf (E g), env_of hK hS (by decide) (by decide) (by decide) (by decide), ⟨fun i hi => ?_, fun i hi => ?_⟩, eighteen_of hS⟩
  · have hm : F.pos i ∈ order18 := by
      have : i = 0 ∨ i = 1 ∨ i = 2 ∨ i = 3 ∨ i = 4 := by omega
      rcases this with rfl | rfl | rfl | rfl | rfl <;> decide
    obtain ⟨_, _, _, _, hc, _⟩ := hS.at_ _ hm
    exact hc
  · have hm : F.pos i ∈ order18 := by
      have : i = 0 ∨ i = 1 ∨ i = 2 ∨ i = 3 ∨ i = 4 := by omega
      rcases this with rfl | rfl | rfl | rfl | rfl <;> decide
    exact ⟨_, _, hS.val hm⟩
theorem door_metP (os : Os) (args : Array Value) : laidMetH Tryd.prog laidP ((World.doorLaid Tryd.prog 400 os).forCall (fun _ _ => 0) ⟨#[], args, []⟩).memory :=
  laidMetH_of_parts3 (fuel := 8) (laidMet_of_run' 8 (by kernel_rfl) (by kernel_rfl)) (by kernel_rfl) (by kernel_rfl)

set_option maxRecDepth 100000 in
theorem puts_contract (H : Type) (enc : TypeId × Value → H) (W : World) (base : Nat) (args : Array Value) (ds gs : List (DataW H)) (before : List MemPlace)
    (hval : ∀ (j : Nat) t v, Tryd.f3.params[j]? = some t → args[j]? = some v → Value.okWide Tryd.prog W .any base t v)
    (hW : DataW.Whole enc Tryd.prog Tryd.f3.params.toList Rows.framePutsSpec.vars false W args.toList ds gs before) (hL : laidMetH Tryd.prog laidP W) :
    Calls Tryd.prog 3 args W fun e W' => ∃ v, e = .returned v ∧ Rows.framePutsSpec.post enc Tryd.prog Tryd.f3 false true false false W args v W' := by
  have hW' := hW
  have hlt0 : ∀ x ∈ before, x.block < W.heap.size := fun x hx => hW.lt x hx
  obtain ⟨p, q, hA0, hV, rfl, hfz, hnd⟩ := hW
  have hA : DataW.TrodAll enc Tryd.prog W 0 (fun _ => true) true Tryd.f3.params.toList args.toList ds p := hA0
  rw [Tryd.params3] at hA hval
  obtain ⟨v0, d0, rfl, rfl, h0⟩ := trodAll_one hA
  obtain ⟨rfl, rfl⟩ := trodVars_none hV
  obtain ⟨f, hx0, hf⟩ := open_frame (hval 0 25 v0 rfl rfl) h0
  obtain ⟨E, ad, hE, hE5, h18⟩ := env_p hL
  have es : Rows.framePutsSpec.fn H ([d0] ++ []) = { results := [.lit (.bool true)], args := [d0] } := by simp [Rows.framePutsSpec]
  refine (puts_any f f.bs.length v0 E ad (ad 0) W (Lib.hid rfl) (Lib.hid hx0) hE hE5 h18 rfl hf).mono fun e W' ⟨he, hb⟩ => ?_
  subst he
  have q0 : ∀ x ∈ p, x.block < W.heap.size := fun x hx => hlt0 x (by simp [hx])
  refine ⟨_, rfl, _, _, _, [], p, [], hW', ?_, ?_, ?_, hb.frame _, fun h => by cases h⟩
  · rw [es]; exact trodAll_mk1 (shut_bool Tryd.underlying4 true)
  · rw [es]; exact trodAll_mk1 (Below.trod laidOut read25 row25 h0 hb q0)
  · rw [es]; rfl

set_option maxRecDepth 100000 in
theorem puts_lifted (os : Os) (started : os.Started) (H : Type) (enc : TypeId × Value → H) :
    ReturnsInHanded {} Tryd.checked os 3 .any (fun w args => (Rows.framePutsSpec.pre enc Tryd.prog Tryd.f3 [] false w args ∧ laidMetH Tryd.prog laidP w) ∧ sizedMet enc Tryd.prog Tryd.f3 (OpenSpec.ofChange Rows.framePutsSpec) false w args)
      (Rows.framePutsSpec.post enc Tryd.prog Tryd.f3 false true false false) := by
  refine returnsInHanded_of_change_and (C := Tryd.checked) (X := fun w _ => laidMetH Tryd.prog laidP w) (fun _ _ _ hh h => h.of_heap hh) own started (by kernel_rfl) Tryd.func3
    (ChangeSpec.witness_shaped (enc := enc) (C := Tryd.checked) (os := os) (X := fun w _ => laidMetH Tryd.prog laidP w) false (World.doorLaid Tryd.prog 400 os) #[.agg #[.int .i64 0, .int .i64 0, .int .i64 0, .int .i64 0, .int .i64 0, .int .i64 0, .string ⟨#[]⟩, .string ⟨#[]⟩, .float .f64 0, .slice none 0 0]] 8 rfl (World.shaped_of_RefB (by kernel_rfl) (by kernel_rfl)) (by kernel_rfl) (by kernel_rfl) (by kernel_rfl) (door_metP os _)) ?_
  intro W base args ds gs before hval0 hW _ _ hL _
  exact puts_contract H enc W base args ds gs before hval0 hW hL

theorem puts_row : Rows.FramePutsSaid :=
  OpenClaim.holds_of_wide 3 Tryd.f3 rfl rfl rfl rfl rfl rfl rfl ⟨rfl, rfl, rfl, rfl, rfl⟩ rfl rfl rfl rfl rfl (by kernel_rfl) Tryd.func3 (by kernel_rfl)
    (of_decide_eq_true (by kernel_rfl)) (by unfold Func.isWrapper; rw [if_neg (of_decide_eq_false (by kernel_rfl))]; exact ⟨rfl, rfl⟩)
    (fun os started H enc _ => puts_lifted os started H enc)

theorem puts_holds : Rows.FramePutsCardSaid :=
  Claim7.holds_tied_plain_at .later [] _ _ _ _ puts_row (fun _ h => by cases h) (by kernel_rfl) (fun _ h => by cases h) framePuts_row_tie rfl ⟨rfl, rfl⟩ (by kernel_rfl) rfl
    (fun f fn hf hfn => by
      obtain rfl : f = 3 := Option.some.inj ((show Tryd.prog.funcNamed "jackfield/jackfieldlaw05.FramePuts" = some 3 by kernel_rfl).symm.trans hf) |>.symm
      obtain rfl : fn = Tryd.f3 := (Option.some.inj (Tryd.func3.symm.trans hfn)).symm
      exact ⟨by kernel_rfl, fun j t ht => by
        rw [Tryd.params3] at ht
        have hm : t ∈ [25] := by simpa using Array.mem_of_getElem? ht
        have hall : ([25].all fun u => !Tryd.prog.wantsStandIn u) = true := by kernel_rfl
        exact (show Tryd.prog.wantsStandIn t = false by simpa using List.all_eq_true.1 hall t hm)⟩)
    (by kernel_rfl)
#print axioms puts_holds
end Go.Proofs.YtmhfhdbaeijcfaaDoor

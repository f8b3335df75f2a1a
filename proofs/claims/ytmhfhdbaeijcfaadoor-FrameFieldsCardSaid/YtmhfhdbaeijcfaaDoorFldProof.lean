/- For every input, jackfieldlaw05.FrameFields returns true and leaves its arguments as they were: the row and its tied card. Conditions: the listed variables start as the program's text lays them. -/
import Derived.Test.YtmhfhdbaeijcfaaDoorFldw
import Derived.Test.YtmhfhdbaeijcfaaDoorArgs
import Derived.Test.YtmhfhdbaeijcfaaDoorCards
import Derived.Test.YtmhfhdbaeijcfaaDoorTie
import Derived.SizedLaws
import Derived.Deep.Fields
import Derived.Deep.Slices
namespace Go.Proofs.YtmhfhdbaeijcfaaDoor
open Go.ChangeShapes Go.WideShapes Go.ChangeAt Go.WideMaps Go.WideElems Go.RowKit
open Go.ChangeMaps (open_string shut_string)
open Go.Deep

theorem read56 : Tryd.prog.readableRec 56 = true := by kernel_rfl
theorem row56 : 56 < Tryd.prog.types.size := Nat.lt_trans (by decide) types_many
theorem cells56 : Tryd.prog.cellsOf 56 = 13 := by kernel_rfl
theorem list13 {α : Type} {l : List α} (h : l.length = 13) : ∃ c0 c1 c2 c3 c4 c5 c6 c7 c8 c9 c10 c11 c12, l = [c0, c1, c2, c3, c4, c5, c6, c7, c8, c9, c10, c11, c12] := by
  match l, h with
  | [c0, c1, c2, c3, c4, c5, c6, c7, c8, c9, c10, c11, c12], _ => exact ⟨c0, c1, c2, c3, c4, c5, c6, c7, c8, c9, c10, c11, c12, rfl⟩
set_option maxRecDepth 100000 in
theorem open_field {H : Type} {enc : TypeId × Value → H} {W : World} {r : Reach} {b0 base : Nat} {sp : Nat → Bool} {held : Bool} {v : Value} {d : DataW H} {p : List MemPlace} (hv : Value.okWide Tryd.prog W r b0 56 v) (h : DataW.Trod enc Tryd.prog W base sp held 56 v d p) :
    ∃ (f : Fr) (wh z : Int) (s : ByteArray), v = .agg (cells13 f f.bs.length wh z s).toArray ∧ f.ok W W.heap.size ∧ i64ok z ∧ s.size ≤ 9223372036854775807 := by
  obtain ⟨cs, rfl, hsz⟩ := okWide_struct Tryd.underlying56 hv
  obtain ⟨fuel, hf⟩ := h
  have hl : cs.toList.length = 13 := by simpa using hsz.trans cells56
  have hf2 : DataW.trod enc Tryd.prog W base sp held fuel 56 cs.toList = some (d, p) := by simpa [Value.cells] using hf
  obtain ⟨ys, m, _, _, _, _, hff⟩ := DataW.trod_struct Tryd.underlying56 hf2
  obtain ⟨c0, c1, c2, c3, c4, c5, c6, c7, c8, c9, c10, c11, c12, hc⟩ := list13 hl
  rw [hc] at hff
  have hy : ys.length = 4 := by assumption
  have h0 : DataW.trod enc Tryd.prog W base sp held m 25 (List.take (Tryd.prog.cellsOf 25) [c0, c1, c2, c3, c4, c5, c6, c7, c8, c9, c10, c11, c12]) = ys[0]? := hff 0 _ rfl
  have h1 : DataW.trod enc Tryd.prog W base sp held m 3 (List.take (Tryd.prog.cellsOf 3) [c10, c11, c12]) = ys[1]? := hff 1 _ rfl
  have h2 : DataW.trod enc Tryd.prog W base sp held m 3 (List.take (Tryd.prog.cellsOf 3) [c11, c12]) = ys[2]? := hff 2 _ rfl
  have h3 : DataW.trod enc Tryd.prog W base sp held m 9 (List.take (Tryd.prog.cellsOf 9) [c12]) = ys[3]? := hff 3 _ rfl
  rw [cells25] at h0
  rw [cells3] at h1 h2
  rw [cells9] at h3
  obtain ⟨f, hfc, hfo⟩ := frame_of (cs := [c0, c1, c2, c3, c4, c5, c6, c7, c8, c9]) rfl (h0.trans (List.getElem?_eq_getElem (by omega)))
  obtain ⟨wh, rfl, _⟩ := trod_i64 (h1.trans (List.getElem?_eq_getElem (by omega)))
  obtain ⟨z, rfl, hz⟩ := trod_i64 (h2.trans (List.getElem?_eq_getElem (by omega)))
  obtain ⟨s, rfl, hs⟩ := trod_str (h3.trans (List.getElem?_eq_getElem (by omega)))
  refine ⟨f, wh, z, s, ?_, hfo, hz, hs⟩
  have e : cs = (cells13 f f.bs.length wh z s).toArray := by
    apply Array.toList_inj.1
    rw [hc]
    show _ = cells13 f f.bs.length wh z s
    unfold cells13
    rw [← hfc]
    rfl
  rw [e]

set_option maxRecDepth 100000 in
theorem flds_contract (H : Type) (enc : TypeId × Value → H) (W : World) (base : Nat) (args : Array Value) (ds gs : List (DataW H)) (before : List MemPlace)
    (hval : ∀ (j : Nat) t v, Tryd.f6.params[j]? = some t → args[j]? = some v → Value.okWide Tryd.prog W .any base t v)
    (hW : DataW.Whole enc Tryd.prog Tryd.f6.params.toList Rows.frameFieldsSpec.vars false W args.toList ds gs before) (hL : laidMetH Tryd.prog laidR W)
    (hsz0 : (DataW.weightsEach Tryd.prog (Tryd.f6.params.toList ++ Rows.frameFieldsSpec.plain.varTypes Tryd.prog) (ds ++ gs)).all (· ≤ reachBytes) = true) :
    Calls Tryd.prog 6 args W fun e W' => ∃ v, e = .returned v ∧ Rows.frameFieldsSpec.post enc Tryd.prog Tryd.f6 false true false false W args v W' := by
  have hW' := hW
  have hlt0 : ∀ x ∈ before, x.block < W.heap.size := fun x hx => hW.lt x hx
  obtain ⟨p, q, hA0, hV, rfl, hfz, hnd⟩ := hW
  have hA : DataW.TrodAll enc Tryd.prog W 0 (fun _ => true) true Tryd.f6.params.toList args.toList ds p := hA0
  rw [Tryd.params6] at hA hval
  have hsz := hsz0
  rw [Tryd.params6] at hsz
  obtain ⟨v0, d0, rfl, rfl, h0⟩ := trodAll_one hA
  obtain ⟨rfl, rfl⟩ := trodVars_none hV
  obtain ⟨x0, wh, z, s, hx0, ho0, hz, hs⟩ := open_field (hval 0 56 v0 rfl rfl) h0
  obtain ⟨E, a, hE⟩ := env_r hL
  have es : Rows.frameFieldsSpec.fn H ([d0] ++ []) = { results := [.lit (.bool true)], args := [d0] } := by simp [Rows.frameFieldsSpec]
  refine (fields_any x0 x0.bs.length wh z s v0 E a W (Lib.hid rfl) (Lib.hid hx0) hE ho0 hz hs).mono fun e W' ⟨he, hb⟩ => ?_
  subst he
  have q0 : ∀ x ∈ p, x.block < W.heap.size := fun x hx => hlt0 x (by simp [hx])
  refine ⟨_, rfl, _, _, _, [], p, [], hW', ?_, ?_, ?_, hb.frame _, fun h => by cases h⟩
  · rw [es]; exact trodAll_mk1 (shut_bool Tryd.underlying4 true)
  · rw [es]; exact trodAll_mk1 (Below.trod laidOut read56 row56 h0 hb q0)
  · rw [es]; rfl

set_option maxRecDepth 100000 in
theorem flds_lifted (os : Os) (started : os.Started) (H : Type) (enc : TypeId × Value → H) :
    ReturnsInHanded {} Tryd.checked os 6 .any (fun w args => (Rows.frameFieldsSpec.pre enc Tryd.prog Tryd.f6 [] false w args ∧ laidMetH Tryd.prog laidR w) ∧ sizedMet enc Tryd.prog Tryd.f6 (OpenSpec.ofChange Rows.frameFieldsSpec) false w args)
      (Rows.frameFieldsSpec.post enc Tryd.prog Tryd.f6 false true false false) := by
  refine returnsInHanded_of_change_and (C := Tryd.checked) (X := fun w _ => laidMetH Tryd.prog laidR w) (fun _ _ _ hh h => h.of_heap hh) own started (by kernel_rfl) Tryd.func6
    (ChangeSpec.witness_shaped (enc := enc) (C := Tryd.checked) (os := os) (X := fun w _ => laidMetH Tryd.prog laidR w) false (World.doorLaid Tryd.prog 400 os) #[.agg #[.int .i64 0, .int .i64 0, .int .i64 0, .int .i64 0, .int .i64 0, .int .i64 0, .string ⟨#[]⟩, .string ⟨#[]⟩, .float .f64 0, .slice none 0 0, .int .i64 0, .int .i64 0, .string ⟨#[]⟩]] 6 rfl (World.shaped_of_RefB (by kernel_rfl) (by kernel_rfl)) (by kernel_rfl) (by kernel_rfl) (by kernel_rfl) (door_metR os _)) ?_
  intro W base args ds gs before hval0 hW _ hsz0 hL _
  exact flds_contract H enc W base args ds gs before hval0 hW hL hsz0

theorem flds_row : Rows.FrameFieldsSaid :=
  OpenClaim.holds_of_wide 6 Tryd.f6 rfl rfl rfl rfl rfl rfl rfl ⟨rfl, rfl, rfl, rfl, rfl⟩ rfl rfl rfl rfl rfl (by kernel_rfl) Tryd.func6 (by kernel_rfl)
    (of_decide_eq_true (by kernel_rfl)) (by unfold Func.isWrapper; rw [if_neg (of_decide_eq_false (by kernel_rfl))]; exact ⟨rfl, rfl⟩)
    (fun os started H enc _ => flds_lifted os started H enc)

theorem flds_holds : Rows.FrameFieldsCardSaid :=
  Claim7.holds_tied_plain_at .later [] _ _ _ _ flds_row (fun _ h => by cases h) (by kernel_rfl) (fun _ h => by cases h) frameFields_row_tie rfl ⟨rfl, rfl⟩ (by kernel_rfl) rfl
    (fun f fn hf hfn => by
      obtain rfl : f = 6 := Option.some.inj ((show Tryd.prog.funcNamed "jackfield/jackfieldlaw05.FrameFields" = some 6 by kernel_rfl).symm.trans hf) |>.symm
      obtain rfl : fn = Tryd.f6 := (Option.some.inj (Tryd.func6.symm.trans hfn)).symm
      exact ⟨by kernel_rfl, fun j t ht => by
        rw [Tryd.params6] at ht
        have hm : t ∈ [56] := by simpa using Array.mem_of_getElem? ht
        have hall : ([56].all fun u => !Tryd.prog.wantsStandIn u) = true := by kernel_rfl
        exact (show Tryd.prog.wantsStandIn t = false by simpa using List.all_eq_true.1 hall t hm)⟩)
    (by kernel_rfl)
#print axioms flds_holds
end Go.Proofs.YtmhfhdbaeijcfaaDoor

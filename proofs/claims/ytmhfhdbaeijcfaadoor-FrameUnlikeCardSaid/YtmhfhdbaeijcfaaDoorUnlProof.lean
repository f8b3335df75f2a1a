/- For every input, jackfieldlaw05.FrameUnlike returns true and leaves its arguments as they were: the row and its tied card. Conditions: the listed variables start as the program's text lays them. -/
import Derived.Test.YtmhfhdbaeijcfaaDoorUnw
import Derived.Test.YtmhfhdbaeijcfaaDoorArgs
import Derived.Test.YtmhfhdbaeijcfaaDoorCards
import Derived.Test.YtmhfhdbaeijcfaaDoorTie
import Derived.SizedLaws
import Derived.Deep.Fields
import Derived.Deep.Slices
namespace Go.Proofs.YtmhfhdbaeijcfaaDoor
open Go.ChangeShapes Go.WideShapes Go.ChangeAt Go.WideMaps Go.WideElems Go.RowKit
open Go.ChangeMaps (open_string shut_string)
open Go.Deep
open Go.Proofs.YtmhfhdbaeijcfaaDoor.H

theorem read52 : Tryd.prog.readableRec 52 = true := by kernel_rfl
theorem row52 : 52 < Tryd.prog.types.size := Nat.lt_trans (by decide) types_many
theorem cells52 : Tryd.prog.cellsOf 52 = 22 := by kernel_rfl
theorem list22 {α : Type} {l : List α} (h : l.length = 22) : ∃ c0 c1 c2 c3 c4 c5 c6 c7 c8 c9 c10 c11 c12 c13 c14 c15 c16 c17 c18 c19 c20 c21, l = [c0, c1, c2, c3, c4, c5, c6, c7, c8, c9, c10, c11, c12, c13, c14, c15, c16, c17, c18, c19, c20, c21] := by
  match l, h with
  | [c0, c1, c2, c3, c4, c5, c6, c7, c8, c9, c10, c11, c12, c13, c14, c15, c16, c17, c18, c19, c20, c21], _ => exact ⟨c0, c1, c2, c3, c4, c5, c6, c7, c8, c9, c10, c11, c12, c13, c14, c15, c16, c17, c18, c19, c20, c21, rfl⟩
theorem trod_byte {H : Type} {enc : TypeId × Value → H} {W : World} {base : Nat} {sp : Nat → Bool} {held : Bool} {fuel : Nat} {c : Value} {x : DataW H × List MemPlace} (h : DataW.trod enc Tryd.prog W base sp held fuel 5 [c] = some x) : ∃ y : UInt8, c = bv y := by
  obtain ⟨k, e, _, wk⟩ := DataW.trod_int Tryd.underlying5 h
  injection e with e
  have bd := bounds_u8 wk
  refine ⟨UInt8.ofNat k.toNat, ?_⟩
  rw [e]
  unfold bv
  congr 1
  rw [UInt8.toNat_ofNat', Nat.mod_eq_of_lt (by omega)]
  omega
set_option maxRecDepth 100000 in
theorem open_two {H : Type} {enc : TypeId × Value → H} {W : World} {r : Reach} {b0 base : Nat} {sp : Nat → Bool} {held : Bool} {v : Value} {d : DataW H} {p : List MemPlace} (hv : Value.okWide Tryd.prog W r b0 52 v) (h : DataW.Trod enc Tryd.prog W base sp held 52 v d p) :
    ∃ (f g : Fr) (z : Int) (y : UInt8), v = .agg (cells22x f f.bs.length g g.bs.length z y).toArray ∧ f.ok W W.heap.size ∧ g.ok W W.heap.size := by
  obtain ⟨cs, rfl, hsz⟩ := okWide_struct Tryd.underlying52 hv
  obtain ⟨fuel, hf⟩ := h
  have hl : cs.toList.length = 22 := by simpa using hsz.trans cells52
  have hf2 : DataW.trod enc Tryd.prog W base sp held fuel 52 cs.toList = some (d, p) := by simpa [Value.cells] using hf
  obtain ⟨ys, m, _, _, _, _, hff⟩ := DataW.trod_struct Tryd.underlying52 hf2
  obtain ⟨c0, c1, c2, c3, c4, c5, c6, c7, c8, c9, c10, c11, c12, c13, c14, c15, c16, c17, c18, c19, c20, c21, hc⟩ := list22 hl
  rw [hc] at hff
  have hy : ys.length = 4 := by assumption
  have h0 : DataW.trod enc Tryd.prog W base sp held m 25 (List.take (Tryd.prog.cellsOf 25) [c0, c1, c2, c3, c4, c5, c6, c7, c8, c9, c10, c11, c12, c13, c14, c15, c16, c17, c18, c19, c20, c21]) = ys[0]? := hff 0 _ rfl
  have h1 : DataW.trod enc Tryd.prog W base sp held m 25 (List.take (Tryd.prog.cellsOf 25) [c10, c11, c12, c13, c14, c15, c16, c17, c18, c19, c20, c21]) = ys[1]? := hff 1 _ rfl
  have h2 : DataW.trod enc Tryd.prog W base sp held m 3 (List.take (Tryd.prog.cellsOf 3) [c20, c21]) = ys[2]? := hff 2 _ rfl
  have h3 : DataW.trod enc Tryd.prog W base sp held m 5 (List.take (Tryd.prog.cellsOf 5) [c21]) = ys[3]? := hff 3 _ rfl
  rw [cells25] at h0 h1
  rw [cells3] at h2
  rw [cells5] at h3
  obtain ⟨f, hfc, hfo⟩ := frame_of (cs := [c0, c1, c2, c3, c4, c5, c6, c7, c8, c9]) rfl (h0.trans (List.getElem?_eq_getElem (by omega)))
  obtain ⟨g, hgc, hgo⟩ := frame_of (cs := [c10, c11, c12, c13, c14, c15, c16, c17, c18, c19]) rfl (h1.trans (List.getElem?_eq_getElem (by omega)))
  obtain ⟨z, rfl, _⟩ := trod_i64 (h2.trans (List.getElem?_eq_getElem (by omega)))
  obtain ⟨y, rfl⟩ := trod_byte (h3.trans (List.getElem?_eq_getElem (by omega)))
  refine ⟨f, g, z, y, ?_, hfo, hgo⟩
  have e : cs = (cells22x f f.bs.length g g.bs.length z y).toArray := by
    apply Array.toList_inj.1
    rw [hc]
    show _ = cells22x f f.bs.length g g.bs.length z y
    unfold cells22x
    rw [← hfc, ← hgc]
    rfl
  rw [e]

set_option maxRecDepth 100000 in
theorem unli_contract (H : Type) (enc : TypeId × Value → H) (W : World) (base : Nat) (args : Array Value) (ds gs : List (DataW H)) (before : List MemPlace)
    (hval : ∀ (j : Nat) t v, Tryd.f5.params[j]? = some t → args[j]? = some v → Value.okWide Tryd.prog W .any base t v)
    (hW : DataW.Whole enc Tryd.prog Tryd.f5.params.toList Rows.frameUnlikeSpec.vars false W args.toList ds gs before) (hL : laidMetH Tryd.prog laidS W)
    (hsz0 : (DataW.weightsEach Tryd.prog (Tryd.f5.params.toList ++ Rows.frameUnlikeSpec.plain.varTypes Tryd.prog) (ds ++ gs)).all (· ≤ reachBytes) = true) :
    Calls Tryd.prog 5 args W fun e W' => ∃ v, e = .returned v ∧ Rows.frameUnlikeSpec.post enc Tryd.prog Tryd.f5 false true false false W args v W' := by
  have hW' := hW
  have hlt0 : ∀ x ∈ before, x.block < W.heap.size := fun x hx => hW.lt x hx
  obtain ⟨p, q, hA0, hV, rfl, hfz, hnd⟩ := hW
  have hA : DataW.TrodAll enc Tryd.prog W 0 (fun _ => true) true Tryd.f5.params.toList args.toList ds p := hA0
  rw [Tryd.params5] at hA hval
  have hsz := hsz0
  rw [Tryd.params5] at hsz
  obtain ⟨v0, d0, rfl, rfl, h0⟩ := trodAll_one hA
  obtain ⟨rfl, rfl⟩ := trodVars_none hV
  obtain ⟨f, g, z, y, hx0, hf, hg⟩ := open_two (hval 0 52 v0 rfl rfl) h0
  obtain ⟨E, a, hE, hE5⟩ := env_s hL
  have es : Rows.frameUnlikeSpec.fn H ([d0] ++ []) = { results := [.lit (.bool true)], args := [d0] } := by simp [Rows.frameUnlikeSpec]
  refine (unlike_any f g f.bs.length g.bs.length z y v0 E a W (Lib.hid rfl) (Lib.hid rfl) (Lib.hid hx0) hE hE5 hf hg).mono fun e W' ⟨he, hb⟩ => ?_
  subst he
  have q0 : ∀ x ∈ p, x.block < W.heap.size := fun x hx => hlt0 x (by simp [hx])
  refine ⟨_, rfl, _, _, _, [], p, [], hW', ?_, ?_, ?_, hb.frame _, fun h => by cases h⟩
  · rw [es]; exact trodAll_mk1 (shut_bool Tryd.underlying4 true)
  · rw [es]; exact trodAll_mk1 (Below.trod laidOut read52 row52 h0 hb q0)
  · rw [es]; rfl

set_option maxRecDepth 100000 in
theorem unli_lifted (os : Os) (started : os.Started) (H : Type) (enc : TypeId × Value → H) :
    ReturnsInHanded {} Tryd.checked os 5 .any (fun w args => (Rows.frameUnlikeSpec.pre enc Tryd.prog Tryd.f5 [] false w args ∧ laidMetH Tryd.prog laidS w) ∧ sizedMet enc Tryd.prog Tryd.f5 (OpenSpec.ofChange Rows.frameUnlikeSpec) false w args)
      (Rows.frameUnlikeSpec.post enc Tryd.prog Tryd.f5 false true false false) := by
  refine returnsInHanded_of_change_and (C := Tryd.checked) (X := fun w _ => laidMetH Tryd.prog laidS w) (fun _ _ _ hh h => h.of_heap hh) own started (by kernel_rfl) Tryd.func5
    (ChangeSpec.witness_shaped (enc := enc) (C := Tryd.checked) (os := os) (X := fun w _ => laidMetH Tryd.prog laidS w) false (World.doorLaid Tryd.prog 400 os) #[.agg #[.int .i64 0, .int .i64 0, .int .i64 0, .int .i64 0, .int .i64 0, .int .i64 0, .string ⟨#[]⟩, .string ⟨#[]⟩, .float .f64 0, .slice none 0 0, .int .i64 0, .int .i64 0, .int .i64 0, .int .i64 0, .int .i64 0, .int .i64 0, .string ⟨#[]⟩, .string ⟨#[]⟩, .float .f64 0, .slice none 0 0, .int .i64 0, .int .u8 0]] 8 rfl (World.shaped_of_RefB (by kernel_rfl) (by kernel_rfl)) (by kernel_rfl) (by kernel_rfl) (by kernel_rfl) (door_metS os _)) ?_
  intro W base args ds gs before hval0 hW _ hsz0 hL _
  exact unli_contract H enc W base args ds gs before hval0 hW hL hsz0

theorem unli_row : Rows.FrameUnlikeSaid :=
  OpenClaim.holds_of_wide 5 Tryd.f5 rfl rfl rfl rfl rfl rfl rfl ⟨rfl, rfl, rfl, rfl, rfl⟩ rfl rfl rfl rfl rfl (by kernel_rfl) Tryd.func5 (by kernel_rfl)
    (of_decide_eq_true (by kernel_rfl)) (by unfold Func.isWrapper; rw [if_neg (of_decide_eq_false (by kernel_rfl))]; exact ⟨rfl, rfl⟩)
    (fun os started H enc _ => unli_lifted os started H enc)

theorem unli_holds : Rows.FrameUnlikeCardSaid :=
  Claim7.holds_tied_plain_at .later [] _ _ _ _ unli_row (fun _ h => by cases h) (by kernel_rfl) (fun _ h => by cases h) frameUnlike_row_tie rfl ⟨rfl, rfl⟩ (by kernel_rfl) rfl
    (fun f fn hf hfn => by
      obtain rfl : f = 5 := Option.some.inj ((show Tryd.prog.funcNamed "jackfield/jackfieldlaw05.FrameUnlike" = some 5 by kernel_rfl).symm.trans hf) |>.symm
      obtain rfl : fn = Tryd.f5 := (Option.some.inj (Tryd.func5.symm.trans hfn)).symm
      exact ⟨by kernel_rfl, fun j t ht => by
        rw [Tryd.params5] at ht
        have hm : t ∈ [52] := by simpa using Array.mem_of_getElem? ht
        have hall : ([52].all fun u => !Tryd.prog.wantsStandIn u) = true := by kernel_rfl
        exact (show Tryd.prog.wantsStandIn t = false by simpa using List.all_eq_true.1 hall t hm)⟩)
    (by kernel_rfl)
#print axioms unli_holds
end Go.Proofs.YtmhfhdbaeijcfaaDoor

/- How the laws' arguments read; what the listed variables hold when a call begins. -/
import Derived.Test.YtmhfhdbaeijcfaaDoorGD
import Derived.Lib.LaidTab
import Derived.Deep.Slices
import Derived.Deep.Fields
import Derived.SizedLaws
import Derived.Carry
import Derived.ProofKit
import Derived.LaidMore
import Derived.OpenShut
import Derived.LaidLaws
import Derived.Lib.SmallJoins
namespace Go.Proofs.YtmhfhdbaeijcfaaDoor
open Go.ChangeShapes Go.WideShapes Go.ChangeAt Go.WideMaps Go.WideElems Go.RowKit Go.Deep
open Go.Proofs.YtmhfhdbaeijcfaaDoor.H

theorem laidOut : laidOutB Tryd.prog = true := by kernel_rfl
theorem read23 : Tryd.prog.readableRec 23 = true := by kernel_rfl
theorem read25 : Tryd.prog.readableRec 25 = true := by kernel_rfl
theorem types_many : 150 < Tryd.prog.types.size := of_decide_eq_true (by kernel_rfl)
theorem row23 : 23 < Tryd.prog.types.size := Nat.lt_trans (by decide) types_many
theorem row25 : 25 < Tryd.prog.types.size := Nat.lt_trans (by decide) types_many
theorem cells3 : Tryd.prog.cellsOf 3 = 1 := by kernel_rfl
theorem cells5 : Tryd.prog.cellsOf 5 = 1 := by kernel_rfl
theorem cells9 : Tryd.prog.cellsOf 9 = 1 := by kernel_rfl
theorem cells22 : Tryd.prog.cellsOf 22 = 1 := by kernel_rfl
theorem cells23 : Tryd.prog.cellsOf 23 = 1 := by kernel_rfl
theorem cells25 : Tryd.prog.cellsOf 25 = 10 := by kernel_rfl
theorem cells89 : Tryd.prog.cellsOf 105 = 1 := by kernel_rfl
theorem cells133 : Tryd.prog.cellsOf 154 = 64 := by kernel_rfl

theorem lt_of_cell {w : World} {a : Addr} {v : Value} (h : w.cell? a = some v) : a.block < w.heap.size := by
  rcases Nat.lt_or_ge a.block w.heap.size with hlt | hge
  · exact hlt
  · unfold World.cell? at h
    rw [Array.getElem?_eq_none (by simpa using hge)] at h
    cases h

section
variable {H : Type} {enc : TypeId × Value → H} {W : World}
set_option maxRecDepth 100000 in
/-- A slice of bytes that reads: its bytes. -/
theorem open_bytes {base : Nat} {sp : Nat → Bool} {held : Bool} {fuel : Nat} {vs : List Value} {x : DataW H × List MemPlace} (h : DataW.trod enc Tryd.prog W base sp held fuel 23 vs = some x) :
    ∃ (A : Option Addr) (n cap : Nat) (bs : List UInt8), vs = [.slice A n cap] ∧ bs.length = n ∧ n ≤ cap ∧ cap ≤ 9223372036854775807 ∧ Rd W W.heap.size A (bs.map bv) ∧ (n = 0 ∨ ∃ el sp, x.1 = .slice el sp ∧ el.length = n) := by
  rcases open_slice1 Tryd.underlying23 cells5 h with ⟨rfl, rfl⟩ | ⟨a, len, cap, m, n, V, D, Pl, rfl, _, hl, hm, hmm, rfl, hi⟩
  · exact ⟨none, 0, 0, [], rfl, rfl, Nat.le_refl _, by decide, .inl rfl, .inl rfl⟩
  · have hlm : len ≤ m := by rw [hmm]; split <;> omega
    have hbyte : ∀ i, i < len → ∃ b : UInt8, V i = bv b := fun i hi' => by
      obtain ⟨k, e, _, wk⟩ := DataW.trod_int Tryd.underlying5 (hi i (by omega)).2
      have bd := bounds_u8 wk
      injection e with e
      refine ⟨UInt8.ofNat k.toNat, ?_⟩
      rw [e]
      unfold bv
      congr 1
      rw [UInt8.toNat_ofNat', Nat.mod_eq_of_lt (by omega)]
      omega
    refine ⟨some a, len, cap, (List.range len).map fun i => UInt8.ofNat (intOf (V i)).toNat, rfl, by simp, hl, hm, ?_, .inr ⟨_, _, rfl, by simp⟩⟩
    rcases Nat.eq_zero_or_pos len with h0 | h0
    · subst h0; exact .inl rfl
    · refine .inr ⟨a, rfl, lt_of_cell (a := a) (v := V 0) (by have := (hi 0 (by omega)).1; simpa [Addr.add] using this), fun j u hj => ?_⟩
      have hjl : j < len := by
        rcases Nat.lt_or_ge j len with hlt | hge
        · exact hlt
        · rw [List.getElem?_eq_none (by simp; omega)] at hj; cases hj
      simp [hjl] at hj
      subst hj
      rw [(hi j (by omega)).1]
      obtain ⟨b, hb⟩ := hbyte j hjl
      rw [hb]
      simp [bv, intOf]
set_option maxRecDepth 100000 in
theorem trod_f64 {sp : Nat → Bool} {held : Bool} {fuel base : Nat} {cs : List Value} {x : DataW H × List MemPlace} (h : DataW.trod enc Tryd.prog W base sp held fuel 22 cs = some x) :
    ∃ b, cs = [.float .f64 b] ∧ b < 18446744073709551616 := by
  cases fuel with
  | zero => simp [DataW.trod] at h
  | succ n =>
    unfold DataW.trod at h
    rw [Tryd.underlying22] at h
    split at h <;> simp_all
    rename_i k k' b hk
    subst hk
    have hw : (Lit.float .f64 b).wf = decide (b < 2 ^ 64) := rfl
    rw [hw] at h
    simpa using h.1.2
theorem list10 {α : Type} {l : List α} (h : l.length = 10) : ∃ c0 c1 c2 c3 c4 c5 c6 c7 c8 c9, l = [c0, c1, c2, c3, c4, c5, c6, c7, c8, c9] := by
  match l, h with
  | [c0, c1, c2, c3, c4, c5, c6, c7, c8, c9], _ => exact ⟨c0, c1, c2, c3, c4, c5, c6, c7, c8, c9, rfl⟩
theorem trod_i64 {base : Nat} {sp : Nat → Bool} {held : Bool} {fuel : Nat} {c : Value} {x : DataW H × List MemPlace} (h : DataW.trod enc Tryd.prog W base sp held fuel 3 [c] = some x) : ∃ z, c = .int .i64 z ∧ i64ok z := by
  obtain ⟨k, e, _, wk⟩ := DataW.trod_int Tryd.underlying3 h
  injection e with e
  have bd := bounds_i64 wk
  exact ⟨k, e, by omega, by omega⟩
theorem trod_str {base : Nat} {sp : Nat → Bool} {held : Bool} {fuel : Nat} {c : Value} {x : DataW H × List MemPlace} (h : DataW.trod enc Tryd.prog W base sp held fuel 9 [c] = some x) : ∃ s, c = .string s ∧ s.size ≤ maxLen := by
  obtain ⟨s, e, _, ws⟩ := DataW.trod_string Tryd.underlying9 h
  injection e with e
  exact ⟨s, e, ws⟩
set_option maxRecDepth 100000 in
/-- A frame's cells that read: the frame. -/
theorem frame_of {base : Nat} {sp : Nat → Bool} {held : Bool} {fuel : Nat} {cs : List Value} {x : DataW H × List MemPlace} (hl : cs.length = 10) (h : DataW.trod enc Tryd.prog W base sp held fuel 25 cs = some x) :
    ∃ f : Fr, cs = f.cells f.bs.length ∧ f.ok W W.heap.size := by
  obtain ⟨ys, m, _, _, _, _, hf⟩ := DataW.trod_struct Tryd.underlying25 h
  obtain ⟨c0, c1, c2, c3, c4, c5, c6, c7, c8, c9, rfl⟩ := list10 hl
  have hy : ys.length = 10 := by assumption
  have h0 : DataW.trod enc Tryd.prog W base sp held m 3 (List.take (Tryd.prog.cellsOf 3) [c0, c1, c2, c3, c4, c5, c6, c7, c8, c9]) = ys[0]? := hf 0 _ rfl
  have h1 : DataW.trod enc Tryd.prog W base sp held m 3 (List.take (Tryd.prog.cellsOf 3) [c1, c2, c3, c4, c5, c6, c7, c8, c9]) = ys[1]? := hf 1 _ rfl
  have h2 : DataW.trod enc Tryd.prog W base sp held m 3 (List.take (Tryd.prog.cellsOf 3) [c2, c3, c4, c5, c6, c7, c8, c9]) = ys[2]? := hf 2 _ rfl
  have h3 : DataW.trod enc Tryd.prog W base sp held m 3 (List.take (Tryd.prog.cellsOf 3) [c3, c4, c5, c6, c7, c8, c9]) = ys[3]? := hf 3 _ rfl
  have h4 : DataW.trod enc Tryd.prog W base sp held m 3 (List.take (Tryd.prog.cellsOf 3) [c4, c5, c6, c7, c8, c9]) = ys[4]? := hf 4 _ rfl
  have h5 : DataW.trod enc Tryd.prog W base sp held m 3 (List.take (Tryd.prog.cellsOf 3) [c5, c6, c7, c8, c9]) = ys[5]? := hf 5 _ rfl
  have h6 : DataW.trod enc Tryd.prog W base sp held m 9 (List.take (Tryd.prog.cellsOf 9) [c6, c7, c8, c9]) = ys[6]? := hf 6 _ rfl
  have h7 : DataW.trod enc Tryd.prog W base sp held m 9 (List.take (Tryd.prog.cellsOf 9) [c7, c8, c9]) = ys[7]? := hf 7 _ rfl
  have h8 : DataW.trod enc Tryd.prog W base sp held m 22 (List.take (Tryd.prog.cellsOf 22) [c8, c9]) = ys[8]? := hf 8 _ rfl
  have h9 : DataW.trod enc Tryd.prog W base sp held m 23 (List.take (Tryd.prog.cellsOf 23) [c9]) = ys[9]? := hf 9 _ rfl
  rw [cells3] at h0 h1 h2 h3 h4 h5
  rw [cells9] at h6 h7
  rw [cells22] at h8
  rw [cells23] at h9
  obtain ⟨z0, rfl, o0⟩ := trod_i64 (h0.trans (List.getElem?_eq_getElem (by omega)))
  obtain ⟨z1, rfl, o1⟩ := trod_i64 (h1.trans (List.getElem?_eq_getElem (by omega)))
  obtain ⟨z2, rfl, o2⟩ := trod_i64 (h2.trans (List.getElem?_eq_getElem (by omega)))
  obtain ⟨z3, rfl, o3⟩ := trod_i64 (h3.trans (List.getElem?_eq_getElem (by omega)))
  obtain ⟨z4, rfl, o4⟩ := trod_i64 (h4.trans (List.getElem?_eq_getElem (by omega)))
  obtain ⟨z5, rfl, o5⟩ := trod_i64 (h5.trans (List.getElem?_eq_getElem (by omega)))
  obtain ⟨s6, rfl, o6⟩ := trod_str (h6.trans (List.getElem?_eq_getElem (by omega)))
  obtain ⟨s7, rfl, o7⟩ := trod_str (h7.trans (List.getElem?_eq_getElem (by omega)))
  obtain ⟨b8, e8, o8⟩ := trod_f64 (h8.trans (List.getElem?_eq_getElem (by omega)))
  injection e8 with e8
  subst e8
  obtain ⟨A, n, cap, bs, e9, hn, hc, hm, hr, _⟩ := open_bytes (h9.trans (List.getElem?_eq_getElem (by omega)))
  injection e9 with e9
  subst e9
  subst hn
  exact ⟨⟨z0, z1, z2, z3, z4, z5, s6, s7, b8, A, cap, bs⟩, rfl, ⟨o0, o1, o2, o3, o4, o5, o6, o7, o8, hc, hm, hr⟩⟩
set_option maxRecDepth 100000 in
theorem open_frame {r : Reach} {b0 base : Nat} {sp : Nat → Bool} {held : Bool} {v : Value} {d : DataW H} {p : List MemPlace} (hv : Value.okWide Tryd.prog W r b0 25 v) (h : DataW.Trod enc Tryd.prog W base sp held 25 v d p) :
    ∃ f : Fr, v = f.v ∧ f.ok W W.heap.size := by
  obtain ⟨cs, rfl, hsz⟩ := okWide_struct Tryd.underlying25 hv
  obtain ⟨fuel, hf⟩ := h
  have hl : cs.toList.length = 10 := by simpa using hsz.trans cells25
  obtain ⟨f, hc, ho⟩ := frame_of hl (show DataW.trod enc Tryd.prog W base sp held fuel 25 cs.toList = some (d, p) by simpa [Value.cells] using hf)
  refine ⟨f, ?_, ho⟩
  unfold Fr.v
  rw [← hc]
end

/-- The listed variables. -/
def laidR : List (String × DataW Unit) := [("jackfield/hash.roundWords", Rows.laid_jackfield_hash_roundWords), ("jackfield/api.ErrRange", Rows.laid_jackfield_api_ErrRange), ("jackfield/api.ErrLong", Rows.laid_jackfield_api_ErrLong), ("jackfield/api.ErrFrame", Rows.laid_jackfield_api_ErrFrame), ("jackfield/api.ErrState", Rows.laid_jackfield_api_ErrState)]
def laidS : List (String × DataW Unit) := [("jackfield/hash.roundWords", Rows.laid_jackfield_hash_roundWords), ("jackfield/api.ErrRange", Rows.laid_jackfield_api_ErrRange), ("jackfield/api.ErrShort", Rows.laid_jackfield_api_ErrShort), ("jackfield/api.ErrLong", Rows.laid_jackfield_api_ErrLong), ("jackfield/api.ErrTail", Rows.laid_jackfield_api_ErrTail), ("jackfield/api.ErrFrame", Rows.laid_jackfield_api_ErrFrame), ("jackfield/api.ErrState", Rows.laid_jackfield_api_ErrState)]
theorem laid_tab : (Rows.laid_jackfield_hash_roundWords : DataW Unit) = Lib.tabData .u32 (KT.map U) := by
  unfold Rows.laid_jackfield_hash_roundWords Lib.tabData
  rw [List.map_map]
  rfl
/-- The table of words ahead, the rest behind. -/
theorem laid_split {W : World} {l : List (String × DataW Unit)} (h : laidMet Tryd.prog (("jackfield/hash.roundWords", Rows.laid_jackfield_hash_roundWords) :: l) W) : Ktab W ∧ laidMet Tryd.prog l W := by
  obtain ⟨ps, hv, hnd, hrows⟩ := h
  obtain ⟨g, t, cs, fuel, p, q, hg, htt, hvar, hd, hq, rfl⟩ := hv
  refine ⟨?_, ⟨q, hq, (List.nodup_append.1 hnd).2.1, fun b off hm => hrows b off (List.mem_append_right _ hm)⟩⟩
  obtain rfl : g = 19 := Option.some.inj ((show Tryd.prog.globalNamed "jackfield/hash.roundWords" = some 19 by kernel_rfl).symm.trans hg) |>.symm
  obtain rfl : t = 154 := Option.some.inj (htt.symm.trans (show (Tryd.prog.globals[19]?).map (·.type) = some 154 by kernel_rfl))
  have hcs := Lib.cells_of_tab (k := .u32) (zs := KT.map U) under67 Tryd.underlying105 cells89 cells133 (by rw [← laid_tab]; exact hd)
  have hc : ∀ i, i < 64 → W.cell? ⟨19, i, none⟩ = some (.int .u32 (U (KT.getD i 0))) := fun i hi => by
    rw [World.var?_cell hg hvar i, ← Array.getElem?_toList, hcs]
    have hk : i < KT.length := hi
    simp [hk]
  exact ⟨lt_of_cell (hc 0 (by decide)), hc⟩
theorem env_of {W : World} {E : Nat → Value} {idx : List Nat} (hK : Ktab W) (hS : Sents W E idx) (h0 : 0 ∈ idx) (h1 : 2 ∈ idx) (h3 : 4 ∈ idx) (h16 : 16 ∈ idx) : Env W (fun i => E (F.pos i)) 159 (.pointer (some (adOf (E 0)))) := by
  refine ⟨⟨fun i h2 hi => ?_, fun i h2 hi => ?_⟩, hS.cell h0, hK, hK.1⟩
  · have hm : F.pos i ∈ idx := by
      have : i = 2 ∨ i = 3 ∨ i = 4 := by omega
      rcases this with rfl | rfl | rfl
      · exact h16
      · exact h1
      · exact h3
    obtain ⟨_, _, _, _, hc, _⟩ := hS.at_ _ hm
    exact hc
  · have hm : F.pos i ∈ idx := by
      have : i = 2 ∨ i = 3 ∨ i = 4 := by omega
      rcases this with rfl | rfl | rfl
      · exact h16
      · exact h1
      · exact h3
    exact ⟨_, _, hS.val hm⟩
def idxR : List Nat := [2, 4, 0, 16]
theorem env_r {W : World} (h : laidMetH Tryd.prog laidR W) : ∃ E a, Env W E 159 (.pointer (some a)) := by
  rw [MakeChecks.laidMetH_plain _ _ _ (by kernel_rfl)] at h
  obtain ⟨hK, hl⟩ := laid_split h
  obtain ⟨E, hS⟩ := sents_of_laid _ idxR hl (by
    intro x hx
    simp at hx
    rcases hx with rfl | rfl | rfl | rfl <;> exact ⟨_, rfl⟩) (by kernel_rfl) (by
    intro g hg
    simp [idxR] at hg
    rcases hg with rfl | rfl | rfl | rfl <;> kernel_rfl)
  exact ⟨_, _, env_of hK hS (by decide) (by decide) (by decide) (by decide)⟩
theorem door_metR (os : Os) (args : Array Value) : laidMetH Tryd.prog laidR ((World.doorLaid Tryd.prog 400 os).forCall (fun _ _ => 0) ⟨#[], args, []⟩).memory :=
  laidMetH_of_parts3 (fuel := 8) (laidMet_of_run' 8 (by kernel_rfl) (by kernel_rfl)) (by kernel_rfl) (by kernel_rfl)
def idxS : List Nat := [2, 3, 4, 5, 0, 16]
theorem env_s {W : World} (h : laidMetH Tryd.prog laidS W) : ∃ E a, Env W E 159 (.pointer (some a)) ∧ F.Errs W E := by
  rw [MakeChecks.laidMetH_plain _ _ _ (by kernel_rfl)] at h
  obtain ⟨hK, hl⟩ := laid_split h
  obtain ⟨E, hS⟩ := sents_of_laid _ idxS hl (by
    intro x hx
    simp at hx
    rcases hx with rfl | rfl | rfl | rfl | rfl | rfl <;> exact ⟨_, rfl⟩) (by kernel_rfl) (by
    intro g hg
    simp [idxS] at hg
    rcases hg with rfl | rfl | rfl | rfl | rfl | rfl <;> kernel_rfl)
  refine ⟨_, _, env_of hK hS (by decide) (by decide) (by decide) (by decide), ⟨fun i hi => ?_, fun i hi => ?_⟩⟩
  · have hm : F.pos i ∈ idxS := by
      have : i = 0 ∨ i = 1 ∨ i = 2 ∨ i = 3 ∨ i = 4 := by omega
      rcases this with rfl | rfl | rfl | rfl | rfl <;> decide
    obtain ⟨_, _, _, _, hc, _⟩ := hS.at_ _ hm
    exact hc
  · have hm : F.pos i ∈ idxS := by
      have : i = 0 ∨ i = 1 ∨ i = 2 ∨ i = 3 ∨ i = 4 := by omega
      rcases this with rfl | rfl | rfl | rfl | rfl <;> decide
    exact ⟨_, _, hS.val hm⟩
theorem door_metS (os : Os) (args : Array Value) : laidMetH Tryd.prog laidS ((World.doorLaid Tryd.prog 400 os).forCall (fun _ _ => 0) ⟨#[], args, []⟩).memory :=
  laidMetH_of_parts3 (fuel := 8) (laidMet_of_run' 8 (by kernel_rfl) (by kernel_rfl)) (by kernel_rfl) (by kernel_rfl)
end Go.Proofs.YtmhfhdbaeijcfaaDoor

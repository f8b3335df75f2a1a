/- How the laws' arguments read; what the listed variables hold when a call begins. -/
import Derived.Test.YtmhfhdbaeijcfaaDoorGD
import Derived.Lib.LaidTab
import Derived.Deep.Slices
import Derived.Deep.Fields
import Derived.SizedLaws
import Derived.Carry
import Derived.ProofKit
import Derived.LaidMore
import Derived.OpenShut
import Derived.LaidLaws
import Derived.Lib.SmallJoins
namespace Go.Proofs.YtmhfhdbaeijcfaaDoor
open Go.ChangeShapes Go.WideShapes Go.ChangeAt Go.WideMaps Go.WideElems Go.RowKit Go.Deep
open Go.Proofs.YtmhfhdbaeijcfaaDoor.H

theorem laidOut : laidOutB Tryd.prog = true := by kernel_rfl
theorem read23 : Tryd.prog.readableRec 23 = true := by kernel_rfl
theorem types_many : 150 < Tryd.prog.types.size := of_decide_eq_true (by kernel_rfl)
theorem row23 : 23 < Tryd.prog.types.size := Nat.lt_trans (by decide) types_many
theorem cells5 : Tryd.prog.cellsOf 5 = 1 := by kernel_rfl
theorem cells23 : Tryd.prog.cellsOf 23 = 1 := by kernel_rfl
theorem cells89 : Tryd.prog.cellsOf 105 = 1 := by kernel_rfl
theorem cells133 : Tryd.prog.cellsOf 154 = 64 := by kernel_rfl

theorem lt_of_cell {w : World} {a : Addr} {v : Value} (h : w.cell? a = some v) : a.block < w.heap.size := by
  rcases Nat.lt_or_ge a.block w.heap.size with hlt | hge
  · exact hlt
  · unfold World.cell? at h
    rw [Array.getElem?_eq_none (by simpa using hge)] at h
    cases h

section
variable {H : Type} {enc : TypeId × Value → H} {W : World}
set_option maxRecDepth 100000 in
/-- A slice of bytes that reads: its bytes. -/
theorem open_bytes {base : Nat} {sp : Nat → Bool} {held : Bool} {fuel : Nat} {vs : List Value} {x : DataW H × List MemPlace} (h : DataW.trod enc Tryd.prog W base sp held fuel 23 vs = some x) :
    ∃ (A : Option Addr) (n cap : Nat) (bs : List UInt8), vs = [.slice A n cap] ∧ bs.length = n ∧ n ≤ cap ∧ cap ≤ 9223372036854775807 ∧ Rd W W.heap.size A (bs.map bv) ∧ (n = 0 ∨ ∃ el sp, x.1 = .slice el sp ∧ el.length = n) := by
  rcases open_slice1 Tryd.underlying23 cells5 h with ⟨rfl, rfl⟩ | ⟨a, len, cap, m, n, V, D, Pl, rfl, _, hl, hm, hmm, rfl, hi⟩
  · exact ⟨none, 0, 0, [], rfl, rfl, Nat.le_refl _, by decide, .inl rfl, .inl rfl⟩
  · have hlm : len ≤ m := by rw [hmm]; split <;> omega
    have hbyte : ∀ i, i < len → ∃ b : UInt8, V i = bv b := fun i hi' => by
      obtain ⟨k, e, _, wk⟩ := DataW.trod_int Tryd.underlying5 (hi i (by omega)).2
      have bd := bounds_u8 wk
      injection e with e
      refine ⟨UInt8.ofNat k.toNat, ?_⟩
      rw [e]
      unfold bv
      congr 1
      rw [UInt8.toNat_ofNat', Nat.mod_eq_of_lt (by omega)]
      omega
    refine ⟨some a, len, cap, (List.range len).map fun i => UInt8.ofNat (intOf (V i)).toNat, rfl, by simp, hl, hm, ?_, .inr ⟨_, _, rfl, by simp⟩⟩
    rcases Nat.eq_zero_or_pos len with h0 | h0
    · subst h0; exact .inl rfl
    · refine .inr ⟨a, rfl, lt_of_cell (a := a) (v := V 0) (by have := (hi 0 (by omega)).1; simpa [Addr.add] using this), fun j u hj => ?_⟩
      have hjl : j < len := by
        rcases Nat.lt_or_ge j len with hlt | hge
        · exact hlt
        · rw [List.getElem?_eq_none (by simp; omega)] at hj; cases hj
      simp [hjl] at hj
      subst hj
      rw [(hi j (by omega)).1]
      obtain ⟨b, hb⟩ := hbyte j hjl
      rw [hb]
      simp [bv, intOf]
end

theorem laid_tab : (Rows.laid_jackfield_hash_roundWords : DataW Unit) = Lib.tabData .u32 (KT.map U) := by
  unfold Rows.laid_jackfield_hash_roundWords Lib.tabData
  rw [List.map_map]
  rfl
/-- The table of words ahead, the rest behind. -/
theorem laid_split {W : World} {l : List (String × DataW Unit)} (h : laidMet Tryd.prog (("jackfield/hash.roundWords", Rows.laid_jackfield_hash_roundWords) :: l) W) : Ktab W ∧ laidMet Tryd.prog l W := by
  obtain ⟨ps, hv, hnd, hrows⟩ := h
  obtain ⟨g, t, cs, fuel, p, q, hg, htt, hvar, hd, hq, rfl⟩ := hv
  refine ⟨?_, ⟨q, hq, (List.nodup_append.1 hnd).2.1, fun b off hm => hrows b off (List.mem_append_right _ hm)⟩⟩
  obtain rfl : g = 19 := Option.some.inj ((show Tryd.prog.globalNamed "jackfield/hash.roundWords" = some 19 by kernel_rfl).symm.trans hg) |>.symm
  obtain rfl : t = 154 := Option.some.inj (htt.symm.trans (show (Tryd.prog.globals[19]?).map (·.type) = some 154 by kernel_rfl))
  have hcs := Lib.cells_of_tab (k := .u32) (zs := KT.map U) under67 Tryd.underlying105 cells89 cells133 (by rw [← laid_tab]; exact hd)
  have hc : ∀ i, i < 64 → W.cell? ⟨19, i, none⟩ = some (.int .u32 (U (KT.getD i 0))) := fun i hi => by
    rw [World.var?_cell hg hvar i, ← Array.getElem?_toList, hcs]
    have hk : i < KT.length := hi
    simp [hk]
  exact ⟨lt_of_cell (hc 0 (by decide)), hc⟩
theorem env_of {W : World} {E : Nat → Value} {idx : List Nat} (hK : Ktab W) (hS : Sents W E idx) (h0 : 0 ∈ idx) (h1 : 2 ∈ idx) (h3 : 4 ∈ idx) (h16 : 16 ∈ idx) : Env W (fun i => E (F.pos i)) 159 (.pointer (some (adOf (E 0)))) := by
  refine ⟨⟨fun i h2 hi => ?_, fun i h2 hi => ?_⟩, hS.cell h0, hK, hK.1⟩
  · have hm : F.pos i ∈ idx := by
      have : i = 2 ∨ i = 3 ∨ i = 4 := by omega
      rcases this with rfl | rfl | rfl
      · exact h16
      · exact h1
      · exact h3
    obtain ⟨_, _, _, _, hc, _⟩ := hS.at_ _ hm
    exact hc
  · have hm : F.pos i ∈ idx := by
      have : i = 2 ∨ i = 3 ∨ i = 4 := by omega
      rcases this with rfl | rfl | rfl
      · exact h16
      · exact h1
      · exact h3
    exact ⟨_, _, hS.val hm⟩
end Go.Proofs.YtmhfhdbaeijcfaaDoor

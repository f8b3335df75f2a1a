/- How the laws' arguments read: slices of bytes; what the listed table's variable holds when a call begins. -/
import Derived.Test.YthfpkefieemiaaaDoorAlive
import Derived.Lib.LaidTab
import Derived.Deep.Slices
import Derived.Deep.Fields
import Derived.SizedLaws
import Derived.Carry
import Derived.ProofKit
import Derived.LaidMore
import Derived.OpenShut
import Derived.LaidLaws
import Derived.Stop.Joined
import Derived.Stop.LaidErr
namespace Go.Proofs.YthfpkefieemiaaaDoor
open Go.ChangeShapes Go.WideShapes Go.ChangeAt Go.WideMaps Go.WideElems Go.RowKit Go.Deep

theorem own : ownKnob Tryd.prog.godebug = none := by kernel_rfl
theorem laidOut : laidOutB Tryd.prog = true := by kernel_rfl
theorem read25 : Tryd.prog.readableRec 25 = true := by kernel_rfl
theorem read22 : Tryd.prog.readableRec 22 = true := by kernel_rfl
theorem read38 : Tryd.prog.readableRec 38 = true := by kernel_rfl
theorem types_many : 60 < Tryd.prog.types.size := of_decide_eq_true (by kernel_rfl)
theorem row25 : 25 < Tryd.prog.types.size := Nat.lt_trans (by decide) types_many
theorem row22 : 22 < Tryd.prog.types.size := Nat.lt_trans (by decide) types_many
theorem row38 : 38 < Tryd.prog.types.size := Nat.lt_trans (by decide) types_many
theorem cells5 : Tryd.prog.cellsOf 5 = 1 := by kernel_rfl
theorem cells25 : Tryd.prog.cellsOf 25 = 1 := by kernel_rfl
theorem cells43 : Tryd.prog.cellsOf 43 = 1 := by kernel_rfl
theorem cells3 : Tryd.prog.cellsOf 3 = 1 := by kernel_rfl
theorem cells67 : Tryd.prog.cellsOf 67 = 64 := by kernel_rfl

def laidK : List (String × DataW Unit) := [("jackfield/hash.roundWords", Rows.laid_jackfield_hash_roundWords)]
theorem laidK_tab : (Rows.laid_jackfield_hash_roundWords : DataW Unit) = Lib.tabData .u32 (KT.map U) := by
  unfold Rows.laid_jackfield_hash_roundWords Lib.tabData
  rw [List.map_map]
  rfl
theorem ktab_of_laid {W : World} (h : laidMetH Tryd.prog laidK W) : Ktab W := by
  rw [MakeChecks.laidMetH_plain _ _ _ (by kernel_rfl)] at h
  obtain ⟨ps, hv, hnd, hrows⟩ := h
  obtain ⟨g, t, cs, fuel, p, q, hg, htt, hvar, hd, _, _⟩ := hv
  obtain rfl : g = 0 := Option.some.inj ((show Tryd.prog.globalNamed "jackfield/hash.roundWords" = some 0 by kernel_rfl).symm.trans hg) |>.symm
  obtain rfl : t = 67 := Option.some.inj (htt.symm.trans (show (Tryd.prog.globals[0]?).map (·.type) = some 67 by kernel_rfl))
  have hcs := Lib.cells_of_tab (k := .u32) (zs := KT.map U) under67 Tryd.underlying43 cells43 cells67 (by rw [← laidK_tab]; exact hd)
  have hc : ∀ i, i < 64 → W.cell? ⟨0, i, none⟩ = some (.int .u32 (U (KT.getD i 0))) := fun i hi => by
    rw [World.var?_cell hg hvar i, ← Array.getElem?_toList, hcs]
    have hk : i < KT.length := hi
    simp [hk]
  refine ⟨?_, hc⟩
  rcases Nat.eq_zero_or_pos W.heap.size with h0 | h0
  · have := hc 0 (by decide)
    unfold World.cell? at this
    rw [Array.getElem?_eq_none (by simpa using h0)] at this
    cases this
  · exact h0
/-- The door's own heap meets the condition. -/
theorem door_metK (os : Os) (args : Array Value) : laidMetH Tryd.prog laidK ((World.doorLaid Tryd.prog 400 os).forCall (fun _ _ => 0) ⟨#[], args, []⟩).memory :=
  laidMetH_of_parts3 (fuel := 8) (laidMet_of_run' 8 (by kernel_rfl) (by kernel_rfl)) (by kernel_rfl) (by kernel_rfl)

theorem lt_of_cell {w : World} {a : Addr} {v : Value} (h : w.cell? a = some v) : a.block < w.heap.size := by
  rcases Nat.lt_or_ge a.block w.heap.size with hlt | hge
  · exact hlt
  · unfold World.cell? at h
    rw [Array.getElem?_eq_none (by simpa using hge)] at h
    cases h

section
variable {H : Type} {enc : TypeId × Value → H} {W : World}
/-- A slice of bytes that reads: its bytes. -/
theorem open_bytes {base : Nat} {sp : Nat → Bool} {held : Bool} {fuel : Nat} {vs : List Value} {x : DataW H × List MemPlace} (h : DataW.trod enc Tryd.prog W base sp held fuel 25 vs = some x) :
    ∃ (A : Option Addr) (n cap : Nat) (bs : List UInt8), vs = [.slice A n cap] ∧ bs.length = n ∧ n ≤ cap ∧ cap ≤ 9223372036854775807 ∧ Rd W W.heap.size A (bs.map bv) ∧ (n = 0 ∨ ∃ el sp, x.1 = .slice el sp ∧ el.length = n) := by
  rcases open_slice1 Tryd.underlying25 cells5 h with ⟨rfl, rfl⟩ | ⟨a, len, cap, m, n, V, D, Pl, rfl, _, hl, hm, hmm, rfl, hi⟩
  · exact ⟨none, 0, 0, [], rfl, rfl, Nat.le_refl _, by decide, .inl rfl, .inl rfl⟩
  · have hlm : len ≤ m := by rw [hmm]; split <;> omega
    have hbyte : ∀ i, i < len → ∃ b : UInt8, V i = bv b := fun i hi' => by
      obtain ⟨k, e, _, wk⟩ := DataW.trod_int Tryd.underlying5 (hi i (by omega)).2
      have bd := bounds_u8 wk
      injection e with e
      refine ⟨UInt8.ofNat k.toNat, ?_⟩
      rw [e]
      unfold bv
      congr 1
      rw [UInt8.toNat_ofNat', Nat.mod_eq_of_lt (by omega)]
      omega
    refine ⟨some a, len, cap, (List.range len).map fun i => UInt8.ofNat (intOf (V i)).toNat, rfl, by simp, hl, hm, ?_, .inr ⟨_, _, rfl, by simp⟩⟩
    rcases Nat.eq_zero_or_pos len with h0 | h0
    · subst h0; exact .inl rfl
    · refine .inr ⟨a, rfl, lt_of_cell (a := a) (v := V 0) (by have := (hi 0 (by omega)).1; simpa [Addr.add] using this), fun j u hj => ?_⟩
      have hjl : j < len := by
        rcases Nat.lt_or_ge j len with hlt | hge
        · exact hlt
        · rw [List.getElem?_eq_none (by simp; omega)] at hj; cases hj
      simp [hjl] at hj
      subst hj
      rw [(hi j (by omega)).1]
      obtain ⟨b, hb⟩ := hbyte j hjl
      rw [hb]
      simp [bv, intOf]
end
end Go.Proofs.YthfpkefieemiaaaDoor

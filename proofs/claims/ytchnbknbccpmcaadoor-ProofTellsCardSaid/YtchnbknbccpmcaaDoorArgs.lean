/- How the laws' arguments read: slices of bytes. -/
import Derived.Test.YtchnbknbccpmcaaDoorLaid
import Derived.Test.YtchnbknbccpmcaaDoorMem
import Derived.Deep.Slices
import Derived.Deep.Fields
import Derived.SizedLaws
import Derived.Carry
namespace Go.Proofs.YtchnbknbccpmcaaDoor
open Go.ChangeShapes Go.WideShapes Go.ChangeAt Go.WideMaps Go.WideElems Go.RowKit Go.Deep

theorem laidOut : laidOutB Tryd.prog = true := by kernel_rfl
theorem readBytes : Tryd.prog.readableRec 22 = true := by kernel_rfl
theorem rowBytes : 22 < Tryd.prog.types.size := of_decide_eq_true (by kernel_rfl)
theorem cells5 : Tryd.prog.cellsOf 5 = 1 := by kernel_rfl
section
variable {H : Type} {enc : TypeId × Value → H} {W : World}
set_option maxRecDepth 100000 in
theorem addr_split {w : World} {a : Addr} {v : Value} (h : w.cell? a = some v) : a.spot = none := by
  unfold World.cell? at h
  cases hsp : a.spot with
  | none => rfl
  | some k => rw [hsp] at h; revert h; split <;> simp
set_option maxRecDepth 100000 in
theorem lt_of_cell {w : World} {a : Addr} {v : Value} (h : w.cell? a = some v) : a.block < w.heap.size := by
  rcases Nat.lt_or_ge a.block w.heap.size with hlt | hge
  · exact hlt
  · unfold World.cell? at h
    rw [Array.getElem?_eq_none (by simpa using hge)] at h
    cases h
set_option maxRecDepth 100000 in
theorem addr_plain (b o k : Nat) : (⟨b, o, none⟩ : Addr).add k = ⟨b, o + k, none⟩ := by
  unfold Addr.add
  split <;> simp_all

set_option maxRecDepth 100000 in
/-- A slice of bytes that reads: its bytes. -/
theorem open_bytes {sp : Nat → Bool} {held : Bool} {fuel : Nat} {vs : List Value} {x : DataW H × List MemPlace} (h : DataW.trod enc Tryd.prog W 0 sp held fuel 22 vs = some x) :
    ∃ (A : Option Addr) (n cap : Nat) (bs : List UInt8), vs = [.slice A n cap] ∧ bs.length = n ∧ n ≤ cap ∧ cap ≤ maxLen ∧ Rd W W.heap.size A (bs.map bv) ∧ (n = 0 ∨ ∃ el sp, x.1 = .slice el sp ∧ el.length = n) := by
  rcases open_slice1 Tryd.underlying22 cells5 h with ⟨rfl, rfl⟩ | ⟨a, len, cap, m, n, V, D, Pl, rfl, _, hl, hm, hmm, rfl, hi⟩
  · exact ⟨none, 0, 0, [], rfl, rfl, Nat.le_refl _, by decide, .inl rfl, .inl rfl⟩
  · have hm' : len ≤ m := by rw [hmm]; split <;> omega
    have hbyte : ∀ i, i < len → ∃ b : UInt8, V i = bv b := fun i hi' => by
      obtain ⟨k, e, _, wk⟩ := DataW.trod_int Tryd.underlying5 (hi i (by omega)).2
      have bd := bounds_u8 wk
      injection e with e
      refine ⟨UInt8.ofNat k.toNat, ?_⟩
      rw [e]
      unfold bv
      congr 1
      rw [UInt8.toNat_ofNat', Nat.mod_eq_of_lt (by omega)]
      omega
    refine ⟨some a, len, cap, (List.range len).map fun i => UInt8.ofNat (intOf (V i)).toNat, rfl, by simp, hl, hm, ?_, .inr ⟨_, _, rfl, by simp⟩⟩
    rcases Nat.eq_zero_or_pos len with h0 | h0
    · subst h0; exact .inl rfl
    · refine .inr ⟨a, rfl, lt_of_cell (a := a) (v := V 0) (by have := (hi 0 (by omega)).1; simpa [Addr.add] using this), fun j u hj => ?_⟩
      have hjl : j < len := by
        rcases Nat.lt_or_ge j len with hlt | hge
        · exact hlt
        · rw [List.getElem?_eq_none (by simp; omega)] at hj; cases hj
      simp [hjl] at hj
      subst hj
      rw [(hi j (by omega)).1]
      obtain ⟨b, hb⟩ := hbyte j hjl
      rw [hb]
      simp [bv, intOf]
end
end Go.Proofs.YtchnbknbccpmcaaDoor

/- The document's Kind: what it answers; bytes of a text. -/
import Derived.Test.YtmhfhdbaeijcfaaDoorRak
import Derived.BigRegion
import Derived.Lib.ConvBytes
import Derived.Deep.Cut
namespace Go.Proofs.YtmhfhdbaeijcfaaDoor
open Go.RowKit
open Go.Proofs.YtmhfhdbaeijcfaaDoor.H

/-- What Kind answers. -/
def RK (k : Int) (cs : List F.FC) (w : World) (e : Ending) (w' : World) : Prop := ∃ g : Fr, e = .returned g.v ∧ Hid (g.pl = fill (zf k) (used k) cs ∧ g.ok w' w'.heap.size ∧ Below w.heap.size w w')
/-- Bytes of a frame, none or made above w. -/
def Yg (w : World) (g : Fr) : Prop := g.ba = none ∨ ∃ q, g.ba = some ⟨q, 0, none⟩ ∧ w.heap.size ≤ q
theorem Yg.mono {w w' : World} {g : Fr} (h : Yg w' g) (hs : w.heap.size ≤ w'.heap.size) : Yg w g := by
  rcases h with h | ⟨q, h1, h2⟩
  · exact .inl h
  · exact .inr ⟨q, h1, Nat.le_trans hs h2⟩
/-- What Kind answers, and where its bytes are. -/
def RKy (k : Int) (cs : List F.FC) (w : World) (e : Ending) (w' : World) : Prop := ∃ g : Fr, e = .returned g.v ∧ Hid (g.pl = fill (zf k) (used k) cs ∧ g.ok w' w'.heap.size ∧ Below w.heap.size w w' ∧ Yg w g)
theorem RKy.rk {k : Int} {cs : List F.FC} {w w' : World} {e : Ending} (h : RKy k cs w e w') : RK k cs w e w' := by
  obtain ⟨g, h1, h2⟩ := h
  exact ⟨g, h1, Lib.hid ⟨h2.out.1, h2.out.2.1, h2.out.2.2.1⟩⟩
theorem csr_at {w : World} {A : Option Addr} {cs : List F.FC} (h : F.CsR w w.heap.size A cs) (hne : cs ≠ []) : ∃ b o, A = some ⟨b, o, none⟩ ∧ b < w.heap.size ∧ ∀ (k : Nat) (x : F.FC), cs[k]? = some x →
    w.cell? ⟨b, o + k * 3, none⟩ = some (.int .i64 x.n) ∧ w.cell? ⟨b, o + k * 3 + 1, none⟩ = some (.int .u64 (x.f : Int)) ∧ w.cell? ⟨b, o + k * 3 + 2, none⟩ = some (.string x.s) := by
  rcases h with h | h
  · exact absurd h hne
  · exact h
/-- Bytes out of a text. -/
theorem conv_bytes (s : ByteArray) (w : World) : (convert 9 23 (.string s)).run Tryd.prog w = .ok (.slice (some ⟨w.heap.size, 0, none⟩) s.size (grownCap w s.size 0 5)) (Lib.bytesWorld w 5 s) :=
  Lib.run_convert_string_bytes w 9 23 5 s Tryd.underlying9 Tryd.underlying23 Tryd.underlying5
theorem conv_below (s : ByteArray) (w : World) : Below w.heap.size w (Lib.bytesWorld w 5 s) :=
  ⟨rfl, rfl, rfl, by rw [Lib.bytesWorld_size]; omega, fun k hk => Lib.bytesWorld_at_old w 5 s k hk⟩
theorem conv_rd (s : ByteArray) (w : World) : Rd (Lib.bytesWorld w 5 s) (Lib.bytesWorld w 5 s).heap.size (some ⟨w.heap.size, 0, none⟩) (s.data.toList.map bv) := by
  refine .inr ⟨_, rfl, by rw [Lib.bytesWorld_size]; exact Nat.lt_succ_self _, fun j u hj => ?_⟩
  have hjl : j < s.size := by
    rcases Nat.lt_or_ge j s.size with h | h
    · exact h
    · rw [List.getElem?_eq_none (by simpa using h)] at hj; cases hj
  have e : (⟨w.heap.size, 0, none⟩ : Addr).add j = ⟨w.heap.size, j, none⟩ := by simp [Addr.add]; omega
  rw [e, Lib.bytesWorld_cell w 5 s j hjl]
  have hjl' : j < s.data.toList.length := by simpa using hjl
  rw [List.getElem?_map, List.getElem?_eq_getElem hjl'] at hj
  simp only [Option.map_some, Option.some.injEq] at hj
  rw [← hj]
  have hjd : j < s.data.size := hjl
  have e2 : s.data.toList.getD j 0 = s.data.toList[j] := by rw [List.getD_eq_getElem?_getD, List.getElem?_eq_getElem hjl']; rfl
  rw [e2]
  rfl
theorem rd_sole_any {w w' : World} {g : Nat} {A : Option Addr} {xs : List Value} (h : Rd w w.heap.size A xs) (hs : Sole g w w') (hne : ∀ ad, A = some ad → ad.block ≠ g) : Rd w' w'.heap.size A xs := by
  rcases h with h | ⟨ad, e, h1, h2⟩
  · exact .inl h
  · refine .inr ⟨ad, e, Nat.lt_of_lt_of_le h1 hs.size, fun j u hj => ?_⟩
    have eb : (ad.add j).block = ad.block := by unfold Addr.add; split <;> rfl
    exact (hs.cell (p := ad.add j) (by rw [eb]; exact h1) (by rw [eb]; exact hne ad e)).trans (h2 j u hj)
theorem rd_sole {w w' : World} {g q : Nat} {xs : List Value} (h : Rd w w.heap.size (some ⟨q, 0, none⟩) xs) (hs : Sole g w w') (hne : q ≠ g) : Rd w' w'.heap.size (some ⟨q, 0, none⟩) xs :=
  rd_sole_any h hs (fun ad e => by injection e with e; rw [← e]; exact hne)
end Go.Proofs.YtmhfhdbaeijcfaaDoor

/- How the laws' arguments read: slices of cells, slices of bytes. -/
import Derived.Test.YtcphfgiegpnpeaaDoorSizes
import Derived.Test.YtcphfgiegpnpeaaDoorLaid
import Derived.Deep.Slices
import Derived.Deep.Fields
import Derived.SizedLaws
import Derived.Carry
namespace Go.Proofs.YtcphfgiegpnpeaaDoor
open Go.ChangeShapes Go.WideShapes Go.ChangeAt Go.WideMaps Go.WideElems Go.RowKit Go.Deep

section
variable {H : Type} {enc : TypeId × Value → H} {W : World}

theorem trod_f64 {sp : Nat → Bool} {held : Bool} {fuel base : Nat} {cs : List Value} {x : DataW H × List MemPlace} (h : DataW.trod enc Tryd.prog W base sp held fuel 47 cs = some x) :
    ∃ b, cs = [.float .f64 b] ∧ b < 18446744073709551616 := by
  cases fuel with
  | zero => simp [DataW.trod] at h
  | succ n =>
    unfold DataW.trod at h
    rw [Tryd.underlying47] at h
    split at h <;> simp_all
    rename_i k k' b hk
    subst hk
    have hw : (Lit.float .f64 b).wf = decide (b < 2 ^ 64) := rfl
    rw [hw] at h
    simpa using h.1.2

theorem cells49 : Tryd.prog.cellsOf 49 = 3 := by kernel_rfl
theorem cells5 : Tryd.prog.cellsOf 5 = 1 := by kernel_rfl
theorem bytes49 : Tryd.prog.bytesOf 49 = 32 := by kernel_rfl
theorem bytes5 : Tryd.prog.bytesOf 5 = 1 := by kernel_rfl

theorem addr_split {w : World} {a : Addr} {v : Value} (h : w.cell? a = some v) : a.spot = none := by
  unfold World.cell? at h
  cases hsp : a.spot with
  | none => rfl
  | some k => rw [hsp] at h; revert h; split <;> simp
theorem lt_of_cell {w : World} {a : Addr} {v : Value} (h : w.cell? a = some v) : a.block < w.heap.size := by
  rcases Nat.lt_or_ge a.block w.heap.size with hlt | hge
  · exact hlt
  · unfold World.cell? at h
    rw [Array.getElem?_eq_none (by simpa using hge)] at h
    cases h
theorem addr_plain (b o k : Nat) : (⟨b, o, none⟩ : Addr).add k = ⟨b, o + k, none⟩ := by
  unfold Addr.add
  split <;> simp_all

/-- One cell's reading. -/
theorem open_cell {base : Nat} {sp : Nat → Bool} {held : Bool} {n : Nat} {a : Addr} {cs : List Value} {x : DataW H × List MemPlace} (hc : W.cells? base a 3 = some cs) (h : DataW.trod enc Tryd.prog W base sp held n 49 cs = some x) :
    ∃ y : FC, y.ok ∧ W.cell? (a.add 0) = some (.int .i64 y.n) ∧ W.cell? (a.add 1) = some (.float .f64 y.f) ∧ W.cell? (a.add 2) = some (.string y.s) := by
  obtain ⟨_, hlen, hat⟩ := World.cells?_some hc
  obtain ⟨ys, m, _, _, _, _, hf⟩ := DataW.trod_struct Tryd.underlying49 h
  match cs, hlen with
  | [c0, c1, c2], _ =>
    have k3 : Tryd.prog.cellsOf 3 = 1 := by kernel_rfl
    have k47 : Tryd.prog.cellsOf 47 = 1 := by kernel_rfl
    have k9 : Tryd.prog.cellsOf 9 = 1 := by kernel_rfl
    have h0 : DataW.trod enc Tryd.prog W base sp held m 3 (List.take (Tryd.prog.cellsOf 3) [c0, c1, c2]) = ys[0]? := hf 0 _ rfl
    have h1 : DataW.trod enc Tryd.prog W base sp held m 47 (List.take (Tryd.prog.cellsOf 47) [c1, c2]) = ys[1]? := hf 1 _ rfl
    have h2 : DataW.trod enc Tryd.prog W base sp held m 9 (List.take (Tryd.prog.cellsOf 9) [c2]) = ys[2]? := hf 2 _ rfl
    rw [k3] at h0
    rw [k47] at h1
    rw [k9] at h2
    have hl : ys.length = 3 := by assumption
    obtain ⟨i0, e0, _, w0⟩ := DataW.trod_int Tryd.underlying3 (h0.trans (List.getElem?_eq_getElem (by omega)))
    obtain ⟨b1, e1, w1⟩ := trod_f64 (h1.trans (List.getElem?_eq_getElem (by omega)))
    obtain ⟨s2, e2, _, w2⟩ := DataW.trod_string Tryd.underlying9 (h2.trans (List.getElem?_eq_getElem (by omega)))
    have bd := bounds_i64 w0
    refine ⟨⟨i0, b1, s2⟩, ⟨by show _ ≤ i0; omega, by show i0 ≤ _; omega, w1, w2⟩, ?_, ?_, ?_⟩
    · rw [hat 0 (by omega)]; injection e0 with e0; simp [e0]
    · rw [hat 1 (by omega)]; injection e1 with e1; simp [e1]
    · rw [hat 2 (by omega)]; injection e2 with e2; simp [e2]

theorem choose_cells {P : Nat → FC → Prop} : ∀ n : Nat, (∀ i, i < n → ∃ y, P i y) → ∃ cs : List FC, cs.length = n ∧ ∀ i y, cs[i]? = some y → P i y
  | 0, _ => ⟨[], rfl, fun i y h => by simp at h⟩
  | n + 1, h => by
    obtain ⟨cs, hl, hc⟩ := choose_cells n (fun i hi => h i (by omega))
    obtain ⟨y, hy⟩ := h n (by omega)
    refine ⟨cs ++ [y], by simp [hl], fun i z hz => ?_⟩
    rcases Nat.lt_or_ge i cs.length with hlt | hge
    · rw [List.getElem?_append_left hlt] at hz
      exact hc i z hz
    · rw [List.getElem?_append_right hge] at hz
      have : i - cs.length = 0 := by
        rcases Nat.eq_zero_or_pos (i - cs.length) with h0 | h0
        · exact h0
        · rw [List.getElem?_eq_none (by simp; omega)] at hz; cases hz
      rw [this] at hz
      simp at hz
      subst hz
      have : i = n := by omega
      subst this
      exact hy

/-- A slice of cells that reads: its cells. -/
theorem open_cells {fuel : Nat} {vs : List Value} {x : DataW H × List MemPlace} (h : DataW.trod enc Tryd.prog W 0 (fun _ => true) true fuel 22 vs = some x) :
    ∃ (A : Option Addr) (n cap : Nat) (cs : List FC), vs = [.slice A n cap] ∧ cs.length = n ∧ n ≤ cap ∧ Cs W W.heap.size A cs ∧ (∀ y ∈ cs, y.ok) ∧ (n = 0 ∨ ∃ el sp, x.1 = .slice el sp ∧ el.length = n) := by
  rcases open_slice Tryd.underlying22 h with ⟨rfl, rfl⟩ | ⟨a, len, cap, m, n, D, Pl, rfl, _, hl, hm, hmm, rfl, hi⟩
  · exact ⟨none, 0, 0, [], rfl, rfl, Nat.le_refl _, .inl rfl, by simp, .inl rfl⟩
  · have hm' : m = cap := by simpa using hmm
    rw [cells49] at hi
    obtain ⟨cs, hcl, hcs⟩ := choose_cells (P := fun i y => y.ok ∧ W.cell? ((a.add (i * 3)).add 0) = some (.int .i64 y.n) ∧ W.cell? ((a.add (i * 3)).add 1) = some (.float .f64 y.f) ∧ W.cell? ((a.add (i * 3)).add 2) = some (.string y.s)) len (fun i hi' => by
      obtain ⟨vs, hv, ht⟩ := hi i (by omega)
      exact open_cell hv ht)
    refine ⟨some a, len, cap, cs, rfl, hcl, hl, ?_, ?_, .inr ⟨_, _, rfl, by simp⟩⟩
    · rcases Nat.eq_zero_or_pos len with h0 | h0
      · exact .inl (List.eq_nil_of_length_eq_zero (by omega))
      · have hfirst := (hcs 0 (cs[0]'(by omega)) (List.getElem?_eq_getElem (by omega))).2.1
        have e0 : (a.add (0 * 3)).add 0 = a := by simp [Addr.add]
        rw [e0] at hfirst
        obtain ⟨b, o, spt⟩ := a
        obtain rfl : spt = none := addr_split hfirst
        refine .inr ⟨b, o, rfl, lt_of_cell hfirst, fun k y hy => ?_⟩
        obtain ⟨_, g0, g1, g2⟩ := hcs k y hy
        rw [addr_plain, addr_plain] at g0 g1 g2
        exact ⟨g0, g1, g2⟩
    · intro y hy
      obtain ⟨i, hi', rfl⟩ := List.getElem_of_mem hy
      exact (hcs i _ (List.getElem?_eq_getElem hi')).1

/-- A slice of bytes that reads: its bytes. -/
theorem open_bytes {fuel : Nat} {vs : List Value} {x : DataW H × List MemPlace} (h : DataW.trod enc Tryd.prog W 0 (fun _ => true) true fuel 24 vs = some x) :
    ∃ (A : Option Addr) (n cap : Nat) (bs : List UInt8), vs = [.slice A n cap] ∧ bs.length = n ∧ n ≤ cap ∧ cap ≤ maxLen ∧ Rd W W.heap.size A (bs.map bv) ∧ (n = 0 ∨ ∃ el sp, x.1 = .slice el sp ∧ el.length = n) := by
  rcases open_slice1 Tryd.underlying24 cells5 h with ⟨rfl, rfl⟩ | ⟨a, len, cap, m, n, V, D, Pl, rfl, _, hl, hm, hmm, rfl, hi⟩
  · exact ⟨none, 0, 0, [], rfl, rfl, Nat.le_refl _, by decide, .inl rfl, .inl rfl⟩
  · have hm' : m = cap := by simpa using hmm
    have hbyte : ∀ i, i < len → ∃ b : UInt8, V i = bv b := fun i hi' => by
      obtain ⟨k, e, _, wk⟩ := DataW.trod_int Tryd.underlying5 (hi i (by omega)).2
      have bd := bounds_u8 wk
      injection e with e
      refine ⟨UInt8.ofNat k.toNat, ?_⟩
      rw [e]
      unfold bv
      congr 1
      rw [UInt8.toNat_ofNat', Nat.mod_eq_of_lt (by omega)]
      omega
    refine ⟨some a, len, cap, (List.range len).map fun i => UInt8.ofNat (intOf (V i)).toNat, rfl, by simp, hl, hm, ?_, .inr ⟨_, _, rfl, by simp⟩⟩
    rcases Nat.eq_zero_or_pos len with h0 | h0
    · subst h0; exact .inl rfl
    · refine .inr ⟨a, rfl, lt_of_cell (a := a) (v := V 0) (by have := (hi 0 (by omega)).1; simpa [Addr.add] using this), fun j u hj => ?_⟩
      have hjl : j < len := by
        rcases Nat.lt_or_ge j len with hlt | hge
        · exact hlt
        · rw [List.getElem?_eq_none (by simp; omega)] at hj; cases hj
      simp [hjl] at hj
      subst hj
      rw [(hi j (by omega)).1]
      obtain ⟨b, hb⟩ := hbyte j hjl
      rw [hb]
      simp [bv, intOf]
end
end Go.Proofs.YtcphfgiegpnpeaaDoor

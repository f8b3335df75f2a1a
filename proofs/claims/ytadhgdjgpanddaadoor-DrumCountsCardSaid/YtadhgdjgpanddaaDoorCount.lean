/- The law DrumCounts: armed with n, just the next n writes are there. -/
import Derived.Test.YtadhgdjgpanddaaDoorDarkw
namespace Go.Proofs.YtadhgdjgpanddaaDoor
open Go.RowKit

theorem info58 : (Tryd.prog.info? 58).map (fun i => (i.zero, i.size)) = some (some (.agg (List.replicate 8 (Value.int .u8 0)).toArray), 8) := by kernel_rfl
theorem and_seven (z : Int) : ∃ i : Nat, i < 8 ∧ bits BinOp.and IntKind.i64 z 7 = (i : Int) := by
  have h2 : (BitVec.ofInt 64 (7 : Int)).toNat = 7 := rfl
  have h1 : (BitVec.ofInt 64 z &&& BitVec.ofInt 64 7).toNat < 8 := by
    rw [BitVec.toNat_and, h2]
    exact Nat.lt_of_le_of_lt Nat.and_le_right (by decide)
  refine ⟨(BitVec.ofInt 64 z &&& BitVec.ofInt 64 7).toNat, h1, ?_⟩
  show IntKind.i64.wrap ((BitVec.ofInt 64 z &&& BitVec.ofInt 64 7).toNat : Int) = _
  generalize (BitVec.ofInt 64 z &&& BitVec.ofInt 64 7).toNat = n at h1
  rw [IntKind.wrap_i64]; omega
/-- The bytes that are to be there: the first byte of each of the eight blocks. -/
def flatB (ws : List UInt8) : List UInt8 := ws.flatMap blk
theorem flatB_length (ws : List UInt8) : (flatB ws).length = ws.length * 64 := by
  induction ws with
  | nil => rfl
  | cons a r ih => simp only [flatB, List.flatMap_cons, List.length_append, blk_length, List.length_cons] at ih ⊢; omega
theorem flatB_drop (ws : List UInt8) : ∀ i, (flatB ws).drop (i * 64) = flatB (ws.drop i) := by
  induction ws with
  | nil => intro i; simp [flatB]
  | cons a r ih =>
    intro i
    match i with
    | 0 => simp
    | i + 1 =>
      show (blk a ++ flatB r).drop ((i + 1) * 64) = flatB (r.drop i)
      have e : (blk a ++ flatB r).drop 64 = flatB r := List.drop_left' (blk_length a)
      rw [show (i + 1) * 64 = 64 + i * 64 by omega, ← List.drop_drop, e]
      exact ih i
theorem flatB_take (ws : List UInt8) : ∀ i, (flatB ws).take (i * 64) = flatB (ws.take i) := by
  induction ws with
  | nil => intro i; simp [flatB]
  | cons a r ih =>
    intro i
    match i with
    | 0 => simp [flatB]
    | i + 1 =>
      show (blk a ++ flatB r).take ((i + 1) * 64) = blk a ++ flatB (r.take i)
      rw [show (i + 1) * 64 = (blk a).length + i * 64 by rw [blk_length]; omega, List.take_append, List.take_of_length_le (by omega), Nat.add_sub_cancel_left, ih i]
theorem flatB_append (a b : List UInt8) : flatB (a ++ b) = flatB a ++ flatB b := by simp [flatB]
theorem flatB_set (ws : List UInt8) (i : Nat) (b : UInt8) (h : i < ws.length) : splice (flatB ws) (i * 64) (blk b) = flatB (ws.set i b) := by
  unfold splice
  rw [blk_length, show i * 64 + 64 = (i + 1) * 64 by omega, flatB_drop, flatB_take, List.set_eq_take_append_cons_drop, if_pos h, flatB_append]
  rfl
theorem flatB_block (ws : List UInt8) (i : Nat) (h : i < ws.length) : ((flatB ws).drop (i * 64)).take 64 = blk ws[i] := by
  rw [flatB_drop, List.drop_eq_getElem_cons h]
  show (blk ws[i] ++ flatB (ws.drop (i + 1))).take 64 = blk ws[i]
  rw [List.take_append_of_le_length (by rw [blk_length]; omega), List.take_of_length_le (by rw [blk_length]; omega)]
theorem flatB_zero (n : Nat) : flatB (List.replicate n 0) = List.replicate (n * 64) 0 := by
  induction n with
  | zero => rfl
  | succ n ih =>
    show blk 0 ++ flatB (List.replicate n 0) = _
    rw [ih, show blk 0 = List.replicate 64 0 from rfl, List.replicate_append_replicate]
    congr 1; omega
/-- How the drum and the bytes to be there stand behind k writes of which m were armed. -/
structure CoAt (D : Dm) (ws : List UInt8) (m k : Nat) : Prop where
  off : D.off = decide (m < k)
  n : D.n = 8
  armed : D.armed = true
  left : D.left = m - k
  writes : D.writes = min k m
  all : D.all = flatB ws
  len : ws.length = 8
structure CoHas (ad : Nat → Addr) (w W : World) (g h v m k : Nat) : Prop where
  at_ : ∃ (D : Dm) (ws : List UInt8), DrumAt W g h D ∧ CoAt D ws m k ∧ Row W v 58 (ws.map bv)
  ne : v ≠ g ∧ v ≠ h
  lo : 2 ≤ g ∧ 2 ≤ h ∧ w.heap.size ≤ g ∧ w.heap.size ≤ h ∧ w.heap.size ≤ v
  below : Below w.heap.size w W
  errs : Errs W ad
theorem co_start {ad : Nat → Addr} {w W : World} {g h v m : Nat} (H : DrumAt W g h ((fresh 8).arm (m : Int))) (hv : Row W v 58 (List.replicate 8 (.int .u8 0))) (ne : v ≠ g ∧ v ≠ h) (lo : 2 ≤ g ∧ 2 ≤ h ∧ w.heap.size ≤ g ∧ w.heap.size ≤ h ∧ w.heap.size ≤ v) (hb : Below w.heap.size w W) (hE : Errs W ad) : CoHas ad w W g h v m 0 :=
  ⟨⟨_, List.replicate 8 0, H, ⟨by show false = _; simp, rfl, by simp [Dm.arm], by simp [Dm.arm], by show 0 = _; omega, by rw [flatB_zero]; rfl, rfl⟩, hv⟩, ne, lo, hb, hE⟩
/-- One of the writes that are armed. -/
theorem co_write (ad : Nat → Addr) (g h v m k i : Nat) (e z : Int) (b : UInt8) (w W : World) (H : CoHas ad w W g h v m k) (hi : i < 8) (he : e = (i : Int)) (hz : z = (b.toNat : Int)) (hk : k < m) (hm : m ≤ 20) :
    Calls Tryd.prog 16 #[.pointer (some ⟨g, 0, none⟩), .int .i64 e, .agg #[.int .u8 z, .int .u8 0, .int .u8 0, .int .u8 0, .int .u8 0, .int .u8 0, .int .u8 0, .int .u8 0, .int .u8 0, .int .u8 0, .int .u8 0, .int .u8 0, .int .u8 0, .int .u8 0, .int .u8 0, .int .u8 0, .int .u8 0, .int .u8 0, .int .u8 0, .int .u8 0, .int .u8 0, .int .u8 0, .int .u8 0, .int .u8 0, .int .u8 0, .int .u8 0, .int .u8 0, .int .u8 0, .int .u8 0, .int .u8 0, .int .u8 0, .int .u8 0, .int .u8 0, .int .u8 0, .int .u8 0, .int .u8 0, .int .u8 0, .int .u8 0, .int .u8 0, .int .u8 0, .int .u8 0, .int .u8 0, .int .u8 0, .int .u8 0, .int .u8 0, .int .u8 0, .int .u8 0, .int .u8 0, .int .u8 0, .int .u8 0, .int .u8 0, .int .u8 0, .int .u8 0, .int .u8 0, .int .u8 0, .int .u8 0, .int .u8 0, .int .u8 0, .int .u8 0, .int .u8 0, .int .u8 0, .int .u8 0, .int .u8 0, .int .u8 0]] W fun x W' => x = .returned .nilIface ∧ Hid (∃ (D : Dm) (ws : List UInt8), DrumAt W' g h D ∧ CoAt D (ws.set i b) m (k + 1) ∧ Row W' v 58 (ws.map bv) ∧ ws.length = 8 ∧ Below w.heap.size w W' ∧ Errs W' ad) := by
  obtain ⟨⟨D, ws, h1, h2, h3⟩, ne, lo, hb, hE⟩ := H
  refine (w_ok g i e z b W h1 he hz (by rw [h2.off]; simp; omega) (by rw [h2.n]; omega) (fun _ => by rw [h2.left]; omega) (by rw [h2.writes]; omega)).mono fun x W' ⟨hx, H⟩ => ⟨hx, Lib.hid ?_⟩
  have hbw : Below w.heap.size W W' := H.out.2.below (by rintro j (e | e) <;> omega) hb.size
  refine ⟨_, ws, H.out.1, ⟨?_, h2.n, h2.armed, ?_, ?_, ?_, by rw [List.length_set]; exact h2.len⟩, H.out.2.row h3 (not_two ne.1 ne.2), h2.len, hb.trans hbw, hE.turn H.out.2 (two_ge ⟨lo.1, lo.2.1⟩)⟩
  · show D.off = _
    rw [h2.off]; simp; omega
  · show (if D.armed then D.left - 1 else D.left) = _
    rw [if_pos h2.armed, h2.left]; omega
  · show D.writes + 1 = _
    rw [h2.writes]; omega
  · show splice D.all (i * 64) (blk b) = _
    rw [h2.all, flatB_set _ _ _ (by rw [h2.len]; exact hi)]
/-- One that is not: the power goes, or is off. -/
theorem co_power (ad : Nat → Addr) (g h v m k i : Nat) (e : Int) (A : Array Value) (w W : World) (H : CoHas ad w W g h v m k) (hi : i < 8) (he : e = (i : Int)) (hk : m ≤ k) :
    Calls Tryd.prog 16 #[.pointer (some ⟨g, 0, none⟩), .int .i64 e, .agg A] W fun x W' => x = .returned (.iface 67 (.pointer (some (ad 1)))) ∧ Hid (CoHas ad w W' g h v m (k + 1)) := by
  obtain ⟨⟨D, ws, h1, h2, h3⟩, ne, lo, hb, hE⟩ := H
  by_cases hkm : k = m
  · refine (w_power ad g i e A W hE ⟨lo.1, lo.2.1⟩ h1 he (by rw [h2.off]; simp; omega) (by rw [h2.n]; omega) h2.armed (by rw [h2.left]; omega)).mono fun x W' ⟨hx, H⟩ => ⟨hx, Lib.hid ?_⟩
    have hbw : Below w.heap.size W W' := H.out.2.below (by rintro j (e | e) <;> omega) hb.size
    refine ⟨⟨_, ws, H.out.1, ⟨?_, h2.n, h2.armed, ?_, ?_, h2.all, h2.len⟩, H.out.2.row h3 (not_two ne.1 ne.2)⟩, ne, lo, hb.trans hbw, hE.turn H.out.2 (two_ge ⟨lo.1, lo.2.1⟩)⟩
    · show true = _
      simp; omega
    · show D.left = _
      rw [h2.left]; omega
    · show D.writes = _
      rw [h2.writes]; omega
  · refine (write_off ad g e A W hE (by have := h1.row.lt; omega) h1 (by rw [h2.off]; simp; omega)).mono fun x W' ⟨hx, H⟩ => ⟨hx, Lib.hid ?_⟩
    refine ⟨⟨D, ws, h1.under H.out, ⟨?_, h2.n, h2.armed, ?_, ?_, h2.all, h2.len⟩, h3.below H.out h3.lt⟩, ne, lo, hb.trans (H.out.mono hb.size), hE.below (by have := h1.row.lt; omega) H.out⟩
    · rw [h2.off]; simp; omega
    · rw [h2.left]; omega
    · rw [h2.writes]; omega
/-- Between a write and its note. -/
structure CoMid (ad : Nat → Addr) (w W : World) (g h v m k i : Nat) (b : UInt8) (D : Dm) (ws : List UInt8) : Prop where
  has : DrumAt W g h D
  at_ : CoAt D (ws.set i b) m (k + 1)
  row : Row W v 58 (ws.map bv)
  len : ws.length = 8
  ne : v ≠ g ∧ v ≠ h
  lo : 2 ≤ g ∧ 2 ≤ h ∧ w.heap.size ≤ g ∧ w.heap.size ≤ h ∧ w.heap.size ≤ v
  below : Below w.heap.size w W
  errs : Errs W ad
theorem co_write' (ad : Nat → Addr) (g h v m k i : Nat) (z : Int) (b : UInt8) (w W : World) (H : CoHas ad w W g h v m k) (hi : i < 8) (hz : z = (b.toNat : Int)) (hk : k < m) (hm : m ≤ 20) :
    Calls Tryd.prog 16 #[.pointer (some ⟨g, 0, none⟩), .int .i64 (i : Int), .agg #[.int .u8 z, .int .u8 0, .int .u8 0, .int .u8 0, .int .u8 0, .int .u8 0, .int .u8 0, .int .u8 0, .int .u8 0, .int .u8 0, .int .u8 0, .int .u8 0, .int .u8 0, .int .u8 0, .int .u8 0, .int .u8 0, .int .u8 0, .int .u8 0, .int .u8 0, .int .u8 0, .int .u8 0, .int .u8 0, .int .u8 0, .int .u8 0, .int .u8 0, .int .u8 0, .int .u8 0, .int .u8 0, .int .u8 0, .int .u8 0, .int .u8 0, .int .u8 0, .int .u8 0, .int .u8 0, .int .u8 0, .int .u8 0, .int .u8 0, .int .u8 0, .int .u8 0, .int .u8 0, .int .u8 0, .int .u8 0, .int .u8 0, .int .u8 0, .int .u8 0, .int .u8 0, .int .u8 0, .int .u8 0, .int .u8 0, .int .u8 0, .int .u8 0, .int .u8 0, .int .u8 0, .int .u8 0, .int .u8 0, .int .u8 0, .int .u8 0, .int .u8 0, .int .u8 0, .int .u8 0, .int .u8 0, .int .u8 0, .int .u8 0, .int .u8 0]] W fun x W' => x = .returned .nilIface ∧ ∃ D ws, Hid (CoMid ad w W' g h v m k i b D ws) :=
  (co_write ad g h v m k i _ z b w W H hi rfl hz hk hm).mono fun x W' ⟨hx, H'⟩ => ⟨hx, by
    obtain ⟨D, ws, h1, h2, h3, h4, h5, h6⟩ := H'.out
    exact ⟨D, ws, Lib.hid ⟨h1, h2, h3, h4, H.ne, H.lo, h5, h6⟩⟩⟩
theorem CoMid.cell {ad : Nat → Addr} {w W : World} {g h v m k i : Nat} {b : UInt8} {D : Dm} {ws : List UInt8} (H : CoMid ad w W g h v m k i b D ws) (hi : i < 8) : W.cell? ⟨v, i, none⟩ = some (bv (ws[i]'(by rw [H.len]; exact hi))) := by
  rw [H.row.cell, List.getElem?_map, List.getElem?_eq_getElem (by rw [H.len]; exact hi)]; rfl
theorem CoMid.next {ad : Nat → Addr} {w W : World} {g h v m k i : Nat} {b : UInt8} {D : Dm} {ws : List UInt8} (H : CoMid ad w W g h v m k i b D ws) (z : Int) (hz : z = (b.toNat : Int)) : CoHas ad w (W.setCell ⟨v, i, none⟩ (.int .u8 z)) g h v m (k + 1) := by
  subst hz
  have ht : Turn (fun j => j = v) W (W.setCell ⟨v, i, none⟩ (.int .u8 (b.toNat : Int))) := (Turn.refl (fun j => j = v) W).setCell ⟨v, i, none⟩ (fun _ => rfl) _
  have hr := H.row.set i (.int .u8 (b.toNat : Int))
  have e : (ws.map bv).set i (.int .u8 (b.toNat : Int)) = (ws.set i b).map bv := by rw [List.map_set]; rfl
  rw [e] at hr
  have hv2 : 2 ≤ v ∨ v < 2 := by omega
  refine ⟨⟨D, _, H.has.turn ht (fun e => H.ne.1 e.symm) (fun e => H.ne.2 e.symm), H.at_, hr⟩, H.ne, H.lo, H.below.trans (ht.below (fun j hj => by rw [hj]; exact H.lo.2.2.2.2) H.below.size), ?_⟩
  exact ⟨fun j hj => (cell_block (p := ⟨j, 0, none⟩) (Below.heap_setCell _ _ _ _ (fun e => by
    have h1 := H.errs.cell j hj
    have e' : j = v := e
    rw [e', H.row.cell] at h1
    simp only [List.getElem?_map, Option.map_eq_some_iff] at h1
    obtain ⟨b', _, h2⟩ := h1
    cases h2))).trans (H.errs.cell j hj)⟩
theorem co_off_mid (ad : Nat → Addr) (g h v m k i : Nat) (b : UInt8) (D : Dm) (ws : List UInt8) (w W : World) (H : CoMid ad w W g h v m k i b D ws) (hk : k < m) : Calls Tryd.prog 11 #[.pointer (some ⟨g, 0, none⟩)] W fun x w' => x = .returned (.bool false) ∧ W = w' := by
  have := off_any g W H.has
  rwa [H.at_.off, show decide (m < k + 1) = false by simp; omega] at this
theorem co_off (ad : Nat → Addr) (g h v m k : Nat) (r : Bool) (w W : World) (H : CoHas ad w W g h v m k) (hr : r = decide (m < k)) : Calls Tryd.prog 11 #[.pointer (some ⟨g, 0, none⟩)] W fun x w' => x = .returned (.bool r) ∧ W = w' := by
  obtain ⟨⟨D, ws, h1, h2, h3⟩, _⟩ := H
  have := off_any g W h1
  rwa [h2.off, ← hr] at this
/-- With the power on again. -/
structure CoOn (w W : World) (g h v r : Nat) (D : Dm) (ws : List UInt8) : Prop where
  has : DrumAt W g h D
  off : D.off = false
  n : D.n = 8
  writes : D.writes = r
  all : D.all = flatB ws
  len : ws.length = 8
  row : Row W v 58 (ws.map bv)
  below : Below w.heap.size w W
theorem CoOn.under {w W W' : World} {g h v r : Nat} {D : Dm} {ws : List UInt8} (H : CoOn w W g h v r D ws) (hb : Below W.heap.size W W') : CoOn w W' g h v r D ws := ⟨H.has.under hb, H.off, H.n, H.writes, H.all, H.len, H.row.below hb H.row.lt, H.below.trans (hb.mono H.below.size)⟩
theorem CoOn.stay {w W W' : World} {g h v r : Nat} {D : Dm} {ws : List UInt8} (H : CoOn w W g h v r D ws) (hb : Stay W W') : CoOn w W' g h v r D ws := H.under ⟨hb.os, hb.tape, hb.output, by rw [hb.heap]; exact Nat.le_refl _, fun k _ => by rw [hb.heap]⟩
theorem co_on (ad : Nat → Addr) (g h v m k : Nat) (w W : World) (H : CoHas ad w W g h v m k) : Calls Tryd.prog 23 #[.pointer (some ⟨g, 0, none⟩)] W fun x W' => x = .returned (.tuple #[]) ∧ ∃ D ws, Hid (CoOn w W' g h v (min k m) D ws) := by
  obtain ⟨⟨D, ws, h1, h2, h3⟩, ne, lo, hb, hE⟩ := H
  refine (on_any g W h1).mono fun x W' ⟨hx, H⟩ => ⟨hx, D.on, ws, Lib.hid ⟨H.out.1, rfl, h2.n, h2.writes, h2.all, h2.len, H.out.2.row h3 (not_two ne.1 ne.2), hb.trans (H.out.2.below (by rintro j (e | e) <;> omega) hb.size)⟩⟩
theorem co_read (g h v r i : Nat) (b : UInt8) (D : Dm) (ws : List UInt8) (w W : World) (H : CoOn w W g h v r D ws) (hi : i < 8) (hb : ws[i]? = some b) :
    Calls Tryd.prog 19 #[.pointer (some ⟨g, 0, none⟩), .int .i64 (i : Int)] W fun x w' => ∃ A, x = .returned (.tuple #[.agg A, .nilIface]) ∧ Hid (A = ((blk b).map bv).toArray ∧ Below W.heap.size W w') := by
  have := read_ok g i W H.has H.off (by rw [H.n]; exact hi)
  have e : D.block i = blk b := by
    unfold Dm.block
    rw [H.all, flatB_block _ _ (by rw [H.len]; exact hi)]
    congr 1
    exact Option.some.inj ((List.getElem?_eq_getElem _).symm.trans hb)
  rwa [e] at this
theorem co_writes (g h v r : Nat) (D : Dm) (ws : List UInt8) (w W : World) (H : CoOn w W g h v r D ws) : Calls Tryd.prog 25 #[.pointer (some ⟨g, 0, none⟩)] W fun x w' => x = .returned (.int .i64 (r : Int)) ∧ W = w' := by
  have := writes_any g W H.has
  rwa [H.writes] at this
end Go.Proofs.YtadhgdjgpanddaaDoor

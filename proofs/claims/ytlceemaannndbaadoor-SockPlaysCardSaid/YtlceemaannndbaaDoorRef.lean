/- The document's pair: what it holds, where it lies, what its functions answer. -/
import Derived.Test.YtlceemaannndbaaDoorAny
namespace Go.Proofs.YtlceemaannndbaaDoor
open Go.RowKit

structure Ry where
  all : List UInt8
  car : Nat
  rd : Nat
  shut : Bool
structure Rp where
  room : Nat
  ws : Nat → Ry
  cut : Bool
def Rp.put (P : Rp) (i : Nat) (W : Ry) : Rp := { P with ws := fun j => if j = i then W else P.ws j }
theorem Rp.put_same (P : Rp) (i : Nat) (W : Ry) : (P.put i W).ws i = W := by simp [Rp.put]
theorem Rp.put_other (P : Rp) {i j : Nat} (W : Ry) (h : j ≠ i) : (P.put i W).ws j = P.ws j := by simp [Rp.put, h]
theorem rput_put (P : Rp) (i : Nat) (W W' : Ry) : (P.put i W).put i W' = P.put i W' := by
  unfold Rp.put
  congr 1
  funext j
  by_cases e : j = i <;> simp [e]
def cellsR (P : Rp) (v : Nat → Value) : List Value :=
  [.int .i64 (P.room : Int), v 0, .int .i64 ((P.ws 0).car : Int), .int .i64 ((P.ws 0).rd : Int), .bool (P.ws 0).shut, v 1, .int .i64 ((P.ws 1).car : Int), .int .i64 ((P.ws 1).rd : Int), .bool (P.ws 1).shut, .bool P.cut]
theorem rcells_all (P : Rp) (v : Nat → Value) {i : Nat} (h : i < 2) : (cellsR P v)[1 + i * 4]? = some (v i) := by rcases (by omega : i = 0 ∨ i = 1) with rfl | rfl <;> rfl
theorem rcells_car (P : Rp) (v : Nat → Value) {i : Nat} (h : i < 2) : (cellsR P v)[1 + i * 4 + 1]? = some (.int .i64 ((P.ws i).car : Int)) := by rcases (by omega : i = 0 ∨ i = 1) with rfl | rfl <;> rfl
theorem rcells_rd (P : Rp) (v : Nat → Value) {i : Nat} (h : i < 2) : (cellsR P v)[1 + i * 4 + 2]? = some (.int .i64 ((P.ws i).rd : Int)) := by rcases (by omega : i = 0 ∨ i = 1) with rfl | rfl <;> rfl
theorem rcells_shut (P : Rp) (v : Nat → Value) {i : Nat} (h : i < 2) : (cellsR P v)[1 + i * 4 + 3]? = some (.bool (P.ws i).shut) := by rcases (by omega : i = 0 ∨ i = 1) with rfl | rfl <;> rfl
theorem rset_all (P : Rp) (v : Nat → Value) {i : Nat} (h : i < 2) (x : Value) (bs : List UInt8) : (cellsR P v).set (1 + i * 4) x = cellsR (P.put i { P.ws i with all := bs }) (upd v i x) := by
  rcases (by omega : i = 0 ∨ i = 1) with rfl | rfl <;> simp [cellsR, Rp.put, upd]
theorem rset_car (P : Rp) (v : Nat → Value) {i : Nat} (h : i < 2) (n : Nat) : (cellsR P v).set (1 + i * 4 + 1) (.int .i64 (n : Int)) = cellsR (P.put i { P.ws i with car := n }) v := by
  rcases (by omega : i = 0 ∨ i = 1) with rfl | rfl <;> simp [cellsR, Rp.put]
theorem rset_rd (P : Rp) (v : Nat → Value) {i : Nat} (h : i < 2) (n : Nat) : (cellsR P v).set (1 + i * 4 + 2) (.int .i64 (n : Int)) = cellsR (P.put i { P.ws i with rd := n }) v := by
  rcases (by omega : i = 0 ∨ i = 1) with rfl | rfl <;> simp [cellsR, Rp.put]
theorem rset_shut (P : Rp) (v : Nat → Value) {i : Nat} (h : i < 2) (b : Bool) : (cellsR P v).set (1 + i * 4 + 3) (.bool b) = cellsR (P.put i { P.ws i with shut := b }) v := by
  rcases (by omega : i = 0 ∨ i = 1) with rfl | rfl <;> simp [cellsR, Rp.put]
theorem rset_cut (P : Rp) (v : Nat → Value) (b : Bool) : (cellsR P v).set 9 (.bool b) = cellsR { P with cut := b } v := rfl

structure Rp.ok (P : Rp) : Prop where
  room : P.room ≤ 65536
  rd : ∀ i, (P.ws i).rd ≤ (P.ws i).car
  car : ∀ i, (P.ws i).car ≤ (P.ws i).all.length
  left : ∀ i, (P.ws i).all.length ≤ (P.ws i).rd + P.room
  big : ∀ i, (P.ws i).all.length ≤ 70368744177664
structure RefV (w : World) (B : Nat) (F : Nat → Prop) (g : Nat) (P : Rp) (v : Nat → Value) : Prop where
  row : Row w g 35 (cellsR P v)
  span : ∀ i, i < 2 → Span w (v i) (P.ws i).all
  ne : ∀ i, i < 2 → (v i).ownBlock ≠ some g
  apart : ∀ k, (v 0).ownBlock = some k → (v 1).ownBlock ≠ some k
  self : F g
  foot : ∀ i, i < 2 → ∀ k, (v i).ownBlock = some k → F k
  lt : ∀ k, F k → k < w.heap.size
  lo : ∀ k, F k → B ≤ k
def RefAt (w : World) (B : Nat) (F : Nat → Prop) (g : Nat) (P : Rp) : Prop := ∃ v, RefV w B F g P v ∧ P.ok
theorem RefV.set {w : World} {B : Nat} {F : Nat → Prop} {g : Nat} {P P' : Rp} {v v' : Nat → Value} (h : RefV w B F g P v) (k : Nat) (x : Value) (hc : (cellsR P v).set k x = cellsR P' v')
    (hsp : ∀ i, i < 2 → Span w (v' i) (P'.ws i).all) (hob : ∀ i, i < 2 → (v' i).ownBlock = (v i).ownBlock) : RefV (w.setCell ⟨g, k, none⟩ x) B F g P' v' := by
  have hz : (w.setCell ⟨g, k, none⟩ x).heap.size = w.heap.size := by simp [World.setCell]
  refine ⟨by rw [← hc]; exact h.row.set k x, fun i hi => (hsp i hi).keep (by rw [hz]; exact Nat.le_refl _) (fun b hb => Below.heap_setCell _ _ _ _ (fun e => ?_)), fun i hi => by rw [hob i hi]; exact h.ne i hi, ?_, h.self, fun i hi b hb => h.foot i hi b (by rw [← hob i hi]; exact hb), fun b hb => by rw [hz]; exact h.lt b hb, h.lo⟩
  · rw [hob i hi, e] at hb
    exact h.ne i hi hb
  · rw [hob 0 (by omega), hob 1 (by omega)]
    exact h.apart
theorem RefV.setAll {w : World} {B : Nat} {F : Nat → Prop} {g : Nat} {P : Rp} {v : Nat → Value} (h : RefV w B F g P v) {i : Nat} (hi : i < 2) (x : Value) (bs : List UInt8) (hs : Span w x bs) (ho : x.ownBlock = (v i).ownBlock) :
    RefV (w.setCell ⟨g, 1 + i * 4, none⟩ x) B F g (P.put i { P.ws i with all := bs }) (upd v i x) := by
  refine h.set _ x (rset_all P v hi x bs) (fun j hj => ?_) (fun j hj => ?_)
  · by_cases e : j = i
    · subst e; rw [upd_same, Rp.put_same]; exact hs
    · rw [upd_other v x e, Rp.put_other P _ e]; exact h.span j hj
  · by_cases e : j = i
    · subst e; rw [upd_same]; exact ho
    · rw [upd_other v x e]
theorem RefV.span_put {w : World} {B : Nat} {F : Nat → Prop} {g : Nat} {P : Rp} {v : Nat → Value} (h : RefV w B F g P v) (i : Nat) (W : Ry) (hW : W.all = (P.ws i).all) : ∀ j, j < 2 → Span w (v j) ((P.put i W).ws j).all := by
  intro j hj
  by_cases e : j = i
  · subst e; rw [Rp.put_same, hW]; exact h.span j hj
  · rw [Rp.put_other P _ e]; exact h.span j hj
theorem RefV.setCar {w : World} {B : Nat} {F : Nat → Prop} {g : Nat} {P : Rp} {v : Nat → Value} (h : RefV w B F g P v) {i : Nat} (hi : i < 2) (z : Int) (n : Nat) (hz : z = (n : Int)) :
    RefV (w.setCell ⟨g, 1 + i * 4 + 1, none⟩ (.int .i64 z)) B F g (P.put i { P.ws i with car := n }) v := by
  subst hz
  exact h.set _ _ (rset_car P v hi n) (h.span_put i _ rfl) (fun _ _ => rfl)
theorem RefV.setRd {w : World} {B : Nat} {F : Nat → Prop} {g : Nat} {P : Rp} {v : Nat → Value} (h : RefV w B F g P v) {i : Nat} (hi : i < 2) (z : Int) (n : Nat) (hz : z = (n : Int)) :
    RefV (w.setCell ⟨g, 1 + i * 4 + 2, none⟩ (.int .i64 z)) B F g (P.put i { P.ws i with rd := n }) v := by
  subst hz
  exact h.set _ _ (rset_rd P v hi n) (h.span_put i _ rfl) (fun _ _ => rfl)
theorem RefV.setShut {w : World} {B : Nat} {F : Nat → Prop} {g : Nat} {P : Rp} {v : Nat → Value} (h : RefV w B F g P v) {i : Nat} (hi : i < 2) (b : Bool) :
    RefV (w.setCell ⟨g, 1 + i * 4 + 3, none⟩ (.bool b)) B F g (P.put i { P.ws i with shut := b }) v := h.set _ _ (rset_shut P v hi b) (h.span_put i _ rfl) (fun _ _ => rfl)
theorem RefV.setCut {w : World} {B : Nat} {F : Nat → Prop} {g : Nat} {P : Rp} {v : Nat → Value} (h : RefV w B F g P v) (b : Bool) :
    RefV (w.setCell ⟨g, 9, none⟩ (.bool b)) B F g { P with cut := b } v := h.set _ _ (rset_cut P v b) (fun i hi => h.span i hi) (fun _ _ => rfl)
theorem RefV.turn_set {w : World} {B : Nat} {F : Nat → Prop} {g : Nat} {P : Rp} {v : Nat → Value} (h : RefV w B F g P v) (k : Nat) (x : Value) : Turn F w (w.setCell ⟨g, k, none⟩ x) := (Turn.refl F w).setCell _ (fun _ => h.self) x
theorem RefV.keep {w w' : World} {B : Nat} {F : Nat → Prop} {g : Nat} {P : Rp} {v : Nat → Value} (h : RefV w B F g P v) (hs : w.heap.size ≤ w'.heap.size) (hk : ∀ k, F k → w'.heap[k]? = w.heap[k]?) : RefV w' B F g P v :=
  ⟨(hk g h.self).trans h.row, fun i hi => (h.span i hi).keep hs fun k hk' => hk k (h.foot i hi k hk'), h.ne, h.apart, h.self, h.foot, fun k hf => Nat.lt_of_lt_of_le (h.lt k hf) hs, h.lo⟩
theorem RefAt.keep {w w' : World} {B : Nat} {F : Nat → Prop} {g : Nat} {P : Rp} (h : RefAt w B F g P) (hs : w.heap.size ≤ w'.heap.size) (hk : ∀ k, F k → w'.heap[k]? = w.heap[k]?) : RefAt w' B F g P := by
  obtain ⟨v, h, ho⟩ := h
  exact ⟨v, h.keep hs hk, ho⟩
theorem RefAt.lt {w : World} {B : Nat} {F : Nat → Prop} {g : Nat} {P : Rp} (h : RefAt w B F g P) : ∀ k, F k → k < w.heap.size := by obtain ⟨v, h, _⟩ := h; exact h.lt
theorem RefAt.ok {w : World} {B : Nat} {F : Nat → Prop} {g : Nat} {P : Rp} (h : RefAt w B F g P) : P.ok := by obtain ⟨v, _, h⟩ := h; exact h
theorem RefV.at {w : World} {B : Nat} {F : Nat → Prop} {g : Nat} {P : Rp} {v : Nat → Value} (h : RefV w B F g P v) {i : Nat} (hi : i < 2) :
    ∃ A cap, v i = .slice A (P.ws i).all.length cap ∧ (P.ws i).all.length ≤ cap ∧ cap ≤ 9223372036854775807 ∧ w.cell? ⟨g, 1 + i * 4, none⟩ = some (.slice A (P.ws i).all.length cap) ∧ w.cell? ⟨g, 1 + i * 4 + 1, none⟩ = some (.int .i64 ((P.ws i).car : Int)) ∧
      w.cell? ⟨g, 1 + i * 4 + 2, none⟩ = some (.int .i64 ((P.ws i).rd : Int)) ∧ w.cell? ⟨g, 1 + i * 4 + 3, none⟩ = some (.bool (P.ws i).shut) := by
  obtain ⟨A, cap, e, h1, h2, _⟩ := (h.span i hi).slice
  exact ⟨A, cap, e, h1, h2, by rw [h.row.cell, rcells_all P v hi, e], by rw [h.row.cell, rcells_car P v hi], by rw [h.row.cell, rcells_rd P v hi], by rw [h.row.cell, rcells_shut P v hi]⟩
theorem RefV.cut {w : World} {B : Nat} {F : Nat → Prop} {g : Nat} {P : Rp} {v : Nat → Value} (h : RefV w B F g P v) : w.cell? ⟨g, 9, none⟩ = some (.bool P.cut) := by rw [h.row.cell]; rfl
theorem RefV.room {w : World} {B : Nat} {F : Nat → Prop} {g : Nat} {P : Rp} {v : Nat → Value} (h : RefV w B F g P v) : w.cell? ⟨g, 0, none⟩ = some (.int .i64 (P.room : Int)) := by rw [h.row.cell]; rfl

theorem rend_any (e : Int) (w : World) : Calls Tryd.prog 33 #[.int .i64 e] w fun x w' => x = .returned (.bool (endB e)) ∧ w = w' := by
  by_cases h0 : e = 0
  · subst h0
    go_enter Tryd.func33, Tryd.ntmps33
    go_wp2_with fail
    go_ret
    exact ⟨rfl, rfl⟩
  · by_cases h1 : e = 1
    · subst h1
      go_enter Tryd.func33, Tryd.ntmps33
      go_wp2_with fail
      go_ret
      exact ⟨rfl, rfl⟩
    · have a0 : (e == 0) = false := by simpa using h0
      have a1 : (e == 1) = false := by simpa using h1
      have HE : Hid (endB e = false) := Lib.hid (by simp [endB, h0, h1])
      clear h0 h1
      go_enter Tryd.func33, Tryd.ntmps33
      go_wp2_with fail
      go_ret
      exact ⟨ret_bool HE.out.symm, rfl⟩
theorem rend_true (i : Nat) (h : i < 2) (w : World) : Calls Tryd.prog 33 #[.int .i64 (i : Int)] w fun x w' => x = .returned (.bool true) ∧ w = w' := by
  have := rend_any (i : Int) w
  rwa [end_nat h] at this
theorem rend_false (e : Int) (h : endB e = false) (w : World) : Calls Tryd.prog 33 #[.int .i64 e] w fun x w' => x = .returned (.bool false) ∧ w = w' := by
  have := rend_any e w
  rwa [h] at this

/-! What only reads. -/
def Rp.free (P : Rp) (i : Nat) : Nat := if P.cut || (P.ws i).shut then 0 else P.room - ((P.ws i).all.length - (P.ws i).rd)
set_option maxHeartbeats 1000000 in
theorem rfree_any {B : Nat} {F : Nat → Prop} {P : Rp} (g i : Nat) (w : World) (h : RefAt w B F g P) (hi : i < 2) :
    Calls Tryd.prog 24 #[.pointer (some ⟨g, 0, none⟩), .int .i64 (i : Int)] w fun x w' => x = .returned (.int .i64 (P.free i : Int)) ∧ ∃ n, w' = w.drewN n := by
  obtain ⟨v, h, hok⟩ := h
  obtain ⟨A, cap, _, h1, h2, c0, c1, c2, c3⟩ := h.at hi
  have cc := h.cut
  have cr := h.room
  have k1 := hok.rd i
  have k2 := hok.car i
  have k3 := hok.room
  have k4 := hok.left i
  have k5 := hok.big i
  clear h hok
  cases hc : P.cut
  · rw [hc] at cc
    cases hs : (P.ws i).shut
    · rw [hs] at c3
      have HF : Hid ((P.free i : Int) = (P.room : Int) - (((P.ws i).all.length : Int) - ((P.ws i).rd : Int))) := Lib.hid (by simp [Rp.free, hc, hs]; omega)
      clear hc hs
      go_enter Tryd.func24, Tryd.ntmps24
      go_wp2_with (first
        | (go_at_call 33; (with_reducible refine (rend_true _ hi _).mono ?_); rintro x w' ⟨rfl, rfl⟩))
      go_quiet (fail)
      go_wp2_with fail
      go_ret
      exact ⟨ret_int HF.out.symm, _, rfl⟩
    · rw [hs] at c3
      have HF : Hid (P.free i = 0) := Lib.hid (by simp [Rp.free, hs])
      clear hc hs
      go_enter Tryd.func24, Tryd.ntmps24
      go_wp2_with (first
        | (go_at_call 33; (with_reducible refine (rend_true _ hi _).mono ?_); rintro x w' ⟨rfl, rfl⟩))
      go_ret
      exact ⟨by rw [HF.out]; rfl, 0, rfl⟩
  · rw [hc] at cc
    have HF : Hid (P.free i = 0) := Lib.hid (by simp [Rp.free, hc])
    clear hc
    go_enter Tryd.func24, Tryd.ntmps24
    go_wp2_with (first
      | (go_at_call 33; (with_reducible refine (rend_true _ hi _).mono ?_); rintro x w' ⟨rfl, rfl⟩))
    go_ret
    exact ⟨by rw [HF.out]; rfl, 0, rfl⟩
end Go.Proofs.YtlceemaannndbaaDoor

/- What a pair holds, as mathematics, and where it lies; what the small functions of package sock answer. -/
import Derived.Test.YtlceemaannndbaaDoorBase
import Derived.Deep.QuietTactic
namespace Go.Proofs.YtlceemaannndbaaDoor
open Go.RowKit

/-- What is under way from one end: the inbox of the other, and behind it the flight. -/
structure Wy where
  row : List UInt8
  car : Nat
  shut : Bool
  torn : Bool
structure Pr where
  room : Nat
  ws : Nat → Wy
  cut : Bool
/-- Nothing is left to read, nor ever will be, and nothing was lost. -/
def Wy.over (W : Wy) : Bool := W.shut && !W.torn && decide (W.row.length = 0)
def Pr.put (P : Pr) (i : Nat) (W : Wy) : Pr := { P with ws := fun j => if j = i then W else P.ws j }
def upd (v : Nat → Value) (i : Nat) (x : Value) : Nat → Value := fun j => if j = i then x else v j
theorem Pr.put_same (P : Pr) (i : Nat) (W : Wy) : (P.put i W).ws i = W := by simp [Pr.put]
theorem Pr.put_other (P : Pr) {i j : Nat} (W : Wy) (h : j ≠ i) : (P.put i W).ws j = P.ws j := by simp [Pr.put, h]
theorem upd_same (v : Nat → Value) (i : Nat) (x : Value) : upd v i x i = x := by simp [upd]
theorem upd_other (v : Nat → Value) {i j : Nat} (x : Value) (h : j ≠ i) : upd v i x j = v j := by simp [upd, h]

/-- A pair's cells. -/
def cellsP (P : Pr) (v : Nat → Value) : List Value :=
  [.int .i64 (P.room : Int), v 0, .int .i64 ((P.ws 0).car : Int), .bool (P.ws 0).shut, .bool (P.ws 0).torn, v 1, .int .i64 ((P.ws 1).car : Int), .bool (P.ws 1).shut, .bool (P.ws 1).torn, .bool P.cut]
theorem cells_room (P : Pr) (v : Nat → Value) : (cellsP P v)[0]? = some (.int .i64 (P.room : Int)) := rfl
theorem cells_cut (P : Pr) (v : Nat → Value) : (cellsP P v)[9]? = some (.bool P.cut) := rfl
theorem cells_row (P : Pr) (v : Nat → Value) {i : Nat} (h : i < 2) : (cellsP P v)[1 + i * 4]? = some (v i) := by
  rcases (by omega : i = 0 ∨ i = 1) with rfl | rfl <;> rfl
theorem cells_car (P : Pr) (v : Nat → Value) {i : Nat} (h : i < 2) : (cellsP P v)[1 + i * 4 + 1]? = some (.int .i64 ((P.ws i).car : Int)) := by
  rcases (by omega : i = 0 ∨ i = 1) with rfl | rfl <;> rfl
theorem cells_shut (P : Pr) (v : Nat → Value) {i : Nat} (h : i < 2) : (cellsP P v)[1 + i * 4 + 2]? = some (.bool (P.ws i).shut) := by
  rcases (by omega : i = 0 ∨ i = 1) with rfl | rfl <;> rfl
theorem cells_torn (P : Pr) (v : Nat → Value) {i : Nat} (h : i < 2) : (cellsP P v)[1 + i * 4 + 3]? = some (.bool (P.ws i).torn) := by
  rcases (by omega : i = 0 ∨ i = 1) with rfl | rfl <;> rfl
theorem set_row (P : Pr) (v : Nat → Value) {i : Nat} (h : i < 2) (x : Value) (bs : List UInt8) : (cellsP P v).set (1 + i * 4) x = cellsP (P.put i { P.ws i with row := bs }) (upd v i x) := by
  rcases (by omega : i = 0 ∨ i = 1) with rfl | rfl <;> simp [cellsP, Pr.put, upd]
theorem set_car (P : Pr) (v : Nat → Value) {i : Nat} (h : i < 2) (n : Nat) : (cellsP P v).set (1 + i * 4 + 1) (.int .i64 (n : Int)) = cellsP (P.put i { P.ws i with car := n }) v := by
  rcases (by omega : i = 0 ∨ i = 1) with rfl | rfl <;> simp [cellsP, Pr.put]
theorem set_shut (P : Pr) (v : Nat → Value) {i : Nat} (h : i < 2) (b : Bool) : (cellsP P v).set (1 + i * 4 + 2) (.bool b) = cellsP (P.put i { P.ws i with shut := b }) v := by
  rcases (by omega : i = 0 ∨ i = 1) with rfl | rfl <;> simp [cellsP, Pr.put]
theorem set_torn (P : Pr) (v : Nat → Value) {i : Nat} (h : i < 2) (b : Bool) : (cellsP P v).set (1 + i * 4 + 3) (.bool b) = cellsP (P.put i { P.ws i with torn := b }) v := by
  rcases (by omega : i = 0 ∨ i = 1) with rfl | rfl <;> simp [cellsP, Pr.put]
theorem set_cut (P : Pr) (v : Nat → Value) (b : Bool) : (cellsP P v).set 9 (.bool b) = cellsP { P with cut := b } v := rfl

/-- The numbers that a pair keeps to. -/
structure Pr.ok (P : Pr) : Prop where
  room : P.room ≤ 65536
  row : ∀ i, (P.ws i).row.length ≤ P.room
  car : ∀ i, (P.ws i).car ≤ (P.ws i).row.length

/-- The pair P lies at block g; its cells are v; its blocks are all of F. -/
structure PairV (w : World) (B : Nat) (F : Nat → Prop) (g : Nat) (P : Pr) (v : Nat → Value) : Prop where
  row : Row w g 64 (cellsP P v)
  span : ∀ i, i < 2 → Span w (v i) (P.ws i).row
  ne : ∀ i, i < 2 → (v i).ownBlock ≠ some g
  apart : ∀ k, (v 0).ownBlock = some k → (v 1).ownBlock ≠ some k
  self : F g
  foot : ∀ i, i < 2 → ∀ k, (v i).ownBlock = some k → F k
  lt : ∀ k, F k → k < w.heap.size
  lo : ∀ k, F k → B ≤ k
def PairAt (w : World) (B : Nat) (F : Nat → Prop) (g : Nat) (P : Pr) : Prop := ∃ v, PairV w B F g P v ∧ P.ok

/-- One cell of the pair's row is written anew. -/
theorem PairV.set {w : World} {B : Nat} {F : Nat → Prop} {g : Nat} {P P' : Pr} {v v' : Nat → Value} (h : PairV w B F g P v) (k : Nat) (x : Value) (hc : (cellsP P v).set k x = cellsP P' v')
    (hsp : ∀ i, i < 2 → Span w (v' i) (P'.ws i).row) (hob : ∀ i, i < 2 → (v' i).ownBlock = (v i).ownBlock) : PairV (w.setCell ⟨g, k, none⟩ x) B F g P' v' := by
  have hz : (w.setCell ⟨g, k, none⟩ x).heap.size = w.heap.size := by simp [World.setCell]
  refine ⟨by rw [← hc]; exact h.row.set k x, fun i hi => (hsp i hi).keep (by rw [hz]; exact Nat.le_refl _) (fun b hb => Below.heap_setCell _ _ _ _ (fun e => ?_)), fun i hi => by rw [hob i hi]; exact h.ne i hi, ?_, h.self, fun i hi b hb => h.foot i hi b (by rw [← hob i hi]; exact hb), fun b hb => by rw [hz]; exact h.lt b hb, h.lo⟩
  · rw [hob i hi, e] at hb
    exact h.ne i hi hb
  · rw [hob 0 (by omega), hob 1 (by omega)]
    exact h.apart
theorem PairV.setRow {w : World} {B : Nat} {F : Nat → Prop} {g : Nat} {P : Pr} {v : Nat → Value} (h : PairV w B F g P v) {i : Nat} (hi : i < 2) (x : Value) (bs : List UInt8) (hs : Span w x bs) (ho : x.ownBlock = (v i).ownBlock) :
    PairV (w.setCell ⟨g, 1 + i * 4, none⟩ x) B F g (P.put i { P.ws i with row := bs }) (upd v i x) := by
  refine h.set _ x (set_row P v hi x bs) (fun j hj => ?_) (fun j hj => ?_)
  · by_cases e : j = i
    · subst e; rw [upd_same, Pr.put_same]; exact hs
    · rw [upd_other v x e, Pr.put_other P _ e]; exact h.span j hj
  · by_cases e : j = i
    · subst e; rw [upd_same]; exact ho
    · rw [upd_other v x e]
theorem PairV.span_put {w : World} {B : Nat} {F : Nat → Prop} {g : Nat} {P : Pr} {v : Nat → Value} (h : PairV w B F g P v) (i : Nat) (W : Wy) (hW : W.row = (P.ws i).row) : ∀ j, j < 2 → Span w (v j) ((P.put i W).ws j).row := by
  intro j hj
  by_cases e : j = i
  · subst e; rw [Pr.put_same, hW]; exact h.span j hj
  · rw [Pr.put_other P _ e]; exact h.span j hj
theorem PairV.setCar {w : World} {B : Nat} {F : Nat → Prop} {g : Nat} {P : Pr} {v : Nat → Value} (h : PairV w B F g P v) {i : Nat} (hi : i < 2) (z : Int) (n : Nat) (hz : z = (n : Int)) :
    PairV (w.setCell ⟨g, 1 + i * 4 + 1, none⟩ (.int .i64 z)) B F g (P.put i { P.ws i with car := n }) v := by
  subst hz
  exact h.set _ _ (set_car P v hi n) (h.span_put i _ rfl) (fun _ _ => rfl)
theorem PairV.setShut {w : World} {B : Nat} {F : Nat → Prop} {g : Nat} {P : Pr} {v : Nat → Value} (h : PairV w B F g P v) {i : Nat} (hi : i < 2) (b : Bool) :
    PairV (w.setCell ⟨g, 1 + i * 4 + 2, none⟩ (.bool b)) B F g (P.put i { P.ws i with shut := b }) v := h.set _ _ (set_shut P v hi b) (h.span_put i _ rfl) (fun _ _ => rfl)
theorem PairV.setTorn {w : World} {B : Nat} {F : Nat → Prop} {g : Nat} {P : Pr} {v : Nat → Value} (h : PairV w B F g P v) {i : Nat} (hi : i < 2) (b : Bool) :
    PairV (w.setCell ⟨g, 1 + i * 4 + 3, none⟩ (.bool b)) B F g (P.put i { P.ws i with torn := b }) v := h.set _ _ (set_torn P v hi b) (h.span_put i _ rfl) (fun _ _ => rfl)
theorem PairV.setCut {w : World} {B : Nat} {F : Nat → Prop} {g : Nat} {P : Pr} {v : Nat → Value} (h : PairV w B F g P v) (b : Bool) :
    PairV (w.setCell ⟨g, 9, none⟩ (.bool b)) B F g { P with cut := b } v := h.set _ _ (set_cut P v b) (fun i hi => h.span i hi) (fun _ _ => rfl)
theorem PairV.turn_set {w : World} {B : Nat} {F : Nat → Prop} {g : Nat} {P : Pr} {v : Nat → Value} (h : PairV w B F g P v) (k : Nat) (x : Value) : Turn F w (w.setCell ⟨g, k, none⟩ x) := (Turn.refl F w).setCell _ (fun _ => h.self) x

/-- Nothing of F has turned: the pair lies as it lay. -/
theorem PairV.keep {w w' : World} {B : Nat} {F : Nat → Prop} {g : Nat} {P : Pr} {v : Nat → Value} (h : PairV w B F g P v) (hs : w.heap.size ≤ w'.heap.size) (hk : ∀ k, F k → w'.heap[k]? = w.heap[k]?) : PairV w' B F g P v :=
  ⟨(hk g h.self).trans h.row, fun i hi => (h.span i hi).keep hs fun k hk' => hk k (h.foot i hi k hk'), h.ne, h.apart, h.self, h.foot, fun k hf => Nat.lt_of_lt_of_le (h.lt k hf) hs, h.lo⟩
theorem PairAt.keep {w w' : World} {B : Nat} {F : Nat → Prop} {g : Nat} {P : Pr} (h : PairAt w B F g P) (hs : w.heap.size ≤ w'.heap.size) (hk : ∀ k, F k → w'.heap[k]? = w.heap[k]?) : PairAt w' B F g P := by
  obtain ⟨v, h, ho⟩ := h
  exact ⟨v, h.keep hs hk, ho⟩
theorem PairAt.stay {w w' : World} {B : Nat} {F : Nat → Prop} {g : Nat} {P : Pr} (h : PairAt w B F g P) (hs : Stay w w') : PairAt w' B F g P := h.keep (by rw [hs.heap]; exact Nat.le_refl _) (fun k _ => by rw [hs.heap])
theorem PairAt.turn {w w' : World} {B : Nat} {F G : Nat → Prop} {g : Nat} {P : Pr} (h : PairAt w B F g P) (ht : Turn G w w') (hG : ∀ k, F k → ¬ G k) : PairAt w' B F g P := by
  obtain ⟨v, h, ho⟩ := h
  exact ⟨v, h.keep ht.size (fun k hk => ht.block k (h.lt k hk) (hG k hk)), ho⟩
theorem PairAt.below {w w' : World} {B : Nat} {F : Nat → Prop} {g : Nat} {P : Pr} (h : PairAt w B F g P) (ht : Below w.heap.size w w') : PairAt w' B F g P := by
  obtain ⟨v, h, ho⟩ := h
  exact ⟨v, h.keep ht.size (fun k hk => ht.block k (h.lt k hk)), ho⟩
theorem PairAt.lt {w : World} {B : Nat} {F : Nat → Prop} {g : Nat} {P : Pr} (h : PairAt w B F g P) : ∀ k, F k → k < w.heap.size := by obtain ⟨v, h, _⟩ := h; exact h.lt
theorem PairAt.lo {w : World} {B : Nat} {F : Nat → Prop} {g : Nat} {P : Pr} (h : PairAt w B F g P) : ∀ k, F k → B ≤ k := by obtain ⟨v, h, _⟩ := h; exact h.lo
theorem PairAt.ok {w : World} {B : Nat} {F : Nat → Prop} {g : Nat} {P : Pr} (h : PairAt w B F g P) : P.ok := by obtain ⟨v, _, h⟩ := h; exact h
theorem PairAt.self {w : World} {B : Nat} {F : Nat → Prop} {g : Nat} {P : Pr} (h : PairAt w B F g P) : F g := by obtain ⟨v, h, _⟩ := h; exact h.self

/-- The three errors of package sock: pointers of their own. -/
structure Errs (w : World) (ad : Nat → Addr) : Prop where
  cell : ∀ k, k < 3 → w.cell? ⟨k, 0, none⟩ = some (.iface 73 (.pointer (some (ad k))))
theorem Errs.below {w w' : World} {ad : Nat → Addr} (h : Errs w ad) {B : Nat} (hB : 3 ≤ B) (hb : Below B w w') : Errs w' ad := ⟨fun k hk => (hb.cell (p := ⟨k, 0, none⟩) (show k < B by omega)).trans (h.cell k hk)⟩
theorem Errs.stay {w w' : World} {ad : Nat → Addr} (h : Errs w ad) (hs : Stay w w') : Errs w' ad := ⟨fun k hk => (hs.cell _).trans (h.cell k hk)⟩
def errV (ad : Nat → Addr) (k : Nat) : Value := .iface 73 (.pointer (some (ad k)))

theorem quietL {P : Program} {f : FuncId} {args : Array Value} {w : World} {n : Nat} {v : Value} (h : Calls P f args (w.drewN n) fun e w' => e = .returned v ∧ w.drewN n = w') :
    Calls P f args (w.drewN n) fun e w'' => e = .returned v ∧ ∃ m, w'' = w.drewN m := h.mono fun _ _ ⟨he, hm⟩ => ⟨he, n, hm.symm⟩

/-! The small functions. -/
def endB (e : Int) : Bool := e == 0 || e == 1
theorem end_nat {i : Nat} (h : i < 2) : endB (i : Int) = true := by rcases (by omega : i = 0 ∨ i = 1) with rfl | rfl <;> rfl
theorem end_of {e : Int} (h : endB e = true) : ∃ i : Nat, i < 2 ∧ e = (i : Int) := by
  unfold endB at h
  simp at h
  rcases h with rfl | rfl
  · exact ⟨0, by omega, rfl⟩
  · exact ⟨1, by omega, rfl⟩

theorem isEnd_any (e : Int) (w : World) : Calls Tryd.prog 39 #[.int .i64 e] w fun x w' => x = .returned (.bool (endB e)) ∧ w = w' := by
  by_cases h0 : e = 0
  · subst h0
    go_enter Tryd.func39, Tryd.ntmps39
    go_wp2_with fail
    go_ret
    exact ⟨rfl, rfl⟩
  · by_cases h1 : e = 1
    · subst h1
      go_enter Tryd.func39, Tryd.ntmps39
      go_wp2_with fail
      go_ret
      exact ⟨rfl, rfl⟩
    · have a0 : (e == 0) = false := by simpa using h0
      have a1 : (e == 1) = false := by simpa using h1
      have HE : Hid (endB e = false) := Lib.hid (by simp [endB, h0, h1])
      clear h0 h1
      go_enter Tryd.func39, Tryd.ntmps39
      go_wp2_with fail
      go_ret
      exact ⟨ret_bool HE.out.symm, rfl⟩
theorem inRange_any (e n : Int) (w : World) : Calls Tryd.prog 35 #[.int .i64 e, .int .i64 n] w fun x w' => x = .returned (.bool (endB e && decide (0 ≤ n))) ∧ w = w' := by
  cases he : endB e
  · have HE := Lib.hid he
    clear he
    go_enter Tryd.func35, Tryd.ntmps35
    go_wp2_with (go_at_call 39; (with_reducible refine (isEnd_any _ _).mono ?_); rintro x w' ⟨rfl, rfl⟩; rw [HE.out])
    go_ret
    exact ⟨rfl, rfl⟩
  · have HE := Lib.hid he
    clear he
    go_enter Tryd.func35, Tryd.ntmps35
    go_wp2_with (go_at_call 39; (with_reducible refine (isEnd_any _ _).mono ?_); rintro x w' ⟨rfl, rfl⟩; rw [HE.out])
    go_ret
    exact ⟨ret_bool (by simp), rfl⟩
theorem out_any (g i : Nat) (w : World) (h : i < 2) : Calls Tryd.prog 32 #[.pointer (some ⟨g, 0, none⟩), .int .i64 (i : Int)] w fun x w' => x = .returned (.pointer (some ⟨g, 1 + i * 4, none⟩)) ∧ w = w' := by
  go_enter Tryd.func32, Tryd.ntmps32
  go_wp2_with fail
  go_ret
  exact ⟨rfl, rfl⟩
theorem in_any (g i : Nat) (w : World) (h : i < 2) : Calls Tryd.prog 36 #[.pointer (some ⟨g, 0, none⟩), .int .i64 (i : Int)] w fun x w' => x = .returned (.pointer (some ⟨g, 1 + (1 - i) * 4, none⟩)) ∧ w = w' := by
  rcases (by omega : i = 0 ∨ i = 1) with rfl | rfl
  all_goals
    go_enter Tryd.func36, Tryd.ntmps36
    go_wp2_with fail
    go_ret
    exact ⟨rfl, rfl⟩
end Go.Proofs.YtlceemaannndbaaDoor

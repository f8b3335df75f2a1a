/- (A template: the memory of one's own.) How byte slices and rows are read; what a call that turns some blocks leaves alone; a slice of bytes of our own, at any place of its row, and append onto it. -/
import Derived.Test.YtchnbknbccpmcaaDoorRows
import Derived.WalkKit
import Derived.WalkSpells
import Derived.WalkLawsBesides
import Derived.Below
import Derived.Lib.Hide
import Derived.Laws.IdiomStrings
import Derived.Laws.BytesArg
import Derived.Deep.WholeRow
import Derived.Deep.MidRow
import Derived.Maps.AppendAt
import Derived.ArgAppend
import Derived.OwnWalk
import Derived.BigQuiet
import Derived.Deep.QuietTactic
import Derived.Deep.RegionLaw
import Derived.Lib.SliceRun
namespace Go.Proofs.YtchnbknbccpmcaaDoor
open Go.RowKit

theorem ret_int {k : IntKind} {a b : Int} (h : a = b) : Ending.returned (.int k a) = .returned (.int k b) := by rw [h]
theorem ret_two {k : IntKind} {a b : Int} {v : Value} (h : a = b) : Ending.returned (.tuple #[.int k a, v]) = .returned (.tuple #[.int k b, v]) := by rw [h]
theorem ret_bool {a b : Bool} (h : a = b) : Ending.returned (.bool a) = .returned (.bool b) := by rw [h]

/-- An equation that no tactic looks into. -/
structure Shut (p : Prop) : Prop where
  out : p

/-- A byte as a cell. -/
def bv (b : UInt8) : Value := .int .u8 (b.toNat : Int)
theorem bytes_one (bs : List UInt8) : ∀ v ∈ bs.map bv, v.oneCell' = true := by intro v hv; obtain ⟨p, _, rfl⟩ := List.mem_map.1 hv; rfl

/-- 'the slice value with base A and length xs.length holds the cells xs, in a block below B'. -/
def Rd (w : World) (B : Nat) (A : Option Addr) (xs : List Value) : Prop :=
  xs = [] ∨ ∃ ad, A = some ad ∧ ad.block < B ∧ ∀ (j : Nat) (u : Value), xs[j]? = some u → w.cell? (ad.add j) = some u

set_option maxRecDepth 100000 in
theorem Rd.cell {w : World} {B : Nat} {A : Option Addr} {xs : List Value} (h : Rd w B A xs) {k : Nat} {u : Value} (hk : xs[k]? = some u) :
    ∃ ad, A = some ad ∧ ad.block < B ∧ w.cell? (ad.add k) = some u := by
  rcases h with rfl | ⟨ad, h1, h2, h3⟩
  · simp at hk
  · exact ⟨ad, h1, h2, h3 k u hk⟩
set_option maxRecDepth 100000 in
theorem Rd.take {w : World} {B : Nat} {A : Option Addr} {xs : List Value} (h : Rd w B A xs) (k : Nat) : Rd w B A (xs.take k) := by
  rcases h with rfl | ⟨ad, h1, h2, h3⟩
  · exact .inl (by simp)
  · refine .inr ⟨ad, h1, h2, fun j u hj => h3 j u ?_⟩
    rw [List.getElem?_take] at hj
    split at hj
    · exact hj
    · simp at hj
set_option maxRecDepth 100000 in
theorem Rd.keep {w w' : World} {B : Nat} {A : Option Addr} {xs : List Value} (h : Rd w B A xs) (hk : ∀ p : Addr, p.block < B → w'.cell? p = w.cell? p) : Rd w' B A xs := by
  rcases h with rfl | ⟨ad, h1, h2, h3⟩
  · exact .inl rfl
  · refine .inr ⟨ad, h1, h2, fun j u hj => (hk _ ?_).trans (h3 j u hj)⟩
    unfold Addr.add
    split <;> exact h2
set_option maxRecDepth 100000 in
theorem Rd.more {w : World} {B B' : Nat} {A : Option Addr} {xs : List Value} (h : Rd w B A xs) (hB : B ≤ B') : Rd w B' A xs := by
  rcases h with rfl | ⟨ad, h1, h2, h3⟩
  · exact .inl rfl
  · exact .inr ⟨ad, h1, by omega, h3⟩
theorem Rd.below {w w' : World} {B : Nat} {A : Option Addr} {xs : List Value} (h : Rd w B A xs) (hb : Below B w w') : Rd w' B A xs := h.keep fun _ hp => hb.cell hp
set_option maxRecDepth 100000 in
theorem Rd.toStr {w : World} {B : Nat} {A : Option Addr} {bs : List UInt8} (h : Rd w B A (bs.map bv)) (n c : Nat) (hn : bs.length = n) :
    (convert 22 9 (.slice A n c)).run Tryd.prog w = .ok (.string ⟨bs.toArray⟩) w := by
  subst hn
  rcases h with h | ⟨ad, rfl, _, h3⟩
  · have : bs = [] := by simpa using h
    subst this
    rcases A with _ | ad
    · exact run_convert_bytes_nil w 22 5 Tryd.underlying22 Tryd.underlying5 _ _ 9 Tryd.underlying9
    · exact run_convert_bytes_back w 22 9 5 ad c [] Tryd.underlying22 Tryd.underlying5 Tryd.underlying9 (fun j hj => absurd hj (by simp))
  · exact run_convert_bytes_back w 22 9 5 ad c bs Tryd.underlying22 Tryd.underlying5 Tryd.underlying9 (fun j hj => h3 j _ (by simp [hj, bv]))
theorem below_drewN {B : Nat} {a w : World} (h : Below B a w) (n : Nat) : Below B a (w.drewN n) := ⟨h.os, h.tape, h.output, h.size, h.block⟩

/-- Block g is a row of the cells cs, none of them frozen. -/
def Row (w : World) (g : Nat) (t : TypeId) (cs : List Value) : Prop := w.heap[g]? = some (.cells cs.toArray t (0, 0))
theorem Row.lt {w : World} {g : Nat} {t : TypeId} {cs : List Value} (h : Row w g t cs) : g < w.heap.size := (Array.getElem?_eq_some_iff.1 h).1
theorem Row.cell {w : World} {g : Nat} {t : TypeId} {cs : List Value} (h : Row w g t cs) (k : Nat) : w.cell? ⟨g, k, none⟩ = cs[k]? := by
  unfold Row at h
  simp [World.cell?, h]
theorem Row.frozen {w : World} {g : Nat} {t : TypeId} {cs : List Value} (h : Row w g t cs) (k : Nat) : w.frozen? ⟨g, k, none⟩ = false := by
  unfold Row at h
  simp [World.frozen?, h]
set_option maxRecDepth 100000 in
theorem Row.set {w : World} {g : Nat} {t : TypeId} {cs : List Value} (h : Row w g t cs) (k : Nat) (v : Value) : Row (w.setCell ⟨g, k, none⟩ v) g t (cs.set k v) := by
  unfold Row at h ⊢
  have hlt := (Array.getElem?_eq_some_iff.1 h).1
  simp only [World.setCell, Array.getElem?_modify, h]
  simp
theorem Row.new (w : World) (cs : List Value) (t : TypeId) : Row (w.alloc (.cells cs.toArray t)) w.heap.size t cs := heap_alloc_last w _

/-- Nothing has turned but how much of the tape was read. -/
structure Stay (w w' : World) : Prop where
  os : w'.os = w.os
  tape : w'.tape = w.tape
  output : w'.output = w.output
  heap : w'.heap = w.heap
theorem Stay.refl (w : World) : Stay w w := ⟨rfl, rfl, rfl, rfl⟩
theorem Stay.drewN (w : World) (n : Nat) : Stay w (w.drewN n) := ⟨rfl, rfl, rfl, rfl⟩
theorem Stay.trans {a b c : World} (h : Stay a b) (k : Stay b c) : Stay a c := ⟨k.os.trans h.os, k.tape.trans h.tape, k.output.trans h.output, k.heap.trans h.heap⟩
theorem Stay.cell {w w' : World} (h : Stay w w') (p : Addr) : w'.cell? p = w.cell? p := by unfold World.cell?; rw [h.heap]
theorem Stay.frozen {w w' : World} (h : Stay w w') (p : Addr) : w'.frozen? p = w.frozen? p := by unfold World.frozen?; rw [h.heap]

/-- Of what there was only blocks of F may have turned. -/
structure Turn (F : Nat → Prop) (w w' : World) : Prop where
  os : w'.os = w.os
  tape : w'.tape = w.tape
  output : w'.output = w.output
  size : w.heap.size ≤ w'.heap.size
  block : ∀ k, k < w.heap.size → ¬ F k → w'.heap[k]? = w.heap[k]?
theorem Turn.refl (F : Nat → Prop) (w : World) : Turn F w w := ⟨rfl, rfl, rfl, Nat.le_refl _, fun _ _ _ => rfl⟩
theorem Turn.trans {F G : Nat → Prop} {a b c : World} (h : Turn F a b) (k : Turn G b c) (hG : ∀ k, k < a.heap.size → G k → F k) : Turn F a c :=
  ⟨k.os.trans h.os, k.tape.trans h.tape, k.output.trans h.output, Nat.le_trans h.size k.size, fun i hi hf => (k.block i (Nat.lt_of_lt_of_le hi h.size) (fun hg => hf (hG i hi hg))).trans (h.block i hi hf)⟩
theorem Turn.stay {F : Nat → Prop} {a b c : World} (h : Turn F a b) (k : Stay b c) : Turn F a c := ⟨k.os.trans h.os, k.tape.trans h.tape, k.output.trans h.output, by rw [k.heap]; exact h.size, fun i hi hf => by rw [k.heap]; exact h.block i hi hf⟩
theorem Stay.turn {w w' : World} (h : Stay w w') (F : Nat → Prop) : Turn F w w' := (Turn.refl F w).stay h
theorem Turn.alloc {F : Nat → Prop} {a w : World} (h : Turn F a w) (o : Obj) : Turn F a (w.alloc o) :=
  ⟨h.os, h.tape, h.output, by have := h.size; simp; omega, fun i hi hg => (Below.heap_alloc w o i (Nat.lt_of_lt_of_le hi h.size)).trans (h.block i hi hg)⟩
theorem Turn.setCell {F : Nat → Prop} {a w : World} (h : Turn F a w) (p : Addr) (hp : p.block < a.heap.size → F p.block) (v : Value) : Turn F a (w.setCell p v) :=
  ⟨h.os, h.tape, h.output, by have := h.size; simpa [World.setCell] using this, fun i hi hf => (Below.heap_setCell _ _ _ _ (by rintro rfl; exact hf (hp hi))).trans (h.block i hi hf)⟩
theorem Turn.below {F : Nat → Prop} {w w' : World} (h : Turn F w w') {B : Nat} (hF : ∀ k, F k → B ≤ k) (hB : B ≤ w.heap.size) : Below B w w' :=
  ⟨h.os, h.tape, h.output, h.size, fun k hk => h.block k (by omega) (fun hf => by have := hF k hf; omega)⟩
theorem Turn.row {F : Nat → Prop} {w w' : World} (h : Turn F w w') {g : Nat} {t : TypeId} {cs : List Value} (hr : Row w g t cs) (hg : ¬ F g) : Row w' g t cs := (h.block g hr.lt hg).trans hr
theorem Turn.mono {F G : Nat → Prop} {w w' : World} (h : Turn F w w') (hG : ∀ k, k < w.heap.size → F k → G k) : Turn G w w' := ⟨h.os, h.tape, h.output, h.size, fun i hi hf => h.block i hi (fun hg => hf (hG i hi hg))⟩
theorem Turn.of_below {F : Nat → Prop} {w w' : World} (h : Below w.heap.size w w') : Turn F w w' := ⟨h.os, h.tape, h.output, h.size, fun k hk _ => h.block k hk⟩
theorem cell_block {w w' : World} {p : Addr} (h : w'.heap[p.block]? = w.heap[p.block]?) : w'.cell? p = w.cell? p := by simp [World.cell?, h]
theorem frozen_block {w w' : World} {p : Addr} (h : w'.heap[p.block]? = w.heap[p.block]?) : w'.frozen? p = w.frozen? p := by simp [World.frozen?, h]

set_option maxRecDepth 100000 in
theorem info_parts' {P : Program} {t : TypeId} {v : Value} {n b : Nat} (h : (P.info? t).map (fun i => (i.zero, i.size, i.bytes)) = some (some v, n, b)) :
    ∃ i, P.info? t = some i ∧ i.zero = some v ∧ i.size = n ∧ i.bytes = b := by
  cases hq : P.info? t with
  | none => simp [hq] at h
  | some i => simp [hq] at h; exact ⟨i, rfl, h.1, h.2.1, h.2.2⟩
theorem u8_info : (Tryd.prog.info? 5).map (fun i => (i.zero, i.size, i.bytes)) = some (some (.int .u8 0), 1, 1) := by kernel_rfl

/-- v is a slice of bytes of our own that holds bs: the cells behind it, up to its capacity, are there and may be written. -/
def Span (w : World) (v : Value) (bs : List UInt8) : Prop :=
  ∃ A cap, v = .slice A bs.length cap ∧ bs.length ≤ cap ∧ cap ≤ 9223372036854775807 ∧ ((A = none ∧ cap = 0) ∨ ∃ h off, A = some ⟨h, off, none⟩ ∧ h < w.heap.size ∧
    (∀ (j : Nat) (u : Value), (bs.map bv)[j]? = some u → w.cell? ⟨h, off + j, none⟩ = some u) ∧ ∀ j, j < cap → (w.cell? ⟨h, off + j, none⟩).isSome = true ∧ w.frozen? ⟨h, off + j, none⟩ = false)
theorem Span.nil (w : World) : Span w (.slice none 0 0) [] := ⟨none, 0, rfl, Nat.le_refl _, by decide, .inl ⟨rfl, rfl⟩⟩
set_option maxRecDepth 100000 in
theorem Span.keep {w w' : World} {v : Value} {bs : List UInt8} (h : Span w v bs) (hs : w.heap.size ≤ w'.heap.size) (hk : ∀ k, v.ownBlock = some k → w'.heap[k]? = w.heap[k]?) : Span w' v bs := by
  obtain ⟨A, cap, rfl, h1, h2, h3⟩ := h
  refine ⟨A, cap, rfl, h1, h2, ?_⟩
  rcases h3 with h3 | ⟨hb, off, rfl, h4, h5, h6⟩
  · exact .inl h3
  · have e := hk hb rfl
    exact .inr ⟨hb, off, rfl, by omega, fun j u hj => (cell_block (p := ⟨hb, off + j, none⟩) e).trans (h5 j u hj), fun j hj => by rw [cell_block (p := ⟨hb, off + j, none⟩) e, frozen_block (p := ⟨hb, off + j, none⟩) e]; exact h6 j hj⟩
set_option maxRecDepth 100000 in
theorem Span.lt {w : World} {v : Value} {bs : List UInt8} (h : Span w v bs) : ∀ k, v.ownBlock = some k → k < w.heap.size := by
  obtain ⟨A, cap, rfl, h1, h2, h3⟩ := h
  intro k hk
  rcases h3 with ⟨rfl, rfl⟩ | ⟨hb, off, rfl, h4, _⟩
  · cases hk
  · have e : hb = k := Option.some.inj hk
    omega
set_option maxRecDepth 100000 in
theorem Span.slice {w : World} {v : Value} {bs : List UInt8} (h : Span w v bs) : ∃ A cap, v = .slice A bs.length cap ∧ bs.length ≤ cap ∧ cap ≤ 9223372036854775807 ∧ Rd w w.heap.size A (bs.map bv) := by
  obtain ⟨A, cap, rfl, h1, h2, h3⟩ := h
  refine ⟨A, cap, rfl, h1, h2, ?_⟩
  rcases h3 with ⟨rfl, rfl⟩ | ⟨hb, off, rfl, h4, h5, _⟩
  · exact .inl (by simpa using List.eq_nil_of_length_eq_zero (by omega : bs.length = 0))
  · exact .inr ⟨_, rfl, h4, fun j u hj => by rw [Addr.add_mid]; exact h5 j u hj⟩
set_option maxRecDepth 100000 in
/-- Its beginning. -/
theorem Span.take {w : World} {A : Option Addr} {n cap : Nat} {bs : List UInt8} (h : Span w (.slice A n cap) bs) (k : Nat) (hk : k ≤ bs.length) : Span w (.slice A k cap) (bs.take k) := by
  obtain ⟨A', cap', e, h1, h2, h3⟩ := h
  injection e with e1 e2 e3
  subst e1 e2 e3
  refine ⟨A, cap, by simp [Nat.min_eq_left hk], by rw [List.length_take]; omega, h2, ?_⟩
  rcases h3 with h3 | ⟨hb, off, rfl, h4, h5, h6⟩
  · exact .inl h3
  · refine .inr ⟨hb, off, rfl, h4, fun j u hj => h5 j u ?_, h6⟩
    rw [List.map_take, List.getElem?_take] at hj
    split at hj
    · exact hj
    · simp at hj
set_option maxRecDepth 100000 in
/-- Its end. -/
theorem Span.drop {w : World} {A : Option Addr} {n cap : Nat} {bs : List UInt8} (h : Span w (.slice A n cap) bs) (k : Nat) (hk : k ≤ bs.length) : Span w (.slice (if cap = k then A else A.map (·.add k)) (n - k) (cap - k)) (bs.drop k) := by
  obtain ⟨A', cap', e, h1, h2, h3⟩ := h
  injection e with e1 e2 e3
  subst e1 e2 e3
  refine ⟨(if cap = k then A else A.map (·.add k)), cap - k, by simp, by rw [List.length_drop]; omega, by omega, ?_⟩
  rcases h3 with ⟨rfl, rfl⟩ | ⟨hb, off, rfl, h4, h5, h6⟩
  · exact .inl ⟨by split <;> rfl, by omega⟩
  · have hd : ∀ (j : Nat) (u : Value), ((bs.drop k).map bv)[j]? = some u → w.cell? ⟨hb, off + k + j, none⟩ = some u := fun j u hj => by
      rw [List.map_drop, List.getElem?_drop] at hj
      rw [Nat.add_assoc]
      exact h5 _ u hj
    by_cases hc : cap = k
    · refine .inr ⟨hb, off, by simp [hc], h4, fun j u hj => ?_, fun j hj => by omega⟩
      have : bs.drop k = [] := List.drop_eq_nil_of_le (by omega)
      rw [this] at hj
      simp at hj
    · refine .inr ⟨hb, off + k, by simp [hc, Addr.add_mid], h4, hd, fun j hj => ?_⟩
      have := h6 (k + j) (by omega)
      rwa [← Nat.add_assoc] at this
set_option maxRecDepth 100000 in
theorem ownBlock_drop (A : Option Addr) (n m k cap c : Nat) : (Value.slice (if cap = k then A else A.map (·.add k)) n c).ownBlock = (Value.slice A m cap).ownBlock := by
  rcases A with _ | ad
  · split <;> rfl
  · split
    · rfl
    · show some (ad.add k).block = some ad.block
      unfold Addr.add
      split <;> rfl
set_option maxRecDepth 100000 in
theorem span_new (w : World) (cells : Array Value) (bs : List UInt8) (cap : Nat) (hc : cap = cells.size) (hb : ∀ (j : Nat) (u : Value), (bs.map bv)[j]? = some u → cells[j]? = some u) (hl : bs.length ≤ cap) (hm : cap ≤ 9223372036854775807) (n : Nat) (hn : n = bs.length) :
    Span (w.alloc (.cells cells 5)) (.slice (some ⟨w.heap.size, 0, none⟩) n cap) bs := by
  subst hn
  have e1 : ∀ j, (w.alloc (.cells cells 5)).cell? ⟨w.heap.size, j, none⟩ = cells[j]? := fun j => World.cell?_alloc_mark w cells 5 (0, 0) j
  have e2 : ∀ j, (w.alloc (.cells cells 5)).frozen? ⟨w.heap.size, j, none⟩ = false := fun j => by
    have := heap_alloc_last w (.cells cells 5)
    unfold World.frozen?
    rw [this]
    simp
  refine ⟨_, cap, rfl, hl, hm, .inr ⟨w.heap.size, 0, rfl, by simp, fun j u hj => ?_, fun j hj => ?_⟩⟩
  · rw [Nat.zero_add, e1]; exact hb j u hj
  · rw [Nat.zero_add, e1, e2]
    exact ⟨by rw [Array.getElem?_eq_getElem (by omega)]; rfl, rfl⟩

theorem tape_setCells (b : Nat) : ∀ (vs : List Value) (o : Nat) (w : World), (w.setCells b o vs).tape = w.tape
  | [], _, _ => rfl
  | v :: r, o, w => tape_setCells b r (o + 1) (w.setCell ⟨b, o, none⟩ v)
theorem heap_setCells (b : Nat) : ∀ (vs : List Value) (o : Nat) (w : World) (k : Nat), k ≠ b → (w.setCells b o vs).heap[k]? = w.heap[k]?
  | [], _, _, _, _ => rfl
  | v :: r, o, w, k, h => (heap_setCells b r (o + 1) (w.setCell ⟨b, o, none⟩ v) k h).trans (Below.heap_setCell _ _ _ _ h)
set_option maxRecDepth 100000 in
/-- Bytes appended to a slice of our own. -/
theorem run_append_span (w : World) (v : Value) (bs : List UInt8) (hs : Span w v bs) (B : Nat) (A : Option Addr) (m c : Nat) (xs : List UInt8) (hm : xs.length = m) (hr : Rd w B A (xs.map bv)) (hb : bs.length + m ≤ 140737488355328) (ty : TypeId) :
    ∃ v' w', (Builtin.append_ #[22, 22] ty #[v, .slice A m c]).run Tryd.prog w = .ok v' w' ∧ Span w' v' (bs ++ xs) ∧ Turn (fun k => v.ownBlock = some k) w w' ∧ (v'.ownBlock = v.ownBlock ∨ ∃ k, v'.ownBlock = some k ∧ w.heap.size ≤ k) := by
  obtain ⟨i0, hi0, hz0, hz1, hz2⟩ := info_parts' u8_info
  subst hm
  have hs0 := hs
  obtain ⟨A0, cap, rfl, h1, h2, h3⟩ := hs
  rcases A with _ | ad
  · have hxs : xs = [] := by
      rcases hr with h | ⟨ad, h, _⟩
      · simpa using h
      · cases h
    subst hxs
    refine ⟨.slice A0 bs.length cap, w, ?_, by simpa using hs0, Turn.refl _ _, .inl rfl⟩
    rcases h3 with ⟨rfl, rfl⟩ | ⟨hb, off, rfl, _⟩
    · have : bs.length = 0 := by omega
      simp [Builtin.append_, run_underlying Tryd.underlying22, sizeOf, typeInfo, hi0, Builtin.lenOf, Builtin.firstCells, this]
    · simp [Builtin.append_, run_underlying Tryd.underlying22, sizeOf, typeInfo, hi0, Builtin.lenOf, Builtin.firstCells, h1, storeCells]
  · have hnews : ∀ (j : Nat) (u : Value), (xs.map bv)[j]? = some u → w.cell? (ad.add j) = some u := by
      intro j u hj
      obtain ⟨ad', e1, _, e2⟩ := hr.cell hj
      injection e1 with e1
      subst e1
      exact e2
    have hnl : (xs.map bv).length = xs.length * i0.size := by simp [hz1]
    have grown : ∀ (old : Nat) (F : Nat → Prop),
        Span (w.drew.alloc (.cells ((bs.map bv).toArray ++ (xs.map bv).toArray ++ Builtin.zeroCells (Value.int .u8 0).cells (grownCap w (bs.length + xs.length) old 5 - (bs.length + xs.length))) 5))
          (.slice (some ⟨w.heap.size, 0, none⟩) (bs.length + xs.length) (grownCap w (bs.length + xs.length) old 5)) (bs ++ xs) ∧
        Turn F w (w.drew.alloc (.cells ((bs.map bv).toArray ++ (xs.map bv).toArray ++ Builtin.zeroCells (Value.int .u8 0).cells (grownCap w (bs.length + xs.length) old 5 - (bs.length + xs.length))) 5)) := by
      intro old F
      have hge := grownCap_ge w (bs.length + xs.length) old 5
      have hle := grownCap_le_maxLen w (bs.length + xs.length) old 5 (by simp only [maxLen]; omega)
      refine ⟨span_new w.drew _ (bs ++ xs) _ ?_ ?_ (by simpa using hge) (by simpa only [maxLen] using hle) _ (by simp), ((⟨rfl, rfl, rfl, rfl⟩ : Stay w w.drew).turn F).alloc _⟩
      · simp only [Array.size_append, List.size_toArray, size_zeroCells, List.length_map, Value.cells]
        simp
        omega
      · intro j u hj
        have hjl : j < (bs ++ xs).length := by
          rcases Nat.lt_or_ge j (bs ++ xs).length with hlt | hge
          · exact hlt
          · rw [List.getElem?_eq_none (by simpa using hge)] at hj; cases hj
        rw [Array.getElem?_append_left (by simpa using hjl), List.append_toArray, List.getElem?_toArray, ← List.map_append]
        exact hj
    rcases h3 with ⟨rfl, rfl⟩ | ⟨hbk, off, rfl, h4, h5, h6⟩
    · have hb0 : bs = [] := List.eq_nil_of_length_eq_zero (by omega)
      subst hb0
      by_cases hm : xs.length = 0
      · have hxs : xs = [] := List.eq_nil_of_length_eq_zero hm
        subst hxs
        refine ⟨.slice none 0 0, w, ?_, Span.nil w, Turn.refl _ _, .inl rfl⟩
        simp [Builtin.append_, run_underlying Tryd.underlying22, sizeOf, typeInfo, hi0, Builtin.lenOf, Builtin.firstCells, loadCells, loadCellsFrom]
      · have hrun := run_append_nil (P := Tryd.prog) w 22 ty 5 i0 _ Tryd.underlying22 hi0 hz0 ad xs.length c (xs.map bv) hnl hnews (by omega) (by simp at hb; omega) (by simp at hb; rw [hz2]; omega)
        obtain ⟨g1, g2⟩ := grown 0 (fun k => (Value.slice none 0 0).ownBlock = some k)
        simp only [List.length_nil, Nat.zero_add, List.map_nil, List.nil_append] at g1 g2 hrun ⊢
        exact ⟨_, _, hrun, by simpa using g1, by simpa using g2, .inr ⟨_, rfl, Nat.le_refl _⟩⟩
    · by_cases hroom : bs.length + xs.length ≤ cap
      · have hc : ∀ j, j < (xs.map bv).length → (w.cell? ⟨hbk, off + bs.length * i0.size + j, none⟩).isSome = true := fun j hj => by
          have := (h6 (bs.length + j) (by simp at hj; omega)).1
          rw [hz1, Nat.mul_one, Nat.add_assoc]; exact this
        have hf : ∀ j, j < (xs.map bv).length → w.frozen? ⟨hbk, off + bs.length * i0.size + j, none⟩ = false := fun j hj => by
          have := (h6 (bs.length + j) (by simp at hj; omega)).2
          rw [hz1, Nat.mul_one, Nat.add_assoc]; exact this
        have hrun := run_append_room_cells (P := Tryd.prog) w 22 ty 5 i0 Tryd.underlying22 hi0 hbk off bs.length cap ad xs.length c (xs.map bv) hnl hnews (bytes_one xs) hroom hc hf
        have hkb := World.keptBut_setCells hbk (may := fun p => ∃ j, p = .cell hbk j) (xs.map bv) (off + bs.length * i0.size) w (fun j _ => ⟨_, rfl⟩)
        refine ⟨_, _, hrun, ⟨_, cap, by simp, by simpa using hroom, h2, .inr ⟨hbk, off, rfl, Nat.lt_of_lt_of_le h4 hkb.size, ?_, ?_⟩⟩, ?_, .inl rfl⟩
        · intro j u hj
          rw [List.map_append] at hj
          by_cases hjl : j < bs.length
          · rw [List.getElem?_append_left (by simpa using hjl)] at hj
            rw [World.cell?_setCells_out _ _ _ _ _ (fun _ _ => .inl (by show off + j < off + bs.length * i0.size; rw [hz1]; omega))]
            exact h5 j u hj
          · rw [List.getElem?_append_right (by simp; omega)] at hj
            simp only [List.length_map] at hj
            obtain ⟨hlt, he⟩ := List.getElem?_eq_some_iff.1 hj
            have := World.cell?_setCells_in hbk (xs.map bv) (off + bs.length * i0.size) w hc (j - bs.length) hlt
            rw [show off + j = off + bs.length * i0.size + (j - bs.length) by rw [hz1]; omega, this, he]
        · intro j hj
          exact ⟨World.isSome_setCells _ _ _ _ _ (h6 j hj).1, by rw [World.frozen?_setCells]; exact (h6 j hj).2⟩
        · refine ⟨hkb.1, ?_, hkb.2.1, hkb.size, fun k hk hne => ?_⟩
          · exact tape_setCells _ _ _ _
          · exact heap_setCells _ _ _ _ _ (fun e => hne (by rw [e]; rfl))
      · have hrun := run_append_grow (P := Tryd.prog) w 22 ty 5 i0 _ Tryd.underlying22 hi0 hz0 ⟨hbk, off, none⟩ bs.length cap (bs.map bv) (by simp [hz1]) (fun j u hj => by rw [Addr.add_mid]; exact h5 j u hj) ad xs.length c (xs.map bv) hnl hnews (by omega) (by omega) (growslice_fits (by omega) (by rw [hz2]; omega))
        obtain ⟨g1, g2⟩ := grown cap (fun k => (Value.slice (some ⟨hbk, off, none⟩) bs.length cap).ownBlock = some k)
        exact ⟨_, _, hrun, g1, g2, .inr ⟨_, rfl, Nat.le_refl _⟩⟩
set_option maxRecDepth 100000 in
theorem wl_append {w : World} {ops : Array Oper} {rest : List Oper} {o : Oper} {a : Act} {Q : Exit → Act → World → Prop} (hgd : o.guard = none) (t x : Operand)
    (ho : o.op = .call { callee := .builtin .append, args := #[t, x], argTypes := #[22, 22] }) (v : Value) (bs : List UInt8) (hs : a.eval t = v) (hsp : Span w v bs) (B : Nat) (A : Option Addr) (m c : Nat) (xs : List UInt8) (hx : a.eval x = .slice A m c) (hm : xs.length = m)
    (hr : Rd w B A (xs.map bv)) (hb : bs.length + m ≤ 140737488355328)
    (h : ∀ v' w', Hid (Span w' v' (bs ++ xs) ∧ Turn (fun k => v.ownBlock = some k) w w' ∧ (v'.ownBlock = v.ownBlock ∨ ∃ k, v'.ownBlock = some k ∧ w.heap.size ≤ k)) → wpList Tryd.prog ops Q rest (a.put o.dst v') w') : wpList Tryd.prog ops Q (o :: rest) a w := by
  refine wpList_plain hgd fun K hK => ?_
  obtain ⟨v', w', hr2, h2⟩ := run_append_span w v bs hsp B A m c xs hm hr hb o.type
  unfold Oper.wp execOp
  simp only [ho, resolve, invoke, builtin, Sem.run_bind, Sem.run_pure, Result.andThen_ok, List.map_toArray, List.map_cons, List.map_nil, hs, hx, hr2]
  exact hK _ _ (h v' w' h2)

/-- A slice of bytes that nobody else has. -/
def New (w w' : World) (A : Option Addr) (n c : Nat) (bs : List UInt8) : Prop := bs.length = n ∧ n ≤ c ∧ c ≤ 9223372036854775807 ∧ Rd w' w'.heap.size A (bs.map bv) ∧ ∀ a, A = some a → w.heap.size ≤ a.block
set_option maxRecDepth 100000 in
theorem New.keep {w w1 w' : World} {A : Option Addr} {n c : Nat} {bs : List UInt8} (h : New w w1 A n c bs) (hs : w1.heap.size ≤ w'.heap.size) (hk : ∀ k, w.heap.size ≤ k → k < w1.heap.size → w'.heap[k]? = w1.heap[k]?) : New w w' A n c bs := by
  obtain ⟨h1, h2, h3, h4, h5⟩ := h
  refine ⟨h1, h2, h3, ?_, h5⟩
  rcases h4 with h4 | ⟨ad, rfl, h6, h7⟩
  · exact .inl h4
  · refine .inr ⟨ad, rfl, by omega, fun j u hj => (cell_block ?_).trans (h7 j u hj)⟩
    have e : (ad.add j).block = ad.block := by unfold Addr.add; split <;> rfl
    rw [e]
    exact hk _ (h5 ad rfl) h6
set_option maxRecDepth 100000 in
/-- A slice's end, from k on. -/
theorem run_from (w : World) (A : Option Addr) (L cap k : Nat) (z : Int) (hz : z = (k : Int)) (hk : k ≤ L) :
    (Instr.slice 22 (.slice A L cap) (some (.int .i64 z)) none none).run Tryd.prog w = .ok (.slice (if cap = k then A else A.map (·.add k)) (L - k) (cap - k)) w := by
  subst hz
  obtain ⟨i0, hi0, _, hz1, _⟩ := info_parts' u8_info
  have h := run_slice_l (P := Tryd.prog) w 22 A L cap (by rw [show Tryd.prog.elem 22 = 5 by kernel_rfl]; exact Tryd.underlying22) .i64 (k : Int) (by omega) (by omega)
  rw [h, show Tryd.prog.elem 22 = 5 by kernel_rfl]
  simp [sizeOf, typeInfo, hi0, hz1, sliced]
set_option maxRecDepth 100000 in
theorem step_append_span {ops : Array Oper} {o : Oper} {a : Act} {w : World} {K : Act → World → Prop} {Q : Exit → Act → World → Prop} {E : Prop} (hg : o.guard = none) (t x : Operand)
    (ho : o.op = .call { callee := .builtin .append, args := #[t, x], argTypes := #[22, 22] }) (v : Value) (bs : List UInt8) (hs : a.eval t = v) (hsp : Span w v bs) (B : Nat) (A : Option Addr) (m c : Nat) (xs : List UInt8) (hx : a.eval x = .slice A m c) (hm : xs.length = m)
    (hr : Rd w B A (xs.map bv)) (hb : bs.length + m ≤ 140737488355328)
    (h : ∀ v' w', Hid (Span w' v' (bs ++ xs) ∧ Turn (fun k => v.ownBlock = some k) w w' ∧ (v'.ownBlock = v.ownBlock ∨ ∃ k, v'.ownBlock = some k ∧ w.heap.size ≤ k)) → K (a.put o.dst v') w') : if Region.wanted o (yielded ops a.tmps) = true then Oper.wp Tryd.prog o a w K Q else E := by
  have hw : Region.wanted o (yielded ops a.tmps) = true := by simp [Region.wanted, hg]
  rw [if_pos hw]
  obtain ⟨v', w', hr2, h2⟩ := run_append_span w v bs hsp B A m c xs hm hr hb o.type
  unfold Oper.wp
  simp only [execOp, ho, resolve, invoke, builtin, Sem.run_bind, Sem.run_pure, Result.andThen_ok, List.map_toArray, List.map_cons, List.map_nil, hs, hx, hr2]
  exact h v' w' h2
theorem Span.form {w : World} {v : Value} {bs : List UInt8} (h : Span w v bs) : ∃ A L cap, v = .slice A L cap := by
  obtain ⟨A, cap, e, _⟩ := h.slice
  exact ⟨A, _, cap, e⟩
/-- The blocks of K are as they were. -/
structure Keep (K : Nat → Prop) (w w' : World) : Prop where
  os : w'.os = w.os
  tape : w'.tape = w.tape
  output : w'.output = w.output
  size : w.heap.size ≤ w'.heap.size
  block : ∀ k, K k → w'.heap[k]? = w.heap[k]?
theorem Keep.refl (K : Nat → Prop) (w : World) : Keep K w w := ⟨rfl, rfl, rfl, Nat.le_refl _, fun _ _ => rfl⟩
theorem Keep.trans {K : Nat → Prop} {a b c : World} (h : Keep K a b) (k : Keep K b c) : Keep K a c := ⟨k.os.trans h.os, k.tape.trans h.tape, k.output.trans h.output, Nat.le_trans h.size k.size, fun i hi => (k.block i hi).trans (h.block i hi)⟩
theorem Keep.mono {K K' : Nat → Prop} {a b : World} (h : Keep K a b) (hk : ∀ k, K' k → K k) : Keep K' a b := ⟨h.os, h.tape, h.output, h.size, fun i hi => h.block i (hk i hi)⟩
theorem Keep.below {K : Nat → Prop} {a b : World} (h : Keep K a b) {B : Nat} (hB : ∀ k, k < B → K k) : Below B a b := ⟨h.os, h.tape, h.output, h.size, fun k hk => h.block k (hB k hk)⟩
theorem Keep.of_below {K : Nat → Prop} {a b : World} {B : Nat} (h : Below B a b) (hK : ∀ k, K k → k < B) : Keep K a b := ⟨h.os, h.tape, h.output, h.size, fun k hk => h.block k (hK k hk)⟩
theorem Keep.stay {K : Nat → Prop} {a b : World} (h : Stay a b) : Keep K a b := ⟨h.os, h.tape, h.output, by rw [h.heap]; exact Nat.le_refl _, fun k _ => by rw [h.heap]⟩
theorem Keep.alloc {K : Nat → Prop} {w : World} (o : Obj) (hK : ∀ k, K k → k < w.heap.size) : Keep K w (w.alloc o) := Keep.of_below ((Below.refl w.heap.size w).alloc (Nat.le_refl _) o) hK
theorem Keep.setCell {K : Nat → Prop} {w : World} (p : Addr) (v : Value) (h : ¬ K p.block) : Keep K w (w.setCell p v) :=
  ⟨rfl, rfl, rfl, by simp [World.setCell], fun k hk => Below.heap_setCell _ _ _ _ (by rintro rfl; exact h hk)⟩
theorem Keep.row {K : Nat → Prop} {w w' : World} (h : Keep K w w') {g : Nat} {t : TypeId} {cs : List Value} (hr : Row w g t cs) (hg : K g) : Row w' g t cs := (h.block g hg).trans hr

theorem New.to {K : Nat → Prop} {w w1 w' : World} {A : Option Addr} {n c : Nat} {bs : List UInt8} (h : New w w1 A n c bs) (hk : Keep (fun k => K k ∨ w.heap.size ≤ k ∧ k < w1.heap.size) w1 w') : New w w' A n c bs := h.keep hk.size (fun k h1 h2 => hk.block k (.inr ⟨h1, h2⟩))
theorem New.str {w w' : World} {A : Option Addr} {n c : Nat} {bs : List UInt8} (h : New w w' A n c bs) : (convert 22 9 (.slice A n c)).run Tryd.prog w' = .ok (.string ⟨bs.toArray⟩) w' := h.2.2.2.1.toStr n c h.1
theorem New.stay {w w1 w' : World} {A : Option Addr} {n c : Nat} {bs : List UInt8} (h : New w w1 A n c bs) (hs : Stay w1 w') : New w w' A n c bs := h.keep (by rw [hs.heap]; exact Nat.le_refl _) (fun k _ _ => by rw [hs.heap])
set_option maxRecDepth 100000 in
theorem rd_new (w : World) (cells : Array Value) (bs : List UInt8) (fr : Nat × Nat) (hc : cells.toList = bs.map bv) : Rd (w.alloc (.cells cells 5 fr)) (w.alloc (.cells cells 5 fr)).heap.size (some ⟨w.heap.size, 0, none⟩) (bs.map bv) := by
  refine .inr ⟨_, rfl, by simp, ?_⟩
  intro j u hj
  have e : (w.alloc (.cells cells 5 fr)).cell? ⟨w.heap.size, j, none⟩ = _ := World.cell?_alloc_mark w _ 5 fr j
  rw [Addr.add_mid, Nat.zero_add, e, ← Array.getElem?_toList, hc]
  exact hj

/-- A string of these bytes. -/
def strOf (bs : List UInt8) : ByteArray := ⟨bs.toArray⟩
theorem strOf_size (bs : List UInt8) : (strOf bs).size = bs.length := by simp [strOf, ByteArray.size]
set_option maxRecDepth 100000 in
theorem strOf_append (a b : List UInt8) : strOf a ++ strOf b = strOf (a ++ b) := by
  apply ByteArray.ext
  show (strOf a ++ strOf b).data = _
  rw [ByteArray.data_append]
  simp [strOf]
set_option maxRecDepth 100000 in
theorem extract_take (a : List UInt8) (n : Nat) : (strOf a).extract 0 n = strOf (a.take n) := by
  apply ByteArray.ext
  apply Array.ext'
  rw [ByteArray.data_extract]
  simp [strOf]
theorem hid_one {α : Sort _} {p : α → Prop} (h : Hid (∃ a, p a)) : ∃ a, Hid (p a) := by
  obtain ⟨a, h⟩ := h.out
  exact ⟨a, Lib.hid h⟩
theorem hid_two {α : Sort _} {β : Sort _} {p : α → β → Prop} (h : Hid (∃ a b, p a b)) : ∃ a b, Hid (p a b) := by
  obtain ⟨a, b, h⟩ := h.out
  exact ⟨a, b, Lib.hid h⟩
theorem hid_three {α : Sort _} {β : Sort _} {γ : Sort _} {p : α → β → γ → Prop} (h : Hid (∃ a b c, p a b c)) : ∃ a b c, Hid (p a b c) := by
  obtain ⟨a, b, c, h⟩ := h.out
  exact ⟨a, b, c, Lib.hid h⟩
set_option maxRecDepth 100000 in
/-- An end's number out of a script's number. -/
theorem and_one (z : Int) : ∃ i : Nat, i < 2 ∧ bits BinOp.and IntKind.i64 z 1 = (i : Int) := by
  have h2 : (BitVec.ofInt 64 (1 : Int)).toNat = 1 := rfl
  have h1 : (BitVec.ofInt 64 z &&& BitVec.ofInt 64 1).toNat < 2 := by
    rw [BitVec.toNat_and, h2, Nat.and_one_is_mod]
    omega
  refine ⟨(BitVec.ofInt 64 z &&& BitVec.ofInt 64 1).toNat, h1, ?_⟩
  show IntKind.i64.wrap ((BitVec.ofInt 64 z &&& BitVec.ofInt 64 1).toNat : Int) = _
  generalize (BitVec.ofInt 64 z &&& BitVec.ofInt 64 1).toNat = n at h1
  rcases (by omega : n = 0 ∨ n = 1) with rfl | rfl <;> rfl
theorem quietL {P : Program} {f : FuncId} {args : Array Value} {w : World} {n : Nat} {v : Value} (h : Calls P f args (w.drewN n) fun e w' => e = .returned v ∧ w.drewN n = w') :
    Calls P f args (w.drewN n) fun e w'' => e = .returned v ∧ ∃ m, w'' = w.drewN m := h.mono fun _ _ ⟨he, hm⟩ => ⟨he, n, hm.symm⟩

end Go.Proofs.YtchnbknbccpmcaaDoor

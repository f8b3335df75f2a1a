/- How byte slices and rows are read; what a call that turns some blocks leaves alone; a slice of bytes of our own, at any place of its row, and append onto it. -/
import Derived.Test.YtlceemaannndbaaDoorRows
import Derived.WalkKit
import Derived.WalkSpells
import Derived.WalkLawsBesides
import Derived.Below
import Derived.Lib.Hide
import Derived.Laws.IdiomStrings
import Derived.Laws.BytesArg
import Derived.Deep.WholeRow
import Derived.Deep.MidRow
import Derived.Maps.AppendAt
import Derived.ArgAppend
import Derived.OwnWalk
import Derived.BigQuiet
namespace Go.Proofs.YtlceemaannndbaaDoor
open Go.RowKit

theorem ret_int {k : IntKind} {a b : Int} (h : a = b) : Ending.returned (.int k a) = .returned (.int k b) := by rw [h]
theorem ret_two {k : IntKind} {a b : Int} {v : Value} (h : a = b) : Ending.returned (.tuple #[.int k a, v]) = .returned (.tuple #[.int k b, v]) := by rw [h]
theorem ret_bool {a b : Bool} (h : a = b) : Ending.returned (.bool a) = .returned (.bool b) := by rw [h]

/-- An equation that no tactic looks into. -/
structure Shut (p : Prop) : Prop where
  out : p

/-- A byte as a cell. -/
def bv (b : UInt8) : Value := .int .u8 (b.toNat : Int)
theorem bytes_one (bs : List UInt8) : ∀ v ∈ bs.map bv, v.oneCell' = true := by intro v hv; obtain ⟨p, _, rfl⟩ := List.mem_map.1 hv; rfl

/-- 'the slice value with base A and length xs.length holds the cells xs, in a block below B'. -/
def Rd (w : World) (B : Nat) (A : Option Addr) (xs : List Value) : Prop :=
  xs = [] ∨ ∃ ad, A = some ad ∧ ad.block < B ∧ ∀ (j : Nat) (u : Value), xs[j]? = some u → w.cell? (ad.add j) = some u

theorem Rd.cell {w : World} {B : Nat} {A : Option Addr} {xs : List Value} (h : Rd w B A xs) {k : Nat} {u : Value} (hk : xs[k]? = some u) :
    ∃ ad, A = some ad ∧ ad.block < B ∧ w.cell? (ad.add k) = some u := by
  rcases h with rfl | ⟨ad, h1, h2, h3⟩
  · simp at hk
  · exact ⟨ad, h1, h2, h3 k u hk⟩
theorem Rd.take {w : World} {B : Nat} {A : Option Addr} {xs : List Value} (h : Rd w B A xs) (k : Nat) : Rd w B A (xs.take k) := by
  rcases h with rfl | ⟨ad, h1, h2, h3⟩
  · exact .inl (by simp)
  · refine .inr ⟨ad, h1, h2, fun j u hj => h3 j u ?_⟩
    rw [List.getElem?_take] at hj
    split at hj
    · exact hj
    · simp at hj
theorem Rd.keep {w w' : World} {B : Nat} {A : Option Addr} {xs : List Value} (h : Rd w B A xs) (hk : ∀ p : Addr, p.block < B → w'.cell? p = w.cell? p) : Rd w' B A xs := by
  rcases h with rfl | ⟨ad, h1, h2, h3⟩
  · exact .inl rfl
  · refine .inr ⟨ad, h1, h2, fun j u hj => (hk _ ?_).trans (h3 j u hj)⟩
    unfold Addr.add
    split <;> exact h2
theorem Rd.more {w : World} {B B' : Nat} {A : Option Addr} {xs : List Value} (h : Rd w B A xs) (hB : B ≤ B') : Rd w B' A xs := by
  rcases h with rfl | ⟨ad, h1, h2, h3⟩
  · exact .inl rfl
  · exact .inr ⟨ad, h1, by omega, h3⟩
theorem Rd.below {w w' : World} {B : Nat} {A : Option Addr} {xs : List Value} (h : Rd w B A xs) (hb : Below B w w') : Rd w' B A xs := h.keep fun _ hp => hb.cell hp
theorem Rd.toStr {w : World} {B : Nat} {A : Option Addr} {bs : List UInt8} (h : Rd w B A (bs.map bv)) (n c : Nat) (hn : bs.length = n) :
    (convert 30 9 (.slice A n c)).run Tryd.prog w = .ok (.string ⟨bs.toArray⟩) w := by
  subst hn
  rcases h with h | ⟨ad, rfl, _, h3⟩
  · have : bs = [] := by simpa using h
    subst this
    rcases A with _ | ad
    · exact run_convert_bytes_nil w 30 5 Tryd.underlying30 Tryd.underlying5 _ _ 9 Tryd.underlying9
    · exact run_convert_bytes_back w 30 9 5 ad c [] Tryd.underlying30 Tryd.underlying5 Tryd.underlying9 (fun j hj => absurd hj (by simp))
  · exact run_convert_bytes_back w 30 9 5 ad c bs Tryd.underlying30 Tryd.underlying5 Tryd.underlying9 (fun j hj => h3 j _ (by simp [hj, bv]))
theorem below_drewN {B : Nat} {a w : World} (h : Below B a w) (n : Nat) : Below B a (w.drewN n) := ⟨h.os, h.tape, h.output, h.size, h.block⟩

/-- Block g is a row of the cells cs, none of them frozen. -/
def Row (w : World) (g : Nat) (t : TypeId) (cs : List Value) : Prop := w.heap[g]? = some (.cells cs.toArray t (0, 0))
theorem Row.lt {w : World} {g : Nat} {t : TypeId} {cs : List Value} (h : Row w g t cs) : g < w.heap.size := (Array.getElem?_eq_some_iff.1 h).1
theorem Row.cell {w : World} {g : Nat} {t : TypeId} {cs : List Value} (h : Row w g t cs) (k : Nat) : w.cell? ⟨g, k, none⟩ = cs[k]? := by
  unfold Row at h
  simp [World.cell?, h]
theorem Row.frozen {w : World} {g : Nat} {t : TypeId} {cs : List Value} (h : Row w g t cs) (k : Nat) : w.frozen? ⟨g, k, none⟩ = false := by
  unfold Row at h
  simp [World.frozen?, h]
theorem Row.set {w : World} {g : Nat} {t : TypeId} {cs : List Value} (h : Row w g t cs) (k : Nat) (v : Value) : Row (w.setCell ⟨g, k, none⟩ v) g t (cs.set k v) := by
  unfold Row at h ⊢
  have hlt := (Array.getElem?_eq_some_iff.1 h).1
  simp only [World.setCell, Array.getElem?_modify, h]
  simp
theorem Row.new (w : World) (cs : List Value) (t : TypeId) : Row (w.alloc (.cells cs.toArray t)) w.heap.size t cs := heap_alloc_last w _

/-- Nothing has turned but how much of the tape was read. -/
structure Stay (w w' : World) : Prop where
  os : w'.os = w.os
  tape : w'.tape = w.tape
  output : w'.output = w.output
  heap : w'.heap = w.heap
theorem Stay.refl (w : World) : Stay w w := ⟨rfl, rfl, rfl, rfl⟩
theorem Stay.drewN (w : World) (n : Nat) : Stay w (w.drewN n) := ⟨rfl, rfl, rfl, rfl⟩
theorem Stay.trans {a b c : World} (h : Stay a b) (k : Stay b c) : Stay a c := ⟨k.os.trans h.os, k.tape.trans h.tape, k.output.trans h.output, k.heap.trans h.heap⟩
theorem Stay.cell {w w' : World} (h : Stay w w') (p : Addr) : w'.cell? p = w.cell? p := by unfold World.cell?; rw [h.heap]
theorem Stay.frozen {w w' : World} (h : Stay w w') (p : Addr) : w'.frozen? p = w.frozen? p := by unfold World.frozen?; rw [h.heap]

/-- Of what there was only blocks of F may have turned. -/
structure Turn (F : Nat → Prop) (w w' : World) : Prop where
  os : w'.os = w.os
  tape : w'.tape = w.tape
  output : w'.output = w.output
  size : w.heap.size ≤ w'.heap.size
  block : ∀ k, k < w.heap.size → ¬ F k → w'.heap[k]? = w.heap[k]?
theorem Turn.refl (F : Nat → Prop) (w : World) : Turn F w w := ⟨rfl, rfl, rfl, Nat.le_refl _, fun _ _ _ => rfl⟩
theorem Turn.trans {F G : Nat → Prop} {a b c : World} (h : Turn F a b) (k : Turn G b c) (hG : ∀ k, k < a.heap.size → G k → F k) : Turn F a c :=
  ⟨k.os.trans h.os, k.tape.trans h.tape, k.output.trans h.output, Nat.le_trans h.size k.size, fun i hi hf => (k.block i (Nat.lt_of_lt_of_le hi h.size) (fun hg => hf (hG i hi hg))).trans (h.block i hi hf)⟩
theorem Turn.stay {F : Nat → Prop} {a b c : World} (h : Turn F a b) (k : Stay b c) : Turn F a c := ⟨k.os.trans h.os, k.tape.trans h.tape, k.output.trans h.output, by rw [k.heap]; exact h.size, fun i hi hf => by rw [k.heap]; exact h.block i hi hf⟩
theorem Stay.turn {w w' : World} (h : Stay w w') (F : Nat → Prop) : Turn F w w' := (Turn.refl F w).stay h
theorem Turn.alloc {F : Nat → Prop} {a w : World} (h : Turn F a w) (o : Obj) : Turn F a (w.alloc o) :=
  ⟨h.os, h.tape, h.output, by have := h.size; simp; omega, fun i hi hg => (Below.heap_alloc w o i (Nat.lt_of_lt_of_le hi h.size)).trans (h.block i hi hg)⟩
theorem Turn.setCell {F : Nat → Prop} {a w : World} (h : Turn F a w) (p : Addr) (hp : p.block < a.heap.size → F p.block) (v : Value) : Turn F a (w.setCell p v) :=
  ⟨h.os, h.tape, h.output, by have := h.size; simpa [World.setCell] using this, fun i hi hf => (Below.heap_setCell _ _ _ _ (by rintro rfl; exact hf (hp hi))).trans (h.block i hi hf)⟩
theorem Turn.below {F : Nat → Prop} {w w' : World} (h : Turn F w w') {B : Nat} (hF : ∀ k, F k → B ≤ k) (hB : B ≤ w.heap.size) : Below B w w' :=
  ⟨h.os, h.tape, h.output, h.size, fun k hk => h.block k (by omega) (fun hf => by have := hF k hf; omega)⟩
theorem Turn.row {F : Nat → Prop} {w w' : World} (h : Turn F w w') {g : Nat} {t : TypeId} {cs : List Value} (hr : Row w g t cs) (hg : ¬ F g) : Row w' g t cs := (h.block g hr.lt hg).trans hr
theorem Turn.mono {F G : Nat → Prop} {w w' : World} (h : Turn F w w') (hG : ∀ k, k < w.heap.size → F k → G k) : Turn G w w' := ⟨h.os, h.tape, h.output, h.size, fun i hi hf => h.block i hi (fun hg => hf (hG i hi hg))⟩
theorem Turn.of_below {F : Nat → Prop} {w w' : World} (h : Below w.heap.size w w') : Turn F w w' := ⟨h.os, h.tape, h.output, h.size, fun k hk _ => h.block k hk⟩
theorem cell_block {w w' : World} {p : Addr} (h : w'.heap[p.block]? = w.heap[p.block]?) : w'.cell? p = w.cell? p := by simp [World.cell?, h]
theorem frozen_block {w w' : World} {p : Addr} (h : w'.heap[p.block]? = w.heap[p.block]?) : w'.frozen? p = w.frozen? p := by simp [World.frozen?, h]

theorem info_parts' {P : Program} {t : TypeId} {v : Value} {n b : Nat} (h : (P.info? t).map (fun i => (i.zero, i.size, i.bytes)) = some (some v, n, b)) :
    ∃ i, P.info? t = some i ∧ i.zero = some v ∧ i.size = n ∧ i.bytes = b := by
  cases hq : P.info? t with
  | none => simp [hq] at h
  | some i => simp [hq] at h; exact ⟨i, rfl, h.1, h.2.1, h.2.2⟩
theorem u8_info : (Tryd.prog.info? 5).map (fun i => (i.zero, i.size, i.bytes)) = some (some (.int .u8 0), 1, 1) := by kernel_rfl

/-- v is a slice of bytes of our own that holds bs: the cells behind it, up to its capacity, are there and may be written. -/
def Span (w : World) (v : Value) (bs : List UInt8) : Prop :=
  ∃ A cap, v = .slice A bs.length cap ∧ bs.length ≤ cap ∧ cap ≤ 9223372036854775807 ∧ ((A = none ∧ cap = 0) ∨ ∃ h off, A = some ⟨h, off, none⟩ ∧ h < w.heap.size ∧
    (∀ (j : Nat) (u : Value), (bs.map bv)[j]? = some u → w.cell? ⟨h, off + j, none⟩ = some u) ∧ ∀ j, j < cap → (w.cell? ⟨h, off + j, none⟩).isSome = true ∧ w.frozen? ⟨h, off + j, none⟩ = false)
theorem Span.nil (w : World) : Span w (.slice none 0 0) [] := ⟨none, 0, rfl, Nat.le_refl _, by decide, .inl ⟨rfl, rfl⟩⟩
theorem Span.keep {w w' : World} {v : Value} {bs : List UInt8} (h : Span w v bs) (hs : w.heap.size ≤ w'.heap.size) (hk : ∀ k, v.ownBlock = some k → w'.heap[k]? = w.heap[k]?) : Span w' v bs := by
  obtain ⟨A, cap, rfl, h1, h2, h3⟩ := h
  refine ⟨A, cap, rfl, h1, h2, ?_⟩
  rcases h3 with h3 | ⟨hb, off, rfl, h4, h5, h6⟩
  · exact .inl h3
  · have e := hk hb rfl
    exact .inr ⟨hb, off, rfl, by omega, fun j u hj => (cell_block (p := ⟨hb, off + j, none⟩) e).trans (h5 j u hj), fun j hj => by rw [cell_block (p := ⟨hb, off + j, none⟩) e, frozen_block (p := ⟨hb, off + j, none⟩) e]; exact h6 j hj⟩
theorem Span.lt {w : World} {v : Value} {bs : List UInt8} (h : Span w v bs) : ∀ k, v.ownBlock = some k → k < w.heap.size := by
  obtain ⟨A, cap, rfl, h1, h2, h3⟩ := h
  intro k hk
  rcases h3 with ⟨rfl, rfl⟩ | ⟨hb, off, rfl, h4, _⟩
  · cases hk
  · have e : hb = k := Option.some.inj hk
    omega
theorem Span.slice {w : World} {v : Value} {bs : List UInt8} (h : Span w v bs) : ∃ A cap, v = .slice A bs.length cap ∧ bs.length ≤ cap ∧ cap ≤ 9223372036854775807 ∧ Rd w w.heap.size A (bs.map bv) := by
  obtain ⟨A, cap, rfl, h1, h2, h3⟩ := h
  refine ⟨A, cap, rfl, h1, h2, ?_⟩
  rcases h3 with ⟨rfl, rfl⟩ | ⟨hb, off, rfl, h4, h5, _⟩
  · exact .inl (by simpa using List.eq_nil_of_length_eq_zero (by omega : bs.length = 0))
  · exact .inr ⟨_, rfl, h4, fun j u hj => by rw [Addr.add_mid]; exact h5 j u hj⟩
/-- Its beginning. -/
theorem Span.take {w : World} {A : Option Addr} {n cap : Nat} {bs : List UInt8} (h : Span w (.slice A n cap) bs) (k : Nat) (hk : k ≤ bs.length) : Span w (.slice A k cap) (bs.take k) := by
  obtain ⟨A', cap', e, h1, h2, h3⟩ := h
  injection e with e1 e2 e3
  subst e1 e2 e3
  refine ⟨A, cap, by simp [Nat.min_eq_left hk], by rw [List.length_take]; omega, h2, ?_⟩
  rcases h3 with h3 | ⟨hb, off, rfl, h4, h5, h6⟩
  · exact .inl h3
  · refine .inr ⟨hb, off, rfl, h4, fun j u hj => h5 j u ?_, h6⟩
    rw [List.map_take, List.getElem?_take] at hj
    split at hj
    · exact hj
    · simp at hj
/-- Its end. -/
theorem Span.drop {w : World} {A : Option Addr} {n cap : Nat} {bs : List UInt8} (h : Span w (.slice A n cap) bs) (k : Nat) (hk : k ≤ bs.length) : Span w (.slice (if cap = k then A else A.map (·.add k)) (n - k) (cap - k)) (bs.drop k) := by
  obtain ⟨A', cap', e, h1, h2, h3⟩ := h
  injection e with e1 e2 e3
  subst e1 e2 e3
  refine ⟨(if cap = k then A else A.map (·.add k)), cap - k, by simp, by rw [List.length_drop]; omega, by omega, ?_⟩
  rcases h3 with ⟨rfl, rfl⟩ | ⟨hb, off, rfl, h4, h5, h6⟩
  · exact .inl ⟨by split <;> rfl, by omega⟩
  · have hd : ∀ (j : Nat) (u : Value), ((bs.drop k).map bv)[j]? = some u → w.cell? ⟨hb, off + k + j, none⟩ = some u := fun j u hj => by
      rw [List.map_drop, List.getElem?_drop] at hj
      rw [Nat.add_assoc]
      exact h5 _ u hj
    by_cases hc : cap = k
    · refine .inr ⟨hb, off, by simp [hc], h4, fun j u hj => ?_, fun j hj => by omega⟩
      have : bs.drop k = [] := List.drop_eq_nil_of_le (by omega)
      rw [this] at hj
      simp at hj
    · refine .inr ⟨hb, off + k, by simp [hc, Addr.add_mid], h4, hd, fun j hj => ?_⟩
      have := h6 (k + j) (by omega)
      rwa [← Nat.add_assoc] at this
theorem ownBlock_drop (A : Option Addr) (n m k cap c : Nat) : (Value.slice (if cap = k then A else A.map (·.add k)) n c).ownBlock = (Value.slice A m cap).ownBlock := by
  rcases A with _ | ad
  · split <;> rfl
  · split
    · rfl
    · show some (ad.add k).block = some ad.block
      unfold Addr.add
      split <;> rfl
theorem span_new (w : World) (cells : Array Value) (bs : List UInt8) (cap : Nat) (hc : cap = cells.size) (hb : ∀ (j : Nat) (u : Value), (bs.map bv)[j]? = some u → cells[j]? = some u) (hl : bs.length ≤ cap) (hm : cap ≤ 9223372036854775807) (n : Nat) (hn : n = bs.length) :
    Span (w.alloc (.cells cells 5)) (.slice (some ⟨w.heap.size, 0, none⟩) n cap) bs := by
  subst hn
  have e1 : ∀ j, (w.alloc (.cells cells 5)).cell? ⟨w.heap.size, j, none⟩ = cells[j]? := fun j => World.cell?_alloc_mark w cells 5 (0, 0) j
  have e2 : ∀ j, (w.alloc (.cells cells 5)).frozen? ⟨w.heap.size, j, none⟩ = false := fun j => by
    have := heap_alloc_last w (.cells cells 5)
    unfold World.frozen?
    rw [this]
    simp
  refine ⟨_, cap, rfl, hl, hm, .inr ⟨w.heap.size, 0, rfl, by simp, fun j u hj => ?_, fun j hj => ?_⟩⟩
  · rw [Nat.zero_add, e1]; exact hb j u hj
  · rw [Nat.zero_add, e1, e2]
    exact ⟨by rw [Array.getElem?_eq_getElem (by omega)]; rfl, rfl⟩

theorem tape_setCells (b : Nat) : ∀ (vs : List Value) (o : Nat) (w : World), (w.setCells b o vs).tape = w.tape
  | [], _, _ => rfl
  | v :: r, o, w => tape_setCells b r (o + 1) (w.setCell ⟨b, o, none⟩ v)
theorem heap_setCells (b : Nat) : ∀ (vs : List Value) (o : Nat) (w : World) (k : Nat), k ≠ b → (w.setCells b o vs).heap[k]? = w.heap[k]?
  | [], _, _, _, _ => rfl
  | v :: r, o, w, k, h => (heap_setCells b r (o + 1) (w.setCell ⟨b, o, none⟩ v) k h).trans (Below.heap_setCell _ _ _ _ h)
/-- Bytes appended to a slice of our own. -/
theorem run_append_span (w : World) (v : Value) (bs : List UInt8) (hs : Span w v bs) (B : Nat) (A : Option Addr) (m c : Nat) (xs : List UInt8) (hm : xs.length = m) (hr : Rd w B A (xs.map bv)) (hb : bs.length + m ≤ 140737488355328) (ty : TypeId) :
    ∃ v' w', (Builtin.append_ #[30, 30] ty #[v, .slice A m c]).run Tryd.prog w = .ok v' w' ∧ Span w' v' (bs ++ xs) ∧ Turn (fun k => v.ownBlock = some k) w w' ∧ (v'.ownBlock = v.ownBlock ∨ ∃ k, v'.ownBlock = some k ∧ w.heap.size ≤ k) := by
  obtain ⟨i0, hi0, hz0, hz1, hz2⟩ := info_parts' u8_info
  subst hm
  have hs0 := hs
  obtain ⟨A0, cap, rfl, h1, h2, h3⟩ := hs
  rcases A with _ | ad
  · have hxs : xs = [] := by
      rcases hr with h | ⟨ad, h, _⟩
      · simpa using h
      · cases h
    subst hxs
    refine ⟨.slice A0 bs.length cap, w, ?_, by simpa using hs0, Turn.refl _ _, .inl rfl⟩
    rcases h3 with ⟨rfl, rfl⟩ | ⟨hb, off, rfl, _⟩
    · have : bs.length = 0 := by omega
      simp [Builtin.append_, run_underlying Tryd.underlying30, sizeOf, typeInfo, hi0, Builtin.lenOf, Builtin.firstCells, this]
    · simp [Builtin.append_, run_underlying Tryd.underlying30, sizeOf, typeInfo, hi0, Builtin.lenOf, Builtin.firstCells, h1, storeCells]
  · have hnews : ∀ (j : Nat) (u : Value), (xs.map bv)[j]? = some u → w.cell? (ad.add j) = some u := by
      intro j u hj
      obtain ⟨ad', e1, _, e2⟩ := hr.cell hj
      injection e1 with e1
      subst e1
      exact e2
    have hnl : (xs.map bv).length = xs.length * i0.size := by simp [hz1]
    have grown : ∀ (old : Nat) (F : Nat → Prop),
        Span (w.drew.alloc (.cells ((bs.map bv).toArray ++ (xs.map bv).toArray ++ Builtin.zeroCells (Value.int .u8 0).cells (grownCap w (bs.length + xs.length) old 5 - (bs.length + xs.length))) 5))
          (.slice (some ⟨w.heap.size, 0, none⟩) (bs.length + xs.length) (grownCap w (bs.length + xs.length) old 5)) (bs ++ xs) ∧
        Turn F w (w.drew.alloc (.cells ((bs.map bv).toArray ++ (xs.map bv).toArray ++ Builtin.zeroCells (Value.int .u8 0).cells (grownCap w (bs.length + xs.length) old 5 - (bs.length + xs.length))) 5)) := by
      intro old F
      have hge := grownCap_ge w (bs.length + xs.length) old 5
      have hle := grownCap_le_maxLen w (bs.length + xs.length) old 5 (by simp only [maxLen]; omega)
      refine ⟨span_new w.drew _ (bs ++ xs) _ ?_ ?_ (by simpa using hge) (by simpa only [maxLen] using hle) _ (by simp), ((⟨rfl, rfl, rfl, rfl⟩ : Stay w w.drew).turn F).alloc _⟩
      · simp only [Array.size_append, List.size_toArray, size_zeroCells, List.length_map, Value.cells]
        simp
        omega
      · intro j u hj
        have hjl : j < (bs ++ xs).length := by
          rcases Nat.lt_or_ge j (bs ++ xs).length with hlt | hge
          · exact hlt
          · rw [List.getElem?_eq_none (by simpa using hge)] at hj; cases hj
        rw [Array.getElem?_append_left (by simpa using hjl), List.append_toArray, List.getElem?_toArray, ← List.map_append]
        exact hj
    rcases h3 with ⟨rfl, rfl⟩ | ⟨hbk, off, rfl, h4, h5, h6⟩
    · have hb0 : bs = [] := List.eq_nil_of_length_eq_zero (by omega)
      subst hb0
      by_cases hm : xs.length = 0
      · have hxs : xs = [] := List.eq_nil_of_length_eq_zero hm
        subst hxs
        refine ⟨.slice none 0 0, w, ?_, Span.nil w, Turn.refl _ _, .inl rfl⟩
        simp [Builtin.append_, run_underlying Tryd.underlying30, sizeOf, typeInfo, hi0, Builtin.lenOf, Builtin.firstCells, loadCells, loadCellsFrom]
      · have hrun := run_append_nil (P := Tryd.prog) w 30 ty 5 i0 _ Tryd.underlying30 hi0 hz0 ad xs.length c (xs.map bv) hnl hnews (by omega) (by simp at hb; omega) (by simp at hb; rw [hz2]; omega)
        obtain ⟨g1, g2⟩ := grown 0 (fun k => (Value.slice none 0 0).ownBlock = some k)
        simp only [List.length_nil, Nat.zero_add, List.map_nil, List.nil_append] at g1 g2 hrun ⊢
        exact ⟨_, _, hrun, by simpa using g1, by simpa using g2, .inr ⟨_, rfl, Nat.le_refl _⟩⟩
    · by_cases hroom : bs.length + xs.length ≤ cap
      · have hc : ∀ j, j < (xs.map bv).length → (w.cell? ⟨hbk, off + bs.length * i0.size + j, none⟩).isSome = true := fun j hj => by
          have := (h6 (bs.length + j) (by simp at hj; omega)).1
          rw [hz1, Nat.mul_one, Nat.add_assoc]; exact this
        have hf : ∀ j, j < (xs.map bv).length → w.frozen? ⟨hbk, off + bs.length * i0.size + j, none⟩ = false := fun j hj => by
          have := (h6 (bs.length + j) (by simp at hj; omega)).2
          rw [hz1, Nat.mul_one, Nat.add_assoc]; exact this
        have hrun := run_append_room_cells (P := Tryd.prog) w 30 ty 5 i0 Tryd.underlying30 hi0 hbk off bs.length cap ad xs.length c (xs.map bv) hnl hnews (bytes_one xs) hroom hc hf
        have hkb := World.keptBut_setCells hbk (may := fun p => ∃ j, p = .cell hbk j) (xs.map bv) (off + bs.length * i0.size) w (fun j _ => ⟨_, rfl⟩)
        refine ⟨_, _, hrun, ⟨_, cap, by simp, by simpa using hroom, h2, .inr ⟨hbk, off, rfl, Nat.lt_of_lt_of_le h4 hkb.size, ?_, ?_⟩⟩, ?_, .inl rfl⟩
        · intro j u hj
          rw [List.map_append] at hj
          by_cases hjl : j < bs.length
          · rw [List.getElem?_append_left (by simpa using hjl)] at hj
            rw [World.cell?_setCells_out _ _ _ _ _ (fun _ _ => .inl (by show off + j < off + bs.length * i0.size; rw [hz1]; omega))]
            exact h5 j u hj
          · rw [List.getElem?_append_right (by simp; omega)] at hj
            simp only [List.length_map] at hj
            obtain ⟨hlt, he⟩ := List.getElem?_eq_some_iff.1 hj
            have := World.cell?_setCells_in hbk (xs.map bv) (off + bs.length * i0.size) w hc (j - bs.length) hlt
            rw [show off + j = off + bs.length * i0.size + (j - bs.length) by rw [hz1]; omega, this, he]
        · intro j hj
          exact ⟨World.isSome_setCells _ _ _ _ _ (h6 j hj).1, by rw [World.frozen?_setCells]; exact (h6 j hj).2⟩
        · refine ⟨hkb.1, ?_, hkb.2.1, hkb.size, fun k hk hne => ?_⟩
          · exact tape_setCells _ _ _ _
          · exact heap_setCells _ _ _ _ _ (fun e => hne (by rw [e]; rfl))
      · have hrun := run_append_grow (P := Tryd.prog) w 30 ty 5 i0 _ Tryd.underlying30 hi0 hz0 ⟨hbk, off, none⟩ bs.length cap (bs.map bv) (by simp [hz1]) (fun j u hj => by rw [Addr.add_mid]; exact h5 j u hj) ad xs.length c (xs.map bv) hnl hnews (by omega) (by omega) (growslice_fits (by omega) (by rw [hz2]; omega))
        obtain ⟨g1, g2⟩ := grown cap (fun k => (Value.slice (some ⟨hbk, off, none⟩) bs.length cap).ownBlock = some k)
        exact ⟨_, _, hrun, g1, g2, .inr ⟨_, rfl, Nat.le_refl _⟩⟩
end Go.Proofs.YtlceemaannndbaaDoor

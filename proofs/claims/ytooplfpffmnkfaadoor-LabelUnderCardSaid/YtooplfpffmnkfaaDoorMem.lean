/- How rows of texts are read; the variables that the layer reads; a row of texts of our own. -/
import Derived.Test.YtooplfpffmnkfaaDoorRows
import Derived.Test.YtooplfpffmnkfaaDoorLab
import Derived.Test.YtooplfpffmnkfaaDoorShelf
import Derived.WalkKit
import Derived.WalkSpells
import Derived.WalkLawsBesides
import Derived.Below
import Derived.Lib.Hide
import Derived.Laws.IdiomStrings
import Derived.Deep.WholeRow
import Derived.Deep.MidRow
import Derived.Maps.AppendAt
import Derived.ArgAppend
import Derived.OwnWalk
import Derived.BigQuiet
import Derived.Deep.QuietTactic
import Derived.Deep.RegionLaw
import Derived.Lib.SliceRun
namespace Go.Proofs.YtooplfpffmnkfaaDoor
open Go.RowKit

theorem ret_int {k : IntKind} {a b : Int} (h : a = b) : Ending.returned (.int k a) = .returned (.int k b) := by rw [h]
theorem ret_bool {a b : Bool} (h : a = b) : Ending.returned (.bool a) = .returned (.bool b) := by rw [h]

/-- An equation that no tactic looks into. -/
structure Shut (p : Prop) : Prop where
  out : p

/-- 'the slice value with base A and length xs.length holds the cells xs, in a block below B'. -/
def Rd (w : World) (B : Nat) (A : Option Addr) (xs : List Value) : Prop :=
  xs = [] ∨ ∃ ad, A = some ad ∧ ad.block < B ∧ ∀ (j : Nat) (u : Value), xs[j]? = some u → w.cell? (ad.add j) = some u

theorem Rd.cell {w : World} {B : Nat} {A : Option Addr} {xs : List Value} (h : Rd w B A xs) {k : Nat} {u : Value} (hk : xs[k]? = some u) :
    ∃ ad, A = some ad ∧ ad.block < B ∧ w.cell? (ad.add k) = some u := by
  rcases h with rfl | ⟨ad, h1, h2, h3⟩
  · simp at hk
  · exact ⟨ad, h1, h2, h3 k u hk⟩
theorem Rd.take {w : World} {B : Nat} {A : Option Addr} {xs : List Value} (h : Rd w B A xs) (k : Nat) : Rd w B A (xs.take k) := by
  rcases h with rfl | ⟨ad, h1, h2, h3⟩
  · exact .inl (by simp)
  · refine .inr ⟨ad, h1, h2, fun j u hj => h3 j u ?_⟩
    rw [List.getElem?_take] at hj
    split at hj
    · exact hj
    · simp at hj
theorem Rd.keep {w w' : World} {B : Nat} {A : Option Addr} {xs : List Value} (h : Rd w B A xs) (hk : ∀ p : Addr, p.block < B → w'.cell? p = w.cell? p) : Rd w' B A xs := by
  rcases h with rfl | ⟨ad, h1, h2, h3⟩
  · exact .inl rfl
  · refine .inr ⟨ad, h1, h2, fun j u hj => (hk _ ?_).trans (h3 j u hj)⟩
    unfold Addr.add
    split <;> exact h2
theorem Rd.more {w : World} {B B' : Nat} {A : Option Addr} {xs : List Value} (h : Rd w B A xs) (hB : B ≤ B') : Rd w B' A xs := by
  rcases h with rfl | ⟨ad, h1, h2, h3⟩
  · exact .inl rfl
  · exact .inr ⟨ad, h1, by omega, h3⟩
theorem Rd.below {w w' : World} {B : Nat} {A : Option Addr} {xs : List Value} (h : Rd w B A xs) (hb : Below B w w') : Rd w' B A xs := h.keep fun _ hp => hb.cell hp
theorem below_drewN {B : Nat} {a w : World} (h : Below B a w) (n : Nat) : Below B a (w.drewN n) := ⟨h.os, h.tape, h.output, h.size, h.block⟩

/-- Block g is a row of the cells cs, none of them frozen. -/
def Row (w : World) (g : Nat) (t : TypeId) (cs : List Value) : Prop := w.heap[g]? = some (.cells cs.toArray t (0, 0))
theorem Row.lt {w : World} {g : Nat} {t : TypeId} {cs : List Value} (h : Row w g t cs) : g < w.heap.size := (Array.getElem?_eq_some_iff.1 h).1
theorem Row.cell {w : World} {g : Nat} {t : TypeId} {cs : List Value} (h : Row w g t cs) (k : Nat) : w.cell? ⟨g, k, none⟩ = cs[k]? := by
  unfold Row at h
  simp [World.cell?, h]
theorem Row.frozen {w : World} {g : Nat} {t : TypeId} {cs : List Value} (h : Row w g t cs) (k : Nat) : w.frozen? ⟨g, k, none⟩ = false := by
  unfold Row at h
  simp [World.frozen?, h]
theorem Row.set {w : World} {g : Nat} {t : TypeId} {cs : List Value} (h : Row w g t cs) (k : Nat) (v : Value) : Row (w.setCell ⟨g, k, none⟩ v) g t (cs.set k v) := by
  unfold Row at h ⊢
  have hlt := (Array.getElem?_eq_some_iff.1 h).1
  simp only [World.setCell, Array.getElem?_modify, h]
  simp
theorem Row.new (w : World) (cs : List Value) (t : TypeId) : Row (w.alloc (.cells cs.toArray t)) w.heap.size t cs := heap_alloc_last w _

/-- Nothing has turned but how much of the tape was read. -/
structure Stay (w w' : World) : Prop where
  os : w'.os = w.os
  tape : w'.tape = w.tape
  output : w'.output = w.output
  heap : w'.heap = w.heap
theorem Stay.refl (w : World) : Stay w w := ⟨rfl, rfl, rfl, rfl⟩
theorem Stay.drewN (w : World) (n : Nat) : Stay w (w.drewN n) := ⟨rfl, rfl, rfl, rfl⟩
theorem Stay.trans {a b c : World} (h : Stay a b) (k : Stay b c) : Stay a c := ⟨k.os.trans h.os, k.tape.trans h.tape, k.output.trans h.output, k.heap.trans h.heap⟩
theorem Stay.cell {w w' : World} (h : Stay w w') (p : Addr) : w'.cell? p = w.cell? p := by unfold World.cell?; rw [h.heap]
theorem Stay.frozen {w w' : World} (h : Stay w w') (p : Addr) : w'.frozen? p = w.frozen? p := by unfold World.frozen?; rw [h.heap]

/-- Of what there was only blocks of F may have turned. -/
structure Turn (F : Nat → Prop) (w w' : World) : Prop where
  os : w'.os = w.os
  tape : w'.tape = w.tape
  output : w'.output = w.output
  size : w.heap.size ≤ w'.heap.size
  block : ∀ k, k < w.heap.size → ¬ F k → w'.heap[k]? = w.heap[k]?
theorem Turn.refl (F : Nat → Prop) (w : World) : Turn F w w := ⟨rfl, rfl, rfl, Nat.le_refl _, fun _ _ _ => rfl⟩
theorem Turn.trans {F G : Nat → Prop} {a b c : World} (h : Turn F a b) (k : Turn G b c) (hG : ∀ k, k < a.heap.size → G k → F k) : Turn F a c :=
  ⟨k.os.trans h.os, k.tape.trans h.tape, k.output.trans h.output, Nat.le_trans h.size k.size, fun i hi hf => (k.block i (Nat.lt_of_lt_of_le hi h.size) (fun hg => hf (hG i hi hg))).trans (h.block i hi hf)⟩
theorem Turn.stay {F : Nat → Prop} {a b c : World} (h : Turn F a b) (k : Stay b c) : Turn F a c := ⟨k.os.trans h.os, k.tape.trans h.tape, k.output.trans h.output, by rw [k.heap]; exact h.size, fun i hi hf => by rw [k.heap]; exact h.block i hi hf⟩
theorem Stay.turn {w w' : World} (h : Stay w w') (F : Nat → Prop) : Turn F w w' := (Turn.refl F w).stay h
theorem Turn.alloc {F : Nat → Prop} {a w : World} (h : Turn F a w) (o : Obj) : Turn F a (w.alloc o) :=
  ⟨h.os, h.tape, h.output, by have := h.size; simp; omega, fun i hi hg => (Below.heap_alloc w o i (Nat.lt_of_lt_of_le hi h.size)).trans (h.block i hi hg)⟩
theorem Turn.setCell {F : Nat → Prop} {a w : World} (h : Turn F a w) (p : Addr) (hp : p.block < a.heap.size → F p.block) (v : Value) : Turn F a (w.setCell p v) :=
  ⟨h.os, h.tape, h.output, by have := h.size; simpa [World.setCell] using this, fun i hi hf => (Below.heap_setCell _ _ _ _ (by rintro rfl; exact hf (hp hi))).trans (h.block i hi hf)⟩
theorem Turn.below {F : Nat → Prop} {w w' : World} (h : Turn F w w') {B : Nat} (hF : ∀ k, F k → B ≤ k) (hB : B ≤ w.heap.size) : Below B w w' :=
  ⟨h.os, h.tape, h.output, h.size, fun k hk => h.block k (by omega) (fun hf => by have := hF k hf; omega)⟩
theorem Turn.row {F : Nat → Prop} {w w' : World} (h : Turn F w w') {g : Nat} {t : TypeId} {cs : List Value} (hr : Row w g t cs) (hg : ¬ F g) : Row w' g t cs := (h.block g hr.lt hg).trans hr
theorem Turn.mono {F G : Nat → Prop} {w w' : World} (h : Turn F w w') (hG : ∀ k, k < w.heap.size → F k → G k) : Turn G w w' := ⟨h.os, h.tape, h.output, h.size, fun i hi hf => h.block i hi (fun hg => hf (hG i hi hg))⟩
theorem Turn.of_below {F : Nat → Prop} {w w' : World} (h : Below w.heap.size w w') : Turn F w w' := ⟨h.os, h.tape, h.output, h.size, fun k hk _ => h.block k hk⟩
theorem cell_block {w w' : World} {p : Addr} (h : w'.heap[p.block]? = w.heap[p.block]?) : w'.cell? p = w.cell? p := by simp [World.cell?, h]
theorem frozen_block {w w' : World} {p : Addr} (h : w'.heap[p.block]? = w.heap[p.block]?) : w'.frozen? p = w.frozen? p := by simp [World.frozen?, h]

theorem info_parts' {P : Program} {t : TypeId} {v : Value} {n b : Nat} (h : (P.info? t).map (fun i => (i.zero, i.size, i.bytes)) = some (some v, n, b)) :
    ∃ i, P.info? t = some i ∧ i.zero = some v ∧ i.size = n ∧ i.bytes = b := by
  cases hq : P.info? t with
  | none => simp [hq] at h
  | some i => simp [hq] at h; exact ⟨i, rfl, h.1, h.2.1, h.2.2⟩

theorem below_alloc (w : World) (o : Obj) : Below w.heap.size w (w.alloc o) := (Below.refl _ _).alloc (Nat.le_refl _) _
/-- Texts as cells. -/
def sv (ss : List ByteArray) : List Value := ss.map Value.string
theorem sv_get {ss : List ByteArray} {k : Nat} (h : k < ss.length) : (sv ss)[k]? = some (.string ss[k]) := by simp [sv, h]
/-- The texts' bytes. -/
def bytesOf (ss : List ByteArray) : List (List UInt8) := ss.map (·.data.toList)
theorem bytesOf_length (ss : List ByteArray) : (bytesOf ss).length = ss.length := by simp [bytesOf]
theorem bytesOf_get {ss : List ByteArray} {k : Nat} (h : k < ss.length) : (bytesOf ss)[k]? = some ss[k].data.toList := by simp [bytesOf, h]
theorem size_bytes (s : ByteArray) : s.size = s.data.toList.length := Go.Lib.size_eq s

/-- What the variables hold that the layer reads: ErrName, and the library's bytealg.MaxLen (whatever number). -/
structure Env (w : World) (a : Addr) (m : Int) : Prop where
  c0 : w.cell? ⟨0, 0, none⟩ = some (.iface 57 (.pointer (some a)))
  c1 : w.cell? ⟨1, 0, none⟩ = some (.int .i64 m)
  lt : 2 ≤ w.heap.size
theorem Env.below {w w' : World} {a : Addr} {m : Int} (h : Env w a m) {B : Nat} (hB : 2 ≤ B) (hb : Below B w w') : Env w' a m :=
  ⟨(hb.cell (p := ⟨0, 0, none⟩) (by show 0 < B; omega)).trans h.c0, (hb.cell (p := ⟨1, 0, none⟩) (by show 1 < B; omega)).trans h.c1, Nat.le_trans h.lt hb.size⟩
/-- What Check and Name answer. -/
def errV (a : Addr) (b : Bool) : Value := if b = true then .nilIface else .iface 57 (.pointer (some a))

/-- A slice of texts that ss are. -/
def Txt (w : World) (v : Value) (ss : List ByteArray) : Prop :=
  ∃ A c, v = .slice A ss.length c ∧ ss.length ≤ c ∧ c ≤ 9223372036854775807 ∧ Rd w w.heap.size A (sv ss)
theorem Txt.below {w w' : World} {v : Value} {ss : List ByteArray} (h : Txt w v ss) (hb : Below w.heap.size w w') : Txt w' v ss := by
  obtain ⟨A, c, e, h1, h2, h3⟩ := h
  exact ⟨A, c, e, h1, h2, (h3.below hb).more hb.size⟩
theorem str_info : (Tryd.prog.info? 9).map (fun i => (i.zero, i.size, i.bytes)) = some (some (.string ⟨#[]⟩), 1, 16) := by kernel_rfl
/-- strings.Split at a dot. -/
theorem split_any (s : ByteArray) (a : Addr) (m : Int) (w : World) (hs : s.size < 4294967281) (hE : Env w a m) :
    Calls Tryd.prog 22 #[.string s, .string ⟨#[46]⟩] w fun e w' => ∃ A c ss, e = .returned (.slice A ss.length c) ∧ Hid (bytesOf ss = cutD s.data.toList ∧ ss.length ≤ c ∧ c ≤ 9223372036854775807 ∧ Rd w' w'.heap.size A (sv ss) ∧ Below w.heap.size w w') := by
  have h := Tryd.strings_Split s ⟨#[46]⟩ m w hs hE.c1 (by decide)
  refine h.mono fun e w' ⟨he, hw⟩ => ?_
  subst he hw
  have hlen : (Go.Lib.splitB ⟨#[46]⟩ 0 (Go.Lib.countB s ⟨#[46]⟩) s).length = Go.Lib.countB s ⟨#[46]⟩ + 1 := Go.Lib.splitB_all _ (by decide) 0 _ s rfl
  have hcnt : Go.Lib.countB s ⟨#[46]⟩ ≤ s.size := Go.Lib.countB_le _ (by decide) s.size s (Nat.le_refl _)
  refine ⟨_, _, Go.Lib.splitB ⟨#[46]⟩ 0 (Go.Lib.countB s ⟨#[46]⟩) s, by rw [hlen], Lib.hid ⟨?_, by omega, by omega, .inr ⟨_, rfl, by simp, fun j u hj => ?_⟩, below_alloc w _⟩⟩
  · unfold bytesOf
    rw [Go.Lib.splitB_data]
    exact splitK_cutD _
  · have e1 := World.cell?_alloc_mark w ((Go.Lib.splitB ⟨#[46]⟩ 0 (Go.Lib.countB s ⟨#[46]⟩) s).map Value.string).toArray 9 (0, 0) j
    have e2 : (⟨w.heap.size, 0, none⟩ : Addr).add j = ⟨w.heap.size, j, none⟩ := by simp [Addr.add]; omega
    rw [e2, e1]
    simpa [sv] using hj
end Go.Proofs.YtooplfpffmnkfaaDoor

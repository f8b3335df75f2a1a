/- SHA-256 and HMAC as plain mathematics: words, rounds, blocks, padding. How byte slices and whole rows are read; what a call that writes one row leaves alone; the words' operators as the walk spells them. What the small functions on words answer: RotateLeft32, right, turned, wordOf. Laws at single operations, the world behind them a name: a new variable, a whole row loaded or stored, a result that lies in a variable. What (*sum).spread answers: the 64 words of the block that the sum holds. What (*sum).mix does: the words of the sum become those behind its block. What (*sum).add does: the sum of a stream becomes that of the stream with the bytes behind it. What appendWord, newSum and (*sum).addAll do. What (*sum).addAll does: every part is added, in order. What (*sum).finish answers: the digest of the stream. What hash.Digest and hash.Check answer of parts: the digest of all their bytes, and its first four. What hash.Check, padKey and maskedSum answer. -/
import Derived.Test.YtchnbknbccpmcaaDoorRows
import Derived.WalkKit
import Derived.WalkSpells
import Derived.WalkLawsBesides
import Derived.Below
import Derived.Lib.Hide
import Derived.Laws.BitsAllLaws
import Derived.Laws.IdiomStrings
import Derived.Laws.BytesArg
import Derived.Laws.CopyOwn
import Derived.Deep.WholeRow
import Derived.Maps.AppendAt
import Derived.Maps.Range
import Derived.OwnWalk
import Derived.Deep.QuietTactic
import Derived.BigQuiet
import Derived.Deep.MidRow
import Derived.BigRegion
import Derived.Deep.RegionLaw
namespace Go.Proofs.YtchnbknbccpmcaaDoor.H

abbrev Wd := BitVec 32
def rotr (x : Wd) (n : Nat) : Wd := (x <<< (32 - n)) ||| (x >>> n)
def sg0 (x : Wd) : Wd := rotr x 7 ^^^ rotr x 18 ^^^ (x >>> 3)
def sg1 (x : Wd) : Wd := rotr x 17 ^^^ rotr x 19 ^^^ (x >>> 10)
def bg1 (e : Wd) : Wd := rotr e 6 ^^^ rotr e 11 ^^^ rotr e 25
def bg0 (a : Wd) : Wd := rotr a 2 ^^^ rotr a 13 ^^^ rotr a 22
def chF (e f g : Wd) : Wd := (e &&& f) ^^^ (~~~e &&& g)
def mjF (a b c : Wd) : Wd := (a &&& b) ^^^ (a &&& c) ^^^ (b &&& c)
structure Regs where
  a : Wd
  b : Wd
  c : Wd
  d : Wd
  e : Wd
  f : Wd
  g : Wd
  h : Wd
def Regs.list (r : Regs) : List Wd := [r.a, r.b, r.c, r.d, r.e, r.f, r.g, r.h]
def t1F (k w : Wd) (r : Regs) : Wd := r.h + bg1 r.e + chF r.e r.f r.g + k + w
def t2F (r : Regs) : Wd := bg0 r.a + mjF r.a r.b r.c
def rnd (k w : Wd) (r : Regs) : Regs := ⟨t1F k w r + t2F r, r.a, r.b, r.c, r.d + t1F k w r, r.e, r.f, r.g⟩
def Regs.plus (r s : Regs) : Regs := ⟨r.a + s.a, r.b + s.b, r.c + s.c, r.d + s.d, r.e + s.e, r.f + s.f, r.g + s.g, r.h + s.h⟩
def bw (b : UInt8) : Wd := BitVec.ofNat 32 b.toNat
def wordOf (b0 b1 b2 b3 : UInt8) : Wd := (bw b0 <<< 24) ||| (bw b1 <<< 16) ||| (bw b2 <<< 8) ||| bw b3
def wordAt (bs : List UInt8) (t : Nat) : Wd := wordOf (bs.getD (4 * t) 0) (bs.getD (4 * t + 1) 0) (bs.getD (4 * t + 2) 0) (bs.getD (4 * t + 3) 0)
def wordsOf (bs : List UInt8) : List Wd := (List.range 16).map (wordAt bs)
def nextW (l : List Wd) (t : Nat) : Wd := sg1 (l.getD (t - 2) 0) + l.getD (t - 7) 0 + sg0 (l.getD (t - 15) 0) + l.getD (t - 16) 0
/-- The first 16 + k words of a block. -/
def sch (l : List Wd) : Nat → List Wd
  | 0 => l
  | k + 1 => sch l k ++ [nextW (sch l k) (16 + k)]
def spreadL (bs : List UInt8) : List Wd := sch (wordsOf bs) 48
def rounds (K W : List Wd) (r : Regs) : Nat → Regs
  | 0 => r
  | t + 1 => rnd (K.getD t 0) (W.getD t 0) (rounds K W r t)
def KT : List Wd := [1116352408, 1899447441, 3049323471, 3921009573, 961987163, 1508970993, 2453635748, 2870763221,
  3624381080, 310598401, 607225278, 1426881987, 1925078388, 2162078206, 2614888103, 3248222580,
  3835390401, 4022224774, 264347078, 604807628, 770255983, 1249150122, 1555081692, 1996064986,
  2554220882, 2821834349, 2952996808, 3210313671, 3336571891, 3584528711, 113926993, 338241895,
  666307205, 773529912, 1294757372, 1396182291, 1695183700, 1986661051, 2177026350, 2456956037,
  2730485921, 2820302411, 3259730800, 3345764771, 3516065817, 3600352804, 4094571909, 275423344,
  430227734, 506948616, 659060556, 883997877, 958139571, 1322822218, 1537002063, 1747873779,
  1955562222, 2024104815, 2227730452, 2361852424, 2428436474, 2756734187, 3204031479, 3329325298]
def H0 : Regs := ⟨1779033703, 3144134277, 1013904242, 2773480762, 1359893119, 2600822924, 528734635, 1541459225⟩
def comp (v : Regs) (blk : List UInt8) : Regs := v.plus (rounds KT (spreadL blk) v 64)
def absorb : Nat → Regs → List UInt8 → Regs
  | 0, v, _ => v
  | n + 1, v, bs => absorb n (comp v (bs.take 64)) (bs.drop 64)
/-- The words behind all whole blocks of a stream. -/
def regsOf (S : List UInt8) : Regs := absorb (S.length / 64) H0 S
def wordBytes (x : Wd) : List UInt8 := [UInt8.ofNat (x.toNat / 16777216), UInt8.ofNat (x.toNat / 65536), UInt8.ofNat (x.toNat / 256), UInt8.ofNat x.toNat]
def be8 (n : Nat) : List UInt8 := wordBytes (BitVec.ofNat 32 (n / 4294967296)) ++ wordBytes (BitVec.ofNat 32 n)
def zerosN (n : Nat) : Nat := (120 - (n + 1) % 64) % 64
def padded (S : List UInt8) : List UInt8 := ((S ++ [0x80]) ++ List.replicate (zerosN S.length) 0) ++ be8 (8 * S.length)
def bytesOf (r : Regs) : List UInt8 := r.list.flatMap wordBytes
def digest (S : List UInt8) : List UInt8 := bytesOf (regsOf (padded S))
/-- The key of 64 bytes. -/
def padK (key : List UInt8) : List UInt8 := if 64 < key.length then digest key ++ List.replicate 32 0 else key ++ List.replicate (64 - key.length) 0
def keyed (key S : List UInt8) : List UInt8 := digest ((padK key).map (· ^^^ 0x5c) ++ digest ((padK key).map (· ^^^ 0x36) ++ S))

theorem sch_length (l : List Wd) (hl : l.length = 16) (k : Nat) : (sch l k).length = 16 + k := by
  induction k with
  | zero => exact hl
  | succ k ih => rw [sch, List.length_append, ih]; rfl
theorem wordsOf_length (bs : List UInt8) : (wordsOf bs).length = 16 := by simp [wordsOf]
theorem spreadL_length (bs : List UInt8) : (spreadL bs).length = 64 := sch_length _ (wordsOf_length bs) 48
theorem list_length (r : Regs) : r.list.length = 8 := rfl
theorem wordBytes_length (x : Wd) : (wordBytes x).length = 4 := rfl
theorem digest_length (S : List UInt8) : (digest S).length = 32 := rfl
theorem padK_length (key : List UInt8) : (padK key).length = 64 := by
  unfold padK
  split
  · simp [digest_length]
  · simp; omega

/-- Only the whole blocks count. -/
theorem absorb_append (n : Nat) : ∀ (v : Regs) (S T : List UInt8), 64 * n ≤ S.length → absorb n v (S ++ T) = absorb n v S := by
  induction n with
  | zero => intro v S T _; rfl
  | succ n ih =>
    intro v S T h
    rw [absorb, absorb, List.take_append_of_le_length (by omega), List.drop_append_of_le_length (by omega)]
    exact ih _ _ _ (by rw [List.length_drop]; omega)
/-- One block more. -/
theorem absorb_succ (n : Nat) : ∀ (v : Regs) (S : List UInt8), absorb (n + 1) v S = comp (absorb n v S) ((S.drop (64 * n)).take 64) := by
  induction n with
  | zero => intro v S; simp [absorb]
  | succ n ih =>
    intro v S
    rw [absorb, ih, absorb]
    congr 2
    rw [List.drop_drop]
    congr 1
    omega
/-- A stream's words do not turn while its block is not full. -/
theorem regsOf_more (S c : List UInt8) (h : S.length % 64 + c.length < 64) : regsOf (S ++ c) = regsOf S := by
  unfold regsOf
  have e : (S ++ c).length / 64 = S.length / 64 := by rw [List.length_append]; omega
  rw [e, absorb_append _ _ _ _ (by omega)]
theorem regsOf_full (S c : List UInt8) (h : S.length % 64 + c.length = 64) : regsOf (S ++ c) = comp (regsOf S) (S.drop (64 * (S.length / 64)) ++ c) := by
  unfold regsOf
  have e : (S ++ c).length / 64 = S.length / 64 + 1 := by rw [List.length_append]; omega
  rw [e, absorb_succ, absorb_append _ _ _ _ (by omega), List.drop_append_of_le_length (by omega)]
  congr 1
  rw [List.take_of_length_le]
  rw [List.length_append, List.length_drop]
  omega
/-- What waits of a stream. -/
def waits (S : List UInt8) : List UInt8 := S.drop (64 * (S.length / 64))
theorem waits_length (S : List UInt8) : (waits S).length = S.length % 64 := by rw [waits, List.length_drop]; omega
theorem waits_more (S c : List UInt8) (h : S.length % 64 + c.length < 64) : waits (S ++ c) = waits S ++ c := by
  unfold waits
  have e : (S ++ c).length / 64 = S.length / 64 := by rw [List.length_append]; omega
  rw [e, List.drop_append_of_le_length (by omega)]
theorem waits_full (S c : List UInt8) (h : S.length % 64 + c.length = 64) : waits (S ++ c) = [] := by
  apply List.eq_nil_of_length_eq_zero
  rw [waits_length, List.length_append]
  omega
end Go.Proofs.YtchnbknbccpmcaaDoor.H
namespace Go.Proofs.YtchnbknbccpmcaaDoor.H
open Go.RowKit

theorem ret_int {k : IntKind} {a b : Int} (h : a = b) : Ending.returned (.int k a) = .returned (.int k b) := by rw [h]
theorem ret_bool {a b : Bool} (h : a = b) : Ending.returned (.bool a) = .returned (.bool b) := by rw [h]

/-- A byte as a cell. -/
def bv (b : UInt8) : Value := .int .u8 (b.toNat : Int)
/-- A word as a number, as a cell. -/
def U (x : Wd) : Int := (x.toNat : Int)
def uv (x : Wd) : Value := .int .u32 (U x)

/-- 'the slice value with base A and length xs.length holds the cells xs, in a block below B'. -/
def Rd (w : World) (B : Nat) (A : Option Addr) (xs : List Value) : Prop :=
  xs = [] ∨ ∃ ad, A = some ad ∧ ad.block < B ∧ ∀ (j : Nat) (u : Value), xs[j]? = some u → w.cell? (ad.add j) = some u

theorem Rd.cell {w : World} {B : Nat} {A : Option Addr} {xs : List Value} (h : Rd w B A xs) {k : Nat} {u : Value} (hk : xs[k]? = some u) :
    ∃ ad, A = some ad ∧ ad.block < B ∧ w.cell? (ad.add k) = some u := by
  rcases h with rfl | ⟨ad, h1, h2, h3⟩
  · simp at hk
  · exact ⟨ad, h1, h2, h3 k u hk⟩
theorem Rd.take {w : World} {B : Nat} {A : Option Addr} {xs : List Value} (h : Rd w B A xs) (k : Nat) : Rd w B A (xs.take k) := by
  rcases h with rfl | ⟨ad, h1, h2, h3⟩
  · exact .inl (by simp)
  · refine .inr ⟨ad, h1, h2, fun j u hj => h3 j u ?_⟩
    rw [List.getElem?_take] at hj
    split at hj
    · exact hj
    · simp at hj
theorem Rd.keep {w w' : World} {B : Nat} {A : Option Addr} {xs : List Value} (h : Rd w B A xs) (hk : ∀ p : Addr, p.block < B → w'.cell? p = w.cell? p) : Rd w' B A xs := by
  rcases h with rfl | ⟨ad, h1, h2, h3⟩
  · exact .inl rfl
  · refine .inr ⟨ad, h1, h2, fun j u hj => (hk _ ?_).trans (h3 j u hj)⟩
    unfold Addr.add
    split <;> exact h2
theorem Rd.more {w : World} {B B' : Nat} {A : Option Addr} {xs : List Value} (h : Rd w B A xs) (hB : B ≤ B') : Rd w B' A xs := by
  rcases h with rfl | ⟨ad, h1, h2, h3⟩
  · exact .inl rfl
  · exact .inr ⟨ad, h1, by omega, h3⟩
theorem Rd.below {w w' : World} {B : Nat} {A : Option Addr} {xs : List Value} (h : Rd w B A xs) (hb : Below B w w') : Rd w' B A xs := h.keep fun _ hp => hb.cell hp
theorem Rd.drop {w : World} {B : Nat} {A : Option Addr} {xs : List Value} (h : Rd w B A xs) {k cap : Nat} (hk : k ≤ xs.length) (hc : xs.length ≤ cap) : Rd w B (if cap = k then A else A.map (·.add k)) (xs.drop k) := by
  rcases h with rfl | ⟨ad, h1, h2, h3⟩
  · exact .inl (by simp)
  · rcases Nat.lt_or_ge k xs.length with hlt | hge
    · rw [if_neg (by omega)]
      subst h1
      refine .inr ⟨ad.add k, rfl, by unfold Addr.add; split <;> exact h2, fun j u hj => ?_⟩
      rw [List.getElem?_drop] at hj
      rw [← h3 _ u hj]
      congr 1
      unfold Addr.add
      by_cases hk0 : k = 0 <;> by_cases hj0 : j = 0 <;> simp [hk0, hj0, Nat.add_assoc]
    · exact .inl (List.drop_eq_nil_of_le hge)
theorem Rd.drewN {w : World} {B : Nat} {A : Option Addr} {xs : List Value} (h : Rd w B A xs) (n : Nat) : Rd (w.drewN n) B A xs := h
theorem Rd.toStr {w : World} {B : Nat} {A : Option Addr} {bs : List UInt8} (h : Rd w B A (bs.map bv)) (n c : Nat) (hn : bs.length = n) :
    (convert 22 9 (.slice A n c)).run Tryd.prog w = .ok (.string ⟨bs.toArray⟩) w := by
  subst hn
  rcases h with h | ⟨ad, rfl, _, h3⟩
  · have : bs = [] := by simpa using h
    subst this
    rcases A with _ | ad
    · exact run_convert_bytes_nil w 22 5 Tryd.underlying22 Tryd.underlying5 _ _ 9 Tryd.underlying9
    · exact run_convert_bytes_back w 22 9 5 ad c [] Tryd.underlying22 Tryd.underlying5 Tryd.underlying9 (fun j hj => absurd hj (by simp))
  · exact run_convert_bytes_back w 22 9 5 ad c bs Tryd.underlying22 Tryd.underlying5 Tryd.underlying9 (fun j hj => h3 j _ (by simp [hj, bv]))
theorem below_drewN {B : Nat} {a w : World} (h : Below B a w) (n : Nat) : Below B a (w.drewN n) := ⟨h.os, h.tape, h.output, h.size, h.block⟩
theorem quietL {P : Program} {f : FuncId} {args : Array Value} {w : World} {n : Nat} {v : Value} (h : Calls P f args (w.drewN n) fun e w' => e = .returned v ∧ w.drewN n = w') :
    Calls P f args (w.drewN n) fun e w'' => e = .returned v ∧ ∃ m, w'' = w.drewN m := h.mono fun _ _ ⟨he, hm⟩ => ⟨he, n, hm.symm⟩

/-- Block g is a row of the cells cs, none of them frozen. -/
def Row (w : World) (g : Nat) (t : TypeId) (cs : List Value) : Prop := w.heap[g]? = some (.cells cs.toArray t (0, 0))
theorem Row.lt {w : World} {g : Nat} {t : TypeId} {cs : List Value} (h : Row w g t cs) : g < w.heap.size := (Array.getElem?_eq_some_iff.1 h).1
theorem Row.cell {w : World} {g : Nat} {t : TypeId} {cs : List Value} (h : Row w g t cs) (k : Nat) : w.cell? ⟨g, k, none⟩ = cs[k]? := by
  unfold Row at h
  simp [World.cell?, h]
theorem Row.frozen {w : World} {g : Nat} {t : TypeId} {cs : List Value} (h : Row w g t cs) (k : Nat) : w.frozen? ⟨g, k, none⟩ = false := by
  unfold Row at h
  simp [World.frozen?, h]
theorem Row.set {w : World} {g : Nat} {t : TypeId} {cs : List Value} (h : Row w g t cs) (k : Nat) (v : Value) : Row (w.setCell ⟨g, k, none⟩ v) g t (cs.set k v) := by
  unfold Row at h ⊢
  have hlt := (Array.getElem?_eq_some_iff.1 h).1
  simp only [World.setCell, Array.getElem?_modify, h]
  simp
theorem Row.new (w : World) (cs : List Value) (t : TypeId) : Row (w.alloc (.cells cs.toArray t)) w.heap.size t cs := heap_alloc_last w _
theorem Row.alloc {w : World} {g : Nat} {t : TypeId} {cs : List Value} (h : Row w g t cs) (o : Obj) : Row (w.alloc o) g t cs := (Below.heap_alloc w o g h.lt).trans h
theorem Row.setOther {w : World} {g : Nat} {t : TypeId} {cs : List Value} (h : Row w g t cs) (a : Addr) (hne : g ≠ a.block) (v : Value) : Row (w.setCell a v) g t cs := (Below.heap_setCell w a v g hne).trans h
theorem Row.below {w w' : World} {g : Nat} {t : TypeId} {cs : List Value} (h : Row w g t cs) {B : Nat} (hb : Below B w w') (hg : g < B) : Row w' g t cs := (hb.block g hg).trans h
theorem Row.drewN {w : World} {g : Nat} {t : TypeId} {cs : List Value} (h : Row w g t cs) (n : Nat) : Row (w.drewN n) g t cs := h
theorem Row.rd {w : World} {g : Nat} {t : TypeId} {cs : List Value} (h : Row w g t cs) (B : Nat) (hB : g < B) : Rd w B (some ⟨g, 0, none⟩) cs := by
  refine .inr ⟨_, rfl, hB, fun j u hj => ?_⟩
  have e2 : (⟨g, 0, none⟩ : Addr).add j = ⟨g, j, none⟩ := by simp [Addr.add]; omega
  rw [e2, h.cell, hj]
/-- Of what there was only block g may have turned. -/
structure Sole (g : Nat) (w w' : World) : Prop where
  os : w'.os = w.os
  tape : w'.tape = w.tape
  output : w'.output = w.output
  size : w.heap.size ≤ w'.heap.size
  block : ∀ k, k < w.heap.size → k ≠ g → w'.heap[k]? = w.heap[k]?
theorem Sole.refl (g : Nat) (w : World) : Sole g w w := ⟨rfl, rfl, rfl, Nat.le_refl _, fun _ _ _ => rfl⟩
theorem Sole.trans {g : Nat} {a b c : World} (h : Sole g a b) (k : Sole g b c) : Sole g a c :=
  ⟨k.os.trans h.os, k.tape.trans h.tape, k.output.trans h.output, Nat.le_trans h.size k.size, fun i hi hg => (k.block i (Nat.lt_of_lt_of_le hi h.size) hg).trans (h.block i hi hg)⟩
theorem Sole.of_below {g : Nat} {w w' : World} (h : Below w.heap.size w w') : Sole g w w' := ⟨h.os, h.tape, h.output, h.size, fun k hk _ => h.block k hk⟩
theorem Sole.below {g : Nat} {w w' : World} (h : Sole g w w') {B : Nat} (hB : B ≤ g) (hs : B ≤ w.heap.size) : Below B w w' := ⟨h.os, h.tape, h.output, h.size, fun k hk => h.block k (by omega) (by omega)⟩
theorem Sole.drewN {g : Nat} {a w : World} (h : Sole g a w) (n : Nat) : Sole g a (w.drewN n) := ⟨h.os, h.tape, h.output, h.size, h.block⟩
theorem Sole.setCell {g : Nat} {a w : World} (h : Sole g a w) (k : Nat) (v : Value) : Sole g a (w.setCell ⟨g, k, none⟩ v) :=
  h.trans ⟨rfl, rfl, rfl, by simp [World.setCell], fun i _ hg => Below.heap_setCell _ _ _ _ hg⟩
theorem Sole.alloc {g : Nat} {a w : World} (h : Sole g a w) (o : Obj) : Sole g a (w.alloc o) :=
  ⟨h.os, h.tape, h.output, by have := h.size; simp; omega, fun i hi hg => (Below.heap_alloc w o i (Nat.lt_of_lt_of_le hi h.size)).trans (h.block i hi hg)⟩
theorem Sole.row {g k : Nat} {w w' : World} {t : TypeId} {cs : List Value} (h : Sole g w w') (hr : Row w k t cs) (hk : k ≠ g) : Row w' k t cs := (h.block k hr.lt hk).trans hr
theorem Sole.cell {g : Nat} {w w' : World} (h : Sole g w w') {p : Addr} (hp : p.block < w.heap.size) (hk : p.block ≠ g) : w'.cell? p = w.cell? p := by
  unfold World.cell?
  rw [h.block _ hp hk]

theorem info_parts' {P : Program} {t : TypeId} {v : Value} {n b : Nat} (h : (P.info? t).map (fun i => (i.zero, i.size, i.bytes)) = some (some v, n, b)) :
    ∃ i, P.info? t = some i ∧ i.zero = some v ∧ i.size = n ∧ i.bytes = b := by
  cases hq : P.info? t with
  | none => simp [hq] at h
  | some i => simp [hq] at h; exact ⟨i, rfl, h.1, h.2.1, h.2.2⟩
theorem u8_info : (Tryd.prog.info? 5).map (fun i => (i.zero, i.size, i.bytes)) = some (some (.int .u8 0), 1, 1) := by kernel_rfl
theorem own_below {w w' : World} {base : Nat} {e : TypeId} {size : Nat} {v : Value} {n : Nat} {xs : List Value} (h : w.ownsRow base e size v n xs) (hb : Below w.heap.size w w') : w'.ownsRow base e size v n xs :=
  h.kept (row := none) ⟨hb.os, hb.tape, hb.output, hb.size, fun k hk _ => hb.block k hk⟩ (by cases v.ownBlock <;> simp)

/-! Words. -/
theorem U_lt (x : Wd) : U x < 4294967296 := by unfold U; have := x.isLt; omega
theorem U_nn (x : Wd) : 0 ≤ U x := by unfold U; omega
theorem U_ofInt (x : Wd) : BitVec.ofInt 32 (U x) = x := by
  apply BitVec.eq_of_toNat_eq
  unfold U
  rw [BitVec.ofInt_natCast, BitVec.toNat_ofNat]
  exact Nat.mod_eq_of_lt x.isLt
theorem wrap_U (x : Wd) : IntKind.u32.wrap (U x) = U x := by
  rw [IntKind.wrap_u32']
  have := U_lt x
  have := U_nn x
  omega
theorem u_xor (x y : Wd) : bits .xor .u32 (U x) (U y) = U (x ^^^ y) := by
  show IntKind.u32.wrap ((BitVec.ofInt 32 (U x) ^^^ BitVec.ofInt 32 (U y)).toNat : Int) = _
  rw [U_ofInt, U_ofInt]
  exact wrap_U _
theorem u_and (x y : Wd) : bits .and .u32 (U x) (U y) = U (x &&& y) := by
  show IntKind.u32.wrap ((BitVec.ofInt 32 (U x) &&& BitVec.ofInt 32 (U y)).toNat : Int) = _
  rw [U_ofInt, U_ofInt]
  exact wrap_U _
theorem u_or (x y : Wd) : bits .or .u32 (U x) (U y) = U (x ||| y) := by
  show IntKind.u32.wrap ((BitVec.ofInt 32 (U x) ||| BitVec.ofInt 32 (U y)).toNat : Int) = _
  rw [U_ofInt, U_ofInt]
  exact wrap_U _
theorem u_not (x : Wd) : bits .xor .u32 4294967295 (U x) = U (~~~x) := by
  show IntKind.u32.wrap ((BitVec.ofInt 32 4294967295 ^^^ BitVec.ofInt 32 (U x)).toNat : Int) = _
  rw [U_ofInt, show BitVec.ofInt 32 4294967295 = BitVec.allOnes 32 by decide, BitVec.allOnes_xor]
  exact wrap_U _
theorem u_add (x y : Wd) : IntKind.u32.wrap (U x + U y) = U (x + y) := by
  rw [IntKind.wrap_u32']
  unfold U
  rw [BitVec.toNat_add]
  omega
theorem u_shr (x : Wd) (n : Nat) : U x / 2 ^ n = U (x >>> n) := by
  unfold U
  rw [BitVec.toNat_ushiftRight, Nat.shiftRight_eq_div_pow]
  simp
theorem u_shl (x : Wd) (n : Nat) : IntKind.u32.wrap (U x * 2 ^ n) = U (x <<< n) := by
  rw [IntKind.wrap_u32']
  unfold U
  rw [BitVec.toNat_shiftLeft, Nat.shiftLeft_eq]
  simp
theorem u_add' (x y : Wd) : (U x + U y) % 4294967296 = U (x + y) := by rw [← u_add, IntKind.wrap_u32']
theorem u_shl' (x : Wd) (n : Nat) : U x * 2 ^ n % 4294967296 = U (x <<< n) := by rw [← u_shl, IntKind.wrap_u32']
theorem U_bw (b : UInt8) : (b.toNat : Int) = U (bw b) := by
  unfold U bw
  rw [BitVec.toNat_ofNat, Nat.mod_eq_of_lt (by have := b.toNat_lt; omega)]
end Go.Proofs.YtchnbknbccpmcaaDoor.H
namespace Go.Proofs.YtchnbknbccpmcaaDoor.H
open Go.RowKit

theorem amount (n : Nat) (h : n < 32) (h0 : 0 < n) : bits .and .u64 (IntKind.u64.wrap (-(n : Int))) 31 = ((32 - n : Nat) : Int) := by
  have e : IntKind.u64.wrap (-(n : Int)) = ((18446744073709551616 - n : Nat) : Int) := by rw [IntKind.wrap_u64]; omega
  rw [e, show (31 : Int) = ((31 : Nat) : Int) from rfl, u64_and_nat _ _ (by omega) (by omega)]
  congr 1
  rw [show (31 : Nat) = 2 ^ 5 - 1 from rfl, Nat.and_two_pow_sub_one_eq_mod]
  omega

set_option maxRecDepth 100000 in
set_option maxHeartbeats 400000 in
theorem rotate_any (x : Wd) (n : Nat) (w : World) (h0 : 0 < n) (h : n < 32) :
    Calls Tryd.prog 90 #[.int .u32 (U x), .int .i64 (-(n : Int))] w fun e w' => e = .returned (.int .u32 (U (rotr x n))) ∧ w = w' := by
  have ha := amount n h h0
  have hs : IntKind.u64.wrap (32 - ((32 - n : Nat) : Int)) = (n : Int) := by rw [IntKind.wrap_u64]; omega
  have hnn : (0 : Int) ≤ ((32 - n : Nat) : Int) := by omega
  go_enter Tryd.func90, Tryd.ntmps90
  go_wp2
  go_ret
  exact ⟨ret_int (by rw [u_shl', u_shr, u_or]; rfl), rfl⟩

set_option maxRecDepth 100000 in
set_option maxHeartbeats 400000 in
theorem right_any (x : Wd) (n : Nat) (w : World) (h0 : 0 < n) (h : n < 32) :
    Calls Tryd.prog 89 #[.int .u32 (U x), .int .i64 (n : Int)] w fun e w' => e = .returned (.int .u32 (U (rotr x n))) ∧ w = w' := by
  have hs : IntKind.i64.wrap (0 - (n : Int)) = -(n : Int) := by rw [IntKind.wrap_i64]; omega
  go_enter Tryd.func89, Tryd.ntmps89
  go_wp2_with fail
  with_reducible refine (rotate_any x n w h0 h).mono ?_
  rintro e w' ⟨rfl, rfl⟩
  go_wp2_with fail
  go_ret
  exact ⟨rfl, rfl⟩
theorem right_lit (x : Wd) (n : Nat) (z : Int) (w : World) (hz : z = (n : Int)) (h0 : 0 < n) (h : n < 32) :
    Calls Tryd.prog 89 #[.int .u32 (U x), .int .i64 z] w fun e w' => e = .returned (.int .u32 (U (rotr x n))) ∧ w = w' := by
  subst hz
  exact right_any x n w h0 h

set_option maxRecDepth 100000 in
set_option maxHeartbeats 400000 in
theorem turned_any (x : Wd) (i j k : Nat) (w : World) (hi : 0 < i ∧ i < 32) (hj : 0 < j ∧ j < 32) (hk : 0 < k ∧ k < 32) :
    Calls Tryd.prog 87 #[.int .u32 (U x), .int .i64 (i : Int), .int .i64 (j : Int), .int .i64 (k : Int)] w fun e w' => e = .returned (.int .u32 (U (rotr x i ^^^ rotr x j ^^^ rotr x k))) ∧ w = w' := by
  go_enter Tryd.func87, Tryd.ntmps87
  go_wp2_with fail
  with_reducible refine (right_any x i w hi.1 hi.2).mono ?_
  rintro e w' ⟨rfl, rfl⟩
  go_wp2_with fail
  with_reducible refine (right_any x j w hj.1 hj.2).mono ?_
  rintro e w' ⟨rfl, rfl⟩
  go_wp2_with fail
  with_reducible refine (right_any x k w hk.1 hk.2).mono ?_
  rintro e w' ⟨rfl, rfl⟩
  go_wp2_with fail
  go_ret
  exact ⟨ret_int (by rw [u_xor, u_xor]), rfl⟩
theorem turned1 (x : Wd) (w : World) : Calls Tryd.prog 87 #[.int .u32 (U x), .int .i64 6, .int .i64 11, .int .i64 25] w fun e w' => e = .returned (.int .u32 (U (bg1 x))) ∧ w = w' :=
  turned_any x 6 11 25 w (by decide) (by decide) (by decide)
theorem turned0 (x : Wd) (w : World) : Calls Tryd.prog 87 #[.int .u32 (U x), .int .i64 2, .int .i64 13, .int .i64 22] w fun e w' => e = .returned (.int .u32 (U (bg0 x))) ∧ w = w' :=
  turned_any x 2 13 22 w (by decide) (by decide) (by decide)

set_option maxRecDepth 100000 in
set_option maxHeartbeats 400000 in
theorem wordOf_any (b o n c : Nat) (b0 b1 b2 b3 : UInt8) (w : World) (hn : 4 ≤ n) (h0 : w.cell? ⟨b, o, none⟩ = some (bv b0)) (h1 : w.cell? ⟨b, o + 1, none⟩ = some (bv b1)) (h2 : w.cell? ⟨b, o + 2, none⟩ = some (bv b2)) (h3 : w.cell? ⟨b, o + 3, none⟩ = some (bv b3)) :
    Calls Tryd.prog 88 #[.slice (some ⟨b, o, none⟩) n c] w fun e w' => e = .returned (.int .u32 (U (wordOf b0 b1 b2 b3))) ∧ ∃ m, w' = w.drewN m := by
  unfold bv at h0 h1 h2 h3
  have k0 : IntKind.u32.wrap (b0.toNat : Int) = U (bw b0) := by rw [U_bw, wrap_U]
  have k1 : IntKind.u32.wrap (b1.toNat : Int) = U (bw b1) := by rw [U_bw, wrap_U]
  have k2 : IntKind.u32.wrap (b2.toNat : Int) = U (bw b2) := by rw [U_bw, wrap_U]
  have k3 : IntKind.u32.wrap (b3.toNat : Int) = U (bw b3) := by rw [U_bw, wrap_U]
  have i0 : 0 < n := by omega
  have i1 : (1 : Int) < (n : Int) := by omega
  have i2 : (2 : Int) < (n : Int) := by omega
  have i3 : (3 : Int) < (n : Int) := by omega
  go_enter Tryd.func88, Tryd.ntmps88
  go_wp2_with fail
  go_quiet (fail)
  go_wp2_with fail
  go_ret
  refine ⟨ret_int ?_, _, rfl⟩
  have e24 := u_shl' (bw b0) 24
  have e16 := u_shl' (bw b1) 16
  have e8 := u_shl' (bw b2) 8
  simp only [Int.reducePow] at e24 e16 e8
  rw [e24, e16, e8, u_or, u_or, u_or]
  rfl
end Go.Proofs.YtchnbknbccpmcaaDoor.H
namespace Go.Proofs.YtchnbknbccpmcaaDoor.H
open Go.RowKit

theorem Row.setRow {w : World} {g : Nat} {t : TypeId} {cs : List Value} (h : Row w g t cs) (ds : List Value) : Row (w.setRow g ds.toArray) g t ds := setRow_heap w g _ _ t (0, 0) h
theorem Sole.setRow {g : Nat} {a w : World} (h : Sole g a w) (ds : Array Value) : Sole g a (w.setRow g ds) :=
  h.trans ⟨rfl, rfl, rfl, by simp [World.setRow], fun i _ hg => setRow_other w g i ds hg⟩
theorem wl_alloc {w : World} {ops : Array Oper} {rest : List Oper} {o : Oper} {a : Act} {Q : Exit → Act → World → Prop} (hgd : o.guard = none) (t : TypeId) (ho : o.op = .alloc t)
    (cs : List Value) (n : Nat) (hz : (Tryd.prog.info? t).map (fun i => (i.zero, i.size)) = some (some (.agg cs.toArray), n))
    (h : ∀ w', Hid (Row w' w.heap.size t cs) → Hid (Below w.heap.size w w') → Hid (w'.heap.size = w.heap.size + 1) → wpList Tryd.prog ops Q rest (a.put o.dst (.pointer (some ⟨w.heap.size, 0, none⟩))) w') :
    wpList Tryd.prog ops Q (o :: rest) a w := by
  refine wpList_plain hgd fun K hK => ?_
  unfold Oper.wp execOp
  simp only [ho, Sem.run_bind, Instr.alloc, (zero_of_info hz).1, newVar, newRow, run_newObj_alloc, Sem.run_pure, Result.andThen_ok, Value.cells]
  exact hK _ _ (h _ (Row.new w cs t) ((Below.refl _ _).alloc (Nat.le_refl _) _) (by show (w.alloc _).heap.size = _; simp))
theorem wl_store {w : World} {ops : Array Oper} {rest : List Oper} {o : Oper} {a : Act} {Q : Exit → Act → World → Prop} (hgd : o.guard = none) (ty : TypeId) (x y : Operand) (ho : o.op = .store ty x y)
    (g : Nat) (cells : Array Value) (cs : List Value) (hx : a.eval x = .pointer (some ⟨g, 0, none⟩)) (hy : a.eval y = .agg cells) (hc : cells = cs.toArray) (t : TypeId) (old : List Value) (hr : Row w g t old)
    (hi : (Tryd.prog.info? ty).map (·.size) = some cs.length) (hold : old.length = cs.length) (h1 : ∀ v ∈ cs, v.oneCell' = true)
    (h : ∀ w', Hid (Row w' g t cs) → Hid (Sole g w w') → Hid (w'.heap.size = w.heap.size) → wpList Tryd.prog ops Q rest (a.put o.dst undef) w') : wpList Tryd.prog ops Q (o :: rest) a w := by
  subst hc
  exact wpList_store_row hgd ty x y ho g cs.toArray hx hy t old.toArray hr (by simpa using hi) (by simpa using hold) (all_oneCell_toArray h1)
    (h _ (hr.setRow cs) ((Sole.refl g w).setRow _) (by show (w.setRow g cs.toArray).heap.size = w.heap.size; simp [World.setRow]))
theorem wl_load {w : World} {ops : Array Oper} {rest : List Oper} {o : Oper} {a : Act} {Q : Exit → Act → World → Prop} (hgd : o.guard = none) (ty : TypeId) (x : Operand) (ho : o.op = .load ty x)
    (g : Nat) (hx : a.eval x = .pointer (some ⟨g, 0, none⟩)) (t : TypeId) (cs : List Value) (d : TypeDesc) (hr : Row w g t cs) (hu : Tryd.prog.underlying ty = some d) (hd : d.isRow = true)
    (hi : (Tryd.prog.info? ty).map (·.size) = some cs.length)
    (h : ∀ v, Hid (v = Value.agg cs.toArray) → wpList Tryd.prog ops Q rest (a.put o.dst v) w) : wpList Tryd.prog ops Q (o :: rest) a w :=
  wpList_load_row hgd ty x ho g hx t cs.toArray (0, 0) d hr hu (by cases d <;> simp_all) (by simpa using hi) (h _ rfl)
theorem info67 : (Tryd.prog.info? 122).map (fun i => (i.zero, i.size)) = some (some (.agg (List.replicate 64 (Value.int .u32 0)).toArray), 64) := by kernel_rfl
theorem info45 : (Tryd.prog.info? 95).map (fun i => (i.zero, i.size)) = some (some (.agg (List.replicate 64 (Value.int .u8 0)).toArray), 64) := by kernel_rfl
theorem info27 : (Tryd.prog.info? 85).map (fun i => (i.zero, i.size)) = some (some (.agg (List.replicate 32 (Value.int .u8 0)).toArray), 32) := by kernel_rfl
theorem info48 : (Tryd.prog.info? 99).map (fun i => (i.zero, i.size)) = some (some (.agg (List.replicate 8 (Value.int .u32 0) ++ List.replicate 64 (Value.int .u8 0) ++ [Value.int .i64 0, Value.int .u64 0]).toArray), 74) := by kernel_rfl
theorem info_size {t : TypeId} {v : Value} {n : Nat} (h : (Tryd.prog.info? t).map (fun i => (i.zero, i.size)) = some (some v, n)) : (Tryd.prog.info? t).map (·.size) = some n := (zero_of_info h).2
theorem under45 : Tryd.prog.underlying 95 = some (.array 64 5) := by kernel_rfl
theorem under27 : Tryd.prog.underlying 85 = some (.array 32 5) := by kernel_rfl
theorem under67 : Tryd.prog.underlying 122 = some (.array 64 78) := by kernel_rfl
theorem under44 : Tryd.prog.underlying 97 = some (.array 8 78) := by kernel_rfl
theorem under48 : ∃ fs, Tryd.prog.underlying 99 = some (.struct fs) := ⟨_, Tryd.underlying99⟩
/-- An array's end, from l on. -/
theorem run_tail (w : World) (t : TypeId) (n : Nat) (hu : Tryd.prog.underlying t = some (.array n 5)) (g o l : Nat) (z : Int) (hz : z = (l : Int)) (hl : l < n) :
    (Instr.sliceAt t (.pointer (some ⟨g, o, none⟩)) (some (.int .i64 z)) none none).run Tryd.prog w = .ok (.slice (some ⟨g, o + l, none⟩) (n - l) (n - l)) w := by
  subst hz
  obtain ⟨i0, hi0, _, hz1, _⟩ := info_parts' u8_info
  have h2 : ¬ n = l := by omega
  have h3 : l ≤ n := by omega
  simp [Instr.sliceAt, Instr.sureAddr, run_underlying hu, Instr.sliceBounds, run_sliceBound, sizeOf, typeInfo, hi0, hz1, h2, h3, Addr.add_mid]
theorem run_all (w : World) (t : TypeId) (n : Nat) (hu : Tryd.prog.underlying t = some (.array n 5)) (g o : Nat) :
    (Instr.sliceAt t (.pointer (some ⟨g, o, none⟩)) none none none).run Tryd.prog w = .ok (.slice (some ⟨g, o, none⟩) n n) w := by
  obtain ⟨i0, hi0, _⟩ := info_parts' u8_info
  simp [Instr.sliceAt, Instr.sureAddr, run_underlying hu, Instr.sliceBounds, sizeOf, typeInfo, hi0, Addr.add_mid]
theorem u32_info : (Tryd.prog.info? 78).map (fun i => (i.zero, i.size, i.bytes)) = some (some (.int .u32 0), 1, 4) := by kernel_rfl
/-- The j-th of eight words. -/
theorem run_word (w : World) (cs : List Value) (j : Nat) (v : Value) (h8 : j < 8) (hv : cs[j]? = some v) :
    (Instr.index 97 (.agg cs.toArray) (.int .i64 (j : Int))).run Tryd.prog w = .ok v w := by
  obtain ⟨i0, hi0, _, hz1, _⟩ := info_parts' u32_info
  have hagg : (isAgg 78).run Tryd.prog w = .ok false w := by
    unfold isAgg
    rw [Sem.run_bind, run_underlying Tryd.underlying78 w]
    rfl
  simp [Instr.index, asIntOf, run_underlying under44, sizeOf, typeInfo, hi0, hz1, part, h8, hv]
end Go.Proofs.YtchnbknbccpmcaaDoor.H
namespace Go.Proofs.YtchnbknbccpmcaaDoor.H
open Go.RowKit

/-- A fact that no comparison may look into. -/
structure Shut (p : Prop) : Prop where
  out : p

/-- The cells of a sum. -/
def sumCells (r : Regs) (blk : List UInt8) (held total : Nat) : List Value := r.list.map uv ++ blk.map bv ++ [.int .i64 (held : Int), .int .u64 (total : Int)]
theorem sumCells_length (r : Regs) (blk : List UInt8) (held total : Nat) (h : blk.length = 64) : (sumCells r blk held total).length = 74 := by simp [sumCells, list_length, h]
theorem sumCells_byte (r : Regs) (blk : List UInt8) (held total : Nat) (h : blk.length = 64) (k : Nat) (hk : k < 64) : (sumCells r blk held total)[8 + k]? = some (bv (blk.getD k 0)) := by
  unfold sumCells
  rw [List.append_assoc, List.getElem?_append_right (by simp [list_length]), List.getElem?_append_left (by simp [list_length, h]; omega)]
  simp [list_length, h, hk]

/-- The array of 64 words, the first of them laid. -/
def firsts (l : List Wd) : List Value := l.map uv ++ List.replicate (64 - l.length) (.int .u32 0)
theorem firsts_length (l : List Wd) (h : l.length ≤ 64) : (firsts l).length = 64 := by simp [firsts]; omega
theorem firsts_set (l : List Wd) (x : Wd) (h : l.length < 64) : (firsts l).set l.length (uv x) = firsts (l ++ [x]) := by
  unfold firsts
  rw [List.set_append_right _ _ (by simp)]
  have e : 64 - l.length = (64 - (l ++ [x]).length) + 1 := by simp; omega
  rw [e, List.replicate_succ]
  simp
theorem firsts_at (l : List Wd) (k : Nat) (h : k < l.length) : (firsts l)[k]? = some (.int .u32 (U (l.getD k 0))) := by
  unfold firsts
  rw [List.getElem?_append_left (by simpa using h)]
  simp [h, uv]
theorem wordsOf_take (bs : List UInt8) (k : Nat) (h : k < 16) : (wordsOf bs).take (k + 1) = (wordsOf bs).take k ++ [wordAt bs k] := by
  rw [List.take_succ_eq_append_getElem (by rw [wordsOf_length]; exact h)]
  simp [wordsOf]
theorem firsts_some (l : List Wd) (k : Nat) (h : k < 64) (hl : l.length ≤ 64) : ∃ v, (firsts l)[k]? = some v := ⟨_, List.getElem?_eq_getElem (by rw [firsts_length l hl]; exact h)⟩

theorem u_sum4 (a b c d : Wd) : (U a + U b + U c + U d) % 4294967296 = U (a + b + c + d) := by rw [← u_add', ← u_add', ← u_add']; omega
theorem u_sum5 (a b c d e : Wd) : (U a + U b + U c + U d + U e) % 4294967296 = U (a + b + c + d + e) := by rw [← u_add', ← u_add', ← u_add', ← u_add']; omega
theorem next_eq (x2 x7 x15 x16 : Wd) : (bits BinOp.xor IntKind.u32 (U (rotr x2 17 ^^^ rotr x2 19)) (U x2 / 1024) + U x7 + bits BinOp.xor IntKind.u32 (U (rotr x15 7 ^^^ rotr x15 18)) (U x15 / 8) + U x16) % 4294967296 = U (sg1 x2 + x7 + sg0 x15 + x16) := by
  have r3 : U x15 / (8 : Int) = U (x15 >>> 3) := u_shr x15 3
  have r10 : U x2 / (1024 : Int) = U (x2 >>> 10) := u_shr x2 10
  rw [r3, r10, u_xor, u_xor, u_sum4]
  rfl

theorem firsts_full (blk : List UInt8) (k : Nat) (h : k = 48) : firsts (sch (wordsOf blk) k) = (spreadL blk).map uv := by
  have h1 := sch_length (wordsOf blk) (wordsOf_length blk) k
  rw [show 16 + k = 64 by omega] at h1
  unfold firsts spreadL
  rw [h1, h]
  simp

set_option maxRecDepth 100000 in
set_option maxHeartbeats 1000000 in
theorem spread_any (g : Nat) (r : Regs) (blk : List UInt8) (held total : Nat) (w : World) (hb : blk.length = 64) (hr : Row w g 99 (sumCells r blk held total)) :
    Calls Tryd.prog 86 #[.pointer (some ⟨g, 0, none⟩)] w fun e w' => ∃ v, e = .returned v ∧ Hid (v = .agg ((spreadL blk).map uv).toArray ∧ Below w.heap.size w w') := by
  have hg := hr.lt
  have HR := Lib.hid hr
  have HL := Lib.hid hb
  clear hr hb
  go_enter Tryd.func86, Tryd.ntmps86
  go_wp2_with (first
    | (refine wl_alloc (o := ⟨some 2, _, _, _, _, _⟩) rfl 122 rfl _ _ info67 ?_
       intro w1 HA HB HZ)
    | (refine wl_alloc (o := ⟨some 3, _, _, _, _, _⟩) rfl 122 rfl _ _ info67 ?_
       intro w2 HA2 HB2 HZ2))
  have hs1 : w.heap.size < w1.heap.size := by rw [HZ.out]; omega
  have HBW := Lib.hid (HB.out.trans (HB2.out.mono (Nat.le_of_lt hs1)))
  have HG0 := Lib.hid (HA.out.below HB2.out hs1)
  have HG1 : Hid (Row w2 w1.heap.size 122 (firsts [])) := HA2
  clear HZ HZ2 HA HA2 HB HB2
  generalize hg1 : w1.heap.size = g1 at *
  clear hg1
  clear w1
  go_loopw [10] (fun i W => ∃ k : Nat, k ≤ 16 ∧ i = .int .i64 k ∧ Hid (Row W g1 122 (firsts ((wordsOf blk).take k)) ∧ Row W w.heap.size 122 (firsts []) ∧ Below w.heap.size w W)) (fun i _ => 16 - (intOf i).toNat)
  case atStart => exact ⟨0, Nat.zero_le _, rfl, Lib.hid ⟨HG1.out, HG0.out, HBW.out⟩⟩
  case round =>
    obtain ⟨k, hk, rfl, HI⟩ := hrel
    have hg1 : g1 < wr.heap.size := HI.out.1.lt
    by_cases hlt : k < 16
    · have hrow := HR.out.below HI.out.2.2 hg
      have hc : ∀ j, j < 64 → wr.cell? ⟨g, 8 + j, none⟩ = some (bv (blk.getD j 0)) := fun j hj => by rw [hrow.cell, sumCells_byte _ _ _ _ HL.out j hj]
      have HC := Lib.hid hc
      have hsl := run_tail wr 95 64 under45 g 8 (4 * k) (4 * (k : Int)) (by omega) (by omega)
      clear hc hrow
      go_wp2_with fail
      with_reducible refine (wordOf_any g (8 + 4 * k) (64 - 4 * k) (64 - 4 * k) _ _ _ _ wr (by omega) (HC.out (4 * k) (by omega)) (HC.out (4 * k + 1) (by omega)) (HC.out (4 * k + 2) (by omega)) (HC.out (4 * k + 3) (by omega))).mono ?_
      rintro e w' ⟨rfl, m, rfl⟩
      clear hsl
      have hlen : ((wordsOf blk).take k).length = k := by rw [List.length_take, wordsOf_length]; omega
      obtain ⟨v0, hv0⟩ := firsts_some ((wordsOf blk).take k) k (by omega) (by omega)
      have hcell : (wr.drewN m).cell? ⟨g1, k, none⟩ = some v0 := (HI.out.1.cell k).trans hv0
      have hfr : (wr.drewN m).frozen? ⟨g1, k, none⟩ = false := HI.out.1.frozen k
      have HLEN := Lib.hid hlen
      clear hlen hv0
      generalize hx : wordOf _ _ _ _ = x
      have HX : Hid (wordAt blk k = x) := Lib.hid hx
      clear hx
      go_wp2_with fail
      refine ⟨⟨k + 1, by omega, by go_num, Lib.hid ⟨?_, ?_, ?_⟩⟩, by simp [intOf]; omega⟩
      · have h1 := (HI.out.1.drewN m).set k (.int .u32 (U x))
        have h2 := firsts_set ((wordsOf blk).take k) x (by rw [HLEN.out]; omega)
        rw [HLEN.out] at h2
        have h3 : (firsts ((wordsOf blk).take k)).set k (.int .u32 (U x)) = firsts ((wordsOf blk).take k ++ [x]) := h2
        rw [wordsOf_take blk k hlt, HX.out, ← h3]
        exact h1
      · exact (HI.out.2.1.drewN m).setOther _ (by show w.heap.size ≠ g1; omega) _
      · exact (below_drewN HI.out.2.2 m).setCell (by show w.heap.size ≤ g1; omega) _
    · have EK := Lib.hid (show k = 16 by omega)
      have HI2 : Hid (Row wr g1 122 (firsts (sch (wordsOf blk) 0)) ∧ Row wr w.heap.size 122 (firsts []) ∧ Below w.heap.size w wr) := Lib.hid ⟨by have := HI.out.1; rwa [List.take_of_length_le (by rw [wordsOf_length]; omega)] at this, HI.out.2.1, HI.out.2.2⟩
      clear HI
      go_wp2_with fail
      go_loopw [5] (fun i W => ∃ k : Nat, k ≤ 48 ∧ i = .int .i64 ((16 + k : Nat) : Int) ∧ Hid (Row W g1 122 (firsts (sch (wordsOf blk) k)) ∧ Row W w.heap.size 122 (firsts []) ∧ Below w.heap.size w W)) (fun i _ => 64 - (intOf i).toNat)
      case atStart => exact ⟨0, Nat.zero_le _, rfl, HI2⟩
      case round =>
        clear HI2 HG1 HG0 HBW
        obtain ⟨k, hk, rfl, HI⟩ := hrel
        have hgv : g1 < wr.heap.size := HI.out.1.lt
        by_cases hlt : k < 48
        · have hll : (sch (wordsOf blk) k).length = 16 + k := sch_length _ (wordsOf_length blk) k
          obtain ⟨x15, HX15⟩ : ∃ x, Hid (x = (sch (wordsOf blk) k).getD (16 + k - 15) 0) := ⟨_, rfl⟩
          obtain ⟨x2, HX2⟩ : ∃ x, Hid (x = (sch (wordsOf blk) k).getD (16 + k - 2) 0) := ⟨_, rfl⟩
          obtain ⟨x7, HX7⟩ : ∃ x, Hid (x = (sch (wordsOf blk) k).getD (16 + k - 7) 0) := ⟨_, rfl⟩
          obtain ⟨x16, HX16⟩ : ∃ x, Hid (x = (sch (wordsOf blk) k).getD (16 + k - 16) 0) := ⟨_, rfl⟩
          have c15 : wr.cell? ⟨g1, 16 + k - 15, none⟩ = some (.int .u32 (U x15)) := by rw [HI.out.1.cell, firsts_at _ _ (by omega), HX15.out]
          have c2 : wr.cell? ⟨g1, 16 + k - 2, none⟩ = some (.int .u32 (U x2)) := by rw [HI.out.1.cell, firsts_at _ _ (by omega), HX2.out]
          have c7 : ∀ n, (wr.drewN n).cell? ⟨g1, 16 + k - 7, none⟩ = some (.int .u32 (U x7)) := fun n => by rw [(HI.out.1.drewN n).cell, firsts_at _ _ (by omega), HX7.out]
          have c16 : ∀ n, (wr.drewN n).cell? ⟨g1, 16 + k - 16, none⟩ = some (.int .u32 (U x16)) := fun n => by rw [(HI.out.1.drewN n).cell, firsts_at _ _ (by omega), HX16.out]
          have i15 : IntKind.i64.wrap (((16 + k : Nat) : Int) - 15) = ((16 + k - 15 : Nat) : Int) := by rw [IntKind.wrap_i64]; omega
          have i2 : IntKind.i64.wrap (((16 + k : Nat) : Int) - 2) = ((16 + k - 2 : Nat) : Int) := by rw [IntKind.wrap_i64]; omega
          have i7 : IntKind.i64.wrap (((16 + k : Nat) : Int) - 7) = ((16 + k - 7 : Nat) : Int) := by rw [IntKind.wrap_i64]; omega
          have i16 : IntKind.i64.wrap (((16 + k : Nat) : Int) - 16) = ((16 + k - 16 : Nat) : Int) := by rw [IntKind.wrap_i64]; omega
          have HLL := Lib.hid hll
          clear hll
          have hlt' : decide (((16 + k : Nat) : Int) < 64) = true := by simp; omega
          generalize hT : 16 + k = T at *
          have HT := Lib.hid hT
          have hT1 : T < 64 := by omega
          have hT2 : 16 ≤ T := by omega
          clear hT
          go_wp2_with fail
          go_quiet (fail)
          clear c15 c2 i15 i2
          have rx := u_xor
          go_wp2_with fail
          with_reducible refine (right_lit x15 7 7 _ rfl (by decide) (by decide)).mono ?_
          rintro e w' ⟨rfl, rfl⟩
          go_wp2_with fail
          with_reducible refine (right_lit x15 18 18 _ rfl (by decide) (by decide)).mono ?_
          rintro e w' ⟨rfl, rfl⟩
          go_wp2_with fail
          with_reducible refine (right_lit x2 17 17 _ rfl (by decide) (by decide)).mono ?_
          rintro e w' ⟨rfl, rfl⟩
          go_wp2_with fail
          with_reducible refine (right_lit x2 19 19 _ rfl (by decide) (by decide)).mono ?_
          rintro e w' ⟨rfl, rfl⟩
          go_wp2_with fail
          have d7 := c7 nq
          have d16 := c16 nq
          clear c7 c16 rx
          obtain ⟨v0, hv0⟩ := firsts_some (sch (wordsOf blk) k) T (by omega) (by rw [HLL.out]; omega)
          have hcell : (wr.drewN nq).cell? ⟨g1, T, none⟩ = some v0 := (HI.out.1.cell T).trans hv0
          have hfr : (wr.drewN nq).frozen? ⟨g1, T, none⟩ = false := HI.out.1.frozen T
          have HI' := Lib.hid (And.intro (HI.out.1.drewN nq) (And.intro (HI.out.2.1.drewN nq) (below_drewN HI.out.2.2 nq)))
          clear hv0 HI
          generalize wr.drewN nq = wq at *
          go_region
          rw [next_eq]
          generalize hy : sg1 x2 + x7 + sg0 x15 + x16 = y
          have HY := Lib.hid hy
          clear hy
          go_wp2_with fail
          refine ⟨⟨k + 1, by omega, by rw [show 16 + (k + 1) = T + 1 by rw [← HT.out]; omega]; go_num, Lib.hid ⟨?_, ?_, ?_⟩⟩, by simp [intOf]; omega⟩
          · have h1 := HI'.out.1.set T (.int .u32 (U y))
            have h2 := firsts_set (sch (wordsOf blk) k) y (by rw [HLL.out]; omega)
            rw [HLL.out] at h2
            have h3 : (firsts (sch (wordsOf blk) k)).set T (.int .u32 (U y)) = firsts (sch (wordsOf blk) k ++ [y]) := h2
            have h4 : nextW (sch (wordsOf blk) k) (16 + k) = y := by rw [← HY.out, HX2.out, HX7.out, HX15.out, HX16.out, ← HT.out]; rfl
            show Row _ g1 122 (firsts (sch (wordsOf blk) k ++ [nextW (sch (wordsOf blk) k) (16 + k)]))
            rw [h4, ← h3]
            exact h1
          · exact HI'.out.2.1.setOther _ (by show w.heap.size ≠ g1; omega) _
          · exact (HI'.out.2.2.setCell (by show w.heap.size ≤ g1; omega) _).drew
        · have ek : k = 48 := by omega
          have h1 := HI.out.1
          rw [firsts_full blk k ek] at h1
          have HI2 := Lib.hid (And.intro h1 HI.out.2)
          clear h1 ek
          clear HI
          have hsz : ((spreadL blk).map uv).length = 64 := by rw [List.length_map, spreadL_length]
          have hone : ∀ v ∈ (spreadL blk).map uv, v.oneCell' = true := by intro v hv; obtain ⟨x, _, rfl⟩ := List.mem_map.1 hv; rfl
          have HSZ := Lib.hid (And.intro hsz hone)
          clear hsz hone
          obtain ⟨L, HL2⟩ : ∃ L, Shut ((spreadL blk).map uv = L) := ⟨_, ⟨rfl⟩⟩
          have HSZ' : Hid (L.length = 64 ∧ ∀ v ∈ L, v.oneCell' = true) := Lib.hid (by rw [← HL2.out]; exact HSZ.out)
          have HI3 : Hid (Row wr g1 122 L ∧ Row wr w.heap.size 122 (firsts []) ∧ Below w.heap.size w wr) := Lib.hid (by rw [← HL2.out]; exact HI2.out)
          clear HSZ HI2
          go_wp2_with (first
            | (refine wl_load rfl 122 (.tmp 3) rfl g1 rfl 122 _ _ HI3.out.1 under67 rfl (by rw [HSZ'.out.1]; exact info_size info67) ?_
               intro v HV)
            | (refine wl_store rfl 122 (.tmp 2) (.tmp 66) rfl w.heap.size _ L rfl HV.out rfl 122 _ HI3.out.2.1 (by rw [HSZ'.out.1]; exact info_size info67) (by rw [HSZ'.out.1]; rfl) HSZ'.out.2 ?_
               intro w3 HR3 HS3 HZ3))
          refine bodyPost_ret (v := .agg L.toArray) (results_cell_row Tryd.results86 _ w3 w.heap.size 122 _ (0, 0) _ rfl HR3.out under67 rfl (by simpa [HSZ'.out.1] using info_size info67)) rfl ?_
          exact ⟨_, rfl, Lib.hid ⟨by rw [HL2.out], HI3.out.2.2.trans (HS3.out.below (Nat.le_refl _) HI3.out.2.2.size)⟩⟩
end Go.Proofs.YtchnbknbccpmcaaDoor.H
namespace Go.Proofs.YtchnbknbccpmcaaDoor.H
open Go.RowKit

/-- The table of the rounds' words, as the variable holds it. -/
def Ktab (w : World) : Prop := 18 < w.heap.size ∧ ∀ t, t < 64 → w.cell? ⟨18, t, none⟩ = some (.int .u32 (U (KT.getD t 0)))
theorem Ktab.below {w w' : World} (h : Ktab w) {B : Nat} (hB : 18 < B) (hb : Below B w w') : Ktab w' := ⟨Nat.lt_of_lt_of_le h.1 hb.size, fun t ht => (hb.cell (p := ⟨18, t, none⟩) hB).trans (h.2 t ht)⟩
theorem Ktab.sole {w w' : World} (h : Ktab w) {g : Nat} (hg : 18 < g) (hb : Sole g w w') : Ktab w' := ⟨Nat.lt_of_lt_of_le h.1 hb.size, fun t ht => (hb.cell (p := ⟨18, t, none⟩) h.1 (by show 18 ≠ g; omega)).trans (h.2 t ht)⟩

def sumCellsL (l : List Wd) (blk : List UInt8) (held total : Nat) : List Value := l.map uv ++ blk.map bv ++ [.int .i64 (held : Int), .int .u64 (total : Int)]
theorem sumCells_eq (r : Regs) (blk : List UInt8) (held total : Nat) : sumCells r blk held total = sumCellsL r.list blk held total := rfl
theorem sumCellsL_word (l : List Wd) (blk : List UInt8) (held total k : Nat) (h : k < l.length) : (sumCellsL l blk held total)[k]? = some (.int .u32 (U (l.getD k 0))) := by
  unfold sumCellsL
  rw [List.append_assoc, List.getElem?_append_left (by simpa using h)]
  simp [h, uv]
theorem sumCellsL_set (l : List Wd) (blk : List UInt8) (held total k : Nat) (x : Wd) (h : k < l.length) : (sumCellsL l blk held total).set k (.int .u32 (U x)) = sumCellsL (l.set k x) blk held total := by
  unfold sumCellsL
  rw [List.append_assoc, List.set_append_left _ _ (by simpa using h), ← List.append_assoc]
  congr 2
  rw [show Value.int .u32 (U x) = uv x from rfl, List.map_set]

theorem u32max : IntKind.u32.max = 4294967295 := rfl
theorem t1_eq (r : Regs) (k w : Wd) : (U r.h + U (bg1 r.e) + bits .xor .u32 (bits .and .u32 (U r.e) (U r.f)) (bits .and .u32 (bits .xor .u32 IntKind.u32.max (U r.e)) (U r.g)) + U k + U w) % 4294967296 = U (t1F k w r) := by
  rw [u32max, u_not, u_and, u_and, u_xor, u_sum5]
  rfl
theorem t2_eq (r : Regs) : (U (bg0 r.a) + bits .xor .u32 (bits .xor .u32 (bits .and .u32 (U r.a) (U r.b)) (bits .and .u32 (U r.a) (U r.c))) (bits .and .u32 (U r.b) (U r.c))) % 4294967296 = U (t2F r) := by
  rw [u_and, u_and, u_and, u_xor, u_xor, u_add']
  rfl
/-- The first k words added, the others as they were. -/
def addedL (r s : Regs) (k : Nat) : List Wd := (r.plus s).list.take k ++ r.list.drop k
theorem addedL_length (r s : Regs) (k : Nat) (h : k ≤ 8) : (addedL r s k).length = 8 := by
  simp [addedL, list_length]; omega
theorem addedL_at (r s : Regs) (k : Nat) (h : k < 8) : (addedL r s k).getD k 0 = r.list.getD k 0 := by
  unfold addedL
  rw [List.getD_eq_getElem?_getD, List.getElem?_append_right (by rw [List.length_take, list_length]; omega), List.length_take, list_length, List.getElem?_drop, List.getD_eq_getElem?_getD]
  congr 2
  omega
theorem plus_at (r s : Regs) (k : Nat) (h : k < 8) : r.list.getD k 0 + s.list.getD k 0 = (r.plus s).list.getD k 0 := by
  match k, h with
  | 0, _ => rfl
  | 1, _ => rfl
  | 2, _ => rfl
  | 3, _ => rfl
  | 4, _ => rfl
  | 5, _ => rfl
  | 6, _ => rfl
  | 7, _ => rfl
theorem addedL_set (r s : Regs) (k : Nat) (h : k < 8) : (addedL r s k).set k (r.list.getD k 0 + s.list.getD k 0) = addedL r s (k + 1) := by
  rw [plus_at r s k h]
  obtain ⟨a, b, c, d, e, f, g, hh⟩ := r
  match k, h with
  | 0, _ => rfl
  | 1, _ => rfl
  | 2, _ => rfl
  | 3, _ => rfl
  | 4, _ => rfl
  | 5, _ => rfl
  | 6, _ => rfl
  | 7, _ => rfl
theorem addedL_full (r s : Regs) : addedL r s 8 = (r.plus s).list := rfl

set_option maxRecDepth 100000 in
set_option maxHeartbeats 1000000 in
theorem mix_any (g : Nat) (r : Regs) (blk : List UInt8) (held total : Nat) (w : World) (hK : Ktab w) (hg0 : 18 < g) (hb : blk.length = 64) (hr : Row w g 99 (sumCells r blk held total)) :
    Calls Tryd.prog 77 #[.pointer (some ⟨g, 0, none⟩)] w fun e w' => e = .returned (.tuple #[]) ∧ Hid (Row w' g 99 (sumCells (comp r blk) blk held total) ∧ Sole g w w') := by
  have hg := hr.lt
  have HR := Lib.hid hr
  have HL := Lib.hid hb
  have HK := Lib.hid hK
  clear hr hb hK
  go_enter Tryd.func77, Tryd.ntmps77
  go_wp2_with fail
  with_reducible refine (spread_any g r blk held total w HL.out HR.out).mono ?_
  rintro e w1 ⟨v, rfl, HV⟩
  have hsz : ((spreadL blk).map uv).length = 64 := by rw [List.length_map, spreadL_length]
  have hone : ∀ v ∈ (spreadL blk).map uv, v.oneCell' = true := by intro v hv; obtain ⟨x, _, rfl⟩ := List.mem_map.1 hv; rfl
  obtain ⟨L, HL2⟩ : ∃ L, Shut ((spreadL blk) = L) := ⟨_, ⟨rfl⟩⟩
  rw [HL2.out] at hsz hone
  have HSZ := Lib.hid (And.intro hsz hone)
  have HV' : Hid (v = .agg (L.map uv).toArray ∧ Below w.heap.size w w1) := Lib.hid (by rw [← HL2.out]; exact HV.out)
  clear hsz hone HV
  go_wp2_with (first
    | (refine wl_alloc (o := ⟨some 2, _, _, _, _, _⟩) rfl 122 rfl _ _ info67 ?_
       intro w2 HA HB HZ)
    | (refine wl_store rfl 122 (.tmp 2) (.tmp 17) rfl w1.heap.size _ (L.map uv) rfl HV'.out.1 rfl 122 _ HA.out (by rw [HSZ.out.1]; exact info_size info67) (by rw [HSZ.out.1]; rfl) HSZ.out.2 ?_
       intro w3 HR3 HS3 HZ3))
  have hs1 : w.heap.size ≤ w1.heap.size := HV'.out.2.size
  have hz2 : w2.heap.size = w1.heap.size + 1 := HZ.out
  have HBW : Hid (Below w.heap.size w w3) := Lib.hid ((HV'.out.2.trans (HB.out.mono hs1)).trans (HS3.out.below hs1 (by omega)))
  clear HV' HA HB HZ HS3 HZ3 hz2
  generalize hg1 : w1.heap.size = g1 at *
  clear hg1
  clear w1 w2
  have HRW := Lib.hid (HR.out.below HBW.out hg)
  have hw : ∀ n k, k < 8 → (w3.drewN n).cell? ⟨g, k, none⟩ = some (.int .u32 (U (r.list.getD k 0))) := fun n k hk => by
    rw [(HRW.out.drewN n).cell, sumCells_eq, sumCellsL_word _ _ _ _ _ (by rw [list_length]; exact hk)]
  obtain ⟨a, b, c, d, e, f, gg, h⟩ := r
  have ca : w3.cell? ⟨g, 0, none⟩ = some (.int .u32 (U a)) := hw 0 0 (by decide)
  have cb : w3.cell? ⟨g, 1, none⟩ = some (.int .u32 (U b)) := hw 0 1 (by decide)
  have cc : w3.cell? ⟨g, 2, none⟩ = some (.int .u32 (U c)) := hw 0 2 (by decide)
  have cd : w3.cell? ⟨g, 3, none⟩ = some (.int .u32 (U d)) := hw 0 3 (by decide)
  have ce : ∀ n, (w3.drewN n).cell? ⟨g, 4, none⟩ = some (.int .u32 (U e)) := fun n => hw n 4 (by decide)
  have cf : ∀ n, (w3.drewN n).cell? ⟨g, 5, none⟩ = some (.int .u32 (U f)) := fun n => hw n 5 (by decide)
  have cg : ∀ n, (w3.drewN n).cell? ⟨g, 6, none⟩ = some (.int .u32 (U gg)) := fun n => hw n 6 (by decide)
  have ch : ∀ n, (w3.drewN n).cell? ⟨g, 7, none⟩ = some (.int .u32 (U h)) := fun n => hw n 7 (by decide)
  clear hw
  go_quiet (fail)
  clear ca cb cc cd
  go_wp2_with fail
  have ce' := ce nq
  have cf' := cf nq
  have cg' := cg nq
  have ch' := ch nq
  have HBW4 := Lib.hid (below_drewN HBW.out nq)
  have HRW4 := Lib.hid (HRW.out.drewN nq)
  have HR4 := Lib.hid (HR3.out.drewN nq)
  clear ce cf cg ch HBW HRW HR3
  generalize w3.drewN nq = w4 at *
  clear w3
  go_quiet (fail)
  clear ce' cf' cg' ch'
  go_wp2_with fail
  have hlenL : L.length = 64 := by simpa using HSZ.out.1
  have HLL := Lib.hid hlenL
  clear hlenL HSZ
  go_loopw [3, 4, 5, 6, 7, 8, 9, 10, 58] (fun a' b' c' d' e' f' g' h' i W => ∃ (k : Nat) (q : Regs), k ≤ 64 ∧ i = .int .i64 k ∧ a' = .int .u32 (U q.a) ∧ b' = .int .u32 (U q.b) ∧ c' = .int .u32 (U q.c) ∧ d' = .int .u32 (U q.d) ∧ e' = .int .u32 (U q.e) ∧ f' = .int .u32 (U q.f) ∧ g' = .int .u32 (U q.g) ∧ h' = .int .u32 (U q.h) ∧
      Shut (q = rounds KT L ⟨a, b, c, d, e, f, gg, h⟩ k) ∧ Hid (∃ n, W = w4.drewN n)) (fun _ _ _ _ _ _ _ _ i _ => 64 - (intOf i).toNat)
  case atStart => exact ⟨0, ⟨a, b, c, d, e, f, gg, h⟩, Nat.zero_le _, rfl, rfl, rfl, rfl, rfl, rfl, rfl, rfl, rfl, ⟨rfl⟩, Lib.hid ⟨nq, rfl⟩⟩
  case round =>
    obtain ⟨k, ⟨a', b', c', d', e', f', g', h'⟩, hk, rfl, rfl, rfl, rfl, rfl, rfl, rfl, rfl, rfl, HQ, HN⟩ := hrel
    by_cases hlt : k < 64
    · obtain ⟨kk, HKK⟩ : ∃ x, Shut (x = KT.getD k 0) := ⟨_, ⟨rfl⟩⟩
      obtain ⟨ww, HWW⟩ : ∃ x, Shut (x = L.getD k 0) := ⟨_, ⟨rfl⟩⟩
      have cK : wr.cell? ⟨18, k, none⟩ = some (.int .u32 (U kk)) := by
        obtain ⟨n, hn⟩ := HN.out
        rw [hn, HKK.out]
        exact (HBW4.out.cell (p := ⟨18, k, none⟩) (Nat.lt_of_lt_of_le hg0 (Nat.le_of_lt hg))).trans (HK.out.2 k hlt)
      have cW : wr.cell? ⟨g1, k, none⟩ = some (.int .u32 (U ww)) := by
        obtain ⟨n, hn⟩ := HN.out
        rw [hn, HWW.out]
        rw [(HR4.out.drewN n).cell, List.getElem?_map, List.getElem?_eq_getElem (by rw [HLL.out]; exact hlt)]
        simp [uv, List.getD, List.getElem?_eq_getElem (show k < L.length by rw [HLL.out]; exact hlt)]
      dsimp only at *
      have hsg : IntKind.u32.signed = false := rfl
      go_wp2_with fail
      go_quiet ((go_at_call 87; exact quietL (turned1 _ _)))
      go_wp2_with fail
      with_reducible refine (turned0 a' _).mono ?_
      rintro e1 w' ⟨rfl, rfl⟩
      go_wp2_with fail
      have e1 := t1_eq ⟨a', b', c', d', e', f', g', h'⟩ kk ww
      have e2 := t2_eq ⟨a', b', c', d', e', f', g', h'⟩
      dsimp only at e1 e2
      rw [e1, e2, u_add', u_add']
      refine ⟨⟨k + 1, rnd kk ww ⟨a', b', c', d', e', f', g', h'⟩, by omega, by go_num, rfl, rfl, rfl, rfl, rfl, rfl, rfl, rfl, ⟨?_⟩, ?_⟩, by simp [intOf]; omega⟩
      · rw [rounds, HQ.out, ← HKK.out, ← HWW.out]
      · obtain ⟨n, hn⟩ := HN.out
        exact Lib.hid ⟨n + nq, by rw [hn]; simp [World.drewN, Nat.add_assoc]⟩
    · have hsg : IntKind.u32.signed = false := rfl
      obtain ⟨n, hn⟩ := HN.out
      have HBW5 : Hid (Below w.heap.size w wr) := Lib.hid (by rw [hn]; exact below_drewN HBW4.out n)
      have HRW5 : Hid (Row wr g 99 (sumCells ⟨a, b, c, d, e, f, gg, h⟩ blk held total)) := Lib.hid (by rw [hn]; exact HRW4.out.drewN n)
      clear hn n HN HRW4 HBW4 HR4
      have HQ' : Shut (⟨a', b', c', d', e', f', g', h'⟩ = rounds KT L ⟨a, b, c, d, e, f, gg, h⟩ 64) := ⟨by rw [HQ.out, show k = 64 by omega]⟩
      clear HQ
      dsimp only at *
      go_wp2_with fail
      go_loopw [118] (fun i W => ∃ k : Nat, k ≤ 8 ∧ i = .int .i64 k ∧ Hid (Row W g 99 (sumCellsL (addedL ⟨a, b, c, d, e, f, gg, h⟩ ⟨a', b', c', d', e', f', g', h'⟩ k) blk held total) ∧ Sole g w W)) (fun i _ => 8 - (intOf i).toNat)
      case atStart => exact ⟨0, Nat.zero_le _, rfl, Lib.hid ⟨HRW5.out, Sole.of_below HBW5.out⟩⟩
      case round =>
        obtain ⟨j, hj, rfl, HI⟩ := hrel
        by_cases hjl : j < 8
        · obtain ⟨x, HX⟩ : ∃ x, Shut (x = (Regs.mk a b c d e f gg h).list.getD j 0) := ⟨_, ⟨rfl⟩⟩
          obtain ⟨y, HY⟩ : ∃ x, Shut (x = (Regs.mk a' b' c' d' e' f' g' h').list.getD j 0) := ⟨_, ⟨rfl⟩⟩
          have hix := run_word wr [.int .u32 (U a'), .int .u32 (U b'), .int .u32 (U c'), .int .u32 (U d'), .int .u32 (U e'), .int .u32 (U f'), .int .u32 (U g'), .int .u32 (U h')] j (.int .u32 (U y)) hjl (by
            rw [HY.out]
            match j, hjl with
            | 0, _ => rfl
            | 1, _ => rfl
            | 2, _ => rfl
            | 3, _ => rfl
            | 4, _ => rfl
            | 5, _ => rfl
            | 6, _ => rfl
            | 7, _ => rfl)
          have hcell : wr.cell? ⟨g, j, none⟩ = some (.int .u32 (U x)) := by
            rw [HI.out.1.cell, sumCellsL_word _ _ _ _ _ (by rw [addedL_length _ _ _ hj]; exact hjl), addedL_at _ _ _ hjl, HX.out]
          have hfr : wr.frozen? ⟨g, j, none⟩ = false := HI.out.1.frozen j
          go_wp2_with fail
          clear hix
          go_region
          rw [u_add']
          go_wp2_with fail
          refine ⟨⟨j + 1, by omega, by go_num, Lib.hid ⟨?_, ?_⟩⟩, by simp [intOf]; omega⟩
          · have h1 := HI.out.1.set j (.int .u32 (U (x + y)))
            rw [sumCellsL_set _ _ _ _ _ _ (by rw [addedL_length _ _ _ hj]; exact hjl), HX.out, HY.out, addedL_set _ _ _ hjl, ← HX.out, ← HY.out] at h1
            exact h1
          · exact (HI.out.2.setCell j _).drewN 1
        · go_wp2_with fail
          go_end0
          refine ⟨rfl, Lib.hid ⟨?_, HI.out.2⟩⟩
          have h1 := HI.out.1
          rw [show j = 8 by omega, addedL_full] at h1
          unfold comp
          rw [HL2.out, ← HQ'.out]
          exact h1
end Go.Proofs.YtchnbknbccpmcaaDoor.H
namespace Go.Proofs.YtchnbknbccpmcaaDoor.H
open Go.RowKit

theorem step_copy_sole {ops : Array Oper} {o : Oper} {a : Act} {w : World} {K : Act → World → Prop} {Q : Exit → Act → World → Prop} {E : Prop} (hgd : o.guard = none) (d s : Operand)
    (ho : o.op = .call { callee := .builtin .copy, args := #[d, s], argTypes := #[22, 22] })
    (g off dLen dCap : Nat) (ad : Addr) (sLen sCap : Nat) (hd : a.eval d = .slice (some ⟨g, off, none⟩) dLen dCap) (hs : a.eval s = .slice (some ad) sLen sCap)
    (cur : List Value) (t : TypeId) (hg : Row w g t cur) (cs : List Value) (hn : cs.length = Nat.min sLen dLen)
    (hsrc : ∀ j v, cs[j]? = some v → w.cell? (ad.add j) = some v) (hfit : off + cs.length ≤ cur.length) (h1 : ∀ v ∈ cs, v.oneCell' = true)
    (h : ∀ w', Hid (Row w' g t (splice cur off cs) ∧ Sole g w w' ∧ w'.heap.size = w.heap.size) → K (a.put o.dst (goInt cs.length)) w') :
    if Region.wanted o (yielded ops a.tmps) = true then Oper.wp Tryd.prog o a w K Q else E := by
  have hw : Region.wanted o (yielded ops a.tmps) = true := by simp [Region.wanted, hgd]
  rw [if_pos hw]
  obtain ⟨i0, hi0, _, hz1, _⟩ := info_parts' u8_info
  have hrun := run_copy_row (P := Tryd.prog) w 22 22 o.type 5 g off dLen dCap ad sLen sCap cur.toArray t cs Tryd.underlying22 (by simp [hi0, hz1]) hg hn hsrc (by simpa using hfit) h1
  unfold Oper.wp
  simp [execOp, ho, resolve, invoke, builtin, hd, hs, hrun, Result.andThen]
  refine h _ ⟨?_, (Sole.refl g w).setRow _, by simp [World.setRow]⟩
  have := hg.setRow (splice cur off cs)
  simpa [splice] using this

/-- Bytes that lie elsewhere than in block g. -/
structure Src (w : World) (g : Nat) (A : Option Addr) (bs : List UInt8) : Prop where
  rd : Rd w w.heap.size A (bs.map bv)
  ne : bs ≠ [] → ∀ ad, A = some ad → ad.block ≠ g
theorem Src.sole {w w' : World} {g : Nat} {A : Option Addr} {bs : List UInt8} (h : Src w g A bs) (hs : Sole g w w') : Src w' g A bs := by
  refine ⟨?_, h.ne⟩
  rcases h.rd with h0 | ⟨ad, h1, h2, h3⟩
  · exact .inl h0
  · by_cases hb : bs = []
    · exact .inl (by simp [hb])
    · refine .inr ⟨ad, h1, Nat.lt_of_lt_of_le h2 hs.size, fun j u hj => ?_⟩
      have e : (ad.add j).block = ad.block := by unfold Addr.add; split <;> rfl
      rw [hs.cell (by rw [e]; exact h2) (by rw [e]; exact h.ne hb ad h1)]
      exact h3 j u hj
theorem Src.drop {w : World} {g : Nat} {A : Option Addr} {bs : List UInt8} (h : Src w g A bs) {k cap : Nat} (hk : k ≤ bs.length) (hc : bs.length ≤ cap) : Src w g (if cap = k then A else A.map (·.add k)) (bs.drop k) := by
  refine ⟨by rw [List.map_drop]; exact h.rd.drop (by simpa using hk) (by simpa using hc), fun hne ad had => ?_⟩
  have hb : bs ≠ [] := fun e => hne (by simp [e])
  split at had
  · exact h.ne hb ad had
  · cases A with
    | none => simp at had
    | some a0 =>
      simp at had
      rw [← had]
      have e : (a0.add k).block = a0.block := by unfold Addr.add; split <;> rfl
      rw [e]
      exact h.ne hb a0 rfl

/-- Block g is the sum of the stream S, T bytes counted. -/
def SumT (w : World) (g : Nat) (S : List UInt8) (T : Nat) : Prop :=
  ∃ blk : List UInt8, blk.length = 64 ∧ blk.take (S.length % 64) = waits S ∧ Row w g 99 (sumCells (regsOf S) blk (S.length % 64) T)

theorem splice_sum (r : Regs) (blk : List UInt8) (h T : Nat) (cs : List UInt8) (hb : blk.length = 64) (hf : h + cs.length ≤ 64) :
    splice (sumCells r blk h T) (8 + h) (cs.map bv) = sumCells r (splice blk h cs) h T := by
  unfold splice sumCells
  have e1 : (r.list.map uv).length = 8 := by simp [list_length]
  rw [List.append_assoc, List.take_append, List.drop_append, e1]
  rw [List.take_of_length_le (by omega), List.drop_eq_nil_of_le (by omega), show 8 + h - 8 = h by omega, List.length_map, show 8 + h + cs.length - 8 = h + cs.length by omega]
  rw [List.take_append_of_le_length (by simp; omega), List.drop_append_of_le_length (by simp; omega)]
  simp [List.map_append, List.map_take, List.map_drop, List.append_assoc]
theorem splice_take (blk : List UInt8) (h : Nat) (cs : List UInt8) (hb : h ≤ blk.length) : (splice blk h cs).take (h + cs.length) = blk.take h ++ cs := by
  unfold splice
  rw [← List.append_assoc, List.take_append_of_le_length (by simp; omega), List.take_of_length_le (by simp; omega)]
theorem sumCells_held (r : Regs) (blk : List UInt8) (h T h' : Nat) (hb : blk.length = 64) : (sumCells r blk h T).set 72 (.int .i64 (h' : Int)) = sumCells r blk h' T := by
  unfold sumCells
  rw [List.set_append_right _ _ (by simp [list_length, hb])]
  simp [list_length, hb]
theorem sumCells_total (r : Regs) (blk : List UInt8) (h T T' : Nat) (hb : blk.length = 64) : (sumCells r blk h T).set 73 (.int .u64 (T' : Int)) = sumCells r blk h T' := by
  unfold sumCells
  rw [List.set_append_right _ _ (by simp [list_length, hb])]
  simp [list_length, hb]
theorem sumCells_held_at (r : Regs) (blk : List UInt8) (h T : Nat) (hb : blk.length = 64) : (sumCells r blk h T)[72]? = some (.int .i64 (h : Int)) := by
  unfold sumCells
  rw [List.getElem?_append_right (by simp [list_length, hb])]
  simp [list_length, hb]
theorem sumCells_total_at (r : Regs) (blk : List UInt8) (h T : Nat) (hb : blk.length = 64) : (sumCells r blk h T)[73]? = some (.int .u64 (T : Int)) := by
  unfold sumCells
  rw [List.getElem?_append_right (by simp [list_length, hb])]
  simp [list_length, hb]

theorem splice_length (blk : List UInt8) (h : Nat) (cs : List UInt8) (hb : blk.length = 64) (hf : h + cs.length ≤ 64) : (splice blk h cs).length = 64 := by rw [length_splice _ _ _ (by omega), hb]
theorem sumT_more {w : World} {g : Nat} {S cs : List UInt8} {T : Nat} {blk : List UInt8} {h : Nat} (hh : h = S.length % 64) (hb : blk.length = 64) (ht : blk.take h = waits S) (hx : h + cs.length < 64)
    (hr : Row w g 99 (sumCells (regsOf S) (splice blk h cs) (h + cs.length) T)) : SumT w g (S ++ cs) T := by
  have e : (S ++ cs).length % 64 = h + cs.length := by rw [List.length_append]; omega
  refine ⟨splice blk h cs, splice_length _ _ _ hb (by omega), ?_, ?_⟩
  · rw [e, splice_take _ _ _ (by omega), ht, waits_more _ _ (by omega)]
  · rw [e, regsOf_more _ _ (by omega)]; exact hr
theorem sumT_full {w : World} {g : Nat} {S cs : List UInt8} {T : Nat} {blk : List UInt8} {h : Nat} (hh : h = S.length % 64) (hb : blk.length = 64) (ht : blk.take h = waits S) (hx : h + cs.length = 64)
    (hr : Row w g 99 (sumCells (comp (regsOf S) (splice blk h cs)) (splice blk h cs) 0 T)) : SumT w g (S ++ cs) T := by
  have e : (S ++ cs).length % 64 = 0 := by rw [List.length_append]; omega
  have e2 : splice blk h cs = waits S ++ cs := by
    have h1 := splice_take blk h cs (by omega)
    rw [List.take_of_length_le (by rw [splice_length _ _ _ hb (by omega)]; omega), ht] at h1
    exact h1
  refine ⟨splice blk h cs, splice_length _ _ _ hb (by omega), ?_, ?_⟩
  · rw [e, waits_full _ _ (by omega)]; rfl
  · rw [e, regsOf_full _ _ (by omega)]
    have e3 : S.drop (64 * (S.length / 64)) ++ cs = splice blk h cs := by rw [e2]; rfl
    rw [e3]
    exact hr
theorem Sole.of_drew {g : Nat} {w w' : World} (h : Sole g w.drew w') : Sole g w w' := ⟨h.os, h.tape, h.output, h.size, h.block⟩

set_option maxRecDepth 100000 in
set_option maxHeartbeats 1000000 in
theorem add_any (g : Nat) (S : List UInt8) (T n c : Nat) (A : Option Addr) (bs : List UInt8) (w : World) (hK : Ktab w) (hg0 : 18 < g) (hn : bs.length = n) (hcap : n ≤ c) (hmax : c ≤ 9223372036854775807) (hT : T + n < 18446744073709551616) (hr : Src w g A bs) (hs : SumT w g S T) :
    Calls Tryd.prog 65 #[.pointer (some ⟨g, 0, none⟩), .slice A n c] w fun e w' => e = .returned (.tuple #[]) ∧ Hid (SumT w' g (S ++ bs) (T + n) ∧ Sole g w w') := by
  have hc' : c ≤ 9223372036854775807 := hmax
  obtain ⟨blk0, hb0, ht0, hrow0⟩ := hs
  have HK := Lib.hid hK
  have HN := Lib.hid hn
  have HR := Lib.hid hr
  have cT : w.cell? ⟨g, 73, none⟩ = some (.int .u64 (T : Int)) := by rw [hrow0.cell, sumCells_total_at _ _ _ _ hb0]
  have fT : w.frozen? ⟨g, 73, none⟩ = false := hrow0.frozen 73
  have HS0 := Lib.hid (And.intro hb0 (And.intro ht0 hrow0))
  have hw1 : IntKind.u64.wrap ((n : Nat) : Int) = (n : Int) := by rw [IntKind.wrap_u64]; omega
  clear hK hn hr hb0 ht0 hrow0 hmax
  go_enter Tryd.func65, Tryd.ntmps65
  go_wp2_with fail
  have HS1 : Shut (SumT (w.setCell ⟨g, 73, none⟩ (.int .u64 ((T : Int) + (n : Int)))) g (S ++ bs.take 0) (T + n) ∧ Sole g w (w.setCell ⟨g, 73, none⟩ (.int .u64 ((T : Int) + (n : Int))))) := ⟨by
    refine ⟨⟨blk0, HS0.out.1, ?_, ?_⟩, (Sole.refl g w).setCell 73 _⟩
    · rw [List.take_zero, List.append_nil]; exact HS0.out.2.1
    · have h1 := HS0.out.2.2.set 73 (.int .u64 ((T + n : Nat) : Int))
      rw [sumCells_total _ _ _ _ _ HS0.out.1] at h1
      rw [List.take_zero, List.append_nil]
      simpa using h1⟩
  clear cT fT HS0
  generalize w.setCell ⟨g, 73, none⟩ (.int .u64 ((T : Int) + (n : Int))) = w1 at *
  go_loopw [1] (fun v W => ∃ (k m c' : Nat) (A' : Option Addr), v = .slice A' m c' ∧ m ≤ c' ∧ c' ≤ 9223372036854775807 ∧ Shut (k + m = n) ∧ Shut (Src W g A' (bs.drop k) ∧ SumT W g (S ++ bs.take k) (T + n) ∧ Sole g w W)) (fun v _ => (match v with | .slice _ m _ => m | _ => 0))
  case atStart => exact ⟨0, n, c, A, rfl, hcap, hc', ⟨Nat.zero_add n⟩, ⟨by rw [List.drop_zero]; exact HR.out.sole HS1.out.2, HS1.out.1, HS1.out.2⟩⟩
  case round =>
    clear HS1 HR
    obtain ⟨k, m, c', A', rfl, hm, hc2, HKM, HI⟩ := hrel
    by_cases h0 : m = 0
    · subst h0
      go_wp2_with fail
      go_end0
      have hk : k = n := HKM.out
      refine ⟨rfl, Lib.hid ⟨?_, HI.out.2.2⟩⟩
      have h1 := HI.out.2.1
      rwa [List.take_of_length_le (by rw [HN.out]; omega)] at h1
    · have hpos : 0 < m := by omega
      obtain ⟨blk, hb, htk, hrow⟩ := HI.out.2.1
      obtain ⟨h, HH⟩ : ∃ h, Shut (h = (S ++ bs.take k).length % 64) := ⟨_, ⟨rfl⟩⟩
      obtain ⟨x, HX⟩ : ∃ x, Shut (x = Nat.min m (64 - h)) := ⟨_, ⟨rfl⟩⟩
      have hh : h < 64 := by rw [HH.out]; omega
      have hx0 : 0 < x := by rw [HX.out]; show 0 < min m (64 - h); omega
      have hx1 : x ≤ m := by rw [HX.out]; show min m (64 - h) ≤ m; omega
      have hx2 : h + x ≤ 64 := by rw [HX.out]; show h + min m (64 - h) ≤ 64; omega
      rw [← HH.out] at htk hrow
      have hlen : ((bs.drop k).take x).length = x := by rw [List.length_take, List.length_drop, HN.out]; have := HKM.out; omega
      obtain ⟨cs, HCS⟩ : ∃ cs, Shut (cs = (bs.drop k).take x) := ⟨_, ⟨rfl⟩⟩
      rw [← HCS.out] at hlen
      have hA : ∃ ad, A' = some ad ∧ ∀ j v, (cs.map bv)[j]? = some v → wr.cell? (ad.add j) = some v := by
        have h1 := HI.out.1.rd.take x
        rw [← List.map_take, ← HCS.out] at h1
        rcases h1 with h2 | ⟨ad, h2, _, h3⟩
        · simp at h2; subst h2; simp at hlen; omega
        · exact ⟨ad, h2, h3⟩
      obtain ⟨ad, rfl, hsrc⟩ := hA
      have ch : wr.cell? ⟨g, 72, none⟩ = some (.int .i64 (h : Int)) := by rw [hrow.cell, sumCells_held_at _ _ _ _ hb]
      have hsl := run_tail wr.drew 95 64 under45 g 8 h (h : Int) rfl hh
      have hrow' : Row wr.drew g 99 (sumCells (regsOf (S ++ bs.take k)) blk h (T + n)) := hrow
      have hsrc' : ∀ j v, (cs.map bv)[j]? = some v → wr.drew.cell? (ad.add j) = some v := hsrc
      have HRW := Lib.hid (And.intro hb (And.intro htk hrow'))
      have HLN := Lib.hid hlen
      have HSR := Lib.hid hsrc'
      clear hb htk hrow hlen hsrc hrow' hsrc'
      go_wp2_with fail
      go_region_law (refine step_copy_sole rfl (.tmp 25) (.tmp 26) rfl g (8 + h) (64 - h) (64 - h) ad m c' rfl rfl _ 99 HRW.out.2.2 (cs.map bv) (by rw [List.length_map, HLN.out, HX.out]) HSR.out (by rw [List.length_map, HLN.out, sumCells_length _ _ _ _ HRW.out.1]; omega) (by intro v hv; obtain ⟨y, _, rfl⟩ := List.mem_map.1 hv; rfl) ?_; intro w2 HW2)
      rw [HLN.out]
      have HR2 : Shut (Row w2 g 99 (sumCells (regsOf (S ++ bs.take k)) (splice blk h cs) h (T + n))) := ⟨by
        have h1 := HW2.out.1
        rwa [splice_sum _ _ _ _ _ HRW.out.1 (by rw [HLN.out]; exact hx2)] at h1⟩
      have HBL : Shut ((splice blk h cs).length = 64) := ⟨splice_length _ _ _ HRW.out.1 (by rw [HLN.out]; exact hx2)⟩
      have HS2 : Shut (Sole g wr w2) := ⟨HW2.out.2.1.of_drew⟩
      have ch2 : w2.cell? ⟨g, 72, none⟩ = some (.int .i64 (h : Int)) := by rw [HR2.out.cell, sumCells_held_at _ _ _ _ HBL.out]
      have fh2 : w2.frozen? ⟨g, 72, none⟩ = false := HR2.out.frozen 72
      have HSC : Shut (Src w2 g (if c' = x then some ad else (some ad).map (·.add x)) (bs.drop (k + x))) := ⟨by
        have h1 := (HI.out.1.sole HS2.out).drop (k := x) (cap := c') (by rw [List.length_drop, HN.out]; have := HKM.out; omega) (by rw [List.length_drop, HN.out]; have := HKM.out; omega)
        rwa [List.drop_drop] at h1⟩
      have HR3 : Shut (Row (w2.setCell ⟨g, 72, none⟩ (.int .i64 ((h : Int) + (x : Int)))) g 99 (sumCells (regsOf (S ++ bs.take k)) (splice blk h cs) (h + x) (T + n))) := ⟨by
        have h1 := HR2.out.set 72 (.int .i64 ((h + x : Nat) : Int))
        rw [sumCells_held _ _ _ _ _ HBL.out] at h1
        simpa using h1⟩
      have HS3 : Shut (Sole g w (w2.setCell ⟨g, 72, none⟩ (.int .i64 ((h : Int) + (x : Int))))) := ⟨(HI.out.2.2.trans HS2.out).setCell 72 _⟩
      have HSC3 : Shut (Src (w2.setCell ⟨g, 72, none⟩ (.int .i64 ((h : Int) + (x : Int)))) g (if c' = x then some ad else (some ad).map (·.add x)) (bs.drop (k + x))) := ⟨HSC.out.sole ((Sole.refl g w2).setCell 72 _)⟩
      have HKM2 : Shut (k + x + (m - x) = n) := ⟨by have := HKM.out; omega⟩
      have HT2 : Shut (S ++ bs.take (k + x) = S ++ bs.take k ++ cs) := ⟨by rw [HCS.out, List.take_add, List.append_assoc]⟩
      clear hsl ch HW2 HSC HR2 HS2
      by_cases h64 : h + x = 64
      · have t64 : (((h : Int) + (x : Int)) == 64) = true := by simp; omega
        by_cases hcm : c' = x
        · rw [if_pos hcm] at HSC3
          go_wp2_with fail
          with_reducible refine (mix_any g (regsOf (S ++ bs.take k)) (splice blk h cs) (h + x) (T + n) _ (HK.out.sole hg0 HS3.out) hg0 HBL.out HR3.out).mono ?_
          rintro e w3 ⟨rfl, HM⟩
          have c3 : w3.cell? ⟨g, 72, none⟩ = some (.int .i64 ((h + x : Nat) : Int)) := by rw [HM.out.1.cell, sumCells_held_at _ _ _ _ HBL.out]
          have f3 : w3.frozen? ⟨g, 72, none⟩ = false := HM.out.1.frozen 72
          have HM2 : Shut (Row (w3.setCell ⟨g, 72, none⟩ (.int .i64 0)) g 99 (sumCells (comp (regsOf (S ++ bs.take k)) (splice blk h cs)) (splice blk h cs) 0 (T + n))) := ⟨by
            have h1 := HM.out.1.set 72 (.int .i64 ((0 : Nat) : Int))
            rwa [sumCells_held _ _ _ _ _ HBL.out] at h1⟩
          go_wp2_with fail
          refine ⟨⟨k + x, m - x, _, _, rfl, by omega, by omega, HKM2, ⟨HSC3.out.sole (HM.out.2.setCell 72 _), ?_, (HS3.out.trans HM.out.2).setCell 72 _⟩⟩, by simp; omega⟩
          rw [HT2.out]
          exact sumT_full HH.out HRW.out.1 HRW.out.2.1 (by rw [HLN.out]; exact h64) HM2.out
        · rw [if_neg hcm, Option.map_some] at HSC3
          go_wp2_with fail
          with_reducible refine (mix_any g (regsOf (S ++ bs.take k)) (splice blk h cs) (h + x) (T + n) _ (HK.out.sole hg0 HS3.out) hg0 HBL.out HR3.out).mono ?_
          rintro e w3 ⟨rfl, HM⟩
          have c3 : w3.cell? ⟨g, 72, none⟩ = some (.int .i64 ((h + x : Nat) : Int)) := by rw [HM.out.1.cell, sumCells_held_at _ _ _ _ HBL.out]
          have f3 : w3.frozen? ⟨g, 72, none⟩ = false := HM.out.1.frozen 72
          have HM2 : Shut (Row (w3.setCell ⟨g, 72, none⟩ (.int .i64 0)) g 99 (sumCells (comp (regsOf (S ++ bs.take k)) (splice blk h cs)) (splice blk h cs) 0 (T + n))) := ⟨by
            have h1 := HM.out.1.set 72 (.int .i64 ((0 : Nat) : Int))
            rwa [sumCells_held _ _ _ _ _ HBL.out] at h1⟩
          go_wp2_with fail
          refine ⟨⟨k + x, m - x, _, _, rfl, by omega, by omega, HKM2, ⟨HSC3.out.sole (HM.out.2.setCell 72 _), ?_, (HS3.out.trans HM.out.2).setCell 72 _⟩⟩, by simp; omega⟩
          rw [HT2.out]
          exact sumT_full HH.out HRW.out.1 HRW.out.2.1 (by rw [HLN.out]; exact h64) HM2.out
      · have t64 : (((h : Int) + (x : Int)) == 64) = false := by simp; omega
        by_cases hcm : c' = x
        · rw [if_pos hcm] at HSC3
          go_wp2_with fail
          refine ⟨⟨k + x, m - x, _, _, rfl, by omega, by omega, HKM2, ⟨HSC3.out, ?_, HS3.out⟩⟩, by simp; omega⟩
          rw [HT2.out]
          refine sumT_more HH.out HRW.out.1 HRW.out.2.1 (by rw [HLN.out]; omega) ?_
          rw [HLN.out]
          exact HR3.out
        · rw [if_neg hcm, Option.map_some] at HSC3
          go_wp2_with fail
          refine ⟨⟨k + x, m - x, _, _, rfl, by omega, by omega, HKM2, ⟨HSC3.out, ?_, HS3.out⟩⟩, by simp; omega⟩
          rw [HT2.out]
          refine sumT_more HH.out HRW.out.1 HRW.out.2.1 (by rw [HLN.out]; omega) ?_
          rw [HLN.out]
          exact HR3.out
end Go.Proofs.YtchnbknbccpmcaaDoor.H
namespace Go.Proofs.YtchnbknbccpmcaaDoor.H
open Go.RowKit

/-- 'v is a row of bytes of our own, out of v0: only v0's row, and what is new, has turned since w0'. -/
structure Acc (w0 w : World) (base : Nat) (v0 v : Value) (xs : List Value) : Prop where
  own : w.ownsRow base 5 1 v xs.length xs
  grown : w0.grownBy w v0.ownBlock
  lies : v.ownBlock = v0.ownBlock ∨ ∃ g, v.ownBlock = some g ∧ w0.heap.size ≤ g
theorem Acc.step {w0 w w1 w2 : World} {base : Nat} {v0 v v2 : Value} {xs ys : List Value} (h : Acc w0 w base v0 v xs) (hb : w.grownBy w1 none) (hown : w2.ownsRow base 5 1 v2 ys.length ys) (hg : w1.grownBy w2 v.ownBlock)
    (hat : v2.ownBlock = v.ownBlock ∨ v2.ownBlock = some w1.heap.size) : Acc w0 w2 base v0 v2 ys := by
  refine ⟨hown, ?_, ?_⟩
  · refine (h.grown.andThen hb (fun j hj => by cases hj)).andThen hg (fun j hj => ?_)
    rcases h.lies with e | ⟨g, e, hge⟩
    · right; rw [← e]; exact hj
    · left; rw [e] at hj; injection hj with hj; omega
  · rcases hat with e | e
    · rcases h.lies with e2 | ⟨g, e2, hge⟩
      · exact .inl (e.trans e2)
      · exact .inr ⟨g, e.trans e2, hge⟩
    · exact .inr ⟨_, e, Nat.le_trans h.grown.size hb.size⟩
theorem grown_alloc (w : World) (o : Obj) : w.grownBy (w.alloc o) none := ⟨rfl, rfl, rfl, by simp, fun k hk _ => Below.heap_alloc w o k hk⟩
theorem Acc.below {w0 w : World} {base : Nat} {v0 v : Value} {xs : List Value} (h : Acc w0 w base v0 v xs) {B : Nat} (hB : B ≤ w0.heap.size) (hv : ∀ k, v0.ownBlock = some k → B ≤ k) : Below B w0 w :=
  (Below.refl B w0).grown h.grown hB hv

theorem own_slice {w : World} {base : Nat} {v : Value} {n : Nat} {bs : List UInt8} (h : w.ownsRow base 5 1 v n (bs.map bv)) : ∃ A c, v = .slice A n c ∧ bs.length = n ∧ n ≤ c ∧ c ≤ maxLen ∧ Rd w w.heap.size A (bs.map bv) ∧ (bs ≠ [] → ∃ g, A = some ⟨g, 0, none⟩ ∧ base ≤ g) := by
  have hl : bs.length = n := by simpa using h.1
  rcases h.2 with ⟨rfl, rfl⟩ | ⟨g, cap, cur, rfl, hb, hg, hnc, hcm, _⟩
  · exact ⟨none, 0, rfl, hl, Nat.le_refl _, by decide, .inl (by simpa using hl), fun hne => absurd (List.eq_nil_of_length_eq_zero hl) hne⟩
  · refine ⟨_, cap, rfl, hl, hnc, hcm, ?_, fun _ => ⟨g, rfl, hb⟩⟩
    refine .inr ⟨⟨g, 0, none⟩, rfl, ?_, h.cells (g := g) rfl⟩
    rcases Nat.lt_or_ge g w.heap.size with hlt | hge
    · exact hlt
    · rw [Array.getElem?_eq_none hge] at hg; cases hg

theorem wb24 (x : Wd) : Value.int .u8 (U x / 16777216 % 256) = bv (UInt8.ofNat (x.toNat / 16777216)) := by
  unfold U bv; congr 1
theorem wb16 (x : Wd) : Value.int .u8 (U x / 65536 % 256) = bv (UInt8.ofNat (x.toNat / 65536)) := by
  unfold U bv; congr 1
theorem wb8 (x : Wd) : Value.int .u8 (U x / 256 % 256) = bv (UInt8.ofNat (x.toNat / 256)) := by
  unfold U bv; congr 1
theorem wb0 (x : Wd) : Value.int .u8 (U x % 256) = bv (UInt8.ofNat x.toNat) := by
  unfold U bv; congr 1
theorem cells_new (w : World) (cs : Array Value) (t : TypeId) : ∀ (j : Nat) (u : Value), cs.toList[j]? = some u → (w.alloc (.cells cs t)).cell? ((⟨w.heap.size, 0, none⟩ : Addr).add j) = some u := by
  intro j u hj
  have e : (w.alloc (.cells cs t)).cell? ⟨w.heap.size, j, none⟩ = _ := World.cell?_alloc_mark w _ t (0, 0) j
  rw [Addr.add_mid, Nat.zero_add, e]
  simpa using hj

set_option maxRecDepth 100000 in
set_option maxHeartbeats 400000 in
theorem appendWord_any (base : Nat) (v0 : Value) (xs : List Value) (x : Wd) (w : World) (hown : w.ownsRow base 5 1 v0 xs.length xs) (hbase : base ≤ w.heap.size) (hlen : xs.length + 4 ≤ 140737488355328) :
    Calls Tryd.prog 76 #[v0, .int .u32 (U x)] w fun e w' => ∃ v, e = .returned v ∧ Hid (Acc w w' base v0 v (xs ++ (wordBytes x).map bv)) := by
  obtain ⟨i0, hi0, hz0, hz1, hz2⟩ := info_parts' u8_info
  have HI := Lib.hid (And.intro hi0 (And.intro hz0 (And.intro hz1 hz2)))
  clear hi0 hz0 hz1 hz2
  have HO := Lib.hid hown
  clear hown
  have hU := U_nn x
  go_enter Tryd.func76, Tryd.ntmps76
  go_wp2_with (first
    | (at_builtin
       refine wpList_append_own_at _ rfl (.tmp 5) (.tmp 17) 22 rfl base 5 i0 _ 1 1 Tryd.underlying22 HI.out.1 HI.out.2.1 HI.out.2.2.1 HI.out.2.2.2 rfl (by omega) v0 _ _ rfl (HO.out.alloc _) ⟨w.heap.size, 0, none⟩ 4 4 [_, _, _, _] rfl rfl (cells_new w _ 5) (by simp [Value.oneCell']) (by simp only [maxLen]; omega) (by omega) (by simp; omega) ?_
       intro v1 w1 hown1 hg1 hnil1 hat1))
  go_ret
  refine ⟨v1, rfl, Lib.hid ?_⟩
  have hA : Acc w w base v0 v0 xs := ⟨HO.out, World.grownBy.refl _ _, .inl rfl⟩
  refine hA.step (grown_alloc w _) ?_ hg1 hat1
  have e : (wordBytes x).map bv = [Value.int .u8 (U x / 16777216 % 256), Value.int .u8 (U x / 65536 % 256), Value.int .u8 (U x / 256 % 256), Value.int .u8 (U x % 256)] := by rw [wb24, wb16, wb8, wb0]; rfl
  rw [e, List.length_append]
  exact hown1

def zeros64 : List UInt8 := List.replicate 64 0
theorem built48 : Tryd.prog.built 99 [(0, .agg #[.int .u32 1779033703, .int .u32 3144134277, .int .u32 1013904242, .int .u32 2773480762, .int .u32 1359893119, .int .u32 2600822924, .int .u32 528734635, .int .u32 1541459225])] = some (sumCells H0 zeros64 0 0).toArray := by kernel_rfl
theorem sum_one (r : Regs) (blk : List UInt8) (h T : Nat) : ∀ v ∈ sumCells r blk h T, v.oneCell' = true := by
  intro v hv
  unfold sumCells at hv
  rcases List.mem_append.1 hv with hv | hv
  · rcases List.mem_append.1 hv with hv | hv
    · obtain ⟨x, _, rfl⟩ := List.mem_map.1 hv; rfl
    · obtain ⟨x, _, rfl⟩ := List.mem_map.1 hv; rfl
  · simp at hv; rcases hv with rfl | rfl <;> rfl
theorem wl_build {w : World} {ops : Array Oper} {rest : List Oper} {o : Oper} {a : Act} {Q : Exit → Act → World → Prop} (hg : o.guard = none) (t : TypeId) (parts : List (Nat × Operand)) (ho : o.op = .build t parts.toArray)
    (cs : List Value) (hb : Tryd.prog.built t (parts.map fun p => (p.1, a.eval p.2)) = some cs.toArray)
    (h : ∀ v, Hid (v = Value.agg cs.toArray) → wpList Tryd.prog ops Q rest (a.put o.dst v) w) : wpList Tryd.prog ops Q (o :: rest) a w := by
  have e : (parts.toArray.map fun (i, x) => (i, a.eval x)).toList = parts.map fun p => (p.1, a.eval p.2) := by simp
  refine wpList_build hg t parts.toArray ho (by rw [e, hb]; rfl) ?_
  rw [e, hb]
  exact h _ rfl

theorem len48 (r : Regs) (h T : Nat) : (sumCells r zeros64 h T).length = 74 := sumCells_length _ _ _ _ rfl
set_option maxRecDepth 100000 in
set_option maxHeartbeats 400000 in
theorem newSum_any (w : World) : Calls Tryd.prog 75 #[] w fun e w' => ∃ v, e = .returned v ∧ Hid (v = .agg (sumCells H0 zeros64 0 0).toArray ∧ Below w.heap.size w w') := by
  obtain ⟨L, HL⟩ : ∃ L, Shut (L = sumCells H0 zeros64 0 0) := ⟨_, ⟨rfl⟩⟩
  have HB : Shut (Tryd.prog.built 99 [(0, .agg #[.int .u32 1779033703, .int .u32 3144134277, .int .u32 1013904242, .int .u32 2773480762, .int .u32 1359893119, .int .u32 2600822924, .int .u32 528734635, .int .u32 1541459225])] = some L.toArray) := ⟨by rw [HL.out]; exact built48⟩
  have HZ : Shut (L.length = 74 ∧ ∀ v ∈ L, v.oneCell' = true) := ⟨by rw [HL.out]; exact ⟨len48 _ _ _, sum_one _ _ _ _⟩⟩
  go_enter Tryd.func75, Tryd.ntmps75
  go_wp2_with (first
    | (refine wl_alloc rfl 99 rfl _ _ info48 ?_
       intro w1 HA HB1 HZ1)
    | (refine wl_build rfl 99 [(0, .tmp 1)] rfl L HB.out ?_
       intro v HV)
    | (refine wl_store rfl 99 (.tmp 0) (.tmp 2) rfl w.heap.size _ L rfl HV.out rfl 99 _ HA.out (by rw [HZ.out.1]; exact info_size info48) (by rw [HZ.out.1]; rfl) HZ.out.2 ?_
       intro w2 HR2 HS2 HZ2))
  refine bodyPost_ret (v := .agg L.toArray) (results_cell_row Tryd.results75 _ w2 w.heap.size 99 _ (0, 0) _ rfl HR2.out Tryd.underlying99 rfl (by simpa [HZ.out.1] using info_size info48)) rfl ?_
  refine ⟨_, rfl, Lib.hid ⟨by rw [HL.out], HB1.out.trans (HS2.out.below (Nat.le_refl _) (by rw [HZ1.out]; omega))⟩⟩
end Go.Proofs.YtchnbknbccpmcaaDoor.H
namespace Go.Proofs.YtchnbknbccpmcaaDoor.H
open Go.RowKit

/-- A part: where it lies, its room, its bytes. -/
structure Part where
  a : Option Addr
  c : Nat
  bs : List UInt8
def Part.v (p : Part) : Value := .slice p.a p.bs.length p.c
def Part.ok (w : World) (B : Nat) (p : Part) : Prop := p.bs.length ≤ p.c ∧ p.c ≤ 9223372036854775807 ∧ Rd w B p.a (p.bs.map bv)
/-- The slice of slices with base A holds the parts ps, all below B. -/
structure Parts (w : World) (B : Nat) (A : Option Addr) (ps : List Part) : Prop where
  rd : Rd w B A (ps.map Part.v)
  ok : ∀ p ∈ ps, p.ok w B
def flat (ps : List Part) : List UInt8 := ps.flatMap Part.bs
theorem Parts.below {w w' : World} {B : Nat} {A : Option Addr} {ps : List Part} (h : Parts w B A ps) (hb : Below B w w') : Parts w' B A ps :=
  ⟨h.rd.below hb, fun p hp => ⟨(h.ok p hp).1, (h.ok p hp).2.1, (h.ok p hp).2.2.below hb⟩⟩
theorem Parts.more {w : World} {B B' : Nat} {A : Option Addr} {ps : List Part} (h : Parts w B A ps) (hB : B ≤ B') : Parts w B' A ps :=
  ⟨h.rd.more hB, fun p hp => ⟨(h.ok p hp).1, (h.ok p hp).2.1, (h.ok p hp).2.2.more hB⟩⟩
theorem flat_take (ps : List Part) (k : Nat) (h : k < ps.length) : flat (ps.take (k + 1)) = flat (ps.take k) ++ (ps[k]).bs := by
  unfold flat
  rw [List.take_succ_eq_append_getElem h, List.flatMap_append]
  simp
theorem flat_le (ps : List Part) (k : Nat) (h : k < ps.length) : (flat (ps.take k)).length + (ps[k]).bs.length ≤ (flat ps).length := by
  have e : flat ps = flat (ps.take (k + 1)) ++ flat (ps.drop (k + 1)) := by
    unfold flat
    rw [← List.flatMap_append, List.take_append_drop]
  rw [e, flat_take ps k h]
  simp

set_option maxRecDepth 100000 in
set_option maxHeartbeats 400000 in
theorem addAll_any (g B : Nat) (S : List UInt8) (T n c : Nat) (A : Option Addr) (ps : List Part) (w : World) (hK : Ktab w) (hg0 : 18 < g) (hB : B ≤ g) (hBw : B ≤ w.heap.size) (hn : ps.length = n) (hmax : n ≤ 9223372036854775807) (hT : T + (flat ps).length < 18446744073709551616) (hr : Parts w B A ps) (hs : SumT w g S T) :
    Calls Tryd.prog 63 #[.pointer (some ⟨g, 0, none⟩), .slice A n c] w fun e w' => e = .returned (.tuple #[]) ∧ Hid (SumT w' g (S ++ flat ps) (T + (flat ps).length) ∧ Sole g w w') := by
  have hm' : n ≤ 9223372036854775807 := hmax
  have HK := Lib.hid hK
  have HN := Lib.hid hn
  have HR := Lib.hid hr
  have HS : Shut (SumT w g S T) := ⟨hs⟩
  have HT := Lib.hid hT
  clear hK hn hr hs hmax hT
  go_enter Tryd.func63, Tryd.ntmps63
  go_wp2_with fail
  go_loopw [8] (fun i W => ∃ k : Nat, k ≤ n ∧ i = .int .i64 k ∧ Shut (SumT W g (S ++ flat (ps.take k)) (T + (flat (ps.take k)).length) ∧ Sole g w W)) (fun i _ => n - (intOf i).toNat)
  case atStart => exact ⟨0, Nat.zero_le _, rfl, ⟨by simpa [flat] using HS.out, Sole.refl _ _⟩⟩
  case round =>
    obtain ⟨k, hk, rfl, HI⟩ := hrel
    by_cases hlt : k < n
    · have hlt' : k < ps.length := by rw [HN.out]; exact hlt
      have HBW := Lib.hid (HI.out.2.below hB hBw)
      obtain ⟨ad, rfl, _, hc⟩ := (HR.out.below HBW.out).rd.cell (k := k) (u := (ps[k]).v) (by simp [hlt'])
      have hok := (HR.out.below HBW.out).ok ps[k] (List.getElem_mem hlt')
      have hfl := flat_le ps k hlt'
      have hft := flat_take ps k hlt'
      generalize ps[k] = p at *
      obtain ⟨pa, pc, pb⟩ := p
      unfold Part.v at hc
      obtain ⟨h1, h2, h3⟩ := hok
      dsimp only at *
      obtain ⟨m, HM⟩ : ∃ m, Hid (pb.length = m) := ⟨_, rfl⟩
      rw [HM.out] at hc h1 hfl
      have HFL := Lib.hid hfl
      have HFT := Lib.hid hft
      have HP := Lib.hid h3
      clear hfl hft h3
      go_wp2_with fail
      have hsz : B ≤ wr.heap.size := Nat.le_trans hBw HBW.out.size
      with_reducible refine (add_any g (S ++ flat (ps.take k)) (T + (flat (ps.take k)).length) m pc pa pb wr (HK.out.sole hg0 HI.out.2) hg0 HM.out h1 h2 (by have := HFL.out; have := HT.out; omega) ⟨HP.out.more hsz, fun hne ad2 had => ?_⟩ HI.out.1).mono ?_
      · rcases HP.out with h0 | ⟨ad3, h4, h5, _⟩
        · exact absurd (by simpa using h0) hne
        · rw [had] at h4; injection h4 with h4; rw [h4]; omega
      rintro e w2 ⟨rfl, HA⟩
      go_wp2_with fail
      refine ⟨⟨k + 1, by omega, by go_num, ⟨?_, HI.out.2.trans HA.out.2⟩⟩, by simp [intOf]; omega⟩
      have h5 := HA.out.1
      rw [HFT.out, ← List.append_assoc]
      rw [List.length_append, HM.out, ← Nat.add_assoc]
      exact h5
    · go_wp2_with fail
      go_end0
      have h1 := HI.out
      rw [List.take_of_length_le (by rw [HN.out]; omega)] at h1
      exact ⟨rfl, Lib.hid h1⟩
end Go.Proofs.YtchnbknbccpmcaaDoor.H
namespace Go.Proofs.YtchnbknbccpmcaaDoor.H
open Go.RowKit

theorem SumT.below {w w' : World} {g : Nat} {S : List UInt8} {T : Nat} (h : SumT w g S T) {B : Nat} (hb : Below B w w') (hg : g < B) : SumT w' g S T := by
  obtain ⟨blk, h1, h2, h3⟩ := h
  exact ⟨blk, h1, h2, h3.below hb hg⟩
theorem SumT.lt {w : World} {g : Nat} {S : List UInt8} {T : Nat} (h : SumT w g S T) : g < w.heap.size := by
  obtain ⟨blk, _, _, h3⟩ := h
  exact h3.lt
/-- On the way to the digest: the sum, what was left alone, the result's variable. -/
structure Fin (w W : World) (g g0 : Nat) (S : List UInt8) (T : Nat) : Prop where
  sum : SumT W g S T
  sole : Sole g w W
  res : Row W g0 85 (List.replicate 32 (.int .u8 0))
theorem Fin.below {w W W' : World} {g g0 : Nat} {S : List UInt8} {T : Nat} (h : Fin w W g g0 S T) (hb : Below W.heap.size W W') : Fin w W' g g0 S T :=
  ⟨h.sum.below hb h.sum.lt, h.sole.trans (Sole.of_below hb), h.res.below hb h.res.lt⟩
theorem Fin.next {w W W' : World} {g g0 : Nat} {S S' : List UInt8} {T T' : Nat} (h : Fin w W g g0 S T) (hne : g0 ≠ g) (hs : SumT W' g S' T') (hw : Sole g W W') : Fin w W' g g0 S' T' :=
  ⟨hs, h.sole.trans hw, hw.row h.res hne⟩
theorem Src.new (w : World) (cs : Array Value) (bs : List UInt8) (g : Nat) (hg : g < w.heap.size) (h : cs.toList = bs.map bv) : Src (w.alloc (.cells cs 5)) g (some ⟨w.heap.size, 0, none⟩) bs :=
  ⟨.inr ⟨_, rfl, by simp, by rw [← h]; exact cells_new w cs 5⟩, fun _ ad had => by injection had with had; rw [← had]; show w.heap.size ≠ g; omega⟩
theorem Src.own {w : World} {base n c : Nat} {A : Option Addr} {bs : List UInt8} {g : Nat} (h : w.ownsRow base 5 1 (.slice A n c) n (bs.map bv)) (hg : g < base) : Src w g A bs ∧ bs.length = n ∧ n ≤ c ∧ c ≤ 9223372036854775807 := by
  obtain ⟨A', c', e, h1, h2, h3, h4, h5⟩ := own_slice h
  injection e with e1 e2 e3
  subst e1 e3
  refine ⟨⟨h4, fun hne ad had => ?_⟩, h1, h2, h3⟩
  obtain ⟨g', h6, h7⟩ := h5 hne
  rw [had] at h6
  injection h6 with h6
  rw [h6]
  show g' ≠ g
  omega
theorem below_none {w w' : World} (h : w.grownBy w' none) : Below w.heap.size w w' := (Below.refl _ _).grown h (Nat.le_refl _) (fun k hk => by cases hk)
theorem made_zeros (n : Nat) : (madeCells (Value.int .u8 0).cells (n * 1)).toList = (List.replicate n (0 : UInt8)).map bv := by
  apply List.ext_getElem?
  intro j
  by_cases hj : j < n
  · simp [madeCells, Value.cells, bv, hj, Nat.mod_one]
  · simp [madeCells, Value.cells, bv, hj]
theorem appendWord_lit (base : Nat) (v0 : Value) (xs : List Value) (x : Wd) (z : Int) (w : World) (hz : z = U x) (hown : w.ownsRow base 5 1 v0 xs.length xs) (hbase : base ≤ w.heap.size) (hlen : xs.length + 4 ≤ 140737488355328) :
    Calls Tryd.prog 76 #[v0, .int .u32 z] w fun e w' => ∃ v, e = .returned v ∧ Hid (Acc w w' base v0 v (xs ++ (wordBytes x).map bv)) := by
  subst hz
  exact appendWord_any base v0 xs x w hown hbase hlen
theorem U_ofNat (n : Nat) : (n : Int) % 4294967296 = U (BitVec.ofNat 32 n) := by
  unfold U
  rw [BitVec.toNat_ofNat]
  omega

theorem U_small (n : Nat) (h : n < 4294967296) : (n : Int) = U (BitVec.ofNat 32 n) := by rw [← U_ofNat]; omega
theorem wl_mid {w : World} {ops : Array Oper} {rest : List Oper} {o : Oper} {a : Act} {Q : Exit → Act → World → Prop} (hgd : o.guard = none) (ty : TypeId) (x : Operand) (ho : o.op = .load ty x)
    (b off : Nat) (hx : a.eval x = .pointer (some ⟨b, off, none⟩)) (cs : List Value) (d : TypeDesc) (hc : w.rangeAt b off cs) (hu : Tryd.prog.underlying ty = some d) (hd : d.isRow = true) (hi : (Tryd.prog.info? ty).map (·.size) = some cs.length)
    (h : ∀ v, Hid (v = Value.agg cs.toArray) → wpList Tryd.prog ops Q rest (a.put o.dst v) w) : wpList Tryd.prog ops Q (o :: rest) a w :=
  wpList_load_mid hgd ty x ho b off hx cs d hc hu hd hi (h _ rfl)
theorem info44 : (Tryd.prog.info? 97).map (fun i => (i.zero, i.size)) = some (some (.agg (List.replicate 8 (Value.int .u32 0)).toArray), 8) := by kernel_rfl
theorem Row.range {w : World} {g : Nat} {t : TypeId} {cs ds es : List Value} {o : Nat} (h : Row w g t cs) (hc : cs.drop o = ds ++ es) : w.rangeAt g o ds := by
  intro j v hv
  rw [h.cell]
  have h1 : (cs.drop o)[j]? = some v := by rw [hc, List.getElem?_append_left (List.getElem?_eq_some_iff.1 hv).1]; exact hv
  rwa [List.getElem?_drop] at h1
theorem run_arrayAt (w : World) (t : TypeId) (n : Nat) (hu : Tryd.prog.underlying t = some (.array n 5)) (A : Option Addr) (m c : Nat) (h : n ≤ m) : (Instr.arrayAt t (.slice A m c)).run Tryd.prog w = .ok (.pointer A) w := by
  have h1 : ¬ m < n := by omega
  simp [Instr.arrayAt, run_underlying hu, h1]
theorem flat_words (l : List Wd) (k : Nat) (h : k < l.length) : (l.take (k + 1)).flatMap wordBytes = (l.take k).flatMap wordBytes ++ wordBytes (l.getD k 0) := by
  rw [List.take_succ_eq_append_getElem h, List.flatMap_append]
  simp [h]
theorem flat_words_length (l : List Wd) (k : Nat) (h : k ≤ l.length) : ((l.take k).flatMap wordBytes).length = 4 * k := by
  induction k with
  | zero => rfl
  | succ k ih => rw [flat_words l k h, List.length_append, ih (by omega), wordBytes_length]; omega
theorem Row.grown {w w' : World} {g : Nat} {t : TypeId} {cs : List Value} (h : Row w g t cs) {r : Option Nat} (hg : w.grownBy w' r) (hr : r ≠ some g) : Row w' g t cs := (hg.block g h.lt (fun e => hr e.symm)).trans h

theorem Acc.trans {w0 w w' : World} {base : Nat} {v0 v v' : Value} {xs ys : List Value} (h : Acc w0 w base v0 v xs) (k : Acc w w' base v v' ys) : Acc w0 w' base v0 v' ys := by
  refine ⟨k.own, h.grown.andThen k.grown (fun j hj => ?_), ?_⟩
  · rcases h.lies with e | ⟨g, e, hge⟩
    · right; rw [← e]; exact hj
    · left; rw [e] at hj; injection hj with hj; omega
  · rcases k.lies with e | ⟨g, e, hge⟩
    · rcases h.lies with e2 | ⟨g2, e2, hge2⟩
      · exact .inl (e.trans e2)
      · exact .inr ⟨g2, e.trans e2, hge2⟩
    · exact .inr ⟨g, e, Nat.le_trans h.grown.size hge⟩

set_option maxRecDepth 100000 in
set_option maxHeartbeats 1000000 in
theorem finish_any (g : Nat) (S : List UInt8) (w : World) (hK : Ktab w) (hg0 : 18 < g) (hS : S.length < 1152921504606846976) (hs : SumT w g S S.length) :
    Calls Tryd.prog 64 #[.pointer (some ⟨g, 0, none⟩)] w fun e w' => ∃ v, e = .returned v ∧ Hid (v = .agg ((digest S).map bv).toArray ∧ Sole g w w') := by
  obtain ⟨i0, hi0, hz0, hz1, hz2⟩ := info_parts' u8_info
  have HI := Lib.hid (And.intro hi0 (And.intro hz0 (And.intro hz1 hz2)))
  clear hi0 hz0 hz1 hz2
  have hg := hs.lt
  have HK := Lib.hid hK
  have HS : Shut (SumT w g S S.length) := ⟨hs⟩
  obtain ⟨T, HT⟩ : ∃ T, Shut (T = S.length) := ⟨_, ⟨rfl⟩⟩
  rw [← HT.out] at hS
  have hT8 : 8 * T < 18446744073709551616 := by omega
  clear hK hs
  go_enter Tryd.func64, Tryd.ntmps64
  go_wp2_with (first
    | (refine wl_alloc (o := ⟨some 2, _, _, _, _, _⟩) rfl 85 rfl _ _ info27 ?_
       intro w1 HA HB HZ
       have cT : w1.cell? ⟨g, 73, none⟩ = some (.int .u64 (T : Int)) := by
         obtain ⟨blk, h1, h2, h3⟩ := HS.out.below HB.out hg
         rw [h3.cell, sumCells_total_at _ _ _ _ h1, HT.out]))
  have hne : w.heap.size ≠ g := by omega
  have HF1 : Shut (Fin w w1 g w.heap.size S T) := ⟨⟨by rw [HT.out]; exact HS.out.below HB.out hg, Sole.of_below HB.out, HA.out⟩⟩
  have HB2 : Hid (Below w1.heap.size w1 (w1.alloc (.cells #[.int .u8 128] 5))) := Lib.hid ((Below.refl _ _).alloc (Nat.le_refl _) _)
  have HF2 : Shut (Fin w (w1.alloc (.cells #[.int .u8 128] 5)) g w.heap.size S T) := ⟨HF1.out.below HB2.out⟩
  have hgw1 : g < w1.heap.size := HF1.out.sum.lt
  clear cT HA HB HZ
  with_reducible refine (add_any g S T 1 1 _ [0x80] _ (HK.out.sole hg0 HF2.out.sole) hg0 rfl (by decide) (by decide) (by omega) (Src.new w1 _ [0x80] g hgw1 rfl) HF2.out.sum).mono ?_
  rintro e w2 ⟨rfl, HA2⟩
  have HF3 : Shut (Fin w w2 g w.heap.size (S ++ [0x80]) (T + 1)) := ⟨HF2.out.next hne HA2.out.1 HA2.out.2⟩
  clear HA2 HB2 HF1 HF2
  obtain ⟨h, HH⟩ : ∃ h, Shut (h = (S ++ [0x80]).length % 64) := ⟨_, ⟨rfl⟩⟩
  have hh : h < 64 := by rw [HH.out]; omega
  have ch : w2.cell? ⟨g, 72, none⟩ = some (.int .i64 (h : Int)) := by
    obtain ⟨blk, h1, h2, h3⟩ := HF3.out.sum
    rw [h3.cell, sumCells_held_at _ _ _ _ h1, HH.out]
  obtain ⟨z, hz⟩ : ∃ z, z = (120 - h) % 64 := ⟨_, rfl⟩
  have hz1 : ((120 : Int) - (h : Int)) % 64 = (z : Int) := by omega
  have hz2 : z < 64 := by omega
  have HZ := Lib.hid hz
  clear hz
  have hs2 : g < w2.heap.size := HF3.out.sum.lt
  go_wp2_with (first
    | (refine wpList_make_full (o := ⟨some 23, _, _, _, _, _⟩) _ rfl _ _ 22 rfl w2.heap.size 5 i0 _ 1 Tryd.underlying22 HI.out.1 HI.out.2.1 HI.out.2.2.1 .i64 .i64 _ _ z rfl rfl hz1 hz1 (by rw [HI.out.2.2.2]; omega) (by simp only [maxLen]; omega) (Nat.le_refl _) ?_
       intro w3 hown3 hg3
       rw [made_zeros] at hown3
       have HO3 := Lib.hid hown3
       have HF4 : Shut (Fin w w3 g w.heap.size (S ++ [0x80]) (T + 1)) := ⟨HF3.out.below (below_none hg3)⟩
       clear hown3 hg3))
  have HSR := Lib.hid (Src.own HO3.out hs2)
  with_reducible refine (add_any g (S ++ [0x80]) (T + 1) z z _ (List.replicate z 0) _ (HK.out.sole hg0 HF4.out.sole) hg0 (by simp) (Nat.le_refl _) (by omega) (by omega) HSR.out.1 HF4.out.sum).mono ?_
  rintro e w4 ⟨rfl, HA4⟩
  have HF5 : Shut (Fin w w4 g w.heap.size (S ++ [0x80] ++ List.replicate z 0) (T + 1 + z)) := ⟨HF4.out.next hne HA4.out.1 HA4.out.2⟩
  clear HA4 HF3 HF4 HO3 HSR ch hs2
  have hs4 : g < w4.heap.size := HF5.out.sum.lt
  go_wp2_with (first
    | (refine wpList_make_own (o := ⟨some 25, _, _, _, _, _⟩) _ rfl _ _ 22 rfl w4.heap.size 5 i0 _ 1 Tryd.underlying22 HI.out.1 HI.out.2.1 HI.out.2.2.1 .i64 .i64 _ 8 rfl rfl rfl (by rw [HI.out.2.2.2]; omega) (by simp only [maxLen]; omega) (Nat.le_refl _) ?_
       intro w5 hown5 hg5
       have HO5 := Lib.hid hown5
       have HB5 := Lib.hid (below_none hg5)
       clear hown5 hg5))
  have HO5' : Hid (w5.ownsRow w4.heap.size 5 1 (.slice (some ⟨w4.heap.size, 0, none⟩) 0 8) ([] : List Value).length []) := HO5
  have hl6 : ([] ++ (wordBytes (BitVec.ofNat 32 (8 * T / 4294967296))).map bv : List Value).length + 4 ≤ 140737488355328 := by simp [wordBytes_length]
  with_reducible refine (appendWord_lit w4.heap.size (.slice (some ⟨w4.heap.size, 0, none⟩) 0 8) [] (BitVec.ofNat 32 (8 * T / 4294967296)) _ w5 (by rw [← U_small _ (by omega)]; omega) HO5'.out HB5.out.size (by decide)).mono ?_
  rintro e w6 ⟨v6, rfl, HA6⟩
  go_wp2_with fail
  have hb6 : w4.heap.size ≤ w6.heap.size := Nat.le_trans HB5.out.size HA6.out.grown.size
  with_reducible refine (appendWord_lit w4.heap.size v6 _ (BitVec.ofNat 32 (8 * T)) _ w6 (by rw [← U_ofNat]; omega) HA6.out.own hb6 hl6).mono ?_
  rintro e w7 ⟨v7, rfl, HA7⟩
  have hown7 := HA7.out.own
  rw [List.nil_append, ← List.map_append, List.length_map] at hown7
  have hown7' : w7.ownsRow w4.heap.size 5 1 v7 8 ((be8 (8 * T)).map bv) := hown7
  obtain ⟨A7, c7, rfl, _⟩ := own_slice hown7'
  have HSR7 := Lib.hid (Src.own hown7' hs4)
  have hb46 : Below w4.heap.size w4 w6 := HB5.out.trans (HA6.out.below HB5.out.size (fun k hk => by have e : w4.heap.size = k := Option.some.inj hk; omega))
  have hb67 : Below w4.heap.size w6 w7 := HA7.out.below hb6 (fun k hk => (HA6.out.own.lt k hk).1)
  have HF7 : Shut (Fin w w7 g w.heap.size (S ++ [0x80] ++ List.replicate z 0) (T + 1 + z)) := ⟨HF5.out.below (hb46.trans hb67)⟩
  clear hown7 hown7' hb46 hb67 hb6 HA6 HA7 HO5 HO5' hl6 HB5 HF5
  go_wp2_with fail
  with_reducible refine (add_any g _ (T + 1 + z) 8 c7 _ (be8 (8 * T)) _ (HK.out.sole hg0 HF7.out.sole) hg0 rfl HSR7.out.2.2.1 HSR7.out.2.2.2 (by omega) HSR7.out.1 HF7.out.sum).mono ?_
  rintro e w8 ⟨rfl, HA8⟩
  have HF8 : Shut (Fin w w8 g w.heap.size (padded S) (T + 1 + z + 8)) := ⟨by
    have h1 := HF7.out.next hne HA8.out.1 HA8.out.2
    have h2 : S ++ [0x80] ++ List.replicate z 0 ++ be8 (8 * T) = padded S := by
      unfold padded
      have h3 := HH.out
      rw [List.length_append] at h3
      have h4 : zerosN S.length = z := by rw [HZ.out, h3]; rfl
      rw [h4, HT.out]
    rwa [h2] at h1⟩
  clear HA8 HF7 HSR7
  obtain ⟨R, HR⟩ : ∃ R, Shut (R = regsOf (padded S)) := ⟨_, ⟨rfl⟩⟩
  have HRG : Shut (w8.rangeAt g 0 (R.list.map uv)) := ⟨by
    obtain ⟨blk, h1, h2, h3⟩ := HF8.out.sum
    rw [HR.out]
    refine h3.range (es := blk.map bv ++ [.int .i64 (((padded S).length % 64 : Nat) : Int), .int .u64 ((T + 1 + z + 8 : Nat) : Int)]) ?_
    unfold sumCells
    rw [List.drop_zero, List.append_assoc]⟩
  have hlw : (R.list.map uv).length = 8 := rfl
  have HLW := Lib.hid hlw
  clear hlw
  go_wp2_with (first
    | (refine wpList_make_own (o := ⟨some 38, _, _, _, _, _⟩) _ rfl _ _ 22 rfl w8.heap.size 5 i0 _ 1 Tryd.underlying22 HI.out.1 HI.out.2.1 HI.out.2.2.1 .i64 .i64 _ 32 rfl rfl rfl (by rw [HI.out.2.2.2]; omega) (by simp only [maxLen]; omega) (Nat.le_refl _) ?_
       intro w9 hown9 hg9
       have HO9 := Lib.hid hown9
       have HB9 := Lib.hid (below_none hg9)
       have HF9 : Shut (Fin w w9 g w.heap.size (padded S) (T + 1 + z + 8)) := ⟨HF8.out.below HB9.out⟩
       have HRG9 : Shut (w9.rangeAt g 0 (R.list.map uv)) := ⟨fun j v hv => (HB9.out.cell (p := ⟨g, 0 + j, none⟩) HF8.out.sum.lt).trans (HRG.out j v hv)⟩
       clear hown9 hg9)
    | (refine wl_mid rfl 97 (.tmp 41) rfl g 0 rfl (R.list.map uv) _ HRG9.out under44 rfl (by rw [HLW.out]; exact info_size info44) ?_
       intro vw HVW))
  go_loopw [5, 43] (fun v i W => ∃ k : Nat, k ≤ 8 ∧ i = .int .i64 k ∧ Shut (Acc w9 W w8.heap.size (.slice (some ⟨w8.heap.size, 0, none⟩) 0 32) v (((R.list.take k).flatMap wordBytes).map bv))) (fun _ i _ => 8 - (intOf i).toNat)
  case atStart => exact ⟨0, Nat.zero_le _, rfl, ⟨⟨HO9.out, World.grownBy.refl _ _, .inl rfl⟩⟩⟩
  case round =>
    obtain ⟨k, hk, rfl, HC⟩ := hrel
    by_cases hlt : k < 8
    · obtain ⟨x, HX⟩ : ∃ x, Shut (x = R.list.getD k 0) := ⟨_, ⟨rfl⟩⟩
      have hix : (Instr.index 97 vw (.int .i64 (k : Int))).run Tryd.prog wr = .ok (.int .u32 (U x)) wr := by
        rw [HVW.out]
        refine run_word wr _ k _ hlt ?_
        rw [HX.out, List.getElem?_map]
        have : k < R.list.length := hlt
        simp [this, uv]
      go_wp2_with fail
      with_reducible refine (appendWord_any w8.heap.size u5 _ x wr HC.out.own (Nat.le_trans HB9.out.size HC.out.grown.size) (by rw [List.length_map, flat_words_length _ _ hk]; omega)).mono ?_
      rintro e w' ⟨v', rfl, HA'⟩
      clear hix
      go_wp2_with fail
      refine ⟨⟨k + 1, by omega, by go_num, ⟨?_⟩⟩, by simp [intOf]; omega⟩
      have h1 : k < R.list.length := hlt
      rw [flat_words R.list k h1, List.map_append, ← HX.out]
      exact HC.out.trans HA'.out
    · have hk8 : k = 8 := by omega
      have hown := HC.out.own
      have hfw : (R.list.take k).flatMap wordBytes = digest S := by
        rw [hk8, List.take_of_length_le (by rw [list_length]; decide)]
        unfold digest bytesOf
        rw [HR.out]
      rw [hfw] at hown
      have hown' : wr.ownsRow w8.heap.size 5 1 u5 32 ((digest S).map bv) := by rwa [List.length_map, digest_length] at hown
      obtain ⟨A9, c9, rfl, hl9, hc9, hm9, hr9, hat9⟩ := own_slice hown'
      obtain ⟨g9, rfl, hg9⟩ := hat9 (fun e => by rw [e] at hl9; simp at hl9)
      have HRD : Shut (wr.rangeAt g9 0 ((digest S).map bv)) := ⟨fun j v hv => by
        obtain ⟨ad, h1, _, h2⟩ := hr9.cell hv
        injection h1 with h1
        rw [← h1, Addr.add_mid] at h2
        exact h2⟩
      have HLD : Shut (((digest S).map bv).length = 32) := ⟨by rw [List.length_map, digest_length]⟩
      have HON : Shut (∀ v ∈ (digest S).map bv, v.oneCell' = true) := ⟨by intro v hv; obtain ⟨x, _, rfl⟩ := List.mem_map.1 hv; rfl⟩
      obtain ⟨D, HD⟩ : ∃ D, Shut (D = (digest S).map bv) := ⟨_, ⟨rfl⟩⟩
      rw [← HD.out] at HRD HLD HON
      have HRES : Shut (Row wr w.heap.size 85 (List.replicate 32 (.int .u8 0))) := ⟨HF9.out.res.grown HC.out.grown (fun e => by
        have e1 : w8.heap.size = w.heap.size := Option.some.inj e
        have e2 : w.heap.size < w8.heap.size := HF8.out.res.lt
        omega)⟩
      have HSO : Shut (Sole g w wr) := ⟨by
        have h1 : Below w8.heap.size w9 wr := HC.out.below HB9.out.size (fun j hj => by have e : w8.heap.size = j := Option.some.inj hj; omega)
        exact HF8.out.sole.trans (Sole.of_below (HB9.out.trans h1))⟩
      have HLDI : Shut ((Tryd.prog.info? 85).map (·.size) = some D.length) := ⟨by rw [HLD.out]; exact info_size info27⟩
      have HLDR : Shut ((List.replicate 32 (Value.int .u8 0)).length = D.length) := ⟨by rw [HLD.out]; exact List.length_replicate⟩
      have har := run_arrayAt wr 85 32 under27 (some ⟨g9, 0, none⟩) 32 c9 (Nat.le_refl _)
      clear hown hown' hfw hl9 hr9 hat9 HC HF9 HF8 HRG9 HRG HO9 HB9
      go_wp2_with (first
        | (refine wl_mid rfl 85 (.tmp 51) rfl g9 0 rfl D _ HRD.out under27 rfl HLDI.out ?_
           intro vd HVD)
        | (refine wl_store rfl 85 (.tmp 2) (.tmp 52) rfl w.heap.size _ D rfl HVD.out rfl 85 _ HRES.out HLDI.out HLDR.out HON.out ?_
           intro w10 HR10 HS10 HZ10))
      refine bodyPost_ret (v := .agg D.toArray) (results_cell_row Tryd.results64 _ w10 w.heap.size 85 _ (0, 0) _ rfl HR10.out under27 rfl (by simpa [HLD.out] using info_size info27)) rfl ?_

      refine ⟨.agg D.toArray, rfl, ?_⟩
      have hD : Value.agg D.toArray = .agg ((digest S).map bv).toArray := by rw [HD.out]
      refine Lib.hid (And.intro hD ?_)
      exact ⟨HS10.out.os.trans HSO.out.os, HS10.out.tape.trans HSO.out.tape, HS10.out.output.trans HSO.out.output, Nat.le_trans HSO.out.size HS10.out.size, fun j hj hjg => (HS10.out.block j (Nat.lt_of_lt_of_le hj HSO.out.size) (by omega)).trans (HSO.out.block j hj hjg)⟩
end Go.Proofs.YtchnbknbccpmcaaDoor.H
namespace Go.Proofs.YtchnbknbccpmcaaDoor.H
open Go.RowKit

theorem sumT_nil {w : World} {g : Nat} (h : Row w g 99 (sumCells H0 zeros64 0 0)) : SumT w g [] 0 := ⟨zeros64, rfl, rfl, h⟩
theorem digest_len (S : List UInt8) : ((digest S).map bv).length = 32 := by rw [List.length_map, digest_length]
theorem bytes_one (l : List UInt8) : ∀ v ∈ l.map bv, v.oneCell' = true := by intro v hv; obtain ⟨x, _, rfl⟩ := List.mem_map.1 hv; rfl

set_option maxRecDepth 100000 in
set_option maxHeartbeats 1000000 in
theorem digest_any (n c : Nat) (A : Option Addr) (ps : List Part) (w : World) (hK : Ktab w) (hn : ps.length = n) (hmax : n ≤ 9223372036854775807) (hT : (flat ps).length < 1152921504606846976) (hr : Parts w w.heap.size A ps) :
    Calls Tryd.prog 74 #[.slice A n c] w fun e w' => ∃ v, e = .returned v ∧ Hid (v = .agg ((digest (flat ps)).map bv).toArray ∧ Below w.heap.size w w') := by
  have h0 := hK.1
  have HK := Lib.hid hK
  have HN := Lib.hid hn
  have HR := Lib.hid hr
  have HT := Lib.hid hT
  clear hK hn hr hT
  go_enter Tryd.func74, Tryd.ntmps74
  go_wp2_with (first
    | (refine wl_alloc rfl 85 rfl _ _ info27 ?_
       intro w1 HA HB HZ))
  with_reducible refine (newSum_any w1).mono ?_
  rintro e w2 ⟨v, rfl, HV⟩
  obtain ⟨L, HL⟩ : ∃ L, Shut (L = sumCells H0 zeros64 0 0) := ⟨_, ⟨rfl⟩⟩
  have HZL : Shut (L.length = 74 ∧ (∀ v ∈ L, v.oneCell' = true) ∧ (Tryd.prog.info? 99).map (·.size) = some L.length) := ⟨by
    have h1 := len48 H0 0 0
    rw [HL.out]
    exact ⟨h1, sum_one _ _ _ _, by rw [h1]; exact info_size info48⟩⟩
  have HV1 : Hid (v = .agg L.toArray) := Lib.hid (by rw [HL.out]; exact HV.out.1)
  have HB2 := Lib.hid (HB.out.trans (HV.out.2.mono (by rw [HZ.out]; omega)))
  have HG0 := Lib.hid (HA.out.below HV.out.2 (by rw [HZ.out]; omega))
  clear HA HB HZ HV
  go_wp2_with (first
    | (refine wl_alloc rfl 99 rfl _ _ info48 ?_
       intro w3 HA3 HB3 HZ3)
    | (refine wl_store rfl 99 (.tmp 3) (.tmp 4) rfl w2.heap.size _ L rfl HV1.out rfl 99 _ HA3.out HZL.out.2.2 (by rw [HZL.out.1]; rfl) HZL.out.2.1 ?_
       intro w4 HR4 HS4 HZ4))
  have hs2 : w.heap.size ≤ w2.heap.size := HB2.out.size
  have hg0 : w.heap.size < w2.heap.size := HG0.out.lt
  generalize hg : w2.heap.size = g at *
  have HBW : Hid (Below w.heap.size w w4) := Lib.hid ((HB2.out.trans (HB3.out.mono hs2)).trans (HS4.out.below hs2 (by rw [HZ3.out]; omega)))
  have HG4 := Lib.hid (HS4.out.row (HG0.out.below HB3.out (by omega)) (by omega))
  have HSM : Shut (SumT w4 g [] 0) := ⟨sumT_nil (by rw [← HL.out]; exact HR4.out)⟩
  clear HA3 HB3 HZ3 HR4 HS4 HZ4 HB2 HG0 hg
  go_wp2_with fail
  with_reducible refine (addAll_any g w.heap.size [] 0 n c A ps w4 (HK.out.below h0 HBW.out) (by omega) (by omega) HBW.out.size HN.out hmax (by have := HT.out; omega) (HR.out.below HBW.out) HSM.out).mono ?_
  rintro e w5 ⟨rfl, HA5⟩
  have HS5 : Shut (SumT w5 g (flat ps) (flat ps).length) := ⟨by have h1 := HA5.out.1; rwa [List.nil_append, Nat.zero_add] at h1⟩
  have HG5 := Lib.hid (HA5.out.2.row HG4.out (by omega))
  have HB5 := Lib.hid (HBW.out.trans (HA5.out.2.below (by omega) HBW.out.size))
  clear HA5 HG4 HBW HSM
  go_wp2_with fail
  with_reducible refine (finish_any g (flat ps) w5 (HK.out.below h0 HB5.out) (by omega) HT.out HS5.out).mono ?_
  rintro e w6 ⟨vd, rfl, HA6⟩
  have HG6 := Lib.hid (HA6.out.2.row HG5.out (by omega))
  have HB6 := Lib.hid (HB5.out.trans (HA6.out.2.below (by omega) HB5.out.size))
  obtain ⟨D, HD⟩ : ∃ D, Shut (D = (digest (flat ps)).map bv) := ⟨_, ⟨rfl⟩⟩
  have HVD : Hid (vd = .agg D.toArray) := Lib.hid (by rw [HD.out]; exact HA6.out.1)
  have HLD : Shut ((Tryd.prog.info? 85).map (·.size) = some D.length ∧ (List.replicate 32 (Value.int .u8 0)).length = D.length ∧ D.length = 32 ∧ ∀ v ∈ D, v.oneCell' = true) := ⟨by
    have h1 : D.length = 32 := by rw [HD.out]; exact digest_len _
    exact ⟨by rw [h1]; exact info_size info27, by rw [h1]; exact List.length_replicate, h1, by rw [HD.out]; exact bytes_one _⟩⟩
  clear HA6 HG5 HB5 HS5
  go_wp2_with (first
    | (refine wl_store rfl 85 (.tmp 2) (.tmp 7) rfl w.heap.size _ D rfl HVD.out rfl 85 _ HG6.out HLD.out.1 HLD.out.2.1 HLD.out.2.2.2 ?_
       intro w7 HR7 HS7 HZ7))
  refine bodyPost_ret (v := .agg D.toArray) (results_cell_row Tryd.results74 _ w7 w.heap.size 85 _ (0, 0) _ rfl HR7.out under27 rfl (by simpa using HLD.out.1)) rfl ?_
  have hD : Value.agg D.toArray = .agg ((digest (flat ps)).map bv).toArray := by rw [HD.out]
  exact ⟨.agg D.toArray, rfl, Lib.hid (And.intro hD (HB6.out.trans (HS7.out.below (Nat.le_refl _) HB6.out.size)))⟩
end Go.Proofs.YtchnbknbccpmcaaDoor.H
namespace Go.Proofs.YtchnbknbccpmcaaDoor.H
open Go.RowKit

theorem run_head (w : World) (t : TypeId) (n : Nat) (hu : Tryd.prog.underlying t = some (.array n 5)) (g o : Nat) (z : Int) (l : Nat) (hz : z = (l : Int)) (hl : l ≤ n) (hn : 0 < n) :
    (Instr.sliceAt t (.pointer (some ⟨g, o, none⟩)) none (some (.int .i64 z)) none).run Tryd.prog w = .ok (.slice (some ⟨g, o, none⟩) l n) w := by
  subst hz
  obtain ⟨i0, hi0, _⟩ := info_parts' u8_info
  have h2 : ¬ n = 0 := by omega
  simp [Instr.sliceAt, Instr.sureAddr, run_underlying hu, Instr.sliceBounds, run_sliceBound, sizeOf, typeInfo, hi0, hl, Addr.add_mid]

theorem wl_allocAt {w : World} {ops : Array Oper} {rest : List Oper} {o : Oper} {a : Act} {Q : Exit → Act → World → Prop} (hgd : o.guard = none) (t : TypeId) (ho : o.op = .alloc t) (d : Tmp) (hd : o.dst = some d)
    (cs : List Value) (n : Nat) (hz : (Tryd.prog.info? t).map (fun i => (i.zero, i.size)) = some (some (.agg cs.toArray), n))
    (h : ∀ w', Hid (Row w' w.heap.size t cs) → Hid (Below w.heap.size w w') → Hid (w'.heap.size = w.heap.size + 1) → wpList Tryd.prog ops Q rest (a.put (some d) (.pointer (some ⟨w.heap.size, 0, none⟩))) w') :
    wpList Tryd.prog ops Q (o :: rest) a w := wl_alloc hgd t ho cs n hz (by rw [hd]; exact h)
theorem wl_copy {w : World} {ops : Array Oper} {rest : List Oper} {o : Oper} {a : Act} {Q : Exit → Act → World → Prop} (hgd : o.guard = none) (d s : Operand)
    (ho : o.op = .call { callee := .builtin .copy, args := #[d, s], argTypes := #[22, 22] }) (g off dLen dCap : Nat) (sp : Option Addr) (sLen sCap : Nat)
    (hd : a.eval d = .slice (some ⟨g, off, none⟩) dLen dCap) (hs : a.eval s = .slice sp sLen sCap) (cur : List Value) (t : TypeId) (hg : Row w g t cur) (cs : List Value) (hn : cs.length = Nat.min sLen dLen)
    (hsrc : Rd w w.heap.size sp cs) (hfit : off + cs.length ≤ cur.length) (h1 : ∀ v ∈ cs, v.oneCell' = true)
    (h : ∀ w', Hid (Row w' g t (splice cur off cs) ∧ Sole g w w' ∧ w'.heap.size = w.heap.size) → wpList Tryd.prog ops Q rest (a.put o.dst (goInt cs.length)) w') : wpList Tryd.prog ops Q (o :: rest) a w := by
  obtain ⟨i0, hi0, _, hz1, _⟩ := info_parts' u8_info
  rcases hsrc with h0 | ⟨ad, rfl, _, h3⟩
  · subst h0
    refine wpList_copy_nothing hgd d s 22 22 ho 5 Tryd.underlying22 (by simp [hi0, hz1]) _ _ dLen dCap sLen sCap hd hs (by simpa using hn.symm) ?_
    exact h w ⟨by simpa [splice] using hg, Sole.refl _ _, rfl⟩
  · refine wpList_copy_own hgd d s 22 22 ho 5 Tryd.underlying22 (by simp [hi0, hz1]) g off dLen dCap ad sLen sCap hd hs cur.toArray t hg cs hn h3 (by simpa using hfit) h1 ?_
    refine h _ ⟨?_, (Sole.refl g w).setRow _, by simp [World.setRow]⟩
    have := hg.setRow (splice cur off cs)
    simpa [splice] using this
theorem splice_zero (cs : List UInt8) (n : Nat) (_h : cs.length ≤ n) : splice (List.replicate n (Value.int .u8 0)) 0 (cs.map bv) = (cs ++ List.replicate (n - cs.length) 0).map bv := by
  unfold splice
  simp [bv]
theorem one_part (w : World) (A : Option Addr) (n c : Nat) (bs : List UInt8) (hn : bs.length = n) (hc : n ≤ c) (hm : c ≤ 9223372036854775807) (hr : Rd w w.heap.size A (bs.map bv)) :
    Parts (w.alloc (.cells #[.slice A n c] 22)) (w.alloc (.cells #[.slice A n c] 22)).heap.size (some ⟨w.heap.size, 0, none⟩) [⟨A, c, bs⟩] := by
  have hb : Below w.heap.size w (w.alloc (.cells #[.slice A n c] 22)) := (Below.refl _ _).alloc (Nat.le_refl _) _
  refine ⟨.inr ⟨_, rfl, by simp, ?_⟩, ?_⟩
  · have h1 := cells_new w #[.slice A n c] 22
    intro j u hj
    refine h1 j u ?_
    rw [← hj]
    simp [Part.v, hn]
  · intro p hp
    simp at hp
    subst hp
    exact ⟨by show bs.length ≤ c; omega, hm, (hr.below hb).more hb.size⟩
theorem flat_one (A : Option Addr) (c : Nat) (bs : List UInt8) : flat [⟨A, c, bs⟩] = bs := by simp [flat]

end Go.Proofs.YtchnbknbccpmcaaDoor.H

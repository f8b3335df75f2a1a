/- SHA-256 and HMAC as plain mathematics: words, rounds, blocks, padding. -/
namespace Go.Proofs.YtlmdafldggbiaaaDoor.H

abbrev Wd := BitVec 32
def rotr (x : Wd) (n : Nat) : Wd := (x <<< (32 - n)) ||| (x >>> n)
def sg0 (x : Wd) : Wd := rotr x 7 ^^^ rotr x 18 ^^^ (x >>> 3)
def sg1 (x : Wd) : Wd := rotr x 17 ^^^ rotr x 19 ^^^ (x >>> 10)
def bg1 (e : Wd) : Wd := rotr e 6 ^^^ rotr e 11 ^^^ rotr e 25
def bg0 (a : Wd) : Wd := rotr a 2 ^^^ rotr a 13 ^^^ rotr a 22
def chF (e f g : Wd) : Wd := (e &&& f) ^^^ (~~~e &&& g)
def mjF (a b c : Wd) : Wd := (a &&& b) ^^^ (a &&& c) ^^^ (b &&& c)
structure Regs where
  a : Wd
  b : Wd
  c : Wd
  d : Wd
  e : Wd
  f : Wd
  g : Wd
  h : Wd
def Regs.list (r : Regs) : List Wd := [r.a, r.b, r.c, r.d, r.e, r.f, r.g, r.h]
def t1F (k w : Wd) (r : Regs) : Wd := r.h + bg1 r.e + chF r.e r.f r.g + k + w
def t2F (r : Regs) : Wd := bg0 r.a + mjF r.a r.b r.c
def rnd (k w : Wd) (r : Regs) : Regs := ⟨t1F k w r + t2F r, r.a, r.b, r.c, r.d + t1F k w r, r.e, r.f, r.g⟩
def Regs.plus (r s : Regs) : Regs := ⟨r.a + s.a, r.b + s.b, r.c + s.c, r.d + s.d, r.e + s.e, r.f + s.f, r.g + s.g, r.h + s.h⟩
def bw (b : UInt8) : Wd := BitVec.ofNat 32 b.toNat
def wordOf (b0 b1 b2 b3 : UInt8) : Wd := (bw b0 <<< 24) ||| (bw b1 <<< 16) ||| (bw b2 <<< 8) ||| bw b3
def wordAt (bs : List UInt8) (t : Nat) : Wd := wordOf (bs.getD (4 * t) 0) (bs.getD (4 * t + 1) 0) (bs.getD (4 * t + 2) 0) (bs.getD (4 * t + 3) 0)
def wordsOf (bs : List UInt8) : List Wd := (List.range 16).map (wordAt bs)
def nextW (l : List Wd) (t : Nat) : Wd := sg1 (l.getD (t - 2) 0) + l.getD (t - 7) 0 + sg0 (l.getD (t - 15) 0) + l.getD (t - 16) 0
/-- The first 16 + k words of a block. -/
def sch (l : List Wd) : Nat → List Wd
  | 0 => l
  | k + 1 => sch l k ++ [nextW (sch l k) (16 + k)]
def spreadL (bs : List UInt8) : List Wd := sch (wordsOf bs) 48
def rounds (K W : List Wd) (r : Regs) : Nat → Regs
  | 0 => r
  | t + 1 => rnd (K.getD t 0) (W.getD t 0) (rounds K W r t)
def KT : List Wd := [1116352408, 1899447441, 3049323471, 3921009573, 961987163, 1508970993, 2453635748, 2870763221,
  3624381080, 310598401, 607225278, 1426881987, 1925078388, 2162078206, 2614888103, 3248222580,
  3835390401, 4022224774, 264347078, 604807628, 770255983, 1249150122, 1555081692, 1996064986,
  2554220882, 2821834349, 2952996808, 3210313671, 3336571891, 3584528711, 113926993, 338241895,
  666307205, 773529912, 1294757372, 1396182291, 1695183700, 1986661051, 2177026350, 2456956037,
  2730485921, 2820302411, 3259730800, 3345764771, 3516065817, 3600352804, 4094571909, 275423344,
  430227734, 506948616, 659060556, 883997877, 958139571, 1322822218, 1537002063, 1747873779,
  1955562222, 2024104815, 2227730452, 2361852424, 2428436474, 2756734187, 3204031479, 3329325298]
def H0 : Regs := ⟨1779033703, 3144134277, 1013904242, 2773480762, 1359893119, 2600822924, 528734635, 1541459225⟩
def comp (v : Regs) (blk : List UInt8) : Regs := v.plus (rounds KT (spreadL blk) v 64)
def absorb : Nat → Regs → List UInt8 → Regs
  | 0, v, _ => v
  | n + 1, v, bs => absorb n (comp v (bs.take 64)) (bs.drop 64)
/-- The words behind all whole blocks of a stream. -/
def regsOf (S : List UInt8) : Regs := absorb (S.length / 64) H0 S
def wordBytes (x : Wd) : List UInt8 := [UInt8.ofNat (x.toNat / 16777216), UInt8.ofNat (x.toNat / 65536), UInt8.ofNat (x.toNat / 256), UInt8.ofNat x.toNat]
def be8 (n : Nat) : List UInt8 := wordBytes (BitVec.ofNat 32 (n / 4294967296)) ++ wordBytes (BitVec.ofNat 32 n)
def zerosN (n : Nat) : Nat := (120 - (n + 1) % 64) % 64
def padded (S : List UInt8) : List UInt8 := ((S ++ [0x80]) ++ List.replicate (zerosN S.length) 0) ++ be8 (8 * S.length)
def bytesOf (r : Regs) : List UInt8 := r.list.flatMap wordBytes
def digest (S : List UInt8) : List UInt8 := bytesOf (regsOf (padded S))
/-- The key of 64 bytes. -/
def padK (key : List UInt8) : List UInt8 := if 64 < key.length then digest key ++ List.replicate 32 0 else key ++ List.replicate (64 - key.length) 0
def keyed (key S : List UInt8) : List UInt8 := digest ((padK key).map (· ^^^ 0x5c) ++ digest ((padK key).map (· ^^^ 0x36) ++ S))

theorem sch_length (l : List Wd) (hl : l.length = 16) (k : Nat) : (sch l k).length = 16 + k := by
  induction k with
  | zero => exact hl
  | succ k ih => rw [sch, List.length_append, ih]; rfl
theorem wordsOf_length (bs : List UInt8) : (wordsOf bs).length = 16 := by simp [wordsOf]
theorem spreadL_length (bs : List UInt8) : (spreadL bs).length = 64 := sch_length _ (wordsOf_length bs) 48
theorem KT_length : KT.length = 64 := rfl
theorem list_length (r : Regs) : r.list.length = 8 := rfl
theorem wordBytes_length (x : Wd) : (wordBytes x).length = 4 := rfl
theorem bytesOf_length (r : Regs) : (bytesOf r).length = 32 := rfl
theorem digest_length (S : List UInt8) : (digest S).length = 32 := rfl
theorem be8_length (n : Nat) : (be8 n).length = 8 := rfl
theorem padded_length (S : List UInt8) : (padded S).length % 64 = 0 := by
  simp only [padded, List.length_append, List.length_replicate, be8_length, zerosN, List.length_cons, List.length_nil]
  omega
theorem padK_length (key : List UInt8) : (padK key).length = 64 := by
  unfold padK
  split
  · simp [digest_length]
  · simp; omega

/-- Only the whole blocks count. -/
theorem absorb_append (n : Nat) : ∀ (v : Regs) (S T : List UInt8), 64 * n ≤ S.length → absorb n v (S ++ T) = absorb n v S := by
  induction n with
  | zero => intro v S T _; rfl
  | succ n ih =>
    intro v S T h
    rw [absorb, absorb, List.take_append_of_le_length (by omega), List.drop_append_of_le_length (by omega)]
    exact ih _ _ _ (by rw [List.length_drop]; omega)
/-- One block more. -/
theorem absorb_succ (n : Nat) : ∀ (v : Regs) (S : List UInt8), absorb (n + 1) v S = comp (absorb n v S) ((S.drop (64 * n)).take 64) := by
  induction n with
  | zero => intro v S; simp [absorb]
  | succ n ih =>
    intro v S
    rw [absorb, ih, absorb]
    congr 2
    rw [List.drop_drop]
    congr 1
    omega
/-- A stream's words do not turn while its block is not full. -/
theorem regsOf_more (S c : List UInt8) (h : S.length % 64 + c.length < 64) : regsOf (S ++ c) = regsOf S := by
  unfold regsOf
  have e : (S ++ c).length / 64 = S.length / 64 := by rw [List.length_append]; omega
  rw [e, absorb_append _ _ _ _ (by omega)]
theorem regsOf_full (S c : List UInt8) (h : S.length % 64 + c.length = 64) : regsOf (S ++ c) = comp (regsOf S) (S.drop (64 * (S.length / 64)) ++ c) := by
  unfold regsOf
  have e : (S ++ c).length / 64 = S.length / 64 + 1 := by rw [List.length_append]; omega
  rw [e, absorb_succ, absorb_append _ _ _ _ (by omega), List.drop_append_of_le_length (by omega)]
  congr 1
  rw [List.take_of_length_le]
  rw [List.length_append, List.length_drop]
  omega
/-- What waits of a stream. -/
def waits (S : List UInt8) : List UInt8 := S.drop (64 * (S.length / 64))
theorem waits_length (S : List UInt8) : (waits S).length = S.length % 64 := by rw [waits, List.length_drop]; omega
theorem waits_more (S c : List UInt8) (h : S.length % 64 + c.length < 64) : waits (S ++ c) = waits S ++ c := by
  unfold waits
  have e : (S ++ c).length / 64 = S.length / 64 := by rw [List.length_append]; omega
  rw [e, List.drop_append_of_le_length (by omega)]
theorem waits_full (S c : List UInt8) (h : S.length % 64 + c.length = 64) : waits (S ++ c) = [] := by
  apply List.eq_nil_of_length_eq_zero
  rw [waits_length, List.length_append]
  omega
end Go.Proofs.YtlmdafldggbiaaaDoor.H

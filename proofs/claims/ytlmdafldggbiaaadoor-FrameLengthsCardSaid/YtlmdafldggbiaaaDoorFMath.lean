/- Plain mathematics of big-endian numbers: no program, no conditions. -/
import Derived.Laws.Bits64
import Derived.Laws.Bits64b
namespace Go.Proofs.YtlmdafldggbiaaaDoor.F
open Go

/-- The big-endian number of bytes. -/
def num (bs : List UInt8) : Nat := bs.foldl (fun n b => 256 * n + b.toNat) 0
/-- A number as k bytes, big-endian. -/
def be : Nat → Nat → List UInt8
  | 0, _ => []
  | k + 1, n => be k (n / 256) ++ [UInt8.ofNat (n % 256)]

theorem num_snoc (bs : List UInt8) (b : UInt8) : num (bs ++ [b]) = 256 * num bs + b.toNat := by simp [num]
theorem num_nil : num [] = 0 := rfl
theorem num_take (bs : List UInt8) (k : Nat) (h : k < bs.length) : num (bs.take (k + 1)) = 256 * num (bs.take k) + bs[k].toNat := by
  rw [List.take_succ_eq_append_getElem h, num_snoc]

theorem snoc_ind {P : List UInt8 → Prop} (h0 : P []) (h1 : ∀ bs b, P bs → P (bs ++ [b])) : ∀ bs, P bs := by
  intro bs
  have : ∀ l : List UInt8, P l.reverse := by
    intro l
    induction l with
    | nil => exact h0
    | cons a l ih => rw [List.reverse_cons]; exact h1 _ _ ih
  simpa using this bs.reverse

theorem num_lt (bs : List UInt8) : num bs < 256 ^ bs.length := by
  induction bs using snoc_ind with
  | h0 => simp [num]
  | h1 bs b ih =>
    rw [num_snoc, List.length_append, List.length_singleton, Nat.pow_succ]
    have := b.toNat_lt
    omega

theorem be_length (k n : Nat) : (be k n).length = k := by
  induction k generalizing n with
  | zero => rfl
  | succ k ih => simp [be, ih]

theorem num_be (k n : Nat) : num (be k n) = n % 256 ^ k := by
  induction k generalizing n with
  | zero => simp [be, num, Nat.mod_one]
  | succ k ih =>
    rw [be, num_snoc, ih]
    have h : (UInt8.ofNat (n % 256)).toNat = n % 256 := by simp
    rw [h, Nat.pow_succ, Nat.mul_comm (256 ^ k) 256, Nat.mod_mul]
    omega

theorem be_num (bs : List UInt8) : be bs.length (num bs) = bs := by
  induction bs using snoc_ind with
  | h0 => rfl
  | h1 bs b ih =>
    rw [List.length_append, List.length_singleton, be, num_snoc]
    have hb := b.toNat_lt
    have h1 : (256 * num bs + b.toNat) / 256 = num bs := by omega
    have h2 : (256 * num bs + b.toNat) % 256 = b.toNat := by omega
    rw [h1, h2, ih]
    simp

theorem be_getElem (k n i : Nat) (h : i < k) : (be k n)[i]'(by rw [be_length]; exact h) = UInt8.ofNat (n / 256 ^ (k - 1 - i)) := by
  induction k generalizing n i with
  | zero => omega
  | succ k ih =>
    simp only [be]
    by_cases hi : i < k
    · rw [List.getElem_append_left (by rw [be_length]; exact hi), ih _ _ hi]
      congr 1
      rw [Nat.div_div_eq_div_mul]
      congr 1
      have : k + 1 - 1 - i = (k - 1 - i) + 1 := by omega
      rw [this, Nat.pow_succ, Nat.mul_comm]
    · have : i = k := by omega
      subst this
      have e : i + 1 - 1 - i = 0 := by omega
      rw [List.getElem_append_right (by rw [be_length]; omega)]
      simp only [be_length, Nat.sub_self, List.getElem_cons_zero, e, Nat.pow_zero, Nat.div_one]
      apply UInt8.toNat.inj
      simp

/-- One round of 'n = n<<8 | uint64(b)'. -/
theorem or_step (a b : Nat) (ha : a < 72057594037927936) (hb : b < 256) :
    bits .or .u64 (IntKind.u64.wrap ((a : Int) * 256)) (IntKind.u64.wrap (b : Int)) = ((256 * a + b : Nat) : Int) := by
  rw [IntKind.wrap_u64, IntKind.wrap_u64]
  have e1 : ((a : Int) * 256) % 18446744073709551616 = ((a * 256 : Nat) : Int) := by omega
  have e2 : (b : Int) % 18446744073709551616 = ((b : Nat) : Int) := by omega
  rw [e1, e2, bits_or_u64_nat _ _ (by omega) (by omega)]
  have h : a <<< 8 + b = a <<< 8 ||| b := Nat.shiftLeft_add_eq_or_of_lt (show b < 2 ^ 8 from hb) a
  rw [Nat.shiftLeft_eq, show (2 : Nat) ^ 8 = 256 from rfl] at h
  rw [← h, Nat.mul_comm]

theorem pow_le8 {k : Nat} (h : k ≤ 7) : 256 ^ k ≤ 72057594037927936 := by
  have : (256 : Nat) ^ k ≤ 256 ^ 7 := Nat.pow_le_pow_right (by omega) h
  omega
theorem num_lt8 (bs : List UInt8) (k : Nat) (hk : k < bs.length) (h8 : bs.length ≤ 8) : num (bs.take k) < 72057594037927936 := by
  have h := num_lt (bs.take k)
  have hl : (bs.take k).length ≤ 7 := by rw [List.length_take]; omega
  have := pow_le8 hl
  omega
theorem num_lt64 (bs : List UInt8) (h8 : bs.length ≤ 8) : num bs < 18446744073709551616 := by
  have h := num_lt bs
  have : (256 : Nat) ^ bs.length ≤ 256 ^ 8 := Nat.pow_le_pow_right (by omega) h8
  omega
end Go.Proofs.YtlmdafldggbiaaaDoor.F

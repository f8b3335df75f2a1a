/- Plain mathematics of big-endian numbers: no program, no conditions. What the small pure functions of package fields answer (headSize, isText, greatest): for every byte, every head. No conditions. What fields.number answers of bytes: the big-endian number of at most eight bytes, whatever the slice (nil let in). What fields.known, fields.span answer. What fields.cellOf answers: the cell of a field's bytes. What fields.fieldSize answers: how many bytes a field has, or which error. What fields.Size answers. What fields.appendNumber does: it appends a number's bytes, big-endian, onto a slice that is the caller's own. What fields.appendField does: it appends a field's bytes onto a slice that is the caller's own. What fields.Size and fields.Encode answer, for every layout and every list of cells (the bytes' number bounded). What fields.Some and fields.Decode answer. What fields.Decode answers, for every layout (of bounded length) and all bytes. Plain mathematics: what is made is taken apart again, what is taken apart is made again, bytes cut short are too short. No program, no memory. -/
import Derived.Laws.Bits64
import Derived.Laws.Bits64b
import Derived.Test.YtchnbknbccpmcaaDoorRows
import Derived.WalkKit
import Derived.WalkSpells
import Derived.WalkLawsBesides
import Derived.Below
import Derived.Lib.Hide
import Derived.Deep.QuietTactic
import Derived.BigQuiet
import Derived.Laws.Externs
import Derived.Laws.IdiomStrings
import Derived.Laws.BytesArg
import Derived.Deep.RegionHeld3
import Derived.Maps.AppendAt
import Derived.Maps.Range
import Derived.OwnWalk
import Derived.Lib.AppendStr
import Derived.Deep.AppendLies
namespace Go.Proofs.YtchnbknbccpmcaaDoor.F
open Go

/-- The big-endian number of bytes. -/
def num (bs : List UInt8) : Nat := bs.foldl (fun n b => 256 * n + b.toNat) 0
/-- A number as k bytes, big-endian. -/
def be : Nat → Nat → List UInt8
  | 0, _ => []
  | k + 1, n => be k (n / 256) ++ [UInt8.ofNat (n % 256)]

theorem num_snoc (bs : List UInt8) (b : UInt8) : num (bs ++ [b]) = 256 * num bs + b.toNat := by simp [num]
theorem num_take (bs : List UInt8) (k : Nat) (h : k < bs.length) : num (bs.take (k + 1)) = 256 * num (bs.take k) + bs[k].toNat := by
  rw [List.take_succ_eq_append_getElem h, num_snoc]

theorem snoc_ind {P : List UInt8 → Prop} (h0 : P []) (h1 : ∀ bs b, P bs → P (bs ++ [b])) : ∀ bs, P bs := by
  intro bs
  have : ∀ l : List UInt8, P l.reverse := by
    intro l
    induction l with
    | nil => exact h0
    | cons a l ih => rw [List.reverse_cons]; exact h1 _ _ ih
  simpa using this bs.reverse

theorem num_lt (bs : List UInt8) : num bs < 256 ^ bs.length := by
  induction bs using snoc_ind with
  | h0 => simp [num]
  | h1 bs b ih =>
    rw [num_snoc, List.length_append, List.length_singleton, Nat.pow_succ]
    have := b.toNat_lt
    omega

theorem be_length (k n : Nat) : (be k n).length = k := by
  induction k generalizing n with
  | zero => rfl
  | succ k ih => simp [be, ih]

theorem num_be (k n : Nat) : num (be k n) = n % 256 ^ k := by
  induction k generalizing n with
  | zero => simp [be, num, Nat.mod_one]
  | succ k ih =>
    rw [be, num_snoc, ih]
    have h : (UInt8.ofNat (n % 256)).toNat = n % 256 := by simp
    rw [h, Nat.pow_succ, Nat.mul_comm (256 ^ k) 256, Nat.mod_mul]
    omega

theorem be_num (bs : List UInt8) : be bs.length (num bs) = bs := by
  induction bs using snoc_ind with
  | h0 => rfl
  | h1 bs b ih =>
    rw [List.length_append, List.length_singleton, be, num_snoc]
    have hb := b.toNat_lt
    have h1 : (256 * num bs + b.toNat) / 256 = num bs := by omega
    have h2 : (256 * num bs + b.toNat) % 256 = b.toNat := by omega
    rw [h1, h2, ih]
    simp

theorem be_getElem (k n i : Nat) (h : i < k) : (be k n)[i]'(by rw [be_length]; exact h) = UInt8.ofNat (n / 256 ^ (k - 1 - i)) := by
  induction k generalizing n i with
  | zero => omega
  | succ k ih =>
    simp only [be]
    by_cases hi : i < k
    · rw [List.getElem_append_left (by rw [be_length]; exact hi), ih _ _ hi]
      congr 1
      rw [Nat.div_div_eq_div_mul]
      congr 1
      have : k + 1 - 1 - i = (k - 1 - i) + 1 := by omega
      rw [this, Nat.pow_succ, Nat.mul_comm]
    · have : i = k := by omega
      subst this
      have e : i + 1 - 1 - i = 0 := by omega
      rw [List.getElem_append_right (by rw [be_length]; omega)]
      simp only [be_length, Nat.sub_self, List.getElem_cons_zero, e, Nat.pow_zero, Nat.div_one]
      apply UInt8.toNat.inj
      simp

/-- One round of 'n = n<<8 | uint64(b)'. -/
theorem or_step (a b : Nat) (ha : a < 72057594037927936) (hb : b < 256) :
    bits .or .u64 (IntKind.u64.wrap ((a : Int) * 256)) (IntKind.u64.wrap (b : Int)) = ((256 * a + b : Nat) : Int) := by
  rw [IntKind.wrap_u64, IntKind.wrap_u64]
  have e1 : ((a : Int) * 256) % 18446744073709551616 = ((a * 256 : Nat) : Int) := by omega
  have e2 : (b : Int) % 18446744073709551616 = ((b : Nat) : Int) := by omega
  rw [e1, e2, bits_or_u64_nat _ _ (by omega) (by omega)]
  have h : a <<< 8 + b = a <<< 8 ||| b := Nat.shiftLeft_add_eq_or_of_lt (show b < 2 ^ 8 from hb) a
  rw [Nat.shiftLeft_eq, show (2 : Nat) ^ 8 = 256 from rfl] at h
  rw [← h, Nat.mul_comm]

theorem pow_le8 {k : Nat} (h : k ≤ 7) : 256 ^ k ≤ 72057594037927936 := by
  have : (256 : Nat) ^ k ≤ 256 ^ 7 := Nat.pow_le_pow_right (by omega) h
  omega
theorem num_lt8 (bs : List UInt8) (k : Nat) (hk : k < bs.length) (h8 : bs.length ≤ 8) : num (bs.take k) < 72057594037927936 := by
  have h := num_lt (bs.take k)
  have hl : (bs.take k).length ≤ 7 := by rw [List.length_take]; omega
  have := pow_le8 hl
  omega
theorem num_lt64 (bs : List UInt8) (h8 : bs.length ≤ 8) : num bs < 18446744073709551616 := by
  have h := num_lt bs
  have : (256 : Nat) ^ bs.length ≤ 256 ^ 8 := Nat.pow_le_pow_right (by omega) h8
  omega
end Go.Proofs.YtchnbknbccpmcaaDoor.F
namespace Go.Proofs.YtchnbknbccpmcaaDoor.F
open Go.RowKit

def hd (c : Nat) : Nat := if c = 98 ∨ c = 116 then 1 else if c = 104 ∨ c = 114 then 2 else if c = 119 then 4 else if c = 113 ∨ c = 102 then 8 else 0
def isT (c : Nat) : Bool := decide (c = 116 ∨ c = 114)
def great (h : Nat) : Nat := if h = 8 then 9223372036854775807 else 256 ^ h - 1

theorem ret_int {k : IntKind} {a b : Int} (h : a = b) : Ending.returned (.int k a) = .returned (.int k b) := by rw [h]
theorem ret_bool {a b : Bool} (h : a = b) : Ending.returned (.bool a) = .returned (.bool b) := by rw [h]

set_option maxRecDepth 100000 in
set_option maxHeartbeats 400000 in
theorem headSize_any (c : Nat) (w : World) :
    Calls Tryd.prog 79 #[.int .u8 (c : Int)] w fun e w' => e = .returned (.int .i64 (hd c : Int)) ∧ w = w' := by
  go_enter Tryd.func79, Tryd.ntmps79
  go_wp2
  all_goals
    go_ret
    refine ⟨ret_int ?_, rfl⟩
    simp only [beq_iff_eq, beq_eq_false_iff_ne] at *
    unfold hd
    repeat' split
    all_goals omega

set_option maxRecDepth 100000 in
set_option maxHeartbeats 400000 in
theorem isText_any (c : Nat) (w : World) :
    Calls Tryd.prog 82 #[.int .u8 (c : Int)] w fun e w' => e = .returned (.bool (isT c)) ∧ w = w' := by
  go_enter Tryd.func82, Tryd.ntmps82
  go_wp2
  all_goals
    go_ret
    refine ⟨ret_bool ?_, rfl⟩
    unfold isT
    rw [Bool.eq_iff_iff]
    simp
    omega

set_option maxRecDepth 100000 in
set_option maxHeartbeats 400000 in
theorem greatest_any (h : Nat) (w : World) (hh : h = 1 ∨ h = 2 ∨ h = 4 ∨ h = 8) :
    Calls Tryd.prog 84 #[.int .i64 (h : Int)] w fun e w' => e = .returned (.int .u64 (great h : Int)) ∧ w = w' := by
  rcases hh with rfl | rfl | rfl | rfl
  all_goals
    go_enter Tryd.func84, Tryd.ntmps84
    go_wp2
    go_ret
    exact ⟨ret_int (by decide), rfl⟩
end Go.Proofs.YtchnbknbccpmcaaDoor.F
namespace Go.Proofs.YtchnbknbccpmcaaDoor.F
open Go.RowKit

/-- A byte as a cell. -/
def bv (b : UInt8) : Value := .int .u8 (b.toNat : Int)

/-- 'the slice value with base A and length xs.length holds the cells xs, in a block below B'. -/
def Rd (w : World) (B : Nat) (A : Option Addr) (xs : List Value) : Prop :=
  xs = [] ∨ ∃ ad, A = some ad ∧ ad.block < B ∧ ∀ (j : Nat) (u : Value), xs[j]? = some u → w.cell? (ad.add j) = some u

theorem Rd.cell {w : World} {B : Nat} {A : Option Addr} {xs : List Value} (h : Rd w B A xs) {k : Nat} {u : Value} (hk : xs[k]? = some u) :
    ∃ ad, A = some ad ∧ ad.block < B ∧ w.cell? (ad.add k) = some u := by
  rcases h with rfl | ⟨ad, h1, h2, h3⟩
  · simp at hk
  · exact ⟨ad, h1, h2, h3 k u hk⟩

theorem Rd.take {w : World} {B : Nat} {A : Option Addr} {xs : List Value} (h : Rd w B A xs) (k : Nat) : Rd w B A (xs.take k) := by
  rcases h with rfl | ⟨ad, h1, h2, h3⟩
  · exact .inl (by simp)
  · refine .inr ⟨ad, h1, h2, fun j u hj => h3 j u ?_⟩
    rw [List.getElem?_take] at hj
    split at hj
    · exact hj
    · simp at hj

theorem Rd.keep {w w' : World} {B : Nat} {A : Option Addr} {xs : List Value} (h : Rd w B A xs) (hk : ∀ p : Addr, p.block < B → w'.cell? p = w.cell? p) : Rd w' B A xs := by
  rcases h with rfl | ⟨ad, h1, h2, h3⟩
  · exact .inl rfl
  · refine .inr ⟨ad, h1, h2, fun j u hj => (hk _ ?_).trans (h3 j u hj)⟩
    unfold Addr.add
    split <;> exact h2
theorem Rd.more {w : World} {B B' : Nat} {A : Option Addr} {xs : List Value} (h : Rd w B A xs) (hB : B ≤ B') : Rd w B' A xs := by
  rcases h with rfl | ⟨ad, h1, h2, h3⟩
  · exact .inl rfl
  · exact .inr ⟨ad, h1, by omega, h3⟩
theorem Rd.below {w w' : World} {B : Nat} {A : Option Addr} {xs : List Value} (h : Rd w B A xs) (hb : Below B w w') : Rd w' B A xs := h.keep fun _ hp => hb.cell hp
theorem Rd.drop {w : World} {B : Nat} {A : Option Addr} {xs : List Value} (h : Rd w B A xs) {k cap : Nat} (hk : k ≤ xs.length) (hc : xs.length ≤ cap) : Rd w B (if cap = k then A else A.map (·.add k)) (xs.drop k) := by
  rcases h with rfl | ⟨ad, h1, h2, h3⟩
  · exact .inl (by simp)
  · rcases Nat.lt_or_ge k xs.length with hlt | hge
    · rw [if_neg (by omega)]
      subst h1
      refine .inr ⟨ad.add k, rfl, by unfold Addr.add; split <;> exact h2, fun j u hj => ?_⟩
      rw [List.getElem?_drop] at hj
      rw [← h3 _ u hj]
      congr 1
      unfold Addr.add
      by_cases hk0 : k = 0 <;> by_cases hj0 : j = 0 <;> simp [hk0, hj0, Nat.add_assoc]
    · exact .inl (List.drop_eq_nil_of_le hge)

set_option maxRecDepth 100000 in
set_option maxHeartbeats 400000 in
theorem number_any (A : Option Addr) (n c B : Nat) (bs : List UInt8) (w : World) (hr : Rd w B A (bs.map bv)) (hn : bs.length = n) (h8 : n ≤ 8) :
    Calls Tryd.prog 83 #[.slice A n c] w fun e w' => e = .returned (.int .u64 (num bs : Int)) ∧ w = w' := by
  subst hn
  have HR := Lib.hid hr
  clear hr
  go_enter Tryd.func83, Tryd.ntmps83
  go_wp2
  go_loop [3, 7] (fun n i => ∃ k : Nat, k ≤ bs.length ∧ i = .int .i64 k ∧ n = .int .u64 (num (bs.take k) : Int)) (fun _ i => bs.length - (intOf i).toNat)
  case atStart => exact ⟨0, Nat.zero_le _, rfl, rfl⟩
  case round =>
    obtain ⟨k, hk, rfl, rfl⟩ := hrel
    by_cases hlt : k < bs.length
    · obtain ⟨ad, rfl, _, hc⟩ := HR.out.cell (k := k) (u := bv bs[k]) (by simp [hlt])
      unfold bv at hc
      go_wp2
      refine ⟨⟨k + 1, by omega, by go_num, ?_⟩, by simp [intOf]; omega⟩
      rw [or_step _ _ (num_lt8 bs k hlt h8) (bs[k].toNat_lt), num_take bs k hlt]
    · go_wp2
      go_ret
      exact ⟨ret_int (by rw [List.take_of_length_le (by omega)]), rfl⟩
end Go.Proofs.YtchnbknbccpmcaaDoor.F
namespace Go.Proofs.YtchnbknbccpmcaaDoor.F
open Go.RowKit

def kn (l : List UInt8) : Bool := l.all fun c => decide (hd c.toNat ≠ 0)
theorem take_snoc (s : ByteArray) (k : Nat) (h : k < s.size) : s.data.toList.take (k + 1) = s.data.toList.take k ++ [s[k]] := by
  rw [List.take_succ_eq_append_getElem (by simpa using h)]; rfl
theorem kn_at (s : ByteArray) (k : Nat) (h : k < s.size) (h0 : hd s[k].toNat = 0) : kn s.data.toList = false := by
  unfold kn
  rw [List.all_eq_false]
  exact ⟨s[k], by simp [ByteArray.getElem_eq_getElem_data], by simp [h0]⟩

set_option maxRecDepth 100000 in
set_option maxHeartbeats 400000 in
theorem known_any (s : ByteArray) (w : World) (hs : s.size ≤ maxLen) :
    Calls Tryd.prog 69 #[.string s] w fun e w' => e = .returned (.bool (kn s.data.toList)) ∧ w = w' := by
  unfold maxLen at hs
  go_enter Tryd.func69, Tryd.ntmps69
  go_wp2
  go_loop [6] (fun i => ∃ k : Nat, k ≤ s.size ∧ i = .int .i64 k ∧ Hid (kn (s.data.toList.take k) = true)) (fun i => s.size - (intOf i).toNat)
  case atStart => exact ⟨0, Nat.zero_le _, rfl, rfl⟩
  case round =>
    obtain ⟨k, hk, rfl, hkn⟩ := hrel
    by_cases hlt : k < s.size
    · go_wp2_with (go_at_call 79; refine (headSize_any _ _).mono ?_; rintro e w' ⟨rfl, rfl⟩)
      · rename_i h0
        go_ret
        exact ⟨ret_bool (kn_at s k hlt (by simpa using h0)).symm, rfl⟩
      · rename_i h0
        refine ⟨⟨k + 1, by omega, by go_num, ?_⟩, by simp [intOf]; omega⟩
        have h1 := hkn.out
        show kn _ = true
        rw [take_snoc s k hlt]
        unfold kn at h1 ⊢
        rw [List.all_append, h1]
        simpa using h0
    · go_wp2
      go_ret
      refine ⟨ret_bool ?_, rfl⟩
      have h1 := hkn.out
      rw [List.take_of_length_le (by simp; omega)] at h1
      exact h1.symm

/-- What span says of a letter and the bytes behind it: how many bytes the field has, or which error (by its variable's number). -/
def spanS (c : Nat) (bs : List UInt8) : Except Nat Nat :=
  if bs.length < hd c then .error 1
  else if isT c = true then (if bs.length - hd c < num (bs.take (hd c)) then .error 1 else .ok (hd c + num (bs.take (hd c))))
  else if c ≠ 102 ∧ great (hd c) < num (bs.take (hd c)) then .error 3 else .ok (hd c)

theorem hd_cases {c : Nat} (h : hd c ≠ 0) : hd c = 1 ∨ hd c = 2 ∨ hd c = 4 ∨ hd c = 8 := by
  unfold hd at h ⊢
  repeat' split at h
  all_goals simp_all

/-- The five errors' variables hold values that are no nil. -/
def pos : Nat → Nat
  | 0 => 4
  | 1 => 2
  | 2 => 16
  | 3 => 0
  | _ => 3
theorem pos_lt (i : Nat) : pos i < 18 + 1 := by
  unfold pos
  split <;> omega
structure Errs (w : World) (E : Nat → Value) : Prop where
  cell : ∀ i, i < 5 → w.cell? ⟨pos i, 0, none⟩ = some (E i)
  some_ : ∀ i, i < 5 → ∃ t v, E i = .iface t v

/-- What span hands back, as a value. -/
def spanV (E : Nat → Value) : Except Nat Nat → Value
  | .ok n => .tuple #[.int .i64 (n : Int), .nilIface]
  | .error k => .tuple #[.int .i64 0, E k]

theorem map_take_bv (bs : List UInt8) (k : Nat) : (bs.map bv).take k = (bs.take k).map bv := by rw [List.map_take]
theorem spanS_short {c : Nat} {bs : List UInt8} (h : bs.length < hd c) : spanS c bs = .error 1 := by simp [spanS, h]
theorem spanS_long {c : Nat} {bs : List UInt8} (h : ¬ bs.length < hd c) (ht : isT c = true) (hm : bs.length - hd c < num (bs.take (hd c))) : spanS c bs = .error 1 := by simp [spanS, h, ht, hm]
theorem spanS_text {c : Nat} {bs : List UInt8} (h : ¬ bs.length < hd c) (ht : isT c = true) (hm : ¬ bs.length - hd c < num (bs.take (hd c))) : spanS c bs = .ok (hd c + num (bs.take (hd c))) := by simp [spanS, h, ht, hm]
theorem spanS_range {c : Nat} {bs : List UInt8} (h : ¬ bs.length < hd c) (ht : isT c = false) (hf : c ≠ 102) (hm : great (hd c) < num (bs.take (hd c))) : spanS c bs = .error 3 := by simp [spanS, h, ht, hf, hm]
theorem spanS_float {c : Nat} {bs : List UInt8} (h : ¬ bs.length < hd c) (ht : isT c = false) (hf : c = 102) : spanS c bs = .ok (hd c) := by
  subst hf; simp [spanS, h, ht]
theorem spanS_num {c : Nat} {bs : List UInt8} (h : ¬ bs.length < hd c) (ht : isT c = false) (hm : ¬ great (hd c) < num (bs.take (hd c))) : spanS c bs = .ok (hd c) := by
  simp [spanS, h, ht, hm]

set_option maxRecDepth 100000 in
set_option maxHeartbeats 400000 in
theorem span_any (E : Nat → Value) (c n cap B : Nat) (A : Option Addr) (bs : List UInt8) (w : World) (hE : Errs w E) (h0 : hd c ≠ 0) (hn : bs.length = n) (hmax : n ≤ maxLen) (hcap : n ≤ cap)
    (hr : Rd w B A (bs.map bv)) :
    Calls Tryd.prog 70 #[.int .u8 (c : Int), .slice A n cap] w fun e w' => e = .returned (spanV E (spanS c bs)) ∧ ∃ m, w' = w.drewN m := by
  have hc1 : w.cell? ⟨2, 0, none⟩ = some (E 1) := hE.cell 1 (by omega)
  have hc3 : w.cell? ⟨0, 0, none⟩ = some (E 3) := hE.cell 3 (by omega)
  clear hE
  have hmax' : n ≤ 9223372036854775807 := hmax
  clear hmax
  have hq := hd_cases h0
  have HR := Lib.hid hr
  clear hr
  generalize hS : spanS c bs = S
  have HS := Lib.hid hS
  clear hS
  have HL := Lib.hid hn
  clear hn
  generalize hH : hd c = h at *
  have HH := Lib.hid hH
  clear hH
  by_cases hlt : n < h
  · have e : S = .error 1 := by rw [← HS.out]; exact spanS_short (by rw [HL.out, HH.out]; exact hlt)
    subst e
    clear HS
    go_enter Tryd.func70, Tryd.ntmps70
    go_wp2_with fail
    refine (headSize_any _ _).mono ?_
    rintro e w' ⟨rfl, rfl⟩
    rw [HH.out]
    go_wp2_with fail
    go_quiet (fail)
    go_wp2
    go_ret2
    exact ⟨rfl, _, rfl⟩
  · have hN64 : num (bs.take h) < 18446744073709551616 := num_lt64 _ (by rw [List.length_take]; omega)
    generalize hN : num (bs.take h) = N at *
    have HN := Lib.hid hN
    clear hN
    go_enter Tryd.func70, Tryd.ntmps70
    go_wp2_with fail
    refine (headSize_any _ _).mono ?_
    rintro e w' ⟨rfl, rfl⟩
    rw [HH.out]
    go_wp2_with fail
    refine (number_any A h _ B (bs.take h) _ (by rw [← map_take_bv]; exact HR.out.take h) (by rw [List.length_take, HL.out]; omega) (by omega)).mono ?_
    rintro e w' ⟨rfl, rfl⟩
    rw [HN.out]
    go_wp2_with fail
    refine (isText_any _ _).mono ?_
    rintro e w' ⟨rfl, rfl⟩
    cases hT : isT c
    · have HT := Lib.hid hT
      clear hT
      by_cases hf : c = 102
      · have e : S = .ok h := by rw [← HS.out, spanS_float (by rw [HL.out, HH.out]; exact hlt) HT.out hf, HH.out]
        subst e
        clear HS
        have hf' : ((c : Int) == 102) = true := by simp [hf]
        go_wp2_with fail
        go_ret2
        exact ⟨rfl, 0, rfl⟩
      · have HG := Lib.hid (rfl : great h = great h)
        have hf' : ((c : Int) == 102) = false := by simp; omega
        go_wp2_with fail
        refine (greatest_any h _ hq).mono ?_
        rintro e w' ⟨rfl, rfl⟩
        by_cases hm : great h < N
        · have e : S = .error 3 := by rw [← HS.out, spanS_range (by rw [HL.out, HH.out]; exact hlt) HT.out hf (by rw [HH.out, HN.out]; exact hm)]
          subst e
          clear HS
          generalize great h = G at *
          go_wp2_with fail
          go_quiet (fail)
          go_wp2
          go_ret2
          exact ⟨rfl, _, rfl⟩
        · have e : S = .ok h := by rw [← HS.out, spanS_num (by rw [HL.out, HH.out]; exact hlt) HT.out (by rw [HH.out, HN.out]; exact hm), HH.out]
          subst e
          clear HS
          generalize great h = G at *
          go_wp2_with fail
          go_ret2
          exact ⟨rfl, 0, rfl⟩
    · have HT := Lib.hid hT
      clear hT
      by_cases hm : n - h < N
      · have e : S = .error 1 := by rw [← HS.out, spanS_long (by rw [HL.out, HH.out]; exact hlt) HT.out (by rw [HL.out, HH.out, HN.out]; exact hm)]
        subst e
        clear HS
        go_wp2_with fail
        go_quiet (fail)
        go_wp2
        go_ret2
        exact ⟨rfl, _, rfl⟩
      · have e : S = .ok (h + N) := by rw [← HS.out, spanS_text (by rw [HL.out, HH.out]; exact hlt) HT.out (by rw [HL.out, HH.out, HN.out]; exact hm), HH.out, HN.out]
        subst e
        clear HS
        go_wp2_with fail
        go_ret2
        exact ⟨rfl, 0, rfl⟩
end Go.Proofs.YtchnbknbccpmcaaDoor.F
namespace Go.Proofs.YtchnbknbccpmcaaDoor.F
open Go.RowKit

theorem run_bits (b : Nat) (w : World) : (callFunc 81 #[.float .f64 b]).run Tryd.prog w = .ok (.value (.int .u64 (b : Int))) w := by
  rw [run_callFunc_extern (e := Extern.MathFloatBits.float64bits) Tryd.func81 (by kernel_rfl) (by kernel_rfl) (by kernel_rfl) (by kernel_rfl)]
  rfl
theorem run_frombits (n : Int) (w : World) : (callFunc 85 #[.int .u64 n]).run Tryd.prog w = .ok (.value (.float .f64 n.toNat)) w := by
  rw [run_callFunc_extern (e := Extern.MathFloatBits.float64frombits) Tryd.func85 (by kernel_rfl) (by kernel_rfl) (by kernel_rfl) (by kernel_rfl)]
  rfl
set_option maxRecDepth 100000 in
theorem run_store_f64 (P : Program) (w : World) (a : Addr) (m : Mode) (k : FloatKind) (b : Nat) : (store a (.float k b) m).run P w = stored P w a (.float k b) m := run_store P w a _ m rfl
attribute [local go_sem] run_store_f64

theorem Rd.toStr {w : World} {B : Nat} {A : Option Addr} {bs : List UInt8} (h : Rd w B A (bs.map bv)) (n c : Nat) (hn : bs.length = n) :
    (convert 22 9 (.slice A n c)).run Tryd.prog w = .ok (.string ⟨bs.toArray⟩) w := by
  subst hn
  rcases h with h | ⟨ad, rfl, _, h3⟩
  · have : bs = [] := by simpa using h
    subst this
    rcases A with _ | ad
    · exact run_convert_bytes_nil w 22 5 Tryd.underlying22 Tryd.underlying5 _ _ 9 Tryd.underlying9
    · exact run_convert_bytes_back w 22 9 5 ad c [] Tryd.underlying22 Tryd.underlying5 Tryd.underlying9 (fun j hj => absurd hj (by simp))
  · exact run_convert_bytes_back w 22 9 5 ad c bs Tryd.underlying22 Tryd.underlying5 Tryd.underlying9 (fun j hj => h3 j _ (by simp [hj, bv]))

/-- A cell: number, float's bits, text. -/
structure FC where
  n : Int := 0
  f : Nat := 0
  s : ByteArray := ⟨#[]⟩
def FC.v (c : FC) : Value := .agg #[.int .i64 c.n, .float .f64 c.f, .string c.s]

def cellS (c : Nat) (bs : List UInt8) : FC :=
  if c = 102 then { f := num (bs.take (hd c)) } else if isT c = true then { s := ⟨(bs.drop (hd c)).toArray⟩ } else { n := num (bs.take (hd c)) }

set_option maxRecDepth 100000 in
set_option maxHeartbeats 400000 in
theorem cellOf_any (c n cap : Nat) (A : Option Addr) (bs : List UInt8) (w : World) (hn : bs.length = n) (hmax : n ≤ maxLen) (hcap : n ≤ cap)
    (hr : Rd w w.heap.size A (bs.map bv)) (h0 : hd c ≠ 0) (hge : hd c ≤ n) (hok : isT c = false → c ≠ 102 → num (bs.take (hd c)) ≤ 9223372036854775807) :
    Calls Tryd.prog 71 #[.int .u8 (c : Int), .slice A n cap] w fun e w' => e = .returned (cellS c bs).v ∧ Below w.heap.size w w' := by
  have HR := Lib.hid hr
  clear hr
  have HL := Lib.hid hn
  clear hn
  have hfb := run_frombits
  have hq := hd_cases h0
  have HOK := Lib.hid hok
  clear hok
  generalize hS : cellS c bs = S
  have HS := Lib.hid hS
  clear hS
  generalize hH : hd c = h at *
  have HH := Lib.hid hH
  clear hH
  have hN64 : num (bs.take h) < 18446744073709551616 := num_lt64 _ (by rw [List.length_take]; omega)
  generalize hN : num (bs.take h) = N at *
  have HN := Lib.hid hN
  clear hN
  have hmax' : n ≤ 9223372036854775807 := hmax
  clear hmax
  go_enter Tryd.func71, Tryd.ntmps71
  go_wp2_with fail
  refine (headSize_any _ _).mono ?_
  rintro e w' ⟨rfl, rfl⟩
  rw [HH.out]
  go_wp2_with fail
  refine (number_any A h _ w.heap.size (bs.take h) _ (by rw [← map_take_bv]; exact (HR.out.take h).below ((Below.refl _ _).alloc (Nat.le_refl _) _)) (by rw [List.length_take, HL.out]; omega) (by omega)).mono ?_
  rintro e w' ⟨rfl, rfl⟩
  rw [HN.out]
  by_cases hf : c = 102
  · have hf' : ((c : Int) == 102) = true := by simp [hf]
    go_wp2_with fail
    have e : S = { f := N } := by rw [← HS.out]; simp [cellS, hf]; rw [← hf, HH.out, HN.out]
    subst e
    exact bodyPost_ret (v := .agg #[.int .i64 0, .float .f64 N, .string ⟨#[]⟩]) (by simp [results, Tryd.results71, go_sem]) rfl ⟨rfl, (Below.refl _ _).alloc (Nat.le_refl _) _⟩
  · have hf' : ((c : Int) == 102) = false := by simp; omega
    go_wp2_with fail
    refine (isText_any _ _).mono ?_
    rintro e w' ⟨rfl, rfl⟩
    cases hT : isT c
    · have HT := Lib.hid hT
      clear hT
      have hb : N ≤ 9223372036854775807 := HOK.out HT.out hf
      go_wp2_with fail
      have e : S = { n := N } := by rw [← HS.out]; simp [cellS, hf, HT.out, HN.out, HH.out]
      subst e
      exact bodyPost_ret (v := .agg #[.int .i64 N, .float .f64 0, .string ⟨#[]⟩]) (by simp [results, Tryd.results71, go_sem]) rfl ⟨rfl, (Below.refl _ _).alloc (Nat.le_refl _) _⟩
    · have HT := Lib.hid hT
      clear hT
      have e : S = { s := ⟨(bs.drop h).toArray⟩ } := by rw [← HS.out]; simp [cellS, hf, HT.out, HH.out]
      subst e
      clear HS
      have hst := fun o : Obj => ((HR.out.drop (k := h) (cap := cap) (by simp; rw [HL.out]; omega) (by simp; rw [HL.out]; omega)).below ((Below.refl _ _).alloc (Nat.le_refl _) o))
      have hst2 := fun o : Obj => Rd.toStr (bs := bs.drop h) (by rw [List.map_drop]; exact hst o) (n - h) (cap - h) (by rw [List.length_drop, HL.out])
      clear hst
      by_cases hch : cap = h
      · simp only [if_pos hch] at hst2
        obtain rfl : n = h := by omega
        obtain rfl : cap = n := by omega
        rw [Nat.sub_self] at hst2
        go_wp2_with fail
        exact bodyPost_ret (v := .agg #[.int .i64 0, .float .f64 0, .string ⟨(bs.drop cap).toArray⟩]) (by simp [results, Tryd.results71, go_sem]) rfl ⟨rfl, (Below.refl _ _).alloc (Nat.le_refl _) _⟩
      · simp only [if_neg hch] at hst2
        go_wp2_with fail
        exact bodyPost_ret (v := .agg #[.int .i64 0, .float .f64 0, .string ⟨(bs.drop h).toArray⟩]) (by simp [results, Tryd.results71, go_sem]) rfl ⟨rfl, (Below.refl _ _).alloc (Nat.le_refl _) _⟩
end Go.Proofs.YtchnbknbccpmcaaDoor.F
namespace Go.Proofs.YtchnbknbccpmcaaDoor.F
open Go.RowKit

/-- How many bytes a field has, or the error's number. -/
def sizeS (c : Nat) (x : FC) : Except Nat Nat :=
  if c = 102 then .ok (hd c)
  else if isT c = true then (if great (hd c) < x.s.size then .error 4 else .ok (hd c + x.s.size))
  else if x.n < 0 ∨ (great (hd c) : Int) < x.n then .error 3 else .ok (hd c)

theorem Errs.below {w w' : World} {E : Nat → Value} (h : Errs w E) {B : Nat} (hB : 18 + 1 ≤ B) (hb : Below B w w') : Errs w' E :=
  ⟨fun i hi => (hb.cell (p := ⟨pos i, 0, none⟩) (show pos i < B by have := pos_lt i; omega)).trans (h.cell i hi), h.some_⟩
/-- The three errors that Size and Encode may answer. -/
structure Errz (w : World) (E : Nat → Value) : Prop where
  cell : ∀ i, 2 ≤ i → i < 5 → w.cell? ⟨pos i, 0, none⟩ = some (E i)
  some_ : ∀ i, 2 ≤ i → i < 5 → ∃ t v, E i = .iface t v
theorem Errz.below {w w' : World} {E : Nat → Value} (h : Errz w E) {B : Nat} (hB : 18 + 1 ≤ B) (hb : Below B w w') : Errz w' E :=
  ⟨fun i h2 hi => (hb.cell (p := ⟨pos i, 0, none⟩) (show pos i < B by have := pos_lt i; omega)).trans (h.cell i h2 hi), h.some_⟩

theorem great_le {h : Nat} (hh : h = 1 ∨ h = 2 ∨ h = 4 ∨ h = 8) : great h ≤ 9223372036854775807 := by
  rcases hh with rfl | rfl | rfl | rfl <;> decide
theorem below_drewN {B : Nat} {a w : World} (h : Below B a w) (n : Nat) : Below B a (w.drewN n) := ⟨h.os, h.tape, h.output, h.size, h.block⟩

theorem great_text {c : Nat} (h : isT c = true) : great (hd c) ≤ 65535 := by
  unfold isT at h
  rcases of_decide_eq_true h with rfl | rfl <;> decide
theorem quietL {P : Program} {f : FuncId} {args : Array Value} {w : World} {n : Nat} {v : Value} (h : Calls P f args (w.drewN n) fun e w' => e = .returned v ∧ w.drewN n = w') :
    Calls P f args (w.drewN n) fun e w'' => e = .returned v ∧ ∃ m, w'' = w.drewN m := h.mono fun _ _ ⟨he, hm⟩ => ⟨he, n, hm.symm⟩
theorem u64_in {a : Int} (h0 : 0 ≤ a) (h1 : a < 18446744073709551616) : IntKind.u64.wrap a = a := by rw [IntKind.wrap_u64]; omega

set_option maxRecDepth 100000 in
set_option maxHeartbeats 400000 in
theorem fieldSize_any (E : Nat → Value) (c : Nat) (x : FC) (w : World) (hE : Errz w E) (h5 : 18 + 1 ≤ w.heap.size) (h0 : hd c ≠ 0) (hlo : -9223372036854775808 ≤ x.n) (hhi : x.n ≤ 9223372036854775807) (hs : x.s.size ≤ maxLen) :
    Calls Tryd.prog 78 #[.int .u8 (c : Int), x.v] w fun e w' => e = .returned (spanV E (sizeS c x)) ∧ Below w.heap.size w w' := by
  have hc3 : ∀ o : Obj, (w.alloc o).cell? ⟨0, 0, none⟩ = some (E 3) := fun o : Obj => (hE.below (Nat.le_refl (18 + 1)) ((Below.refl _ _).alloc h5 o)).cell 3 (by omega) (by omega)
  have hc4 : ∀ o : Obj, (w.alloc o).cell? ⟨3, 0, none⟩ = some (E 4) := fun o : Obj => (hE.below (Nat.le_refl (18 + 1)) ((Below.refl _ _).alloc h5 o)).cell 4 (by omega) (by omega)
  clear hE
  obtain ⟨xn, xf, xs⟩ := x
  simp only [FC.v] at *
  have hs' : xs.size ≤ 9223372036854775807 := hs
  clear hs
  have hq := hd_cases h0
  have hg := great_le hq
  generalize hS : sizeS c ⟨xn, xf, xs⟩ = S
  have HS := Lib.hid hS
  clear hS
  generalize hH : hd c = h at *
  have HH := Lib.hid hH
  clear hH
  generalize hG : great h = G at *
  have HG := Lib.hid hG
  clear hG
  go_enter Tryd.func78, Tryd.ntmps78
  go_wp2_with fail
  refine (headSize_any _ _).mono ?_
  rintro e w' ⟨rfl, rfl⟩
  rw [HH.out]
  by_cases hf : c = 102
  · have hf' : ((c : Int) == 102) = true := by simp [hf]
    have e : S = .ok h := by rw [← HS.out]; simp [sizeS, hf]; rw [← hf, HH.out]
    subst e
    clear HS
    go_wp2_with fail
    go_ret2
    exact ⟨rfl, (Below.refl _ _).alloc (Nat.le_refl _) _⟩
  · have hf' : ((c : Int) == 102) = false := by simp; omega
    go_wp2_with fail
    refine (isText_any _ _).mono ?_
    rintro e w' ⟨rfl, rfl⟩
    cases hT : isT c
    · have HT := Lib.hid hT
      clear hT
      by_cases hneg : xn < 0
      · have e : S = .error 3 := by rw [← HS.out]; simp [sizeS, hf, HT.out, hneg]
        subst e
        clear HS
        have hd1 : decide (xn < 0) = true := by simpa using hneg
        go_wp2_with fail
        go_quiet (fail)
        go_wp2_with fail
        go_quiet (fail)
        go_wp2_with fail
        go_ret2
        exact ⟨rfl, below_drewN (below_drewN ((Below.refl _ _).alloc (Nat.le_refl _) _) _) _⟩
      · have hd1 : decide (xn < 0) = false := by simpa using hneg
        have hw := u64_in (a := xn) (by omega) (by omega)
        have hgr := fun w => greatest_any h w hq
        rw [HG.out] at hgr
        have HGR := Lib.hid hgr
        clear hgr
        by_cases hm : (G : Int) < xn
        · have e : S = .error 3 := by rw [← HS.out]; simp [sizeS, hf, HT.out, HH.out, HG.out, hm]
          subst e
          clear HS
          go_wp2_with fail
          go_quiet ((go_at_call 84; exact quietL (HGR.out _)))
          go_wp2_with fail
          go_quiet (fail)
          go_wp2_with fail
          go_ret2
          exact ⟨rfl, below_drewN (below_drewN ((Below.refl _ _).alloc (Nat.le_refl _) _) _) _⟩
        · have e : S = .ok h := by rw [← HS.out]; simp [sizeS, hf, HT.out, HH.out, HG.out, hm, hneg]
          subst e
          clear HS
          go_wp2_with fail
          go_quiet ((go_at_call 84; exact quietL (HGR.out _)))
          go_wp2_with fail
          go_ret2
          exact ⟨rfl, below_drewN ((Below.refl _ _).alloc (Nat.le_refl _) _) _⟩
    · have HT := Lib.hid hT
      clear hT
      have hw := u64_in (a := (xs.size : Int)) (by omega) (by omega)
      have hG2 : G ≤ 65535 := by have := great_text HT.out; rwa [HH.out, HG.out] at this
      have hgr := fun w => greatest_any h w hq
      rw [HG.out] at hgr
      have HGR := Lib.hid hgr
      clear hgr
      by_cases hm : G < xs.size
      · have e : S = .error 4 := by rw [← HS.out]; simp [sizeS, hf, HT.out, HH.out, HG.out, hm]
        subst e
        clear HS
        go_wp2_with fail
        go_quiet ((go_at_call 84; exact quietL (HGR.out _)))
        go_wp2_with fail
        go_quiet (fail)
        go_wp2_with fail
        go_ret2
        exact ⟨rfl, below_drewN (below_drewN ((Below.refl _ _).alloc (Nat.le_refl _) _) _) _⟩
      · have e : S = .ok (h + xs.size) := by rw [← HS.out]; simp [sizeS, hf, HT.out, HH.out, HG.out, hm]
        subst e
        clear HS
        go_wp2_with fail
        go_quiet ((go_at_call 84; exact quietL (HGR.out _)))
        go_wp2_with fail
        go_ret2
        exact ⟨by simp [spanV], below_drewN ((Below.refl _ _).alloc (Nat.le_refl _) _) _⟩
end Go.Proofs.YtchnbknbccpmcaaDoor.F
namespace Go.Proofs.YtchnbknbccpmcaaDoor.F
open Go.RowKit

/-- 'the slice of cells with base A holds the cells cs, in a block below B'. -/
def Cs (w : World) (B : Nat) (A : Option Addr) (cs : List FC) : Prop :=
  cs = [] ∨ ∃ b o, A = some ⟨b, o, none⟩ ∧ b < B ∧ ∀ (k : Nat) (x : FC), cs[k]? = some x →
    w.cell? ⟨b, o + k * 3, none⟩ = some (.int .i64 x.n) ∧ w.cell? ⟨b, o + k * 3 + 1, none⟩ = some (.float .f64 x.f) ∧ w.cell? ⟨b, o + k * 3 + 2, none⟩ = some (.string x.s)

def FC.ok (x : FC) : Prop := -9223372036854775808 ≤ x.n ∧ x.n ≤ 9223372036854775807 ∧ x.f < 18446744073709551616 ∧ x.s.size ≤ maxLen

/-- The sum of the fields' sizes, or the first error. -/
def sumS : List UInt8 → List FC → Except Nat Nat
  | [], _ => .ok 0
  | _, [] => .ok 0
  | c :: l, x :: cs => match sizeS c.toNat x with
    | .error k => .error k
    | .ok n => match sumS l cs with
      | .error k => .error k
      | .ok m => .ok (n + m)
def sizesS (l : List UInt8) (cs : List FC) : Except Nat Nat := if kn l = true ∧ cs.length = l.length then sumS l cs else .error 2

theorem sumS_append {l1 l2 : List UInt8} {c1 c2 : List FC} (h : l1.length = c1.length) : sumS (l1 ++ l2) (c1 ++ c2) = match sumS l1 c1 with
    | .error k => .error k
    | .ok n => match sumS l2 c2 with
      | .error k => .error k
      | .ok m => .ok (n + m) := by
  induction l1 generalizing c1 with
  | nil =>
    have : c1 = [] := List.eq_nil_of_length_eq_zero h.symm
    subst this
    simp [sumS]
    cases sumS l2 c2 <;> rfl
  | cons a l1 ih =>
    match c1, h with
    | x :: c1, h =>
      simp only [List.cons_append, sumS]
      rw [ih (by simpa using h)]
      cases sizeS a.toNat x with
      | error k => rfl
      | ok n =>
        cases sumS l1 c1 with
        | error k => rfl
        | ok m => cases sumS l2 c2 <;> simp [Nat.add_assoc]
theorem sizeS_le {c : Nat} {x : FC} {n : Nat} (h : sizeS c x = .ok n) : n ≤ 65537 := by
  have h8 : hd c ≤ 8 := by unfold hd; repeat' split
                           all_goals omega
  unfold sizeS at h
  split at h
  · injection h with h; omega
  · split at h
    · rename_i ht
      split at h
      · cases h
      · injection h with h
        have := great_text ht
        have h2 : hd c ≤ 2 := by
          unfold isT at ht
          rcases of_decide_eq_true ht with rfl | rfl <;> decide
        omega
    · split at h
      · cases h
      · injection h with h; omega
theorem sumS_one (c : UInt8) (x : FC) : sumS [c] [x] = sizeS c.toNat x := by
  simp only [sumS]
  cases sizeS c.toNat x <;> rfl
theorem sumS_step {l : List UInt8} {cs : List FC} {k m n : Nat} (hl : k < l.length) (hc : k < cs.length) (h : sumS (l.take k) (cs.take k) = .ok m) (hn : sizeS l[k].toNat cs[k] = .ok n) :
    sumS (l.take (k + 1)) (cs.take (k + 1)) = .ok (m + n) := by
  rw [List.take_succ_eq_append_getElem hl, List.take_succ_eq_append_getElem hc, sumS_append (by simp; omega), h, sumS_one, hn]
theorem sumS_stop {l : List UInt8} {cs : List FC} {k m e : Nat} (hl : k < l.length) (hc : k < cs.length) (h : sumS (l.take k) (cs.take k) = .ok m) (hn : sizeS l[k].toNat cs[k] = .error e) :
    sumS l cs = .error e := by
  have e1 : l = l.take k ++ l[k] :: l.drop (k + 1) := by simp
  have e2 : cs = cs.take k ++ cs[k] :: cs.drop (k + 1) := by simp
  rw [e1, e2, sumS_append (by simp; omega), h]
  simp only [sumS, hn]
theorem kn_get {s : ByteArray} (h : kn s.data.toList = true) {k : Nat} (hk : k < s.size) : hd s[k].toNat ≠ 0 := by
  unfold kn at h
  have := List.all_eq_true.1 h s[k] (by simp [ByteArray.getElem_eq_getElem_data])
  simpa using this

theorem Cs.keep {w w' : World} {B : Nat} {A : Option Addr} {cs : List FC} (h : Cs w B A cs) (hb : Below B w w') : Cs w' B A cs := by
  rcases h with rfl | ⟨b, o, h1, h2, h3⟩
  · exact .inl rfl
  · have hk : ∀ j, w'.cell? ⟨b, j, none⟩ = w.cell? ⟨b, j, none⟩ := fun j => hb.cell (p := ⟨b, j, none⟩) h2
    exact .inr ⟨b, o, h1, h2, fun k x hx => by rw [hk, hk, hk]; exact h3 k x hx⟩
theorem Cs.at_ {w : World} {B : Nat} {A : Option Addr} {cs : List FC} (h : Cs w B A cs) {k : Nat} (hk : k < cs.length) :
    ∃ b o, A = some ⟨b, o, none⟩ ∧ b < B ∧ w.cell? ⟨b, o + k * 3, none⟩ = some (.int .i64 cs[k].n) ∧ w.cell? ⟨b, o + k * 3 + 1, none⟩ = some (.float .f64 cs[k].f) ∧ w.cell? ⟨b, o + k * 3 + 2, none⟩ = some (.string cs[k].s) := by
  rcases h with rfl | ⟨b, o, h1, h2, h3⟩
  · simp at hk
  · exact ⟨b, o, h1, h2, h3 k _ (List.getElem?_eq_getElem hk)⟩

theorem fieldSize_ok (E : Nat → Value) (c n : Nat) (x : FC) (w : World) (hE : Errz w E) (h5 : 18 + 1 ≤ w.heap.size) (h0 : hd c ≠ 0) (hx : x.ok) (h : sizeS c x = .ok n) :
    Calls Tryd.prog 78 #[.int .u8 (c : Int), .agg #[.int .i64 x.n, .float .f64 x.f, .string x.s]] w fun e w' => e = .returned (.tuple #[.int .i64 (n : Int), .nilIface]) ∧ Below w.heap.size w w' :=
  (fieldSize_any E c x w hE h5 h0 hx.1 hx.2.1 hx.2.2.2).mono fun _ _ ⟨he, hb⟩ => ⟨by rw [he, h]; rfl, hb⟩
theorem fieldSize_err (E : Nat → Value) (c k : Nat) (x : FC) (w : World) (t : TypeId) (v : Value) (hE : Errz w E) (h5 : 18 + 1 ≤ w.heap.size) (h0 : hd c ≠ 0) (hx : x.ok) (h : sizeS c x = .error k) (hk : E k = .iface t v) :
    Calls Tryd.prog 78 #[.int .u8 (c : Int), .agg #[.int .i64 x.n, .float .f64 x.f, .string x.s]] w fun e w' => e = .returned (.tuple #[.int .i64 0, .iface t v]) ∧ Below w.heap.size w w' :=
  (fieldSize_any E c x w hE h5 h0 hx.1 hx.2.1 hx.2.2.2).mono fun _ _ ⟨he, hb⟩ => ⟨by rw [he, h, spanV, hk], hb⟩
theorem sizeS_err {c : Nat} {x : FC} {k : Nat} (h : sizeS c x = .error k) : k < 5 := by
  unfold sizeS at h
  repeat' split at h
  all_goals first | (injection h with h; omega) | cases h

set_option maxRecDepth 100000 in
theorem sizeS_err2 {c : Nat} {x : FC} {k : Nat} (h : sizeS c x = .error k) : 2 ≤ k := by
  unfold sizeS at h
  repeat' split at h
  all_goals first | (injection h with h; omega) | cases h

set_option maxRecDepth 100000 in

set_option maxHeartbeats 400000 in
theorem size_state (E : Nat → Value) (s : ByteArray) (n cap : Nat) (A : Option Addr) (w : World) (hE : Errz w E) (hs : s.size ≤ maxLen) (h : kn s.data.toList = false ∨ n ≠ s.size) :
    Calls Tryd.prog 67 #[.string s, .slice A n cap] w fun e w' => e = .returned (.tuple #[.int .i64 0, E 2]) ∧ ∃ m, w' = w.drewN m := by
  have hc2 : w.cell? ⟨16, 0, none⟩ = some (E 2) := hE.cell 2 (by omega) (by omega)
  clear hE
  generalize hK : kn s.data.toList = K at *
  have HK := Lib.hid hK
  clear hK
  go_enter Tryd.func67, Tryd.ntmps67
  go_wp2_with fail
  refine (known_any s _ hs).mono ?_
  rintro e w' ⟨rfl, rfl⟩
  rw [HK.out]
  cases K
  · go_wp2_with fail
    go_quiet (fail)
    go_wp2_with fail
    go_ret2
    exact ⟨rfl, _, rfl⟩
  · have hne : ((n : Int) == (s.size : Int)) = false := by simp; simp at h; omega
    go_wp2_with fail
    go_quiet (fail)
    go_wp2_with fail
    go_ret2
    exact ⟨rfl, _, rfl⟩

set_option maxRecDepth 100000 in
set_option maxHeartbeats 400000 in
theorem size_known (E : Nat → Value) (s : ByteArray) (cap : Nat) (A : Option Addr) (cs : List FC) (w : World) (hE : Errz w E) (h5 : 18 + 1 ≤ w.heap.size) (hs : s.size ≤ maxLen) (hk : kn s.data.toList = true) (hn : cs.length = s.size)
    (hcs : Cs w w.heap.size A cs) (hok : ∀ x ∈ cs, x.ok) (hbig : s.size ≤ 4398046511104) :
    Calls Tryd.prog 67 #[.string s, .slice A s.size cap] w fun e w' => e = .returned (spanV E (sumS s.data.toList cs)) ∧ Below w.heap.size w w' := by
  have HE := Lib.hid hE
  clear hE
  have HK := Lib.hid hk
  clear hk
  have HN := Lib.hid hn
  clear hn
  have HC := Lib.hid hcs
  clear hcs
  have HO := Lib.hid hok
  clear hok
  have hs' : s.size ≤ 9223372036854775807 := hs
  go_enter Tryd.func67, Tryd.ntmps67
  go_wp2_with fail
  refine (known_any s _ hs).mono ?_
  rintro e w' ⟨rfl, rfl⟩
  rw [HK.out]
  go_wp2_with fail
  go_loopw [6, 23] (fun t i W => ∃ k m : Nat, k ≤ s.size ∧ i = .int .i64 k ∧ t = .int .i64 m ∧ Hid (sumS (s.data.toList.take k) (cs.take k) = .ok m) ∧ m ≤ 65537 * k ∧ Hid (Below w.heap.size w W)) (fun _ i _ => s.size - (intOf i).toNat)
  case atStart => exact ⟨0, 0, Nat.zero_le _, rfl, rfl, Lib.hid rfl, Nat.le_refl _, Lib.hid (Below.refl _ _)⟩
  case round =>
    obtain ⟨k, m, hk, rfl, rfl, HS, hm, HB⟩ := hrel
    by_cases hlt : k < s.size
    · have hkc : k < cs.length := by rw [HN.out]; exact hlt
      obtain ⟨b, o, rfl, hbB, hc0, hc1, hc2⟩ := (HC.out.keep HB.out).at_ hkc
      generalize hX : cs[k] = x at *
      have HX := Lib.hid hX
      clear hX
      go_wp2_with fail
      have hkI : (0 : Int) ≤ (k : Int) := by omega
      have hkI2 : (k : Int) < (s.size : Int) := by omega
      have hbw : b < wr.heap.size := Nat.lt_of_lt_of_le hbB HB.out.size
      have h5w : 18 + 1 ≤ wr.heap.size := Nat.le_trans h5 HB.out.size
      have HXO : Hid x.ok := Lib.hid (by rw [← HX.out]; exact HO.out _ (List.getElem_mem hkc))
      have HZ := Lib.hid (kn_get HK.out hlt)
      generalize hC : s[k].toNat = c at *
      have HCC := Lib.hid hC
      clear hC
      cases hZS : sizeS c x with
      | error e =>
        obtain ⟨t, v, het⟩ := HE.out.some_ e (sizeS_err2 hZS) (sizeS_err hZS)
        have HZS := Lib.hid hZS
        have HET := Lib.hid het
        clear hZS het
        go_region_held3 (fun w' => w'.cell? ⟨b, o + k * 3, none⟩ = some (.int .i64 x.n) ∧ w'.cell? ⟨b, o + k * 3 + 1, none⟩ = some (.float .f64 x.f) ∧ w'.cell? ⟨b, o + k * 3 + 2, none⟩ = some (.string x.s)) (first | go_keep | exact ⟨(hb1.cell (p := ⟨b, _, none⟩) hbw).trans hc0, (hb1.cell (p := ⟨b, _, none⟩) hbw).trans hc1, (hb1.cell (p := ⟨b, _, none⟩) hbw).trans hc2⟩)
          (first
            | (rw [HCC.out]; go_at_call 78; refine (fieldSize_err E c e x _ t v (by exact (HE.out.below (Nat.le_refl (18 + 1)) ((HB.out.mono h5).drew))) (by exact h5w) HZ.out HXO.out HZS.out HET.out).mono ?_; rintro e w' ⟨rfl, hb1⟩))
        have hz : sizeS (s.data.toList[k]'(by simpa using hlt)).toNat cs[k] = .error e := by
          rw [HX.out, show s.data.toList[k]'(by simpa using hlt) = s[k] from rfl, HCC.out]; exact HZS.out
        have HFIN := Lib.hid (sumS_stop (by simpa using hlt) hkc HS.out hz)
        clear hz
        go_wp2_with fail
        go_ret2
        exact ⟨by rw [HFIN.out, spanV, HET.out]; rfl, HB.out.drew.trans (hb1.mono HB.out.size)⟩
      | ok n =>
        have HZS := Lib.hid hZS
        have hnle := sizeS_le hZS
        clear hZS
        go_region_held3 (fun w' => w'.cell? ⟨b, o + k * 3, none⟩ = some (.int .i64 x.n) ∧ w'.cell? ⟨b, o + k * 3 + 1, none⟩ = some (.float .f64 x.f) ∧ w'.cell? ⟨b, o + k * 3 + 2, none⟩ = some (.string x.s)) (first | go_keep | exact ⟨(hb1.cell (p := ⟨b, _, none⟩) hbw).trans hc0, (hb1.cell (p := ⟨b, _, none⟩) hbw).trans hc1, (hb1.cell (p := ⟨b, _, none⟩) hbw).trans hc2⟩)
          (first
            | (rw [HCC.out]; go_at_call 78; refine (fieldSize_ok E c n x _ (by exact (HE.out.below (Nat.le_refl (18 + 1)) ((HB.out.mono h5).drew))) (by exact h5w) HZ.out HXO.out HZS.out).mono ?_; rintro e w' ⟨rfl, hb1⟩))
        have hz : sizeS (s.data.toList[k]'(by simpa using hlt)).toNat cs[k] = .ok n := by
          rw [HX.out, show s.data.toList[k]'(by simpa using hlt) = s[k] from rfl, HCC.out]; exact HZS.out
        have HFIN := Lib.hid (sumS_step (by simpa using hlt) hkc HS.out hz)
        clear hz
        go_wp2_with fail
        refine ⟨⟨k + 1, m + n, by omega, by go_num, by go_num, HFIN, by omega, Lib.hid (HB.out.drew.trans (hb1.mono HB.out.size))⟩, by simp [intOf]; omega⟩
    · go_wp2_with fail
      go_ret2
      refine ⟨?_, HB.out⟩
      have h1 := HS.out
      rw [List.take_of_length_le (by simp; omega), List.take_of_length_le (by rw [HN.out]; omega)] at h1
      rw [h1]
      rfl
end Go.Proofs.YtchnbknbccpmcaaDoor.F
namespace Go.Proofs.YtchnbknbccpmcaaDoor.F
open Go.RowKit

/-- 'v is a row of bytes of our own, out of v0: only v0's row, and what is new, has turned since w0'. -/
structure Acc (w0 w : World) (base : Nat) (v0 v : Value) (xs : List Value) : Prop where
  own : w.ownsRow base 5 1 v xs.length xs
  grown : w0.grownBy w v0.ownBlock
  lies : v.ownBlock = v0.ownBlock ∨ ∃ g, v.ownBlock = some g ∧ w0.heap.size ≤ g

theorem u8_info : (Tryd.prog.info? 5).map (fun i => (i.zero, i.size, i.bytes)) = some (some (.int .u8 0), 1, 1) := by kernel_rfl

theorem byte_at (size N k : Nat) (hk : k < size) : Value.int .u8 ((N : Int) / 2 ^ (8 * (size - 1 - k)) % 256) = bv ((be size N)[k]'(by rw [be_length]; exact hk)) := by
  rw [be_getElem size N k hk]
  unfold bv
  congr 1
  have e : (256 : Nat) ^ (size - 1 - k) = 2 ^ (8 * (size - 1 - k)) := by rw [Nat.pow_mul]
  rw [e]
  simp
theorem Acc.step {w0 w w1 w2 : World} {base : Nat} {v0 v v2 : Value} {xs ys : List Value} (h : Acc w0 w base v0 v xs) (hb : w.grownBy w1 none) (hown : w2.ownsRow base 5 1 v2 ys.length ys) (hg : w1.grownBy w2 v.ownBlock)
    (hat : v2.ownBlock = v.ownBlock ∨ v2.ownBlock = some w1.heap.size) : Acc w0 w2 base v0 v2 ys := by
  refine ⟨hown, ?_, ?_⟩
  · refine (h.grown.andThen hb (fun j hj => by cases hj)).andThen hg (fun j hj => ?_)
    rcases h.lies with e | ⟨g, e, hge⟩
    · right; rw [← e]; exact hj
    · left; rw [e] at hj; injection hj with hj; omega
  · rcases hat with e | e
    · rcases h.lies with e2 | ⟨g, e2, hge⟩
      · exact .inl (e.trans e2)
      · exact .inr ⟨g, e.trans e2, hge⟩
    · exact .inr ⟨_, e, Nat.le_trans h.grown.size hb.size⟩
theorem grown_alloc (w : World) (o : Obj) : w.grownBy (w.alloc o) none := ⟨rfl, rfl, rfl, by simp, fun k hk _ => Below.heap_alloc w o k hk⟩

set_option maxRecDepth 100000 in
set_option maxHeartbeats 400000 in
theorem appendNumber_any (base : Nat) (v0 : Value) (xs : List Value) (size N : Nat) (w : World) (hown : w.ownsRow base 5 1 v0 xs.length xs) (hbase : base ≤ w.heap.size) (h8 : size ≤ 8)
    (hlen : xs.length + 8 ≤ 140737488355328) :
    Calls Tryd.prog 80 #[v0, .int .i64 (size : Int), .int .u64 (N : Int)] w fun e w' => ∃ v, e = .returned v ∧ Hid (Acc w w' base v0 v (xs ++ (be size N).map bv)) := by
  obtain ⟨i0, hi0, hz0, hz1, hz2⟩ := info_parts u8_info
  have HI := Lib.hid (And.intro hi0 (And.intro hz0 (And.intro hz1 hz2)))
  clear hi0 hz0 hz1 hz2
  have HO := Lib.hid hown
  clear hown
  have hbeL : (be size N).length = size := be_length _ _
  have HBL := Lib.hid hbeL
  clear hbeL
  go_enter Tryd.func80, Tryd.ntmps80
  go_wp2_with fail
  go_loopw [0, 9] (fun v i W => ∃ k : Nat, k ≤ size ∧ i = .int .i64 k ∧ Hid (Acc w W base v0 v (xs ++ ((be size N).take k).map bv))) (fun _ i _ => size - (intOf i).toNat)
  case atStart => exact ⟨0, Nat.zero_le _, rfl, Lib.hid ⟨by simpa using HO.out, World.grownBy.refl _ _, .inl rfl⟩⟩
  case round =>
    obtain ⟨k, hk, rfl, HA⟩ := hrel
    by_cases hlt : k < size
    · have hl1 : (xs ++ ((be size N).take k).map bv).length = xs.length + k := by rw [List.length_append, List.length_map, List.length_take, HBL.out]; omega
      have HL1 := Lib.hid hl1
      clear hl1
      go_wp2_with (first
        | (at_builtin
           refine wpList_append_own_at _ rfl (.tmp 12) (.tmp 21) 22 rfl base 5 i0 _ 1 1 Tryd.underlying22 HI.out.1 HI.out.2.1 HI.out.2.2.1 HI.out.2.2.2 rfl (by omega) u0 _ _ rfl (HA.out.own.alloc _) ⟨wr.heap.size, 0, none⟩ 1 1 [_] rfl rfl (cell_one_new wr _ 5) (by simp [Value.oneCell']) (by rw [HL1.out]; simp only [maxLen]; omega) (by rw [HL1.out]; omega) (by have := HA.out.grown.size; simp; omega) ?_
           intro v1 w1 hown1 hg1 hnil1 hat1))
      refine ⟨⟨k + 1, by omega, by go_num, Lib.hid ?_⟩, by simp [intOf]; omega⟩
      have e : xs ++ ((be size N).take (k + 1)).map bv = (xs ++ ((be size N).take k).map bv) ++ [.int .u8 ((N : Int) / 2 ^ (8 * (size - 1 - k)) % 256)] := by
        rw [byte_at size N k hlt, List.take_succ_eq_append_getElem (by rw [be_length]; exact hlt), List.map_append, List.append_assoc]
        rfl
      rw [e]
      refine HA.out.step (grown_alloc wr _) ?_ hg1 hat1
      rw [List.length_append]
      exact hown1
    · go_wp2_with (fail)
      go_ret
      refine ⟨_, rfl, ?_⟩
      have h1 := HA
      rw [List.take_of_length_le (by rw [HBL.out]; omega)] at h1
      exact h1
end Go.Proofs.YtchnbknbccpmcaaDoor.F
namespace Go.Proofs.YtchnbknbccpmcaaDoor.F
open Go.RowKit

/-- A string's bytes appended to a row of our own that holds something: where the new row lies. -/
theorem run_append_str (w : World) (base : Nat) (v : Value) (n : Nat) (xs : List Value) (hown : w.ownsRow base 5 1 v n xs) (hn : 0 < n) (s : ByteArray) (hb : n + s.size ≤ 140737488355328) (hbase : base ≤ w.heap.size) (ty : TypeId) :
    ∃ v' w', (Builtin.append_ #[22, 9] ty #[v, .string s]).run Tryd.prog w = .ok v' w' ∧ w'.ownsRow base 5 1 v' (n + s.size) (xs ++ s.data.toList.map bv) ∧ w.grownBy w' v.ownBlock ∧
      (v'.ownBlock = v.ownBlock ∨ v'.ownBlock = some w.heap.size) := by
  obtain ⟨i0, hi0, hz0, hz1, hz2⟩ := info_parts u8_info
  obtain ⟨v', w', hr, ho, hg, _⟩ := Lib.run_append_own_string (P := Tryd.prog) w base 22 9 ty 5 i0 Tryd.underlying22 Tryd.underlying9 hi0 hz0 hz1 hz2 v n xs hown s (by simp only [maxLen]; omega) hb hbase
  refine ⟨v', w', hr, ho, hg, ?_⟩
  have hxl : xs.length = n := by simpa using hown.1
  rcases hown.2 with ⟨_, h0⟩ | ⟨g, cap, cur, rfl, hbg, hgg, hnc, hcm, hcs, htake⟩
  · omega
  · by_cases hroom : n + s.size ≤ cap
    · have h2 := Lib.run_append_room_string (P := Tryd.prog) w 22 9 ty 5 i0 Tryd.underlying22 Tryd.underlying9 hi0 hz1 g n cap cur hgg s hroom (by omega)
      rw [h2] at hr
      injection hr with hv hw
      rw [← hv]
      exact .inl rfl
    · have h2 := Lib.run_append_grow_string (P := Tryd.prog) w 22 9 ty 5 i0 _ Tryd.underlying22 Tryd.underlying9 hi0 hz0 ⟨g, 0, none⟩ n cap xs (by rw [hz1]; omega) (hown.cells (g := g) rfl) s (by omega) (by omega) (growslice_fits (by omega) (by rw [hz2]; omega))
      rw [h2] at hr
      injection hr with hv hw
      rw [← hv]
      exact .inr rfl
theorem step_append_str (w : World) {ops : Array Oper} {o : Oper} {a : Act} {K : Act → World → Prop} {Q : Exit → Act → World → Prop} {E : Prop} (hgd : o.guard = none) (t x : Operand)
    (ho : o.op = .call { callee := .builtin .append, args := #[t, x], argTypes := #[22, 9] }) (base : Nat) (v : Value) (n : Nat) (xs : List Value) (s : ByteArray) (hs : a.eval t = v) (hx : a.eval x = .string s) (hown : w.ownsRow base 5 1 v n xs) (hn : 0 < n)
    (hb : n + s.size ≤ 140737488355328) (hbase : base ≤ w.heap.size)
    (h : ∀ v' w', w'.ownsRow base 5 1 v' (n + s.size) (xs ++ s.data.toList.map bv) → w.grownBy w' v.ownBlock → (v'.ownBlock = v.ownBlock ∨ v'.ownBlock = some w.heap.size) → K (a.put o.dst v') w') :
    if Region.wanted o (yielded ops a.tmps) = true then Oper.wp Tryd.prog o a w K Q else E := by
  have hw : Region.wanted o (yielded ops a.tmps) = true := by simp [Region.wanted, hgd]
  rw [if_pos hw]
  obtain ⟨v', w', hr, h2, h3, h4⟩ := run_append_str w base v n xs hown hn s hb hbase o.type
  unfold Oper.wp execOp
  simp only [ho, resolve, invoke, builtin, Sem.run_bind, Sem.run_pure, Result.andThen_ok, List.map_toArray, List.map_cons, List.map_nil, hs, hx, hr]
  exact h v' w' h2 h3 h4

/-- A field's bytes. -/
def fieldB (c : Nat) (x : FC) : List UInt8 :=
  if c = 102 then be (hd c) x.f else if isT c = true then be (hd c) x.s.size ++ x.s.data.toList else be (hd c) x.n.toNat

theorem Acc.box {w w' : World} {o : Obj} {base : Nat} {v0 v : Value} {ys : List Value} (h : Acc (w.alloc o) w' base v0 v ys) : Acc w w' base v0 v ys :=
  ⟨h.own, ⟨h.grown.os, h.grown.tape, h.grown.output, Nat.le_trans (by simp) h.grown.size, fun k hk hne => (h.grown.block k (by simp; omega) hne).trans (Below.heap_alloc w o k hk)⟩, by
    rcases h.lies with e | ⟨g, e, hg⟩
    · exact .inl e
    · exact .inr ⟨g, e, by simp at hg; omega⟩⟩

theorem Acc.ne {W w' : World} {base B : Nat} {v0 v : Value} {ys : List Value} (h : Acc W w' base v0 v ys) (hne : some B ≠ v0.ownBlock) (hB : B < W.heap.size) : some B ≠ v.ownBlock := by
  rcases h.lies with e | ⟨g, e, hg⟩
  · rw [e]; exact hne
  · rw [e]; intro h; injection h with h; omega
theorem Acc.then {w0 w w2 : World} {base : Nat} {v0 v v2 : Value} {xs ys : List Value} (h : Acc w0 w base v0 v xs) (hown : w2.ownsRow base 5 1 v2 ys.length ys) (hg : w.grownBy w2 v.ownBlock)
    (hat : v2.ownBlock = v.ownBlock ∨ v2.ownBlock = some w.heap.size) : Acc w0 w2 base v0 v2 ys := h.step (World.grownBy.refl _ _) hown hg hat
theorem Acc.undrew {w w' : World} {base : Nat} {v0 v : Value} {ys : List Value} (h : Acc w.drew w' base v0 v ys) : Acc w w' base v0 v ys := ⟨h.own, ⟨h.grown.os, h.grown.tape, h.grown.output, h.grown.size, h.grown.block⟩, h.lies⟩

theorem step_append_acc (w0 w : World) {ops : Array Oper} {o : Oper} {a : Act} {K : Act → World → Prop} {Q : Exit → Act → World → Prop} {E : Prop} (hgd : o.guard = none) (t x : Operand)
    (ho : o.op = .call { callee := .builtin .append, args := #[t, x], argTypes := #[22, 9] }) (base : Nat) (v0 : Value) (xs : List Value) (s : ByteArray) (hx : a.eval x = .string s) (HA : Hid (Acc w0 w base v0 (a.eval t) xs)) (hn : 0 < xs.length)
    (hb : xs.length + s.size ≤ 140737488355328) (hbase : base ≤ w0.heap.size)
    (h : ∀ v' w', Hid (Acc w0 w' base v0 v' (xs ++ s.data.toList.map bv)) → K (a.put o.dst v') w') :
    if Region.wanted o (yielded ops a.tmps) = true then Oper.wp Tryd.prog o a w K Q else E :=
  step_append_str w hgd t x ho base _ xs.length xs s rfl hx HA.out.own hn hb (Nat.le_trans hbase HA.out.grown.size) fun v' w' h1 h2 h3 => h v' w' (Lib.hid (HA.out.then (by rw [List.length_append, List.length_map]; exact h1) h2 h3))

set_option maxRecDepth 100000 in
set_option maxHeartbeats 400000 in
theorem appendField_any (base : Nat) (v0 : Value) (xs : List Value) (c : Nat) (x : FC) (w : World) (hown : w.ownsRow base 5 1 v0 xs.length xs) (hbase : base ≤ w.heap.size) (h0 : hd c ≠ 0) (hx : x.ok)
    (hlen : xs.length + 8 ≤ 140737488355328) (hlen2 : isT c = true → xs.length + 8 + x.s.size ≤ 140737488355328) (hneg : 0 ≤ x.n ∨ isT c = true ∨ c = 102) :
    Calls Tryd.prog 68 #[v0, .int .u8 (c : Int), .agg #[.int .i64 x.n, .float .f64 x.f, .string x.s]] w fun e w' => ∃ v, e = .returned v ∧ Hid (Acc w w' base v0 v (xs ++ (fieldB c x).map bv)) := by
  have HO := Lib.hid hown
  clear hown
  obtain ⟨xn, xf, s⟩ := x
  have hx1 : -9223372036854775808 ≤ xn := hx.1
  have hx2 : xn ≤ 9223372036854775807 := hx.2.1
  have hx3 : xf < 18446744073709551616 := hx.2.2.1
  clear hx
  have HL := Lib.hid (show isT c = true → xs.length + 8 + s.size ≤ 140737488355328 from hlen2)
  clear hlen2
  simp only at *
  have hq := hd_cases h0
  have hbt := run_bits
  generalize hS : fieldB c ⟨xn, xf, s⟩ = S
  have HS := Lib.hid hS
  clear hS
  generalize hH : hd c = h at *
  have HH := Lib.hid hH
  clear hH
  go_enter Tryd.func68, Tryd.ntmps68
  go_wp2_with fail
  refine (headSize_any _ _).mono ?_
  rintro e w' ⟨rfl, rfl⟩
  rw [HH.out]
  by_cases hf : c = 102
  · have hf' : ((c : Int) == 102) = true := by simp [hf]
    have e : S = be h xf := by rw [← HS.out]; simp [fieldB, hf]; rw [← hf, HH.out]
    subst e
    clear HS
    go_wp2_with fail
    refine (appendNumber_any base v0 xs h xf _ (HO.out.alloc _) (by simp; omega) (by omega) (by omega)).mono ?_
    rintro e w' ⟨v, rfl, HA⟩
    go_wp2_with fail
    go_ret
    exact ⟨_, rfl, Lib.hid HA.out.box⟩
  · have hf' : ((c : Int) == 102) = false := by simp; omega
    go_wp2_with fail
    refine (isText_any _ _).mono ?_
    rintro e w' ⟨rfl, rfl⟩
    cases hT : isT c
    · have HT := Lib.hid hT
      have hpos : 0 ≤ xn := by
        rcases hneg with h1 | h1 | h1
        · exact h1
        · rw [hT] at h1; cases h1
        · exact absurd h1 hf
      clear hT hneg
      obtain ⟨N, rfl⟩ := Int.eq_ofNat_of_zero_le hpos
      have hw := u64_in (a := (N : Int)) (by omega) (by omega)
      have e : S = be h N := by rw [← HS.out]; simp [fieldB, hf, HT.out, HH.out]
      subst e
      clear HS
      go_wp2_with fail
      refine (appendNumber_any base v0 xs h N _ (HO.out.alloc _) (by simp; omega) (by omega) (by omega)).mono ?_
      rintro e w' ⟨v, rfl, HA⟩
      go_wp2_with fail
      go_ret
      exact ⟨_, rfl, Lib.hid HA.out.box⟩
    · have HT := Lib.hid hT
      clear hT hneg
      have hlen' := HL.out HT.out
      have hw := u64_in (a := (s.size : Int)) (by omega) (by omega)
      have e : S = be h s.size ++ s.data.toList := by rw [← HS.out]; simp [fieldB, hf, HT.out, HH.out]
      subst e
      clear HS
      have hne : some w.heap.size ≠ v0.ownBlock := by
        intro e
        have := HO.out.lt _ e.symm
        omega
      have HOW := Lib.hid (HO.out.alloc (.cells #[.int .i64 xn, .float .f64 xf, .string s] 61))
      have hcell : (w.alloc (.cells #[.int .i64 xn, .float .f64 xf, .string s] 61)).cell? ⟨w.heap.size, 2, none⟩ = some (.string s) := by simp
      have hWs : (w.alloc (.cells #[.int .i64 xn, .float .f64 xf, .string s] 61)).heap.size = w.heap.size + 1 := by simp
      have hbx : ∀ (w' : World) (v : Value) (ys : List Value), Acc (w.alloc (.cells #[.int .i64 xn, .float .f64 xf, .string s] 61)) w' base v0 v ys → Acc w w' base v0 v ys := fun _ _ _ h => h.box
      have HBX := Lib.hid hbx
      clear hbx
      go_wp2_with fail
      generalize hW : w.alloc (.cells #[.int .i64 xn, .float .f64 xf, .string s] 61) = W at *
      clear hW
      have HWS := Lib.hid hWs
      have hWs1 : w.heap.size < W.heap.size := by rw [HWS.out]; omega
      clear hWs
      generalize hB : w.heap.size = B at *
      clear hB
      have hl2 : (xs ++ (be h s.size).map bv).length = xs.length + h := by rw [List.length_append, List.length_map, be_length]
      have HL2 := Lib.hid hl2
      clear hl2
      go_region_held3 (fun w' => w'.cell? ⟨B, 2, none⟩ = some (.string s)) (first | go_keep | exact HA2.out.grown.cell hcell hne | exact HA.out.grown.cell hcell hne)
        (first
          | (go_at_call 80; refine (appendNumber_any base v0 xs h s.size _ (by exact HOW.out) (by show base ≤ W.heap.size; omega) (by omega) (by omega)).mono ?_; rintro e w' ⟨v, rfl, HA⟩)
          | (refine step_append_acc W.drew _ ?_ (.tmp 28) (.tmp 30) ?_ base v0 (xs ++ (be h s.size).map bv) s ?_ ?_ ?_ ?_ ?_ ?_; exact rfl; exact rfl; exact rfl; exact HA; (rw [HL2.out]; omega); (rw [HL2.out]; omega); (show base ≤ W.heap.size; omega); intro v2 w2 HA2))
      have HF := Lib.hid (HBX.out _ _ _ HA2.out.undrew)
      clear HA HA2 hbt
      go_wp2_with fail
      go_ret
      refine ⟨_, rfl, Lib.hid ?_⟩
      have e1 := HF.out
      rw [List.append_assoc, ← List.map_append] at e1
      exact e1
end Go.Proofs.YtchnbknbccpmcaaDoor.F
namespace Go.Proofs.YtchnbknbccpmcaaDoor.F
open Go.RowKit

theorem size_any (E : Nat → Value) (s : ByteArray) (n cap : Nat) (A : Option Addr) (cs : List FC) (w : World) (hE : Errz w E) (h5 : 18 + 1 ≤ w.heap.size) (hs : s.size ≤ maxLen) (hn : cs.length = n)
    (hcs : Cs w w.heap.size A cs) (hok : ∀ x ∈ cs, x.ok) (hbig : n ≤ 4398046511104) :
    Calls Tryd.prog 67 #[.string s, .slice A n cap] w fun e w' => e = .returned (spanV E (sizesS s.data.toList cs)) ∧ Below w.heap.size w w' := by
  by_cases h : kn s.data.toList = true ∧ cs.length = s.data.toList.length
  · have hl : n = s.size := by rw [← hn, h.2]; simp
    subst hl
    refine (size_known E s cap A cs w hE h5 hs h.1 hn hcs hok hbig).mono fun e w' ⟨he, hb⟩ => ⟨?_, hb⟩
    rw [he, sizesS, if_pos h]
  · refine (size_state E s n cap A w hE hs ?_).mono fun e w' ⟨he, m, hw⟩ => ⟨?_, ?_⟩
    · cases hk : kn s.data.toList
      · exact .inl rfl
      · right
        intro e
        exact h ⟨hk, by rw [hn, e]; simp⟩
    · rw [he, sizesS, if_neg h]
      rfl
    · rw [hw]
      exact below_drewN (Below.refl _ _) _

/-- The bytes of all fields. -/
def encB : List UInt8 → List FC → List UInt8
  | c :: l, x :: cs => fieldB c.toNat x ++ encB l cs
  | _, _ => []

theorem encB_append {l1 l2 : List UInt8} {c1 c2 : List FC} (h : l1.length = c1.length) : encB (l1 ++ l2) (c1 ++ c2) = encB l1 c1 ++ encB l2 c2 := by
  induction l1 generalizing c1 with
  | nil =>
    have : c1 = [] := List.eq_nil_of_length_eq_zero h.symm
    subst this
    simp [encB]
  | cons a l1 ih =>
    match c1, h with
    | x :: c1, h =>
      simp only [List.cons_append, encB]
      rw [ih (by simpa using h), List.append_assoc]
theorem encB_one (c : UInt8) (x : FC) : encB [c] [x] = fieldB c.toNat x := by simp [encB]
theorem encB_step {l : List UInt8} {cs : List FC} {k : Nat} (hl : k < l.length) (hc : k < cs.length) : encB (l.take (k + 1)) (cs.take (k + 1)) = encB (l.take k) (cs.take k) ++ fieldB l[k].toNat cs[k] := by
  rw [List.take_succ_eq_append_getElem hl, List.take_succ_eq_append_getElem hc, encB_append (by simp; omega), encB_one]
theorem fieldB_length {c : Nat} {x : FC} {n : Nat} (h : sizeS c x = .ok n) : (fieldB c x).length = n := by
  unfold sizeS at h
  unfold fieldB
  split at h
  · rename_i hf
    injection h with h
    rw [if_pos hf, be_length, h]
  · rename_i hf
    rw [if_neg hf]
    split at h
    · rename_i ht
      rw [if_pos ht]
      split at h
      · cases h
      · injection h with h
        rw [List.length_append, be_length, ← h]
        simp
    · rename_i ht
      rw [if_neg ht]
      split at h
      · cases h
      · injection h with h
        rw [be_length, h]
theorem encB_length {l : List UInt8} {cs : List FC} {m : Nat} (h : sumS l cs = .ok m) : (encB l cs).length = m := by
  induction l generalizing cs m with
  | nil => simp only [sumS] at h; injection h with h
  | cons a l ih =>
    match cs with
    | [] => simp only [sumS] at h; injection h with h
    | x :: cs =>
      simp only [sumS] at h
      split at h
      · cases h
      · rename_i n hn
        split at h
        · cases h
        · rename_i m' hm
          injection h with h
          simp only [encB, List.length_append, fieldB_length hn, ih hm, h]
theorem sumS_get {l : List UInt8} {cs : List FC} {k m : Nat} (hl : k < l.length) (hc : k < cs.length) (h : sumS l cs = .ok m) : ∃ n, sizeS l[k].toNat cs[k] = .ok n := by
  induction l generalizing cs m k with
  | nil => simp at hl
  | cons a l ih =>
    match cs with
    | [] => simp at hc
    | x :: cs =>
      simp only [sumS] at h
      split at h
      · cases h
      · rename_i n hn
        split at h
        · cases h
        · rename_i m' hm
          match k with
          | 0 => exact ⟨n, hn⟩
          | k + 1 => exact ih (by simpa using hl) (by simpa using hc) hm
theorem encB_take_le {l : List UInt8} {cs : List FC} {m : Nat} (k : Nat) (hlc : l.length = cs.length) (h : sumS l cs = .ok m) : (encB (l.take k) (cs.take k)).length ≤ m := by
  have e := encB_length h
  have e2 : encB l cs = encB (l.take k) (cs.take k) ++ encB (l.drop k) (cs.drop k) := by
    rw [← encB_append (by simp [hlc]), List.take_append_drop, List.take_append_drop]
  rw [e2, List.length_append] at e
  omega
theorem sizeS_pos {c : Nat} {x : FC} {n : Nat} (h : sizeS c x = .ok n) : 0 ≤ x.n ∨ isT c = true ∨ c = 102 := by
  by_cases hf : c = 102
  · exact .inr (.inr hf)
  · cases ht : isT c
    · unfold sizeS at h
      rw [if_neg hf, ht] at h
      simp only [Bool.false_eq_true, if_false] at h
      split at h
      · cases h
      · rename_i hh
        exact .inl (by omega)
    · exact .inr (.inl rfl)
theorem sizeS_text {c : Nat} {x : FC} {n : Nat} (h : sizeS c x = .ok n) (ht : isT c = true) : x.s.size ≤ 65535 := by
  have hf : c ≠ 102 := by rintro rfl; revert ht; decide
  unfold sizeS at h
  rw [if_neg hf, if_pos ht] at h
  split at h
  · cases h
  · have := great_text ht
    omega

set_option maxRecDepth 100000 in
set_option maxHeartbeats 400000 in
theorem encode_err (E : Nat → Value) (s : ByteArray) (n cap : Nat) (A : Option Addr) (cs : List FC) (w : World) (hE : Errz w E) (h5 : 18 + 1 ≤ w.heap.size) (hs : s.size ≤ maxLen) (hn : cs.length = n)
    (hcs : Cs w w.heap.size A cs) (hok : ∀ x ∈ cs, x.ok) (hbig : n ≤ 4398046511104) (k : Nat) (t : TypeId) (v : Value) (hk : E k = .iface t v) (h : sizesS s.data.toList cs = .error k) :
    Calls Tryd.prog 54 #[.string s, .slice A n cap] w fun e w' => e = .returned (.tuple #[.slice none 0 0, .iface t v]) ∧ Below w.heap.size w w' := by
  have H := Lib.hid ((size_any E s n cap A cs w hE h5 hs hn hcs hok hbig).mono (R' := fun e w' => e = .returned (.tuple #[.int .i64 0, .iface t v]) ∧ Below w.heap.size w w') fun e w' ⟨he, hb⟩ => ⟨by rw [he, h, spanV, hk], hb⟩)
  clear hE hs hn hcs hok h hk
  go_enter Tryd.func54, Tryd.ntmps54
  go_wp2_with fail
  refine H.out.mono ?_
  rintro e w' ⟨rfl, hb⟩
  go_wp2_with fail
  go_ret2
  exact ⟨rfl, hb⟩

set_option maxRecDepth 100000 in
set_option maxHeartbeats 400000 in
theorem encode_ok (E : Nat → Value) (s : ByteArray) (cap : Nat) (A : Option Addr) (cs : List FC) (w : World) (hE : Errz w E) (h5 : 18 + 1 ≤ w.heap.size) (hs : s.size ≤ maxLen) (hn : cs.length = s.size)
    (hcs : Cs w w.heap.size A cs) (hok : ∀ x ∈ cs, x.ok) (hbig : s.size ≤ 4398046511104) (total : Nat) (hk : kn s.data.toList = true) (h : sumS s.data.toList cs = .ok total) (ht : total ≤ 100000000000000) :
    Calls Tryd.prog 54 #[.string s, .slice A s.size cap] w fun e w' => ∃ v, e = .returned (.tuple #[v, .nilIface]) ∧ Hid (w'.ownsRow w.heap.size 5 1 v (encB s.data.toList cs).length ((encB s.data.toList cs).map bv) ∧ Below w.heap.size w w') := by
  have H := Lib.hid ((size_known E s cap A cs w hE h5 hs hk hn hcs hok hbig).mono (R' := fun e w' => e = .returned (.tuple #[.int .i64 (total : Int), .nilIface]) ∧ Below w.heap.size w w') fun e w' ⟨he, hb⟩ => ⟨by rw [he, h]; rfl, hb⟩)
  obtain ⟨i0, hi0, hz0, hz1, hz2⟩ := info_parts u8_info
  have HI := Lib.hid (And.intro hi0 (And.intro hz0 (And.intro hz1 hz2)))
  clear hi0 hz0 hz1 hz2
  have HE := Lib.hid hE
  have HK := Lib.hid hk
  have HN := Lib.hid hn
  have HC := Lib.hid hcs
  have HO := Lib.hid hok
  have HT := Lib.hid h
  clear hE hk hn hcs hok h
  go_enter Tryd.func54, Tryd.ntmps54
  go_wp2_with fail
  refine H.out.mono ?_
  rintro e w1 ⟨rfl, hb1⟩
  have HB1 := Lib.hid hb1
  clear hb1
  go_wp2_with (first
    | (refine wpList_make_own _ rfl _ _ 22 rfl w.heap.size 5 i0 _ 1 Tryd.underlying22 HI.out.1 HI.out.2.1 HI.out.2.2.1 .i64 .i64 _ total rfl rfl rfl (by rw [HI.out.2.2.2]; omega) (by simp only [maxLen]; omega) HB1.out.size ?_
       intro w2 hown2 hg2))
  go_loopw [8, 23] (fun v i W => ∃ k : Nat, k ≤ s.size ∧ i = .int .i64 k ∧ Hid (W.ownsRow w.heap.size 5 1 v (encB (s.data.toList.take k) (cs.take k)).length ((encB (s.data.toList.take k) (cs.take k)).map bv) ∧ Below w.heap.size w W)) (fun _ i _ => s.size - (intOf i).toNat)
  case atStart => exact ⟨0, Nat.zero_le _, rfl, Lib.hid ⟨by simpa [encB] using hown2, HB1.out.grown hg2 HB1.out.size (fun k hk => by cases hk)⟩⟩
  case round =>
    clear H HB1 hown2 hg2
    obtain ⟨k, hk, rfl, HR⟩ := hrel
    by_cases hlt : k < s.size
    · have hkc : k < cs.length := by rw [HN.out]; exact hlt
      obtain ⟨b, o, rfl, hbB, hc0, hc1, hc2⟩ := (HC.out.keep HR.out.2).at_ hkc
      obtain ⟨n, hz⟩ := sumS_get (by simpa using hlt) hkc HT.out
      have hle := encB_take_le k (by simp [HN.out]) HT.out
      have HST := Lib.hid (encB_step (l := s.data.toList) (cs := cs) (k := k) (by simpa using hlt) hkc)
      have e1 : s.data.toList[k]'(by simpa using hlt) = s[k] := rfl
      rw [e1] at hz HST
      clear e1
      generalize hX : cs[k] = x at *
      have HX := Lib.hid hX
      clear hX
      have HXO : Hid x.ok := Lib.hid (by rw [← HX.out]; exact HO.out _ (List.getElem_mem hkc))
      have HZ := Lib.hid (kn_get HK.out hlt)
      generalize hC : s[k].toNat = c at *
      have HCC := Lib.hid hC
      clear hC
      have HZS := Lib.hid hz
      clear hz
      generalize hEB : encB (s.data.toList.take k) (cs.take k) = eb at *
      have HEB := Lib.hid hEB
      clear hEB
      have hbw : b < wr.heap.size := Nat.lt_of_lt_of_le hbB HR.out.2.size
      have hbaseW : w.heap.size ≤ wr.heap.size := HR.out.2.size
      have hne : some b ≠ u8.ownBlock := by
        intro e
        have := HR.out.1.lt _ e.symm
        omega
      have hkI : (0 : Int) ≤ (k : Int) := by omega
      have hkI2 : (k : Int) < (s.size : Int) := by omega
      go_wp2_with fail
      go_region_held3 (fun w' => w'.cell? ⟨b, o + k * 3, none⟩ = some (.int .i64 x.n) ∧ w'.cell? ⟨b, o + k * 3 + 1, none⟩ = some (.float .f64 x.f) ∧ w'.cell? ⟨b, o + k * 3 + 2, none⟩ = some (.string x.s))
        (first | go_keep | exact ⟨HA.out.grown.cell hc0 hne, HA.out.grown.cell hc1 hne, HA.out.grown.cell hc2 hne⟩)
        (first
          | (rw [HCC.out]; go_at_call 68; refine (appendField_any w.heap.size u8 (eb.map bv) c x _ (by rw [List.length_map]; exact HR.out.1) (by exact hbaseW) HZ.out HXO.out (by rw [List.length_map]; omega) (by intro h2; have := sizeS_text HZS.out h2; rw [List.length_map]; omega) (sizeS_pos HZS.out)).mono ?_; rintro e w' ⟨v, rfl, HA⟩))
      go_wp2_with fail
      refine ⟨⟨k + 1, by omega, by go_num, Lib.hid ?_⟩, by simp [intOf]; omega⟩
      rw [HST.out]
      refine ⟨?_, (HR.out.2.drew).grown HA.out.grown hbaseW (fun j hj => (HR.out.1.lt j hj).1)⟩
      have h1 := HA.out.own
      rw [← List.map_append, List.length_map] at h1
      exact h1
    · go_wp2_with fail
      go_ret2
      refine ⟨_, rfl, ?_⟩
      have h1 := HR.out
      rw [List.take_of_length_le (by simp; omega), List.take_of_length_le (by rw [HN.out]; omega)] at h1
      exact h1
end Go.Proofs.YtchnbknbccpmcaaDoor.F
namespace Go.Proofs.YtchnbknbccpmcaaDoor.F
open Go.RowKit

theorem spanS_le {c : Nat} {bs : List UInt8} {n : Nat} (h : spanS c bs = .ok n) : n ≤ bs.length ∧ hd c ≤ n := by
  unfold spanS at h
  repeat' split at h
  all_goals first
    | cases h; done
    | (injection h with h; omega)
theorem spanS_err {c : Nat} {bs : List UInt8} {k : Nat} (h : spanS c bs = .error k) : k < 5 := by
  unfold spanS at h
  repeat' split at h
  all_goals first
    | (injection h with h; omega)
    | cases h

theorem span_ok (E : Nat → Value) (c n cap B m : Nat) (A : Option Addr) (bs : List UInt8) (w : World) (hE : Errs w E) (h0 : hd c ≠ 0) (hn : bs.length = n) (hmax : n ≤ maxLen) (hcap : n ≤ cap)
    (hr : Rd w B A (bs.map bv)) (h : spanS c bs = .ok m) :
    Calls Tryd.prog 70 #[.int .u8 (c : Int), .slice A n cap] w fun e w' => e = .returned (.tuple #[.int .i64 (m : Int), .nilIface]) ∧ ∃ j, w' = w.drewN j :=
  (span_any E c n cap B A bs w hE h0 hn hmax hcap hr).mono fun _ _ ⟨he, hw⟩ => ⟨by rw [he, h]; rfl, hw⟩
theorem span_err (E : Nat → Value) (c n cap B k : Nat) (A : Option Addr) (bs : List UInt8) (w : World) (t : TypeId) (v : Value) (hE : Errs w E) (h0 : hd c ≠ 0) (hn : bs.length = n) (hmax : n ≤ maxLen) (hcap : n ≤ cap)
    (hr : Rd w B A (bs.map bv)) (h : spanS c bs = .error k) (hk : E k = .iface t v) :
    Calls Tryd.prog 70 #[.int .u8 (c : Int), .slice A n cap] w fun e w' => e = .returned (.tuple #[.int .i64 0, .iface t v]) ∧ ∃ j, w' = w.drewN j :=
  (span_any E c n cap B A bs w hE h0 hn hmax hcap hr).mono fun _ _ ⟨he, hw⟩ => ⟨by rw [he, h, spanV, hk], hw⟩
theorem Errs.drewN {w : World} {E : Nat → Value} (h : Errs w E) (n : Nat) : Errs (w.drewN n) E := ⟨h.cell, h.some_⟩
theorem Rd.drewN {w : World} {B : Nat} {A : Option Addr} {xs : List Value} (h : Rd w B A xs) (n : Nat) : Rd (w.drewN n) B A xs := h

theorem Errs.quiet {w W : World} {E : Nat → Value} (h : Errs w E) (hw : ∃ j, W = w.drewN j) : Errs W E := by
  obtain ⟨j, rfl⟩ := hw
  exact h.drewN j
theorem Rd.quiet {w W : World} {B : Nat} {A : Option Addr} {xs : List Value} (h : Rd w B A xs) (hw : ∃ j, W = w.drewN j) : Rd W B A xs := by
  obtain ⟨j, rfl⟩ := hw
  exact h.drewN j
end Go.Proofs.YtchnbknbccpmcaaDoor.F
namespace Go.Proofs.YtchnbknbccpmcaaDoor.F
open Go.RowKit

/-- The cells of a row of fields, one behind the other. -/
def flat (cs : List FC) : List Value := cs.flatMap fun x => [.int .i64 x.n, .float .f64 x.f, .string x.s]
theorem flat_snoc (cs : List FC) (x : FC) : flat (cs ++ [x]) = flat cs ++ [.int .i64 x.n, .float .f64 x.f, .string x.s] := by simp [flat]

/-- The fields of bytes, or the error. -/
def decS : List UInt8 → List UInt8 → Except Nat (List FC)
  | [], bs => if bs = [] then .ok [] else .error 0
  | c :: l, bs => match spanS c.toNat bs with
    | .error k => .error k
    | .ok n => match decS l (bs.drop n) with
      | .error k => .error k
      | .ok r => .ok (cellS c.toNat (bs.take n) :: r)
def thenD (acc : List FC) : Except Nat (List FC) → Except Nat (List FC)
  | .error k => .error k
  | .ok r => .ok (acc ++ r)
theorem thenD_nil (r : Except Nat (List FC)) : thenD [] r = r := by cases r <;> rfl
theorem decS_err {c : UInt8} {l bs : List UInt8} {e : Nat} (h : spanS c.toNat bs = .error e) : decS (c :: l) bs = .error e := by rw [decS, h]
theorem decS_ok {c : UInt8} {l bs : List UInt8} {n : Nat} (acc : List FC) (h : spanS c.toNat bs = .ok n) : thenD acc (decS (c :: l) bs) = thenD (acc ++ [cellS c.toNat (bs.take n)]) (decS l (bs.drop n)) := by
  rw [decS, h]
  cases hd : decS l (bs.drop n) <;> simp [thenD, hd]
/-- What Decode leaves. -/
def DecPost (E : Nat → Value) (w : World) (r : Except Nat (List FC)) (e : Ending) (w' : World) : Prop :=
  match r with
  | .error k => e = .returned (.tuple #[.slice none 0 0, E k]) ∧ Below w.heap.size w w'
  | .ok cs => ∃ v, e = .returned (.tuple #[v, .nilIface]) ∧ w'.ownsRow w.heap.size 61 3 v cs.length (flat cs) ∧ Below w.heap.size w w'

theorem cell_info : (Tryd.prog.info? 61).map (fun i => (i.zero, i.size, i.bytes)) = some (some (.agg #[.int .i64 0, .float .f64 0, .string ⟨#[]⟩]), 3, 32) := by kernel_rfl

theorem step_append_cell (w : World) {ops : Array Oper} {o : Oper} {a : Act} {K : Act → World → Prop} {Q : Exit → Act → World → Prop} {E : Prop} (hgd : o.guard = none) (t x : Operand)
    (ho : o.op = .call { callee := .builtin .append, args := #[t, x], argTypes := #[84, 84] }) (base n : Nat) (xs : List Value) (c : FC) (hx : ∃ H, a.eval x = .slice (some ⟨H, 0, none⟩) 1 1 ∧ w.cell? ⟨H, 0, none⟩ = some (.int .i64 c.n) ∧ w.cell? ⟨H, 1, none⟩ = some (.float .f64 c.f) ∧ w.cell? ⟨H, 2, none⟩ = some (.string c.s))
    (hown : w.ownsRow base 61 3 (a.eval t) n xs) (hb : n + 1 ≤ 4398046511104) (hbase : base ≤ w.heap.size)
    (h : ∀ v' w', w'.ownsRow base 61 3 v' (n + 1) (xs ++ [.int .i64 c.n, .float .f64 c.f, .string c.s]) → w.grownBy w' (a.eval t).ownBlock → K (a.put o.dst v') w') :
    if Region.wanted o (yielded ops a.tmps) = true then Oper.wp Tryd.prog o a w K Q else E := by
  have hw : Region.wanted o (yielded ops a.tmps) = true := by simp [Region.wanted, hgd]
  rw [if_pos hw]
  obtain ⟨H, hx, h0, h1, h2⟩ := hx
  obtain ⟨i0, hi0, hz0, hz1, hz2⟩ := info_parts cell_info
  obtain ⟨v', w', hr, hh2, hh3, _⟩ := run_append_own_at (P := Tryd.prog) w base 84 o.type 61 i0 _ 3 32 Tryd.underlying84 hi0 hz0 hz1 hz2 rfl (by omega) (a.eval t) n xs hown ⟨H, 0, none⟩ 1 1 [.int .i64 c.n, .float .f64 c.f, .string c.s] rfl
    (by
      intro j u hj
      match j with
      | 0 => simp at hj; rw [← hj]; exact h0
      | 1 => simp at hj; rw [← hj]; simpa [Addr.add] using h1
      | 2 => simp at hj; rw [← hj]; simpa [Addr.add] using h2
      | j + 3 => simp at hj)
    (by intro u hu; simp at hu; rcases hu with rfl | rfl | rfl <;> rfl) (by simp only [maxLen]; omega) (by omega) hbase
  unfold Oper.wp execOp
  simp only [ho, resolve, invoke, builtin, Sem.run_bind, Sem.run_pure, Result.andThen_ok, List.map_toArray, List.map_cons, List.map_nil, hx, hr]
  exact h v' w' hh2 hh3

set_option maxRecDepth 100000 in
set_option maxHeartbeats 400000 in
theorem decode_state (E : Nat → Value) (s : ByteArray) (n cap : Nat) (A : Option Addr) (w : World) (hE : Errs w E) (hs : s.size ≤ maxLen) (h : kn s.data.toList = false) :
    Calls Tryd.prog 57 #[.string s, .slice A n cap] w fun e w' => e = .returned (.tuple #[.slice none 0 0, E 2]) ∧ ∃ m, w' = w.drewN m := by
  have hc2 : w.cell? ⟨16, 0, none⟩ = some (E 2) := hE.cell 2 (by omega)
  clear hE
  have HK := Lib.hid h
  clear h
  go_enter Tryd.func57, Tryd.ntmps57
  go_wp2_with fail
  refine (known_any s _ hs).mono ?_
  rintro e w' ⟨rfl, rfl⟩
  rw [HK.out]
  go_wp2_with fail
  go_quiet (fail)
  go_wp2_with fail
  go_ret2
  exact ⟨rfl, _, rfl⟩

theorem spanS_num_le {c : Nat} {bs : List UInt8} {m : Nat} (h0 : hd c ≠ 0) (h : spanS c bs = .ok m) (ht : isT c = false) (hf : c ≠ 102) : num ((bs.take m).take (hd c)) ≤ 9223372036854775807 := by
  have hle := spanS_le h
  have hg := great_le (hd_cases h0)
  rw [List.take_take, Nat.min_eq_left hle.2]
  unfold spanS at h
  split at h
  · cases h
  · rw [ht] at h
    simp only [Bool.false_eq_true, if_false] at h
    split at h
    · cases h
    · rename_i hh
      have : ¬ great (hd c) < num (bs.take (hd c)) := fun e => hh ⟨hf, e⟩
      omega
theorem own_below {w w' : World} {base : Nat} {e : TypeId} {size : Nat} {v : Value} {n : Nat} {xs : List Value} (h : w.ownsRow base e size v n xs) (hb : Below w.heap.size w w') : w'.ownsRow base e size v n xs :=
  h.kept (row := none) ⟨hb.os, hb.tape, hb.output, hb.size, fun k hk _ => hb.block k hk⟩ (by cases v.ownBlock <;> simp)

theorem cellOf_agg (c n cap : Nat) (A : Option Addr) (bs : List UInt8) (x : FC) (w : World) (hn : bs.length = n) (hmax : n ≤ maxLen) (hcap : n ≤ cap)
    (hr : Rd w w.heap.size A (bs.map bv)) (h0 : hd c ≠ 0) (hge : hd c ≤ n) (hok : isT c = false → c ≠ 102 → num (bs.take (hd c)) ≤ 9223372036854775807) (hx : cellS c bs = x) :
    Calls Tryd.prog 71 #[.int .u8 (c : Int), .slice A n cap] w fun e w' => e = .returned (.agg #[.int .i64 x.n, .float .f64 x.f, .string x.s]) ∧ Below w.heap.size w w' :=
  (cellOf_any c n cap A bs w hn hmax hcap hr h0 hge hok).mono fun _ _ ⟨he, hb⟩ => ⟨by rw [he, hx]; rfl, hb⟩

set_option maxRecDepth 100000 in
set_option maxHeartbeats 400000 in
theorem decode_known (E : Nat → Value) (s : ByteArray) (n cap : Nat) (A : Option Addr) (bs : List UInt8) (w : World) (hE : Errs w E) (h5 : 18 + 1 ≤ w.heap.size) (hs : s.size ≤ maxLen) (hbig : s.size ≤ 4398046511104) (hn : bs.length = n) (hmax : n ≤ maxLen) (hcap : n ≤ cap)
    (hr : Rd w w.heap.size A (bs.map bv)) (h : kn s.data.toList = true) :
    Calls Tryd.prog 57 #[.string s, .slice A n cap] w (DecPost E w (decS s.data.toList bs)) := by
  obtain ⟨i0, hi0, hz0, hz1, hz2⟩ := info_parts cell_info
  have HI := Lib.hid (And.intro hi0 (And.intro hz0 (And.intro hz1 hz2)))
  clear hi0 hz0 hz1 hz2
  have HE := Lib.hid hE
  have HN := Lib.hid hn
  have HR := Lib.hid hr
  have HK := Lib.hid h
  clear hE hn hr h
  have hs' : s.size ≤ 9223372036854775807 := hs
  have hmax' : n ≤ 9223372036854775807 := hmax
  clear hmax
  go_enter Tryd.func57, Tryd.ntmps57
  go_wp2_with fail
  refine (known_any s _ hs).mono ?_
  rintro e w' ⟨rfl, rfl⟩
  rw [HK.out]
  clear hs
  by_cases hmn : n < s.size
  all_goals
    go_wp2_with (first
    | (refine wpList_make_own _ rfl _ _ 84 rfl w.heap.size 61 i0 _ 3 Tryd.underlying84 HI.out.1 HI.out.2.1 HI.out.2.2.1 .i64 .i64 _ n rfl rfl rfl (by rw [HI.out.2.2.2]; omega) (by simp only [maxLen]; omega) (Nat.le_refl _) ?_
       intro w2 hown2 hg2)
    | (refine wpList_make_own _ rfl _ _ 84 rfl w.heap.size 61 i0 _ 3 Tryd.underlying84 HI.out.1 HI.out.2.1 HI.out.2.2.1 .i64 .i64 _ s.size rfl rfl rfl (by rw [HI.out.2.2.2]; omega) (by simp only [maxLen]; omega) (Nat.le_refl _) ?_
       intro w2 hown2 hg2))
  all_goals
    go_loopw [6, 7, 23] (fun v a i W => ∃ (k at_ : Nat) (acc : List FC), k ≤ s.size ∧ at_ ≤ n ∧ i = .int .i64 k ∧ a = .int .i64 at_ ∧ Hid (decS s.data.toList bs = thenD acc (decS (s.data.toList.drop k) (bs.drop at_)) ∧ acc.length = k ∧ W.ownsRow w.heap.size 61 3 v k (flat acc) ∧ Below w.heap.size w W)) (fun _ _ i _ => s.size - (intOf i).toNat)
    case atStart => exact ⟨0, 0, [], Nat.zero_le _, Nat.zero_le _, rfl, rfl, Lib.hid ⟨(thenD_nil _).symm, rfl, hown2, (Below.refl _ _).grown hg2 (Nat.le_refl _) (fun k hk => by cases hk)⟩⟩
    case round =>
      obtain ⟨k, at_, acc, hk, hat, rfl, rfl, HS⟩ := hrel
      by_cases hlt : k < s.size
      · have HD := Lib.hid (List.drop_eq_getElem_cons (l := s.data.toList) (i := k) (by simpa using hlt))
        have e1 : s.data.toList[k]'(by simpa using hlt) = s[k] := rfl
        rw [e1] at HD
        clear e1
        have HZ := Lib.hid (kn_get HK.out hlt)
        have HE' := Lib.hid (HE.out.below (Nat.le_refl (18 + 1)) (HS.out.2.2.2.mono h5))
        have HR' := Lib.hid ((HR.out.below HS.out.2.2.2).drop (k := at_) (cap := cap) (by simp; rw [HN.out]; omega) (by simp; rw [HN.out]; omega))
        have hBw := HS.out.2.2.2.size
        cases hsp : spanS s[k].toNat (bs.drop at_) with
        | error e =>
          have HF : Hid (decS s.data.toList bs = .error e) := Lib.hid (by rw [HS.out.1, HD.out, decS_err hsp]; rfl)
          obtain ⟨t, v, het⟩ := HE.out.some_ e (spanS_err hsp)
          generalize hC : s[k].toNat = c at *
          have HCC := Lib.hid hC
          have HSP := Lib.hid hsp
          have HET := Lib.hid het
          clear hsp het hC
          by_cases hca : cap = at_
          · have HR2 := HR'
            rw [if_pos hca] at HR2
            obtain rfl : n = at_ := by omega
            obtain rfl : cap = n := by omega
            go_wp2_with fail
            go_quiet ((rw [HCC.out]; go_at_call 70; exact Calls.quiet_of (span_err E c 0 0 w.heap.size e _ (bs.drop cap) _ t v (HE'.out.drewN _) HZ.out (by rw [List.length_drop, HN.out]; omega) (by simp only [maxLen]; omega) (by omega) (by rw [List.map_drop]; exact HR2.out.drewN _) HSP.out HET.out)))
            go_wp2_with fail
            go_ret2
            show DecPost E w (decS s.data.toList bs) _ _
            rw [HF.out]
            exact ⟨by rw [HET.out]; rfl, below_drewN HS.out.2.2.2 _⟩
          · have HR2 := HR'
            rw [if_neg hca] at HR2
            go_wp2_with fail
            go_quiet ((rw [HCC.out]; go_at_call 70; exact Calls.quiet_of (span_err E c _ _ w.heap.size e _ (bs.drop at_) _ t v (HE'.out.drewN _) HZ.out (by rw [List.length_drop, HN.out]) (by simp only [maxLen]; omega) (by omega) (by rw [List.map_drop]; exact HR2.out.drewN _) HSP.out HET.out)))
            go_wp2_with fail
            go_ret2
            show DecPost E w (decS s.data.toList bs) _ _
            rw [HF.out]
            exact ⟨by rw [HET.out]; rfl, below_drewN HS.out.2.2.2 _⟩
        | ok m =>
          have hle := spanS_le hsp
          generalize hX : cellS s[k].toNat ((bs.drop at_).take m) = x
          have HX := Lib.hid hX
          have HF : Hid (decS s.data.toList bs = thenD (acc ++ [x]) (decS (s.data.toList.drop (k + 1)) (bs.drop (at_ + m)))) := Lib.hid (by rw [HS.out.1, HD.out, decS_ok acc hsp, List.drop_drop, hX])
          clear hX
          generalize hC : s[k].toNat = c at *
          have HCC := Lib.hid hC
          have HSP := Lib.hid hsp
          have hle1 : m ≤ n - at_ := by have := hle.1; rwa [List.length_drop, HN.out] at this
          have hle2 : hd c ≤ m := hle.2
          have hle3 : 1 ≤ m := by have := HZ.out; omega
          clear hsp hC hle
          have hca : ¬ cap = at_ := by omega
          have HR2 := HR'
          rw [if_neg hca] at HR2
          clear HR'
          go_wp2_with fail
          go_quiet ((rw [HCC.out]; go_at_call 70; exact Calls.quiet_of (span_ok E c _ _ w.heap.size m _ (bs.drop at_) _ (HE'.out.drewN _) HZ.out (by rw [List.length_drop, HN.out]) (by simp only [maxLen]; omega) (by omega) (by rw [List.map_drop]; exact HR2.out.drewN _) HSP.out)))
          go_wp2_with fail
          have HOW : Hid ((wr.drewN nq).ownsRow w.heap.size 61 3 u6 k (flat acc)) := Lib.hid HS.out.2.2.1
          have HBW : Hid (Below w.heap.size w (wr.drewN nq)) := Lib.hid (below_drewN HS.out.2.2.2 _)
          have HRW : Hid (Rd (wr.drewN nq) (wr.drewN nq).heap.size (Option.map (fun x => x.add at_) A) (((bs.drop at_).take m).map bv)) := Lib.hid (by
            have h1 := (HR2.out.take m).more hBw
            rw [← List.map_drop, ← List.map_take] at h1
            exact h1.drewN nq)
          have hszW : w.heap.size ≤ (wr.drewN nq).heap.size := hBw
          generalize wr.drewN nq = W at *
          have hI1 : (0 : Int) ≤ (at_ : Int) := by omega
          have hI2 : (at_ : Int) ≤ (at_ : Int) + (m : Int) := by omega
          have hI3 : (at_ : Int) + (m : Int) ≤ (cap : Int) := by omega
          have hI4 : IntKind.i64.wrap ((at_ : Int) + (m : Int)) = (at_ : Int) + (m : Int) := by rw [IntKind.wrap_i64]; omega
          have hkI : (0 : Int) ≤ (k : Int) := by omega
          have hkI2 : (k : Int) < (s.size : Int) := by omega
          have HCON := Lib.hid (cellOf_agg c (((at_ : Int) + (m : Int)).toNat - at_) (cap - at_) (Option.map (fun x => x.add at_) A) ((bs.drop at_).take m) x W.drew (by rw [List.length_take, List.length_drop, HN.out]; omega) (by simp only [maxLen]; omega) (by omega) (by exact HRW.out) HZ.out (by omega) (spanS_num_le HZ.out HSP.out) HX.out)
          have HOD : Hid (W.drew.ownsRow w.heap.size 61 3 u6 k (flat acc)) := Lib.hid HOW.out.drew
          go_region_held3 (fun _ => True) (trivial)
            (first
              | (rw [HCC.out]; go_at_call 71; (with_reducible refine HCON.out.mono ?_); rintro e w1 ⟨rfl, hb1⟩)
              | (refine step_append_cell _ ?_ (.tmp 39) (.tmp 50) ?_ w.heap.size k (flat acc) x ?_ ?_ ?_ ?_ ?_; exact rfl; exact rfl; exact ⟨w1.heap.size, rfl, by simp, by simp, by simp⟩; exact (own_below HOD.out hb1).alloc _; omega; exact Nat.le_trans hszW (Nat.le_trans hb1.size (by simp)); intro v3 w3 hown3 hg3))
          clear HCON hI4
          go_wp2_with fail
          have hbb := (HBW.out.drew).trans (hb1.mono hszW)
          refine ⟨⟨k + 1, at_ + m, acc ++ [x], by omega, by omega, by go_num, by go_num, Lib.hid ⟨HF.out, by rw [List.length_append, HS.out.2.1]; rfl, by rw [flat_snoc]; exact hown3, ?_⟩⟩, by simp [intOf]; omega⟩
          exact (hbb.alloc hbb.size _).grown hg3 (Nat.le_trans hbb.size (by simp)) (fun j hj => (HOW.out.lt j hj).1)
      · have hdk : s.data.toList.drop k = [] := List.drop_eq_nil_of_le (by simp; omega)
        by_cases hend : at_ < n
        · have HF : Hid (decS s.data.toList bs = .error 0) := Lib.hid (by
            rw [HS.out.1, hdk, decS, if_neg (by intro e; rw [List.drop_eq_nil_iff, HN.out] at e; omega)]; rfl)
          have hc0 : wr.cell? ⟨4, 0, none⟩ = some (E 0) := ((HE.out.below (Nat.le_refl (18 + 1)) (HS.out.2.2.2.mono h5)).cell 0 (by omega))
          clear hdk
          go_wp2_with fail
          go_quiet (fail)
          go_wp2_with fail
          go_ret2
          show DecPost E w (decS s.data.toList bs) _ _
          rw [HF.out]
          exact ⟨rfl, below_drewN HS.out.2.2.2 _⟩
        · have HF : Hid (decS s.data.toList bs = .ok acc) := Lib.hid (by
            rw [HS.out.1, hdk, decS, if_pos (by rw [List.drop_eq_nil_iff, HN.out]; omega)]; simp [thenD])
          clear hdk
          go_wp2_with fail
          go_ret2
          show DecPost E w (decS s.data.toList bs) _ _
          rw [HF.out]
          exact ⟨_, rfl, by have := HS.out.2.2.1; rwa [← HS.out.2.1] at this, HS.out.2.2.2⟩
end Go.Proofs.YtchnbknbccpmcaaDoor.F
namespace Go.Proofs.YtchnbknbccpmcaaDoor.F
open Go.RowKit

/-- What of a cell its letter keeps. -/
def normC (c : Nat) (x : FC) : FC := if c = 102 then { f := x.f } else if isT c = true then { s := x.s } else { n := x.n }
def norms : List UInt8 → List FC → List FC
  | c :: l, x :: cs => normC c.toNat x :: norms l cs
  | _, _ => []

theorem great_text_eq {c : Nat} (h : isT c = true) : (hd c = 1 ∨ hd c = 2) ∧ great (hd c) = 256 ^ hd c - 1 := by
  unfold isT at h
  rcases of_decide_eq_true h with rfl | rfl <;> decide
theorem great_lt {h : Nat} (hh : h = 1 ∨ h = 2 ∨ h = 4 ∨ h = 8) : great h < 256 ^ h := by
  rcases hh with rfl | rfl | rfl | rfl <;> decide
theorem be_take (k n : Nat) (r : List UInt8) : (be k n ++ r).take k = be k n := by
  rw [List.take_append_of_le_length (by rw [be_length]; exact Nat.le_refl _), List.take_of_length_le (by rw [be_length]; exact Nat.le_refl _)]
theorem be_drop (k n : Nat) (r : List UInt8) : (be k n ++ r).drop k = r := by
  rw [List.drop_append_of_le_length (by rw [be_length]; exact Nat.le_refl _), List.drop_eq_nil_of_le (by rw [be_length]; exact Nat.le_refl _), List.nil_append]
theorem mk_toList (s : ByteArray) : (⟨s.data.toList.toArray⟩ : ByteArray) = s := by cases s; simp

theorem sizeS_inv {c : Nat} {x : FC} {n : Nat} (h : sizeS c x = .ok n) :
    (c = 102 ∧ n = hd c) ∨ (c ≠ 102 ∧ isT c = true ∧ x.s.size ≤ great (hd c) ∧ n = hd c + x.s.size) ∨ (c ≠ 102 ∧ isT c = false ∧ 0 ≤ x.n ∧ x.n ≤ great (hd c) ∧ n = hd c) := by
  unfold sizeS at h
  split at h
  · rename_i hf; injection h with h; exact .inl ⟨hf, h.symm⟩
  · rename_i hf
    split at h
    · rename_i ht
      split at h
      · cases h
      · injection h with h; exact .inr (.inl ⟨hf, ht, by omega, h.symm⟩)
    · rename_i ht
      split at h
      · cases h
      · rename_i hh
        injection h with h
        exact .inr (.inr ⟨hf, by simpa using ht, by omega, by omega, h.symm⟩)

theorem span_field {c : Nat} {x : FC} {n : Nat} (h0 : hd c ≠ 0) (h : sizeS c x = .ok n) (rest : List UInt8) : spanS c (fieldB c x ++ rest) = .ok n := by
  have hg := great_lt (hd_cases h0)
  rcases sizeS_inv h with ⟨rfl, rfl⟩ | ⟨hf, ht, hs, rfl⟩ | ⟨hf, ht, hp, hs, rfl⟩
  · have e : fieldB 102 x = be 8 x.f := by simp [fieldB, hd]
    rw [e]
    exact spanS_float (by rw [List.length_append, be_length]; show ¬ 8 + _ < 8; omega) (by decide) rfl
  · have e : fieldB c x = be (hd c) x.s.size ++ x.s.data.toList := by simp [fieldB, hf, ht]
    have hl : x.s.data.toList.length = x.s.size := by simp
    rw [e, List.append_assoc]
    have hn : num ((be (hd c) x.s.size ++ (x.s.data.toList ++ rest)).take (hd c)) = x.s.size := by rw [be_take, num_be, Nat.mod_eq_of_lt (by omega)]
    rw [spanS_text (by rw [List.length_append, be_length]; omega) ht (by rw [hn, List.length_append, be_length, List.length_append]; omega), hn]
  · have e : fieldB c x = be (hd c) x.n.toNat := by simp [fieldB, hf, ht]
    rw [e]
    exact spanS_num (by rw [List.length_append, be_length]; omega) ht (by rw [be_take, num_be, Nat.mod_eq_of_lt (by omega)]; omega)
theorem cell_field {c : Nat} {x : FC} {n : Nat} (h0 : hd c ≠ 0) (hx : x.ok) (h : sizeS c x = .ok n) : cellS c (fieldB c x) = normC c x := by
  have hg := great_lt (hd_cases h0)
  rcases sizeS_inv h with ⟨rfl, rfl⟩ | ⟨hf, ht, hs, rfl⟩ | ⟨hf, ht, hp, hs, rfl⟩
  · have e : fieldB 102 x = be 8 x.f := by simp [fieldB, hd]
    have e2 : (be 8 x.f).take 8 = be 8 x.f := List.take_of_length_le (by rw [be_length]; exact Nat.le_refl _)
    have hf := hx.2.2.1
    rw [e, cellS, if_pos rfl, show hd 102 = 8 from rfl, e2, num_be, Nat.mod_eq_of_lt (by omega), normC, if_pos rfl]
  · have e : fieldB c x = be (hd c) x.s.size ++ x.s.data.toList := by simp [fieldB, hf, ht]
    rw [e, cellS, if_neg hf, if_pos ht, be_drop, mk_toList, normC, if_neg hf, if_pos ht]
  · have e : fieldB c x = be (hd c) x.n.toNat := by simp [fieldB, hf, ht]
    have e2 : (be (hd c) x.n.toNat).take (hd c) = be (hd c) x.n.toNat := List.take_of_length_le (by rw [be_length]; exact Nat.le_refl _)
    rw [e, cellS, if_neg hf, ht, e2, num_be, Nat.mod_eq_of_lt (by omega), normC, if_neg hf, ht]
    simp only [Bool.false_eq_true, if_false, Int.toNat_of_nonneg hp]
theorem kn_cons {c : UInt8} {l : List UInt8} (h : kn (c :: l) = true) : hd c.toNat ≠ 0 ∧ kn l = true := by
  unfold kn at h ⊢
  rw [List.all_cons, Bool.and_eq_true] at h
  exact ⟨by simpa using h.1, h.2⟩
theorem sumS_cons {c : UInt8} {l : List UInt8} {x : FC} {cs : List FC} {m : Nat} (h : sumS (c :: l) (x :: cs) = .ok m) : ∃ n k, sizeS c.toNat x = .ok n ∧ sumS l cs = .ok k ∧ m = n + k := by
  simp only [sumS] at h
  split at h
  · cases h
  · rename_i n hn
    split at h
    · cases h
    · rename_i k hk
      injection h with h
      exact ⟨n, k, hn, hk, h.symm⟩

theorem dec_enc {l : List UInt8} : ∀ {cs : List FC} {m : Nat}, kn l = true → cs.length = l.length → (∀ x ∈ cs, x.ok) → sumS l cs = .ok m → ∀ more : List UInt8,
    decS l (encB l cs ++ more) = if more = [] then .ok (norms l cs) else .error 0 := by
  induction l with
  | nil =>
    intro cs m _ hl _ _ more
    have : cs = [] := List.eq_nil_of_length_eq_zero hl
    subst this
    by_cases hm : more = [] <;> simp [encB, norms, decS, hm]
  | cons c l ih =>
    intro cs m hk hl hok hs more
    match cs, hl with
    | x :: cs, hl =>
      obtain ⟨n, k, hn, hk2, rfl⟩ := sumS_cons hs
      obtain ⟨h0, hk'⟩ := kn_cons hk
      have hlen := fieldB_length hn
      have e1 : encB (c :: l) (x :: cs) ++ more = fieldB c.toNat x ++ (encB l cs ++ more) := by simp [encB]
      have e2 : (fieldB c.toNat x ++ (encB l cs ++ more)).drop n = encB l cs ++ more := by rw [List.drop_append_of_le_length (by omega), List.drop_eq_nil_of_le (by omega), List.nil_append]
      have e3 : (fieldB c.toNat x ++ (encB l cs ++ more)).take n = fieldB c.toNat x := by rw [List.take_append_of_le_length (by omega), List.take_of_length_le (by omega)]
      rw [e1, decS, span_field h0 hn]
      simp only [e2, e3, cell_field h0 (hok x (by simp)) hn]
      rw [ih hk' (by simpa using hl) (fun y hy => hok y (by simp [hy])) hk2 more]
      by_cases hm : more = []
      · simp [hm, norms]
      · simp [hm]
theorem span_back {c : Nat} {bs : List UInt8} {n : Nat} (h0 : hd c ≠ 0) (hmax : bs.length ≤ maxLen) (h : spanS c bs = .ok n) :
    sizeS c (cellS c (bs.take n)) = .ok n ∧ fieldB c (cellS c (bs.take n)) = bs.take n ∧ (cellS c (bs.take n)).ok := by
  have hle := spanS_le h
  have hq := hd_cases h0
  have hg := great_lt hq
  have hmm : bs.length ≤ 9223372036854775807 := hmax
  have ht1 : (bs.take n).take (hd c) = bs.take (hd c) := by rw [List.take_take, Nat.min_eq_left hle.2]
  have hbl : (bs.take (hd c)).length = hd c := by rw [List.length_take]; omega
  have hnl := num_lt (bs.take (hd c))
  rw [hbl] at hnl
  have hbe : be (hd c) (num (bs.take (hd c))) = bs.take (hd c) := by have := be_num (bs.take (hd c)); rwa [hbl] at this
  have h64 : num (bs.take (hd c)) < 18446744073709551616 := num_lt64 _ (by rw [hbl]; omega)
  by_cases hf : c = 102
  · subst hf
    have hn : n = 8 := by
      rw [spanS_float (by omega) (by decide) rfl] at h
      injection h with h
      exact h.symm
    subst hn
    have e : cellS 102 (bs.take 8) = { f := num (bs.take 8) } := by rw [cellS, if_pos rfl, ht1]; rfl
    rw [e]
    refine ⟨by simp [sizeS, hd], ?_, ⟨by show (-9223372036854775808 : Int) ≤ 0; decide, by show (0 : Int) ≤ 9223372036854775807; decide, h64, Nat.zero_le _⟩⟩
    have : fieldB 102 { f := num (bs.take 8) } = be 8 (num (bs.take 8)) := by simp [fieldB, hd]
    rw [this]
    exact hbe
  · cases ht : isT c
    · have hn : n = hd c ∧ num (bs.take (hd c)) ≤ great (hd c) := by
        unfold spanS at h
        rw [if_neg (by omega), ht] at h
        simp only [Bool.false_eq_true, if_false] at h
        split at h
        · cases h
        · rename_i hh
          injection h with h
          exact ⟨h.symm, by rcases Nat.lt_or_ge (great (hd c)) (num (bs.take (hd c))) with g | g
                            · exact absurd ⟨hf, g⟩ hh
                            · exact g⟩
      obtain ⟨rfl, hgn⟩ := hn
      have hgl := great_le hq
      have e : cellS c (bs.take (hd c)) = { n := num (bs.take (hd c)) } := by rw [cellS, if_neg hf, ht, ht1]; rfl
      rw [e]
      refine ⟨?_, ?_, ⟨?_, ?_, ?_, Nat.zero_le _⟩⟩
      · rw [sizeS, if_neg hf, ht]
        simp only [Bool.false_eq_true, if_false]
        rw [if_neg (by omega)]
      · have : fieldB c { n := (num (bs.take (hd c)) : Int) } = be (hd c) (num (bs.take (hd c))) := by simp [fieldB, hf, ht]
        rw [this]
        exact hbe
      · show (-9223372036854775808 : Int) ≤ (num (bs.take (hd c)) : Int); omega
      · show (num (bs.take (hd c)) : Int) ≤ 9223372036854775807; omega
      · show 0 < 18446744073709551616; decide
    · obtain ⟨h12, hge⟩ := great_text_eq ht
      have hn : n = hd c + num (bs.take (hd c)) ∧ num (bs.take (hd c)) ≤ bs.length - hd c := by
        unfold spanS at h
        rw [if_neg (by omega), if_pos ht] at h
        split at h
        · cases h
        · injection h with h
          exact ⟨h.symm, by omega⟩
      obtain ⟨hn, hnb⟩ := hn
      have e : cellS c (bs.take n) = { s := ⟨((bs.take n).drop (hd c)).toArray⟩ } := by rw [cellS, if_neg hf, if_pos ht]
      have hsz : (⟨((bs.take n).drop (hd c)).toArray⟩ : ByteArray).size = num (bs.take (hd c)) := by
        show ((bs.take n).drop (hd c)).toArray.size = _
        simp
        omega
      rw [e]
      refine ⟨?_, ?_, ⟨by show (-9223372036854775808 : Int) ≤ 0; decide, by show (0 : Int) ≤ 9223372036854775807; decide, by show 0 < 18446744073709551616; decide, ?_⟩⟩
      · rw [sizeS, if_neg hf, if_pos ht]
        simp only [hsz]
        rw [if_neg (by omega), hn]
      · have e2 : fieldB c { s := ⟨((bs.take n).drop (hd c)).toArray⟩ } = be (hd c) (num (bs.take (hd c))) ++ (bs.take n).drop (hd c) := by
          rw [fieldB, if_neg hf, if_pos ht, hsz]
        rw [e2, hbe, ← ht1, List.take_append_drop]
      · rw [hsz]
        show _ ≤ 9223372036854775807
        omega
theorem enc_dec {l : List UInt8} : ∀ {bs : List UInt8} {cs : List FC}, kn l = true → bs.length ≤ maxLen → decS l bs = .ok cs → cs.length = l.length ∧ encB l cs = bs ∧ sumS l cs = .ok bs.length ∧ ∀ x ∈ cs, x.ok := by
  induction l with
  | nil =>
    intro bs cs _ _ h
    simp only [decS] at h
    split at h
    · rename_i hb; injection h with h; subst h; subst hb; exact ⟨rfl, rfl, rfl, by simp⟩
    · cases h
  | cons c l ih =>
    intro bs cs hk hm h
    obtain ⟨h0, hk'⟩ := kn_cons hk
    rw [decS] at h
    cases hs : spanS c.toNat bs with
    | error e => rw [hs] at h; cases h
    | ok n =>
      rw [hs] at h
      simp only at h
      cases hd2 : decS l (bs.drop n) with
      | error e => rw [hd2] at h; cases h
      | ok r =>
        rw [hd2] at h
        injection h with h
        subst h
        obtain ⟨g1, g2, g3⟩ := span_back h0 hm hs
        have hle := (spanS_le hs).1
        obtain ⟨i1, i2, i3, i4⟩ := ih hk' (by rw [List.length_drop]; unfold maxLen at *; omega) hd2
        refine ⟨by simp [i1], ?_, ?_, ?_⟩
        · simp only [encB, g2, i2, List.take_append_drop]
        · simp only [sumS, g1, i3, List.length_drop]
          congr 1
          omega
        · intro x hx
          rcases List.mem_cons.1 hx with rfl | hx
          · exact g3
          · exact i4 x hx
end Go.Proofs.YtchnbknbccpmcaaDoor.F

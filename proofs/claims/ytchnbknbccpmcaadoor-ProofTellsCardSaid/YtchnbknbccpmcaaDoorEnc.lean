/- The fields that package proof sums, as bytes. -/
import Derived.Test.YtchnbknbccpmcaaDoorSum
namespace Go.Proofs.YtchnbknbccpmcaaDoor
open Go.RowKit
open Go.Proofs.YtchnbknbccpmcaaDoor.H

theorem sum_q (n : Int) (h0 : 0 ≤ n) (h1 : n ≤ 1099511627776) : F.sumS [113] [⟨n, 0, ⟨#[]⟩⟩] = .ok 8 := by
  have hn : ¬ (n < 0 ∨ 9223372036854775807 < n) := by omega
  simp [F.sumS, F.sizeS, F.hd, F.isT, F.great, hn]
theorem enc_q (n : Int) (f : Nat) (s : ByteArray) : F.encB [113] [⟨n, f, s⟩] = F.be 8 n.toNat := by
  simp [F.encB, F.fieldB, F.hd, F.isT]
theorem sum_rt (a b : ByteArray) (ha : a.size = 16) (hb : b.size ≤ 16) : F.sumS [114, 116] [⟨0, 0, a⟩, ⟨0, 0, b⟩] = .ok (19 + b.size) := by
  have hn : ¬ 255 < b.size := by omega
  simp [F.sumS, F.sizeS, F.hd, F.isT, F.great, ha, hn]
  omega
theorem enc_rt (a b : ByteArray) : F.encB [114, 116] [⟨0, 0, a⟩, ⟨0, 0, b⟩] = F.be 2 a.size ++ a.data.toList ++ (F.be 1 b.size ++ b.data.toList) := by
  simp [F.encB, F.fieldB, F.hd, F.isT]
theorem sum_tq (n : Int) (b : ByteArray) (hb : b.size ≤ 16) (h0 : 0 ≤ n) (h1 : n ≤ 1099511627776) : F.sumS [116, 113] [⟨0, 0, b⟩, ⟨n, 0, ⟨#[]⟩⟩] = .ok (9 + b.size) := by
  have hn : ¬ (n < 0 ∨ 9223372036854775807 < n) := by omega
  have hc : ¬ 255 < b.size := by omega
  simp [F.sumS, F.sizeS, F.hd, F.isT, F.great, hn, hc]
  omega
theorem enc_tq (n : Int) (b : ByteArray) : F.encB [116, 113] [⟨0, 0, b⟩, ⟨n, 0, ⟨#[]⟩⟩] = F.be 1 b.size ++ b.data.toList ++ F.be 8 n.toNat := by
  simp [F.encB, F.fieldB, F.hd, F.isT]
theorem be_len (k n : Nat) : (F.be k n).length = k := by
  induction k generalizing n with
  | zero => rfl
  | succ k ih => simp [F.be, ih]
/-- One field's cell, laid; two. -/
theorem cs_one (w : World) (n : Int) (s : ByteArray) : F.Cs (w.alloc (.cells #[.int .i64 n, .float .f64 0, .string s] 61)) (w.heap.size + 1) (some ⟨w.heap.size, 0, none⟩) [⟨n, 0, s⟩] := by
  have r := H.Row.new w [.int .i64 n, .float .f64 0, .string s] 61
  refine .inr ⟨w.heap.size, 0, rfl, Nat.lt_succ_self _, fun k x hx => ?_⟩
  match k, hx with
  | 0, hx => injection hx with hx; subst hx; exact ⟨r.cell 0, r.cell 1, r.cell 2⟩
theorem cs_two (w : World) (n m : Int) (s u : ByteArray) : F.Cs (w.alloc (.cells #[.int .i64 n, .float .f64 0, .string s, .int .i64 m, .float .f64 0, .string u] 61)) (w.heap.size + 1) (some ⟨w.heap.size, 0, none⟩) [⟨n, 0, s⟩, ⟨m, 0, u⟩] := by
  have r := H.Row.new w [.int .i64 n, .float .f64 0, .string s, .int .i64 m, .float .f64 0, .string u] 61
  refine .inr ⟨w.heap.size, 0, rfl, Nat.lt_succ_self _, fun k x hx => ?_⟩
  match k, hx with
  | 0, hx => injection hx with hx; subst hx; exact ⟨r.cell 0, r.cell 1, r.cell 2⟩
  | 1, hx => injection hx with hx; subst hx; exact ⟨r.cell 3, r.cell 4, r.cell 5⟩
theorem fc_ok (n : Int) (s : ByteArray) (h0 : 0 ≤ n) (h1 : n ≤ 1099511627776) (hs : s.size ≤ 16) : (⟨n, 0, s⟩ : F.FC).ok := ⟨show -9223372036854775808 ≤ n by omega, show n ≤ 9223372036854775807 by omega, show 0 < 18446744073709551616 by decide, show s.size ≤ maxLen by simp only [maxLen]; omega⟩

/-- The document's nonce. -/
def nonceB (key : List UInt8) (n : Nat) : List UInt8 := (keyed key (110 :: F.be 8 n)).take 16
/-- The document's proof. -/
def proveB (key nonce : List UInt8) (who : ByteArray) : List UInt8 := keyed key (112 :: (F.be 2 nonce.length ++ nonce ++ (F.be 1 who.size ++ who.data.toList)))
/-- The sum of the document's ticket. -/
def sealB (key : List UInt8) (who : ByteArray) (n : Nat) : List UInt8 := (keyed key (116 :: (F.be 1 who.size ++ who.data.toList ++ F.be 8 n))).take 24
/-- The document's ticket. -/
def ticketB (key : List UInt8) (who : ByteArray) (n : Nat) : List UInt8 := F.be 8 n ++ sealB key who n
theorem keyed_length (key S : List UInt8) : (keyed key S).length = 32 := digest_length _
theorem nonceB_length (key : List UInt8) (n : Nat) : (nonceB key n).length = 16 := by rw [nonceB, List.length_take, keyed_length]; rfl
theorem proveB_length (key nonce : List UInt8) (who : ByteArray) : (proveB key nonce who).length = 32 := keyed_length _ _
theorem sealB_length (key : List UInt8) (who : ByteArray) (n : Nat) : (sealB key who n).length = 24 := by rw [sealB, List.length_take, keyed_length]; rfl
theorem ticketB_length (key : List UInt8) (who : ByteArray) (n : Nat) : (ticketB key who n).length = 32 := by rw [ticketB, List.length_append, be_len, sealB_length]
end Go.Proofs.YtchnbknbccpmcaaDoor

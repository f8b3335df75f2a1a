/- What the calls of package proof, and the document's, answer, whatever the arguments: one contract each. -/
import Derived.Test.YtchnbknbccpmcaaDoorRpo
import Derived.Test.YtchnbknbccpmcaaDoorKept
import Derived.Test.YtchnbknbccpmcaaDoorNum
namespace Go.Proofs.YtchnbknbccpmcaaDoor
open Go.RowKit
open Go.Proofs.YtchnbknbccpmcaaDoor.H

/-- No error, or ErrRange. -/
def errv (b : Bool) (a : Addr) : Value := if b then .nilIface else .iface 127 (.pointer (some a))
/-- Bytes, or none. -/
def orNone (b : Bool) (l : List UInt8) : List UInt8 := if b then l else []
theorem key_none (w : World) : KeyAt w none 0 0 [] := ⟨rfl, Nat.le_refl _, by decide, .inl rfl⟩
def condA (kn : Nat) (z : Int) : Bool := decide ((1 ≤ kn ∧ kn ≤ 64) ∧ (0 ≤ z ∧ z ≤ 1099511627776))
def condB (kn nn : Nat) (who : ByteArray) : Bool := decide ((1 ≤ kn ∧ kn ≤ 64) ∧ (16 ≤ nn ∧ nn ≤ 16) ∧ (1 ≤ who.size ∧ who.size ≤ 16))
def condC (kn : Nat) (who : ByteArray) (z : Int) : Bool := decide ((1 ≤ kn ∧ kn ≤ 64) ∧ (1 ≤ who.size ∧ who.size ≤ 16) ∧ (0 ≤ z ∧ z ≤ 1099511627776))
def condO (kn : Nat) (who : ByteArray) : Bool := decide ((1 ≤ kn ∧ kn ≤ 64) ∧ (1 ≤ who.size ∧ who.size ≤ 16))
theorem nonce_all (E : Nat → Value) (a0 : Addr) (ep : Value) (K : Option Addr) (kn kc : Nat) (key : List UInt8) (z : Int) (w : World) (hE : Env w E (.iface 127 (.pointer (some a0))) ep) (hk : KeyAt w K kn kc key) :
    Calls Tryd.prog 11 #[.slice K kn kc, .int .i64 z] w fun e w' => ∃ A n c, e = .returned (.tuple #[.slice A n c, errv (condA kn z) a0]) ∧ Hid (KeyAt w' A n c (orNone (condA kn z) (nonceB key z.toNat)) ∧ Below w.heap.size w w') := by
  unfold condA
  by_cases h : (1 ≤ kn ∧ kn ≤ 64) ∧ (0 ≤ z ∧ z ≤ 1099511627776)
  · rw [decide_eq_true h]
    refine (nonce_ok E 127 _ ep K kn kc key z w hE hk h.1 h.2).mono ?_
    rintro e w' ⟨v, rfl, HV⟩
    obtain ⟨A, c, rfl, hk2, _⟩ := own_key HV.out.1 (by decide)
    exact ⟨_, _, _, rfl, Lib.hid ⟨hk2, HV.out.2⟩⟩
  · rw [decide_eq_false h]
    refine (nonce_bad E 127 _ ep K kn kc z w hE h).mono ?_
    rintro e w' ⟨rfl, HV⟩
    exact ⟨_, _, _, rfl, Lib.hid ⟨key_none w', HV.out⟩⟩
theorem prove_all (E : Nat → Value) (a0 : Addr) (ep : Value) (K : Option Addr) (kn kc : Nat) (key : List UInt8) (M : Option Addr) (nn nc : Nat) (nonce : List UInt8) (who : ByteArray) (w : World) (hE : Env w E (.iface 127 (.pointer (some a0))) ep) (hk : KeyAt w K kn kc key) (hm : KeyAt w M nn nc nonce) :
    Calls Tryd.prog 12 #[.slice K kn kc, .slice M nn nc, .string who] w fun e w' => ∃ A n c, e = .returned (.tuple #[.slice A n c, errv (condB kn nn who) a0]) ∧ Hid (KeyAt w' A n c (orNone (condB kn nn who) (proveB key nonce who)) ∧ Below w.heap.size w w') := by
  unfold condB
  by_cases h : (1 ≤ kn ∧ kn ≤ 64) ∧ (16 ≤ nn ∧ nn ≤ 16) ∧ (1 ≤ who.size ∧ who.size ≤ 16)
  · rw [decide_eq_true h]
    refine (prove_ok E 127 _ ep K kn kc M nn nc who key nonce w hE hk hm h.1 h.2.1 h.2.2).mono ?_
    rintro e w' ⟨v, rfl, HV⟩
    obtain ⟨A, c, rfl, hk2, _⟩ := own_key HV.out.1 (by decide)
    exact ⟨_, _, _, rfl, Lib.hid ⟨hk2, HV.out.2⟩⟩
  · rw [decide_eq_false h]
    refine (prove_bad E 127 _ ep K kn kc M nn nc who w hE h).mono ?_
    rintro e w' ⟨rfl, HV⟩
    exact ⟨_, _, _, rfl, Lib.hid ⟨key_none w', HV.out⟩⟩
theorem ticket_all (E : Nat → Value) (a0 : Addr) (ep : Value) (K : Option Addr) (kn kc : Nat) (key : List UInt8) (who : ByteArray) (z : Int) (w : World) (hE : Env w E (.iface 127 (.pointer (some a0))) ep) (hk : KeyAt w K kn kc key) :
    Calls Tryd.prog 13 #[.slice K kn kc, .string who, .int .i64 z] w fun e w' => ∃ A n c, e = .returned (.tuple #[.slice A n c, errv (condC kn who z) a0]) ∧ Hid (KeyAt w' A n c (orNone (condC kn who z) (ticketB key who z.toNat)) ∧ Below w.heap.size w w') := by
  unfold condC
  by_cases h : (1 ≤ kn ∧ kn ≤ 64) ∧ (1 ≤ who.size ∧ who.size ≤ 16) ∧ (0 ≤ z ∧ z ≤ 1099511627776)
  · rw [decide_eq_true h]
    refine (ticket_ok E 127 _ ep K kn kc who z key w hE hk h.1 h.2.1 h.2.2).mono ?_
    rintro e w' ⟨v, rfl, HV⟩
    obtain ⟨A, c, rfl, hk2, _⟩ := own_key HV.out.1 (by decide)
    exact ⟨_, _, _, rfl, Lib.hid ⟨hk2, HV.out.2⟩⟩
  · rw [decide_eq_false h]
    refine (ticket_bad E 127 _ ep K kn kc who z w hE h).mono ?_
    rintro e w' ⟨rfl, HV⟩
    exact ⟨_, _, _, rfl, Lib.hid ⟨key_none w', HV.out⟩⟩
/-- The number that Open answers, and its error's number. -/
def openN (kn : Nat) (key : List UInt8) (who : ByteArray) (bs : List UInt8) : Nat := if condO kn who then (openB key who bs).getD 0 else 0
def openK (kn : Nat) (key : List UInt8) (who : ByteArray) (bs : List UInt8) : Nat := if condO kn who then (match openB key who bs with | some _ => 0 | none => 14) else 1
def openV (a0 a1 : Addr) (k : Nat) : Value := if k = 0 then .nilIface else if k = 1 then .iface 127 (.pointer (some a0)) else .iface 127 (.pointer (some a1))
theorem open_all (E : Nat → Value) (a0 a1 : Addr) (K : Option Addr) (kn kc : Nat) (key : List UInt8) (who : ByteArray) (T : Option Addr) (n d : Nat) (bs : List UInt8) (w : World) (hE : Env w E (.iface 127 (.pointer (some a0))) (.iface 127 (.pointer (some a1)))) (hk : KeyAt w K kn kc key) (ht : KeyAt w T n d bs) :
    Calls Tryd.prog 14 #[.slice K kn kc, .string who, .slice T n d] w fun e w' => e = .returned (.tuple #[.int .i64 (openN kn key who bs : Int), openV a0 a1 (openK kn key who bs)]) ∧ Hid (Below w.heap.size w w') := by
  unfold openN openK condO
  by_cases h : (1 ≤ kn ∧ kn ≤ 64) ∧ (1 ≤ who.size ∧ who.size ≤ 16)
  · rw [decide_eq_true h]
    cases ho : openB key who bs with
    | none =>
      refine (open_no E 127 _ 127 _ K kn kc who T n d key bs w hE hk ht h.1 h.2 ho).mono ?_
      rintro e w' ⟨rfl, HV⟩
      exact ⟨rfl, HV⟩
    | some m =>
      refine (open_yes E 127 _ _ K kn kc who T n d key bs m w hE hk ht h.1 h.2 ho).mono ?_
      rintro e w' ⟨v, rfl, HV⟩
      exact ⟨by rw [HV.out.1]; rfl, Lib.hid HV.out.2⟩
  · rw [decide_eq_false h]
    refine (open_range E 127 _ _ K kn kc who T n d w hE h).mono ?_
    rintro e w' ⟨rfl, HV⟩
    exact ⟨rfl, HV⟩
theorem rnonce_all (g : Nat) (K : Option Addr) (kn kc : Nat) (key : List UInt8) (z : Int) (w : World) (hT : Tab w w.heap.size g) (hk : KeyAt w K kn kc key) :
    Calls Tryd.prog 16 #[.pointer (some ⟨g, 0, none⟩), .slice K kn kc, .int .i64 z] w fun e w' => ∃ A n c, e = .returned (.tuple #[.slice A n c, .bool (condA kn z)]) ∧ Hid (KeyAt w' A n c (orNone (condA kn z) (nonceB key z.toNat)) ∧ Below w.heap.size w w') := by
  unfold condA
  by_cases h : (1 ≤ kn ∧ kn ≤ 64) ∧ (0 ≤ z ∧ z ≤ 1099511627776)
  · rw [decide_eq_true h]
    have hz : ((z.toNat : Nat) : Int) = z := Int.toNat_of_nonneg h.2.1
    have hc := rnonce_ok g K kn kc key z.toNat w hT hk h.1 (by omega)
    rw [hz] at hc
    refine hc.mono ?_
    rintro e w' ⟨A, c, rfl, HV⟩
    exact ⟨_, _, _, rfl, HV⟩
  · rw [decide_eq_false h]
    refine (rnonce_bad g K kn kc z w h).mono ?_
    rintro e w' ⟨rfl, rfl⟩
    exact ⟨_, _, _, rfl, Lib.hid ⟨key_none _, Below.refl _ _⟩⟩
theorem rprove_all (g : Nat) (K : Option Addr) (kn kc : Nat) (key : List UInt8) (M : Option Addr) (nn nc : Nat) (nonce : List UInt8) (who : ByteArray) (w : World) (hT : Tab w w.heap.size g) (hk : KeyAt w K kn kc key) (hm : KeyAt w M nn nc nonce) :
    Calls Tryd.prog 17 #[.pointer (some ⟨g, 0, none⟩), .slice K kn kc, .slice M nn nc, .string who] w fun e w' => ∃ A n c, e = .returned (.tuple #[.slice A n c, .bool (condB kn nn who)]) ∧ Hid (KeyAt w' A n c (orNone (condB kn nn who) (proveB key nonce who)) ∧ Below w.heap.size w w') := by
  unfold condB
  by_cases h : (1 ≤ kn ∧ kn ≤ 64) ∧ (16 ≤ nn ∧ nn ≤ 16) ∧ (1 ≤ who.size ∧ who.size ≤ 16)
  · rw [decide_eq_true h]
    obtain rfl : nn = 16 := by omega
    refine (rprove_ok g K kn kc M nc who key nonce w hT hk hm h.1 h.2.2).mono ?_
    rintro e w' ⟨A, c, rfl, HV⟩
    exact ⟨_, _, _, rfl, HV⟩
  · rw [decide_eq_false h]
    refine (rprove_bad g K kn kc M nn nc who w h).mono ?_
    rintro e w' ⟨rfl, rfl⟩
    exact ⟨_, _, _, rfl, Lib.hid ⟨key_none _, Below.refl _ _⟩⟩
theorem rticket_all (g : Nat) (K : Option Addr) (kn kc : Nat) (key : List UInt8) (who : ByteArray) (z : Int) (w : World) (hT : Tab w w.heap.size g) (hk : KeyAt w K kn kc key) :
    Calls Tryd.prog 18 #[.pointer (some ⟨g, 0, none⟩), .slice K kn kc, .string who, .int .i64 z] w fun e w' => ∃ A n c, e = .returned (.tuple #[.slice A n c, .bool (condC kn who z)]) ∧ Hid (KeyAt w' A n c (orNone (condC kn who z) (ticketB key who z.toNat)) ∧ Below w.heap.size w w') := by
  unfold condC
  by_cases h : (1 ≤ kn ∧ kn ≤ 64) ∧ (1 ≤ who.size ∧ who.size ≤ 16) ∧ (0 ≤ z ∧ z ≤ 1099511627776)
  · rw [decide_eq_true h]
    have hz : ((z.toNat : Nat) : Int) = z := Int.toNat_of_nonneg h.2.2.1
    have hc := rticket_ok g K kn kc who key z.toNat w hT hk h.1 h.2.1 (by omega)
    rw [hz] at hc
    refine hc.mono ?_
    rintro e w' ⟨A, c, rfl, HV⟩
    exact ⟨_, _, _, rfl, HV⟩
  · rw [decide_eq_false h]
    refine (rticket_bad g K kn kc who z w h).mono ?_
    rintro e w' ⟨rfl, rfl⟩
    exact ⟨_, _, _, rfl, Lib.hid ⟨key_none _, Below.refl _ _⟩⟩
theorem ropen_all (g : Nat) (K : Option Addr) (kn kc : Nat) (key : List UInt8) (who : ByteArray) (T : Option Addr) (n d : Nat) (bs : List UInt8) (w : World) (hT : Tab w w.heap.size g) (hk : KeyAt w K kn kc key) (ht : KeyAt w T n d bs) :
    Calls Tryd.prog 19 #[.pointer (some ⟨g, 0, none⟩), .slice K kn kc, .string who, .slice T n d] w fun e w' => e = .returned (.tuple #[.int .i64 (openN kn key who bs : Int), .int .i64 (openK kn key who bs : Int)]) ∧ Hid (Below w.heap.size w w') := by
  unfold openN openK condO
  by_cases h : (1 ≤ kn ∧ kn ≤ 64) ∧ (1 ≤ who.size ∧ who.size ≤ 16)
  · rw [decide_eq_true h]
    by_cases hn : n = 32
    · subst hn
      refine (ropen_full g K kn kc who key T d bs w hT hk ht h.1 h.2 ((openB key who bs).getD 0) (match openB key who bs with | some _ => 0 | none => 14) (by cases openB key who bs <;> rfl)).mono ?_
      rintro e w' ⟨rfl, HV⟩
      exact ⟨rfl, HV⟩
    · have ho : openB key who bs = none := by
        unfold openB
        rw [if_neg (by rintro ⟨h3, _⟩; exact hn (ht.len.symm.trans h3))]
      refine (ropen_short g K kn kc who T n d w h.1 h.2 hn).mono ?_
      rintro e w' ⟨rfl, rfl⟩
      rw [ho]
      exact ⟨rfl, Lib.hid (Below.refl _ _)⟩
  · rw [decide_eq_false h]
    refine (ropen_range g K kn kc who T n d w h).mono ?_
    rintro e w' ⟨rfl, rfl⟩
    exact ⟨rfl, Lib.hid (Below.refl _ _)⟩
theorem numV (ad : Nat → Addr) (kn : Nat) (key : List UInt8) (who : ByteArray) (bs : List UInt8) (w : World) (h : Eighteen w ad) :
    Calls Tryd.prog 20 #[openV (ad 0) (ad 1) (openK kn key who bs)] w fun e w' => e = .returned (.int .i64 (openK kn key who bs : Int)) ∧ Hid (Below w.heap.size w w') := by
  unfold openK
  by_cases hc : condO kn who = true
  · rw [if_pos hc]
    cases openB key who bs with
    | none => exact (num_err ad 1 w h (by decide)).mono fun e w' ⟨he, hb⟩ => ⟨he, Lib.hid hb⟩
    | some m => exact (num_none w).mono fun e w' ⟨he, hb⟩ => ⟨he, Lib.hid (by rw [← hb]; exact Below.refl _ _)⟩
  · rw [if_neg hc]
    exact (num_err ad 0 w h (by decide)).mono fun e w' ⟨he, hb⟩ => ⟨he, Lib.hid hb⟩
end Go.Proofs.YtchnbknbccpmcaaDoor

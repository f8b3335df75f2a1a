/- The law ProofTells. -/
import Derived.Test.YtchnbknbccpmcaaDoorAll
import Derived.Deep.RegionHeld3
namespace Go.Proofs.YtchnbknbccpmcaaDoor
open Go.RowKit
open Go.Proofs.YtchnbknbccpmcaaDoor.H

/-- A copy with marks behind it. -/
structure CopyAt (w : World) (X : Option Addr) (n c : Nat) (bs : List UInt8) : Prop where
  len : bs.length = n
  room : n + 6 ≤ c
  max : c ≤ 9223372036854775807
  rd : Rd w w.heap.size X ((bs ++ marks).map bv)
theorem CopyAt.below {w w' : World} {X : Option Addr} {n c : Nat} {bs : List UInt8} (h : CopyAt w X n c bs) (hb : Below w.heap.size w w') : CopyAt w' X n c bs :=
  ⟨h.len, h.room, h.max, (h.rd.below hb).more hb.size⟩
theorem CopyAt.key {w : World} {X : Option Addr} {n c : Nat} {bs : List UInt8} (h : CopyAt w X n c bs) : KeyAt w X n c bs :=
  ⟨h.len, by have := h.room; omega, h.max, by
    have h1 := h.rd.take n
    rw [← List.map_take, List.take_append_of_le_length (by have := h.len; omega), List.take_of_length_le (by have := h.len; omega)] at h1
    exact h1⟩
theorem copy_any (A : Option Addr) (n c : Nat) (bs : List UInt8) (w : World) (hk : KeyAt w A n c bs) (hs : n ≤ 3000) :
    Calls Tryd.prog 10 #[.slice A n c] w fun e w' => ∃ X d, e = .returned (.slice X n d) ∧ Hid (CopyAt w' X n d bs ∧ Below w.heap.size w w') :=
  (bytes_any n c A bs w hk.len (by omega) hk.rd).mono fun e w' ⟨X, d, he, H⟩ => ⟨X, d, he, Lib.hid ⟨⟨hk.len, H.out.1.1, H.out.1.2.1, H.out.1.2.2.1⟩, H.out.2⟩⟩
theorem kept_at (A X : Option Addr) (n c d : Nat) (bs : List UInt8) (w : World) (hx : CopyAt w X n d bs) (hk : KeyAt w A n c bs) (hs : n ≤ 3000) :
    Calls Tryd.prog 21 #[.slice X n d, .slice A n c] w fun e w' => e = .returned (.bool true) ∧ Hid (Below w.heap.size w w') :=
  (kept_any n d c X A bs w hx.len (by omega) hx.room hx.max hx.rd hk.rd).mono fun e w' ⟨he, m, hw⟩ => ⟨he, Lib.hid (by rw [hw]; exact H.below_drewN (Below.refl _ _) m)⟩

theorem errv_true (a : Addr) : errv true a = .nilIface := rfl
theorem errv_false (a : Addr) : errv false a = .iface 127 (.pointer (some a)) := rfl
theorem right_all (E : Nat → Value) (t : TypeId) (u ep : Value) (K : Option Addr) (kn kc : Nat) (M : Option Addr) (nn nc : Nat) (who : ByteArray) (T : Option Addr) (n d : Nat) (key nonce bs : List UInt8) (w : World) (hE : Env w E (.iface t u) ep)
    (hk : KeyAt w K kn kc key) (hm : KeyAt w M nn nc nonce) (ht : KeyAt w T n d bs) :
    Calls Tryd.prog 15 #[.slice K kn kc, .slice M nn nc, .string who, .slice T n d] w fun e w' => e = .returned (.bool (condB kn nn who && decide (bs = proveB key nonce who))) ∧ Hid (Below w.heap.size w w') :=
  (right_any E t u ep K kn kc M nn nc who T n d key nonce bs w hE hk hm ht).mono fun e w' ⟨he, hb⟩ => ⟨by rw [he]; unfold condB; rw [Bool.decide_and], hb⟩

end Go.Proofs.YtchnbknbccpmcaaDoor

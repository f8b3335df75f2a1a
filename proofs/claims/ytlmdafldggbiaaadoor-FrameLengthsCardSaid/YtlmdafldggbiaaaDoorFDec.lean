/- What fields.Some and fields.Decode answer. -/
import Derived.Test.YtlmdafldggbiaaaDoorFEnc
namespace Go.Proofs.YtlmdafldggbiaaaDoor.F
open Go.RowKit

theorem spanS_le {c : Nat} {bs : List UInt8} {n : Nat} (h : spanS c bs = .ok n) : n ≤ bs.length ∧ hd c ≤ n := by
  unfold spanS at h
  repeat' split at h
  all_goals first
    | cases h; done
    | (injection h with h; omega)
theorem spanS_err {c : Nat} {bs : List UInt8} {k : Nat} (h : spanS c bs = .error k) : k < 5 := by
  unfold spanS at h
  repeat' split at h
  all_goals first
    | (injection h with h; omega)
    | cases h

/-- How many whole fields, and how many bytes they have. -/
def someS : List UInt8 → List UInt8 → Nat × Bool
  | [], bs => (0, bs.isEmpty)
  | c :: l, bs => if hd c.toNat = 0 then (0, false) else match spanS c.toNat bs with
    | .error _ => (0, false)
    | .ok n => ((someS l (bs.drop n)).1 + 1, (someS l (bs.drop n)).2)

theorem span_ok (E : Nat → Value) (c n cap B m : Nat) (A : Option Addr) (bs : List UInt8) (w : World) (hE : Errs w E) (h0 : hd c ≠ 0) (hn : bs.length = n) (hmax : n ≤ maxLen) (hcap : n ≤ cap)
    (hr : Rd w B A (bs.map bv)) (h : spanS c bs = .ok m) :
    Calls Tryd.prog 63 #[.int .u8 (c : Int), .slice A n cap] w fun e w' => e = .returned (.tuple #[.int .i64 (m : Int), .nilIface]) ∧ ∃ j, w' = w.drewN j :=
  (span_any E c n cap B A bs w hE h0 hn hmax hcap hr).mono fun _ _ ⟨he, hw⟩ => ⟨by rw [he, h]; rfl, hw⟩
theorem span_err (E : Nat → Value) (c n cap B k : Nat) (A : Option Addr) (bs : List UInt8) (w : World) (t : TypeId) (v : Value) (hE : Errs w E) (h0 : hd c ≠ 0) (hn : bs.length = n) (hmax : n ≤ maxLen) (hcap : n ≤ cap)
    (hr : Rd w B A (bs.map bv)) (h : spanS c bs = .error k) (hk : E k = .iface t v) :
    Calls Tryd.prog 63 #[.int .u8 (c : Int), .slice A n cap] w fun e w' => e = .returned (.tuple #[.int .i64 0, .iface t v]) ∧ ∃ j, w' = w.drewN j :=
  (span_any E c n cap B A bs w hE h0 hn hmax hcap hr).mono fun _ _ ⟨he, hw⟩ => ⟨by rw [he, h, spanV, hk], hw⟩
theorem Errs.drewN {w : World} {E : Nat → Value} (h : Errs w E) (n : Nat) : Errs (w.drewN n) E := ⟨h.cell, h.some_⟩
theorem Rd.drewN {w : World} {B : Nat} {A : Option Addr} {xs : List Value} (h : Rd w B A xs) (n : Nat) : Rd (w.drewN n) B A xs := h

theorem drewN_more {w W : World} (h : ∃ j, W = w.drewN j) (m : Nat) : ∃ j, W.drewN m = w.drewN j := by
  obtain ⟨j, rfl⟩ := h
  exact ⟨j + m, by rw [World.drewN_drewN]⟩
theorem Errs.quiet {w W : World} {E : Nat → Value} (h : Errs w E) (hw : ∃ j, W = w.drewN j) : Errs W E := by
  obtain ⟨j, rfl⟩ := hw
  exact h.drewN j
theorem Rd.quiet {w W : World} {B : Nat} {A : Option Addr} {xs : List Value} (h : Rd w B A xs) (hw : ∃ j, W = w.drewN j) : Rd W B A xs := by
  obtain ⟨j, rfl⟩ := hw
  exact h.drewN j
theorem someS_zero {c : UInt8} {l bs : List UInt8} (h : hd c.toNat = 0) : someS (c :: l) bs = (0, false) := by rw [someS, if_pos h]
theorem someS_err {c : UInt8} {l bs : List UInt8} {e : Nat} (h : hd c.toNat ≠ 0) (he : spanS c.toNat bs = .error e) : someS (c :: l) bs = (0, false) := by rw [someS, if_neg h, he]
theorem someS_ok {c : UInt8} {l bs : List UInt8} {m : Nat} (h : hd c.toNat ≠ 0) (he : spanS c.toNat bs = .ok m) : someS (c :: l) bs = ((someS l (bs.drop m)).1 + 1, (someS l (bs.drop m)).2) := by rw [someS, if_neg h, he]

end Go.Proofs.YtlmdafldggbiaaaDoor.F

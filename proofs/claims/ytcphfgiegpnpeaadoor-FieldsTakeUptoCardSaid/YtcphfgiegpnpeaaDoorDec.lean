/- What fields.Some and fields.Decode answer. -/
import Derived.Test.YtcphfgiegpnpeaaDoorEnc
namespace Go.Proofs.YtcphfgiegpnpeaaDoor
open Go.RowKit

theorem spanS_le {c : Nat} {bs : List UInt8} {n : Nat} (h : spanS c bs = .ok n) : n ≤ bs.length ∧ hd c ≤ n := by
  unfold spanS at h
  repeat' split at h
  all_goals first
    | cases h; done
    | (injection h with h; omega)
theorem spanS_err {c : Nat} {bs : List UInt8} {k : Nat} (h : spanS c bs = .error k) : k < 5 := by
  unfold spanS at h
  repeat' split at h
  all_goals first
    | (injection h with h; omega)
    | cases h

/-- How many whole fields, and how many bytes they have. -/
def someS : List UInt8 → List UInt8 → Nat × Bool
  | [], bs => (0, bs.isEmpty)
  | c :: l, bs => if hd c.toNat = 0 then (0, false) else match spanS c.toNat bs with
    | .error _ => (0, false)
    | .ok n => ((someS l (bs.drop n)).1 + 1, (someS l (bs.drop n)).2)

theorem span_ok (E : Nat → Value) (c n cap B m : Nat) (A : Option Addr) (bs : List UInt8) (w : World) (hE : Errs w E) (h0 : hd c ≠ 0) (hn : bs.length = n) (hmax : n ≤ maxLen) (hcap : n ≤ cap)
    (hr : Rd w B A (bs.map bv)) (h : spanS c bs = .ok m) :
    Calls Tryd.prog 33 #[.int .u8 (c : Int), .slice A n cap] w fun e w' => e = .returned (.tuple #[.int .i64 (m : Int), .nilIface]) ∧ ∃ j, w' = w.drewN j :=
  (span_any E c n cap B A bs w hE h0 hn hmax hcap hr).mono fun _ _ ⟨he, hw⟩ => ⟨by rw [he, h]; rfl, hw⟩
theorem span_err (E : Nat → Value) (c n cap B k : Nat) (A : Option Addr) (bs : List UInt8) (w : World) (t : TypeId) (v : Value) (hE : Errs w E) (h0 : hd c ≠ 0) (hn : bs.length = n) (hmax : n ≤ maxLen) (hcap : n ≤ cap)
    (hr : Rd w B A (bs.map bv)) (h : spanS c bs = .error k) (hk : E k = .iface t v) :
    Calls Tryd.prog 33 #[.int .u8 (c : Int), .slice A n cap] w fun e w' => e = .returned (.tuple #[.int .i64 0, .iface t v]) ∧ ∃ j, w' = w.drewN j :=
  (span_any E c n cap B A bs w hE h0 hn hmax hcap hr).mono fun _ _ ⟨he, hw⟩ => ⟨by rw [he, h, spanV, hk], hw⟩
theorem Errs.drewN {w : World} {E : Nat → Value} (h : Errs w E) (n : Nat) : Errs (w.drewN n) E := ⟨h.cell, h.some_⟩
theorem Rd.drewN {w : World} {B : Nat} {A : Option Addr} {xs : List Value} (h : Rd w B A xs) (n : Nat) : Rd (w.drewN n) B A xs := h

theorem drewN_more {w W : World} (h : ∃ j, W = w.drewN j) (m : Nat) : ∃ j, W.drewN m = w.drewN j := by
  obtain ⟨j, rfl⟩ := h
  exact ⟨j + m, by rw [World.drewN_drewN]⟩
theorem Errs.quiet {w W : World} {E : Nat → Value} (h : Errs w E) (hw : ∃ j, W = w.drewN j) : Errs W E := by
  obtain ⟨j, rfl⟩ := hw
  exact h.drewN j
theorem Rd.quiet {w W : World} {B : Nat} {A : Option Addr} {xs : List Value} (h : Rd w B A xs) (hw : ∃ j, W = w.drewN j) : Rd W B A xs := by
  obtain ⟨j, rfl⟩ := hw
  exact h.drewN j
theorem someS_zero {c : UInt8} {l bs : List UInt8} (h : hd c.toNat = 0) : someS (c :: l) bs = (0, false) := by rw [someS, if_pos h]
theorem someS_err {c : UInt8} {l bs : List UInt8} {e : Nat} (h : hd c.toNat ≠ 0) (he : spanS c.toNat bs = .error e) : someS (c :: l) bs = (0, false) := by rw [someS, if_neg h, he]
theorem someS_ok {c : UInt8} {l bs : List UInt8} {m : Nat} (h : hd c.toNat ≠ 0) (he : spanS c.toNat bs = .ok m) : someS (c :: l) bs = ((someS l (bs.drop m)).1 + 1, (someS l (bs.drop m)).2) := by rw [someS, if_neg h, he]

set_option maxHeartbeats 400000 in
theorem some_any (E : Nat → Value) (s : ByteArray) (n cap B : Nat) (A : Option Addr) (bs : List UInt8) (w : World) (hE : Errs w E) (hs : s.size ≤ maxLen) (hn : bs.length = n) (hmax : n ≤ maxLen) (hcap : n ≤ cap)
    (hr : Rd w B A (bs.map bv)) :
    Calls Tryd.prog 19 #[.string s, .slice A n cap] w fun e w' => e = .returned (.tuple #[.int .i64 ((someS s.data.toList bs).1 : Int), .bool (someS s.data.toList bs).2]) ∧ ∃ j, w' = w.drewN j := by
  have HE := Lib.hid hE
  have HN := Lib.hid hn
  have HR := Lib.hid hr
  clear hE hn hr
  have hs' : s.size ≤ 9223372036854775807 := hs
  have hmax' : n ≤ 9223372036854775807 := hmax
  clear hs hmax
  go_enter Tryd.func19, Tryd.ntmps19
  go_wp2_with fail
  go_loopw [6, 12] (fun a i W => ∃ k at_ : Nat, k ≤ s.size ∧ at_ ≤ n ∧ i = .int .i64 k ∧ a = .int .i64 at_ ∧ Hid (someS s.data.toList bs = ((someS (s.data.toList.drop k) (bs.drop at_)).1 + k, (someS (s.data.toList.drop k) (bs.drop at_)).2)) ∧ Hid (∃ j, W = w.drewN j)) (fun _ i _ => s.size - (intOf i).toNat)
  case atStart => exact ⟨0, 0, Nat.zero_le _, Nat.zero_le _, rfl, rfl, Lib.hid rfl, Lib.hid ⟨0, rfl⟩⟩
  case round =>
    obtain ⟨k, at_, hk, hat, rfl, rfl, HS, HW⟩ := hrel
    by_cases hlt : k < s.size
    · have HD := Lib.hid (List.drop_eq_getElem_cons (l := s.data.toList) (i := k) (by simpa using hlt))
      have e1 : s.data.toList[k]'(by simpa using hlt) = s[k] := rfl
      rw [e1] at HD
      clear e1
      by_cases hz : hd s[k].toNat = 0
      · have HF : Hid (someS s.data.toList bs = (k, false)) := Lib.hid (by rw [HS.out, HD.out, someS_zero hz]; simp)
        have HZ := Lib.hid hz
        clear hz
        go_wp2_with fail
        refine (headSize_any _ _).mono ?_
        rintro e w' ⟨rfl, rfl⟩
        rw [HZ.out]
        go_wp2_with fail
        go_ret2
        exact ⟨by rw [HF.out]; rfl, HW.out⟩
      · have HZ := Lib.hid hz
        have hzb : ((hd s[k].toNat : Int) == 0) = false := by simp; omega
        clear hz
        have HE' := Lib.hid (HE.out.quiet HW.out)
        have HR' := Lib.hid ((HR.out.quiet HW.out).drop (k := at_) (cap := cap) (by simp; rw [HN.out]; omega) (by simp; rw [HN.out]; omega))
        cases hsp : spanS s[k].toNat (bs.drop at_) with
        | error e =>
          have HF : Hid (someS s.data.toList bs = (k, false)) := Lib.hid (by rw [HS.out, HD.out, someS_err HZ.out hsp]; simp)
          obtain ⟨t, v, het⟩ := HE.out.some_ e (spanS_err hsp)
          generalize hC : s[k].toNat = c at *
          have HCC := Lib.hid hC
          have HSP := Lib.hid hsp
          have HET := Lib.hid het
          clear hsp het hC
          by_cases hca : cap = at_
          · have HR2 := HR'
            rw [if_pos hca] at HR2
            obtain rfl : n = at_ := by omega
            obtain rfl : cap = n := by omega
            go_wp2_with fail
            rw [HCC.out]
            refine (headSize_any _ _).mono ?_
            rintro e w' ⟨rfl, rfl⟩
            go_wp2_with fail
            go_quiet ((rw [HCC.out]; go_at_call 33; exact Calls.quiet_of (span_err E c 0 0 B e _ (bs.drop cap) _ t v (HE'.out.drewN _) HZ.out (by rw [List.length_drop, HN.out]; omega) (by simp only [maxLen]; omega) (by omega) (by rw [List.map_drop]; exact HR2.out.drewN _) HSP.out HET.out)))
            go_wp2_with fail
            go_ret2
            exact ⟨by rw [HF.out]; rfl, drewN_more HW.out _⟩
          · have HR2 := HR'
            rw [if_neg hca] at HR2
            go_wp2_with fail
            rw [HCC.out]
            refine (headSize_any _ _).mono ?_
            rintro e w' ⟨rfl, rfl⟩
            go_wp2_with fail
            go_quiet ((rw [HCC.out]; go_at_call 33; exact Calls.quiet_of (span_err E c _ _ B e _ (bs.drop at_) _ t v (HE'.out.drewN _) HZ.out (by rw [List.length_drop, HN.out]) (by simp only [maxLen]; omega) (by omega) (by rw [List.map_drop]; exact HR2.out.drewN _) HSP.out HET.out)))
            go_wp2_with fail
            go_ret2
            exact ⟨by rw [HF.out]; rfl, drewN_more HW.out _⟩
        | ok m =>
          have hle := spanS_le hsp
          have HF : Hid (someS s.data.toList bs = ((someS (s.data.toList.drop (k + 1)) (bs.drop (at_ + m))).1 + (k + 1), (someS (s.data.toList.drop (k + 1)) (bs.drop (at_ + m))).2)) := Lib.hid (by rw [HS.out, HD.out, someS_ok HZ.out hsp, List.drop_drop, Nat.add_assoc, Nat.add_comm 1 k])
          generalize hC : s[k].toNat = c at *
          have HCC := Lib.hid hC
          have HSP := Lib.hid hsp
          have hle1 : m ≤ n - at_ := by have := hle.1; rwa [List.length_drop, HN.out] at this
          have hle2 : 1 ≤ m := by have := HZ.out; omega
          clear hsp hC hle
          have hca : ¬ cap = at_ := by omega
          have HR2 := HR'
          rw [if_neg hca] at HR2
          go_wp2_with fail
          rw [HCC.out]
          refine (headSize_any _ _).mono ?_
          rintro e w' ⟨rfl, rfl⟩
          go_wp2_with fail
          go_quiet ((rw [HCC.out]; go_at_call 33; exact Calls.quiet_of (span_ok E c _ _ B m _ (bs.drop at_) _ (HE'.out.drewN _) HZ.out (by rw [List.length_drop, HN.out]) (by simp only [maxLen]; omega) (by omega) (by rw [List.map_drop]; exact HR2.out.drewN _) HSP.out)))
          go_wp2_with fail
          refine ⟨⟨k + 1, at_ + m, by omega, by omega, by go_num, by go_num, HF, Lib.hid (drewN_more HW.out _)⟩, by simp [intOf]; omega⟩
    · have HF : Hid (someS s.data.toList bs = (s.size, (bs.drop at_).isEmpty)) := Lib.hid (by
        rw [HS.out, List.drop_eq_nil_of_le (by simp; omega), someS]
        have : k = s.size := by omega
        rw [this]
        simp)
      have hb : (bs.drop at_).isEmpty = ((at_ : Int) == (n : Int)) := by
        rw [Bool.eq_iff_iff]
        simp only [List.isEmpty_iff, List.drop_eq_nil_iff, HN.out, beq_iff_eq]
        omega
      rw [hb] at HF
      clear hb
      go_wp2_with fail
      go_ret2
      exact ⟨by rw [HF.out]; rfl, HW.out⟩
end Go.Proofs.YtcphfgiegpnpeaaDoor

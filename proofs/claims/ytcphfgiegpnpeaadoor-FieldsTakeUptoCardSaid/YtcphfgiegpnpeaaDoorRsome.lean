/- What the reference's Some answers. -/
import Derived.Test.YtcphfgiegpnpeaaDoorRfield
namespace Go.Proofs.YtcphfgiegpnpeaaDoor
open Go.RowKit

theorem rfield_ok (c n cap m : Nat) (A : Option Addr) (bs : List UInt8) (x : FC) (w : World) (h0 : hd c ≠ 0) (hn : bs.length = n) (hmax : n ≤ maxLen) (hcap : n ≤ cap)
    (hr : Rd w w.heap.size A (bs.map bv)) (h : spanS c bs = .ok m) (hx : cellS c (bs.take m) = x) :
    Calls Tryd.prog 36 #[.slice A n cap, .int .u8 (c : Int)] w fun e w' => e = .returned (.tuple #[.agg #[.int .i64 x.n, .int .u64 (x.f : Int), .string x.s], .int .i64 (m : Int), .int .i64 0]) ∧ Below w.heap.size w w' :=
  (rfield_any c n cap A bs w h0 hn hmax hcap hr).mono fun _ _ ⟨he, hb⟩ => ⟨by rw [he, fieldV, h, ← hx], hb⟩
theorem rfield_err (c n cap k : Nat) (A : Option Addr) (bs : List UInt8) (w : World) (h0 : hd c ≠ 0) (hn : bs.length = n) (hmax : n ≤ maxLen) (hcap : n ≤ cap)
    (hr : Rd w w.heap.size A (bs.map bv)) (h : spanS c bs = .error k) :
    Calls Tryd.prog 36 #[.slice A n cap, .int .u8 (c : Int)] w fun e w' => e = .returned (.tuple #[.agg #[.int .i64 0, .int .u64 0, .string ⟨#[]⟩], .int .i64 0, .int .i64 (numOf k : Int)]) ∧ Below w.heap.size w w' :=
  (rfield_any c n cap A bs w h0 hn hmax hcap hr).mono fun _ _ ⟨he, hb⟩ => ⟨by rw [he, fieldV, h], hb⟩
theorem numOf_ne (k : Nat) : ((numOf k : Int) == 0) = false := by simp [numOf]; omega
theorem ext_size (s : ByteArray) (k : Nat) (h : k < s.size) : (s.extract k (k + 1)).size ≤ maxLen := by
  have e : (s.extract k (k + 1)).size = (s.extract k (k + 1)).data.toList.length := by rw [Array.length_toList]; rfl
  rw [e, ext_one s k h]
  simp only [List.length_singleton, maxLen]
  omega

set_option maxHeartbeats 400000 in
theorem rsome_any (s : ByteArray) (n cap : Nat) (A : Option Addr) (bs : List UInt8) (w : World) (hs : s.size ≤ maxLen) (hn : bs.length = n) (hmax : n ≤ maxLen) (hcap : n ≤ cap)
    (hr : Rd w w.heap.size A (bs.map bv)) :
    Calls Tryd.prog 21 #[.string s, .slice A n cap] w fun e w' => e = .returned (.tuple #[.int .i64 ((someS s.data.toList bs).1 : Int), .bool (someS s.data.toList bs).2]) ∧ Below w.heap.size w w' := by
  have HN := Lib.hid hn
  have HR := Lib.hid hr
  clear hn hr
  have hs' : s.size ≤ 9223372036854775807 := hs
  have hmax' : n ≤ 9223372036854775807 := hmax
  clear hs hmax
  go_enter Tryd.func21, Tryd.ntmps21
  go_wp2_with fail
  go_loopw [1, 6] (fun v i W => ∃ (k L C : Nat) (D : Option Addr) (ds : List UInt8), k ≤ s.size ∧ L ≤ C ∧ L ≤ 9223372036854775807 ∧ i = .int .i64 k ∧ v = .slice D L C ∧ Hid (ds.length = L ∧ someS s.data.toList bs = ((someS (s.data.toList.drop k) ds).1 + k, (someS (s.data.toList.drop k) ds).2) ∧ Rd W w.heap.size D (ds.map bv) ∧ Below w.heap.size w W)) (fun _ i _ => s.size - (intOf i).toNat)
  case atStart => exact ⟨0, n, cap, A, bs, Nat.zero_le _, hcap, hmax', rfl, rfl, Lib.hid ⟨HN.out, rfl, HR.out, Below.refl _ _⟩⟩
  case round =>
    obtain ⟨k, L, C, D, ds, hk, hLC, hL, rfl, rfl, H⟩ := hrel
    by_cases hlt : k < s.size
    · have HD := Lib.hid (List.drop_eq_getElem_cons (l := s.data.toList) (i := k) (by simpa using hlt))
      have e1 : s.data.toList[k]'(by simpa using hlt) = s[k] := rfl
      rw [e1] at HD
      clear e1
      have HEX := Lib.hid (ext_one s k hlt)
      have hI3 : IntKind.i64.wrap ((k : Int) + 1) = (k : Int) + 1 := by rw [IntKind.wrap_i64]; omega
      have hI4 : (k : Int) + 1 ≤ (s.size : Int) := by omega
      have hI5 : (k : Int) ≤ (k : Int) + 1 := by omega
      have hI6 : (0 : Int) ≤ (k : Int) + 1 := by omega
      have hkI : (0 : Int) ≤ (k : Int) := by omega
      have hkI2 : (k : Int) < (s.size : Int) := by omega
      go_wp2_with fail
      with_reducible refine (rknown_any (s.extract k (k + 1)) wr (ext_size s k hlt)).mono ?_
      rintro e w1 ⟨rfl, rfl⟩
      by_cases hz : hd s[k].toNat = 0
      · have HF : Hid (someS s.data.toList bs = (k, false)) := Lib.hid (by rw [H.out.2.1, HD.out, someS_zero hz]; simp)
        have HKN : Hid (kn (s.extract k (k + 1)).data.toList = false) := Lib.hid (by rw [HEX.out]; simp [kn, hz])
        rw [HKN.out]
        clear hz
        go_wp2_with fail
        go_ret2
        exact ⟨by rw [HF.out]; rfl, H.out.2.2.2⟩
      · have HKN : Hid (kn (s.extract k (k + 1)).data.toList = true) := Lib.hid (by rw [HEX.out]; simp [kn, hz])
        rw [HKN.out]
        have HZ := Lib.hid hz
        clear hz
        have HRW := Lib.hid (H.out.2.2.1.more H.out.2.2.2.size)
        cases hsp : spanS s[k].toNat ds with
        | error e =>
          have HF : Hid (someS s.data.toList bs = (k, false)) := Lib.hid (by rw [H.out.2.1, HD.out, someS_err HZ.out hsp]; simp)
          have hne := numOf_ne e
          generalize hC : s[k].toNat = c at *
          have HCC := Lib.hid hC
          have HSP := Lib.hid hsp
          clear hsp hC
          go_wp2_with fail
          rw [HCC.out]
          with_reducible refine (rfield_err c L C e D ds wr HZ.out H.out.1 (by simp only [maxLen]; omega) hLC HRW.out HSP.out).mono ?_
          rintro e w2 ⟨rfl, hb2⟩
          have HB2 := Lib.hid (H.out.2.2.2.trans (hb2.mono H.out.2.2.2.size))
          clear hb2
          go_wp2_with fail
          go_ret2
          exact ⟨by rw [HF.out]; rfl, HB2.out.alloc HB2.out.size _⟩
        | ok m =>
          have hle := spanS_le hsp
          have HF : Hid (someS s.data.toList bs = ((someS (s.data.toList.drop (k + 1)) (ds.drop m)).1 + (k + 1), (someS (s.data.toList.drop (k + 1)) (ds.drop m)).2)) := Lib.hid (by rw [H.out.2.1, HD.out, someS_ok HZ.out hsp, Nat.add_assoc, Nat.add_comm 1 k])
          have hle1 : m ≤ L := by have := hle.1; rwa [H.out.1] at this
          have hle2 : 1 ≤ m := by have := HZ.out; omega
          generalize hX : cellS s[k].toNat (ds.take m) = x
          have HX := Lib.hid hX
          clear hX
          generalize hC : s[k].toNat = c at *
          have HCC := Lib.hid hC
          have HSP := Lib.hid hsp
          clear hsp hC hle
          go_wp2_with fail
          rw [HCC.out]
          with_reducible refine (rfield_ok c L C m D ds x wr HZ.out H.out.1 (by simp only [maxLen]; omega) hLC HRW.out HSP.out HX.out).mono ?_
          rintro e w2 ⟨rfl, hb2⟩
          have HB2 := Lib.hid (H.out.2.2.2.trans (hb2.mono H.out.2.2.2.size))
          have HR2 := Lib.hid (H.out.2.2.1.below (hb2.mono H.out.2.2.2.size))
          clear hb2
          have HRD := Lib.hid (HR2.out.drop (k := m) (cap := C) (by simp; rw [H.out.1]; omega) (by simp; rw [H.out.1]; omega))
          by_cases hCm : C = m
          · rw [if_pos hCm] at HRD
            subst hCm
            obtain rfl : L = C := by omega
            go_wp2_with fail
            refine ⟨⟨k + 1, 0, 0, D, ds.drop L, by omega, by omega, by omega, by go_num, rfl, Lib.hid ⟨by rw [List.length_drop, H.out.1]; omega, HF.out, ?_, HB2.out.alloc HB2.out.size _⟩⟩, by simp [intOf]; omega⟩
            rw [List.map_drop]
            exact HRD.out.below ((Below.refl _ _).alloc HB2.out.size _)
          · rw [if_neg hCm] at HRD
            go_wp2_with fail
            refine ⟨⟨k + 1, L - m, C - m, _, ds.drop m, by omega, by omega, by omega, by go_num, rfl, Lib.hid ⟨by rw [List.length_drop, H.out.1], HF.out, ?_, HB2.out.alloc HB2.out.size _⟩⟩, by simp [intOf]; omega⟩
            rw [List.map_drop]
            exact HRD.out.below ((Below.refl _ _).alloc HB2.out.size _)
    · have HF : Hid (someS s.data.toList bs = (s.size, ds.isEmpty)) := Lib.hid (by
        rw [H.out.2.1, List.drop_eq_nil_of_le (by simp; omega), someS]
        have : k = s.size := by omega
        rw [this]
        simp)
      have hb : ds.isEmpty = ((L : Int) == 0) := by
        rw [Bool.eq_iff_iff]
        have := H.out.1
        simp only [List.isEmpty_iff, beq_iff_eq]
        rw [← List.length_eq_zero_iff]
        omega
      rw [hb] at HF
      clear hb
      go_wp2_with fail
      go_ret2
      exact ⟨by rw [HF.out]; rfl, H.out.2.2.2⟩
end Go.Proofs.YtcphfgiegpnpeaaDoor

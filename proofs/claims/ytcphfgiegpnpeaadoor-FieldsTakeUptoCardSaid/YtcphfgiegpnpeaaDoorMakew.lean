/- The law FieldsMake: Encode and Size of every layout and cells, against the reference. -/
import Derived.Test.YtcphfgiegpnpeaaDoorRenc
import Derived.Test.YtcphfgiegpnpeaaDoorLaidm
namespace Go.Proofs.YtcphfgiegpnpeaaDoor
open Go.RowKit

theorem rencode_any (s : ByteArray) (n cap : Nat) (A : Option Addr) (cs : List FC) (w : World) (hs : s.size ≤ 1048576) (hn : cs.length = n) (hcs : CsR w w.heap.size A cs) (hok : ∀ x ∈ cs, x.ok) :
    Calls Tryd.prog 14 #[.string s, .slice A n cap] w fun e w' => ∃ X m c j, e = .returned (.tuple #[.slice X m c, .int .i64 j]) ∧ Hid (RefR w' (encF s.data.toList cs) X m c j ∧ Below w.heap.size w w') := by
  by_cases h : kn s.data.toList = true ∧ n = s.size
  · obtain ⟨hk, rfl⟩ := h
    refine (rencode_known s cap A cs w hk hn hcs hok hs).mono fun e w' ⟨v, j, he, hh⟩ => ?_
    have hl : cs.length = s.data.toList.length := by simpa using hn
    cases hS : sumS s.data.toList cs with
    | error k =>
      have hE : encF s.data.toList cs = .error k := by unfold encF sizesS; rw [if_pos ⟨hk, hl⟩, hS]
      obtain ⟨h1, h2⟩ := hh.out
      rw [hS] at h1
      obtain ⟨rfl, rfl⟩ := h1
      rw [hE]
      exact ⟨none, 0, 0, _, he, Lib.hid ⟨⟨rfl, rfl, rfl, (encF_err hE).2, rfl⟩, h2⟩⟩
    | ok m =>
      have hE := encF_mk hk hl hS
      obtain ⟨h1, h2⟩ := hh.out
      rw [hS] at h1
      obtain ⟨rfl, ho⟩ := h1
      obtain ⟨X, c, rfl, _, hc, hm, hr⟩ := own_slice ho
      rw [hE]
      have hle := sumS_le hS
      have hle2 := encB_length hS
      have hsz : s.data.toList.length = s.size := by simp
      exact ⟨X, _, c, 0, he, Lib.hid ⟨⟨rfl, rfl, hc, hm, by omega, hr⟩, h2⟩⟩
  · refine (rencode_state s n cap A w (by simp only [maxLen]; omega) h).mono fun e w' ⟨he, hw⟩ => ?_
    subst hw
    have hE : encF s.data.toList cs = .error 2 := by
      unfold encF sizesS
      rw [if_neg (by rintro ⟨h1, h2⟩; exact h ⟨h1, by rw [← hn, h2]; simp⟩)]
    rw [hE]
    exact ⟨none, 0, 0, 17, he, Lib.hid ⟨⟨rfl, rfl, rfl, by omega, by decide⟩, Below.refl _ _⟩⟩

theorem low_mem {k : Nat} (h : k < 5) : k ∈ order18 := by
  have : ∀ i, i < 5 → i ∈ order18 := by decide
  exact this k h
theorem Eighteen.errs {w : World} {E : Nat → Value} {ad : Nat → Addr} (h : Eighteen w E ad) : Errs w E :=
  ⟨fun i hi => by rw [h.cell i (low_mem hi), h.val i (low_mem hi)], fun i hi => ⟨_, _, h.val i (low_mem hi)⟩⟩

set_option maxHeartbeats 400000 in
theorem make_any (E : Nat → Value) (ad : Nat → Addr) (s : ByteArray) (n cap : Nat) (A : Option Addr) (cs : List FC) (w : World) (hE : Eighteen w E ad) (h18 : 18 ≤ w.heap.size) (hs : s.size ≤ 1048576) (hn : cs.length = n)
    (hcs : Cs w w.heap.size A cs) (hok : ∀ x ∈ cs, x.ok) (hbig : n ≤ 1048576) :
    Calls Tryd.prog 3 #[.string s, .slice A n cap] w fun e w' => e = .returned (.bool true) ∧ Below w.heap.size w w' := by
  have HE := Lib.hid hE
  have HN := Lib.hid hn
  have HC := Lib.hid hcs
  have HO := Lib.hid hok
  clear hE hn hcs hok
  go_enter Tryd.func3, Tryd.ntmps3
  go_wp2_with fail
  with_reducible refine (alive_any E w HE.out.errs (by omega)).mono ?_
  rintro e w1 ⟨rfl, hb1⟩
  have HB1 := Lib.hid hb1
  have h181 : 18 ≤ w1.heap.size := Nat.le_trans h18 hb1.size
  have HE1 := Lib.hid (HE.out.below h18 hb1)
  have HC1 := Lib.hid ((HC.out.keep hb1).more hb1.size)
  clear hb1
  cases hF : encF s.data.toList cs with
  | error k =>
    have HF := Lib.hid hF
    have hk5 := (encF_err hF).2
    have HS := Lib.hid (encF_err hF).1
    clear hF
    go_wp2_with fail
    with_reducible refine (enc_err E s n cap A cs w1 HE1.out.errs (by omega) (by simp only [maxLen]; omega) HN.out HC1.out HO.out hbig k 79 (.pointer (some (ad k))) (HE1.out.val k (low_mem hk5)) HF.out).mono ?_
    rintro e w2 ⟨rfl, hb2⟩
    have HB2 := Lib.hid (HB1.out.trans (hb2.mono HB1.out.size))
    have h182 : 18 ≤ w2.heap.size := Nat.le_trans h181 hb2.size
    have HE2 := Lib.hid (HE1.out.below h181 hb2)
    have HC2 := Lib.hid ((HC1.out.keep hb2).more hb2.size)
    clear hb2
    go_wp2_with fail
    with_reducible refine (size_err E s n cap k A cs w2 79 (.pointer (some (ad k))) HE2.out.errs (by omega) (by simp only [maxLen]; omega) HN.out HC2.out HO.out (by omega) HS.out (HE2.out.val k (low_mem hk5))).mono ?_
    rintro e w3 ⟨rfl, hb3⟩
    have HB3 := Lib.hid (HB2.out.trans (hb3.mono HB2.out.size))
    have h183 : 18 ≤ w3.heap.size := Nat.le_trans h182 hb3.size
    have HE3 := Lib.hid (HE2.out.below h182 hb3)
    have HC3 := Lib.hid ((HC2.out.keep hb3).more hb3.size)
    clear hb3
    go_wp2_with fail
    with_reducible refine (plain_any n cap A cs w3 HN.out HC3.out (by omega)).mono ?_
    rintro e w4 ⟨v, rfl, H4⟩
    have HB4 := Lib.hid (HB3.out.trans (H4.out.2.mono HB3.out.size))
    have h184 : 18 ≤ w4.heap.size := Nat.le_trans h183 H4.out.2.size
    have HE4 := Lib.hid (HE3.out.below h183 H4.out.2)
    obtain ⟨P, pc, rfl, _, _, hcr⟩ := own_rcells H4.out.1
    have HCR := Lib.hid hcr
    clear hcr
    go_wp2_with fail
    with_reducible refine (rencode_any s n pc P cs w4 hs HN.out HCR.out HO.out).mono ?_
    rintro e w5 ⟨X, m, c, j, rfl, H5⟩
    have HB5 := Lib.hid (HB4.out.trans (H5.out.2.mono HB4.out.size))
    have h185 : 18 ≤ w5.heap.size := Nat.le_trans h184 H5.out.2.size
    have HE5 := Lib.hid (HE4.out.below h184 H5.out.2)
    have h5 := H5.out.1
    rw [HF.out] at h5
    obtain ⟨rfl, rfl, rfl, _, rfl⟩ := h5
    clear H5 H4 HCR
    have hst := Rd.toStr (w := w5) (B := 0) (A := none) (bs := []) (.inl rfl) 0 0 rfl
    go_wp2_with fail
    with_reducible refine (num_err E ad k w5 HE5.out h185 (low_mem hk5)).mono ?_
    rintro e w6 ⟨rfl, hb6⟩
    have HB6 := Lib.hid (HB5.out.trans (hb6.mono HB5.out.size))
    have h186 : 18 ≤ w6.heap.size := Nat.le_trans h185 hb6.size
    have HE6 := Lib.hid (HE5.out.below h185 hb6)
    clear hb6
    go_wp2_with fail
    with_reducible refine (num_err E ad k w6 HE6.out h186 (low_mem hk5)).mono ?_
    rintro e w7 ⟨rfl, hb7⟩
    have HB7 := Lib.hid (HB6.out.trans (hb7.mono HB6.out.size))
    clear hb7
    go_wp2_with fail
    go_ret
    exact ⟨rfl, HB7.out⟩
  | ok x =>
    have HF := Lib.hid hF
    have HS : Hid (sizesS s.data.toList cs = .ok x.length) := Lib.hid (by
      obtain ⟨h1, h2, _, h3⟩ := encF_ok hF
      unfold sizesS
      rw [if_pos ⟨h1, h2⟩, h3])
    clear hF
    go_wp2_with fail
    with_reducible refine (enc_ok E s n cap A cs w1 HE1.out.errs (by omega) (by simp only [maxLen]; omega) HN.out HC1.out HO.out hbig x HF.out).mono ?_
    rintro e w2 ⟨X, c, rfl, H2⟩
    have HB2 := Lib.hid (HB1.out.trans (H2.out.2.2.2.2.mono HB1.out.size))
    have h182 : 18 ≤ w2.heap.size := Nat.le_trans h181 H2.out.2.2.2.2.size
    have HE2 := Lib.hid (HE1.out.below h181 H2.out.2.2.2.2)
    have HC2 := Lib.hid ((HC1.out.keep H2.out.2.2.2.2).more H2.out.2.2.2.2.size)
    go_wp2_with fail
    with_reducible refine (size_ok E s n cap x.length A cs w2 HE2.out.errs (by omega) (by simp only [maxLen]; omega) HN.out HC2.out HO.out (by omega) HS.out).mono ?_
    rintro e w3 ⟨rfl, hb3⟩
    have HR3 := Lib.hid ((H2.out.2.2.2.1.below hb3).more hb3.size)
    have HB3 := Lib.hid (HB2.out.trans (hb3.mono HB2.out.size))
    have h183 : 18 ≤ w3.heap.size := Nat.le_trans h182 hb3.size
    have HC3 := Lib.hid ((HC2.out.keep hb3).more hb3.size)
    clear hb3
    have hxl : x.length ≤ 68721573888 := H2.out.2.2.1
    go_wp2_with fail
    with_reducible refine (plain_any n cap A cs w3 HN.out HC3.out (by omega)).mono ?_
    rintro e w4 ⟨v, rfl, H4⟩
    have HR4 := Lib.hid ((HR3.out.below H4.out.2).more H4.out.2.size)
    have HB4 := Lib.hid (HB3.out.trans (H4.out.2.mono HB3.out.size))
    obtain ⟨P, pc, rfl, _, _, hcr⟩ := own_rcells H4.out.1
    have HCR := Lib.hid hcr
    clear hcr
    go_wp2_with fail
    with_reducible refine (rencode_any s n pc P cs w4 hs HN.out HCR.out HO.out).mono ?_
    rintro e w5 ⟨Y, m, c2, j, rfl, H5⟩
    have HB5 := Lib.hid (HB4.out.trans (H5.out.2.mono HB4.out.size))
    have hst1 := (HR4.out.below H5.out.2).toStr x.length c rfl
    have h5 := H5.out.1
    rw [HF.out] at h5
    obtain ⟨rfl, rfl, _, _, _, hr5⟩ := h5
    have hst2 := hr5.toStr x.length c2 rfl
    clear H5 H4 HCR hr5 HR3 HR4 H2
    have hnn := num_none
    go_wp2_with fail
    with_reducible refine (num_none w5).mono ?_
    rintro e w6 ⟨rfl, rfl⟩
    go_wp2_with fail
    with_reducible refine (num_none w5).mono ?_
    rintro e w6 ⟨rfl, rfl⟩
    go_wp2_with fail
    go_ret
    exact ⟨rfl, HB5.out⟩
theorem make_all (E : Nat → Value) (s : ByteArray) (n cap : Nat) (A : Option Addr) (cs : List FC) (w : World) (hE : Sents w E order18) (hs : s.size ≤ 1048576) (hn : cs.length = n)
    (hcs : Cs w w.heap.size A cs) (hok : ∀ x ∈ cs, x.ok) (hbig : n ≤ 1048576) :
    Calls Tryd.prog 3 #[.string s, .slice A n cap] w fun e w' => e = .returned (.bool true) ∧ Below w.heap.size w w' := by
  obtain ⟨ad, h⟩ := eighteen_of hE
  exact make_any E ad s n cap A cs w h hE.size18 hs hn hcs hok hbig
end Go.Proofs.YtcphfgiegpnpeaaDoor

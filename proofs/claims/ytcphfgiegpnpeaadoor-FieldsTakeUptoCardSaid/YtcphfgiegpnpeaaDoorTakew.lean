/- The law FieldsTake: Decode and Some of all bytes by every layout, against the reference. -/
import Derived.Test.YtcphfgiegpnpeaaDoorKept
import Derived.Test.YtcphfgiegpnpeaaDoorMakew
namespace Go.Proofs.YtcphfgiegpnpeaaDoor
open Go.RowKit

/-- What the reference's Decode hands back. -/
def RdecR (w : World) (r : Except Nat (List FC)) (X : Option Addr) (n c : Nat) (j : Int) : Prop :=
  match r with
  | .error k => X = none ∧ n = 0 ∧ c = 0 ∧ j = (numOf k : Int)
  | .ok cs => j = 0 ∧ n = cs.length ∧ CsR w w.heap.size X cs
theorem rdecode_any (s : ByteArray) (n cap : Nat) (A : Option Addr) (bs : List UInt8) (w : World) (hs : s.size ≤ 1048576) (hn : bs.length = n) (hmax : n ≤ maxLen) (hcap : n ≤ cap)
    (hr : Rd w w.heap.size A (bs.map bv)) :
    Calls Tryd.prog 20 #[.string s, .slice A n cap] w fun e w' => ∃ X m c j, e = .returned (.tuple #[.slice X m c, .int .i64 j]) ∧ Hid (RdecR w' (decF s.data.toList bs) X m c j ∧ Below w.heap.size w w') := by
  cases hk : kn s.data.toList
  · refine (rdecode_state s n cap A w (by simp only [maxLen]; omega) hk).mono fun e w' ⟨he, hw⟩ => ⟨none, 0, 0, 17, he, Lib.hid ⟨?_, ?_⟩⟩
    · rw [decF, if_neg (by rw [hk]; simp)]
      exact ⟨rfl, rfl, rfl, by decide⟩
    · rw [← hw]; exact Below.refl _ _
  · refine (rdecode_known s n cap A bs w hs hn hmax hcap hr hk).mono fun e w' ⟨v, j, he, hh⟩ => ?_
    rw [decF, if_pos hk]
    obtain ⟨h1, h2⟩ := hh.out
    cases hd2 : decS s.data.toList bs with
    | error k =>
      rw [hd2] at h1
      obtain ⟨rfl, rfl⟩ := h1
      exact ⟨none, 0, 0, _, he, Lib.hid ⟨⟨rfl, rfl, rfl, rfl⟩, h2⟩⟩
    | ok cs =>
      rw [hd2] at h1
      obtain ⟨rfl, ho⟩ := h1
      obtain ⟨X, c, rfl, _, _, hcs⟩ := own_rcells ho
      exact ⟨X, cs.length, c, 0, he, Lib.hid ⟨⟨rfl, rfl, hcs⟩, h2⟩⟩
theorem below_quiet {w w' : World} (h : ∃ j, w' = w.drewN j) : Below w.heap.size w w' := by
  obtain ⟨j, rfl⟩ := h
  exact below_drewN (Below.refl _ _) _
theorem CsR.more {w : World} {B B' : Nat} {A : Option Addr} {cs : List FC} (h : CsR w B A cs) (hB : B ≤ B') : CsR w B' A cs := by
  rcases h with rfl | ⟨b, o, h1, h2, h3⟩
  · exact .inl rfl
  · exact .inr ⟨b, o, h1, by omega, h3⟩
theorem Cs.none_ (w : World) (B : Nat) (A : Option Addr) : Cs w B A [] := .inl rfl
theorem CsR.none_ (w : World) (B : Nat) (A : Option Addr) : CsR w B A [] := .inl rfl
theorem decF_err_lt {l bs : List UInt8} {k : Nat} (h : decF l bs = .error k) : k < 5 := by
  unfold decF at h
  split at h
  · exact decS_err_lt h
  · injection h with h; omega

set_option maxHeartbeats 400000 in
theorem take_any (E : Nat → Value) (ad : Nat → Addr) (s : ByteArray) (n cap : Nat) (A : Option Addr) (bs : List UInt8) (w : World) (hE : Eighteen w E ad) (h18 : 18 ≤ w.heap.size) (hs : s.size ≤ 1048576) (hn : bs.length = n) (hcap : n ≤ cap) (hbig : n ≤ 1048576)
    (hr : Rd w w.heap.size A (bs.map bv)) :
    Calls Tryd.prog 4 #[.string s, .slice A n cap] w fun e w' => e = .returned (.bool true) ∧ Below w.heap.size w w' := by
  have HE := Lib.hid hE
  have HN := Lib.hid hn
  have HR := Lib.hid hr
  clear hE hn hr
  go_enter Tryd.func4, Tryd.ntmps4
  go_wp2_with fail
  with_reducible refine (alive_any E w HE.out.errs (by omega)).mono ?_
  rintro e w1 ⟨rfl, hb1⟩
  have HB1 := Lib.hid hb1
  have h181 : 18 ≤ w1.heap.size := Nat.le_trans h18 hb1.size
  have HE1 := Lib.hid (HE.out.below h18 hb1)
  have HR1 := Lib.hid ((HR.out.below hb1).more hb1.size)
  clear hb1
  go_wp2_with fail
  with_reducible refine (bytes_any n cap A bs w1 HN.out hbig HR1.out).mono ?_
  rintro e w2 ⟨X, c, rfl, H2⟩
  have hc6 : n + 6 ≤ c := H2.out.1
  have HB2 := Lib.hid (HB1.out.trans (H2.out.2.2.2.mono HB1.out.size))
  have h182 : 18 ≤ w2.heap.size := Nat.le_trans h181 H2.out.2.2.2.size
  have HE2 := Lib.hid (HE1.out.below h181 H2.out.2.2.2)
  have HR2 := Lib.hid ((HR1.out.below H2.out.2.2.2).more H2.out.2.2.2.size)
  have HX2 := Lib.hid H2.out.2.2.1
  have HCM : Hid (c ≤ maxLen) := Lib.hid H2.out.2.1
  clear H2
  have HXB : Hid (Rd w2 w2.heap.size X (bs.map bv)) := Lib.hid (by
    have := HX2.out.take n
    rwa [← List.map_take, List.take_append_of_le_length (by rw [HN.out]; omega), List.take_of_length_le (by rw [HN.out]; omega)] at this)
  go_wp2_with fail
  with_reducible refine (dec_all E s n c X bs w2 HE2.out.errs (by omega) hs HN.out (by simp only [maxLen]; omega) (by omega) HXB.out).mono ?_
  rintro e w3 ⟨G, m, gc, ev, rfl, H3⟩
  have HB3 := Lib.hid (HB2.out.trans (H3.out.2.mono HB2.out.size))
  have h183 : 18 ≤ w3.heap.size := Nat.le_trans h182 H3.out.2.size
  have HE3 := Lib.hid (HE2.out.below h182 H3.out.2)
  have HR3 := Lib.hid ((HR2.out.below H3.out.2).more H3.out.2.size)
  have HX3 := Lib.hid ((HX2.out.below H3.out.2).more H3.out.2.size)
  have HXB3 := Lib.hid ((HXB.out.below H3.out.2).more H3.out.2.size)
  have HD3 := Lib.hid H3.out.1
  clear H3
  go_wp2_with fail
  with_reducible refine (some_any E s n c w3.heap.size X bs w3 HE3.out.errs (by simp only [maxLen]; omega) HN.out (by simp only [maxLen]; omega) (by omega) HXB3.out).mono ?_
  rintro e w4 ⟨rfl, hq4⟩
  have hb4 := below_quiet hq4
  clear hq4
  have HB4 := Lib.hid (HB3.out.trans (hb4.mono HB3.out.size))
  have h184 : 18 ≤ w4.heap.size := Nat.le_trans h183 hb4.size
  have HE4 := Lib.hid (HE3.out.below h183 hb4)
  have HR4 := Lib.hid ((HR3.out.below hb4).more hb4.size)
  have HX4 := Lib.hid ((HX3.out.below hb4).more hb4.size)
  have HD4 := Lib.hid (HD3.out.below hb4)
  clear hb4
  go_wp2_with fail
  with_reducible refine (rdecode_any s n cap A bs w4 hs HN.out (by simp only [maxLen]; omega) hcap HR4.out).mono ?_
  rintro e w5 ⟨P, pm, pc, pj, rfl, H5⟩
  have HB5 := Lib.hid (HB4.out.trans (H5.out.2.mono HB4.out.size))
  have h185 : 18 ≤ w5.heap.size := Nat.le_trans h184 H5.out.2.size
  have HE5 := Lib.hid (HE4.out.below h184 H5.out.2)
  have HR5 := Lib.hid ((HR4.out.below H5.out.2).more H5.out.2.size)
  have HX5 := Lib.hid ((HX4.out.below H5.out.2).more H5.out.2.size)
  have HD5 := Lib.hid (HD4.out.below H5.out.2)
  have HP5 := Lib.hid H5.out.1
  clear H5
  go_wp2_with fail
  with_reducible refine (rsome_any s n cap A bs w5 (by simp only [maxLen]; omega) HN.out (by simp only [maxLen]; omega) hcap HR5.out).mono ?_
  rintro e w6 ⟨rfl, hb6⟩
  have HB6 := Lib.hid (HB5.out.trans (hb6.mono HB5.out.size))
  have h186 : 18 ≤ w6.heap.size := Nat.le_trans h185 hb6.size
  have HE6 := Lib.hid (HE5.out.below h185 hb6)
  have HR6 := Lib.hid ((HR5.out.below hb6).more hb6.size)
  have HX6 := Lib.hid ((HX5.out.below hb6).more hb6.size)
  have HD6 := Lib.hid (HD5.out.below hb6)
  have HBB := Lib.hid hb6
  clear hb6 HR1 HR2 HR3 HR4 HR5 HX2 HX3 HX4 HX5 HD3 HD4 HD5 HE1 HE2 HE3 HE4 HE5 HXB HXB3 HB1 HB2 HB3 HB4 HB5
  generalize (someS s.data.toList bs).1 = q1
  generalize (someS s.data.toList bs).2 = q2
  cases hF : decF s.data.toList bs with
  | error k =>
    have hk5 := decF_err_lt hF
    have h1 := HD6.out
    rw [hF] at h1
    obtain ⟨rfl, rfl, rfl, _, rfl⟩ := h1
    have h2 := HP5.out
    rw [hF] at h2
    obtain ⟨rfl, rfl, rfl, rfl⟩ := h2
    clear hF HD6 HP5
    rw [HE6.out.val k (low_mem hk5)]
    go_wp2_with fail
    with_reducible refine (same_any 0 0 0 none none [] w6 rfl (Cs.none_ _ _ _) (CsR.none_ _ _ _) (by omega)).mono ?_
    rintro e w7 ⟨rfl, hb7⟩
    have HB7 := Lib.hid (HB6.out.trans (hb7.mono HB6.out.size))
    have h187 : 18 ≤ w7.heap.size := Nat.le_trans h186 hb7.size
    have HE7 := Lib.hid (HE6.out.below h186 hb7)
    have HR7 := Lib.hid ((HR6.out.below hb7).more hb7.size)
    have HX7 := Lib.hid ((HX6.out.below hb7).more hb7.size)
    clear hb7
    go_wp2_with fail
    with_reducible refine (num_err E ad k w7 HE7.out h187 (low_mem hk5)).mono ?_
    rintro e w8 ⟨rfl, hb8⟩
    have HB8 := Lib.hid (HB7.out.trans (hb8.mono HB7.out.size))
    have HR8 := Lib.hid ((HR7.out.below hb8).more hb8.size)
    have HX8 := Lib.hid ((HX7.out.below hb8).more hb8.size)
    clear hb8
    cases q2
    all_goals
      go_wp2_with fail
      with_reducible refine (kept_any n c cap X A bs w8 HN.out hbig hc6 HCM.out HX8.out HR8.out).mono ?_
      rintro e w9 ⟨rfl, hb9⟩
      go_wp2_with fail
      go_ret
      exact ⟨rfl, HB8.out.trans (hb9.mono HB8.out.size)⟩
  | ok cs =>
    have hlen : cs.length ≤ 1048576 := by
      have h3 := (encF_back (by rw [HN.out]; simp only [maxLen]; omega) hF).2.2
      have h4 : s.data.toList.length = s.size := by simp
      omega
    have h1 := HD6.out
    rw [hF] at h1
    obtain ⟨rfl, rfl, _, hcs⟩ := h1
    have h2 := HP5.out
    rw [hF] at h2
    obtain ⟨rfl, rfl, hcr⟩ := h2
    have HCS := Lib.hid hcs
    have HCR := Lib.hid ((hcr.keep HBB.out).more HBB.out.size)
    clear hF HD6 HP5 hcs hcr
    go_wp2_with fail
    with_reducible refine (same_any cs.length gc pc G P cs w6 rfl HCS.out HCR.out hlen).mono ?_
    rintro e w7 ⟨rfl, hb7⟩
    have HB7 := Lib.hid (HB6.out.trans (hb7.mono HB6.out.size))
    have HR7 := Lib.hid ((HR6.out.below hb7).more hb7.size)
    have HX7 := Lib.hid ((HX6.out.below hb7).more hb7.size)
    clear hb7
    go_wp2_with fail
    with_reducible refine (num_none w7).mono ?_
    rintro e w8 ⟨rfl, rfl⟩
    cases q2
    all_goals
      go_wp2_with fail
      with_reducible refine (kept_any n c cap X A bs w7 HN.out hbig hc6 HCM.out HX7.out HR7.out).mono ?_
      rintro e w9 ⟨rfl, hb9⟩
      go_wp2_with fail
      go_ret
      exact ⟨rfl, HB7.out.trans (hb9.mono HB7.out.size)⟩
theorem take_all (E : Nat → Value) (s : ByteArray) (n cap : Nat) (A : Option Addr) (bs : List UInt8) (w : World) (hE : Sents w E order18) (hs : s.size ≤ 1048576) (hn : bs.length = n) (hcap : n ≤ cap) (hbig : n ≤ 1048576)
    (hr : Rd w w.heap.size A (bs.map bv)) :
    Calls Tryd.prog 4 #[.string s, .slice A n cap] w fun e w' => e = .returned (.bool true) ∧ Below w.heap.size w w' := by
  obtain ⟨ad, h⟩ := eighteen_of hE
  exact take_any E ad s n cap A bs w h hE.size18 hs hn hcap hbig hr
end Go.Proofs.YtcphfgiegpnpeaaDoor

/- The law FieldsCuts: bytes cut short are told as too short, bytes with one more as having a tail. -/
import Derived.Test.YtcphfgiegpnpeaaDoorPure
import Derived.LaidEql
namespace Go.Proofs.YtcphfgiegpnpeaaDoor
open Go.RowKit

theorem comp79 : (Tryd.prog.info? 79).map (·.comparable) = some true := by kernel_rfl
theorem size97 : (Tryd.prog.info? 97).map (·.size) = some 1 := by kernel_rfl
/-- An error against itself. -/
theorem eql_same (a : Addr) (W : World) : (binOp .eql 26 (.iface 79 (.pointer (some a))) (.iface 79 (.pointer (some a)))).run Tryd.prog W = .ok (.bool true) W := by
  obtain ⟨i, hi, hcmp⟩ := Option.map_eq_some_iff.1 comp79
  obtain ⟨j, hj, _⟩ := Option.map_eq_some_iff.1 size97
  exact run_eql_iface_ptr_same W a Tryd.underlying26 Tryd.underlying79 hi hcmp hj

/-- What Decode hands back. -/
def DecR (E : Nat → Value) (w : World) (r : Except Nat (List FC)) (X : Option Addr) (n c : Nat) (ev : Value) : Prop :=
  match r with
  | .error k => X = none ∧ n = 0 ∧ c = 0 ∧ k < 5 ∧ ev = E k
  | .ok cs => ev = .nilIface ∧ n = cs.length ∧ n ≤ c ∧ Cs w w.heap.size X cs
theorem DecR.below {E : Nat → Value} {w w' : World} {r : Except Nat (List FC)} {X : Option Addr} {n c : Nat} {ev : Value} (h : DecR E w r X n c ev) (hb : Below w.heap.size w w') : DecR E w' r X n c ev := by
  cases r with
  | error k => exact h
  | ok x =>
    obtain ⟨h1, h2, h3, h4⟩ := h
    exact ⟨h1, h2, h3, (h4.keep hb).more hb.size⟩
theorem flat_at {cs : List FC} {k : Nat} {x : FC} (h : cs[k]? = some x) : (flat cs)[k * 3]? = some (.int .i64 x.n) ∧ (flat cs)[k * 3 + 1]? = some (.float .f64 x.f) ∧ (flat cs)[k * 3 + 2]? = some (.string x.s) := by
  induction cs generalizing k with
  | nil => simp at h
  | cons y cs ih =>
    have e : flat (y :: cs) = [.int .i64 y.n, .float .f64 y.f, .string y.s] ++ flat cs := by simp [flat]
    match k with
    | 0 => simp at h; subst h; simp [e]
    | k + 1 =>
      simp at h
      obtain ⟨g0, g1, g2⟩ := ih h
      rw [e]
      have s0 : ((k + 1) * 3) = k * 3 + 3 := by omega
      rw [s0]
      refine ⟨?_, ?_, ?_⟩
      · rw [List.getElem?_append_right (by simp)]; simpa using g0
      · rw [List.getElem?_append_right (by simp)]; simpa [Nat.add_right_comm] using g1
      · rw [List.getElem?_append_right (by simp)]; simpa [Nat.add_right_comm] using g2
theorem own_cells {w : World} {base : Nat} {v : Value} {n : Nat} {cs : List FC} (h : w.ownsRow base 49 3 v n (flat cs)) : ∃ A c, v = .slice A n c ∧ cs.length = n ∧ n ≤ c ∧ Cs w w.heap.size A cs := by
  have hl : cs.length = n := by have := h.1; rw [flat_length] at this; omega
  rcases h.2 with ⟨rfl, rfl⟩ | ⟨g, cap, cur, rfl, _, hg, hnc, hcm, hsz, htk⟩
  · exact ⟨none, 0, rfl, hl, Nat.le_refl _, .inl (List.eq_nil_of_length_eq_zero hl)⟩
  · refine ⟨_, cap, rfl, hl, hnc, .inr ⟨g, 0, rfl, ?_, fun k x hx => ?_⟩⟩
    · rcases Nat.lt_or_ge g w.heap.size with hlt | hge
      · exact hlt
      · rw [Array.getElem?_eq_none hge] at hg; cases hg
    · have hk : k < n := by rw [← hl]; exact (List.getElem?_eq_some_iff.1 hx).1
      obtain ⟨g0, g1, g2⟩ := flat_at hx
      have c0 := h.cellAt (k * 3) (by omega)
      have c1 := h.cellAt (k * 3 + 1) (by omega)
      have c2 := h.cellAt (k * 3 + 2) (by omega)
      rw [Nat.zero_add]
      exact ⟨c0.trans g0, c1.trans g1, c2.trans g2⟩
theorem decS_err_lt {l : List UInt8} : ∀ {bs : List UInt8} {k : Nat}, decS l bs = .error k → k < 5 := by
  induction l with
  | nil =>
    intro bs k h
    simp only [decS] at h
    split at h
    · cases h
    · injection h with h; omega
  | cons c l ih =>
    intro bs k h
    rw [decS] at h
    cases hs : spanS c.toNat bs with
    | error e => rw [hs] at h; injection h with h; subst h; exact spanS_err hs
    | ok n =>
      rw [hs] at h
      simp only at h
      cases hd2 : decS l (bs.drop n) with
      | error e => rw [hd2] at h; injection h with h; subst h; exact ih hd2
      | ok r => rw [hd2] at h; cases h
theorem dec_all (E : Nat → Value) (s : ByteArray) (n cap : Nat) (A : Option Addr) (bs : List UInt8) (w : World) (hE : Errs w E) (h5 : 5 ≤ w.heap.size) (hs : s.size ≤ 1048576) (hn : bs.length = n) (hmax : n ≤ maxLen) (hcap : n ≤ cap)
    (hr : Rd w w.heap.size A (bs.map bv)) :
    Calls Tryd.prog 18 #[.string s, .slice A n cap] w fun e w' => ∃ X m c ev, e = .returned (.tuple #[.slice X m c, ev]) ∧ Hid (DecR E w' (decF s.data.toList bs) X m c ev ∧ Below w.heap.size w w') := by
  cases hk : kn s.data.toList
  · refine (decode_state E s n cap A w hE (by simp only [maxLen]; omega) hk).mono fun e w' ⟨he, m, hw⟩ => ⟨none, 0, 0, E 2, he, Lib.hid ⟨?_, ?_⟩⟩
    · rw [decF, if_neg (by rw [hk]; simp)]
      exact ⟨rfl, rfl, rfl, by omega, rfl⟩
    · rw [hw]; exact below_drewN (Below.refl _ _) _
  · refine (decode_known E s n cap A bs w hE h5 (by simp only [maxLen]; omega) (by omega) hn hmax hcap hr hk).mono fun e w' hh => ?_
    rw [decF, if_pos hk]
    cases hd2 : decS s.data.toList bs with
    | error k =>
      rw [hd2] at hh
      exact ⟨none, 0, 0, E k, hh.1, Lib.hid ⟨⟨rfl, rfl, rfl, decS_err_lt hd2, rfl⟩, hh.2⟩⟩
    | ok cs =>
      rw [hd2] at hh
      obtain ⟨v, he, ho, hb⟩ := hh
      obtain ⟨X, c, rfl, _, hc, hcs⟩ := own_cells ho
      exact ⟨X, cs.length, c, .nilIface, he, Lib.hid ⟨⟨rfl, rfl, hc, hcs⟩, hb⟩⟩

theorem decF_tail {l x : List UInt8} {cs : List FC} (h : encF l cs = .ok x) (hok : ∀ y ∈ cs, y.ok) (b : UInt8) : decF l (x ++ [b]) = .error 0 := by
  obtain ⟨hk, hl, rfl, hs⟩ := encF_ok h
  rw [decF, if_pos hk, dec_enc hk hl hok hs, if_neg (by simp)]
theorem decF_cut {l x : List UInt8} {cs : List FC} (h : encF l cs = .ok x) {cut : Nat} (hc : cut < x.length) : decF l (x.take cut) = .error 1 ∧ (someS l (x.take cut)).1 < l.length ∧ (someS l (x.take cut)).2 = false := by
  obtain ⟨hk, hl, rfl, hs⟩ := encF_ok h
  obtain ⟨r1, r2, r3⟩ := dec_cut hk hl hs hc
  exact ⟨by rw [decF, if_pos hk, r1], r2, r3⟩

set_option maxHeartbeats 400000 in
theorem cuts_any (E : Nat → Value) (s : ByteArray) (n cap : Nat) (A : Option Addr) (cs : List FC) (at_ : Int) (more : UInt8) (w : World) (hE : Errs w E) (h5 : 5 ≤ w.heap.size) (hs : s.size ≤ 1048576) (hn : cs.length = n)
    (hcs : Cs w w.heap.size A cs) (hok : ∀ x ∈ cs, x.ok) (hbig : n ≤ 1048576)
    (a0 a1 : Addr) (he0 : E 0 = .iface 79 (.pointer (some a0))) (he1 : E 1 = .iface 79 (.pointer (some a1))) :
    Calls Tryd.prog 7 #[.agg #[.string s, .slice A n cap, .int .i64 at_, .int .u8 (more.toNat : Int)]] w fun e w' => e = .returned (.bool true) ∧ Below w.heap.size w w' := by
  have HE := Lib.hid hE
  have HN := Lib.hid hn
  have HC := Lib.hid hcs
  have HO := Lib.hid hok
  have HE0 := Lib.hid he0
  have HE1 := Lib.hid he1
  clear hE hn hcs hok he0 he1
  go_enter Tryd.func7, Tryd.ntmps7
  go_wp2_with fail
  go_quiet (fail)
  have HB0 : Hid (Below w.heap.size w ((w.alloc (.cells #[.string s, .slice A n cap, .int .i64 at_, .int .u8 (more.toNat : Int)] 55)).drewN nq)) := Lib.hid (below_drewN ((Below.refl _ _).alloc (Nat.le_refl _) _) _)
  go_wp2_with fail
  generalize (w.alloc (.cells #[.string s, .slice A n cap, .int .i64 at_, .int .u8 (more.toNat : Int)] 55)).drewN nq = W0 at *
  with_reducible refine (alive_any E W0 (HE.out.below h5 HB0.out) (Nat.le_trans h5 HB0.out.size)).mono ?_
  rintro e w1 ⟨rfl, hb1⟩
  have HB1 := Lib.hid (HB0.out.trans (hb1.mono HB0.out.size))
  clear hb1 HB0
  have h51 : 5 ≤ w1.heap.size := Nat.le_trans h5 HB1.out.size
  go_wp2_with fail
  with_reducible refine (enc_all E s n cap A cs w1 (HE.out.below h5 HB1.out) h51 (by simp only [maxLen]; omega) HN.out ((HC.out.keep HB1.out).more HB1.out.size) HO.out hbig).mono ?_
  rintro e w2 ⟨X, mx, cx, ex, rfl, HX⟩
  have HB2 := Lib.hid (HB1.out.trans (HX.out.2.mono HB1.out.size))
  have h52 : 5 ≤ w2.heap.size := Nat.le_trans h5 HB2.out.size
  have HR := HX.out.1
  cases hr : encF s.data.toList cs with
  | error k =>
    rw [hr] at HR
    obtain ⟨_, _, _, hk, hev⟩ := HR
    obtain ⟨t, v, hv⟩ := HE.out.some_ k hk
    rw [hv] at hev
    subst hev
    clear hv hr
    go_wp2_with fail
    go_ret
    exact ⟨rfl, HB2.out⟩
  | ok x =>
    rw [hr] at HR
    obtain ⟨rfl, rfl, hxc, hcm, hxl, hrd⟩ := HR
    have HRD := Lib.hid hrd
    have HR := Lib.hid hr
    clear hrd hr HX
    have hm : more.toNat < 256 := more.toNat_lt
    have HBA := Lib.hid (HB2.out.alloc HB2.out.size (.cells #[] 5))
    have hwz : w.heap.size ≤ w2.heap.size := HB2.out.size
    go_wp2_with (first
      | (at_builtin
         refine wpList_append_rd _ rfl (.tmp 35) (.tmp 36) rfl w2.heap.size (.slice (some ⟨w2.heap.size, 0, none⟩) 0 0) 0 [] rfl (own_empty w2 w2.heap.size (Nat.le_refl _)) w2.heap.size X x.length cx x rfl rfl (HRD.out.below ((Below.refl _ _).alloc (Nat.le_refl _) _)) (by omega) (by simp) ?_
         intro v1 w3 hown1 hg1 hat1
         have HB3 := Lib.hid (((Below.refl w2.heap.size w2).alloc (Nat.le_refl _) (.cells #[] 5)).grown hg1 (by simp) (fun j hj => by have e : w2.heap.size = j := Option.some.inj hj; omega))
         have HO1 := Lib.hid hown1
         clear hown1 hg1 hat1)
      | (at_builtin
         refine wpList_append_rd _ rfl (.tmp 37) (.tmp 39) rfl w2.heap.size v1 (0 + x.length) ([] ++ x.map bv) rfl (HO1.out.alloc _) (w3.heap.size + 1) (some ⟨w3.heap.size, 0, none⟩) 1 1 [more] rfl rfl (.inr ⟨_, rfl, by simp, cell_one_new w3 _ 5⟩) (by omega) (by have := HB3.out.size; simp; omega) ?_
         intro v2 w4 hown2 hg2 hat2
         have HB4 := Lib.hid ((HB3.out.alloc HB3.out.size (.cells #[.int .u8 (more.toNat : Int)] 5)).grown hg2 (by have := HB3.out.size; simp; omega) (fun j hj => (HO1.out.lt j hj).1))
         have HO2 := Lib.hid hown2
         clear hown2 hg2 hat2))
    have g2 := HO2.out
    rw [Nat.zero_add, List.nil_append, ← List.map_append] at g2
    obtain ⟨Y, cy, rfl, hyl, hyc, hym, hyr⟩ := own_slice g2
    clear g2 HO2
    have HE4 := Lib.hid ((HE.out.below h5 HB2.out).below h52 HB4.out)
    have h54 : 5 ≤ w4.heap.size := Nat.le_trans h52 HB4.out.size
    with_reducible refine (dec_all E s (x.length + 1) cy Y (x ++ [more]) w4 HE4.out h54 hs hyl (by omega) hyc hyr).mono ?_
    rintro e w5 ⟨Z, mz, cz, ez, rfl, HZ⟩
    have HZ1 := HZ.out.1
    rw [decF_tail HR.out HO.out more] at HZ1
    obtain ⟨rfl, rfl, rfl, _, hez⟩ := HZ1
    rw [HE0.out] at hez
    subst hez
    have HB5 := Lib.hid (HB2.out.trans ((HB4.out.trans (HZ.out.2.mono HB4.out.size)).mono HB2.out.size))
    have HB25 := Lib.hid (HB4.out.trans (HZ.out.2.mono HB4.out.size))
    have h55 : 5 ≤ w5.heap.size := Nat.le_trans h5 HB5.out.size
    have HE5 := Lib.hid (HE.out.below h5 HB5.out)
    have hg0 : w5.cell? ⟨0, 0, none⟩ = some (.iface 79 (.pointer (some a0))) := by rw [HE5.out.cell 0 (by omega), HE0.out]
    have hq0 := eql_same a0
    clear HZ hyl hyr
    by_cases hx0 : x.length = 0
    · have hx0' : ((x.length : Int) == 0) = true := by simp [hx0]
      have hxe : x = [] := List.eq_nil_of_length_eq_zero hx0
      subst hxe
      clear hx0 hx0'
      go_wp2_with fail
      go_ret
      exact ⟨rfl, HB5.out⟩
    · have hx0' : ((x.length : Int) == 0) = false := by simp; intro e; exact hx0 (by simp [e])
      have hLp : 0 < (x.length : Int) := by omega
      have hr1 : -(x.length : Int) < at_.tmod (x.length : Int) := by
        have := Int.lt_tmod_of_pos at_ hLp
        exact this
      have hr2 : at_.tmod (x.length : Int) < (x.length : Int) := Int.tmod_lt_of_pos at_ hLp
      obtain ⟨cut, hcut, hcl⟩ : ∃ cut : Nat, at_.tmod (x.length : Int) % (x.length : Int) = (cut : Int) ∧ cut < x.length := by
        have g1 := Int.emod_nonneg (at_.tmod (x.length : Int)) (show (x.length : Int) ≠ 0 by omega)
        have g2 := Int.emod_lt_of_pos (at_.tmod (x.length : Int)) hLp
        exact ⟨(at_.tmod (x.length : Int) % (x.length : Int)).toNat, by omega, by omega⟩
      obtain ⟨q1, q2, q3⟩ := decF_cut HR.out hcl
      have HQ1 := Lib.hid q1
      have HQ2 := Lib.hid q2
      have HQ3 := Lib.hid q3
      clear q1 q2 q3
      have HRX := Lib.hid (((HRD.out.below HB25.out).more HB25.out.size).take cut)
      have hcl2 : cut ≤ cx := by omega
      go_wp2_with fail
      with_reducible refine (dec_all E s cut cx X (x.take cut) w5 HE5.out h55 hs (by rw [List.length_take]; omega) (by simp only [maxLen]; omega) hcl2 (by rw [← map_take_bv]; exact HRX.out)).mono ?_
      rintro e w6 ⟨Z2, mz2, cz2, ez2, rfl, HZ2⟩
      have HZ21 := HZ2.out.1
      rw [HQ1.out] at HZ21
      obtain ⟨rfl, rfl, rfl, _, hez2⟩ := HZ21
      rw [HE1.out] at hez2
      subst hez2
      have HB6 := Lib.hid (HB5.out.trans (HZ2.out.2.mono HB5.out.size))
      have HE6 := Lib.hid (HE.out.below h5 HB6.out)
      have HRX6 := Lib.hid ((HRX.out.below HZ2.out.2))
      go_wp2_with fail
      with_reducible refine (some_any E s cut cx w5.heap.size X (x.take cut) w6 HE6.out (by simp only [maxLen]; omega) (by rw [List.length_take]; omega) (by simp only [maxLen]; omega) hcl2 (by rw [← map_take_bv]; exact HRX6.out)).mono ?_
      rintro e w7 ⟨rfl, hw7⟩
      have HB7 : Hid (Below w.heap.size w w7) := Lib.hid (by obtain ⟨j, rfl⟩ := hw7; exact below_drewN HB6.out j)
      have HE7 := Lib.hid (HE.out.below h5 HB7.out)
      have hg0' : w7.cell? ⟨0, 0, none⟩ = some (.iface 79 (.pointer (some a0))) := by rw [HE7.out.cell 0 (by omega), HE0.out]
      have hg1' : w7.cell? ⟨1, 0, none⟩ = some (.iface 79 (.pointer (some a1))) := by rw [HE7.out.cell 1 (by omega), HE1.out]
      have hq1 := eql_same a1
      rw [HQ3.out]
      have g9 : (someS s.data.toList (x.take cut)).1 < s.size := by have := HQ2.out; simpa using this
      clear hw7 hcut
      generalize (someS s.data.toList (x.take cut)).1 = y1 at *
      have g3 : decide ((y1 : Int) < (s.size : Int)) = true := by simp; omega
      go_wp2_with fail
      go_ret
      exact ⟨rfl, HB7.out⟩
end Go.Proofs.YtcphfgiegpnpeaaDoor

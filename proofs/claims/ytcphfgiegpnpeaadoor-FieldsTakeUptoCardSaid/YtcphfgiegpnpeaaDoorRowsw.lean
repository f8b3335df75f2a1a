/- The law FieldsRows: the bytes of two rows, one behind the other, are those of both layouts together. -/
import Derived.Test.YtcphfgiegpnpeaaDoorSizes
import Derived.Test.YtcphfgiegpnpeaaDoorGrow
namespace Go.Proofs.YtcphfgiegpnpeaaDoor
open Go.RowKit

/-- All bytes of a layout's cells, or the error. -/
def encF (l : List UInt8) (cs : List FC) : Except Nat (List UInt8) := match sizesS l cs with
  | .error k => .error k
  | .ok _ => .ok (encB l cs)
theorem encF_ok {l : List UInt8} {cs : List FC} {x : List UInt8} (h : encF l cs = .ok x) : kn l = true ∧ cs.length = l.length ∧ x = encB l cs ∧ sumS l cs = .ok x.length := by
  unfold encF at h
  cases hs : sizesS l cs with
  | error k => rw [hs] at h; cases h
  | ok m =>
    rw [hs] at h
    injection h with h
    subst h
    unfold sizesS at hs
    split at hs
    · rename_i hh
      exact ⟨hh.1, hh.2, rfl, by rw [encB_length hs]; exact hs⟩
    · cases hs
theorem encF_mk {l : List UInt8} {cs : List FC} {m : Nat} (hk : kn l = true) (hl : cs.length = l.length) (hs : sumS l cs = .ok m) : encF l cs = .ok (encB l cs) := by
  unfold encF sizesS
  rw [if_pos ⟨hk, hl⟩, hs]
theorem encF_err {l : List UInt8} {cs : List FC} {k : Nat} (h : encF l cs = .error k) : sizesS l cs = .error k ∧ k < 5 := by
  unfold encF at h
  cases hs : sizesS l cs with
  | error j => rw [hs] at h; injection h with h; subst h; exact ⟨rfl, sizesS_err_lt hs⟩
  | ok m => rw [hs] at h; cases h
theorem kn_append (a b : List UInt8) : kn (a ++ b) = (kn a && kn b) := by simp [kn]

theorem encF_both {a b : List UInt8} {cs : List FC} {x y : List UInt8} (h1 : encF a (cs.take a.length) = .ok x) (h2 : encF b (cs.drop a.length) = .ok y) : encF (a ++ b) cs = .ok (x ++ y) := by
  obtain ⟨k1, l1, rfl, s1⟩ := encF_ok h1
  obtain ⟨k2, l2, rfl, s2⟩ := encF_ok h2
  have e : cs = cs.take a.length ++ cs.drop a.length := (List.take_append_drop _ _).symm
  have hs : sumS (a ++ b) cs = .ok ((encB a (cs.take a.length)).length + (encB b (cs.drop a.length)).length) := by
    conv => lhs; rw [e]
    rw [sumS_append l1.symm, s1, s2]
  rw [encF_mk (by rw [kn_append, k1, k2]; rfl) (by rw [List.length_append, ← l2, List.length_drop]; rw [List.length_take] at l1; omega) hs]
  congr 1
  conv => lhs; rw [e]
  rw [encB_append l1.symm]
theorem encF_split {a b : List UInt8} {cs : List FC} {z : List UInt8} (hle : a.length ≤ cs.length) (h : encF (a ++ b) cs = .ok z) : ∃ x y, encF a (cs.take a.length) = .ok x ∧ encF b (cs.drop a.length) = .ok y := by
  obtain ⟨k1, l1, rfl, s1⟩ := encF_ok h
  rw [kn_append, Bool.and_eq_true] at k1
  have e : cs = cs.take a.length ++ cs.drop a.length := (List.take_append_drop _ _).symm
  have la : (cs.take a.length).length = a.length := by rw [List.length_take]; omega
  rw [e, sumS_append la.symm] at s1
  cases ha : sumS a (cs.take a.length) with
  | error k => rw [ha] at s1; cases s1
  | ok m =>
    rw [ha] at s1
    cases hb : sumS b (cs.drop a.length) with
    | error k => rw [hb] at s1; cases s1
    | ok j => exact ⟨_, _, encF_mk k1.1 la ha, encF_mk k1.2 (by rw [List.length_drop, l1, List.length_append]; omega) hb⟩

theorem Cs.take {w : World} {B : Nat} {A : Option Addr} {cs : List FC} (h : Cs w B A cs) (k : Nat) : Cs w B A (cs.take k) := by
  rcases h with rfl | ⟨b, o, h1, h2, h3⟩
  · exact .inl (by simp)
  · refine .inr ⟨b, o, h1, h2, fun j x hx => h3 j x ?_⟩
    rw [List.getElem?_take] at hx
    split at hx
    · exact hx
    · cases hx
theorem Cs.drop {w : World} {B : Nat} {A : Option Addr} {cs : List FC} (h : Cs w B A cs) {k cap : Nat} (hk : k ≤ cs.length) (hc : cs.length ≤ cap) : Cs w B (if cap = k then A else A.map (·.add (k * 3))) (cs.drop k) := by
  rcases h with rfl | ⟨b, o, h1, h2, h3⟩
  · exact .inl (by simp)
  · rcases Nat.lt_or_ge k cs.length with hlt | hge
    · rw [if_neg (by omega)]
      subst h1
      refine .inr ⟨b, o + k * 3, ?_, h2, fun j x hx => ?_⟩
      · simp only [Option.map_some, Option.some.injEq]
        unfold Addr.add
        split <;> simp_all
      · rw [List.getElem?_drop] at hx
        have := h3 _ x hx
        rw [Nat.add_mul] at this
        rw [show o + k * 3 + j * 3 = o + (k * 3 + j * 3) by omega]
        exact this
    · exact .inl (List.drop_eq_nil_of_le hge)

/-- Encode, where there is an error. -/
theorem enc_err (E : Nat → Value) (s : ByteArray) (n cap : Nat) (A : Option Addr) (cs : List FC) (w : World) (hE : Errs w E) (h5 : 5 ≤ w.heap.size) (hs : s.size ≤ maxLen) (hn : cs.length = n)
    (hcs : Cs w w.heap.size A cs) (hok : ∀ x ∈ cs, x.ok) (hbig : n ≤ 1048576) (k : Nat) (t : TypeId) (v : Value) (hk : E k = .iface t v) (h : encF s.data.toList cs = .error k) :
    Calls Tryd.prog 12 #[.string s, .slice A n cap] w fun e w' => e = .returned (.tuple #[.slice none 0 0, .iface t v]) ∧ Below w.heap.size w w' :=
  encode_err E s n cap A cs w hE h5 hs hn hcs hok (by omega) k t v hk (encF_err h).1
/-- Encode, where there is none. -/
theorem enc_ok (E : Nat → Value) (s : ByteArray) (n cap : Nat) (A : Option Addr) (cs : List FC) (w : World) (hE : Errs w E) (h5 : 5 ≤ w.heap.size) (hs : s.size ≤ maxLen) (hn : cs.length = n)
    (hcs : Cs w w.heap.size A cs) (hok : ∀ x ∈ cs, x.ok) (hbig : n ≤ 1048576) (x : List UInt8) (h : encF s.data.toList cs = .ok x) :
    Calls Tryd.prog 12 #[.string s, .slice A n cap] w fun e w' => ∃ X c, e = .returned (.tuple #[.slice X x.length c, .nilIface]) ∧ Hid (x.length ≤ c ∧ c ≤ maxLen ∧ x.length ≤ 68721573888 ∧ Rd w' w'.heap.size X (x.map bv) ∧ Below w.heap.size w w') := by
  obtain ⟨hk, hl, rfl, hsum⟩ := encF_ok h
  have hns : n = s.size := by rw [← hn, hl]; simp
  subst hns
  have hle := sumS_le hsum
  have hsz : s.data.toList.length = s.size := by simp
  refine (encode_ok E s cap A cs w hE h5 hs hn hcs hok (by omega) _ hk hsum (by omega)).mono fun e w' ⟨v, he, hh⟩ => ?_
  obtain ⟨ho, hb⟩ := hh.out
  obtain ⟨X, c, rfl, _, hc, hm, hr⟩ := own_slice ho
  exact ⟨X, c, he, Lib.hid ⟨hc, hm, by omega, hr, hb⟩⟩

/-- What Encode hands back. -/
def EncR (E : Nat → Value) (w : World) (r : Except Nat (List UInt8)) (X : Option Addr) (n c : Nat) (ev : Value) : Prop :=
  match r with
  | .error k => X = none ∧ n = 0 ∧ c = 0 ∧ k < 5 ∧ ev = E k
  | .ok x => ev = .nilIface ∧ n = x.length ∧ n ≤ c ∧ c ≤ maxLen ∧ n ≤ 68721573888 ∧ Rd w w.heap.size X (x.map bv)
theorem EncR.below {E : Nat → Value} {w w' : World} {r : Except Nat (List UInt8)} {X : Option Addr} {n c : Nat} {ev : Value} (h : EncR E w r X n c ev) (hb : Below w.heap.size w w') : EncR E w' r X n c ev := by
  cases r with
  | error k => exact h
  | ok x =>
    obtain ⟨h1, h2, h3, h4, h5, h6⟩ := h
    exact ⟨h1, h2, h3, h4, h5, (h6.below hb).more hb.size⟩
theorem enc_all (E : Nat → Value) (s : ByteArray) (n cap : Nat) (A : Option Addr) (cs : List FC) (w : World) (hE : Errs w E) (h5 : 5 ≤ w.heap.size) (hs : s.size ≤ maxLen) (hn : cs.length = n)
    (hcs : Cs w w.heap.size A cs) (hok : ∀ x ∈ cs, x.ok) (hbig : n ≤ 1048576) :
    Calls Tryd.prog 12 #[.string s, .slice A n cap] w fun e w' => ∃ X m c ev, e = .returned (.tuple #[.slice X m c, ev]) ∧ Hid (EncR E w' (encF s.data.toList cs) X m c ev ∧ Below w.heap.size w w') := by
  cases h : encF s.data.toList cs with
  | error k =>
    obtain ⟨t, v, hk⟩ := hE.some_ k (encF_err h).2
    exact (enc_err E s n cap A cs w hE h5 hs hn hcs hok hbig k t v hk h).mono fun e w' ⟨he, hb⟩ => ⟨none, 0, 0, .iface t v, he, Lib.hid ⟨⟨rfl, rfl, rfl, (encF_err h).2, hk.symm⟩, hb⟩⟩
  | ok x =>
    refine (enc_ok E s n cap A cs w hE h5 hs hn hcs hok hbig x h).mono fun e w' ⟨X, c, he, hh⟩ => ?_
    obtain ⟨h1, h2, h3, h4, h6⟩ := hh.out
    exact ⟨X, x.length, c, .nilIface, he, Lib.hid ⟨⟨rfl, rfl, h1, h2, h3, h4⟩, h6⟩⟩

/-- How the three answers of Encode hang together. -/
theorem rows_three {E : Nat → Value} {w : World} {a b : List UInt8} {cs : List FC} {X Y Z : Option Addr} {mx cx my cy mz cz : Nat} {ex ey ez : Value} (hle : a.length ≤ cs.length) (hE : ∀ i, i < 5 → ∃ t v, E i = .iface t v)
    (h1 : EncR E w (encF a (cs.take a.length)) X mx cx ex) (h2 : EncR E w (encF b (cs.drop a.length)) Y my cy ey) (h3 : EncR E w (encF (a ++ b) cs) Z mz cz ez) :
    (((∃ t v, ex = .iface t v) ∨ (ex = .nilIface ∧ ∃ t v, ey = .iface t v)) ∧ (∃ t v, ez = .iface t v) ∧ mz = 0) ∨
    ∃ sx sy : ByteArray, ex = .nilIface ∧ ey = .nilIface ∧ ez = .nilIface ∧ sx.size ≤ 68721573888 ∧ sy.size ≤ 68721573888 ∧
      (convert 24 9 (.slice X mx cx)).run Tryd.prog w = .ok (.string sx) w ∧ (convert 24 9 (.slice Y my cy)).run Tryd.prog w = .ok (.string sy) w ∧ (convert 24 9 (.slice Z mz cz)).run Tryd.prog w = .ok (.string (sx ++ sy)) w := by
  cases r1 : encF a (cs.take a.length) with
  | error k1 =>
    rw [r1] at h1
    cases r3 : encF (a ++ b) cs with
    | ok z => obtain ⟨x, y, e1, _⟩ := encF_split hle r3; rw [r1] at e1; cases e1
    | error k3 =>
      rw [r3] at h3
      obtain ⟨_, _, _, k1lt, e1⟩ := h1
      obtain ⟨_, m3, _, k3lt, e3⟩ := h3
      obtain ⟨t1, v1, g1⟩ := hE k1 k1lt
      obtain ⟨t3, v3, g3⟩ := hE k3 k3lt
      exact .inl ⟨.inl ⟨t1, v1, e1.trans g1⟩, ⟨t3, v3, e3.trans g3⟩, m3⟩
  | ok x =>
    rw [r1] at h1
    cases r2 : encF b (cs.drop a.length) with
    | error k2 =>
      rw [r2] at h2
      cases r3 : encF (a ++ b) cs with
      | ok z => obtain ⟨x, y, _, e2⟩ := encF_split hle r3; rw [r2] at e2; cases e2
      | error k3 =>
        rw [r3] at h3
        obtain ⟨e1, _⟩ := h1
        obtain ⟨_, _, _, k2lt, e2⟩ := h2
        obtain ⟨_, m3, _, k3lt, e3⟩ := h3
        obtain ⟨t2, v2, g2⟩ := hE k2 k2lt
        obtain ⟨t3, v3, g3⟩ := hE k3 k3lt
        exact .inl ⟨.inr ⟨e1, t2, v2, e2.trans g2⟩, ⟨t3, v3, e3.trans g3⟩, m3⟩
    | ok y =>
      rw [r2] at h2
      rw [encF_both r1 r2] at h3
      obtain ⟨e1, m1, _, _, z1, q1⟩ := h1
      obtain ⟨e2, m2, _, _, z2, q2⟩ := h2
      obtain ⟨e3, m3, _, _, _, q3⟩ := h3
      have e : (⟨x.toArray⟩ : ByteArray) ++ ⟨y.toArray⟩ = ⟨(x ++ y).toArray⟩ := by
        apply ByteArray.ext
        rw [ByteArray.data_append]
        simp
      exact .inr ⟨⟨x.toArray⟩, ⟨y.toArray⟩, e1, e2, e3, by show x.toArray.size ≤ _; simp; omega, by show y.toArray.size ≤ _; simp; omega, q1.toStr _ _ m1.symm, q2.toStr _ _ m2.symm, by rw [e]; exact q3.toStr _ _ m3.symm⟩

set_option maxHeartbeats 400000 in
theorem rows_any (E : Nat → Value) (a b : ByteArray) (n cap : Nat) (A : Option Addr) (cs : List FC) (w : World) (hE : Errs w E) (h5 : 5 ≤ w.heap.size) (ha : a.size ≤ 1048576) (hb : b.size ≤ 1048576) (hn : cs.length = n) (hcap : n ≤ cap)
    (hcs : Cs w w.heap.size A cs) (hok : ∀ x ∈ cs, x.ok) (hbig : n ≤ 1048576) :
    Calls Tryd.prog 6 #[.string a, .string b, .slice A n cap] w fun e w' => e = .returned (.bool true) ∧ Below w.heap.size w w' := by
  have HE := Lib.hid hE
  have HN := Lib.hid hn
  have HC := Lib.hid hcs
  have HO := Lib.hid hok
  clear hE hn hcs hok
  go_enter Tryd.func6, Tryd.ntmps6
  go_wp2_with fail
  with_reducible refine (alive_any E w HE.out h5).mono ?_
  rintro e w1 ⟨rfl, hb1⟩
  have HB1 := Lib.hid hb1
  have h51 : 5 ≤ w1.heap.size := Nat.le_trans h5 hb1.size
  have HE1 := Lib.hid (HE.out.below h5 hb1)
  have HC1 := Lib.hid ((HC.out.keep hb1).more hb1.size)
  clear hb1
  by_cases hlt : n < a.size
  · go_wp2_with fail
    go_ret
    exact ⟨rfl, HB1.out⟩
  · have hla : a.data.toList.length = a.size := by simp
    have hla2 : a.data.toList.length = a.size := hla
    clear hla
    have HLA := Lib.hid hla2
    clear hla2
    go_wp2_with fail
    with_reducible refine (enc_all E a a.size cap A (cs.take a.size) w1 HE1.out h51 (by simp only [maxLen]; omega) (by rw [List.length_take, HN.out]; omega) (HC1.out.take _) (fun x hx => HO.out x (List.mem_of_mem_take hx)) ha).mono ?_
    rintro e w2 ⟨X, mx, cx, ex, rfl, HX⟩
    have h52 : 5 ≤ w2.heap.size := Nat.le_trans h51 HX.out.2.size
    have HE2 := Lib.hid (HE1.out.below h51 HX.out.2)
    have HC2 := Lib.hid ((HC1.out.keep HX.out.2).more HX.out.2.size)
    have HD2 := Lib.hid (HC2.out.drop (k := a.size) (cap := cap) (by rw [HN.out]; omega) (by rw [HN.out]; omega))
    by_cases hca : cap = a.size
    · rw [if_pos hca] at HD2
      have hna : n = a.size := by omega
      subst hna
      subst hca
      go_wp2_with fail
      with_reducible refine (enc_all E b 0 0 A (cs.drop a.size) w2 HE2.out h52 (by simp only [maxLen]; omega) (by rw [List.length_drop, HN.out]; omega) HD2.out (fun x hx => HO.out x (List.mem_of_mem_drop hx)) (by omega)).mono ?_
      rintro e w3 ⟨Y, my, cy, ey, rfl, HY⟩
      have h53 : 5 ≤ w3.heap.size := Nat.le_trans h52 HY.out.2.size
      have HE3 := Lib.hid (HE2.out.below h52 HY.out.2)
      have HC3 := Lib.hid ((HC2.out.keep HY.out.2).more HY.out.2.size)
      go_wp2_with fail
      with_reducible refine (enc_all E (a ++ b) a.size a.size A cs w3 HE3.out h53 (by rw [ByteArray.size_append]; simp only [maxLen]; omega) HN.out HC3.out HO.out (by omega)).mono ?_
      rintro e w4 ⟨Z, mz, cz, ez, rfl, HZ⟩
      have HB4 := Lib.hid (((HB1.out.trans (HX.out.2.mono HB1.out.size)).trans (HY.out.2.mono (Nat.le_trans HB1.out.size HX.out.2.size))).trans (HZ.out.2.mono (Nat.le_trans HB1.out.size (Nat.le_trans HX.out.2.size HY.out.2.size))))
      have HEE := HE.out.some_
      have H3 := rows_three (a := a.data.toList) (b := b.data.toList) (by rw [HLA.out, HN.out]; omega) HEE
        (by rw [HLA.out]; exact (HX.out.1.below HY.out.2).below HZ.out.2) (by rw [HLA.out]; exact HY.out.1.below HZ.out.2) (by rw [← Array.toList_append, ← ByteArray.data_append]; exact HZ.out.1)
      clear HEE
      rcases H3 with ⟨he, hz, hm⟩ | ⟨sx, sy, rfl, rfl, rfl, hs1, hs2, hx, hy, hz⟩
      · obtain ⟨t, v, rfl⟩ := hz
        subst hm
        rcases he with ⟨t1, v1, rfl⟩ | ⟨rfl, t1, v1, rfl⟩
        all_goals
          go_wp2_with fail
          go_ret
          exact ⟨rfl, HB4.out⟩
      · have hst1 := hx
        have hst2 := hy
        have hst3 := hz
        clear hx hy hz
        go_wp2_with fail
        go_ret
        exact ⟨rfl, HB4.out⟩
    · rw [if_neg hca] at HD2
      go_wp2_with fail
      with_reducible refine (enc_all E b (n - a.size) (cap - a.size) (A.map (·.add (a.size * 3))) (cs.drop a.size) w2 HE2.out h52 (by simp only [maxLen]; omega) (by rw [List.length_drop, HN.out]) HD2.out (fun x hx => HO.out x (List.mem_of_mem_drop hx)) (by omega)).mono ?_
      rintro e w3 ⟨Y, my, cy, ey, rfl, HY⟩
      have h53 : 5 ≤ w3.heap.size := Nat.le_trans h52 HY.out.2.size
      have HE3 := Lib.hid (HE2.out.below h52 HY.out.2)
      have HC3 := Lib.hid ((HC2.out.keep HY.out.2).more HY.out.2.size)
      go_wp2_with fail
      with_reducible refine (enc_all E (a ++ b) n cap A cs w3 HE3.out h53 (by rw [ByteArray.size_append]; simp only [maxLen]; omega) HN.out HC3.out HO.out (by omega)).mono ?_
      rintro e w4 ⟨Z, mz, cz, ez, rfl, HZ⟩
      have HB4 := Lib.hid (((HB1.out.trans (HX.out.2.mono HB1.out.size)).trans (HY.out.2.mono (Nat.le_trans HB1.out.size HX.out.2.size))).trans (HZ.out.2.mono (Nat.le_trans HB1.out.size (Nat.le_trans HX.out.2.size HY.out.2.size))))
      have HEE := HE.out.some_
      have H3 := rows_three (a := a.data.toList) (b := b.data.toList) (by rw [HLA.out, HN.out]; omega) HEE
        (by rw [HLA.out]; exact (HX.out.1.below HY.out.2).below HZ.out.2) (by rw [HLA.out]; exact HY.out.1.below HZ.out.2) (by rw [← Array.toList_append, ← ByteArray.data_append]; exact HZ.out.1)
      clear HEE
      rcases H3 with ⟨he, hz, hm⟩ | ⟨sx, sy, rfl, rfl, rfl, hs1, hs2, hx, hy, hz⟩
      · obtain ⟨t, v, rfl⟩ := hz
        subst hm
        rcases he with ⟨t1, v1, rfl⟩ | ⟨rfl, t1, v1, rfl⟩
        all_goals
          go_wp2_with fail
          go_ret
          exact ⟨rfl, HB4.out⟩
      · have hst1 := hx
        have hst2 := hy
        have hst3 := hz
        clear hx hy hz
        go_wp2_with fail
        go_ret
        exact ⟨rfl, HB4.out⟩
end Go.Proofs.YtcphfgiegpnpeaaDoor

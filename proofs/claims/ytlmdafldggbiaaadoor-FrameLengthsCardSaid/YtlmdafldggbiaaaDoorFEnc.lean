/- What fields.Size and fields.Encode answer, for every layout and every list of cells (the bytes' number bounded). -/
import Derived.Test.YtlmdafldggbiaaaDoorFAppf
namespace Go.Proofs.YtlmdafldggbiaaaDoor.F
open Go.RowKit

theorem size_any (E : Nat → Value) (s : ByteArray) (n cap : Nat) (A : Option Addr) (cs : List FC) (w : World) (hE : Errz w E) (h5 : 20 ≤ w.heap.size) (hs : s.size ≤ maxLen) (hn : cs.length = n)
    (hcs : Cs w w.heap.size A cs) (hok : ∀ x ∈ cs, x.ok) (hbig : n ≤ 4398046511104) :
    Calls Tryd.prog 27 #[.string s, .slice A n cap] w fun e w' => e = .returned (spanV E (sizesS s.data.toList cs)) ∧ Below w.heap.size w w' := by
  by_cases h : kn s.data.toList = true ∧ cs.length = s.data.toList.length
  · have hl : n = s.size := by rw [← hn, h.2]; simp
    subst hl
    refine (size_known E s cap A cs w hE h5 hs h.1 hn hcs hok hbig).mono fun e w' ⟨he, hb⟩ => ⟨?_, hb⟩
    rw [he, sizesS, if_pos h]
  · refine (size_state E s n cap A w hE hs ?_).mono fun e w' ⟨he, m, hw⟩ => ⟨?_, ?_⟩
    · cases hk : kn s.data.toList
      · exact .inl rfl
      · right
        intro e
        exact h ⟨hk, by rw [hn, e]; simp⟩
    · rw [he, sizesS, if_neg h]
      rfl
    · rw [hw]
      exact below_drewN (Below.refl _ _) _

/-- The bytes of all fields. -/
def encB : List UInt8 → List FC → List UInt8
  | c :: l, x :: cs => fieldB c.toNat x ++ encB l cs
  | _, _ => []

theorem encB_append {l1 l2 : List UInt8} {c1 c2 : List FC} (h : l1.length = c1.length) : encB (l1 ++ l2) (c1 ++ c2) = encB l1 c1 ++ encB l2 c2 := by
  induction l1 generalizing c1 with
  | nil =>
    have : c1 = [] := List.eq_nil_of_length_eq_zero h.symm
    subst this
    simp [encB]
  | cons a l1 ih =>
    match c1, h with
    | x :: c1, h =>
      simp only [List.cons_append, encB]
      rw [ih (by simpa using h), List.append_assoc]
theorem encB_one (c : UInt8) (x : FC) : encB [c] [x] = fieldB c.toNat x := by simp [encB]
theorem encB_step {l : List UInt8} {cs : List FC} {k : Nat} (hl : k < l.length) (hc : k < cs.length) : encB (l.take (k + 1)) (cs.take (k + 1)) = encB (l.take k) (cs.take k) ++ fieldB l[k].toNat cs[k] := by
  rw [List.take_succ_eq_append_getElem hl, List.take_succ_eq_append_getElem hc, encB_append (by simp; omega), encB_one]
theorem fieldB_length {c : Nat} {x : FC} {n : Nat} (h : sizeS c x = .ok n) : (fieldB c x).length = n := by
  unfold sizeS at h
  unfold fieldB
  split at h
  · rename_i hf
    injection h with h
    rw [if_pos hf, be_length, h]
  · rename_i hf
    rw [if_neg hf]
    split at h
    · rename_i ht
      rw [if_pos ht]
      split at h
      · cases h
      · injection h with h
        rw [List.length_append, be_length, ← h]
        simp
    · rename_i ht
      rw [if_neg ht]
      split at h
      · cases h
      · injection h with h
        rw [be_length, h]
theorem encB_length {l : List UInt8} {cs : List FC} {m : Nat} (h : sumS l cs = .ok m) : (encB l cs).length = m := by
  induction l generalizing cs m with
  | nil => simp only [sumS] at h; injection h with h
  | cons a l ih =>
    match cs with
    | [] => simp only [sumS] at h; injection h with h
    | x :: cs =>
      simp only [sumS] at h
      split at h
      · cases h
      · rename_i n hn
        split at h
        · cases h
        · rename_i m' hm
          injection h with h
          simp only [encB, List.length_append, fieldB_length hn, ih hm, h]
theorem sumS_get {l : List UInt8} {cs : List FC} {k m : Nat} (hl : k < l.length) (hc : k < cs.length) (h : sumS l cs = .ok m) : ∃ n, sizeS l[k].toNat cs[k] = .ok n := by
  induction l generalizing cs m k with
  | nil => simp at hl
  | cons a l ih =>
    match cs with
    | [] => simp at hc
    | x :: cs =>
      simp only [sumS] at h
      split at h
      · cases h
      · rename_i n hn
        split at h
        · cases h
        · rename_i m' hm
          match k with
          | 0 => exact ⟨n, hn⟩
          | k + 1 => exact ih (by simpa using hl) (by simpa using hc) hm
theorem encB_take_le {l : List UInt8} {cs : List FC} {m : Nat} (k : Nat) (hlc : l.length = cs.length) (h : sumS l cs = .ok m) : (encB (l.take k) (cs.take k)).length ≤ m := by
  have e := encB_length h
  have e2 : encB l cs = encB (l.take k) (cs.take k) ++ encB (l.drop k) (cs.drop k) := by
    rw [← encB_append (by simp [hlc]), List.take_append_drop, List.take_append_drop]
  rw [e2, List.length_append] at e
  omega
theorem sizeS_pos {c : Nat} {x : FC} {n : Nat} (h : sizeS c x = .ok n) : 0 ≤ x.n ∨ isT c = true ∨ c = 102 := by
  by_cases hf : c = 102
  · exact .inr (.inr hf)
  · cases ht : isT c
    · unfold sizeS at h
      rw [if_neg hf, ht] at h
      simp only [Bool.false_eq_true, if_false] at h
      split at h
      · cases h
      · rename_i hh
        exact .inl (by omega)
    · exact .inr (.inl rfl)
theorem sizeS_text {c : Nat} {x : FC} {n : Nat} (h : sizeS c x = .ok n) (ht : isT c = true) : x.s.size ≤ 65535 := by
  have hf : c ≠ 102 := by rintro rfl; revert ht; decide
  unfold sizeS at h
  rw [if_neg hf, if_pos ht] at h
  split at h
  · cases h
  · have := great_text ht
    omega

set_option maxRecDepth 100000 in
set_option maxHeartbeats 400000 in
theorem encode_err (E : Nat → Value) (s : ByteArray) (n cap : Nat) (A : Option Addr) (cs : List FC) (w : World) (hE : Errz w E) (h5 : 20 ≤ w.heap.size) (hs : s.size ≤ maxLen) (hn : cs.length = n)
    (hcs : Cs w w.heap.size A cs) (hok : ∀ x ∈ cs, x.ok) (hbig : n ≤ 4398046511104) (k : Nat) (t : TypeId) (v : Value) (hk : E k = .iface t v) (h : sizesS s.data.toList cs = .error k) :
    Calls Tryd.prog 28 #[.string s, .slice A n cap] w fun e w' => e = .returned (.tuple #[.slice none 0 0, .iface t v]) ∧ Below w.heap.size w w' := by
  have H := Lib.hid ((size_any E s n cap A cs w hE h5 hs hn hcs hok hbig).mono (R' := fun e w' => e = .returned (.tuple #[.int .i64 0, .iface t v]) ∧ Below w.heap.size w w') fun e w' ⟨he, hb⟩ => ⟨by rw [he, h, spanV, hk], hb⟩)
  clear hE hs hn hcs hok h hk
  go_enter Tryd.func28, Tryd.ntmps28
  go_wp2_with fail
  refine H.out.mono ?_
  rintro e w' ⟨rfl, hb⟩
  go_wp2_with fail
  go_ret2
  exact ⟨rfl, hb⟩

set_option maxRecDepth 100000 in
set_option maxHeartbeats 400000 in
theorem encode_ok (E : Nat → Value) (s : ByteArray) (cap : Nat) (A : Option Addr) (cs : List FC) (w : World) (hE : Errz w E) (h5 : 20 ≤ w.heap.size) (hs : s.size ≤ maxLen) (hn : cs.length = s.size)
    (hcs : Cs w w.heap.size A cs) (hok : ∀ x ∈ cs, x.ok) (hbig : s.size ≤ 4398046511104) (total : Nat) (hk : kn s.data.toList = true) (h : sumS s.data.toList cs = .ok total) (ht : total ≤ 100000000000000) :
    Calls Tryd.prog 28 #[.string s, .slice A s.size cap] w fun e w' => ∃ v, e = .returned (.tuple #[v, .nilIface]) ∧ Hid (w'.ownsRow w.heap.size 5 1 v (encB s.data.toList cs).length ((encB s.data.toList cs).map bv) ∧ Below w.heap.size w w') := by
  have H := Lib.hid ((size_known E s cap A cs w hE h5 hs hk hn hcs hok hbig).mono (R' := fun e w' => e = .returned (.tuple #[.int .i64 (total : Int), .nilIface]) ∧ Below w.heap.size w w') fun e w' ⟨he, hb⟩ => ⟨by rw [he, h]; rfl, hb⟩)
  obtain ⟨i0, hi0, hz0, hz1, hz2⟩ := info_parts u8_info
  have HI := Lib.hid (And.intro hi0 (And.intro hz0 (And.intro hz1 hz2)))
  clear hi0 hz0 hz1 hz2
  have HE := Lib.hid hE
  have HK := Lib.hid hk
  have HN := Lib.hid hn
  have HC := Lib.hid hcs
  have HO := Lib.hid hok
  have HT := Lib.hid h
  clear hE hk hn hcs hok h
  go_enter Tryd.func28, Tryd.ntmps28
  go_wp2_with fail
  refine H.out.mono ?_
  rintro e w1 ⟨rfl, hb1⟩
  have HB1 := Lib.hid hb1
  clear hb1
  go_wp2_with (first
    | (refine wpList_make_own _ rfl _ _ 23 rfl w.heap.size 5 i0 _ 1 Tryd.underlying23 HI.out.1 HI.out.2.1 HI.out.2.2.1 .i64 .i64 _ total rfl rfl rfl (by rw [HI.out.2.2.2]; omega) (by simp only [maxLen]; omega) HB1.out.size ?_
       intro w2 hown2 hg2))
  go_loopw [8, 23] (fun v i W => ∃ k : Nat, k ≤ s.size ∧ i = .int .i64 k ∧ Hid (W.ownsRow w.heap.size 5 1 v (encB (s.data.toList.take k) (cs.take k)).length ((encB (s.data.toList.take k) (cs.take k)).map bv) ∧ Below w.heap.size w W)) (fun _ i _ => s.size - (intOf i).toNat)
  case atStart => exact ⟨0, Nat.zero_le _, rfl, Lib.hid ⟨by simpa [encB] using hown2, HB1.out.grown hg2 HB1.out.size (fun k hk => by cases hk)⟩⟩
  case round =>
    clear H HB1 hown2 hg2
    obtain ⟨k, hk, rfl, HR⟩ := hrel
    by_cases hlt : k < s.size
    · have hkc : k < cs.length := by rw [HN.out]; exact hlt
      obtain ⟨b, o, rfl, hbB, hc0, hc1, hc2⟩ := (HC.out.keep HR.out.2).at_ hkc
      obtain ⟨n, hz⟩ := sumS_get (by simpa using hlt) hkc HT.out
      have hle := encB_take_le k (by simp [HN.out]) HT.out
      have HST := Lib.hid (encB_step (l := s.data.toList) (cs := cs) (k := k) (by simpa using hlt) hkc)
      have e1 : s.data.toList[k]'(by simpa using hlt) = s[k] := rfl
      rw [e1] at hz HST
      clear e1
      generalize hX : cs[k] = x at *
      have HX := Lib.hid hX
      clear hX
      have HXO : Hid x.ok := Lib.hid (by rw [← HX.out]; exact HO.out _ (List.getElem_mem hkc))
      have HZ := Lib.hid (kn_get HK.out hlt)
      generalize hC : s[k].toNat = c at *
      have HCC := Lib.hid hC
      clear hC
      have HZS := Lib.hid hz
      clear hz
      generalize hEB : encB (s.data.toList.take k) (cs.take k) = eb at *
      have HEB := Lib.hid hEB
      clear hEB
      have hbw : b < wr.heap.size := Nat.lt_of_lt_of_le hbB HR.out.2.size
      have hbaseW : w.heap.size ≤ wr.heap.size := HR.out.2.size
      have hne : some b ≠ u8.ownBlock := by
        intro e
        have := HR.out.1.lt _ e.symm
        omega
      have hkI : (0 : Int) ≤ (k : Int) := by omega
      have hkI2 : (k : Int) < (s.size : Int) := by omega
      go_wp2_with fail
      go_region_held3 (fun w' => w'.cell? ⟨b, o + k * 3, none⟩ = some (.int .i64 x.n) ∧ w'.cell? ⟨b, o + k * 3 + 1, none⟩ = some (.float .f64 x.f) ∧ w'.cell? ⟨b, o + k * 3 + 2, none⟩ = some (.string x.s))
        (first | go_keep | exact ⟨HA.out.grown.cell hc0 hne, HA.out.grown.cell hc1 hne, HA.out.grown.cell hc2 hne⟩)
        (first
          | (rw [HCC.out]; go_at_call 45; refine (appendField_any w.heap.size u8 (eb.map bv) c x _ (by rw [List.length_map]; exact HR.out.1) (by exact hbaseW) HZ.out HXO.out (by rw [List.length_map]; omega) (by intro h2; have := sizeS_text HZS.out h2; rw [List.length_map]; omega) (sizeS_pos HZS.out)).mono ?_; rintro e w' ⟨v, rfl, HA⟩))
      go_wp2_with fail
      refine ⟨⟨k + 1, by omega, by go_num, Lib.hid ?_⟩, by simp [intOf]; omega⟩
      rw [HST.out]
      refine ⟨?_, (HR.out.2.drew).grown HA.out.grown hbaseW (fun j hj => (HR.out.1.lt j hj).1)⟩
      have h1 := HA.out.own
      rw [← List.map_append, List.length_map] at h1
      exact h1
    · go_wp2_with fail
      go_ret2
      refine ⟨_, rfl, ?_⟩
      have h1 := HR.out
      rw [List.take_of_length_le (by simp; omega), List.take_of_length_le (by rw [HN.out]; omega)] at h1
      exact h1
end Go.Proofs.YtlmdafldggbiaaaDoor.F

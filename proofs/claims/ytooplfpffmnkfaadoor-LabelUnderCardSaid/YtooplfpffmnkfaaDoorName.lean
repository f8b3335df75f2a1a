/- Is a text a name, a pattern; its labels. -/
import Derived.Test.YtooplfpffmnkfaaDoorLeaf
import Derived.Test.YtooplfpffmnkfaaDoorFew
namespace Go.Proofs.YtooplfpffmnkfaaDoor
open Go.RowKit

theorem nameB_not_long {s : ByteArray} (h : 63 < s.size) : nameB s.data.toList = false := by
  have := size_bytes s
  simp only [nameB]
  rw [decide_eq_false (by omega : ¬ s.data.toList.length ≤ 63)]; simp
theorem nameB_many {l : List UInt8} (h : 8 < (cutD l).length) : nameB l = false := by
  simp only [nameB]
  rw [decide_eq_false (by omega : ¬ (cutD l).length ≤ 8)]; simp
theorem nameB_bad {ss : List ByteArray} {l : List UInt8} (h : bytesOf ss = cutD l) {k : Nat} (hk : k < ss.length) (hb : labelB ss[k].data.toList = false) : nameB l = false := by
  have : (cutD l).all labelB = false := by
    rw [List.all_eq_false, ← h]
    exact ⟨_, List.mem_of_getElem? (bytesOf_get hk), by simp [hb]⟩
  simp [nameB, this]
theorem nameB_all {ss : List ByteArray} {l : List UInt8} (h : bytesOf ss = cutD l) (ha : ∀ j (hj : j < ss.length), labelB ss[j].data.toList = true) : nameB l = (decide (ss.length ≤ 8) && decide (l.length ≤ 63)) := by
  have h1 : (cutD l).all labelB = true := by
    rw [List.all_eq_true, ← h]
    intro x hx
    obtain ⟨k, hk⟩ := List.getElem?_of_mem hx
    have hlt : k < ss.length := by have := (List.getElem?_eq_some_iff.1 hk).1; rwa [bytesOf_length] at this
    rw [bytesOf_get hlt] at hk
    rw [← Option.some.inj hk]
    exact ha k hlt
  rw [nameB, h1, Bool.and_true, ← h, bytesOf_length]
theorem piece_small {ss : List ByteArray} {l : List UInt8} (h : bytesOf ss = cutD l) {k : Nat} (hk : k < ss.length) : ss[k].size ≤ l.length := by
  have h1 : ∀ (L : List (List UInt8)) (x : List UInt8), x ∈ L → x.length ≤ (glue L).length := by
    intro L
    induction L with
    | nil => intro x hx; cases hx
    | cons a r ih =>
      intro x hx
      by_cases hr : r = []
      · subst hr
        simp at hx
        rw [hx]; exact Nat.le_refl _
      · rw [glue_cons a hr, List.length_append, List.length_cons]
        rcases List.mem_cons.1 hx with rfl | hx
        · omega
        · have := ih x hx; omega
  have h2 := h1 (cutD l) _ (by rw [← h]; exact List.mem_of_getElem? (bytesOf_get hk))
  rw [glue_cutD] at h2
  rw [size_bytes]; exact h2

set_option maxHeartbeats 1000000 in
theorem name_any (s : ByteArray) (a : Addr) (m : Int) (w : World) (hE : Env w a m) : Calls Tryd.prog 11 #[.string s] w fun e w' => e = .returned (errV a (nameB s.data.toList)) ∧ Hid (Below w.heap.size w w') := by
  have h2 := hE.lt
  have c0 := hE.c0
  have HE := Lib.hid hE
  clear hE
  by_cases h63 : 63 < s.size
  · have HL : Hid (errV a (nameB s.data.toList) = .iface 57 (.pointer (some a))) := Lib.hid (by rw [nameB_not_long h63]; rfl)
    go_enter Tryd.func11, Tryd.ntmps11
    go_wp2
    go_ret
    exact ⟨by rw [HL.out]; rfl, Lib.hid (Below.refl _ _)⟩
  go_enter Tryd.func11, Tryd.ntmps11
  go_wp2_with fail
  with_reducible refine (split_any s a m w (by omega) HE.out).mono ?_
  rintro e w1 ⟨A, c, ss, rfl, HV⟩
  have HB := Lib.hid HV.out.2.2.2.2
  have HR := Lib.hid HV.out.2.2.2.1
  have HS := Lib.hid HV.out.1
  have hc : ss.length ≤ c := HV.out.2.1
  have hcm : c ≤ 9223372036854775807 := HV.out.2.2.1
  have c1 : w1.cell? ⟨0, 0, none⟩ = some (.iface 57 (.pointer (some a))) := (HE.out.below h2 HB.out).c0
  clear HV c0
  by_cases h8 : 8 < ss.length
  · have HL : Hid (errV a (nameB s.data.toList) = .iface 57 (.pointer (some a))) := Lib.hid (by rw [nameB_many (by rw [← HS.out, bytesOf_length]; exact h8)]; rfl)
    go_wp2
    go_ret
    exact ⟨by rw [HL.out]; rfl, HB⟩
  go_wp2
  go_loop [18] (fun i => ∃ k : Nat, k ≤ ss.length ∧ i = .int .i64 k ∧ Shut (∀ j (hj : j < ss.length), j < k → labelB ss[j].data.toList = true)) (fun i => ss.length - (intOf i).toNat)
  case atStart => exact ⟨0, Nat.zero_le _, rfl, ⟨fun j _ hj => absurd hj (Nat.not_lt_zero _)⟩⟩
  case round =>
    obtain ⟨k, hk, rfl, HA⟩ := hrel
    by_cases hlt : k < ss.length
    · obtain ⟨ad, rfl, hadb, hcell⟩ := HR.out.cell (sv_get hlt)
      have hsm := piece_small HS.out hlt
      have hsz := size_bytes s
      have hle : ss[k].size ≤ 9223372036854775807 := by omega
      have HI := Lib.hid (isLabel_any ss[k] w1 hle)
      clear hsm hsz hadb
      cases hb : labelB ss[k].data.toList with
      | false =>
        have HL : Hid (errV a (nameB s.data.toList) = .iface 57 (.pointer (some a))) := Lib.hid (by rw [nameB_bad HS.out hlt hb]; rfl)
        rw [hb] at HI
        clear hb
        go_wp2_with fail
        with_reducible refine HI.out.mono ?_
        rintro e _ ⟨rfl, rfl⟩
        go_wp2_with fail
        go_ret
        exact ⟨by rw [HL.out]; rfl, HB⟩
      | true =>
        have HN : Shut (∀ j (hj : j < ss.length), j < k + 1 → labelB ss[j].data.toList = true) := ⟨fun j hj hjk => by
          by_cases e : j = k
          · subst e; exact hb
          · exact HA.out j hj (by omega)⟩
        rw [hb] at HI
        clear hb
        go_wp2_with fail
        with_reducible refine HI.out.mono ?_
        rintro e _ ⟨rfl, rfl⟩
        go_wp2_with fail
        go_round
        case rel => exact ⟨k + 1, by omega, by go_num, HN⟩
        case measure => simp [intOf]; omega
    · have HL : Hid (errV a (nameB s.data.toList) = .nilIface) := Lib.hid (by
        rw [nameB_all HS.out (fun j hj => HA.out j hj (by omega)), decide_eq_true (by omega : ss.length ≤ 8), decide_eq_true (by rw [← size_bytes]; omega)]; rfl)
      go_wp2
      go_ret
      exact ⟨by rw [HL.out]; rfl, HB⟩

theorem trimmed (s : ByteArray) : (⟨(Go.Lib.trimPrefix s.data.toList [42, 46]).toArray⟩ : ByteArray).data.toList = Go.Lib.trimPrefix s.data.toList [42, 46] := by simp
theorem check_any (s : ByteArray) (a : Addr) (m : Int) (w : World) (hE : Env w a m) : Calls Tryd.prog 10 #[.string s] w fun e w' => e = .returned (errV a (patB s.data.toList)) ∧ Hid (Below w.heap.size w w') := by
  have h2 := hE.lt
  have c0 := hE.c0
  have HE := Lib.hid hE
  clear hE
  have hsz := size_bytes s
  by_cases h63 : 63 < s.size
  · have HL : Hid (errV a (patB s.data.toList) = .iface 57 (.pointer (some a))) := Lib.hid (by
      rw [patB, decide_eq_false (by omega : ¬ s.data.toList.length ≤ 63)]; rfl)
    clear hsz
    go_enter Tryd.func10, Tryd.ntmps10
    go_wp2
    go_ret
    exact ⟨by rw [HL.out]; rfl, Lib.hid (Below.refl _ _)⟩
  have HT := Lib.hid (Tryd.strings_TrimPrefix s ⟨#[42, 46]⟩ w)
  have HN := Lib.hid (name_any ⟨(Go.Lib.trimPrefix s.data.toList [42, 46]).toArray⟩ a m w HE.out)
  have e1 : (⟨#[42, 46]⟩ : ByteArray).data.toList = [42, 46] := rfl
  rw [e1] at HT
  have e2 : nameB (Go.Lib.trimPrefix s.data.toList [42, 46]) = patB s.data.toList := by
    rw [patB, decide_eq_true (by omega : s.data.toList.length ≤ 63), Bool.true_and]
  rw [trimmed, e2] at HN
  clear e1 e2 hsz
  go_enter Tryd.func10, Tryd.ntmps10
  go_wp2_with fail
  with_reducible refine HT.out.mono ?_
  rintro e _ ⟨rfl, rfl⟩
  go_wp2_with fail
  with_reducible refine HN.out.mono ?_
  rintro e w1 ⟨rfl, HB⟩
  go_wp2_with fail
  go_ret
  exact ⟨rfl, HB⟩
/-- Labels of a pattern. -/
theorem labels_yes (s : ByteArray) (a : Addr) (m : Int) (w : World) (hE : Env w a m) (hp : patB s.data.toList = true) : Calls Tryd.prog 13 #[.string s] w fun e w' => ∃ A c ss, e = .returned (.slice A ss.length c) ∧ Hid (bytesOf ss = cutD s.data.toList ∧ ss.length ≤ c ∧ c ≤ 9223372036854775807 ∧ Rd w' w'.heap.size A (sv ss) ∧ Below w.heap.size w w') := by
  have h2 := hE.lt
  have hl := pat_len hp
  have hsz := size_bytes s
  have hs : s.size < 4294967281 := by omega
  have HC := Lib.hid (check_any s a m w hE)
  have HE := Lib.hid hE
  rw [hp, show errV a true = .nilIface from rfl] at HC
  clear hE hp hl hsz
  go_enter Tryd.func13, Tryd.ntmps13
  go_wp2_with fail
  with_reducible refine HC.out.mono ?_
  rintro e w1 ⟨rfl, HB⟩
  have HE1 := Lib.hid (HE.out.below h2 HB.out)
  go_wp2_with fail
  with_reducible refine (split_any s a m w1 hs HE1.out).mono ?_
  rintro e w2 ⟨A, c, ss, rfl, HV⟩
  go_wp2_with fail
  go_ret
  exact ⟨A, c, ss, rfl, Lib.hid ⟨HV.out.1, HV.out.2.1, HV.out.2.2.1, HV.out.2.2.2.1, HB.out.trans (HV.out.2.2.2.2.mono HB.out.size)⟩⟩
theorem labels_no (s : ByteArray) (a : Addr) (m : Int) (w : World) (hE : Env w a m) (hp : patB s.data.toList = false) : Calls Tryd.prog 13 #[.string s] w fun e w' => e = .returned (.slice none 0 0) ∧ Hid (Below w.heap.size w w') := by
  have HC := Lib.hid (check_any s a m w hE)
  rw [hp, show errV a false = .iface 57 (.pointer (some a)) from rfl] at HC
  clear hE hp
  go_enter Tryd.func13, Tryd.ntmps13
  go_wp2_with fail
  with_reducible refine HC.out.mono ?_
  rintro e w1 ⟨rfl, HB⟩
  go_wp2_with fail
  go_ret
  exact ⟨rfl, HB⟩
end Go.Proofs.YtooplfpffmnkfaaDoor

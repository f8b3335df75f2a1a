/- The law LabelBest: Best of every list; turned round it is as good. -/
import Derived.Test.YtooplfpffmnkfaaDoorRbest
import Derived.Test.YtooplfpffmnkfaaDoorAlive
namespace Go.Proofs.YtooplfpffmnkfaaDoor
open Go.RowKit

/-- A row of our own, read, however short. -/
theorem own_open {w : World} {base : Nat} {v : Value} {n : Nat} {ss : List ByteArray} (h : w.ownsRow base 9 1 v n (sv ss)) : ss.length = n ∧ ∃ A c, v = .slice A n c ∧ n ≤ c ∧ c ≤ 9223372036854775807 ∧ Rd w w.heap.size A (sv ss) := by
  have hl : ss.length = n := by have := h.1; simpa [sv] using this
  by_cases h0 : 0 < n
  · obtain ⟨_, g, c, e, h1, h2, h3⟩ := own_read h h0
    exact ⟨hl, _, c, e, h1, h2, h3⟩
  · have hn : n = 0 := by omega
    subst hn
    have hs : ss = [] := List.eq_nil_of_length_eq_zero hl
    subst hs
    rcases h.2 with ⟨e, _⟩ | ⟨g, cap, cur, e, _, _, hnc, hcm, _⟩
    · exact ⟨rfl, none, 0, e, Nat.le_refl _, by decide, .inl rfl⟩
    · exact ⟨rfl, _, cap, e, hnc, hcm, .inl rfl⟩
theorem bytesOf_reverse (ss : List ByteArray) : bytesOf ss.reverse = (bytesOf ss).reverse := by simp [bytesOf, List.map_reverse]
theorem rev_take {ss : List ByteArray} {j k : Nat} (h : ss.length = j + 1 + k) : ss.reverse.take (k + 1) = ss.reverse.take k ++ [ss[j]] := by
  have hk : k < ss.reverse.length := by simp; omega
  rw [List.take_succ_eq_append_getElem hk]
  congr 2
  rw [List.getElem_reverse]
  congr 1
  omega
theorem own_empty (w : World) (base : Nat) (h : base ≤ w.heap.size) : (w.alloc (.cells #[] 9)).ownsRow base 9 1 (.slice (some ⟨w.heap.size, 0, none⟩) 0 0) 0 (sv []) :=
  ⟨rfl, .inr ⟨w.heap.size, 0, #[], rfl, h, heap_alloc_last w _, Nat.le_refl _, by decide, rfl, rfl⟩⟩
theorem rd_one (w : World) (x : ByteArray) : Rd (w.alloc (.cells #[.string x] 9)) (w.heap.size + 1) (some ⟨w.heap.size, 0, none⟩) (sv [x]) := .inr ⟨_, rfl, by simp, fun j u hj => by
  match j with
  | 0 => simp [sv] at hj; rw [← hj]; simp [Addr.add]
  | j + 1 => simp [sv] at hj⟩
theorem Lst.small {w : World} {A : Option Addr} {ss : List ByteArray} {S T : Nat} (h : Lst w A ss S) (hz : ∀ k (hk : k < ss.length), ss[k].size ≤ T) : Lst w A ss T := ⟨h.rd, hz⟩

set_option maxHeartbeats 4000000 in
theorem lawBest_any (A : Option Addr) (c : Nat) (ss : List ByteArray) (n : ByteArray) (a : Addr) (m : Int) (w : World) (hE : Env w a m) (hL : Lst w A ss maxLen) (hc : ss.length ≤ c) (hcm : c ≤ 9223372036854775807) (hn : n.size ≤ 1048576) : Calls Tryd.prog 5 #[.slice A ss.length c, .string n] w fun e w' => e = .returned (.bool true) ∧ Below w.heap.size w w' := by
  have h2 := hE.lt
  have HA := Lib.hid (alive_any a m w hE)
  have HE := Lib.hid hE
  have HL := Lib.hid hL
  clear hE hL
  by_cases gs : 60 < ss.length
  · go_enter Tryd.func5, Tryd.ntmps5
    go_wp2_with fail
    with_reducible refine HA.out.mono ?_
    rintro e w1 ⟨rfl, HB1⟩
    go_wp2_with fail
    go_ret
    exact ⟨rfl, HB1.out⟩
  go_enter Tryd.func5, Tryd.ntmps5
  go_wp2_with fail
  with_reducible refine HA.out.mono ?_
  rintro e w1 ⟨rfl, HB1⟩
  have HL1 := Lib.hid (HL.out.below HB1.out)
  go_wp2_with fail
  go_loop [18] (fun i => ∃ k : Nat, k ≤ ss.length ∧ i = .int .i64 k ∧ Shut (∀ j (hj : j < ss.length), j < k → ss[j].size ≤ 200)) (fun i => ss.length - (intOf i).toNat)
  case atStart => exact ⟨0, Nat.zero_le _, rfl, ⟨fun j _ hj => absurd hj (Nat.not_lt_zero _)⟩⟩
  case round =>
    obtain ⟨k, hk, rfl, HI⟩ := hrel
    by_cases hlt : k < ss.length
    · obtain ⟨b0, o0, hA, _, hcl⟩ := HL1.out.rd.at_ (by omega)
      subst hA
      have d1 : w1.cell? ⟨b0, o0 + k, none⟩ = some (.string ss[k]) := hcl k hlt
      clear hcl
      by_cases g2 : 200 < ss[k].size
      · go_wp2_with fail
        go_ret
        exact ⟨rfl, HB1.out⟩
      · have HN : Shut (∀ j (hj : j < ss.length), j < k + 1 → ss[j].size ≤ 200) := ⟨fun j hj hjk => by
          by_cases e : j = k
          · subst e; omega
          · exact HI.out j hj (by omega)⟩
        go_wp2_with fail
        go_round
        case rel => exact ⟨k + 1, by omega, by go_num, HN⟩
        case measure => simp [intOf]; omega
    · have he : k = ss.length := by omega
      subst he
      have HS1 := Lib.hid (HL1.out.small (T := 200) (fun j hj => HI.out j hj hj))
      have HE1 := Lib.hid (HE.out.below h2 HB1.out)
      have HBT := Lib.hid (best_turned (bytesOf ss) n.data.toList)
      rw [bytesOf_length, ← bytesOf_reverse] at HBT
      have HBO := fun (W : World) (B : Option Addr) (d : Nat) (hd : ss.reverse.length ≤ d) (hdm : d ≤ 9223372036854775807) (he : Env W a m) (hl : Lst W B ss.reverse 200) => Lib.hid (best_any B d 200 ss.reverse n a m W he hl (by decide) hd hdm (by omega))
      rw [List.length_reverse] at HBO
      have HBG := Lib.hid (best_any A c 200 ss n a m w1 HE1.out HS1.out (by decide) hc hcm (by omega))
      have HBR := fun (W : World) (hl : Lst W A ss 200) => Lib.hid (refBest_any A c 200 ss n W hl (by decide) hc hcm (by omega))
      have HLw := Lib.hid (HL.out.small (T := 200) (fun j hj => HI.out j hj hj))
      clear HI hlt hk
      generalize bestL (bytesOf ss) n.data.toList ss.length = got at *
      generalize bestL (bytesOf ss.reverse) n.data.toList ss.length = oth at *
      go_wp2_with fail
      with_reducible refine HBG.out.mono ?_
      rintro e w2 ⟨rfl, HV2⟩
      have HB2 := Lib.hid (HB1.out.trans (HV2.out.mono HB1.out.size))
      have HS2 := Lib.hid (HS1.out.below HV2.out)
      clear HV2 HBG
      go_wp2_with fail
      with_reducible refine (HBR w2 HS2.out).out.mono ?_
      rintro e w3 ⟨rfl, HV3⟩
      have HB3 := Lib.hid (HB2.out.trans (HV3.out.mono HB2.out.size))
      have HS3 := Lib.hid (HS2.out.below HV3.out)
      clear HV3 HBR HS2 HS1 HL1 HL HB2 HB1 HE1
      have HO := Lib.hid (own_empty w3 w.heap.size HB3.out.size)
      have HB4 := Lib.hid (HB3.out.alloc HB3.out.size (.cells #[] 9))
      go_wp2_with fail
      obtain ⟨w4, HW4⟩ : ∃ w4, Shut (w4 = w3.alloc (.cells #[] 9)) := ⟨_, ⟨rfl⟩⟩
      rw [← HW4.out] at HO HB4 ⊢
      go_loopw [8, 9] (fun v i W => ∃ k : Nat, k ≤ ss.length ∧ i = .int .i64 ((ss.length : Int) - 1 - (k : Int)) ∧ ∃ tv, tv = v ∧ Shut (W.ownsRow w.heap.size 9 1 tv k (sv (ss.reverse.take k)) ∧ Below w.heap.size w W)) (fun _ i _ => (intOf i + 1).toNat)
      case atStart => exact ⟨0, Nat.zero_le _, by simp, _, rfl, ⟨HO.out, HB4.out⟩⟩
      case round =>
        obtain ⟨k, hk, rfl, tv, rfl, HI⟩ := hrel
        by_cases hlt : k < ss.length
        · obtain ⟨j, hj⟩ : ∃ j, ss.length = j + 1 + k := ⟨ss.length - 1 - k, by omega⟩
          have hjl : j < ss.length := by omega
          have ej : (ss.length : Int) - 1 - (k : Int) = (j : Int) := by omega
          rw [ej]
          obtain ⟨b0, o0, hA, _, hcl⟩ := (HLw.out.below HI.out.2).rd.at_ (by omega)
          subst hA
          have d1 : wr.cell? ⟨b0, o0 + j, none⟩ = some (.string ss[j]) := hcl j hjl
          clear hcl
          have HR := Lib.hid (rd_one wr ss[j])
          have HOA := Lib.hid (HI.out.1.alloc (.cells #[.string ss[j]] 9))
          have HBA := Lib.hid (HI.out.2.alloc HI.out.2.size (.cells #[.string ss[j]] 9))
          have HTK : Hid (sv (ss.reverse.take k) ++ sv [ss[j]] = sv (ss.reverse.take (k + 1))) := Lib.hid (by rw [rev_take hj]; simp [sv])
          have HLT := HI.out.1.lt
          have HKJ := Lib.hid hj
          have HEJ := Lib.hid ej
          clear hj ej
          go_wp2_with (refine wl_append rfl (.tmp 42) (.tmp 47) rfl w.heap.size tv k (sv (ss.reverse.take k)) rfl HOA.out _ _ 1 1 [ss[j]] rfl rfl HR.out (by omega) HBA.out.size ?_
                       intro v5 w5 HA5)
          go_round
          case rel =>
            refine ⟨k + 1, by omega, ?_, v5, rfl, ⟨by rw [← HTK.out]; exact HA5.out.1, HBA.out.grown HA5.out.2.1 HBA.out.size (fun q hq => (HLT q hq).1)⟩⟩
            congr 1
            have := HKJ.out
            omega
          case measure =>
            have := HKJ.out
            simp [intOf]
        · have he : k = ss.length := by omega
          subst he
          have ej : (ss.length : Int) - 1 - (ss.length : Int) = -1 := by omega
          rw [ej]
          have HOW := Lib.hid HI.out.1
          rw [List.take_of_length_le (by simp)] at HOW
          obtain ⟨_, B, d, rfl, hd, hdm, hrd⟩ := own_open HOW.out
          have hsz := HLw.out.sz
          have HLR : Hid (Lst wr B ss.reverse 200) := Lib.hid ⟨hrd, fun k hk => by
            rw [List.getElem_reverse]
            exact hsz _ _⟩
          have HBw := Lib.hid HI.out.2
          have HER := Lib.hid (HE.out.below h2 HBw.out)
          have HBS := Lib.hid (HBO wr B d (by simpa using hd) hdm HER.out HLR.out).out
          have HRB := Lib.hid hrd
          clear HI ej hsz hrd HOW HBO
          go_wp2_with fail
          with_reducible refine HBS.out.mono ?_
          rintro e w6 ⟨rfl, HV6⟩
          have HB6 := Lib.hid (HBw.out.trans (HV6.out.mono HBw.out.size))
          rcases HBT.out with ⟨e1, e2⟩ | ⟨i, j, e1, e2, hi, hj, e3⟩
          · obtain rfl := e1
            obtain rfl := e2
            have eo : ov none = -1 := rfl
            rw [eo]
            clear eo
            go_wp2_with fail
            go_quiet (fail)
            go_wp2_with fail
            go_ret
            exact ⟨rfl, below_drewN HB6.out _⟩
          · obtain rfl := e1
            obtain rfl := e2
            have ei : ov (some i) = (i : Int) := rfl
            have ejj : ov (some j) = (j : Int) := rfl
            rw [ei, ejj]
            have hjr : j < ss.reverse.length := by simpa using hj
            obtain ⟨b0, o0, hA, _, hcl⟩ := (HLw.out.below HB6.out).rd.at_ (by omega)
            subst hA
            have d1 : w6.cell? ⟨b0, o0 + i, none⟩ = some (.string ss[i]) := hcl i hi
            obtain ⟨b1, o1, hB, _, hcl2⟩ := ((HRB.out.below HV6.out).more HV6.out.size).at_ (by omega)
            subst hB
            obtain ⟨y, hy⟩ : ∃ y, ss.reverse[j] = y := ⟨_, rfl⟩
            have d2 : w6.cell? ⟨b1, o1 + j, none⟩ = some (.string y) := by rw [← hy]; exact hcl2 j hjr
            rw [nth_bytes hi, nth_bytes hjr, hy] at e3
            have t1 : (ss[i].toList == y.toList) = true := by rw [list_eq, list_eq]; exact beq_iff_eq.2 e3
            have n1 : (0 : Int) ≤ (i : Int) := by omega
            have n2 : (0 : Int) ≤ (j : Int) := by omega
            have n3 : (i : Int) < (ss.length : Int) := by omega
            have n4 : (j : Int) < (ss.length : Int) := by omega
            clear hcl hcl2 e3 ei ejj hy hjr
            go_wp2_with fail
            go_quiet (fail)
            go_wp2_with fail
            go_ret
            exact ⟨rfl, below_drewN HB6.out _⟩
end Go.Proofs.YtooplfpffmnkfaaDoor

/- The law LabelUnder: Under says what Fits says of all names. -/
import Derived.Test.YtooplfpffmnkfaaDoorUmath
import Derived.Deep.Cut
import Derived.Test.YtooplfpffmnkfaaDoorAlive
namespace Go.Proofs.YtooplfpffmnkfaaDoor
open Go.RowKit

theorem rd_three (w : World) : Rd (w.alloc (.cells #[.string ⟨#[97]⟩, .string ⟨#[98]⟩, .string ⟨#[48]⟩] 9)) (w.heap.size + 1) (some ⟨w.heap.size, 0, none⟩) (sv [⟨#[97]⟩, ⟨#[98]⟩, ⟨#[48]⟩]) := .inr ⟨_, rfl, by simp, fun j u hj => by
  match j with
  | 0 => simp [sv] at hj; rw [← hj]; simp [Addr.add]
  | 1 => simp [sv] at hj; rw [← hj]; simp [Addr.add]
  | 2 => simp [sv] at hj; rw [← hj]; simp [Addr.add]
  | j + 3 => simp [sv] at hj⟩
theorem own_same {w w' : World} {base : Nat} {e : TypeId} {v : Value} {n : Nat} {xs : List Value} (h : w.ownsRow base e 1 v n xs) (hk : ∀ q, v.ownBlock = some q → w'.heap[q]? = w.heap[q]?) : w'.ownsRow base e 1 v n xs := by
  refine ⟨h.1, ?_⟩
  rcases h.2 with h | ⟨g, cap, cur, rfl, hb, hg, hr⟩
  · exact .inl h
  · exact .inr ⟨g, cap, cur, rfl, hb, (hk g rfl).trans hg, hr⟩
theorem addr_k (g k : Nat) : (⟨g, 0, none⟩ : Addr).add k = ⟨g, k, none⟩ := by simp [Addr.add]; omega
set_option maxHeartbeats 8000000 in
theorem lawUnder_any (p q : ByteArray) (A : Option Addr) (c : Nat) (hs : List ByteArray) (a : Addr) (m : Int) (w : World) (hE : Env w a m) (hp : p.size ≤ maxLen) (hq : q.size ≤ maxLen) (hL : Lst w A hs maxLen) (_hc : hs.length ≤ c) (_hcm : c ≤ 9223372036854775807) : Calls Tryd.prog 6 #[.string p, .string q, .slice A hs.length c] w fun e w' => e = .returned (.bool true) ∧ Below w.heap.size w w' := by
  unfold maxLen at hp hq
  have h2 := hE.lt
  have HA := Lib.hid (alive_any a m w hE)
  have HE := Lib.hid hE
  have HL := Lib.hid hL
  clear hE hL
  by_cases gp : 200 < p.size
  · go_enter Tryd.func6, Tryd.ntmps6
    go_wp2_with fail
    with_reducible refine HA.out.mono ?_
    rintro e w1 ⟨rfl, HB1⟩
    go_wp2_with fail
    go_ret
    exact ⟨rfl, HB1.out⟩
  by_cases gq : 200 < q.size
  · go_enter Tryd.func6, Tryd.ntmps6
    go_wp2_with fail
    with_reducible refine HA.out.mono ?_
    rintro e w1 ⟨rfl, HB1⟩
    go_wp2_with fail
    go_ret
    exact ⟨rfl, HB1.out⟩
  by_cases gh : 30 < hs.length
  · go_enter Tryd.func6, Tryd.ntmps6
    go_wp2_with fail
    with_reducible refine HA.out.mono ?_
    rintro e w1 ⟨rfl, HB1⟩
    go_wp2_with fail
    go_ret
    exact ⟨rfl, HB1.out⟩
  have HU := fun (W : World) (hb : Env W a m) => Lib.hid (under_any p q a m W hb (by omega) (by omega))
  have HP := fun W => Lib.hid (pattern_any p W (by omega))
  have HQ := fun W => Lib.hid (pattern_any q W (by omega))
  rw [patR_ok] at HP HQ
  cases hpp : patB p.data.toList with
  | false =>
    have hu : underB p.data.toList q.data.toList = false := by simp [underB, hpp]
    rw [hu] at HU
    rw [hpp] at HP
    clear hu hpp
    go_enter Tryd.func6, Tryd.ntmps6
    go_wp2_with fail
    with_reducible refine HA.out.mono ?_
    rintro e w1 ⟨rfl, HB1⟩
    have HE1 := Lib.hid (HE.out.below h2 HB1.out)
    go_wp2_with fail
    with_reducible refine (HU _ HE1.out).out.mono ?_
    rintro e w2 ⟨rfl, HV2⟩
    have HB2 := Lib.hid (HB1.out.trans (HV2.out.mono HB1.out.size))
    clear HV2 HU
    go_wp2_with fail
    with_reducible refine (HP _).out.mono ?_
    rintro e w3 ⟨t, rfl, HV3⟩
    have HT := Lib.hid HV3.out.1
    have hts : t.size ≤ p.size := HV3.out.2.1
    have HB3 := Lib.hid (HB2.out.trans (HV3.out.2.2.mono HB2.out.size))
    clear HV3 HP
    go_wp2_with fail
    with_reducible refine (HQ _).out.mono ?_
    rintro e w4 ⟨t2, rfl, HV4⟩
    have HB4 := Lib.hid (HB3.out.trans (HV4.out.2.2.mono HB3.out.size))
    clear HV4 HQ
    go_wp2_with fail
    go_ret
    exact ⟨rfl, HB4.out⟩
  | true =>
    cases hqq : patB q.data.toList with
    | false =>
      have hu : underB p.data.toList q.data.toList = false := by simp [underB, hqq]
      rw [hu] at HU
      rw [hpp] at HP
      rw [hqq] at HQ
      clear hu hpp hqq
      go_enter Tryd.func6, Tryd.ntmps6
      go_wp2_with fail
      with_reducible refine HA.out.mono ?_
      rintro e w1 ⟨rfl, HB1⟩
      have HE1 := Lib.hid (HE.out.below h2 HB1.out)
      go_wp2_with fail
      with_reducible refine (HU _ HE1.out).out.mono ?_
      rintro e w2 ⟨rfl, HV2⟩
      have HB2 := Lib.hid (HB1.out.trans (HV2.out.mono HB1.out.size))
      clear HV2 HU
      go_wp2_with fail
      with_reducible refine (HP _).out.mono ?_
      rintro e w3 ⟨t, rfl, HV3⟩
      have HT := Lib.hid HV3.out.1
      have hts : t.size ≤ p.size := HV3.out.2.1
      have HB3 := Lib.hid (HB2.out.trans (HV3.out.2.2.mono HB2.out.size))
      clear HV3 HP
      go_wp2_with fail
      with_reducible refine (HQ _).out.mono ?_
      rintro e w4 ⟨t2, rfl, HV4⟩
      have HB4 := Lib.hid (HB3.out.trans (HV4.out.2.2.mono HB3.out.size))
      clear HV4 HQ
      go_wp2_with fail
      go_ret
      exact ⟨rfl, HB4.out⟩
    | true =>
      rw [hpp] at HP
      rw [hqq] at HQ
      cases hu : underB p.data.toList q.data.toList with
      | true =>
        rw [hu] at HU
        rcases pat_cases hpp with hn | ⟨x, hx, hnx, hlx⟩
        · have hR := patR_name hn
          rw [hR] at HP
          have HALL := fun L => Lib.hid (allK_under hu L)
          have HFIT : Hid (fitsB p.data.toList p.data.toList = true) := Lib.hid (by simp [fitsB, hpp, hn, cov_name hn])
          have HAL0 : Hid (allK p.data.toList q.data.toList [p] [p].length = true) := Lib.hid (allK_under hu _ _)
          have HSO0 : Hid (someK p.data.toList [p] [p].length = true) := Lib.hid (by simp [someK, HFIT.out])
          clear HALL HFIT
          clear hR hn hpp hqq hu
          go_enter Tryd.func6, Tryd.ntmps6
          go_wp2_with fail
          with_reducible refine HA.out.mono ?_
          rintro e w1 ⟨rfl, HB1⟩
          have HE1 := Lib.hid (HE.out.below h2 HB1.out)
          go_wp2_with fail
          with_reducible refine (HU _ HE1.out).out.mono ?_
          rintro e w2 ⟨rfl, HV2⟩
          have HB2 := Lib.hid (HB1.out.trans (HV2.out.mono HB1.out.size))
          clear HV2 HU
          go_wp2_with fail
          with_reducible refine (HP _).out.mono ?_
          rintro e w3 ⟨t, rfl, HV3⟩
          have HT := Lib.hid HV3.out.1
          have hts : t.size ≤ p.size := HV3.out.2.1
          have HB3 := Lib.hid (HB2.out.trans (HV3.out.2.2.mono HB2.out.size))
          clear HV3 HP
          go_wp2_with fail
          with_reducible refine (HQ _).out.mono ?_
          rintro e w4 ⟨t2, rfl, HV4⟩
          have HB4 := Lib.hid (HB3.out.trans (HV4.out.2.2.mono HB3.out.size))
          clear HV4 HQ
          have HRN0 := Lib.hid (rd_one w4 p)
          have HB5 := Lib.hid (HB4.out.alloc HB4.out.size (.cells #[.string p] 9))
          have HSZ0 : Hid (∀ x ∈ [p], x.size ≤ 9223372036854775807) := Lib.hid (by intro x hx; simp at hx; rw [hx]; omega)
          obtain ⟨w5, HW5⟩ : ∃ w5, Shut (w5 = w4.alloc (.cells #[.string p] 9)) := ⟨_, ⟨rfl⟩⟩
          obtain ⟨gn, HGN⟩ : ∃ gn, Shut (gn = w4.heap.size) := ⟨_, ⟨rfl⟩⟩
          have HRN1 : Hid (Rd w5 w5.heap.size (some ⟨gn, 0, none⟩) (sv [p])) := Lib.hid (by rw [HW5.out, HGN.out]; simpa using HRN0.out)
          have HLEN0 : Hid ([p].length = 1) := Lib.hid rfl
          obtain ⟨NL, HNL⟩ : ∃ NL, Shut (NL = [p]) := ⟨_, ⟨rfl⟩⟩
          have HRN : Hid (Rd w5 w5.heap.size (some ⟨gn, 0, none⟩) (sv NL)) := Lib.hid (by rw [HNL.out]; exact HRN1.out)
          have HLEN : Hid (NL.length = 1) := Lib.hid (by rw [HNL.out]; rfl)
          have HSZ : Hid (∀ x ∈ NL, x.size ≤ 9223372036854775807) := Lib.hid (by rw [HNL.out]; exact HSZ0.out)
          have HAL : Hid (allK p.data.toList q.data.toList NL NL.length = true) := Lib.hid (by rw [HNL.out]; exact HAL0.out)
          have HSO : Hid (someK p.data.toList NL NL.length = true) := Lib.hid (by rw [HNL.out]; exact HSO0.out)
          clear HRN1 HLEN0 HSZ0 HAL0 HSO0
          go_wp2_with fail
          rw [← HW5.out] at HB5 ⊢
          rw [← HGN.out]
          clear HRN0
          have HFP := fun (W : World) (n : ByteArray) (hb : Env W a m) (hn : n.size ≤ 9223372036854775807) => Lib.hid (fits_any p n a m W hb (by omega) hn)
          have HFQ := fun (W : World) (n : ByteArray) (hb : Env W a m) (hn : n.size ≤ 9223372036854775807) => Lib.hid (fits_any q n a m W hb (by omega) hn)
          go_wp2_with fail
          go_loopw [17, 18, 86] (fun al so i W => ∃ k : Nat, k ≤ NL.length ∧ i = .int .i64 k ∧ al = .bool (allK p.data.toList q.data.toList NL k) ∧ so = .bool (someK p.data.toList NL k) ∧ Shut (Below w5.heap.size w5 W)) (fun _ _ i _ => NL.length - (intOf i).toNat)
          case atStart => exact ⟨0, Nat.zero_le _, rfl, rfl, rfl, ⟨Below.refl _ _⟩⟩
          case round =>
            obtain ⟨k, hk, rfl, rfl, rfl, HI⟩ := hrel
            have HBr := Lib.hid (HB5.out.trans (HI.out.mono HB5.out.size))
            have HEr := Lib.hid (HE.out.below h2 HBr.out)
            by_cases hlt : k < NL.length
            · obtain ⟨ad, had, _, hcl⟩ := (HRN.out.below HI.out).cell (sv_get hlt)
              injection had with had
              subst had
              rw [addr_k] at hcl
              have hsz : NL[k].size ≤ 9223372036854775807 := HSZ.out _ (List.getElem_mem hlt)
              have HF := HFP wr NL[k] HEr.out hsz
              have HQ2 := fun (W : World) (hb : Env W a m) => HFQ W NL[k] hb hsz
              have HAS : Hid (allK p.data.toList q.data.toList NL (k + 1) = (allK p.data.toList q.data.toList NL k && (!fitsB p.data.toList NL[k].data.toList || fitsB q.data.toList NL[k].data.toList))) := Lib.hid (allK_succ hlt)
              have HSS : Hid (someK p.data.toList NL (k + 1) = (someK p.data.toList NL k || fitsB p.data.toList NL[k].data.toList)) := Lib.hid (someK_succ hlt)
              have hltN : k < 1 := by have := HLEN.out; omega
              have hltI : (k : Int) < (1 : Int) := by omega
              cases hf : fitsB p.data.toList NL[k].data.toList with
              | false =>
                rw [hf] at HF HAS HSS
                clear hf HQ2
                go_wp2_with fail
                with_reducible refine HF.out.mono ?_
                rintro e w6 ⟨rfl, HV6⟩
                go_wp2_with fail
                go_round
                case rel => exact ⟨k + 1, by omega, by go_num, by rw [HAS.out]; simp, by rw [HSS.out]; simp, ⟨HI.out.trans (HV6.out.mono HI.out.size)⟩⟩
                case measure => simp [intOf]; omega
              | true =>
                rw [hf] at HF HAS HSS
                cases hal : allK p.data.toList q.data.toList NL k with
                | false =>
                  rw [hal] at HAS
                  clear hf hal HQ2
                  go_wp2_with fail
                  with_reducible refine HF.out.mono ?_
                  rintro e w6 ⟨rfl, HV6⟩
                  go_wp2_with fail
                  go_round
                  case rel => exact ⟨k + 1, by omega, by go_num, by rw [HAS.out]; simp, by rw [HSS.out]; simp, ⟨HI.out.trans (HV6.out.mono HI.out.size)⟩⟩
                  case measure => simp [intOf]; omega
                | true =>
                  rw [hal] at HAS
                  clear hf hal
                  go_wp2_with fail
                  with_reducible refine HF.out.mono ?_
                  rintro e w6 ⟨rfl, HV6⟩
                  have HB6 := Lib.hid (HBr.out.trans (HV6.out.mono HBr.out.size))
                  have HE6 := Lib.hid (HE.out.below h2 HB6.out)
                  go_wp2_with fail
                  with_reducible refine (HQ2 w6 HE6.out).out.mono ?_
                  rintro e w7 ⟨rfl, HV7⟩
                  have HI7 := Lib.hid ((HI.out.trans (HV6.out.mono HI.out.size)).trans (HV7.out.mono (HI.out.trans (HV6.out.mono HI.out.size)).size))
                  go_wp2_with fail
                  go_round
                  case rel => exact ⟨k + 1, by omega, by go_num, by rw [HAS.out]; simp, by rw [HSS.out]; simp, ⟨HI7.out⟩⟩
                  case measure => simp [intOf]; omega
            · have he : k = NL.length := by omega
              have hgeN : ¬ k < 1 := by have := HLEN.out; omega
              have hgeI : ¬ (k : Int) < (1 : Int) := by omega
              have hal := HAL.out
              have hso := HSO.out
              rw [← he] at hal hso
              rw [hal, hso]
              clear hal hso he hlt
              go_wp2_with fail
              go_ret
              exact ⟨rfl, HBr.out⟩
        · have hR : patR p.data.toList = (x, true, true) := by rw [hx]; exact patR_wild hnx hlx
          rw [hR] at HP
          have HALL := fun L => Lib.hid (allK_under hu L)
          clear hR hx hnx hlx hpp hqq hu
          go_enter Tryd.func6, Tryd.ntmps6
          go_wp2_with fail
          with_reducible refine HA.out.mono ?_
          rintro e w1 ⟨rfl, HB1⟩
          have HE1 := Lib.hid (HE.out.below h2 HB1.out)
          go_wp2_with fail
          with_reducible refine (HU _ HE1.out).out.mono ?_
          rintro e w2 ⟨rfl, HV2⟩
          have HB2 := Lib.hid (HB1.out.trans (HV2.out.mono HB1.out.size))
          clear HV2 HU
          go_wp2_with fail
          with_reducible refine (HP _).out.mono ?_
          rintro e w3 ⟨t, rfl, HV3⟩
          have HT := Lib.hid HV3.out.1
          have hts : t.size ≤ p.size := HV3.out.2.1
          have HB3 := Lib.hid (HB2.out.trans (HV3.out.2.2.mono HB2.out.size))
          clear HV3 HP
          go_wp2_with fail
          with_reducible refine (HQ _).out.mono ?_
          rintro e w4 ⟨t2, rfl, HV4⟩
          have HB4 := Lib.hid (HB3.out.trans (HV4.out.2.2.mono HB3.out.size))
          clear HV4 HQ
          have HB5 := Lib.hid (HB4.out.alloc HB4.out.size (.cells #[.string p] 9))
          have HB6 := Lib.hid (HB5.out.alloc HB5.out.size (.cells #[] 9))
          have HON0 := Lib.hid (own_empty (w4.alloc (.cells #[.string p] 9)) w.heap.size HB5.out.size)
          have hz6 : ((w4.alloc (.cells #[.string p] 9)).alloc (.cells #[] 9)).heap.size = w4.heap.size + 1 + 1 := by simp
          have hz5 : (w4.alloc (.cells #[.string p] 9)).heap.size = w4.heap.size + 1 := by simp
          rw [hz5] at HON0
          obtain ⟨w6, HW6⟩ : ∃ w6, Shut (w6 = (w4.alloc (.cells #[.string p] 9)).alloc (.cells #[] 9)) := ⟨_, ⟨rfl⟩⟩
          obtain ⟨gn, HGN⟩ : ∃ gn, Shut (gn = w4.heap.size + 1) := ⟨_, ⟨rfl⟩⟩
          rw [← HW6.out] at HB6 HON0 hz6
          rw [← HGN.out] at HON0 hz6
          have HZ6 := Lib.hid hz6
          clear hz5 hz6
          go_upto_region 13 with (fail)
          rw [← HW6.out, ← HGN.out]
          have HO7 := Lib.hid (own_empty w6 w.heap.size HB6.out.size)
          have HB7 := Lib.hid (HB6.out.alloc HB6.out.size (.cells #[] 9))
          obtain ⟨N3, HN3⟩ : ∃ N3, Shut (N3 = 0 + hs.length + 3) := ⟨_, ⟨rfl⟩⟩
          have hN3a : N3 ≤ 33 := by rw [HN3.out]; omega
          have hN3b : 0 < N3 := by rw [HN3.out]; omega
          have HZ7 : Hid ((w6.alloc (.cells #[] 9)).heap.size = w6.heap.size + 1) := Lib.hid (by simp)
          go_wp2_with (first
            | (refine wl_append rfl (.tmp 63) (.tmp 64) rfl w.heap.size (.slice (some ⟨w6.heap.size, 0, none⟩) 0 0) 0 (sv []) rfl HO7.out w.heap.size A hs.length c hs rfl rfl ((HL.out.rd.below HB7.out)) (by omega) HB7.out.size ?_
               intro v8 w8 HA8
               have HB8 := Lib.hid (HB7.out.grown HA8.out.2.1 HB7.out.size (fun j hj => by have e : w6.heap.size = j := Option.some.inj hj; have := HB6.out.size; omega))
               have HB9 := Lib.hid (HB8.out.alloc HB8.out.size (.cells #[.string ⟨#[97]⟩, .string ⟨#[98]⟩, .string ⟨#[48]⟩] 9))
               have HO9 := Lib.hid (HA8.out.1.alloc (.cells #[.string ⟨#[97]⟩, .string ⟨#[98]⟩, .string ⟨#[48]⟩] 9))
               have HR9 := Lib.hid (rd_three w8))
            | (refine wl_append rfl (.tmp 65) (.tmp 66) rfl w.heap.size v8 (0 + hs.length) (sv [] ++ sv hs) rfl HO9.out _ _ 3 3 [⟨#[97]⟩, ⟨#[98]⟩, ⟨#[48]⟩] rfl rfl HR9.out (by omega) HB9.out.size ?_
               intro v10 w10 HA10
               have HO10 := HA10.out.1
               rw [← HN3.out] at HO10
               obtain ⟨g, d, rfl, hbg, hg, hnd, hdm, hcl⟩ := own_some HO10 hN3b))
          have H8 : Hid (∀ q, v8.ownBlock = some q → w6.heap.size ≤ q) := Lib.hid (fun q hq => by
            rcases HA8.out.2.2 with e | e
            · rw [hq] at e
              have : q = w6.heap.size := Option.some.inj e
              omega
            · rw [hq] at e
              have := Option.some.inj e
              have := HZ7.out
              omega)
          have hz8 : w6.heap.size + 1 ≤ w8.heap.size := by have := HA8.out.2.1.size; have := HZ7.out; omega
          have hg6 : w6.heap.size ≤ g := by
            rcases HA10.out.2.2 with e | e
            · exact H8.out g e.symm
            · have e : g = (w8.alloc (.cells #[.string ⟨#[97]⟩, .string ⟨#[98]⟩, .string ⟨#[48]⟩] 9)).heap.size := Option.some.inj e
              rw [e]
              simp
              omega
          have HB10 := Lib.hid (HB9.out.grown HA10.out.2.1 HB9.out.size (fun j hj => by have := H8.out j hj; have := HB6.out.size; omega))
          obtain ⟨HS, HHS⟩ : ∃ HS, Shut (HS = headsOf hs) := ⟨_, ⟨rfl⟩⟩
          have HLS : Hid (HS.length = N3) := Lib.hid (by rw [HHS.out, HN3.out]; simp [headsOf])
          have HRG : Hid (Rd w10 w10.heap.size (some ⟨g, 0, none⟩) (sv HS)) := Lib.hid (.inr ⟨_, rfl, hg, fun j u hj => by
            rw [addr_k]
            refine hcl j u ?_
            rw [HHS.out] at hj
            simpa [sv, headsOf] using hj⟩)
          have HON : Hid (w10.ownsRow w.heap.size 9 1 (.slice (some ⟨gn, 0, none⟩) 0 0) 0 (sv [])) := Lib.hid (own_same HON0.out (fun q hq => by
            have eq : gn = q := Option.some.inj hq
            have hq6 : q < w6.heap.size := by have := HZ6.out; omega
            have b1 : (w6.alloc (.cells #[] 9)).heap[q]? = w6.heap[q]? := Below.heap_alloc w6 _ q hq6
            have b2 : w8.heap[q]? = (w6.alloc (.cells #[] 9)).heap[q]? := HA8.out.2.1.block q (by rw [HZ7.out]; omega) (fun e => by have : q = w6.heap.size := Option.some.inj e; omega)
            have b3 : (w8.alloc (.cells #[.string ⟨#[97]⟩, .string ⟨#[98]⟩, .string ⟨#[48]⟩] 9)).heap[q]? = w8.heap[q]? := Below.heap_alloc w8 _ q (by omega)
            have b4 : w10.heap[q]? = (w8.alloc (.cells #[.string ⟨#[97]⟩, .string ⟨#[98]⟩, .string ⟨#[48]⟩] 9)).heap[q]? := HA10.out.2.1.block q (by simp; omega) (fun e => by have := H8.out q e.symm; omega)
            exact b4.trans (b3.trans (b2.trans b1))))
          have hgn : gn ≠ g := by have := HZ6.out; omega
          have HTS := Lib.hid hts
          clear HO10 hcl HA10 HA8 HR9 HO9 HB9 HB8 HO7 HB7 HZ7 H8 hz8 hg6 HON0 HB5 HB6 HZ6 HW6 hbg hg
          go_wp2_with fail
          go_loopw [14, 69] (fun v i W => ∃ k : Nat, k ≤ N3 ∧ i = .int .i64 k ∧ ∃ tv, tv = v ∧ Shut (W.ownsRow w.heap.size 9 1 tv (namesOf t (HS.take k)).length (sv (namesOf t (HS.take k))) ∧ Below w.heap.size w W ∧ Rd W W.heap.size (some ⟨g, 0, none⟩) (sv HS) ∧ tv.ownBlock ≠ some g)) (fun _ i _ => N3 - (intOf i).toNat)
          case atStart => exact ⟨0, Nat.zero_le _, rfl, _, rfl, ⟨HON.out, HB10.out, HRG.out, fun e => hgn (Option.some.inj e)⟩⟩
          case round =>
            obtain ⟨k, hk, rfl, tv, rfl, HI⟩ := hrel
            by_cases hlt : k < N3
            · have hltS : k < HS.length := by rw [HLS.out]; exact hlt
              obtain ⟨ad, had, hadb, hcl⟩ := HI.out.2.2.1.cell (sv_get hltS)
              injection had with had
              subst had
              rw [addr_k] at hcl
              have hgw : g < wr.heap.size := hadb
              have HNT := Lib.hid (namesOf_take (t := t) hltS)
              have HNL := Lib.hid (namesOf_length t (HS.take k))
              by_cases g100 : HS[k].size < 100
              · have hsum1 : HS[k].size + 1 ≤ 9223372036854775807 := by omega
                have HOA := Lib.hid (HI.out.1.alloc (.cells #[.string (HS[k] ++ ⟨#[46]⟩ ++ t)] 9))
                have HBA := Lib.hid (HI.out.2.1.alloc HI.out.2.1.size (.cells #[.string (HS[k] ++ ⟨#[46]⟩ ++ t)] 9))
                have HRO := Lib.hid (rd_one wr (HS[k] ++ ⟨#[46]⟩ ++ t))
                have HGA : Hid (Rd (wr.alloc (.cells #[.string (HS[k] ++ ⟨#[46]⟩ ++ t)] 9)) (wr.alloc (.cells #[.string (HS[k] ++ ⟨#[46]⟩ ++ t)] 9)).heap.size (some ⟨g, 0, none⟩) (sv HS)) := Lib.hid ((HI.out.2.2.1.below (below_alloc wr _)).more (below_alloc wr _).size)
                have hlen : (namesOf t (HS.take k)).length + 1 ≤ 8796093022208 := by have := HNL.out; have := List.length_take_le k HS; omega
                have HNN := Lib.hid HI.out.2.2.2
                have HLT := HI.out.1.lt
                rw [if_pos g100] at HNT
                go_wp2_with (refine wl_append rfl (.tmp 76) (.tmp 81) rfl w.heap.size tv (namesOf t (HS.take k)).length (sv (namesOf t (HS.take k))) rfl HOA.out _ _ 1 1 [HS[k] ++ ⟨#[46]⟩ ++ t] rfl rfl HRO.out hlen HBA.out.size ?_
                             intro v5 w5 HA5)
                go_round
                case rel =>
                  refine ⟨k + 1, by omega, by go_num, v5, rfl, ⟨?_, HBA.out.grown HA5.out.2.1 HBA.out.size (fun q hq => (HLT q hq).1), rd_grown HGA.out HA5.out.2.1 HNN.out, ?_⟩⟩
                  · rw [HNT.out]
                    have h := HA5.out.1
                    simpa [sv] using h
                  · intro e
                    rcases HA5.out.2.2 with e2 | e2
                    · exact HNN.out (e2.symm.trans e)
                    · rw [e] at e2
                      have e2 := Option.some.inj e2
                      simp at e2
                      omega
                case measure => simp [intOf]; omega
              · rw [if_neg g100] at HNT
                go_wp2_with fail
                go_round
                case rel => exact ⟨k + 1, by omega, by go_num, tv, rfl, ⟨by rw [HNT.out]; exact HI.out.1, HI.out.2⟩⟩
                case measure => simp [intOf]; omega
            · have hkN : k = N3 := by omega
              have HOE := HI.out.1
              rw [List.take_of_length_le (by rw [HLS.out]; omega)] at HOE
              have HBE := Lib.hid HI.out.2.1
              obtain ⟨NL, HNL⟩ : ∃ NL, Shut (NL = namesOf t HS) := ⟨_, ⟨rfl⟩⟩
              rw [← HNL.out] at HOE
              have hpos : 0 < NL.length := by
                have hm : (⟨#[97]⟩ : ByteArray) ++ ⟨#[46]⟩ ++ t ∈ NL := by rw [HNL.out, HHS.out]; exact namesOf_mem (by simp [headsOf]) (by show 1 < 100; decide)
                exact List.length_pos_of_mem hm
              obtain ⟨gm, dm, rfl, _, hgm, hnm, hdmm, hcm2⟩ := own_some HOE hpos
              obtain ⟨w11, HW11⟩ : ∃ w11, Shut (w11 = wr) := ⟨_, ⟨rfl⟩⟩
              rw [← HW11.out] at HOE HBE hgm hcm2 ⊢
              have HRN : Hid (Rd w11 w11.heap.size (some ⟨gm, 0, none⟩) (sv NL)) := Lib.hid (.inr ⟨_, rfl, hgm, fun j u hj => by rw [addr_k]; exact hcm2 j u hj⟩)
              have HLEN : Hid (NL.length = NL.length) := Lib.hid rfl
              have HSZ : Hid (∀ x ∈ NL, x.size ≤ 9223372036854775807) := Lib.hid (by
                rw [HNL.out]
                intro x hx
                have := namesOf_size x hx
                have := HTS.out
                omega)
              have HAL : Hid (allK p.data.toList q.data.toList NL NL.length = true) := HALL _ _
              obtain ⟨bS, HSO⟩ : ∃ bS, Hid (someK p.data.toList NL NL.length = bS) := ⟨_, Lib.hid rfl⟩
              clear HI HOE hgm hcm2 HON HB10 HRG HLS
              have HFP := fun (W : World) (n : ByteArray) (hb : Env W a m) (hn : n.size ≤ 9223372036854775807) => Lib.hid (fits_any p n a m W hb (by omega) hn)
              have HFQ := fun (W : World) (n : ByteArray) (hb : Env W a m) (hn : n.size ≤ 9223372036854775807) => Lib.hid (fits_any q n a m W hb (by omega) hn)
              go_wp2_with fail
              go_loopw [17, 18, 86] (fun al so i W => ∃ k : Nat, k ≤ NL.length ∧ i = .int .i64 k ∧ al = .bool (allK p.data.toList q.data.toList NL k) ∧ so = .bool (someK p.data.toList NL k) ∧ Shut (Below w11.heap.size w11 W)) (fun _ _ i _ => NL.length - (intOf i).toNat)
              case atStart => exact ⟨0, Nat.zero_le _, rfl, rfl, rfl, ⟨Below.refl _ _⟩⟩
              case round =>
                obtain ⟨k, hk, rfl, rfl, rfl, HI⟩ := hrel
                have HBr := Lib.hid (HBE.out.trans (HI.out.mono HBE.out.size))
                have HEr := Lib.hid (HE.out.below h2 HBr.out)
                by_cases hlt : k < NL.length
                · obtain ⟨ad, had, _, hcl⟩ := (HRN.out.below HI.out).cell (sv_get hlt)
                  injection had with had
                  subst had
                  rw [addr_k] at hcl
                  have hsz : NL[k].size ≤ 9223372036854775807 := HSZ.out _ (List.getElem_mem hlt)
                  have HF := HFP wr NL[k] HEr.out hsz
                  have HQ2 := fun (W : World) (hb : Env W a m) => HFQ W NL[k] hb hsz
                  have HAS : Hid (allK p.data.toList q.data.toList NL (k + 1) = (allK p.data.toList q.data.toList NL k && (!fitsB p.data.toList NL[k].data.toList || fitsB q.data.toList NL[k].data.toList))) := Lib.hid (allK_succ hlt)
                  have HSS : Hid (someK p.data.toList NL (k + 1) = (someK p.data.toList NL k || fitsB p.data.toList NL[k].data.toList)) := Lib.hid (someK_succ hlt)
                  have hltN : k < NL.length := by have := HLEN.out; omega
                  have hltI : (k : Int) < (NL.length : Int) := by omega
                  cases hf : fitsB p.data.toList NL[k].data.toList with
                  | false =>
                    rw [hf] at HF HAS HSS
                    clear hf HQ2
                    go_wp2_with fail
                    with_reducible refine HF.out.mono ?_
                    rintro e w6 ⟨rfl, HV6⟩
                    go_wp2_with fail
                    go_round
                    case rel => exact ⟨k + 1, by omega, by go_num, by rw [HAS.out]; simp, by rw [HSS.out]; simp, ⟨HI.out.trans (HV6.out.mono HI.out.size)⟩⟩
                    case measure => simp [intOf]; omega
                  | true =>
                    rw [hf] at HF HAS HSS
                    cases hal : allK p.data.toList q.data.toList NL k with
                    | false =>
                      rw [hal] at HAS
                      clear hf hal HQ2
                      go_wp2_with fail
                      with_reducible refine HF.out.mono ?_
                      rintro e w6 ⟨rfl, HV6⟩
                      go_wp2_with fail
                      go_round
                      case rel => exact ⟨k + 1, by omega, by go_num, by rw [HAS.out]; simp, by rw [HSS.out]; simp, ⟨HI.out.trans (HV6.out.mono HI.out.size)⟩⟩
                      case measure => simp [intOf]; omega
                    | true =>
                      rw [hal] at HAS
                      clear hf hal
                      go_wp2_with fail
                      with_reducible refine HF.out.mono ?_
                      rintro e w6 ⟨rfl, HV6⟩
                      have HB6 := Lib.hid (HBr.out.trans (HV6.out.mono HBr.out.size))
                      have HE6 := Lib.hid (HE.out.below h2 HB6.out)
                      go_wp2_with fail
                      with_reducible refine (HQ2 w6 HE6.out).out.mono ?_
                      rintro e w7 ⟨rfl, HV7⟩
                      have HI7 := Lib.hid ((HI.out.trans (HV6.out.mono HI.out.size)).trans (HV7.out.mono (HI.out.trans (HV6.out.mono HI.out.size)).size))
                      go_wp2_with fail
                      go_round
                      case rel => exact ⟨k + 1, by omega, by go_num, by rw [HAS.out]; simp, by rw [HSS.out]; simp, ⟨HI7.out⟩⟩
                      case measure => simp [intOf]; omega
                · have he : k = NL.length := by omega
                  have hgeN : ¬ k < NL.length := by have := HLEN.out; omega
                  have hgeI : ¬ (k : Int) < (NL.length : Int) := by omega
                  have hal := HAL.out
                  have hso := HSO.out
                  rw [← he] at hal hso
                  rw [hal, hso]
                  clear hal hso he hlt
                  go_wp2_with fail
                  go_ret
                  exact ⟨rfl, HBr.out⟩
      | false =>
        rw [hu] at HU
        rcases pat_cases hpp with hn | ⟨x, hx, hnx, hlx⟩
        · have hR := patR_name hn
          rw [hR] at HP
          have hw := under_witness hpp hqq hu
          have HW2 : Hid (allK p.data.toList q.data.toList [p] [p].length = false ∧ someK p.data.toList [p] [p].length = true) := Lib.hid (by
            rcases hw with ⟨_, f1, f2⟩ | ⟨x, c, e, _⟩
            · exact allK_wit (n := p) (by simp) f1 f2
            · have h := nameB_noStar hn
              rw [e] at h
              simp [Go.Lib.hasPrefix, List.isPrefixOf] at h)
          have HAL0 : Hid (allK p.data.toList q.data.toList [p] [p].length = false) := Lib.hid HW2.out.1
          have HSO0 : Hid (someK p.data.toList [p] [p].length = true) := Lib.hid HW2.out.2
          clear hw HW2
          clear hR hn hpp hqq hu
          go_enter Tryd.func6, Tryd.ntmps6
          go_wp2_with fail
          with_reducible refine HA.out.mono ?_
          rintro e w1 ⟨rfl, HB1⟩
          have HE1 := Lib.hid (HE.out.below h2 HB1.out)
          go_wp2_with fail
          with_reducible refine (HU _ HE1.out).out.mono ?_
          rintro e w2 ⟨rfl, HV2⟩
          have HB2 := Lib.hid (HB1.out.trans (HV2.out.mono HB1.out.size))
          clear HV2 HU
          go_wp2_with fail
          with_reducible refine (HP _).out.mono ?_
          rintro e w3 ⟨t, rfl, HV3⟩
          have HT := Lib.hid HV3.out.1
          have hts : t.size ≤ p.size := HV3.out.2.1
          have HB3 := Lib.hid (HB2.out.trans (HV3.out.2.2.mono HB2.out.size))
          clear HV3 HP
          go_wp2_with fail
          with_reducible refine (HQ _).out.mono ?_
          rintro e w4 ⟨t2, rfl, HV4⟩
          have HB4 := Lib.hid (HB3.out.trans (HV4.out.2.2.mono HB3.out.size))
          clear HV4 HQ
          have HRN0 := Lib.hid (rd_one w4 p)
          have HB5 := Lib.hid (HB4.out.alloc HB4.out.size (.cells #[.string p] 9))
          have HSZ0 : Hid (∀ x ∈ [p], x.size ≤ 9223372036854775807) := Lib.hid (by intro x hx; simp at hx; rw [hx]; omega)
          obtain ⟨w5, HW5⟩ : ∃ w5, Shut (w5 = w4.alloc (.cells #[.string p] 9)) := ⟨_, ⟨rfl⟩⟩
          obtain ⟨gn, HGN⟩ : ∃ gn, Shut (gn = w4.heap.size) := ⟨_, ⟨rfl⟩⟩
          have HRN1 : Hid (Rd w5 w5.heap.size (some ⟨gn, 0, none⟩) (sv [p])) := Lib.hid (by rw [HW5.out, HGN.out]; simpa using HRN0.out)
          have HLEN0 : Hid ([p].length = 1) := Lib.hid rfl
          obtain ⟨NL, HNL⟩ : ∃ NL, Shut (NL = [p]) := ⟨_, ⟨rfl⟩⟩
          have HRN : Hid (Rd w5 w5.heap.size (some ⟨gn, 0, none⟩) (sv NL)) := Lib.hid (by rw [HNL.out]; exact HRN1.out)
          have HLEN : Hid (NL.length = 1) := Lib.hid (by rw [HNL.out]; rfl)
          have HSZ : Hid (∀ x ∈ NL, x.size ≤ 9223372036854775807) := Lib.hid (by rw [HNL.out]; exact HSZ0.out)
          have HAL : Hid (allK p.data.toList q.data.toList NL NL.length = false) := Lib.hid (by rw [HNL.out]; exact HAL0.out)
          have HSO : Hid (someK p.data.toList NL NL.length = true) := Lib.hid (by rw [HNL.out]; exact HSO0.out)
          clear HRN1 HLEN0 HSZ0 HAL0 HSO0
          go_wp2_with fail
          rw [← HW5.out] at HB5 ⊢
          rw [← HGN.out]
          clear HRN0
          have HFP := fun (W : World) (n : ByteArray) (hb : Env W a m) (hn : n.size ≤ 9223372036854775807) => Lib.hid (fits_any p n a m W hb (by omega) hn)
          have HFQ := fun (W : World) (n : ByteArray) (hb : Env W a m) (hn : n.size ≤ 9223372036854775807) => Lib.hid (fits_any q n a m W hb (by omega) hn)
          go_wp2_with fail
          go_loopw [17, 18, 86] (fun al so i W => ∃ k : Nat, k ≤ NL.length ∧ i = .int .i64 k ∧ al = .bool (allK p.data.toList q.data.toList NL k) ∧ so = .bool (someK p.data.toList NL k) ∧ Shut (Below w5.heap.size w5 W)) (fun _ _ i _ => NL.length - (intOf i).toNat)
          case atStart => exact ⟨0, Nat.zero_le _, rfl, rfl, rfl, ⟨Below.refl _ _⟩⟩
          case round =>
            obtain ⟨k, hk, rfl, rfl, rfl, HI⟩ := hrel
            have HBr := Lib.hid (HB5.out.trans (HI.out.mono HB5.out.size))
            have HEr := Lib.hid (HE.out.below h2 HBr.out)
            by_cases hlt : k < NL.length
            · obtain ⟨ad, had, _, hcl⟩ := (HRN.out.below HI.out).cell (sv_get hlt)
              injection had with had
              subst had
              rw [addr_k] at hcl
              have hsz : NL[k].size ≤ 9223372036854775807 := HSZ.out _ (List.getElem_mem hlt)
              have HF := HFP wr NL[k] HEr.out hsz
              have HQ2 := fun (W : World) (hb : Env W a m) => HFQ W NL[k] hb hsz
              have HAS : Hid (allK p.data.toList q.data.toList NL (k + 1) = (allK p.data.toList q.data.toList NL k && (!fitsB p.data.toList NL[k].data.toList || fitsB q.data.toList NL[k].data.toList))) := Lib.hid (allK_succ hlt)
              have HSS : Hid (someK p.data.toList NL (k + 1) = (someK p.data.toList NL k || fitsB p.data.toList NL[k].data.toList)) := Lib.hid (someK_succ hlt)
              have hltN : k < 1 := by have := HLEN.out; omega
              have hltI : (k : Int) < (1 : Int) := by omega
              cases hf : fitsB p.data.toList NL[k].data.toList with
              | false =>
                rw [hf] at HF HAS HSS
                clear hf HQ2
                go_wp2_with fail
                with_reducible refine HF.out.mono ?_
                rintro e w6 ⟨rfl, HV6⟩
                go_wp2_with fail
                go_round
                case rel => exact ⟨k + 1, by omega, by go_num, by rw [HAS.out]; simp, by rw [HSS.out]; simp, ⟨HI.out.trans (HV6.out.mono HI.out.size)⟩⟩
                case measure => simp [intOf]; omega
              | true =>
                rw [hf] at HF HAS HSS
                cases hal : allK p.data.toList q.data.toList NL k with
                | false =>
                  rw [hal] at HAS
                  clear hf hal HQ2
                  go_wp2_with fail
                  with_reducible refine HF.out.mono ?_
                  rintro e w6 ⟨rfl, HV6⟩
                  go_wp2_with fail
                  go_round
                  case rel => exact ⟨k + 1, by omega, by go_num, by rw [HAS.out]; simp, by rw [HSS.out]; simp, ⟨HI.out.trans (HV6.out.mono HI.out.size)⟩⟩
                  case measure => simp [intOf]; omega
                | true =>
                  rw [hal] at HAS
                  clear hf hal
                  go_wp2_with fail
                  with_reducible refine HF.out.mono ?_
                  rintro e w6 ⟨rfl, HV6⟩
                  have HB6 := Lib.hid (HBr.out.trans (HV6.out.mono HBr.out.size))
                  have HE6 := Lib.hid (HE.out.below h2 HB6.out)
                  go_wp2_with fail
                  with_reducible refine (HQ2 w6 HE6.out).out.mono ?_
                  rintro e w7 ⟨rfl, HV7⟩
                  have HI7 := Lib.hid ((HI.out.trans (HV6.out.mono HI.out.size)).trans (HV7.out.mono (HI.out.trans (HV6.out.mono HI.out.size)).size))
                  go_wp2_with fail
                  go_round
                  case rel => exact ⟨k + 1, by omega, by go_num, by rw [HAS.out]; simp, by rw [HSS.out]; simp, ⟨HI7.out⟩⟩
                  case measure => simp [intOf]; omega
            · have he : k = NL.length := by omega
              have hgeN : ¬ k < 1 := by have := HLEN.out; omega
              have hgeI : ¬ (k : Int) < (1 : Int) := by omega
              have hal := HAL.out
              have hso := HSO.out
              rw [← he] at hal hso
              rw [hal, hso]
              clear hal hso he hlt
              go_wp2_with fail
              go_ret
              exact ⟨rfl, HBr.out⟩
        · have hR : patR p.data.toList = (x, true, true) := by rw [hx]; exact patR_wild hnx hlx
          rw [hR] at HP
          have HWI : Shut (∃ c : UInt8, (c = 97 ∨ c = 98) ∧ fitsB p.data.toList ([c] ++ 46 :: x) = true ∧ fitsB q.data.toList ([c] ++ 46 :: x) = false) := ⟨by
            rcases under_witness hpp hqq hu with ⟨hn, _⟩ | ⟨x', cc, e, _, _, h1, h2, h3⟩
            · have h := nameB_noStar hn
              rw [hx] at h
              simp [Go.Lib.hasPrefix, List.isPrefixOf] at h
            · rw [hx] at e
              injection e with _ e
              injection e with _ e
              subst e
              exact ⟨cc, h1, h2, h3⟩⟩
          clear hR hx hnx hlx hpp hqq hu
          go_enter Tryd.func6, Tryd.ntmps6
          go_wp2_with fail
          with_reducible refine HA.out.mono ?_
          rintro e w1 ⟨rfl, HB1⟩
          have HE1 := Lib.hid (HE.out.below h2 HB1.out)
          go_wp2_with fail
          with_reducible refine (HU _ HE1.out).out.mono ?_
          rintro e w2 ⟨rfl, HV2⟩
          have HB2 := Lib.hid (HB1.out.trans (HV2.out.mono HB1.out.size))
          clear HV2 HU
          go_wp2_with fail
          with_reducible refine (HP _).out.mono ?_
          rintro e w3 ⟨t, rfl, HV3⟩
          have HT := Lib.hid HV3.out.1
          have hts : t.size ≤ p.size := HV3.out.2.1
          have HB3 := Lib.hid (HB2.out.trans (HV3.out.2.2.mono HB2.out.size))
          clear HV3 HP
          go_wp2_with fail
          with_reducible refine (HQ _).out.mono ?_
          rintro e w4 ⟨t2, rfl, HV4⟩
          have HB4 := Lib.hid (HB3.out.trans (HV4.out.2.2.mono HB3.out.size))
          clear HV4 HQ
          have HB5 := Lib.hid (HB4.out.alloc HB4.out.size (.cells #[.string p] 9))
          have HB6 := Lib.hid (HB5.out.alloc HB5.out.size (.cells #[] 9))
          have HON0 := Lib.hid (own_empty (w4.alloc (.cells #[.string p] 9)) w.heap.size HB5.out.size)
          have hz6 : ((w4.alloc (.cells #[.string p] 9)).alloc (.cells #[] 9)).heap.size = w4.heap.size + 1 + 1 := by simp
          have hz5 : (w4.alloc (.cells #[.string p] 9)).heap.size = w4.heap.size + 1 := by simp
          rw [hz5] at HON0
          obtain ⟨w6, HW6⟩ : ∃ w6, Shut (w6 = (w4.alloc (.cells #[.string p] 9)).alloc (.cells #[] 9)) := ⟨_, ⟨rfl⟩⟩
          obtain ⟨gn, HGN⟩ : ∃ gn, Shut (gn = w4.heap.size + 1) := ⟨_, ⟨rfl⟩⟩
          rw [← HW6.out] at HB6 HON0 hz6
          rw [← HGN.out] at HON0 hz6
          have HZ6 := Lib.hid hz6
          clear hz5 hz6
          go_upto_region 13 with (fail)
          rw [← HW6.out, ← HGN.out]
          have HO7 := Lib.hid (own_empty w6 w.heap.size HB6.out.size)
          have HB7 := Lib.hid (HB6.out.alloc HB6.out.size (.cells #[] 9))
          obtain ⟨N3, HN3⟩ : ∃ N3, Shut (N3 = 0 + hs.length + 3) := ⟨_, ⟨rfl⟩⟩
          have hN3a : N3 ≤ 33 := by rw [HN3.out]; omega
          have hN3b : 0 < N3 := by rw [HN3.out]; omega
          have HZ7 : Hid ((w6.alloc (.cells #[] 9)).heap.size = w6.heap.size + 1) := Lib.hid (by simp)
          go_wp2_with (first
            | (refine wl_append rfl (.tmp 63) (.tmp 64) rfl w.heap.size (.slice (some ⟨w6.heap.size, 0, none⟩) 0 0) 0 (sv []) rfl HO7.out w.heap.size A hs.length c hs rfl rfl ((HL.out.rd.below HB7.out)) (by omega) HB7.out.size ?_
               intro v8 w8 HA8
               have HB8 := Lib.hid (HB7.out.grown HA8.out.2.1 HB7.out.size (fun j hj => by have e : w6.heap.size = j := Option.some.inj hj; have := HB6.out.size; omega))
               have HB9 := Lib.hid (HB8.out.alloc HB8.out.size (.cells #[.string ⟨#[97]⟩, .string ⟨#[98]⟩, .string ⟨#[48]⟩] 9))
               have HO9 := Lib.hid (HA8.out.1.alloc (.cells #[.string ⟨#[97]⟩, .string ⟨#[98]⟩, .string ⟨#[48]⟩] 9))
               have HR9 := Lib.hid (rd_three w8))
            | (refine wl_append rfl (.tmp 65) (.tmp 66) rfl w.heap.size v8 (0 + hs.length) (sv [] ++ sv hs) rfl HO9.out _ _ 3 3 [⟨#[97]⟩, ⟨#[98]⟩, ⟨#[48]⟩] rfl rfl HR9.out (by omega) HB9.out.size ?_
               intro v10 w10 HA10
               have HO10 := HA10.out.1
               rw [← HN3.out] at HO10
               obtain ⟨g, d, rfl, hbg, hg, hnd, hdm, hcl⟩ := own_some HO10 hN3b))
          have H8 : Hid (∀ q, v8.ownBlock = some q → w6.heap.size ≤ q) := Lib.hid (fun q hq => by
            rcases HA8.out.2.2 with e | e
            · rw [hq] at e
              have : q = w6.heap.size := Option.some.inj e
              omega
            · rw [hq] at e
              have := Option.some.inj e
              have := HZ7.out
              omega)
          have hz8 : w6.heap.size + 1 ≤ w8.heap.size := by have := HA8.out.2.1.size; have := HZ7.out; omega
          have hg6 : w6.heap.size ≤ g := by
            rcases HA10.out.2.2 with e | e
            · exact H8.out g e.symm
            · have e : g = (w8.alloc (.cells #[.string ⟨#[97]⟩, .string ⟨#[98]⟩, .string ⟨#[48]⟩] 9)).heap.size := Option.some.inj e
              rw [e]
              simp
              omega
          have HB10 := Lib.hid (HB9.out.grown HA10.out.2.1 HB9.out.size (fun j hj => by have := H8.out j hj; have := HB6.out.size; omega))
          obtain ⟨HS, HHS⟩ : ∃ HS, Shut (HS = headsOf hs) := ⟨_, ⟨rfl⟩⟩
          have HLS : Hid (HS.length = N3) := Lib.hid (by rw [HHS.out, HN3.out]; simp [headsOf])
          have HRG : Hid (Rd w10 w10.heap.size (some ⟨g, 0, none⟩) (sv HS)) := Lib.hid (.inr ⟨_, rfl, hg, fun j u hj => by
            rw [addr_k]
            refine hcl j u ?_
            rw [HHS.out] at hj
            simpa [sv, headsOf] using hj⟩)
          have HON : Hid (w10.ownsRow w.heap.size 9 1 (.slice (some ⟨gn, 0, none⟩) 0 0) 0 (sv [])) := Lib.hid (own_same HON0.out (fun q hq => by
            have eq : gn = q := Option.some.inj hq
            have hq6 : q < w6.heap.size := by have := HZ6.out; omega
            have b1 : (w6.alloc (.cells #[] 9)).heap[q]? = w6.heap[q]? := Below.heap_alloc w6 _ q hq6
            have b2 : w8.heap[q]? = (w6.alloc (.cells #[] 9)).heap[q]? := HA8.out.2.1.block q (by rw [HZ7.out]; omega) (fun e => by have : q = w6.heap.size := Option.some.inj e; omega)
            have b3 : (w8.alloc (.cells #[.string ⟨#[97]⟩, .string ⟨#[98]⟩, .string ⟨#[48]⟩] 9)).heap[q]? = w8.heap[q]? := Below.heap_alloc w8 _ q (by omega)
            have b4 : w10.heap[q]? = (w8.alloc (.cells #[.string ⟨#[97]⟩, .string ⟨#[98]⟩, .string ⟨#[48]⟩] 9)).heap[q]? := HA10.out.2.1.block q (by simp; omega) (fun e => by have := H8.out q e.symm; omega)
            exact b4.trans (b3.trans (b2.trans b1))))
          have hgn : gn ≠ g := by have := HZ6.out; omega
          have HTS := Lib.hid hts
          clear HO10 hcl HA10 HA8 HR9 HO9 HB9 HB8 HO7 HB7 HZ7 H8 hz8 hg6 HON0 HB5 HB6 HZ6 HW6 hbg hg
          go_wp2_with fail
          go_loopw [14, 69] (fun v i W => ∃ k : Nat, k ≤ N3 ∧ i = .int .i64 k ∧ ∃ tv, tv = v ∧ Shut (W.ownsRow w.heap.size 9 1 tv (namesOf t (HS.take k)).length (sv (namesOf t (HS.take k))) ∧ Below w.heap.size w W ∧ Rd W W.heap.size (some ⟨g, 0, none⟩) (sv HS) ∧ tv.ownBlock ≠ some g)) (fun _ i _ => N3 - (intOf i).toNat)
          case atStart => exact ⟨0, Nat.zero_le _, rfl, _, rfl, ⟨HON.out, HB10.out, HRG.out, fun e => hgn (Option.some.inj e)⟩⟩
          case round =>
            obtain ⟨k, hk, rfl, tv, rfl, HI⟩ := hrel
            by_cases hlt : k < N3
            · have hltS : k < HS.length := by rw [HLS.out]; exact hlt
              obtain ⟨ad, had, hadb, hcl⟩ := HI.out.2.2.1.cell (sv_get hltS)
              injection had with had
              subst had
              rw [addr_k] at hcl
              have hgw : g < wr.heap.size := hadb
              have HNT := Lib.hid (namesOf_take (t := t) hltS)
              have HNL := Lib.hid (namesOf_length t (HS.take k))
              by_cases g100 : HS[k].size < 100
              · have hsum1 : HS[k].size + 1 ≤ 9223372036854775807 := by omega
                have HOA := Lib.hid (HI.out.1.alloc (.cells #[.string (HS[k] ++ ⟨#[46]⟩ ++ t)] 9))
                have HBA := Lib.hid (HI.out.2.1.alloc HI.out.2.1.size (.cells #[.string (HS[k] ++ ⟨#[46]⟩ ++ t)] 9))
                have HRO := Lib.hid (rd_one wr (HS[k] ++ ⟨#[46]⟩ ++ t))
                have HGA : Hid (Rd (wr.alloc (.cells #[.string (HS[k] ++ ⟨#[46]⟩ ++ t)] 9)) (wr.alloc (.cells #[.string (HS[k] ++ ⟨#[46]⟩ ++ t)] 9)).heap.size (some ⟨g, 0, none⟩) (sv HS)) := Lib.hid ((HI.out.2.2.1.below (below_alloc wr _)).more (below_alloc wr _).size)
                have hlen : (namesOf t (HS.take k)).length + 1 ≤ 8796093022208 := by have := HNL.out; have := List.length_take_le k HS; omega
                have HNN := Lib.hid HI.out.2.2.2
                have HLT := HI.out.1.lt
                rw [if_pos g100] at HNT
                go_wp2_with (refine wl_append rfl (.tmp 76) (.tmp 81) rfl w.heap.size tv (namesOf t (HS.take k)).length (sv (namesOf t (HS.take k))) rfl HOA.out _ _ 1 1 [HS[k] ++ ⟨#[46]⟩ ++ t] rfl rfl HRO.out hlen HBA.out.size ?_
                             intro v5 w5 HA5)
                go_round
                case rel =>
                  refine ⟨k + 1, by omega, by go_num, v5, rfl, ⟨?_, HBA.out.grown HA5.out.2.1 HBA.out.size (fun q hq => (HLT q hq).1), rd_grown HGA.out HA5.out.2.1 HNN.out, ?_⟩⟩
                  · rw [HNT.out]
                    have h := HA5.out.1
                    simpa [sv] using h
                  · intro e
                    rcases HA5.out.2.2 with e2 | e2
                    · exact HNN.out (e2.symm.trans e)
                    · rw [e] at e2
                      have e2 := Option.some.inj e2
                      simp at e2
                      omega
                case measure => simp [intOf]; omega
              · rw [if_neg g100] at HNT
                go_wp2_with fail
                go_round
                case rel => exact ⟨k + 1, by omega, by go_num, tv, rfl, ⟨by rw [HNT.out]; exact HI.out.1, HI.out.2⟩⟩
                case measure => simp [intOf]; omega
            · have hkN : k = N3 := by omega
              have HOE := HI.out.1
              rw [List.take_of_length_le (by rw [HLS.out]; omega)] at HOE
              have HBE := Lib.hid HI.out.2.1
              obtain ⟨NL, HNL⟩ : ∃ NL, Shut (NL = namesOf t HS) := ⟨_, ⟨rfl⟩⟩
              rw [← HNL.out] at HOE
              have hpos : 0 < NL.length := by
                have hm : (⟨#[97]⟩ : ByteArray) ++ ⟨#[46]⟩ ++ t ∈ NL := by rw [HNL.out, HHS.out]; exact namesOf_mem (by simp [headsOf]) (by show 1 < 100; decide)
                exact List.length_pos_of_mem hm
              obtain ⟨gm, dm, rfl, _, hgm, hnm, hdmm, hcm2⟩ := own_some HOE hpos
              obtain ⟨w11, HW11⟩ : ∃ w11, Shut (w11 = wr) := ⟨_, ⟨rfl⟩⟩
              rw [← HW11.out] at HOE HBE hgm hcm2 ⊢
              have HRN : Hid (Rd w11 w11.heap.size (some ⟨gm, 0, none⟩) (sv NL)) := Lib.hid (.inr ⟨_, rfl, hgm, fun j u hj => by rw [addr_k]; exact hcm2 j u hj⟩)
              have HLEN : Hid (NL.length = NL.length) := Lib.hid rfl
              have HSZ : Hid (∀ x ∈ NL, x.size ≤ 9223372036854775807) := Lib.hid (by
                rw [HNL.out]
                intro x hx
                have := namesOf_size x hx
                have := HTS.out
                omega)
              have HWN : Hid (allK p.data.toList q.data.toList NL NL.length = false ∧ someK p.data.toList NL NL.length = true) := Lib.hid (by
                obtain ⟨cc, h1, h3, h4⟩ := HWI.out
                rw [HNL.out, HHS.out]
                exact wit_names hs HT.out h1 h3 h4)
              have HAL : Hid (allK p.data.toList q.data.toList NL NL.length = false) := Lib.hid HWN.out.1
              have HSO : Hid (someK p.data.toList NL NL.length = true) := Lib.hid HWN.out.2
              clear HWN
              clear HI HOE hgm hcm2 HON HB10 HRG HLS
              have HFP := fun (W : World) (n : ByteArray) (hb : Env W a m) (hn : n.size ≤ 9223372036854775807) => Lib.hid (fits_any p n a m W hb (by omega) hn)
              have HFQ := fun (W : World) (n : ByteArray) (hb : Env W a m) (hn : n.size ≤ 9223372036854775807) => Lib.hid (fits_any q n a m W hb (by omega) hn)
              go_wp2_with fail
              go_loopw [17, 18, 86] (fun al so i W => ∃ k : Nat, k ≤ NL.length ∧ i = .int .i64 k ∧ al = .bool (allK p.data.toList q.data.toList NL k) ∧ so = .bool (someK p.data.toList NL k) ∧ Shut (Below w11.heap.size w11 W)) (fun _ _ i _ => NL.length - (intOf i).toNat)
              case atStart => exact ⟨0, Nat.zero_le _, rfl, rfl, rfl, ⟨Below.refl _ _⟩⟩
              case round =>
                obtain ⟨k, hk, rfl, rfl, rfl, HI⟩ := hrel
                have HBr := Lib.hid (HBE.out.trans (HI.out.mono HBE.out.size))
                have HEr := Lib.hid (HE.out.below h2 HBr.out)
                by_cases hlt : k < NL.length
                · obtain ⟨ad, had, _, hcl⟩ := (HRN.out.below HI.out).cell (sv_get hlt)
                  injection had with had
                  subst had
                  rw [addr_k] at hcl
                  have hsz : NL[k].size ≤ 9223372036854775807 := HSZ.out _ (List.getElem_mem hlt)
                  have HF := HFP wr NL[k] HEr.out hsz
                  have HQ2 := fun (W : World) (hb : Env W a m) => HFQ W NL[k] hb hsz
                  have HAS : Hid (allK p.data.toList q.data.toList NL (k + 1) = (allK p.data.toList q.data.toList NL k && (!fitsB p.data.toList NL[k].data.toList || fitsB q.data.toList NL[k].data.toList))) := Lib.hid (allK_succ hlt)
                  have HSS : Hid (someK p.data.toList NL (k + 1) = (someK p.data.toList NL k || fitsB p.data.toList NL[k].data.toList)) := Lib.hid (someK_succ hlt)
                  have hltN : k < NL.length := by have := HLEN.out; omega
                  have hltI : (k : Int) < (NL.length : Int) := by omega
                  cases hf : fitsB p.data.toList NL[k].data.toList with
                  | false =>
                    rw [hf] at HF HAS HSS
                    clear hf HQ2
                    go_wp2_with fail
                    with_reducible refine HF.out.mono ?_
                    rintro e w6 ⟨rfl, HV6⟩
                    go_wp2_with fail
                    go_round
                    case rel => exact ⟨k + 1, by omega, by go_num, by rw [HAS.out]; simp, by rw [HSS.out]; simp, ⟨HI.out.trans (HV6.out.mono HI.out.size)⟩⟩
                    case measure => simp [intOf]; omega
                  | true =>
                    rw [hf] at HF HAS HSS
                    cases hal : allK p.data.toList q.data.toList NL k with
                    | false =>
                      rw [hal] at HAS
                      clear hf hal HQ2
                      go_wp2_with fail
                      with_reducible refine HF.out.mono ?_
                      rintro e w6 ⟨rfl, HV6⟩
                      go_wp2_with fail
                      go_round
                      case rel => exact ⟨k + 1, by omega, by go_num, by rw [HAS.out]; simp, by rw [HSS.out]; simp, ⟨HI.out.trans (HV6.out.mono HI.out.size)⟩⟩
                      case measure => simp [intOf]; omega
                    | true =>
                      rw [hal] at HAS
                      clear hf hal
                      go_wp2_with fail
                      with_reducible refine HF.out.mono ?_
                      rintro e w6 ⟨rfl, HV6⟩
                      have HB6 := Lib.hid (HBr.out.trans (HV6.out.mono HBr.out.size))
                      have HE6 := Lib.hid (HE.out.below h2 HB6.out)
                      go_wp2_with fail
                      with_reducible refine (HQ2 w6 HE6.out).out.mono ?_
                      rintro e w7 ⟨rfl, HV7⟩
                      have HI7 := Lib.hid ((HI.out.trans (HV6.out.mono HI.out.size)).trans (HV7.out.mono (HI.out.trans (HV6.out.mono HI.out.size)).size))
                      go_wp2_with fail
                      go_round
                      case rel => exact ⟨k + 1, by omega, by go_num, by rw [HAS.out]; simp, by rw [HSS.out]; simp, ⟨HI7.out⟩⟩
                      case measure => simp [intOf]; omega
                · have he : k = NL.length := by omega
                  have hgeN : ¬ k < NL.length := by have := HLEN.out; omega
                  have hgeI : ¬ (k : Int) < (NL.length : Int) := by omega
                  have hal := HAL.out
                  have hso := HSO.out
                  rw [← he] at hal hso
                  rw [hal, hso]
                  clear hal hso he hlt
                  go_wp2_with fail
                  go_ret
                  exact ⟨rfl, HBr.out⟩
end Go.Proofs.YtooplfpffmnkfaaDoor

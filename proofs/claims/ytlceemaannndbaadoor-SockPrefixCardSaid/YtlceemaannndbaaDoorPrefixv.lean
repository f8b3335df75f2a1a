/- The law SockPrefix, walked. -/
import Derived.Test.YtlceemaannndbaaDoorPrefixw
namespace Go.Proofs.YtlceemaannndbaaDoor
open Go.RowKit

set_option maxHeartbeats 4000000 in
set_option maxRecDepth 100000 in
theorem prefix_law (ad : Nat → Addr) (z : Int) (A : Option Addr) (L c : Nat) (os : List OpV) (w : World) (hE : Errs w ad) (h3 : 3 ≤ w.heap.size) (hL : os.length = L) (hLc : L ≤ c) (hcm : c ≤ 9223372036854775807) (hr : OpsAt w w.heap.size A os)
    (b1 : -9223372036854775808 ≤ z) (b2 : z ≤ 9223372036854775807) :
    Calls Tryd.prog 4 #[.int .i64 z, .slice A L c] w fun e w' => e = .returned (.bool true) ∧ Below w.heap.size w w' := by
  have HE := Lib.hid hE
  have HL := Lib.hid hL
  have HR := Lib.hid hr
  clear hE hL hr
  go_enter Tryd.func4, Tryd.ntmps4
  go_wp2_with fail
  with_reducible refine (alive_any ad w HE.out h3).mono ?_
  rintro x w1 ⟨rfl, H1⟩
  obtain ⟨R, HQ, hR1, hR2⟩ := room_nat z
  go_wp2_with fail
  rw [HQ.out]
  with_reducible refine (h_new (B := w1.heap.size) (K := fun k => k < w1.heap.size) R _ rfl w1 (by omega) (by omega) (fun k h => h) (Nat.le_refl _)).mono ?_
  rintro x w2 ⟨rfl, H2⟩
  have hgh : w1.heap.size ≤ w2.heap.size := H2.out.2.size
  have HI2 : Hid (PreI w1 ((w2.alloc (.cells #[.string ⟨#[]⟩, .string ⟨#[]⟩] 55)).alloc (.cells #[.string ⟨#[]⟩, .string ⟨#[]⟩] 55)) w1.heap.size w1.heap.size w2.heap.size (w2.heap.size + 1) R 0) := Lib.hid (pre_start H2.out (by omega) (by omega))
  clear H2
  go_wp2_with fail
  go_loopg [41] L (fun gk i w' => ∃ k : Nat, k ≤ L ∧ gk = L - k ∧ i = .int .i64 k ∧ Hid (PreI w1 w' w1.heap.size w1.heap.size w2.heap.size (w2.heap.size + 1) R k))
  case atStart => exact ⟨0, Nat.zero_le _, rfl, rfl, HI2.out⟩
  case round =>
    obtain ⟨k, hk, rfl, rfl, HI⟩ := hrel
    have HBW : Hid (Below w.heap.size w wr) := Lib.hid (H1.out.trans ((HI.out.2.below (fun k h => h)).mono H1.out.size))
    by_cases hlt : k < L
    rotate_left
    · go_wp2_with fail
      go_ret
      exact ⟨rfl, HBW.out⟩
    obtain ⟨b, off, kd, ed, nn, Ao, cap, bts, rfl, hb, HOK, g0, g1, g2, g3⟩ := (HR.out.below HBW.out).get (k := k) (by rw [HL.out]; exact hlt)
    by_cases h300 : 300 < k
    · go_wp2_with fail
      go_ret
      exact ⟨rfl, HBW.out.alloc HBW.out.size _⟩
    obtain ⟨i, hi, hand⟩ := and_one ed
    have HAND := Lib.hid hand
    clear hand
    go_upto_block 2 with fail
    rw [HAND.out]
    have hbig : w1.heap.size ≤ wr.heap.size := HI.out.2.size
    obtain ⟨P, wrt, rd, HP⟩ : ∃ P wrt rd, Hid (PreP wr w1.heap.size (fun k => k < w1.heap.size ∨ k = w2.heap.size ∨ k = w2.heap.size + 1) w1.heap.size w2.heap.size (w2.heap.size + 1) P wrt rd ∧ PreM R k P wrt rd) := by
      obtain ⟨P, wrt, rd, h⟩ := HI.out.1
      exact ⟨P, wrt, rd, Lib.hid h⟩
    have HB := Lib.hid (HP.out.1.box (.cells #[.int .i64 kd, .int .i64 ed, .int .i64 nn, .slice Ao bts.length cap] 37))
    have HM := Lib.hid HP.out.2
    have HKB : Hid (Below wr.heap.size wr (wr.alloc (.cells #[.int .i64 kd, .int .i64 ed, .int .i64 nn, .slice Ao bts.length cap] 37))) := Lib.hid ((Below.refl _ _).alloc (Nat.le_refl _) _)
    have HEB : Hid (Errs (wr.alloc (.cells #[.int .i64 kd, .int .i64 ed, .int .i64 nn, .slice Ao bts.length cap] 37)) ad) := Lib.hid ((HE.out.below h3 HBW.out).below (Nat.le_trans h3 HBW.out.size) HKB.out)
    have HRB : Hid (Rd (wr.alloc (.cells #[.int .i64 kd, .int .i64 ed, .int .i64 nn, .slice Ao bts.length cap] 37)) (wr.alloc (.cells #[.int .i64 kd, .int .i64 ed, .int .i64 nn, .slice Ao bts.length cap] 37)).heap.size Ao (bts.map bv)) := Lib.hid (((HOK.out.rd.more HBW.out.size).below HKB.out).more HKB.out.size)
    have hcap1 : bts.length ≤ cap := HOK.out.len
    have hcap2 : cap ≤ 9223372036854775807 := by have := HOK.out.cap; simp only [maxLen] at this; omega
    have hn2 : nn ≤ 9223372036854775807 := HOK.out.n2
    have ha1 := HM.out.size i hi
    go_cut [] (fun wx => Hid (PreI w1 wx w1.heap.size w1.heap.size w2.heap.size (w2.heap.size + 1) R (k + 1)))
    case first =>
      have HFIN : Hid (∀ w' P' wrt' rd', PreP w' w1.heap.size (fun k => (k < w1.heap.size ∨ k = w2.heap.size ∨ k = w2.heap.size + 1) ∨ k = wr.heap.size) w1.heap.size w2.heap.size (w2.heap.size + 1) P' wrt' rd' → PreM R (k + 1) P' wrt' rd' → Keep (fun k => k < w1.heap.size) (wr.alloc (.cells #[.int .i64 kd, .int .i64 ed, .int .i64 nn, .slice Ao bts.length cap] 37)) w' → PreI w1 w' w1.heap.size w1.heap.size w2.heap.size (w2.heap.size + 1) R (k + 1)) :=
        Lib.hid (fun w' P' wrt' rd' h1 h2 h4 => HI.out.fin (Keep.of_below HKB.out (fun k h => by omega)) h1 h2 h4 (fun k h => .inl h))
      by_cases h1 : kd = 1
      · subst h1
        go_wp2_with fail
        with_reducible refine (h_write_any ad _ i _ rfl Ao bts.length cap bts _ HEB.out HB.out.has hi rfl hcap1 hcap2 HRB.out).mono ?_
        rintro x w3 ⟨ev, rfl, H3⟩
        obtain ⟨n, HN⟩ : ∃ n, Hid (P.puts i bts.length = n) := ⟨_, Lib.hid rfl⟩
        have hnl : n ≤ bts.length := by rw [← HN.out, Pr.puts]; omega
        have hnc : n ≤ cap := by omega
        have HP3 : Hid (PreP w3 w1.heap.size (fun k => (k < w1.heap.size ∨ k = w2.heap.size ∨ k = w2.heap.size + 1) ∨ k = wr.heap.size) w1.heap.size w2.heap.size (w2.heap.size + 1) (P.wrote i bts) wrt rd) := Lib.hid (HB.out.to H3.out.2 (.inl (.inr (.inl rfl))) (.inl (.inr (.inr rfl))))
        have c1 := (HP3.out.cell1 i hi).1
        have f1 := (HP3.out.cell1 i hi).2
        have hbox : w3.cell? ⟨wr.heap.size, 3, none⟩ = some (.slice Ao bts.length cap) := by
          rw [cell_block (p := ⟨wr.heap.size, 3, none⟩) (H3.out.2.2.block wr.heap.size (.inr rfl))]
          exact World.cell?_alloc_mark wr _ 37 (0, 0) 3
        obtain ⟨t, HT⟩ : ∃ t, Hid (t = strOf (bts.take n)) := ⟨_, Lib.hid rfl⟩
        obtain ⟨sw, HSW⟩ : ∃ sw, Hid (sw = strOf (wrt i)) := ⟨_, Lib.hid rfl⟩
        have hrd3 : Rd w3 w.heap.size Ao ((bts.take n).map bv) := by
          rw [List.map_take]
          exact (HOK.out.rd.take n).below ((((Keep.of_below HKB.out (K := fun k => k < w1.heap.size) (fun k h => by omega)).trans (H3.out.2.2.mono (fun k h => .inl (.inl h)))).below (fun k h => h)).mono H1.out.size)
        have hcv : (convert 30 9 (.slice Ao n cap)).run Tryd.prog w3.drew = .ok (.string t) w3.drew := by
          rw [HT.out]
          exact (hrd3.keep (w' := w3.drew) (fun p _ => rfl)).toStr n cap (by rw [List.length_take]; omega)
        have hst : sw ++ t = strOf (wrt i ++ bts.take (P.puts i bts.length)) := by rw [HSW.out, HT.out, strOf_append, HN.out]
        have hst' := Lib.hid hst
        have hn5 : n ≤ 500 := by
          have h5 : P.free i ≤ P.room := by unfold Pr.free; split <;> omega
          have h6 := HM.out.room
          rw [← HN.out, Pr.puts]; omega
        have hsw : sw.size ≤ 150000 := by rw [HSW.out, strOf_size]; omega
        have htz : t.size ≤ 500 := by rw [HT.out, strOf_size, List.length_take]; omega
        have hsum : sw.size + t.size ≤ 9223372036854775807 := by omega
        have hi' : (i : Int) < 2 := by omega
        clear hrd3 hst
        rw [← HSW.out] at c1
        rw [HN.out]
        rcases H3.out.1 with hev | ⟨a, hev, hz⟩
        · subst hev
          go_wp2_with fail
          go_region
          all_goals
            go_wp2_with fail
            go_meet
            case rel =>
              refine Lib.hid (HFIN.out _ _ _ _ (PreP.stay (w := w3.setCell ⟨w2.heap.size, i, none⟩ (.string (sw ++ t))) (by rw [hst'.out]; exact HP3.out.set1 (.inl (.inr (.inl rfl))) (by omega) i hi _) ⟨rfl, rfl, rfl, rfl⟩) (HM.out.write hR2 i hi bts) (((H3.out.2.2.mono (fun k h => .inl (.inl h))).trans (Keep.setCell ⟨w2.heap.size, i, none⟩ (.string (sw ++ t)) (show ¬ w2.heap.size < w1.heap.size by omega))).trans (Keep.stay ⟨rfl, rfl, rfl, rfl⟩)))
        · subst hev
          have hn0 : n = 0 := by rw [← HN.out]; exact hz
          subst hn0
          clear hz
          go_wp2_with fail
          go_region
          all_goals
            go_wp2_with fail
            go_meet
            case rel =>
              refine Lib.hid (HFIN.out _ _ _ _ (PreP.stay (w := w3.setCell ⟨w2.heap.size, i, none⟩ (.string (sw ++ t))) (by rw [hst'.out]; exact HP3.out.set1 (.inl (.inr (.inl rfl))) (by omega) i hi _) ⟨rfl, rfl, rfl, rfl⟩) (HM.out.write hR2 i hi bts) (((H3.out.2.2.mono (fun k h => .inl (.inl h))).trans (Keep.setCell ⟨w2.heap.size, i, none⟩ (.string (sw ++ t)) (show ¬ w2.heap.size < w1.heap.size by omega))).trans (Keep.stay ⟨rfl, rfl, rfl, rfl⟩)))
      have f1 : (kd == 1) = false := by simpa using h1
      by_cases h2 : kd = 2
      · subst h2
        clear h1
        go_wp2_with fail
        with_reducible refine (h_shut_any ad _ i _ rfl _ HEB.out HB.out.has hi).mono ?_
        rintro x w3 ⟨v, rfl, H3⟩
        go_wp2_with fail
        go_meet
        case rel => exact Lib.hid (HFIN.out _ _ _ _ (HB.out.to H3.out (.inl (.inr (.inl rfl))) (.inl (.inr (.inr rfl)))) (HM.out.shut i) (H3.out.2.mono (fun k h => .inl (.inl h))))
      have f2 : (kd == 2) = false := by simpa using h2
      by_cases h3' : kd = 3
      · subst h3'
        clear h1 h2
        go_wp2_with fail
        with_reducible refine (h_carry_any ad _ i _ rfl nn hn2 _ HEB.out HB.out.has hi).mono ?_
        rintro x w3 ⟨v, rfl, H3⟩
        go_wp2_with fail
        go_meet
        case rel =>
          obtain ⟨n, h⟩ := H3.out
          exact Lib.hid (HFIN.out _ _ _ _ (HB.out.to h (.inl (.inr (.inl rfl))) (.inl (.inr (.inr rfl)))) (HM.out.carry i n) (h.2.mono (fun k h => .inl (.inl h))))
      have f3 : (kd == 3) = false := by simpa using h3'
      by_cases h4 : kd = 4
      · subst h4
        clear h1 h2 h3'
        go_wp2_with fail
        with_reducible refine (h_read_any ad _ i _ rfl nn hn2 _ HEB.out HB.out.has hi).mono ?_
        rintro x w3 ⟨A3, m3, c3, ev3, rfl, H3⟩
        obtain ⟨n, H4⟩ : ∃ n, Hid (New (wr.alloc (.cells #[.int .i64 4, .int .i64 ed, .int .i64 nn, .slice Ao bts.length cap] 37)) w3 A3 m3 c3 ((P.ws (1 - i)).row.take (P.takes (1 - i) n)) ∧ Has w3 w1.heap.size (fun k => (k < w1.heap.size ∨ k = w2.heap.size ∨ k = w2.heap.size + 1) ∨ k = wr.heap.size) w1.heap.size (P.took (1 - i) n) ∧ Keep (fun k => (k < w1.heap.size ∨ k = w2.heap.size ∨ k = w2.heap.size + 1) ∨ k = wr.heap.size) (wr.alloc (.cells #[.int .i64 4, .int .i64 ed, .int .i64 nn, .slice Ao bts.length cap] 37)) w3) := by
          obtain ⟨n, h⟩ := H3.out
          exact ⟨n, Lib.hid h⟩
        clear H3
        have HP3 : Hid (PreP w3 w1.heap.size (fun k => (k < w1.heap.size ∨ k = w2.heap.size ∨ k = w2.heap.size + 1) ∨ k = wr.heap.size) w1.heap.size w2.heap.size (w2.heap.size + 1) (P.took (1 - i) n) wrt rd) := Lib.hid (HB.out.to H4.out.2 (.inl (.inr (.inl rfl))) (.inl (.inr (.inr rfl))))
        have c1 := (HP3.out.cell2 i hi).1
        have f1' := (HP3.out.cell2 i hi).2
        obtain ⟨t, HT⟩ : ∃ t, Hid (t = strOf ((P.ws (1 - i)).row.take (P.takes (1 - i) n))) := ⟨_, Lib.hid rfl⟩
        obtain ⟨sw, HSW⟩ : ∃ sw, Hid (sw = strOf (rd i)) := ⟨_, Lib.hid rfl⟩
        have hcv : (convert 30 9 (.slice A3 m3 c3)).run Tryd.prog w3.drew = .ok (.string t) w3.drew := by
          rw [HT.out]
          exact (H4.out.1.stay (w' := w3.drew) ⟨rfl, rfl, rfl, rfl⟩).str
        have hst' : Hid (sw ++ t = strOf (rd i ++ (P.ws (1 - i)).row.take (P.takes (1 - i) n))) := Lib.hid (by rw [HSW.out, HT.out, strOf_append])
        rw [← HSW.out] at c1
        have hsw : sw.size ≤ 150000 := by
          have h5 := (HM.out.asked i hi).1
          have h6 := HM.out.size (1 - i) (by omega)
          rw [HSW.out, strOf_size]; omega
        have htz : t.size ≤ 65536 := by
          have h5 := HM.out.ok.row (1 - i)
          have h6 := HM.out.ok.room
          rw [HT.out, strOf_size, List.length_take]; omega
        have hsum : sw.size + t.size ≤ 9223372036854775807 := by omega
        have hi' : (i : Int) < 2 := by omega
        go_wp2_with fail
        go_region
        all_goals
          go_wp2_with fail
          go_meet
          case rel =>
            refine Lib.hid (HFIN.out _ _ _ _ (PreP.stay (w := w3.setCell ⟨w2.heap.size + 1, i, none⟩ (.string (sw ++ t))) (by rw [hst'.out]; exact HP3.out.set2 (.inl (.inr (.inr rfl))) (by omega) i hi _) ⟨rfl, rfl, rfl, rfl⟩) (HM.out.read i n hi) (((H4.out.2.2.mono (fun k h => .inl (.inl h))).trans (Keep.setCell ⟨w2.heap.size + 1, i, none⟩ (.string (sw ++ t)) (show ¬ w2.heap.size + 1 < w1.heap.size by omega))).trans (Keep.stay ⟨rfl, rfl, rfl, rfl⟩)))
      have f4 : (kd == 4) = false := by simpa using h4
      by_cases h5 : kd = 5
      · subst h5
        clear h1 h2 h3' h4
        go_wp2_with fail
        with_reducible refine (h_cut _ _ HB.out.has).mono ?_
        rintro x w3 ⟨rfl, H3⟩
        go_wp2_with fail
        go_meet
        case rel => exact Lib.hid (HFIN.out _ _ _ _ (HB.out.to H3.out (.inl (.inr (.inl rfl))) (.inl (.inr (.inr rfl)))) HM.out.cut (H3.out.2.mono (fun k h => .inl (.inl h))))
      have f5 : (kd == 5) = false := by simpa using h5
      clear h1 h2 h3' h4 h5
      go_wp2_with fail
      go_meet
      case rel => exact Lib.hid (HFIN.out _ _ _ _ HB.out HM.out.next (Keep.refl _ _))
    case rest =>
      clear HI HBW HP HB HM HKB HEB HRB HOK g0 g1 g2 g3 ha1
      go_wp2_with fail
      go_loopg [119] 2 (fun gk j w' => ∃ q : Nat, q ≤ 2 ∧ gk = 2 - q ∧ j = .int .i64 q ∧ Hid (PreI w1 w' w1.heap.size w1.heap.size w2.heap.size (w2.heap.size + 1) R (k + 1)))
      case atStart => exact ⟨0, by omega, rfl, rfl, hcut.out⟩
      case round =>
        obtain ⟨q, hq, rfl, rfl, HJ⟩ := hrel
        by_cases hq2 : q < 2
        rotate_left
        · go_wp2_with fail
          go_roundg (L - (k + 1))
          case measure => omega
          case rel => exact ⟨k + 1, by omega, by omega, by go_num, HJ⟩
        obtain ⟨P', wrt', rd', HP'⟩ : ∃ P wrt rd, Hid (PreP wr w1.heap.size (fun k => k < w1.heap.size ∨ k = w2.heap.size ∨ k = w2.heap.size + 1) w1.heap.size w2.heap.size (w2.heap.size + 1) P wrt rd ∧ PreM R (k + 1) P wrt rd) := by
          obtain ⟨P, wrt, rd, h⟩ := HJ.out.1
          exact ⟨P, wrt, rd, Lib.hid h⟩
        obtain ⟨sa, HSA⟩ : ∃ sa, Hid (sa = strOf (wrt' (1 - q))) := ⟨_, Lib.hid rfl⟩
        obtain ⟨sb, HSB⟩ : ∃ sb, Hid (sb = strOf (rd' q)) := ⟨_, Lib.hid rfl⟩
        have ca := (HP'.out.1.cell1 (1 - q) (by omega)).1
        have cb := (HP'.out.1.cell2 q hq2).1
        rw [← HSA.out] at ca
        rw [← HSB.out] at cb
        have hsz : sb.size ≤ sa.size := by rw [HSA.out, HSB.out, strOf_size, strOf_size]; exact (HP'.out.2.asked q hq2).1
        have hext : sa.extract 0 sb.size = sb := by rw [HSA.out, HSB.out, extract_take, strOf_size, (HP'.out.2.asked q hq2).2.1]
        have hR3 : sa.size - sb.size ≤ R := by rw [HSA.out, HSB.out, strOf_size, strOf_size]; exact (HP'.out.2.asked q hq2).2.2.1
        have hbd : sa.size ≤ 200000 := by
          have h6 := HP'.out.2.size (1 - q) (by omega)
          rw [HSA.out, strOf_size]; omega
        have HEN : Hid (P'.ended q = true → sa.size = sb.size) := Lib.hid (fun h => by rw [HSA.out, HSB.out, strOf_size, strOf_size]; exact (HP'.out.2.asked q hq2).2.2.2 h)
        rcases (by omega : q = 0 ∨ q = 1) with rfl | rfl
        · cases he : P'.ended 0
          · have HHE := Lib.hid he
            go_wp2_with fail
            go_quiet (fail)
            go_wp2_with fail
            with_reducible refine (h_ended_v false _ 0 0 rfl _ (HP'.out.1.stay (Stay.drewN wr _)).has (by omega) he).mono ?_
            rintro x w6 ⟨rfl, rfl⟩
            clear he
            go_wp2_with fail
            go_roundg (2 - (0 + 1))
            case measure => omega
            case rel => exact ⟨0 + 1, by omega, by omega, by go_num, Lib.hid ⟨⟨P', wrt', rd', HP'.out.1.stay (Stay.drewN wr _), HP'.out.2⟩, HJ.out.2.trans (Keep.stay (Stay.drewN wr _))⟩⟩
          · have hse := HEN.out he
            have hne : ((sa.size : Int) != (sb.size : Int)) = false := by simp; omega
            clear hse
            go_wp2_with fail
            go_quiet (fail)
            go_wp2_with fail
            with_reducible refine (h_ended_v true _ 0 0 rfl _ (HP'.out.1.stay (Stay.drewN wr _)).has (by omega) he).mono ?_
            rintro x w6 ⟨rfl, rfl⟩
            clear he
            go_wp2_with fail
            go_roundg (2 - (0 + 1))
            case measure => omega
            case rel => exact ⟨0 + 1, by omega, by omega, by go_num, Lib.hid ⟨⟨P', wrt', rd', HP'.out.1.stay (Stay.drewN wr _), HP'.out.2⟩, HJ.out.2.trans (Keep.stay (Stay.drewN wr _))⟩⟩
        · cases he : P'.ended 1
          · have HHE := Lib.hid he
            go_wp2_with fail
            go_quiet (fail)
            go_wp2_with fail
            with_reducible refine (h_ended_v false _ 1 1 rfl _ (HP'.out.1.stay (Stay.drewN wr _)).has (by omega) he).mono ?_
            rintro x w6 ⟨rfl, rfl⟩
            clear he
            go_wp2_with fail
            go_roundg (2 - (1 + 1))
            case measure => omega
            case rel => exact ⟨1 + 1, by omega, by omega, by go_num, Lib.hid ⟨⟨P', wrt', rd', HP'.out.1.stay (Stay.drewN wr _), HP'.out.2⟩, HJ.out.2.trans (Keep.stay (Stay.drewN wr _))⟩⟩
          · have hse := HEN.out he
            have hne : ((sa.size : Int) != (sb.size : Int)) = false := by simp; omega
            clear hse
            go_wp2_with fail
            go_quiet (fail)
            go_wp2_with fail
            with_reducible refine (h_ended_v true _ 1 1 rfl _ (HP'.out.1.stay (Stay.drewN wr _)).has (by omega) he).mono ?_
            rintro x w6 ⟨rfl, rfl⟩
            clear he
            go_wp2_with fail
            go_roundg (2 - (1 + 1))
            case measure => omega
            case rel => exact ⟨1 + 1, by omega, by omega, by go_num, Lib.hid ⟨⟨P', wrt', rd', HP'.out.1.stay (Stay.drewN wr _), HP'.out.2⟩, HJ.out.2.trans (Keep.stay (Stay.drewN wr _))⟩⟩
end Go.Proofs.YtlceemaannndbaaDoor

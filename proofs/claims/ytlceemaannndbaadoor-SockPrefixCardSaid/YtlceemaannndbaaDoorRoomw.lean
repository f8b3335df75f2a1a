/- The law SockRoom: flight, inbox and room are just the pair's room. -/
import Derived.Test.YtlceemaannndbaaDoorAny
import Derived.Deep.DeepCutAuto
import Derived.Deep.CutBlock
import Derived.Deep.LoopGhost
namespace Go.Proofs.YtlceemaannndbaaDoor
open Go.RowKit

/-- The pair of SockRoom, and the law's own row of ends that are shut. -/
structure RoomP (w' : World) (B : Nat) (K : Nat → Prop) (g h R : Nat) (P : Pr) : Prop where
  has : Has w' B K g P
  cut : P.cut = false
  room : P.room = R
  row : Row w' h 56 [.bool (P.ws 0).shut, .bool (P.ws 1).shut]
def RoomI (W0 w' : World) (B g h R : Nat) : Prop := (∃ P, RoomP w' B (fun k => k < B ∨ k = h) g h R P) ∧ Keep (fun k => k < B) W0 w'
theorem RoomP.free {w' : World} {B : Nat} {K : Nat → Prop} {g h R : Nat} {P : Pr} (H : RoomP w' B K g h R P) (i : Nat) (hs : (P.ws i).shut = false) : P.free i = R - (P.ws i).row.length := by
  simp [Pr.free, H.cut, hs, H.room]
theorem RoomP.free0 {w' : World} {B : Nat} {K : Nat → Prop} {g h R : Nat} {P : Pr} (H : RoomP w' B K g h R P) (i : Nat) (hs : (P.ws i).shut = true) : P.free i = 0 := by
  simp [Pr.free, hs]
theorem RoomP.to {w w' : World} {B : Nat} {K : Nat → Prop} {g h R : Nat} {P P' : Pr} (H : RoomP w B K g h R P) (hh : Has w' B K g P' ∧ Keep K w w') (hK : K h) (h1 : P'.cut = P.cut) (h2 : P'.room = P.room) (h3 : ∀ i, (P'.ws i).shut = (P.ws i).shut) : RoomP w' B K g h R P' :=
  ⟨hh.1, h1.trans H.cut, h2.trans H.room, by rw [h3, h3]; exact hh.2.row H.row hK⟩
theorem put_shut (P : Pr) (i : Nat) (W : Wy) (h : W.shut = (P.ws i).shut) (j : Nat) : ((P.put i W).ws j).shut = (P.ws j).shut := by
  by_cases e : j = i
  · subst e; rw [Pr.put_same, h]
  · rw [Pr.put_other P W e]

theorem RoomP.box {w : World} {B : Nat} {K : Nat → Prop} {g h R : Nat} {P : Pr} (H : RoomP w B K g h R P) (o : Obj) : RoomP (w.alloc o) B (fun k => K k ∨ k = w.heap.size) g h R P :=
  ⟨H.has.alloc o, H.cut, H.room, (Below.heap_alloc w o h H.row.lt).trans H.row⟩
theorem two_at (a b : Value) (i : Nat) (h : i < 2) : [a, b][i]? = some (if i = 0 then a else b) := by rcases (by omega : i = 0 ∨ i = 1) with rfl | rfl <;> rfl
theorem RoomP.cell {w : World} {B : Nat} {K : Nat → Prop} {g h R : Nat} {P : Pr} (H : RoomP w B K g h R P) (i : Nat) (hi : i < 2) : w.cell? ⟨h, i, none⟩ = some (.bool (P.ws i).shut) ∧ w.frozen? ⟨h, i, none⟩ = false := by
  refine ⟨?_, H.row.frozen i⟩
  rw [H.row.cell i]
  rcases (by omega : i = 0 ∨ i = 1) with rfl | rfl <;> rfl
/-- Shut, and the law's own row. -/
theorem RoomP.shut {w w' : World} {B : Nat} {K : Nat → Prop} {g h R : Nat} {P : Pr} (H : RoomP w B K g h R P) (i : Nat) (hi : i < 2) (hh : Has w' B K g (P.setShut i) ∧ Keep K w w') (hK : K h) : RoomP (w'.setCell ⟨h, i, none⟩ (.bool true)) B K g h R (P.setShut i) := by
  refine ⟨hh.1.setCell _ hK _, H.cut, H.room, ?_⟩
  have h1 := (hh.2.row H.row hK).set i (.bool true)
  rcases (by omega : i = 0 ∨ i = 1) with rfl | rfl
  · exact h1
  · exact h1
theorem RoomI.fin {W0 w wb w' : World} {B g h R : Nat} {P' : Pr} {K : Nat → Prop} (HI : RoomI W0 w B g h R) (hb : Keep (fun k => k < B) w wb) (HP : RoomP w' B K g h R P') (hk : Keep (fun k => k < B) wb w') (hK : ∀ k, k < B ∨ k = h → K k) : RoomI W0 w' B g h R :=
  ⟨⟨P', ⟨HP.has.mono hK, HP.cut, HP.room, HP.row⟩⟩, (HI.2.trans hb).trans hk⟩

set_option maxHeartbeats 1000000 in
set_option maxRecDepth 100000 in
theorem room_law (ad : Nat → Addr) (z : Int) (A : Option Addr) (L c : Nat) (os : List OpV) (w : World) (hE : Errs w ad) (h3 : 3 ≤ w.heap.size) (hL : os.length = L) (hLc : L ≤ c) (hcm : c ≤ 9223372036854775807) (hr : OpsAt w w.heap.size A os)
    (b1 : -9223372036854775808 ≤ z) (b2 : z ≤ 9223372036854775807) :
    Calls Tryd.prog 5 #[.int .i64 z, .slice A L c] w fun e w' => e = .returned (.bool true) ∧ Below w.heap.size w w' := by
  have HE := Lib.hid hE
  have HL := Lib.hid hL
  have HR := Lib.hid hr
  clear hE hL hr
  go_enter Tryd.func5, Tryd.ntmps5
  go_wp2_with fail
  with_reducible refine (alive_any ad w HE.out h3).mono ?_
  rintro x w1 ⟨rfl, H1⟩
  obtain ⟨R, HQ, hR1, hR2⟩ : ∃ R : Nat, Hid (wrap64 (1 + (wrap64 (z.tmod 500 + 500)).tmod 500) = (R : Int)) ∧ 1 ≤ R ∧ R ≤ 500 := by
    have h1 := Int.tmod_lt_of_pos z (b := 500) (by omega)
    have h2 := Int.lt_tmod_of_pos z (b := 500) (by omega)
    have h4 : wrap64 (z.tmod 500 + 500) = z.tmod 500 + 500 := by unfold wrap64; omega
    have h5 := Int.tmod_lt_of_pos (z.tmod 500 + 500) (b := 500) (by omega)
    have h6 := Int.tmod_nonneg (500 : Int) (a := z.tmod 500 + 500) (by omega)
    refine ⟨(1 + (z.tmod 500 + 500).tmod 500).toNat, Lib.hid ?_, by omega, by omega⟩
    rw [h4]
    unfold wrap64
    omega
  go_wp2_with fail
  rw [HQ.out]
  with_reducible refine (h_new (B := w1.heap.size) (K := fun k => k < w1.heap.size) R _ rfl w1 (by omega) (by omega) (fun k h => h) (Nat.le_refl _)).mono ?_
  rintro x w2 ⟨rfl, H2⟩
  have HI2 : Hid (RoomI w1 (w2.alloc (.cells #[.bool false, .bool false] 56)) w1.heap.size w1.heap.size w2.heap.size R) := Lib.hid
    ⟨⟨fresh R, ⟨(H2.out.1.alloc _), rfl, rfl, Row.new w2 _ 56⟩⟩, H2.out.2.trans (Keep.alloc _ (fun k hk => Nat.lt_of_lt_of_le hk H2.out.2.size))⟩
  have hgh : w1.heap.size ≤ w2.heap.size := H2.out.2.size
  clear H2
  go_wp2_with fail
  go_loopg [34] L (fun gk i w' => ∃ k : Nat, k ≤ L ∧ gk = L - k ∧ i = .int .i64 k ∧ Hid (RoomI w1 w' w1.heap.size w1.heap.size w2.heap.size R))
  case atStart => exact ⟨0, Nat.zero_le _, rfl, rfl, HI2.out⟩
  case round =>
    obtain ⟨k, hk, rfl, rfl, HI⟩ := hrel
    have HBW : Hid (Below w.heap.size w wr) := Lib.hid (H1.out.trans ((HI.out.2.below (fun k h => h)).mono H1.out.size))
    by_cases hlt : k < L
    rotate_left
    · go_wp2_with fail
      go_ret
      exact ⟨rfl, HBW.out⟩
    obtain ⟨b, off, kd, ed, nn, Ao, cap, bts, rfl, hb, HOK, g0, g1, g2, g3⟩ := (HR.out.below HBW.out).get (k := k) (by rw [HL.out]; exact hlt)
    by_cases h300 : 300 < k
    · go_wp2_with fail
      go_ret
      exact ⟨rfl, HBW.out.alloc HBW.out.size _⟩
    obtain ⟨i, hi, hand⟩ := and_one ed
    have HAND := Lib.hid hand
    clear hand
    go_upto_block 2 with fail
    rw [HAND.out]
    have hbig : w1.heap.size ≤ wr.heap.size := HI.out.2.size
    obtain ⟨P, HP⟩ : ∃ P, Hid (RoomP wr w1.heap.size (fun k => k < w1.heap.size ∨ k = w2.heap.size) w1.heap.size w2.heap.size R P) := by
      obtain ⟨P, h⟩ := HI.out.1
      exact ⟨P, Lib.hid h⟩
    have HB := Lib.hid (HP.out.box (.cells #[.int .i64 kd, .int .i64 ed, .int .i64 nn, .slice Ao bts.length cap] 37))
    have HKB : Hid (Below wr.heap.size wr (wr.alloc (.cells #[.int .i64 kd, .int .i64 ed, .int .i64 nn, .slice Ao bts.length cap] 37))) := Lib.hid ((Below.refl _ _).alloc (Nat.le_refl _) _)
    have HEB : Hid (Errs (wr.alloc (.cells #[.int .i64 kd, .int .i64 ed, .int .i64 nn, .slice Ao bts.length cap] 37)) ad) := Lib.hid ((HE.out.below h3 HBW.out).below (Nat.le_trans h3 HBW.out.size) HKB.out)
    have HRB : Hid (Rd (wr.alloc (.cells #[.int .i64 kd, .int .i64 ed, .int .i64 nn, .slice Ao bts.length cap] 37)) (wr.alloc (.cells #[.int .i64 kd, .int .i64 ed, .int .i64 nn, .slice Ao bts.length cap] 37)).heap.size Ao (bts.map bv)) := Lib.hid (((HOK.out.rd.more HBW.out.size).below HKB.out).more HKB.out.size)
    have hcap1 : bts.length ≤ cap := HOK.out.len
    have hcap2 : cap ≤ 9223372036854775807 := by have := HOK.out.cap; simp only [maxLen] at this; omega
    have hn2 : nn ≤ 9223372036854775807 := HOK.out.n2
    go_cut [] (fun wx => Hid (RoomI w1 wx w1.heap.size w1.heap.size w2.heap.size R))
    case first =>
      have HFIN : Hid (∀ w' P', RoomP w' w1.heap.size (fun k => (k < w1.heap.size ∨ k = w2.heap.size) ∨ k = wr.heap.size) w1.heap.size w2.heap.size R P' → Keep (fun k => k < w1.heap.size) (wr.alloc (.cells #[.int .i64 kd, .int .i64 ed, .int .i64 nn, .slice Ao bts.length cap] 37)) w' → RoomI w1 w' w1.heap.size w1.heap.size w2.heap.size R) :=
        Lib.hid (fun w' P' h1 h2 => HI.out.fin (Keep.of_below HKB.out (fun k h => by omega)) h1 h2 (fun k h => .inl h))
      by_cases h1 : kd = 1
      · subst h1
        go_wp2_with fail
        with_reducible refine (h_write_any ad _ i _ rfl Ao bts.length cap bts _ HEB.out HB.out.has hi rfl hcap1 hcap2 HRB.out).mono ?_
        rintro x w3 ⟨ev, rfl, H3⟩
        go_wp2_with fail
        go_meet
        case rel => exact Lib.hid (HFIN.out _ _ (HB.out.to H3.out.2 (.inl (.inr rfl)) rfl rfl (put_shut P i _ rfl)) (H3.out.2.2.mono (fun k h => .inl (.inl h))))
      have f1 : (kd == 1) = false := by simpa using h1
      by_cases h2 : kd = 2
      · subst h2
        clear h1
        go_wp2_with fail
        with_reducible refine (h_shut _ i _ rfl _ HB.out.has hi HB.out.cut).mono ?_
        rintro x w3 ⟨rfl, H3⟩
        have hci := (HB.out.to (P' := P) ⟨HB.out.has, Keep.refl _ _⟩ (.inl (.inr rfl)) rfl rfl (fun _ => rfl)).cell i hi
        have e3 : w3.heap[w2.heap.size]? = (wr.alloc (.cells #[.int .i64 2, .int .i64 ed, .int .i64 nn, .slice Ao bts.length cap] 37)).heap[w2.heap.size]? := H3.out.2.block _ (.inl (.inr rfl))
        have ci : w3.cell? ⟨w2.heap.size, i, none⟩ = some (.bool (P.ws i).shut) := (cell_block (p := ⟨w2.heap.size, i, none⟩) e3).trans hci.1
        have fi : w3.frozen? ⟨w2.heap.size, i, none⟩ = false := (frozen_block (p := ⟨w2.heap.size, i, none⟩) e3).trans hci.2
        clear hci e3
        go_wp2_with fail
        go_meet
        case rel => exact Lib.hid (HFIN.out _ _ (HB.out.shut i hi H3.out (.inl (.inr rfl))) ((H3.out.2.mono (fun k h => .inl (.inl h))).trans (Keep.setCell _ _ (show ¬ w2.heap.size < w1.heap.size by omega))))
      have f2 : (kd == 2) = false := by simpa using h2
      by_cases h3' : kd = 3
      · subst h3'
        clear h1 h2
        go_wp2_with fail
        with_reducible refine (h_carry_any ad _ i _ rfl nn hn2 _ HEB.out HB.out.has hi).mono ?_
        rintro x w3 ⟨v, rfl, H3⟩
        go_wp2_with fail
        go_meet
        case rel =>
          obtain ⟨n, h⟩ := H3.out
          exact Lib.hid (HFIN.out _ _ (HB.out.to h (.inl (.inr rfl)) rfl rfl (put_shut P i _ rfl)) (h.2.mono (fun k h => .inl (.inl h))))
      have f3 : (kd == 3) = false := by simpa using h3'
      by_cases h4 : kd = 4
      · subst h4
        clear h1 h2 h3'
        go_wp2_with fail
        with_reducible refine (h_read_any ad _ i _ rfl nn hn2 _ HEB.out HB.out.has hi).mono ?_
        rintro x w3 ⟨A3, m3, c3, ev3, rfl, H3⟩
        go_wp2_with fail
        go_meet
        case rel =>
          obtain ⟨n, h0, h⟩ := H3.out
          exact Lib.hid (HFIN.out _ _ (HB.out.to h (.inl (.inr rfl)) rfl rfl (put_shut P (1 - i) _ rfl)) (h.2.mono (fun k h => .inl (.inl h))))
      have f4 : (kd == 4) = false := by simpa using h4
      clear h1 h2 h3' h4
      go_wp2_with fail
      go_meet
      case rel => exact Lib.hid (HFIN.out _ _ HB.out (Keep.refl _ _))
    case rest =>
      clear HI HBW HP HB HKB HEB HRB HOK g0 g1 g2 g3
      go_wp2_with fail
      go_loopg [75] 2 (fun gk j w' => ∃ q : Nat, q ≤ 2 ∧ gk = 2 - q ∧ j = .int .i64 q ∧ Hid (RoomI w1 w' w1.heap.size w1.heap.size w2.heap.size R))
      case atStart => exact ⟨0, by omega, rfl, rfl, hcut.out⟩
      case round =>
        obtain ⟨q, hq, rfl, rfl, HJ⟩ := hrel
        by_cases hq2 : q < 2
        rotate_left
        · go_wp2_with fail
          go_roundg (L - (k + 1))
          case measure => omega
          case rel => exact ⟨k + 1, by omega, by omega, by go_num, HJ⟩
        obtain ⟨P', HP'⟩ : ∃ P, Hid (RoomP wr w1.heap.size (fun k => k < w1.heap.size ∨ k = w2.heap.size) w1.heap.size w2.heap.size R P) := by
          obtain ⟨P, h⟩ := HJ.out.1
          exact ⟨P, Lib.hid h⟩
        have k2 : (P'.ws q).row.length ≤ R := by rw [← HP'.out.room]; exact HP'.out.has.ok.row q
        have k1 := HP'.out.has.ok.car q
        have H1q : Hid (1 - (1 - q) = q) := Lib.hid (by omega)
        have hcell := (HP'.out.cell q hq2).1
        cases hs : (P'.ws q).shut
        · rw [hs] at hcell
          have HF : Hid ((P'.free q : Int) = (R : Int) - ((P'.ws q).row.length : Int)) := Lib.hid (by rw [HP'.out.free q hs]; omega)
          clear hs
          go_wp2_with fail
          with_reducible refine (h_flight _ q _ rfl _ HP'.out.has hq2).mono ?_
          rintro x w5 ⟨rfl, n5, rfl⟩
          have HH5 := Lib.hid (HP'.out.has.stay (Stay.drewN wr n5))
          go_wp2_with fail
          with_reducible refine (h_inbox _ (1 - q) _ (by omega) _ HH5.out (by omega)).mono ?_
          rintro x w6 ⟨rfl, rfl⟩
          rw [H1q.out]
          go_wp2_with fail
          with_reducible refine (h_room _ q _ rfl _ HH5.out hq2).mono ?_
          rintro x w6 ⟨rfl, n6, rfl⟩
          rw [HF.out]
          go_wp2_with fail
          go_roundg (2 - (q + 1))
          case measure => omega
          case rel => exact ⟨q + 1, by omega, by omega, by go_num, Lib.hid ⟨⟨P', ⟨HP'.out.has.stay (Stay.drewN wr _), HP'.out.cut, HP'.out.room, HP'.out.row⟩⟩, HJ.out.2.trans (Keep.stay (Stay.drewN wr _))⟩⟩
        · rw [hs] at hcell
          have HF : Hid ((P'.free q : Int) = 0) := Lib.hid (by rw [HP'.out.free0 q hs]; rfl)
          clear hs
          go_wp2_with fail
          with_reducible refine (h_flight _ q _ rfl _ HP'.out.has hq2).mono ?_
          rintro x w5 ⟨rfl, n5, rfl⟩
          have HH5 := Lib.hid (HP'.out.has.stay (Stay.drewN wr n5))
          go_wp2_with fail
          with_reducible refine (h_inbox _ (1 - q) _ (by omega) _ HH5.out (by omega)).mono ?_
          rintro x w6 ⟨rfl, rfl⟩
          rw [H1q.out]
          go_wp2_with fail
          with_reducible refine (h_room _ q _ rfl _ HH5.out hq2).mono ?_
          rintro x w6 ⟨rfl, n6, rfl⟩
          rw [HF.out]
          go_wp2_with fail
          go_roundg (2 - (q + 1))
          case measure => omega
          case rel => exact ⟨q + 1, by omega, by omega, by go_num, Lib.hid ⟨⟨P', ⟨HP'.out.has.stay (Stay.drewN wr _), HP'.out.cut, HP'.out.room, HP'.out.row⟩⟩, HJ.out.2.trans (Keep.stay (Stay.drewN wr _))⟩⟩
end Go.Proofs.YtlceemaannndbaaDoor

/- The document's Get: what it answers. -/
import Derived.Test.YtmhfhdbaeijcfaaDoorRfoe
import Derived.Test.YtmhfhdbaeijcfaaDoorRgm
namespace Go.Proofs.YtmhfhdbaeijcfaaDoor
open Go.RowKit
open Go.Proofs.YtmhfhdbaeijcfaaDoor.H
open List (getElem_toArray getElem_cons_succ getElem_cons_zero setIfInBounds_toArray set_cons_zero set_cons_succ)
/-- What Get answers: the frame of the bytes, or no. -/
def RG (bs : List UInt8) (w : World) (e : Ending) (w' : World) : Prop := ∃ G : Fr, e = .returned (.tuple #[G.v, .bool (getB bs).isSome]) ∧ Hid (Below w.heap.size w w' ∧ G.ok w' w'.heap.size ∧ ((getB bs = none ∧ G = zf 0) ∨ getB bs = some G.pl))
/-- What Get answers, and where its bytes are. -/
def RGy (bs : List UInt8) (w : World) (e : Ending) (w' : World) : Prop := ∃ G : Fr, e = .returned (.tuple #[G.v, .bool (getB bs).isSome]) ∧ Hid (Below w.heap.size w w' ∧ G.ok w' w'.heap.size ∧ ((getB bs = none ∧ G = zf 0) ∨ getB bs = some G.pl) ∧ Yg w G)
theorem RGy.rg {bs : List UInt8} {w w' : World} {e : Ending} (h : RGy bs w e w') : RG bs w e w' := by
  obtain ⟨g, h1, h2⟩ := h
  exact ⟨g, h1, Lib.hid ⟨h2.out.1, h2.out.2.1, h2.out.2.2.1⟩⟩
theorem zf0_ok (w : World) (B : Nat) : (zf 0).ok w B := { kind := (show i64ok 0 from ⟨by decide, by decide⟩), seq := (show i64ok 0 from ⟨by decide, by decide⟩), got := (show i64ok 0 from ⟨by decide, by decide⟩), stream := (show i64ok 0 from ⟨by decide, by decide⟩), amount := (show i64ok 0 from ⟨by decide, by decide⟩), code := (show i64ok 0 from ⟨by decide, by decide⟩), who := Nat.zero_le _, name := Nat.zero_le _, weight := (show 0 < 18446744073709551616 from by decide), cap := Nat.le_refl _, max := (show 0 ≤ 9223372036854775807 from by decide), rd := .inl rfl }
theorem zfk_ok {k : Int} (h0 : 0 ≤ k) (h1 : k ≤ 255) (w : World) (B : Nat) : (zf k).ok w B := { zf0_ok w B with kind := (show i64ok k from ⟨by omega, by omega⟩) }
theorem wrap_in (n : Int) (h0 : -9223372036854775808 ≤ n) (h1 : n ≤ 9223372036854775807) : wrap64 n = n := by unfold wrap64; omega
theorem iwrap_in (n : Int) (h0 : -9223372036854775808 ≤ n) (h1 : n ≤ 9223372036854775807) : IntKind.i64.wrap n = n := by rw [IntKind.wrap_i64]; omega
theorem get_facts {p c n0 n1 n2 : Nat} (h3 : 3 ≤ p) (hp : p ≤ 1020) (hc : p + 4 ≤ c) (hn0 : n0 < 256) (hn1 : n1 < 256) (hn2 : n2 < 256) : (¬ c = p) ∧ (wrap64 (((p + 4 : Nat) : Int) - 4) = (p : Int)) ∧ (wrap64 ((p : Int) + 4 - 4) = (p : Int)) ∧ (wrap64 (n0 : Int) = (n0 : Int)) ∧ (wrap64 (n1 : Int) = (n1 : Int)) ∧ (wrap64 (n2 : Int) = (n2 : Int)) ∧ (wrap64 (256 * (n0 : Int)) = 256 * (n0 : Int)) ∧ (wrap64 (256 * (n0 : Int) + (n1 : Int)) = 256 * (n0 : Int) + (n1 : Int)) ∧ (wrap64 ((p : Int) - 2) = (p : Int) - 2) ∧ (IntKind.i64.wrap (p : Int) = (p : Int)) ∧ (IntKind.i64.wrap (n0 : Int) = (n0 : Int)) ∧ (IntKind.i64.wrap (n1 : Int) = (n1 : Int)) ∧ (IntKind.i64.wrap (n2 : Int) = (n2 : Int)) ∧ (IntKind.i64.wrap (256 * (n0 : Int)) = 256 * (n0 : Int)) ∧ (IntKind.i64.wrap (256 * (n0 : Int) + (n1 : Int)) = 256 * (n0 : Int) + (n1 : Int)) ∧ (IntKind.i64.wrap ((p : Int) - 2) = (p : Int) - 2) ∧ (¬ ((p : Int) + 4 < (p : Int))) ∧ (¬ ((p : Int) + 4 ≤ 0)) ∧ (¬ ((p : Int) + 4 ≤ 1)) ∧ (¬ ((c : Int) < (p : Int))) :=
  ⟨by omega, (wrap_in _ (by omega) (by omega)).trans (by omega), (wrap_in _ (by omega) (by omega)).trans (by omega), wrap_in _ (by omega) (by omega), wrap_in _ (by omega) (by omega), wrap_in _ (by omega) (by omega), wrap_in _ (by omega) (by omega), wrap_in _ (by omega) (by omega), wrap_in _ (by omega) (by omega), iwrap_in _ (by omega) (by omega), iwrap_in _ (by omega) (by omega), iwrap_in _ (by omega) (by omega), iwrap_in _ (by omega) (by omega), iwrap_in _ (by omega) (by omega), iwrap_in _ (by omega) (by omega), iwrap_in _ (by omega) (by omega), by omega, by omega, by omega, by omega⟩
theorem rg_none {bs : List UInt8} {w w' : World} (h : getB bs = none) (hb : Below w.heap.size w w') : RGy bs w (.returned (.tuple #[.agg zeroC.toArray, .bool false])) w' :=
  ⟨zf 0, by rw [h]; rfl, Lib.hid ⟨hb, zf0_ok _ _, .inl ⟨h, rfl⟩, .inl rfl⟩⟩
set_option maxRecDepth 100000 in
set_option maxHeartbeats 4000000 in
theorem rget_size (g n c : Nat) (A : Option Addr) (bs : List UInt8) (w : World) (hn : bs.length = n) (hmax : n ≤ 9223372036854775807) (hb : n < 7 ∨ 1024 < n) :
    Calls Tryd.prog 24 #[.pointer (some ⟨g, 0, none⟩), .slice A n c] w (RGy bs w) := by
  have HM : Hid (getB bs = none) := Lib.hid (getB_span (by rw [hn]; omega))
  clear hn
  have HLZ : Hid ((Tryd.prog.info? 25).map (·.size) = some zeroC.length) := Lib.hid size25
  rcases hb with hb | hb
  · go_enter Tryd.func24, Tryd.ntmps24
    go_wp2_with (first
      | (refine wl_alloc (o := ⟨some 4, _, _, _, _, _⟩) rfl 25 rfl _ _ info25' ?_
         intro w1 HA1 HB1 HZ1)
      | (refine wl_store rfl 25 (.tmp 4) (.tmp 21) rfl w.heap.size _ zeroC rfl rfl rfl 25 _ HA1.out HLZ.out rfl zeroC_one ?_
         intro wz HRz HSz HZz))
    refine bodyPost_ret (v := .tuple #[.agg zeroC.toArray, .bool false]) (results_cell_two Tryd.results24 _ wz w.heap.size 25 zeroC _ _ rfl rfl HRz.out under25.choose_spec rfl HLZ.out) rfl ?_
    exact rg_none HM.out (HB1.out.trans (HSz.out.below (Nat.le_refl _) HB1.out.size))
  · go_enter Tryd.func24, Tryd.ntmps24
    go_wp2_with (first
      | (refine wl_alloc (o := ⟨some 4, _, _, _, _, _⟩) rfl 25 rfl _ _ info25' ?_
         intro w1 HA1 HB1 HZ1)
      | (refine wl_store rfl 25 (.tmp 4) (.tmp 21) rfl w.heap.size _ zeroC rfl rfl rfl 25 _ HA1.out HLZ.out rfl zeroC_one ?_
         intro wz HRz HSz HZz))
    refine bodyPost_ret (v := .tuple #[.agg zeroC.toArray, .bool false]) (results_cell_two Tryd.results24 _ wz w.heap.size 25 zeroC _ _ rfl rfl HRz.out under25.choose_spec rfl HLZ.out) rfl ?_
    exact rg_none HM.out (HB1.out.trans (HSz.out.below (Nat.le_refl _) HB1.out.size))
set_option maxRecDepth 100000 in
set_option maxHeartbeats 8000000 in
theorem rget_in (g p c : Nat) (b : Addr) (bs : List UInt8) (w : World) (hT : Tab w w.heap.size g) (hn : bs.length = p + 4) (h3 : 3 ≤ p) (hp : p ≤ 1020) (hc : p + 4 ≤ c) (hcm : c ≤ 9223372036854775807) (hr : Rd w w.heap.size (some b) (bs.map bv)) :
    Calls Tryd.prog 24 #[.pointer (some ⟨g, 0, none⟩), .slice (some b) (p + 4) c] w (RGy bs w) := by
  have HT := Lib.hid hT
  have HN := Lib.hid hn
  have HR := Lib.hid hr
  have HCM := Lib.hid hcm
  have HCV : H.Shut (covB bs = bs.take p) := ⟨by unfold covB; rw [hn, Nat.add_sub_cancel]⟩
  have HL : Hid ((bs.take p).length = p) := Lib.hid (by rw [List.length_take, hn]; omega)
  have HLZ : Hid ((Tryd.prog.info? 25).map (·.size) = some zeroC.length) := Lib.hid size25
  obtain ⟨x0, HX0⟩ : ∃ x, H.Shut (bs[0]? = some x) := ⟨bs[0]'(by omega), ⟨List.getElem?_eq_getElem (by omega)⟩⟩
  obtain ⟨x1, HX1⟩ : ∃ x, H.Shut (bs[1]? = some x) := ⟨bs[1]'(by omega), ⟨List.getElem?_eq_getElem (by omega)⟩⟩
  obtain ⟨x2, HX2⟩ : ∃ x, H.Shut (bs[2]? = some x) := ⟨bs[2]'(by omega), ⟨List.getElem?_eq_getElem (by omega)⟩⟩
  obtain ⟨n0, HV0⟩ : ∃ n : Nat, H.Shut (x0.toNat = n ∧ n < 256) := ⟨_, ⟨rfl, x0.toNat_lt⟩⟩
  obtain ⟨n1, HV1⟩ : ∃ n : Nat, H.Shut (x1.toNat = n ∧ n < 256) := ⟨_, ⟨rfl, x1.toNat_lt⟩⟩
  obtain ⟨n2, HV2⟩ : ∃ n : Nat, H.Shut (x2.toNat = n ∧ n < 256) := ⟨_, ⟨rfl, x2.toNat_lt⟩⟩
  have hn0 : n0 < 256 := HV0.out.2
  have hn1 : n1 < 256 := HV1.out.2
  have hn2 : n2 < 256 := HV2.out.2
  obtain ⟨D4, HD4⟩ : ∃ s : ByteArray, H.Shut (s = ⟨((digest (bs.take p)).take 4).toArray⟩) := ⟨_, ⟨rfl⟩⟩
  obtain ⟨T4, HT4⟩ : ∃ s : ByteArray, H.Shut (s = ⟨(bs.drop p).toArray⟩) := ⟨_, ⟨rfl⟩⟩
  obtain ⟨hcp, hw4, hw5, hw0, hw1, hw2, hwm, hwa, hwp, hkp, hk0, hk1, hk2, hkm, hka, hkl, hpl, hpi0, hpi1, hpc⟩ := get_facts h3 hp hc hn0 hn1 hn2
  clear hT hn hr
  go_enter Tryd.func24, Tryd.ntmps24
  go_wp2_with (first
    | (refine wl_alloc (o := ⟨some 4, _, _, _, _, _⟩) rfl 25 rfl _ _ info25' ?_
       intro w1 HA1 HB1 HZ1))
  have hz1 : w.heap.size < w1.heap.size := by rw [HZ1.out]; omega
  have HR1 := Lib.hid ((HR.out.below HB1.out).more (Nat.le_of_lt hz1))
  have HT1 := Lib.hid ((HT.out.below HB1.out).more (Nat.le_of_lt hz1))
  have HRT : Hid (Rd w1 w1.heap.size (some b) ((bs.take p).map bv)) := Lib.hid (by rw [List.map_take]; exact HR1.out.take p)
  have HRD : Hid (∀ w', Below w1.heap.size w1 w' → Rd w' w1.heap.size (some (b.add p)) ((bs.drop p).map bv)) := Lib.hid (fun w' hb => by
    rw [List.map_drop]
    have h := (HR1.out.below hb).drop (k := p) (cap := c) (by rw [List.length_map, HN.out]; omega) (by rw [List.length_map, HN.out]; exact hc)
    rw [if_neg hcp] at h
    exact h)
  have HS : Hid (∀ w', Below w1.heap.size w1 w' → w'.cell? b = some (.int .u8 (n0 : Int)) ∧ w'.cell? ⟨b.block, b.off + 1, none⟩ = some (.int .u8 (n1 : Int)) ∧ (convert 23 9 (.slice (some (b.add p)) 4 (c - p))).run Tryd.prog w' = .ok (.string T4) w') := Lib.hid (fun w' hb => by
    refine ⟨?_, ?_, ?_⟩
    · obtain ⟨ad, he, _, hcc⟩ := (HR1.out.below hb).cell (k := 0) (u := bv x0) (by rw [List.getElem?_map, HX0.out]; rfl)
      injection he with he
      subst he
      rw [← HV0.out.1]
      simpa [Addr.add, bv] using hcc
    · obtain ⟨ad, he, _, hcc⟩ := (HR1.out.below hb).cell (k := 1) (u := bv x1) (by rw [List.getElem?_map, HX1.out]; rfl)
      injection he with he
      subst he
      rw [← HV1.out.1]
      simpa [Addr.add, bv] using hcc
    · rw [HT4.out]
      exact (HRD.out w' hb).toStr 4 (c - p) (by rw [List.length_drop, HN.out]; omega))
  have HBD : Hid (Below w1.heap.size w1 w1.drew) := Lib.hid ((Below.refl _ _).drew)
  clear HR1
  refine wp_region_held_drew (S := fun w' => w'.cell? b = some (.int .u8 (n0 : Int)) ∧ w'.cell? ⟨b.block, b.off + 1, none⟩ = some (.int .u8 (n1 : Int)) ∧ (convert 23 9 (.slice (some (b.add p)) 4 (c - p))).run Tryd.prog w' = .ok (.string T4) w') (by kernel_rfl) (HS.out _ HBD.out) (fun hHeld => ?_)
  refine tke 0 (.pointer (some ⟨g, 0, none⟩)) rfl (Or.inl ⟨by kernel_rfl, ?_⟩) ?_
  · (intro w' hSw; (try dsimp only at hSw); go_simp)
  (try simp only [getElem_toArray, getElem_cons_zero, Act.put, setIfInBounds_toArray, set_cons_zero, set_cons_succ])
  refine tke 1 (.slice (some b) p c) rfl (Or.inl ⟨by kernel_rfl, ?_⟩) ?_
  · (intro w' hSw; (try dsimp only at hSw); go_simp)
  (try simp only [getElem_toArray, getElem_cons_succ, getElem_cons_zero, Act.put, setIfInBounds_toArray, set_cons_zero, set_cons_succ])
  refine tke 5 (.slice (some b) (p + 4) c) rfl (Or.inl ⟨by kernel_rfl, ?_⟩) ?_
  · (intro w' hSw; (try dsimp only at hSw); go_simp)
  (try simp only [getElem_toArray, getElem_cons_succ, getElem_cons_zero, Act.put, setIfInBounds_toArray, set_cons_zero, set_cons_succ])
  refine tke 6 (.slice (some b) (p + 4) c) rfl (Or.inl ⟨by kernel_rfl, ?_⟩) ?_
  · (intro w' hSw; (try dsimp only at hSw); go_simp)
  (try simp only [getElem_toArray, getElem_cons_succ, getElem_cons_zero, Act.put, setIfInBounds_toArray, set_cons_zero, set_cons_succ])
  refine tke 7 (.int .i64 ((p : Int) + 4)) rfl (Or.inl ⟨by kernel_rfl, ?_⟩) ?_
  · (intro w' hSw; (try dsimp only at hSw); go_simp)
  (try simp only [getElem_toArray, getElem_cons_succ, getElem_cons_zero, Act.put, setIfInBounds_toArray, set_cons_zero, set_cons_succ])
  refine tke 8 (.int .i64 (p : Int)) rfl (Or.inl ⟨by kernel_rfl, ?_⟩) ?_
  · (intro w' hSw; (try dsimp only at hSw); go_simp)
  (try simp only [getElem_toArray, getElem_cons_succ, getElem_cons_zero, Act.put, setIfInBounds_toArray, set_cons_zero, set_cons_succ])
  refine tke 9 (.slice (some (b.add p)) 4 (c - p)) rfl (Or.inl ⟨by kernel_rfl, ?_⟩) ?_
  · (intro w' hSw; (try dsimp only at hSw); go_simp)
  (try simp only [getElem_toArray, getElem_cons_succ, getElem_cons_zero, Act.put, setIfInBounds_toArray, set_cons_zero, set_cons_succ])
  refine tke 10 (.string T4) rfl (Or.inl ⟨by kernel_rfl, ?_⟩) ?_
  · (intro w' hSw; (try dsimp only at hSw); go_simp)
  (try simp only [getElem_toArray, getElem_cons_succ, getElem_cons_zero, Act.put, setIfInBounds_toArray, set_cons_zero, set_cons_succ])
  refine wpAnyH_ready (rs := [2]) (by kernel_rfl) (by simp) ?_
  refine AllReadyH.cons rfl (fun K hK => ?_) AllReadyH.nil
  go_simp
  have HTd : Hid (Tab w1.drew w1.drew.heap.size g) := Lib.hid ((HT1.out.below HBD.out).more HBD.out.size)
  have HRTd : Hid (Rd w1.drew w1.drew.heap.size (some b) ((bs.take p).map bv)) := Lib.hid ((HRT.out.below HBD.out).more HBD.out.size)
  with_reducible refine (rdigest_any g p c (some b) (bs.take p) w1.drew HTd.out HL.out (by omega) HRTd.out).mono ?_
  rintro e w2 ⟨v2, rfl, HV⟩
  obtain ⟨A2, c2, rfl, hb2, hc2, hcm2, hr2, _⟩ := own_slice HV.out.1
  have HB12 : Hid (Below w1.heap.size w1 w2) := Lib.hid (HBD.out.trans (HV.out.2.mono HBD.out.size))
  have hcv2 : (convert 23 9 (.slice A2 4 c2)).run Tryd.prog w2 = .ok (.string D4) w2 := by
    rw [HD4.out]
    have h : Rd w2 w2.heap.size A2 (((digest (bs.take p)).take 4).map bv) := by rw [List.map_take]; exact hr2.take 4
    exact h.toStr 4 c2 (by rw [List.length_take, digest_length]; rfl)
  have h4c : 4 ≤ c2 := by omega
  have h4i : (4 : Int) ≤ (c2 : Int) := by omega
  refine hK.out _ _ (HS.out _ HB12.out) (fun hHeld => ?_)
  clear hK K HV hr2 hb2 hc2
  (try simp only [getElem_toArray, getElem_cons_succ, getElem_cons_zero, Act.put, setIfInBounds_toArray, set_cons_zero, set_cons_succ])
  refine tke 3 (.slice A2 4 c2) rfl (Or.inl ⟨by kernel_rfl, ?_⟩) ?_
  · (intro w' hSw; (try dsimp only at hSw); go_simp)
  (try simp only [getElem_toArray, getElem_cons_succ, getElem_cons_zero, Act.put, setIfInBounds_toArray, set_cons_zero, set_cons_succ])
  refine wpAnyH_ready (rs := [4]) (by kernel_rfl) (by simp) ?_
  refine AllReadyH.cons rfl (fun K hK => ?_) AllReadyH.nil
  go_simp
  refine hK.out _ _ (HS.out _ HB12.out) (fun hHeld => ?_)
  clear hK K
  (try simp only [getElem_toArray, getElem_cons_succ, getElem_cons_zero, Act.put, setIfInBounds_toArray, set_cons_zero, set_cons_succ])
  have HB2 := Lib.hid (HB1.out.trans (HB12.out.mono (Nat.le_of_lt hz1)))
  have HA2 := Lib.hid (HA1.out.below HB12.out hz1)
  have hz2 : w1.heap.size ≤ w2.heap.size := HB12.out.size
  have HR2 : Hid (Rd w2 w2.heap.size (some b) (bs.map bv)) := Lib.hid ((HR.out.below HB2.out).more HB2.out.size)
  clear hcv2 HTd HRTd HS HRD HRT HT1 HA1 HB1 HZ1 HBD
  by_cases hq : D4 = T4
  · subst hq
    have HSE : Hid ((digest (covB bs)).take 4 = bs.drop (bs.length - 4)) := Lib.hid (by
      rw [HCV.out, HN.out, Nat.add_sub_cancel]
      have h := HD4.out.symm.trans HT4.out
      simpa using h)
    have HKO : Hid (kindOf bs = (n2 : Int)) := Lib.hid (by
      unfold kindOf
      rw [List.getD_eq_getElem?_getD, HX2.out, ← HV2.out.1]
      rfl)
    have HLE : Hid (256 * ((bs.getD 0 0).toNat : Int) + ((bs.getD 1 0).toNat : Int) = 256 * (n0 : Int) + (n1 : Int)) := Lib.hid (by
      rw [List.getD_eq_getElem?_getD, List.getD_eq_getElem?_getD, HX0.out, HX1.out, ← HV0.out.1, ← HV1.out.1]
      rfl)
    refine tke 11 (.bool false) rfl (Or.inl ⟨by kernel_rfl, ?_⟩) ?_
    · (intro w' hSw; (try dsimp only at hSw); go_simp)
    (try simp only [getElem_toArray, getElem_cons_succ, getElem_cons_zero, Act.put, setIfInBounds_toArray, set_cons_zero, set_cons_succ])
    refine tke 12 (.bool false) rfl (Or.inl ⟨by kernel_rfl, ?_⟩) ?_
    · (intro w' hSw; (try dsimp only at hSw); go_simp)
    (try simp only [getElem_toArray, getElem_cons_succ, getElem_cons_zero, Act.put, setIfInBounds_toArray, set_cons_zero, set_cons_succ])
    refine tke 13 (.slice (some b) (p + 4) c) rfl (Or.inl ⟨by kernel_rfl, ?_⟩) ?_
    · (intro w' hSw; (try dsimp only at hSw); go_simp)
    (try simp only [getElem_toArray, getElem_cons_succ, getElem_cons_zero, Act.put, setIfInBounds_toArray, set_cons_zero, set_cons_succ])
    refine tke 14 (.pointer (some b)) rfl (Or.inl ⟨by kernel_rfl, ?_⟩) ?_
    · (intro w' hSw; (try dsimp only at hSw); go_simp)
    (try simp only [getElem_toArray, getElem_cons_succ, getElem_cons_zero, Act.put, setIfInBounds_toArray, set_cons_zero, set_cons_succ])
    refine tke 15 (.int .u8 (n0 : Int)) rfl (Or.inl ⟨by kernel_rfl, ?_⟩) ?_
    · (intro w' hSw; (try dsimp only at hSw); go_simp)
    (try simp only [getElem_toArray, getElem_cons_succ, getElem_cons_zero, Act.put, setIfInBounds_toArray, set_cons_zero, set_cons_succ])
    refine tke 16 (.int .i64 (n0 : Int)) rfl (Or.inl ⟨by kernel_rfl, ?_⟩) ?_
    · (intro w' hSw; (try dsimp only at hSw); go_simp)
    (try simp only [getElem_toArray, getElem_cons_succ, getElem_cons_zero, Act.put, setIfInBounds_toArray, set_cons_zero, set_cons_succ])
    refine tke 17 (.int .i64 (256 * (n0 : Int))) rfl (Or.inl ⟨by kernel_rfl, ?_⟩) ?_
    · (intro w' hSw; (try dsimp only at hSw); go_simp)
    (try simp only [getElem_toArray, getElem_cons_succ, getElem_cons_zero, Act.put, setIfInBounds_toArray, set_cons_zero, set_cons_succ])
    refine tke 18 (.slice (some b) (p + 4) c) rfl (Or.inl ⟨by kernel_rfl, ?_⟩) ?_
    · (intro w' hSw; (try dsimp only at hSw); go_simp)
    (try simp only [getElem_toArray, getElem_cons_succ, getElem_cons_zero, Act.put, setIfInBounds_toArray, set_cons_zero, set_cons_succ])
    refine tke 19 (.pointer (some ⟨b.block, b.off + 1, none⟩)) rfl (Or.inl ⟨by kernel_rfl, ?_⟩) ?_
    · (intro w' hSw; (try dsimp only at hSw); go_simp)
    (try simp only [getElem_toArray, getElem_cons_succ, getElem_cons_zero, Act.put, setIfInBounds_toArray, set_cons_zero, set_cons_succ])
    refine tke 20 (.int .u8 (n1 : Int)) rfl (Or.inl ⟨by kernel_rfl, ?_⟩) ?_
    · (intro w' hSw; (try dsimp only at hSw); go_simp)
    (try simp only [getElem_toArray, getElem_cons_succ, getElem_cons_zero, Act.put, setIfInBounds_toArray, set_cons_zero, set_cons_succ])
    refine tke 21 (.int .i64 (n1 : Int)) rfl (Or.inl ⟨by kernel_rfl, ?_⟩) ?_
    · (intro w' hSw; (try dsimp only at hSw); go_simp)
    (try simp only [getElem_toArray, getElem_cons_succ, getElem_cons_zero, Act.put, setIfInBounds_toArray, set_cons_zero, set_cons_succ])
    refine tke 22 (.int .i64 (256 * (n0 : Int) + (n1 : Int))) rfl (Or.inl ⟨by kernel_rfl, ?_⟩) ?_
    · (intro w' hSw; (try dsimp only at hSw); go_simp)
    (try simp only [getElem_toArray, getElem_cons_succ, getElem_cons_zero, Act.put, setIfInBounds_toArray, set_cons_zero, set_cons_succ])
    refine tke 23 (.slice (some b) p c) rfl (Or.inl ⟨by kernel_rfl, ?_⟩) ?_
    · (intro w' hSw; (try dsimp only at hSw); go_simp)
    (try simp only [getElem_toArray, getElem_cons_succ, getElem_cons_zero, Act.put, setIfInBounds_toArray, set_cons_zero, set_cons_succ])
    refine tke 24 (.int .i64 (p : Int)) rfl (Or.inl ⟨by kernel_rfl, ?_⟩) ?_
    · (intro w' hSw; (try dsimp only at hSw); go_simp)
    (try simp only [getElem_toArray, getElem_cons_succ, getElem_cons_zero, Act.put, setIfInBounds_toArray, set_cons_zero, set_cons_succ])
    refine tke 25 (.int .i64 ((p : Int) - 2)) rfl (Or.inl ⟨by kernel_rfl, ?_⟩) ?_
    · (intro w' hSw; (try dsimp only at hSw); go_simp)
    (try simp only [getElem_toArray, getElem_cons_succ, getElem_cons_zero, Act.put, setIfInBounds_toArray, set_cons_zero, set_cons_succ])
    by_cases hle : 256 * (n0 : Int) + (n1 : Int) = (p : Int) - 2
    · have HLQ := Lib.hid hle
      have hle1 : (256 * (n0 : Int) + (n1 : Int) == (p : Int) - 2) = true := by simpa using hle
      have hle2 : (256 * (n0 : Int) + (n1 : Int) != (p : Int) - 2) = false := by simpa using hle
      refine tke 26 (.bool false) rfl (Or.inl ⟨by kernel_rfl, ?_⟩) ?_
      · (intro w' hSw; (try dsimp only at hSw); go_simp)
      (try simp only [getElem_toArray, getElem_cons_succ, getElem_cons_zero, Act.put, setIfInBounds_toArray, set_cons_zero, set_cons_succ])
      refine tke 27 (.bool false) rfl (Or.inl ⟨by kernel_rfl, ?_⟩) ?_
      · (intro w' hSw; (try dsimp only at hSw); go_simp)
      (try simp only [getElem_toArray, getElem_cons_succ, getElem_cons_zero, Act.put, setIfInBounds_toArray, set_cons_zero, set_cons_succ])
      refine wpAnyH_done (by kernel_rfl) ?_ _
      (try simp only [getElem_toArray, getElem_cons_succ, getElem_cons_zero, Act.put, setIfInBounds_toArray, set_cons_zero, set_cons_succ])
      clear hHeld hle hle1 hle2 hk0 hk1 hkm hka hw0 hw1 hwm hwa
      have cx : w2.cell? ⟨b.block, b.off + 2, none⟩ = some (.int .u8 (n2 : Int)) := by
        obtain ⟨ad, he, _, hcc⟩ := HR2.out.cell (k := 2) (u := bv x2) (by rw [List.getElem?_map, HX2.out]; rfl)
        injection he with he
        subst he
        rw [← HV2.out.1]
        simpa [Addr.add, bv] using hcc
      obtain ⟨s, HS⟩ : ∃ s : ByteArray, H.Shut (s = ⟨(layL (n2 : Int)).toArray⟩) := ⟨_, ⟨rfl⟩⟩
      have HSD : Hid (s.data.toList = layL (n2 : Int)) := Lib.hid (by rw [HS.out])
      obtain ⟨kk, HKK⟩ : ∃ kk, H.Shut ((used (n2 : Int)).length = kk) := ⟨_, ⟨rfl⟩⟩
      have HRC : Hid (∀ w : World, Calls Tryd.prog 16 #[.agg #[.int .i64 (n2 : Int), .int .i64 0, .int .i64 0, .int .i64 0, .int .i64 0, .int .i64 0, .string ⟨#[]⟩, .string ⟨#[]⟩, .float .f64 0, .slice none 0 0]] w fun e w' => ∃ A, e = .returned (.tuple #[.string s, .slice A kk kk]) ∧ Hid (Below w.heap.size w w')) := Lib.hid (fun w => by
        have h := rcells_every (zf (n2 : Int)) w (zf (n2 : Int)).v (Lib.hid rfl) (zfk_ok (by omega) (by omega) _ _)
        have e1 : (⟨(layL (zf (n2 : Int)).kind).toArray⟩ : ByteArray) = s := HS.out.symm
        have e2 : (used (zf (n2 : Int)).kind).length = kk := HKK.out
        rw [e1, e2] at h
        exact h.mono fun e w' ⟨A, h1, h2⟩ => ⟨A, h1, Lib.hid h2.out.2⟩)
      have hp2 : (2 : Int) < (p : Int) := by omega
      have hp2n : 2 < p := by omega
      go_wp2_with fail
      with_reducible refine (HRC.out w2).mono ?_
      rintro e w3 ⟨A3, rfl, HVc⟩
      have HB3 := Lib.hid (HB2.out.trans (HVc.out.mono HB2.out.size))
      have HA3 := Lib.hid (HA2.out.below HVc.out (by omega))
      have hz3 : w2.heap.size ≤ w3.heap.size := HVc.out.size
      have HR3 : Hid (Rd w3 w3.heap.size (some ⟨b.block, b.off + 3, none⟩) (((bs.take p).drop 3).map bv)) := Lib.hid (by
        have h := (((HR2.out.below HVc.out).more hz3).take p).drop (k := 3) (cap := c) (by rw [List.length_take, List.length_map, HN.out]; omega) (by rw [List.length_take, List.length_map, HN.out]; omega)
        rw [if_neg (by omega), ← List.map_take, ← List.map_drop] at h
        exact h)
      clear HVc cx HR2 HRC HA2
      have hp3 : (3 : Int) ≤ (p : Int) := by omega
      have hc3 : ¬ c = 3 := by omega
      have hp3l : ¬ ((p : Int) < 3) := by omega
      go_wp2_with fail
      have HKN : Hid (F.kn s.data.toList = true) := Lib.hid (by rw [HSD.out]; exact (F.kn_cons (c := 98) (kn_body (n2 : Int))).2)
      have HSZ : Hid (s.size ≤ 9) := Lib.hid (by
        have h1 : s.size = s.data.toList.length := by simp
        rw [h1, HSD.out]
        simp [layL]
        exact used_len _)
      have HRF3 : Hid (F.Rd w3 w3.heap.size (some ⟨b.block, b.off + 3, none⟩) (((bs.take p).drop 3).map F.bv)) := HR3
      with_reducible refine (F.rdecode_known s (p - 3) (c - 3) (some ⟨b.block, b.off + 3, none⟩) ((bs.take p).drop 3) w3 (by have := HSZ.out; omega) (by rw [List.length_drop, HL.out]) (by simp only [maxLen]; omega) (by omega) HRF3.out HKN.out).mono ?_
      rintro e w4 ⟨v4, j4, rfl, HVd⟩
      have HB4 := Lib.hid (HB3.out.trans (HVd.out.2.mono HB3.out.size))
      have HA4 := Lib.hid (HA3.out.below HVd.out.2 (by omega))
      have hz4 : w3.heap.size ≤ w4.heap.size := HVd.out.2.size
      clear HR3 HRF3 HA3
      by_cases hU : used (n2 : Int) = []
      · have HM : Hid (getB bs = none) := Lib.hid (getB_nokind (by rw [HN.out]; omega) (by rw [HKO.out]; exact hU))
        have hs0 : s = ⟨#[]⟩ := by rw [HS.out]; unfold layL; rw [hU]; rfl
        clear hU HVd
        subst hs0
        go_wp2_with (first
          | (refine wl_store rfl 25 (.tmp 4) (.tmp 79) rfl w.heap.size _ zeroC rfl rfl rfl 25 _ HA4.out HLZ.out rfl zeroC_one ?_
             intro wz HRz HSz HZz))
        refine bodyPost_ret (v := .tuple #[.agg zeroC.toArray, .bool false]) (results_cell_two Tryd.results24 _ wz w.heap.size 25 zeroC _ _ rfl rfl HRz.out under25.choose_spec rfl HLZ.out) rfl ?_
        exact rg_none HM.out (HB4.out.trans (HSz.out.below (Nat.le_refl _) HB4.out.size))
      · have HU := Lib.hid hU
        have hsn : (s.toList == (⟨#[]⟩ : ByteArray).toList) = false := toList_ne (by
          intro e
          have h1 := HSD.out
          rw [e] at h1
          have h2 : (layL (n2 : Int)).length = 0 := by rw [← h1]; rfl
          unfold layL at h2
          rw [List.length_map] at h2
          exact hU (List.eq_nil_of_length_eq_zero h2))
        have hsn2 : ¬ s.toList = [] := by simpa using hsn
        have hsn3 : s.toList.isEmpty = false := by rw [List.isEmpty_eq_false_iff]; exact hsn2
        clear hU
        have HDC : H.Shut ((bs.take p).drop 3 = (covB bs).drop 3) := ⟨by rw [HCV.out]⟩
        cases hdec : F.decS s.data.toList ((bs.take p).drop 3) with
        | error q =>
          rw [hdec] at HVd
          have HM : Hid (getB bs = none) := Lib.hid (getB_left (e := q) (by rw [HN.out]; omega) (by rw [HKO.out, ← HSD.out, ← HDC.out]; exact hdec))
          obtain ⟨⟨rfl, hj⟩, _⟩ := HVd.out
          have hj0 : ¬ j4 = 0 := by rw [hj]; unfold F.numOf; omega
          have hj1 : (j4 != 0) = true := by simpa using hj0
          clear hj hdec HVd
          go_wp2_with (first
            | (refine wl_store rfl 25 (.tmp 4) (.tmp 79) rfl w.heap.size _ zeroC rfl rfl rfl 25 _ HA4.out HLZ.out rfl zeroC_one ?_
               intro wz HRz HSz HZz))
          refine bodyPost_ret (v := .tuple #[.agg zeroC.toArray, .bool false]) (results_cell_two Tryd.results24 _ wz w.heap.size 25 zeroC _ _ rfl rfl HRz.out under25.choose_spec rfl HLZ.out) rfl ?_
          exact rg_none HM.out (HB4.out.trans (HSz.out.below (Nat.le_refl _) HB4.out.size))
        | ok cs =>
          rw [hdec] at HVd
          obtain ⟨⟨hj, hown⟩, _⟩ := HVd.out
          subst hj
          have hmx : ((bs.take p).drop 3).length ≤ maxLen := by rw [List.length_drop, HL.out]; simp only [maxLen]; omega
          obtain ⟨hcl, _, _, hcok⟩ := F.enc_dec HKN.out hmx hdec
          have HDE : Hid (F.decS (layL (kindOf bs)) ((covB bs).drop 3) = .ok cs) := Lib.hid (by rw [HKO.out, ← HSD.out, ← HDC.out]; exact hdec)
          have HCL : Hid (cs.length = (used (n2 : Int)).length) := Lib.hid (by rw [hcl, HSD.out]; unfold layL; rw [List.length_map])
          obtain ⟨A4, c4, rfl, _, hc4, hcs4⟩ := F.own_rcells hown
          have HRK : Hid (Calls Tryd.prog 52 #[.int .i64 (n2 : Int), .slice A4 cs.length c4] w4 (RKy (n2 : Int) cs w4)) := Lib.hid (by
            have h := rkindy_every (n2 : Int) A4 c4 cs w4 HU.out HCL.out hcs4 hcok
            rw [← HCL.out] at h
            exact h)
          obtain ⟨m4, HM4⟩ : ∃ m, H.Shut (cs.length = m) := ⟨_, ⟨rfl⟩⟩
          rw [HM4.out] at HRK hc4
          rw [HM4.out]
          clear hdec HVd hown hmx hcl hcok hcs4
          go_wp2_with fail
          with_reducible refine HRK.out.mono ?_
          rintro e w5 ⟨G, rfl, HVG⟩
          obtain ⟨gv, HGV⟩ : ∃ gv, H.Shut (G.v = gv) := ⟨_, ⟨rfl⟩⟩
          rw [HGV.out]
          have HGA : Hid (gv = .agg (G.cells G.bs.length).toArray) := Lib.hid HGV.out.symm
          have HB5 := Lib.hid (HB4.out.trans (HVG.out.2.2.1.mono HB4.out.size))
          have HA5 := Lib.hid (HA4.out.below HVG.out.2.2.1 (by omega))
          have hz5 : w4.heap.size ≤ w5.heap.size := HVG.out.2.2.1.size
          have HG5 : Hid (G.ok w5 w5.heap.size) := Lib.hid HVG.out.2.1
          have HGP : Hid (G.pl = fill (zf (n2 : Int)) (used (n2 : Int)) cs) := Lib.hid HVG.out.1
          have HYG : Hid (Yg w G) := Lib.hid (HVG.out.2.2.2.mono HB4.out.size)
          have HLA : Hid ((Tryd.prog.info? 25).map (·.size) = some (G.cells G.bs.length).length) := Lib.hid size25
          clear HVG HRK
          go_wp2_with (first
            | (refine H.wl_allocAt rfl 25 rfl 12 rfl _ _ info25' ?_
               intro w6 HA6 HB6 HZ6
               have hz6 : w5.heap.size < w6.heap.size := by rw [HZ6.out]; omega)
            | (refine wl_store rfl 25 (.tmp 12) (.tmp 82) rfl w5.heap.size _ (G.cells G.bs.length) rfl HGA.out rfl 25 _ HA6.out HLA.out rfl (cells_ok G _) ?_
               intro w7 HR7 HS7 HZ7)
            | (refine wl_load rfl 25 (.tmp 12) rfl w5.heap.size rfl 25 _ _ HR7.out under25.choose_spec rfl size25 ?_
               intro vq HVQ))
          have hb57 : Below w5.heap.size w5 w7 := HB6.out.trans (HS7.out.below (Nat.le_refl _) (by omega))
          have HB7 := Lib.hid (HB5.out.trans (hb57.mono HB5.out.size))
          have HA7 := Lib.hid (HA5.out.below hb57 (by omega))
          have hz7 : w6.heap.size = w7.heap.size := HZ7.out.symm
          have HG7 : Hid (G.ok w7 w7.heap.size) := Lib.hid ((HG5.out.below hb57).more hb57.size)
          have HFM : Hid (getB bs = if valid (fill (zf (n2 : Int)) (used (n2 : Int)) cs) = true then some (fill (zf (n2 : Int)) (used (n2 : Int)) cs) else none) := Lib.hid (by
            have h := getB_form (by rw [HN.out]; omega) (by rw [HN.out]; omega) HSE.out (by rw [HLE.out, HLQ.out, HN.out, Nat.add_sub_cancel]) HDE.out
            rw [HKO.out] at h
            exact h)
          rw [← HGP.out, valid_pl] at HFM
          clear hb57 HA5 HA6 HB6 HZ6 HS7 HZ7
          have HRM : Hid (∀ (w : World) (v : Value), Hid (v = G.v) → G.ok w w.heap.size → Calls Tryd.prog 42 #[v] w fun e w' => e = .returned (.bool (valid G)) ∧ Hid (Below w.heap.size w w')) := Lib.hid (rform_every G)
          have HVQ2 : Hid (vq = G.v) := HVQ
          with_reducible refine (HRM.out w7 vq HVQ2 HG7.out).mono ?_
          rintro e w8 ⟨rfl, HVf⟩
          have HB8 := Lib.hid (HB7.out.trans (HVf.out.mono HB7.out.size))
          have HA8 := Lib.hid (HA7.out.below HVf.out (by omega))
          have HR8 := Lib.hid (HR7.out.below HVf.out (by omega))
          have hz8 : w7.heap.size ≤ w8.heap.size := HVf.out.size
          have HG8 : Hid (G.ok w8 w8.heap.size) := Lib.hid ((HG7.out.below HVf.out).more HVf.out.size)
          clear HVf HVQ HVQ2 HRM HR7 HA7
          cases hv : valid G with
          | false =>
            have HM : Hid (getB bs = none) := Lib.hid (by rw [HFM.out, hv]; rfl)
            clear hv
            go_wp2_with (first
              | (refine wl_store rfl 25 (.tmp 4) (.tmp 86) rfl w.heap.size _ zeroC rfl rfl rfl 25 _ HA8.out HLZ.out rfl zeroC_one ?_
                 intro wz HRz HSz HZz))
            refine bodyPost_ret (v := .tuple #[.agg zeroC.toArray, .bool false]) (results_cell_two Tryd.results24 _ wz w.heap.size 25 zeroC _ _ rfl rfl HRz.out under25.choose_spec rfl HLZ.out) rfl ?_
            exact rg_none HM.out (HB8.out.trans (HSz.out.below (Nat.le_refl _) HB8.out.size))
          | true =>
            have HM : Hid (getB bs = some G.pl) := Lib.hid (by rw [HFM.out, hv]; rfl)
            clear hv
            go_wp2_with (first
              | (refine wl_load rfl 25 (.tmp 12) rfl w5.heap.size rfl 25 _ _ HR8.out under25.choose_spec rfl size25 ?_
                 intro vr HVR)
              | (refine wl_store rfl 25 (.tmp 4) (.tmp 87) rfl w.heap.size _ (G.cells G.bs.length) rfl HVR.out rfl 25 _ HA8.out HLA.out rfl (cells_ok G _) ?_
                 intro w9 HR9 HS9 HZ9))
            refine bodyPost_ret (v := .tuple #[.agg (G.cells G.bs.length).toArray, .bool true]) (results_cell_two Tryd.results24 _ w9 w.heap.size 25 (G.cells G.bs.length) _ _ rfl rfl HR9.out under25.choose_spec rfl HLA.out) rfl ?_
            refine ⟨G, by rw [HM.out]; rfl, Lib.hid ⟨HB8.out.trans (HS9.out.below (Nat.le_refl _) HB8.out.size), ?_, .inr HM.out, HYG.out⟩⟩
            refine { HG8.out with rd := ?_ }
            rw [show w9.heap.size = w8.heap.size from HZ9.out]
            exact rd_sole_row HG8.out HR8.out HA8.out HS9.out
    · have HM : Hid (getB bs = none) := Lib.hid (getB_short (by rw [HN.out]; omega) (by rw [HLE.out, HN.out, Nat.add_sub_cancel]; exact hle))
      have hle1 : (256 * (n0 : Int) + (n1 : Int) == (p : Int) - 2) = false := by simpa using hle
      have hle2 : (256 * (n0 : Int) + (n1 : Int) != (p : Int) - 2) = true := by simpa using hle
      refine tke 26 (.bool true) rfl (Or.inl ⟨by kernel_rfl, ?_⟩) ?_
      · (intro w' hSw; (try dsimp only at hSw); go_simp)
      (try simp only [getElem_toArray, getElem_cons_succ, getElem_cons_zero, Act.put, setIfInBounds_toArray, set_cons_zero, set_cons_succ])
      refine tke 27 (.bool true) rfl (Or.inl ⟨by kernel_rfl, ?_⟩) ?_
      · (intro w' hSw; (try dsimp only at hSw); go_simp)
      (try simp only [getElem_toArray, getElem_cons_succ, getElem_cons_zero, Act.put, setIfInBounds_toArray, set_cons_zero, set_cons_succ])
      refine wpAnyH_done (by kernel_rfl) ?_ _
      (try simp only [getElem_toArray, getElem_cons_succ, getElem_cons_zero, Act.put, setIfInBounds_toArray, set_cons_zero, set_cons_succ])
      clear hHeld
      go_wp2_with (first
        | (refine wl_store rfl 25 (.tmp 4) (.tmp 55) rfl w.heap.size _ zeroC rfl rfl rfl 25 _ HA2.out HLZ.out rfl zeroC_one ?_
           intro wz HRz HSz HZz))
      refine bodyPost_ret (v := .tuple #[.agg zeroC.toArray, .bool false]) (results_cell_two Tryd.results24 _ wz w.heap.size 25 zeroC _ _ rfl rfl HRz.out under25.choose_spec rfl HLZ.out) rfl ?_
      exact rg_none HM.out (HB2.out.trans (HSz.out.below (Nat.le_refl _) HB2.out.size))
  · have HM : Hid (getB bs = none) := Lib.hid (getB_seal (by rw [HN.out]; omega) (fun h => hq (by
      rw [HD4.out, HT4.out]
      rw [HCV.out, HN.out, Nat.add_sub_cancel] at h
      rw [h])))
    have hql : (D4.toList == T4.toList) = false := toList_ne hq
    refine tke 11 (.bool true) rfl (Or.inl ⟨by kernel_rfl, ?_⟩) ?_
    · (intro w' hSw; (try dsimp only at hSw); go_simp)
    (try simp only [getElem_toArray, getElem_cons_succ, getElem_cons_zero, Act.put, setIfInBounds_toArray, set_cons_zero, set_cons_succ])
    refine tke 12 (.bool true) rfl (Or.inl ⟨by kernel_rfl, ?_⟩) ?_
    · (intro w' hSw; (try dsimp only at hSw); go_simp)
    (try simp only [getElem_toArray, getElem_cons_succ, getElem_cons_zero, Act.put, setIfInBounds_toArray, set_cons_zero, set_cons_succ])
    refine tke 13 (undef) rfl (Or.inr ⟨by kernel_rfl, rfl⟩) ?_
    (try simp only [getElem_toArray, getElem_cons_succ, getElem_cons_zero, Act.put, setIfInBounds_toArray, set_cons_zero, set_cons_succ])
    refine tke 14 (undef) rfl (Or.inr ⟨by kernel_rfl, rfl⟩) ?_
    (try simp only [getElem_toArray, getElem_cons_succ, getElem_cons_zero, Act.put, setIfInBounds_toArray, set_cons_zero, set_cons_succ])
    refine tke 15 (undef) rfl (Or.inr ⟨by kernel_rfl, rfl⟩) ?_
    (try simp only [getElem_toArray, getElem_cons_succ, getElem_cons_zero, Act.put, setIfInBounds_toArray, set_cons_zero, set_cons_succ])
    refine tke 16 (undef) rfl (Or.inr ⟨by kernel_rfl, rfl⟩) ?_
    (try simp only [getElem_toArray, getElem_cons_succ, getElem_cons_zero, Act.put, setIfInBounds_toArray, set_cons_zero, set_cons_succ])
    refine tke 17 (undef) rfl (Or.inr ⟨by kernel_rfl, rfl⟩) ?_
    (try simp only [getElem_toArray, getElem_cons_succ, getElem_cons_zero, Act.put, setIfInBounds_toArray, set_cons_zero, set_cons_succ])
    refine tke 18 (undef) rfl (Or.inr ⟨by kernel_rfl, rfl⟩) ?_
    (try simp only [getElem_toArray, getElem_cons_succ, getElem_cons_zero, Act.put, setIfInBounds_toArray, set_cons_zero, set_cons_succ])
    refine tke 19 (undef) rfl (Or.inr ⟨by kernel_rfl, rfl⟩) ?_
    (try simp only [getElem_toArray, getElem_cons_succ, getElem_cons_zero, Act.put, setIfInBounds_toArray, set_cons_zero, set_cons_succ])
    refine tke 20 (undef) rfl (Or.inr ⟨by kernel_rfl, rfl⟩) ?_
    (try simp only [getElem_toArray, getElem_cons_succ, getElem_cons_zero, Act.put, setIfInBounds_toArray, set_cons_zero, set_cons_succ])
    refine tke 21 (undef) rfl (Or.inr ⟨by kernel_rfl, rfl⟩) ?_
    (try simp only [getElem_toArray, getElem_cons_succ, getElem_cons_zero, Act.put, setIfInBounds_toArray, set_cons_zero, set_cons_succ])
    refine tke 22 (undef) rfl (Or.inr ⟨by kernel_rfl, rfl⟩) ?_
    (try simp only [getElem_toArray, getElem_cons_succ, getElem_cons_zero, Act.put, setIfInBounds_toArray, set_cons_zero, set_cons_succ])
    refine tke 23 (undef) rfl (Or.inr ⟨by kernel_rfl, rfl⟩) ?_
    (try simp only [getElem_toArray, getElem_cons_succ, getElem_cons_zero, Act.put, setIfInBounds_toArray, set_cons_zero, set_cons_succ])
    refine tke 24 (undef) rfl (Or.inr ⟨by kernel_rfl, rfl⟩) ?_
    (try simp only [getElem_toArray, getElem_cons_succ, getElem_cons_zero, Act.put, setIfInBounds_toArray, set_cons_zero, set_cons_succ])
    refine tke 25 (undef) rfl (Or.inr ⟨by kernel_rfl, rfl⟩) ?_
    (try simp only [getElem_toArray, getElem_cons_succ, getElem_cons_zero, Act.put, setIfInBounds_toArray, set_cons_zero, set_cons_succ])
    refine tke 26 (undef) rfl (Or.inr ⟨by kernel_rfl, rfl⟩) ?_
    (try simp only [getElem_toArray, getElem_cons_succ, getElem_cons_zero, Act.put, setIfInBounds_toArray, set_cons_zero, set_cons_succ])
    refine tke 27 (.bool true) rfl (Or.inl ⟨by kernel_rfl, ?_⟩) ?_
    · (intro w' hSw; (try dsimp only at hSw); go_simp)
    (try simp only [getElem_toArray, getElem_cons_succ, getElem_cons_zero, Act.put, setIfInBounds_toArray, set_cons_zero, set_cons_succ])
    refine wpAnyH_done (by kernel_rfl) ?_ _
    (try simp only [getElem_toArray, getElem_cons_succ, getElem_cons_zero, Act.put, setIfInBounds_toArray, set_cons_zero, set_cons_succ])
    clear hHeld
    go_wp2_with (first
      | (refine wl_store rfl 25 (.tmp 4) (.tmp 55) rfl w.heap.size _ zeroC rfl rfl rfl 25 _ HA2.out HLZ.out rfl zeroC_one ?_
         intro wz HRz HSz HZz))
    refine bodyPost_ret (v := .tuple #[.agg zeroC.toArray, .bool false]) (results_cell_two Tryd.results24 _ wz w.heap.size 25 zeroC _ _ rfl rfl HRz.out under25.choose_spec rfl HLZ.out) rfl ?_
    exact rg_none HM.out (HB2.out.trans (HSz.out.below (Nat.le_refl _) HB2.out.size))
/-- What the document's Get answers, for all bytes. -/
theorem rgety_any (g n c : Nat) (A : Option Addr) (bs : List UInt8) (w : World) (hT : Tab w w.heap.size g) (hn : bs.length = n) (hc : n ≤ c) (hcm : c ≤ 9223372036854775807) (hr : Rd w w.heap.size A (bs.map bv)) :
    Calls Tryd.prog 24 #[.pointer (some ⟨g, 0, none⟩), .slice A n c] w (RGy bs w) := by
  by_cases h : n < 7 ∨ 1024 < n
  · exact rget_size g n c A bs w hn (by omega) h
  · obtain ⟨p, rfl⟩ : ∃ p, n = p + 4 := ⟨n - 4, by omega⟩
    rcases hr with h0 | ⟨b, rfl, hb, hcc⟩
    · have : bs = [] := by simpa using h0
      subst this
      simp at hn
    · exact rget_in g p c b bs w hT hn (by omega) (by omega) hc hcm (.inr ⟨b, rfl, hb, hcc⟩)
end Go.Proofs.YtmhfhdbaeijcfaaDoor

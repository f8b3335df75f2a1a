/- The walks of frame.Put. -/
import Derived.Test.YtlmdafldggbiaaaDoorPut
namespace Go.Proofs.YtlmdafldggbiaaaDoor
open Go.RowKit
open Go.Proofs.YtlmdafldggbiaaaDoor.H

set_option maxRecDepth 100000 in
set_option maxHeartbeats 2000000 in
theorem put_bad (f : Fr) (v : Value) (E : Nat → Value) (te : TypeId) (pe : Value) (w : World) (hv : Hid (v = f.v)) (hE : Env w E te pe) (hf : f.ok w w.heap.size) (hb : valid f = false) :
    Calls Tryd.prog 10 #[v] w fun e w' => e = .returned (.tuple #[.slice none 0 0, .iface te pe]) ∧ Hid (Below w.heap.size w w') := by
  have HF := Lib.hid hf
  have HE := Lib.hid hE
  have h20 := hE.size
  have HBD := Lib.hid hb
  clear hf hE hb
  obtain ⟨n, HN⟩ : ∃ n, Hid (f.bs.length = n) := ⟨_, rfl⟩
  have HV : Hid (v = .agg (f.cells n).toArray) := Lib.hid (by rw [hv.out, ← HN.out]; rfl)
  clear hv
  go_enter Tryd.func10, Tryd.ntmps10
  go_wp2_with (first
    | (refine wl_box rfl 25 (.tmp 0) rfl (f.cells n) HV.out ?_
       intro w1 HA1 HB1 HZ1
       have hz1 : w.heap.size < w1.heap.size := by rw [HZ1.out]; omega)
    | (refine wl_load rfl 25 (.tmp 1) rfl w.heap.size rfl 25 _ _ HA1.out under25.choose_spec rfl size25 ?_
       intro vp HVP))
  have HVP2 : Hid (vp = f.v) := Lib.hid (by rw [HVP.out]; unfold Fr.v; rw [HN.out])
  have HFO := Lib.hid ((HF.out.below HB1.out).more (Nat.le_of_lt hz1))
  have HE1 := Lib.hid (HE.out.below h20 HB1.out)
  with_reducible refine (check_frame f vp (.iface te pe) w1 HVP2 HE1.out.ef HE1.out.size HFO.out).mono ?_
  rintro e w2 ⟨rfl, HV2⟩
  rw [HBD.out, if_neg (by decide)]
  have HB2 := Lib.hid (HB1.out.trans (HV2.out.mono (Nat.le_of_lt hz1)))
  have he2 : w2.cell? ⟨0, 0, none⟩ = some (.iface te pe) := (HE.out.below h20 HB2.out).ef
  go_wp2_with fail
  go_quiet (fail)
  go_wp2_with fail
  go_ret2
  exact ⟨rfl, Lib.hid (below_drewN HB2.out _)⟩

theorem cells_new60 (w : World) (k : Int) : (w.alloc (.cells #[.int .i64 0, .float .f64 0, .string ⟨#[]⟩, .int .i64 k, .float .f64 0, .string ⟨#[]⟩] 60)).ownsRow w.heap.size 60 3 (.slice (some ⟨w.heap.size, 0, none⟩) 2 2) 2 (F.flat [{ n := 0 }, { n := k }]) :=
  ⟨rfl, .inr ⟨w.heap.size, 2, _, rfl, Nat.le_refl _, heap_alloc_last w _, Nat.le_refl _, by decide, rfl, rfl⟩⟩
/-- A number below B, as a predicate: the row's own block is the first one, or a later one. -/
def OwnAt (v : Value) (gb C : Nat) : Prop := ∀ k, v.ownBlock = some k → k = gb ∨ C ≤ k
/-- The cells of a frame as Put gathers them: the first j fields of L. -/
structure Gath (f : Fr) (L : List Nat) (A : Option Addr) (n gb C : Nat) (w w3 W : World) (v : Value) (j : Nat) : Prop where
  own : W.ownsRow gb 60 3 v (2 + j) (F.flat ([{ n := 0 }, { n := f.kind }] ++ (L.take j).map (cellF f)))
  at_ : OwnAt v gb C
  low : C ≤ W.heap.size
  rd : Rd W C A (L.map nv)
  fr : Row W w.heap.size 25 (f.cells n)
  below : Below gb w3 W
theorem rd_apart {w w' : World} {C gb : Nat} {A : Option Addr} {xs : List Value} {r : Option Nat} (h : Rd w C A xs) (hlo : ∀ ad, A = some ad → gb < ad.block) (hC : C ≤ w.heap.size) (hg : w.grownBy w' r) (hr : ∀ k, r = some k → k = gb ∨ C ≤ k) : Rd w' C A xs := by
  rcases h with h | ⟨ad, h1, h2, h3⟩
  · exact .inl h
  · refine .inr ⟨ad, h1, h2, fun j u hj => ?_⟩
    have hb : (ad.add j).block = ad.block := by unfold Addr.add; split <;> rfl
    have hne : some (ad.add j).block ≠ r := fun e => by
      have h4 := hlo ad h1
      rcases hr _ e.symm with h5 | h5 <;> omega
    rw [World.cell?_of_block (hg.block _ (by rw [hb]; omega) hne)]
    exact h3 j u hj

set_option maxRecDepth 100000 in
set_option maxHeartbeats 4000000 in
theorem put_ok (f : Fr) (v : Value) (E : Nat → Value) (te : TypeId) (pe : Value) (w : World) (hv : Hid (v = f.v)) (hE : Env w E te pe) (hf : f.ok w w.heap.size) (hb : valid f = true) :
    Calls Tryd.prog 10 #[v] w fun e w' => ∃ x, e = .returned (.tuple #[x, .nilIface]) ∧ Hid (w'.ownsRow w.heap.size 5 1 x (total f + 4) ((putB f).map bv) ∧ Below w.heap.size w w') := by
  have HF := Lib.hid hf
  have HE := Lib.hid hE
  have h20 := hE.size
  have HBD := Lib.hid hb
  clear hf hE hb
  obtain ⟨n, HN⟩ : ∃ n, Hid (f.bs.length = n) := ⟨_, rfl⟩
  have HV : Hid (v = .agg (f.cells n).toArray) := Lib.hid (by rw [hv.out, ← HN.out]; rfl)
  clear hv
  go_enter Tryd.func10, Tryd.ntmps10
  go_wp2_with (first
    | (refine wl_box rfl 25 (.tmp 0) rfl (f.cells n) HV.out ?_
       intro w1 HA1 HB1 HZ1
       have hz1 : w.heap.size < w1.heap.size := by rw [HZ1.out]; omega)
    | (refine wl_load rfl 25 (.tmp 1) rfl w.heap.size rfl 25 _ _ HA1.out under25.choose_spec rfl size25 ?_
       intro vp HVP))
  have HVP2 : Hid (vp = f.v) := Lib.hid (by rw [HVP.out]; unfold Fr.v; rw [HN.out])
  have HFO := Lib.hid ((HF.out.below HB1.out).more (Nat.le_of_lt hz1))
  have HE1 := Lib.hid (HE.out.below h20 HB1.out)
  with_reducible refine (check_frame f vp (.iface te pe) w1 HVP2 HE1.out.ef HE1.out.size HFO.out).mono ?_
  rintro e w2 ⟨rfl, HV2⟩
  rw [HBD.out, if_pos rfl]
  have HB2 := Lib.hid (HB1.out.trans (HV2.out.mono (Nat.le_of_lt hz1)))
  have HA2 := Lib.hid (HA1.out.below HV2.out hz1)
  have hz2 : w1.heap.size ≤ w2.heap.size := HV2.out.size
  have c0 : w2.cell? ⟨w.heap.size, 0, none⟩ = some (.int .i64 f.kind) := HA2.out.cell 0
  clear HVP HVP2 HFO HE1 HV2 HA1 HB1 HZ1
  go_wp2_with fail
  with_reducible refine (layout_any f.kind w2).mono ?_
  rintro e w3 ⟨rfl, HV3⟩
  obtain ⟨t, HT⟩ : ∃ t, H.Shut (t = ByteArray.mk (layL f.kind).toArray) := ⟨_, ⟨rfl⟩⟩
  rw [← HT.out]
  have hts : t.size ≤ 9 := by
    rw [HT.out]
    show (layL f.kind).toArray.size ≤ 9
    unfold layL
    simp
    exact used_len f.kind
  have hnl : ¬ 9223372036854775807 < 2 + t.size := by omega
  have HB3 := Lib.hid (HB2.out.trans (HV3.out.mono (by omega)))
  have HA3 := Lib.hid (HA2.out.below HV3.out (by omega))
  have hz3 : w2.heap.size ≤ w3.heap.size := HV3.out.size
  have c3 : w3.cell? ⟨w.heap.size, 0, none⟩ = some (.int .i64 f.kind) := HA3.out.cell 0
  have c4 : ∀ o : Obj, (w3.alloc o).cell? ⟨w.heap.size, 0, none⟩ = some (.int .i64 f.kind) := fun o => (HA3.out.alloc o).cell 0
  clear HV3 c0 HA2 HB2
  go_wp2_with fail
  obtain ⟨w4, HW4⟩ : ∃ w4, H.Shut (w4 = w3.alloc (.cells #[.int .i64 0, .float .f64 0, .string ⟨#[]⟩, .int .i64 f.kind, .float .f64 0, .string ⟨#[]⟩] 60)) := ⟨_, ⟨rfl⟩⟩
  rw [← HW4.out]
  have HO4 : H.Shut (w4.ownsRow w3.heap.size 60 3 (.slice (some ⟨w3.heap.size, 0, none⟩) 2 2) 2 (F.flat [{ n := 0 }, { n := f.kind }])) := ⟨by rw [HW4.out]; exact cells_new60 w3 f.kind⟩
  have HB34 : Hid (Below w3.heap.size w3 w4) := Lib.hid (by rw [HW4.out]; exact below_alloc _ _)
  have hz4 : w3.heap.size < w4.heap.size := by rw [HW4.out]; simp
  clear c3 c4 HW4
  with_reducible refine (fieldsOf_any f.kind w4).mono ?_
  rintro e w5 ⟨A, rfl, HV5⟩
  obtain ⟨L, HL⟩ : ∃ L, H.Shut (used f.kind = L) := ⟨_, ⟨rfl⟩⟩
  obtain ⟨m, HM⟩ : ∃ m, Hid (L.length = m) := ⟨_, rfl⟩
  have hm9 : m ≤ 9 := by
    have h := used_len f.kind
    rw [HL.out, HM.out] at h
    exact h
  rw [HL.out, HM.out]
  have hz5 : w4.heap.size ≤ w5.heap.size := HV5.out.2.1.size
  have HG5 : H.Shut (Gath f L A n w3.heap.size w5.heap.size w w3 w5 (.slice (some ⟨w3.heap.size, 0, none⟩) 2 2) 0) := ⟨by
    have hb45 := HV5.out.2.1
    refine ⟨?_, ?_, Nat.le_refl _, by rw [← HL.out]; exact HV5.out.1, (HA3.out.below HB34.out (by omega)).below hb45 (by omega), HB34.out.trans (hb45.mono (by omega))⟩
    · exact own_below HO4.out hb45
    · intro k hk
      exact .inl (Option.some.inj hk).symm⟩
  have HAL : H.Shut (∀ ad, A = some ad → w3.heap.size < ad.block) := ⟨fun ad h => by have := HV5.out.2.2 ad h; omega⟩
  have HLX : H.Shut (∀ x ∈ L, x < 9) := ⟨by rw [← HL.out]; exact used_lt f.kind⟩
  clear HV5 HO4 HB34 HA3
  generalize hC : w5.heap.size = C at *
  have hz5' : w3.heap.size < C := by omega
  clear hC
  go_wp2_with fail
  go_loopw [5, 28] (fun v i W => ∃ j : Nat, j ≤ m ∧ i = .int .i64 j ∧ H.Shut (Gath f L A n w3.heap.size C w w3 W v j)) (fun _ i _ => m - (intOf i).toNat)
  case atStart => exact ⟨0, Nat.zero_le _, rfl, HG5⟩
  case round =>
    clear HG5
    obtain ⟨j, hj, rfl, HI⟩ := hrel
    by_cases hlt : j < m
    · have hj2 : j < L.length := by rw [HM.out]; exact hlt
      obtain ⟨ad, rfl, _, hcx⟩ := Rd.cell (k := j) (u := nv L[j]) HI.out.rd (by simp [hj2])
      have hx9 : L[j] < 9 := HLX.out _ (List.getElem_mem hj2)
      have htk : L.take (j + 1) = L.take j ++ [L[j]] := List.take_succ_eq_append_getElem hj2
      generalize L[j] = x at *
      unfold nv at hcx
      have HTK := Lib.hid htk
      clear htk
      have HFR := Lib.hid HI.out.fr
      have hszr : w3.heap.size ≤ wr.heap.size := HI.out.below.size
      have hwr : w.heap.size < wr.heap.size := HFR.out.lt
      have HBW := Lib.hid (HB3.out.trans (HI.out.below.mono HB3.out.size))
      have HFO := Lib.hid ((HF.out.below HBW.out).more HBW.out.size)
      go_wp2_with (first
        | (refine wl_load rfl 25 (.tmp 1) rfl w.heap.size rfl 25 _ _ HFR.out under25.choose_spec rfl size25 ?_
           intro vp2 HVQ))
      have HVQ2 : Hid (vp2 = f.v) := Lib.hid (by rw [HVQ.out]; unfold Fr.v; rw [HN.out])
      with_reducible refine (cellOf_any f vp2 x wr HVQ2 HFO.out hx9).mono ?_
      rintro e w6 ⟨rfl, HV6⟩
      obtain ⟨q, HQ⟩ : ∃ q, H.Shut (cellF f x = q) := ⟨_, ⟨rfl⟩⟩
      rw [HQ.out]
      obtain ⟨qn, qf, qs⟩ := q
      have hz6 : wr.heap.size ≤ w6.heap.size := HV6.out.size
      have HO6 := Lib.hid (own_below HI.out.own HV6.out)
      unfold F.FC.v
      dsimp only
      go_wp2_with (first
        | (refine wl_cell rfl (.tmp 32) (.tmp 36) rfl w3.heap.size (2 + j) u5 _ ⟨qn, qf, qs⟩ w6.heap.size rfl rfl (by simp) (by simp) (by simp) (HO6.out.alloc _) (by omega) (by simp; omega) ?_
           intro v7 w7 HA7))
      refine ⟨⟨j + 1, by omega, by go_num, ⟨?_⟩⟩, by simp [intOf]; omega⟩
      have hb6 := below_alloc w6 (.cells #[.int .i64 qn, .float .f64 qf, .string qs] 60)
      have hlow := HI.out.low
      have hbr : Below wr.heap.size wr (w6.alloc (.cells #[.int .i64 qn, .float .f64 qf, .string qs] 60)) := HV6.out.trans (hb6.mono hz6)
      have hown6 := HO6.out.alloc (.cells #[.int .i64 qn, .float .f64 qf, .string qs] 60)
      have hlt6 := hown6.lt
      refine ⟨?_, ?_, ?_, ?_, ?_, ?_⟩
      · rw [HTK.out, List.map_append, ← List.append_assoc, show 2 + (j + 1) = 2 + j + 1 by omega]
        have h1 := HA7.out.1
        rw [← HQ.out] at h1
        exact h1
      · intro k hk
        rcases HA7.out.2.2 with h | h
        · exact HI.out.at_ k (by rw [← h]; exact hk)
        · rw [h] at hk
          have := Option.some.inj hk
          right
          simp at this
          omega
      · have := HA7.out.2.1.size
        have := hbr.size
        omega
      · exact rd_apart ((HI.out.rd.below (hbr.mono hlow))) HAL.out (Nat.le_trans hlow hbr.size) HA7.out.2.1 HI.out.at_
      · refine grown_row' (HI.out.fr.below hbr hwr) HA7.out.2.1 (fun e => ?_)
        have := (hlt6 _ e).1
        omega
      · exact ((HI.out.below.trans (hbr.mono hszr))).grown HA7.out.2.1 (Nat.le_trans hszr hbr.size) (fun k hk => (hlt6 k hk).1)
    · have hjm : j = m := by omega
      subst hjm
      have HO : H.Shut (wr.ownsRow w3.heap.size 60 3 u5 (2 + j) (F.flat (cellsP f 0))) := ⟨by
        have h := HI.out.own
        rw [List.take_of_length_le (by rw [HM.out]; exact Nat.le_refl _), ← HL.out] at h
        exact h⟩
      obtain ⟨g, c, rfl, hcl, hc1, hc2, hg1, hg2, hcs⟩ := own_cells HO.out (by omega)
      have HCS := Lib.hid hcs
      have HCL := Lib.hid hcl
      obtain ⟨s, HS⟩ : ∃ s, H.Shut (ByteArray.mk #[104, 98] ++ t = s) := ⟨_, ⟨rfl⟩⟩
      have HSD : H.Shut (s.data.toList = layS f.kind) := ⟨by rw [← HS.out, HT.out, bytes_cat [104, 98] (layL f.kind)]; rfl⟩
      have HSS : Hid (s.size = 2 + j) := Lib.hid (by
        have h1 : s.size = s.data.toList.length := by simp
        rw [h1, HSD.out, layS_length, HL.out, HM.out])
      rw [HS.out]
      have hszr : w3.heap.size ≤ wr.heap.size := HI.out.below.size
      have HBW := Lib.hid (HB3.out.trans (HI.out.below.mono HB3.out.size))
      have HER := Lib.hid (HE.out.below h20 HBW.out)
      have HFO := Lib.hid ((HF.out.below HBW.out).more HBW.out.size)
      have hT2 := total_le f HBD.out
      obtain ⟨T, HTT⟩ : ∃ T, H.Shut (total f = T) := ⟨_, ⟨rfl⟩⟩
      have hT3 : 3 ≤ T ∧ T ≤ 4629 := by rw [← HTT.out]; exact hT2
      have HSZ : Hid (F.sizesS s.data.toList (cellsP f 0) = .ok T) := Lib.hid (by
        unfold F.sizesS
        rw [HSD.out, if_pos ⟨kn_layS _, by rw [cellsP_length, layS_length]⟩, ← HTT.out]
        exact sumS_frame f 0 HBD.out (by omega) (by omega))
      have HMX : Hid (s.size ≤ maxLen) := Lib.hid (by have e : maxLen = 9223372036854775807 := rfl; rw [e, HSS.out]; omega)
      have HCK := Lib.hid (cellsP_ok f _ _ HFO.out 0 (by omega) (by omega))
      clear hcs hcl HI HAL HLX hT2 HS hnl hts
      go_wp2_with fail
      with_reducible refine (F.size_any E s (2 + j) c (some ⟨g, 0, none⟩) (cellsP f 0) wr HER.out.errs HER.out.size HMX.out HCL.out HCS.out HCK.out (by omega)).mono ?_
      rintro e w6 ⟨rfl, hb6⟩
      rw [HSZ.out]
      dsimp only [F.spanV]
      have hz6 : wr.heap.size ≤ w6.heap.size := hb6.size
      have HO6 : H.Shut (w6.ownsRow w3.heap.size 60 3 (.slice (some ⟨g, 0, none⟩) (2 + j) c) (2 + j) (F.flat (cellsP f 0))) := ⟨own_below HO.out hb6⟩
      have HB6 := Lib.hid (HBW.out.trans (hb6.mono HBW.out.size))
      have fz : w6.frozen? ⟨g, 0, none⟩ = false := own_frozen HO6.out 0
      obtain ⟨y, cy⟩ : ∃ y, w6.cell? ⟨g, 0, none⟩ = some y := by
        obtain ⟨g', c', e', _, _, _, _, _, hcs'⟩ := own_cells HO6.out (by omega)
        injection e' with e1 _ _
        injection e1 with e1
        injection e1 with e1 _ _
        subst e1
        obtain ⟨b, o, hb1, _, hb2, _⟩ := F.Cs.at_ (k := 0) hcs' (by rw [cellsP_length]; omega)
        injection hb1 with hb1
        injection hb1 with hb1 hb3 _
        subst hb1 hb3
        exact ⟨_, by simpa using hb2⟩
      have hwT : IntKind.i64.wrap ((T : Int) - 2) = (T : Int) - 2 := by rw [IntKind.wrap_i64]; omega
      clear HO hb6 HSZ HCS HCK
      go_wp2_with fail
      have HO7 : H.Shut ((w6.setCell ⟨g, 0, none⟩ (.int .i64 ((T : Int) - 2))).ownsRow w3.heap.size 60 3 (.slice (some ⟨g, 0, none⟩) (2 + j) c) (2 + j) (F.flat (cellsP f ((T : Int) - 2)))) := ⟨own_first ((T : Int) - 2) HO6.out⟩
      have HB7 := Lib.hid (HB6.out.setCell (p := ⟨g, 0, none⟩) (show w.heap.size ≤ g by have := HB3.out.size; omega) (.int .i64 ((T : Int) - 2)))
      generalize w6.setCell ⟨g, 0, none⟩ (.int .i64 ((T : Int) - 2)) = w7 at *
      clear fz cy HO6 HB6
      have HC7 : Hid (F.Cs w7 w7.heap.size (some ⟨g, 0, none⟩) (cellsP f ((T : Int) - 2))) := Lib.hid (by
        obtain ⟨g', c', e', _, _, _, _, _, hcs'⟩ := own_cells HO7.out (by omega)
        injection e' with e1 _ _
        rw [e1]
        exact hcs')
      have HE7 := Lib.hid (HE.out.below h20 HB7.out)
      have HCL7 : Hid ((cellsP f ((T : Int) - 2)).length = 2 + j) := Lib.hid (by rw [cellsP_length, HL.out, HM.out])
      have HCK7 := Lib.hid (cellsP_ok f _ _ HFO.out ((T : Int) - 2) (by omega) (by omega))
      have HSM7 : Hid (F.sumS s.data.toList (cellsP f ((T : Int) - 2)) = .ok T) := Lib.hid (by
        rw [HSD.out, ← HTT.out]
        exact sumS_frame f _ HBD.out (by rw [HTT.out]; omega) (by rw [HTT.out]; omega))
      have HKN : Hid (F.kn s.data.toList = true) := Lib.hid (by rw [HSD.out]; exact kn_layS _)
      with_reducible refine (encode_len E s (2 + j) c (some ⟨g, 0, none⟩) (cellsP f ((T : Int) - 2)) w7 HE7.out.errs HE7.out.size HSS.out HCL7.out (by omega) HC7.out HCK7.out T HKN.out HSM7.out (by omega)).mono ?_
      rintro e w8 ⟨A8, c8, rfl, HV8⟩
      have HCV : H.Shut (F.encB s.data.toList (cellsP f ((T : Int) - 2)) = cov f) := ⟨by unfold cov; rw [HSD.out, HTT.out]⟩
      have HO8 : H.Shut (w8.ownsRow w.heap.size 5 1 (.slice A8 T c8) T ((cov f).map bv)) := ⟨by rw [← HCV.out]; exact own_base HV8.out.1 HB7.out.size⟩
      have HB8 := Lib.hid (HB7.out.trans (HV8.out.2.mono HB7.out.size))
      have HE8 := Lib.hid (HE.out.below h20 HB8.out)
      have HCLN : Hid ((cov f).length = T) := Lib.hid (by rw [cov_length f HBD.out, HTT.out])
      clear HV8 HC7 HO7
      go_wp2_with fail
      with_reducible refine (sealed_own w.heap.size T c8 A8 (cov f) w8 HE8.out.kt HCLN.out (by omega) HB8.out.size HO8.out).mono ?_
      rintro e w9 ⟨v9, rfl, HV9⟩
      go_wp2_with fail
      go_ret2
      refine ⟨v9, rfl, Lib.hid ⟨?_, HB8.out.trans HV9.out.2⟩⟩
      rw [HTT.out]
      exact HV9.out.1
end Go.Proofs.YtlmdafldggbiaaaDoor

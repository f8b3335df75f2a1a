/- The law FrameFields, one way of its switch. -/
import Derived.Test.YtmhfhdbaeijcfaaDoorFla
namespace Go.Proofs.YtmhfhdbaeijcfaaDoor
open Go.RowKit
open Go.Proofs.YtmhfhdbaeijcfaaDoor.H
attribute [local go_sem] F.run_store_f64
set_option maxRecDepth 100000 in
set_option maxHeartbeats 4000000 in
theorem fields_1 (f : Fr) (m : Nat) (wh z : Int) (s : ByteArray) (v : Value) (E : Nat → Value) (a : Addr) (w : World) (HN : Hid (f.bs.length = m)) (HV : Hid (v = .agg (cells13 f m wh z s).toArray)) (hE : Env w E 159 (.pointer (some a))) (hf : f.ok w w.heap.size)
    (hw : bits .and .i64 wh 7 = 1) (hz : i64ok z) (hs : s.size ≤ 9223372036854775807) :
    Calls Tryd.prog 6 #[v] w fun e w' => e = .returned (.bool true) ∧ Below w.heap.size w w' := by
  have HF := Lib.hid hf
  have HE := Lib.hid hE
  have h20 := hE.size
  clear hf hE
  have HLD : Hid ((Tryd.prog.info? 25).map (·.size) = some (f.cells m).length) := Lib.hid size25
  go_enter Tryd.func6, Tryd.ntmps6
  go_wp2_with (first
    | (refine wl_box rfl 56 (.tmp 0) rfl (cells13 f m wh z s) HV.out ?_
       intro w1 HA1 HB1 HZ1
       have hz1 : w.heap.size < w1.heap.size := by rw [HZ1.out]; omega))
  have c0 : w1.cell? ⟨w.heap.size, 0, none⟩ = some (.int .i64 f.kind) := HA1.out.cell 0
  have c1 : w1.cell? ⟨w.heap.size, 1, none⟩ = some (.int .i64 f.seq) := HA1.out.cell 1
  have c2 : w1.cell? ⟨w.heap.size, 2, none⟩ = some (.int .i64 f.got) := HA1.out.cell 2
  have c3 : w1.cell? ⟨w.heap.size, 3, none⟩ = some (.int .i64 f.stream) := HA1.out.cell 3
  have c4 : w1.cell? ⟨w.heap.size, 4, none⟩ = some (.int .i64 f.amount) := HA1.out.cell 4
  have c5 : w1.cell? ⟨w.heap.size, 5, none⟩ = some (.int .i64 f.code) := HA1.out.cell 5
  have c6 : w1.cell? ⟨w.heap.size, 6, none⟩ = some (.string f.who) := HA1.out.cell 6
  have c7 : w1.cell? ⟨w.heap.size, 7, none⟩ = some (.string f.name) := HA1.out.cell 7
  have c8 : w1.cell? ⟨w.heap.size, 8, none⟩ = some (.float .f64 f.weight) := HA1.out.cell 8
  have c9 : w1.cell? ⟨w.heap.size, 9, none⟩ = some (.slice f.ba m f.bc) := HA1.out.cell 9
  have c10 : w1.cell? ⟨w.heap.size, 10, none⟩ = some (.int .i64 wh) := HA1.out.cell 10
  have c11 : w1.cell? ⟨w.heap.size, 11, none⟩ = some (.int .i64 z) := HA1.out.cell 11
  have c12 : w1.cell? ⟨w.heap.size, 12, none⟩ = some (.string s) := HA1.out.cell 12
  go_region
  all_goals
    change Exit.then _ _ _ _ (w1.alloc (.cells (f.cells m).toArray 25)).drew
    have HR3 : Hid (Row (w1.alloc (.cells (f.cells m).toArray 25)).drew w1.heap.size 25 (f.cells m)) := Lib.hid (row_drew (Row.new w1 (f.cells m) 25))
    have HB3 : Hid (Below w.heap.size w (w1.alloc (.cells (f.cells m).toArray 25)).drew) := Lib.hid (HB1.out.alloc (Nat.le_of_lt hz1) _).drew
    generalize (w1.alloc (.cells (f.cells m).toArray 25)).drew = w3 at *
    generalize w1.heap.size = g3 at *
    clear c0 c1 c2 c3 c4 c5 c6 c7 c8 c9 c10 c11 c12 HA1 HB1 HZ1
    have HE3 := Lib.hid (HE.out.below h20 HB3.out)
    have hg3 : g3 < w3.heap.size := HR3.out.lt
    go_wp2_with fail
    with_reducible refine (alive_any E a w3 HE3.out).mono ?_
    rintro e w4 ⟨rfl, HV4⟩
    have HB4 := Lib.hid (HB3.out.trans (HV4.out.mono HB3.out.size))
    have HR4 := Lib.hid (HR3.out.below HV4.out hg3)
    have hz4 : w3.heap.size ≤ w4.heap.size := HV4.out.size
    clear HV4 HR3 HB3 HE3
    go_wp2_with (first
      | (refine wl_load rfl 25 (.tmp 3) rfl g3 rfl 25 _ _ HR4.out under25.choose_spec rfl size25 ?_
         intro vp HVP))
    have HVP2 : Hid (vp = f.v) := Lib.hid (by rw [HVP.out]; unfold Fr.v; rw [HN.out])
    have HFO := Lib.hid ((HF.out.below HB4.out).more HB4.out.size)
    have HE4 := Lib.hid (HE.out.below h20 HB4.out)
    with_reducible refine (check_frame f vp (.iface 159 (.pointer (some a))) w4 HVP2 HE4.out.ef HE4.out.size HFO.out).mono ?_
    rintro e w5 ⟨rfl, HV5⟩
    have HB5 := Lib.hid (HB4.out.trans (HV5.out.mono HB4.out.size))
    have HR5 := Lib.hid (HR4.out.below HV5.out (by omega))
    have hz5 : w4.heap.size ≤ w5.heap.size := HV5.out.size
    clear HV5 HVP HVP2 HFO HE4 HR4 HB4
    cases hval : valid f with
    | false =>
      rw [if_neg (by decide)]
      go_wp2_with fail
      go_ret
      exact ⟨rfl, HB5.out⟩
    | true =>
      rw [if_pos rfl]
      have HVL := Lib.hid hval
      clear hval
      by_cases hz0 : z = 0
      · subst hz0
        go_wp2_with fail
        go_ret
        exact ⟨rfl, HB5.out⟩
      have hz0' : (z == 0) = false := by simpa using hz0
      by_cases hs0 : s = ⟨#[]⟩
      · subst hs0
        go_wp2_with fail
        go_ret
        exact ⟨rfl, HB5.out⟩
      have hs1 : s.toList.isEmpty = false := nonempty hs0
      by_cases hs2 : 2000 < s.size
      · have hs3 : (2000 : Int) < (s.size : Int) := by omega
        go_wp2_with fail
        go_ret
        exact ⟨rfl, HB5.out⟩
      have hs3 : ¬ (2000 : Int) < (s.size : Int) := by omega
      go_wp2_with (first
        | (refine wl_load rfl 25 (.tmp 3) rfl g3 rfl 25 _ _ HR5.out under25.choose_spec rfl size25 ?_
           intro vq HVQ)
        | (refine wl_alloc (o := ⟨some 7, _, _, _, _, _⟩) rfl 25 rfl _ _ info25' ?_
           intro w6 HA6 HB6 HZ6)
        | (refine wl_store rfl 25 (.tmp 7) (.tmp 37) rfl w5.heap.size _ (f.cells m) rfl HVQ.out rfl 25 _ HA6.out HLD.out rfl (cells_one13 f m) ?_
           intro w7 HR7 HS7 HZ7
           have hz6 : w5.heap.size < w6.heap.size := by rw [HZ6.out]; omega
           have hz7 : w7.heap.size = w6.heap.size := HZ7.out
           have hg5 : g3 < w5.heap.size := by omega
           have hb57 : Below w5.heap.size w5 w7 := HB6.out.trans (HS7.out.below (Nat.le_refl _) (by omega))
           have HB7 := Lib.hid (HB5.out.trans (hb57.mono HB5.out.size))
           have HRg7 := Lib.hid (HR5.out.below hb57 hg5)
           have c0 : w7.cell? ⟨g3, 0, none⟩ = some (.int .i64 f.kind) := HRg7.out.cell 0))
      with_reducible refine (layout_any f.kind w7).mono ?_
      rintro e w8 ⟨rfl, HV8⟩
      have HB8 := Lib.hid (HB7.out.trans (HV8.out.mono HB7.out.size))
      have hz8 : w7.heap.size ≤ w8.heap.size := HV8.out.size
      have hg7 : w5.heap.size < w7.heap.size := by omega
      have HR8 := Lib.hid (HR7.out.below HV8.out hg7)
      have HRg8 := Lib.hid (HRg7.out.below HV8.out (by omega))
      obtain ⟨g7, HG7⟩ : ∃ g7, H.Shut (w5.heap.size = g7) := ⟨_, ⟨rfl⟩⟩
      rw [HG7.out] at HR8 ⊢
      have hgw : w.heap.size ≤ g7 := by rw [← HG7.out]; exact HB5.out.size
      have hg8 : g7 < w8.heap.size := by rw [← HG7.out]; omega
      obtain ⟨lay, HLY⟩ : ∃ t, H.Shut (ByteArray.mk (layL f.kind).toArray = t) := ⟨_, ⟨rfl⟩⟩
      have hly : 0 < lay.size := by
        rw [← HLY.out]
        show 0 < (layL f.kind).toArray.size
        unfold layL
        simp
        exact List.length_pos_iff.2 (valid_used HVL.out)
      have hly2 : lay.size ≤ 9 := by
        rw [← HLY.out]
        show (layL f.kind).toArray.size ≤ 9
        unfold layL
        simp
        exact used_len f.kind
      rw [HLY.out]
      clear HV8 HR7 HRg7 HB7 HA6 HB6 HZ6 HS7 HZ7 hb57 HVQ c0
      have ct : w8.cell? ⟨g3, 3, none⟩ = some (.int .i64 f.stream) := HRg8.out.cell 3
      by_cases hq : f.stream = 0
      · have hqb : (f.stream != 0) = false := by simp [hq]
        have co : w8.cell? ⟨g7, 3, none⟩ = some (.int .i64 f.stream) := HR8.out.cell 3
        have fz : w8.frozen? ⟨g7, 3, none⟩ = false := HR8.out.frozen 3
        have HIV : Hid (valid ({ f with stream := z } : Fr) = false) := Lib.hid (inv_stream HVL.out hq z hz0)
        have HR9 : Hid (Row (w8.setCell ⟨g7, 3, none⟩ (.int .i64 z)) g7 25 (({ f with stream := z } : Fr).cells m)) := Lib.hid (HR8.out.set 3 _)
        have HB9 : Hid (Below w.heap.size w (w8.setCell ⟨g7, 3, none⟩ (.int .i64 z))) := Lib.hid (HB8.out.setCell (p := ⟨g7, 3, none⟩) hgw _)
        have HGN : Hid (({ f with stream := z } : Fr).bs.length = m) := HN
        have HGO : Hid (({ f with stream := z } : Fr).ok (w8.setCell ⟨g7, 3, none⟩ (.int .i64 z)) (w8.setCell ⟨g7, 3, none⟩ (.int .i64 z)).heap.size) := Lib.hid (by
          have h1 := (HF.out.below HB9.out).more HB9.out.size
          exact { h1 with stream := hz })
        obtain ⟨g9, HG9⟩ : ∃ g9 : Fr, H.Shut (({ f with stream := z } : Fr) = g9) := ⟨_, ⟨rfl⟩⟩
        rw [HG9.out] at HIV HR9 HGN HGO
        have hz9 : (w8.setCell ⟨g7, 3, none⟩ (.int .i64 z)).heap.size = w8.heap.size := by simp [World.setCell]
        have HE9 := Lib.hid (HE.out.below h20 HB9.out)
        go_wp2_with (first
          | (refine wl_load (o := ⟨some 93, _, _, _, _, _⟩) rfl 25 (.tmp 7) rfl g7 rfl 25 _ _ HR9.out under25.choose_spec rfl size25 ?_
             intro vr HVR))
        generalize w8.setCell ⟨g7, 3, none⟩ (.int .i64 z) = w9 at *
        have HVR2 : Hid (vr = g9.v) := Lib.hid (by rw [HVR.out]; unfold Fr.v; rw [HGN.out])
        clear ct co fz HR8 HRg8
        with_reducible refine (put_bad g9 vr E 159 (.pointer (some a)) w9 HVR2 HE9.out HGO.out HIV.out).mono ?_
        rintro e w10 ⟨rfl, HV10⟩
        have HB10 := Lib.hid (HB9.out.trans (HV10.out.mono HB9.out.size))
        have hz10 : w9.heap.size ≤ w10.heap.size := HV10.out.size
        have HR10 := Lib.hid (HR9.out.below HV10.out (by omega))
        have HGO10 := Lib.hid ((HGO.out.below HV10.out).more HV10.out.size)
        have hg10 : g7 < w10.heap.size := by omega
        have HS : Hid (∀ w', Below w10.heap.size w10 w' → w'.cell? ⟨0, 0, none⟩ = some (.iface 159 (.pointer (some a))) ∧ w'.rangeAt g7 0 (g9.cells m)) := Lib.hid (fun w' hb => ⟨((HE.out.below h20 HB10.out).below (Nat.le_trans h20 HB10.out.size) hb).ef, (HR10.out.below hb hg10).range (es := []) (by simp)⟩)
        have HZL : Hid ((Tryd.prog.info? 25).map (·.size) = some (g9.cells m).length) := Lib.hid size25
        have HC18 : Hid (∀ w', Below w10.heap.size w10 w' → Calls Tryd.prog 18 #[.agg (g9.cells m).toArray] w' fun e w'' => e = .returned (.iface 159 (.pointer (some a))) ∧ Hid (Below w10.heap.size w10 w'')) := Lib.hid (fun w' hb => by
          have hbw : Below w.heap.size w w' := HB10.out.trans (hb.mono HB10.out.size)
          have he := HE.out.below h20 hbw
          refine (check_frame g9 (.agg (g9.cells m).toArray) (.iface 159 (.pointer (some a))) w' (Lib.hid (by unfold Fr.v; rw [HGN.out])) he.ef he.size ((HGO10.out.below hb).more hb.size)).mono fun e w'' ⟨h1, h2⟩ => ⟨?_, Lib.hid (hb.trans (h2.out.mono hb.size))⟩
          rw [h1, HIV.out]
          rfl)
        have HBD : Hid (Below w10.heap.size w10 w10.drew) := Lib.hid ((Below.refl _ _).drew)
        clear HV10 HR9 HB9 HE9 HVR HVR2 HGO HB8 HB5 HR5
        go_wp2_with fail
        have hes := fun W : World => err_same a W
        refine wp_region_held_drew (S := fun w' => w'.cell? ⟨0, 0, none⟩ = some (.iface 159 (.pointer (some a))) ∧ w'.rangeAt g7 0 (g9.cells m)) (by kernel_rfl) (HS.out _ HBD.out) (fun hHeld => ?_)
        refine wpAnyH_take (i := 0) (v := .agg (g9.cells m).toArray) rfl (by kernel_rfl) (by kernel_rfl) (by kernel_rfl) (fun _ _ _ h => h) (yieldsIf_load_mid (by kernel_rfl) 25 (.tmp 7) rfl g7 0 rfl (g9.cells m) _ (fun w' hSw => hSw.2) under25.choose_spec rfl HZL.out) (by assumption) ?_
        simp only [Act.put, List.setIfInBounds_toArray]
        refine wpAnyH_take (i := 2) (v := .iface 159 (.pointer (some a))) rfl (by kernel_rfl) (by kernel_rfl) (by kernel_rfl) (fun _ _ _ h => h) (Or.inl ⟨by kernel_rfl, ?_⟩) (by assumption) ?_
        · (intro w' hSw; (try dsimp only at hSw); go_simp)
        simp only [Act.put]
        refine wpAnyH_ready (rs := [1]) (by kernel_rfl) (by simp) ?_
        refine AllReadyH.cons rfl (fun K hK => ?_) AllReadyH.nil
        go_simp
        with_reducible refine (HC18.out w10.drew HBD.out).mono ?_
        rintro e w11 ⟨rfl, HV11⟩
        refine hK.out _ _ (HS.out _ HV11.out) (fun hHeld => ?_)
        clear hK K
        (try simp only [Act.put, List.setIfInBounds_toArray, List.set_cons_zero, List.set_cons_succ])
        refine wpAnyH_take (i := 3) (v := .bool true) rfl (by kernel_rfl) (by kernel_rfl) (by kernel_rfl) (fun _ _ _ h => h) (Or.inl ⟨by kernel_rfl, ?_⟩) (by assumption) ?_
        · (intro w' hSw; (try dsimp only at hSw); go_simp)
        simp only [Act.put, List.setIfInBounds_toArray]
        refine wpAnyH_take (i := 4) (v := .bool true) rfl (by kernel_rfl) (by kernel_rfl) (by kernel_rfl) (fun _ _ _ h => h) (Or.inl ⟨by kernel_rfl, ?_⟩) (by assumption) ?_
        · (intro w' hSw; (try dsimp only at hSw); go_simp)
        simp only [Act.put]
        refine wpAnyH_take (i := 5) (v := .iface 159 (.pointer (some a))) rfl (by kernel_rfl) (by kernel_rfl) (by kernel_rfl) (fun _ _ _ h => h) (Or.inl ⟨by kernel_rfl, ?_⟩) (by assumption) ?_
        · (intro w' hSw; (try dsimp only at hSw); go_simp)
        simp only [Act.put]
        refine wpAnyH_take (i := 6) (v := .iface 159 (.pointer (some a))) rfl (by kernel_rfl) (by kernel_rfl) (by kernel_rfl) (fun _ _ _ h => h) (Or.inl ⟨by kernel_rfl, ?_⟩) (by assumption) ?_
        · (intro w' hSw; (try dsimp only at hSw); go_simp)
        simp only [Act.put]
        refine wpAnyH_take (i := 7) (v := .bool true) rfl (by kernel_rfl) (by kernel_rfl) (by kernel_rfl) (fun _ _ _ h => h) (Or.inl ⟨by kernel_rfl, ?_⟩) (by assumption) ?_
        · (intro w' hSw; (try dsimp only at hSw); go_simp)
        simp only [Act.put]
        refine wpAnyH_take (i := 8) (v := .bool true) rfl (by kernel_rfl) (by kernel_rfl) (by kernel_rfl) (fun _ _ _ h => h) (Or.inl ⟨by kernel_rfl, ?_⟩) (by assumption) ?_
        · (intro w' hSw; (try dsimp only at hSw); go_simp)
        simp only [Act.put]
        refine wpAnyH_take (i := 9) (v := .bool true) rfl (by kernel_rfl) (by kernel_rfl) (by kernel_rfl) (fun _ _ _ h => h) (Or.inl ⟨by kernel_rfl, ?_⟩) (by assumption) ?_
        · (intro w' hSw; (try dsimp only at hSw); go_simp)
        simp only [Act.put]
        refine wpAnyH_take (i := 10) (v := .string lay) rfl (by kernel_rfl) (by kernel_rfl) (by kernel_rfl) (fun _ _ _ h => h) (Or.inl ⟨by kernel_rfl, ?_⟩) (by assumption) ?_
        · (intro w' hSw; (try dsimp only at hSw); go_simp)
        simp only [Act.put]
        refine wpAnyH_take (i := 11) (v := .int .i64 (lay.size : Int)) rfl (by kernel_rfl) (by kernel_rfl) (by kernel_rfl) (fun _ _ _ h => h) (Or.inl ⟨by kernel_rfl, ?_⟩) (by assumption) ?_
        · (intro w' hSw; (try dsimp only at hSw); go_simp)
        simp only [Act.put]
        refine wpAnyH_take (i := 12) (v := .bool true) rfl (by kernel_rfl) (by kernel_rfl) (by kernel_rfl) (fun _ _ _ h => h) (Or.inl ⟨by kernel_rfl, ?_⟩) (by assumption) ?_
        · (intro w' hSw; (try dsimp only at hSw); go_simp)
        simp only [Act.put]
        refine wpAnyH_take (i := 13) (v := .bool true) rfl (by kernel_rfl) (by kernel_rfl) (by kernel_rfl) (fun _ _ _ h => h) (Or.inl ⟨by kernel_rfl, ?_⟩) (by assumption) ?_
        · (intro w' hSw; (try dsimp only at hSw); go_simp)
        simp only [Act.put]
        refine wpAnyH_take (i := 14) (v := .bool true) rfl (by kernel_rfl) (by kernel_rfl) (by kernel_rfl) (fun _ _ _ h => h) (Or.inl ⟨by kernel_rfl, ?_⟩) (by assumption) ?_
        · (intro w' hSw; (try dsimp only at hSw); go_simp)
        simp only [Act.put]
        refine wpAnyH_done (by kernel_rfl) ?_ _
        simp only [List.getElem_toArray, List.getElem_cons_succ, List.getElem_cons_zero, List.setIfInBounds_toArray, List.set_cons_zero, List.set_cons_succ]
        have HBF := Lib.hid (HB10.out.trans (HV11.out.mono HB10.out.size))
        clear hes
        go_wp2_with fail
        go_ret
        exact ⟨rfl, HBF.out⟩
      · have hqb : (f.stream != 0) = true := by simpa using hq
        go_wp2_with fail
        go_ret
        exact ⟨rfl, HB8.out⟩
end Go.Proofs.YtmhfhdbaeijcfaaDoor

/- The law FrameRows: which kinds are in the row. -/
import Derived.Test.YtlmdafldggbiaaaDoorAlive
import Derived.Deep.RegionWith
namespace Go.Proofs.YtlmdafldggbiaaaDoor
open Go.RowKit
open Go.Proofs.YtlmdafldggbiaaaDoor.H

/-- Is a kind in the row? -/
def rowB (k : Int) : Bool := decide (7 ≤ k ∧ k ≤ 17)
set_option maxRecDepth 100000 in
theorem row_any (k : Int) (w : World) : Calls Tryd.prog 16 #[.int .i64 k] w fun e w' => e = .returned (.bool (rowB k)) ∧ w = w' := by
  by_cases h1 : 7 ≤ k
  · by_cases h2 : k ≤ 17
    · have HR : Hid (rowB k = true) := Lib.hid (by simp [rowB, h1, h2])
      go_enter Tryd.func16, Tryd.ntmps16
      go_wp2_with fail
      go_ret
      exact ⟨ret_bool (by rw [HR.out]), rfl⟩
    · have HR : Hid (rowB k = false) := Lib.hid (by simp [rowB, h1, h2])
      go_enter Tryd.func16, Tryd.ntmps16
      go_wp2_with fail
      go_ret
      exact ⟨ret_bool (by rw [HR.out]), rfl⟩
  · have HR : Hid (rowB k = false) := Lib.hid (by simp [rowB, h1])
    go_enter Tryd.func16, Tryd.ntmps16
    go_wp2_with fail
    go_ret
    exact ⟨ret_bool (by rw [HR.out]), rfl⟩
theorem used_seq (k : Int) (h : used k ≠ []) : decide (0 ∈ used k) = rowB k := by
  rcases kinds_or k with (rfl | rfl | rfl | rfl | rfl | rfl | rfl | rfl | rfl | rfl | rfl | rfl | rfl | rfl | rfl | rfl | rfl) | h1
  rotate_right
  · exact absurd (used_none k h1) h
  all_goals decide
theorem fits_seq {f : Fr} (h : valid f = true) : rowB f.kind = decide (0 < f.seq) := by
  have hu := valid_used h
  have h2 := used_seq f.kind hu
  unfold valid at h
  simp at h
  have h3 := h.2 0 (by omega)
  unfold fits least most at h3
  have e : ext f 0 = f.seq := by simp [ext]
  rw [e] at h3
  rw [← h2]
  by_cases hm : 0 ∈ used f.kind
  · simp [hm, lo, hi] at h3 ⊢
    omega
  · simp [hm] at h3 ⊢
    omega
/-- A frame without its Seq. -/
def noSeq (f : Fr) : Fr := { f with seq := 0 }
theorem valid_noSeq {f : Fr} (h : valid f = true) : valid (noSeq f) = !rowB f.kind := by
  have h1 := fits_seq h
  have h2 := used_seq f.kind (valid_used h)
  cases hb : rowB f.kind
  · have hs : f.seq = 0 := by
      rw [hb] at h1 h2
      have h0 : ¬ 0 < f.seq := by simpa using h1.symm
      unfold valid at h
      simp at h
      have h3 := h.2 0 (by omega)
      have hm : ¬ 0 ∈ used f.kind := by simpa using h2
      unfold fits least most at h3
      have e : ext f 0 = f.seq := by simp [ext]
      rw [e] at h3
      simp [hm] at h3
      omega
    have e : noSeq f = f := by unfold noSeq; rw [← hs]
    rw [e, h]
    rfl
  · refine invalid_of (noSeq f) 0 (by omega) ?_
    rw [hb] at h2
    have hm : 0 ∈ used f.kind := by simpa using h2
    unfold fits least most
    have e : ext (noSeq f) 0 = 0 := by simp [ext, noSeq]
    have e2 : (noSeq f).kind = f.kind := rfl
    rw [e, e2]
    simp [hm, lo]
theorem noSeq_cells (f : Fr) (n : Nat) : (noSeq f).cells n = (f.cells n).set 1 (.int .i64 0) := rfl
theorem noSeq_ok {f : Fr} {w : World} {B : Nat} (h : f.ok w B) : (noSeq f).ok w B := { h with seq := ⟨by show (_ : Int) ≤ 0; decide, by show (0 : Int) ≤ _; decide⟩ }
theorem info25 : (Tryd.prog.info? 25).map (fun i => (i.zero, i.size)) = some (some (.agg [Value.int .i64 0, .int .i64 0, .int .i64 0, .int .i64 0, .int .i64 0, .int .i64 0, .string ⟨#[]⟩, .string ⟨#[]⟩, .float .f64 0, .slice none 0 0].toArray), 10) := by kernel_rfl
theorem cells_one (f : Fr) (n : Nat) : ∀ v ∈ f.cells n, v.oneCell' = true := by
  intro v hv
  unfold Fr.cells at hv
  simp at hv
  rcases hv with rfl | rfl | rfl | rfl | rfl | rfl | rfl | rfl | rfl | rfl <;> rfl
theorem row_all {w : World} {g : Nat} {t : TypeId} {cs : List Value} (h : Row w g t cs) : w.rangeAt g 0 cs := h.range (es := []) (by simp)

set_option maxRecDepth 100000 in
set_option maxHeartbeats 4000000 in
theorem rows_any (f : Fr) (v : Value) (E : Nat → Value) (a : Addr) (w : World) (hv : Hid (v = f.v)) (hE : Env w E 138 (.pointer (some a))) (hf : f.ok w w.heap.size) :
    Calls Tryd.prog 8 #[v] w fun e w' => e = .returned (.bool true) ∧ Below w.heap.size w w' := by
  have HF := Lib.hid hf
  have HE := Lib.hid hE
  have h20 := hE.size
  clear hf hE
  obtain ⟨n, HN⟩ : ∃ n, Hid (f.bs.length = n) := ⟨_, rfl⟩
  have HV : Hid (v = .agg (f.cells n).toArray) := Lib.hid (by rw [hv.out, ← HN.out]; rfl)
  clear hv
  go_enter Tryd.func8, Tryd.ntmps8
  go_wp2_with (first
    | (refine wl_box rfl 25 (.tmp 0) rfl (f.cells n) HV.out ?_
       intro w1 HA1 HB1 HZ1
       have hz1 : w.heap.size < w1.heap.size := by rw [HZ1.out]; omega))
  have HE1 := Lib.hid (HE.out.below h20 HB1.out)
  with_reducible refine (alive_any E a w1 HE1.out).mono ?_
  rintro e w2 ⟨rfl, HV2⟩
  have HB2 := Lib.hid (HB1.out.trans (HV2.out.mono (Nat.le_of_lt hz1)))
  have HA2 := Lib.hid (HA1.out.below HV2.out hz1)
  have hz2 : w1.heap.size ≤ w2.heap.size := HV2.out.size
  clear HV2 HA1 HB1 HZ1 HE1
  go_wp2_with (first
    | (refine wl_load rfl 25 (.tmp 1) rfl w.heap.size rfl 25 _ _ HA2.out under25.choose_spec rfl size25 ?_
       intro vp HVP))
  have HVP2 : Hid (vp = f.v) := Lib.hid (by rw [HVP.out]; unfold Fr.v; rw [HN.out])
  have HFO := Lib.hid ((HF.out.below HB2.out).more HB2.out.size)
  have HE2 := Lib.hid (HE.out.below h20 HB2.out)
  with_reducible refine (check_frame f vp (.iface 138 (.pointer (some a))) w2 HVP2 HE2.out.ef HE2.out.size HFO.out).mono ?_
  rintro e w3 ⟨rfl, HV3⟩
  have HB3 := Lib.hid (HB2.out.trans (HV3.out.mono HB2.out.size))
  have HA3 := Lib.hid (HA2.out.below HV3.out (by omega))
  have hz3 : w2.heap.size ≤ w3.heap.size := HV3.out.size
  clear HV3 HVP HVP2 HFO HE2 HA2 HB2
  cases hval : valid f with
  | false =>
    rw [if_neg (by decide)]
    go_wp2_with fail
    go_ret
    exact ⟨rfl, HB3.out⟩
  | true =>
    rw [if_pos rfl]
    have HVL := Lib.hid hval
    clear hval
    have HLD : Hid ((Tryd.prog.info? 25).map (·.size) = some (f.cells n).length) := Lib.hid size25
    go_wp2_with (first
      | (refine wl_load rfl 25 (.tmp 1) rfl w.heap.size rfl 25 _ _ HA3.out under25.choose_spec rfl size25 ?_
         intro vq HVQ)
      | (refine wl_alloc rfl 25 rfl _ _ info25 ?_
         intro w4 HA4 HB4 HZ4)
      | (refine wl_store rfl 25 (.tmp 3) (.tmp 9) rfl w3.heap.size _ (f.cells n) rfl HVQ.out rfl 25 _ HA4.out HLD.out rfl (cells_one f n) ?_
         intro w5 HR5 HS5 HZ5
         have fz5 : w5.frozen? ⟨w3.heap.size, 1, none⟩ = false := HR5.out.frozen 1
         have cy5 : w5.cell? ⟨w3.heap.size, 1, none⟩ = some (.int .i64 f.seq) := HR5.out.cell 1))
    have hz4 : w3.heap.size < w4.heap.size := by rw [HZ4.out]; omega
    have hz5 : w4.heap.size ≤ w5.heap.size := by rw [HZ5.out]; exact Nat.le_refl _
    have hb35 : Below w3.heap.size w3 (w5.setCell ⟨w3.heap.size, 1, none⟩ (.int .i64 0)) := (HB4.out.trans (HS5.out.below (Nat.le_refl _) (by omega))).setCell (p := ⟨w3.heap.size, 1, none⟩) (Nat.le_refl _) _
    have HR6 : H.Shut (Row (w5.setCell ⟨w3.heap.size, 1, none⟩ (.int .i64 0)) w3.heap.size 25 ((noSeq f).cells n)) := ⟨by rw [noSeq_cells]; exact HR5.out.set 1 _⟩
    have HA6 : H.Shut (Row (w5.setCell ⟨w3.heap.size, 1, none⟩ (.int .i64 0)) w.heap.size 25 (f.cells n)) := ⟨HA3.out.below hb35 (by omega)⟩
    have HB6 := Lib.hid (HB3.out.trans (hb35.mono HB3.out.size))
    generalize w5.setCell ⟨w3.heap.size, 1, none⟩ (.int .i64 0) = w6 at *
    generalize w3.heap.size = g3 at *
    -- REGION
    have hg3 : g3 < w6.heap.size := HR6.out.lt
    have hgw : w.heap.size < w6.heap.size := HA6.out.lt
    have HS : Hid (∀ w', Below w6.heap.size w6 w' → w'.cell? ⟨w.heap.size, 0, none⟩ = some (.int .i64 f.kind) ∧ w'.cell? ⟨w.heap.size, 1, none⟩ = some (.int .i64 f.seq) ∧ w'.rangeAt g3 0 ((noSeq f).cells n)) := Lib.hid (fun w' hb => ⟨(HA6.out.below hb hgw).cell 0, (HA6.out.below hb hgw).cell 1, row_all (HR6.out.below hb hg3)⟩)
    have HZL : Hid ((Tryd.prog.info? 25).map (·.size) = some ((noSeq f).cells n).length) := Lib.hid size25
    obtain ⟨b, HBB⟩ : ∃ b, H.Shut (rowB f.kind = b) := ⟨_, ⟨rfl⟩⟩
    have hgt : decide (0 < f.seq) = b := by rw [← HBB.out]; exact (fits_seq HVL.out).symm
    have HC16 : Hid (∀ w', Calls Tryd.prog 16 #[.int .i64 f.kind] w' fun e w'' => e = .returned (.bool b) ∧ w' = w'') := Lib.hid (fun w' => by rw [← HBB.out]; exact row_any f.kind w')
    have HC15 : Hid (∀ w', Below w6.heap.size w6 w' → Calls Tryd.prog 15 #[.agg ((noSeq f).cells n).toArray] w' fun e w'' => e = .returned (if b = true then .iface 138 (.pointer (some a)) else .nilIface) ∧ Hid (Below w6.heap.size w6 w'')) := Lib.hid (fun w' hb => by
      have hbw : Below w.heap.size w w' := HB6.out.trans (hb.mono HB6.out.size)
      have he := HE.out.below h20 hbw
      have hn : (noSeq f).bs.length = n := HN.out
      refine (check_frame (noSeq f) (.agg ((noSeq f).cells n).toArray) (.iface 138 (.pointer (some a))) w' (Lib.hid (by unfold Fr.v; rw [hn])) he.ef he.size (noSeq_ok ((HF.out.below hbw).more hbw.size))).mono fun e w'' ⟨h1, h2⟩ => ⟨?_, Lib.hid (hb.trans (h2.out.mono hb.size))⟩
      rw [h1, valid_noSeq HVL.out, HBB.out]
      cases b <;> rfl)
    have HBD : Hid (Below w6.heap.size w6 w6.drew) := Lib.hid ((Below.refl _ _).drew)
    clear HA3 HB3 HR5 HS5 HZ5 HA4 HB4 HZ4 fz5 cy5 hb35 HVQ HBB hz4 hz5
    cases b with
    | false =>
      refine wp_region_held_drew (S := fun w' => w'.cell? ⟨w.heap.size, 0, none⟩ = some (.int .i64 f.kind) ∧ w'.cell? ⟨w.heap.size, 1, none⟩ = some (.int .i64 f.seq) ∧ w'.rangeAt g3 0 ((noSeq f).cells n)) (by kernel_rfl) (HS.out _ HBD.out) (fun hHeld => ?_)
      refine wpAnyH_take (i := 0) (v := .pointer (some ⟨w.heap.size, 0, none⟩)) rfl (by kernel_rfl) (by kernel_rfl) (by kernel_rfl) (fun _ _ _ h => h) (Or.inl ⟨by kernel_rfl, ?_⟩) (by assumption) ?_
      · (intro w' hSw; (try dsimp only at hSw); go_simp)
      simp only [Act.put, List.setIfInBounds_toArray, List.set_cons_zero, List.set_cons_succ]
      refine wpAnyH_take (i := 1) (v := .int .i64 f.kind) rfl (by kernel_rfl) (by kernel_rfl) (by kernel_rfl) (fun _ _ _ h => h) (Or.inl ⟨by kernel_rfl, ?_⟩) (by assumption) ?_
      · (intro w' hSw; (try dsimp only at hSw); go_simp)
      simp only [Act.put, List.setIfInBounds_toArray, List.set_cons_zero, List.set_cons_succ]
      refine wpAnyH_take (i := 3) (v := .pointer (some ⟨w.heap.size, 1, none⟩)) rfl (by kernel_rfl) (by kernel_rfl) (by kernel_rfl) (fun _ _ _ h => h) (Or.inl ⟨by kernel_rfl, ?_⟩) (by assumption) ?_
      · (intro w' hSw; (try dsimp only at hSw); go_simp)
      simp only [Act.put, List.setIfInBounds_toArray, List.set_cons_zero, List.set_cons_succ]
      refine wpAnyH_take (i := 4) (v := .int .i64 f.seq) rfl (by kernel_rfl) (by kernel_rfl) (by kernel_rfl) (fun _ _ _ h => h) (Or.inl ⟨by kernel_rfl, ?_⟩) (by assumption) ?_
      · (intro w' hSw; (try dsimp only at hSw); go_simp)
      simp only [Act.put, List.setIfInBounds_toArray, List.set_cons_zero, List.set_cons_succ]
      refine wpAnyH_take (i := 5) (v := .bool false) rfl (by kernel_rfl) (by kernel_rfl) (by kernel_rfl) (fun _ _ _ h => h) (Or.inl ⟨by kernel_rfl, ?_⟩) (by assumption) ?_
      · (intro w' hSw; (try dsimp only at hSw); go_simp)
      simp only [Act.put, List.setIfInBounds_toArray, List.set_cons_zero, List.set_cons_succ]
      refine wpAnyH_ready (rs := [2]) (by kernel_rfl) (by simp) ?_
      refine AllReadyH.cons rfl (fun K hK => ?_) AllReadyH.nil
      go_simp
      with_reducible refine (HC16.out w6.drew).mono ?_
      rintro e _ ⟨rfl, rfl⟩
      refine hK.out _ _ (HS.out _ HBD.out) (fun hHeld => ?_)
      clear hK K
      (try simp only [Act.put, List.setIfInBounds_toArray, List.set_cons_zero, List.set_cons_succ])
      refine wpAnyH_take (i := 6) (v := .bool true) rfl (by kernel_rfl) (by kernel_rfl) (by kernel_rfl) (fun _ _ _ h => h) (Or.inl ⟨by kernel_rfl, ?_⟩) (by assumption) ?_
      · (intro w' hSw; (try dsimp only at hSw); go_simp)
      simp only [Act.put, List.setIfInBounds_toArray, List.set_cons_zero, List.set_cons_succ]
      refine wpAnyH_take (i := 7) (v := .bool true) rfl (by kernel_rfl) (by kernel_rfl) (by kernel_rfl) (fun _ _ _ h => h) (Or.inl ⟨by kernel_rfl, ?_⟩) (by assumption) ?_
      · (intro w' hSw; (try dsimp only at hSw); go_simp)
      simp only [Act.put, List.setIfInBounds_toArray, List.set_cons_zero, List.set_cons_succ]
      refine wpAnyH_take (i := 8) (v := .agg ((noSeq f).cells n).toArray) rfl (by kernel_rfl) (by kernel_rfl) (by kernel_rfl) (fun _ _ _ h => h) (yieldsIf_load_mid (by kernel_rfl) 25 (.tmp 3) rfl g3 0 rfl ((noSeq f).cells n) _ (fun w' hSw => hSw.2.2) under25.choose_spec rfl HZL.out) (by assumption) ?_
      simp only [Act.put, List.setIfInBounds_toArray, List.set_cons_zero, List.set_cons_succ]
      refine wpAnyH_take (i := 11) (v := .pointer (some ⟨w.heap.size, 0, none⟩)) rfl (by kernel_rfl) (by kernel_rfl) (by kernel_rfl) (fun _ _ _ h => h) (Or.inl ⟨by kernel_rfl, ?_⟩) (by assumption) ?_
      · (intro w' hSw; (try dsimp only at hSw); go_simp)
      simp only [Act.put, List.setIfInBounds_toArray, List.set_cons_zero, List.set_cons_succ]
      refine wpAnyH_take (i := 12) (v := .int .i64 f.kind) rfl (by kernel_rfl) (by kernel_rfl) (by kernel_rfl) (fun _ _ _ h => h) (Or.inl ⟨by kernel_rfl, ?_⟩) (by assumption) ?_
      · (intro w' hSw; (try dsimp only at hSw); go_simp)
      simp only [Act.put, List.setIfInBounds_toArray, List.set_cons_zero, List.set_cons_succ]
      refine wpAnyH_ready (rs := [9]) (by kernel_rfl) (by simp) ?_
      refine AllReadyH.cons rfl (fun K hK => ?_) AllReadyH.nil
      go_simp
      with_reducible refine (HC15.out w6.drew HBD.out).mono ?_
      rintro e w7 ⟨rfl, HV7⟩
      rw [if_neg (by decide)]
      refine hK.out _ _ (HS.out _ HV7.out) (fun hHeld => ?_)
      clear hK K
      (try simp only [Act.put, List.setIfInBounds_toArray, List.set_cons_zero, List.set_cons_succ])
      refine wpAnyH_take (i := 10) (v := .bool true) rfl (by kernel_rfl) (by kernel_rfl) (by kernel_rfl) (fun _ _ _ h => h) (Or.inl ⟨by kernel_rfl, ?_⟩) (by assumption) ?_
      · (intro w' hSw; (try dsimp only at hSw); go_simp)
      simp only [Act.put, List.setIfInBounds_toArray, List.set_cons_zero, List.set_cons_succ]
      refine wpAnyH_ready (rs := [13]) (by kernel_rfl) (by simp) ?_
      refine AllReadyH.cons rfl (fun K hK => ?_) AllReadyH.nil
      go_simp
      with_reducible refine (HC16.out w7).mono ?_
      rintro e _ ⟨rfl, rfl⟩
      refine hK.out _ _ (HS.out _ HV7.out) (fun hHeld => ?_)
      clear hK K
      (try simp only [Act.put, List.setIfInBounds_toArray, List.set_cons_zero, List.set_cons_succ])
      refine wpAnyH_take (i := 14) (v := .bool true) rfl (by kernel_rfl) (by kernel_rfl) (by kernel_rfl) (fun _ _ _ h => h) (Or.inl ⟨by kernel_rfl, ?_⟩) (by assumption) ?_
      · (intro w' hSw; (try dsimp only at hSw); go_simp)
      simp only [Act.put, List.setIfInBounds_toArray, List.set_cons_zero, List.set_cons_succ]
      refine wpAnyH_take (i := 15) (v := .bool true) rfl (by kernel_rfl) (by kernel_rfl) (by kernel_rfl) (fun _ _ _ h => h) (Or.inl ⟨by kernel_rfl, ?_⟩) (by assumption) ?_
      · (intro w' hSw; (try dsimp only at hSw); go_simp)
      simp only [Act.put, List.setIfInBounds_toArray, List.set_cons_zero, List.set_cons_succ]
      refine wpAnyH_take (i := 16) (v := .bool true) rfl (by kernel_rfl) (by kernel_rfl) (by kernel_rfl) (fun _ _ _ h => h) (Or.inl ⟨by kernel_rfl, ?_⟩) (by assumption) ?_
      · (intro w' hSw; (try dsimp only at hSw); go_simp)
      simp only [Act.put, List.setIfInBounds_toArray, List.set_cons_zero, List.set_cons_succ]
      refine wpAnyH_take (i := 17) (v := .bool true) rfl (by kernel_rfl) (by kernel_rfl) (by kernel_rfl) (fun _ _ _ h => h) (Or.inl ⟨by kernel_rfl, ?_⟩) (by assumption) ?_
      · (intro w' hSw; (try dsimp only at hSw); go_simp)
      simp only [Act.put, List.setIfInBounds_toArray, List.set_cons_zero, List.set_cons_succ]
      refine wpAnyH_done (by kernel_rfl) ?_ _
      simp only [List.getElem_toArray, List.getElem_cons_succ, List.getElem_cons_zero, Act.put, List.setIfInBounds_toArray, List.set_cons_zero, List.set_cons_succ]
      have HBF := Lib.hid (HB6.out.trans (HV7.out.mono HB6.out.size))
      clear hgt
      go_wp2_with fail
      go_ret
      exact ⟨rfl, HBF.out⟩
    | true =>
      refine wp_region_held_drew (S := fun w' => w'.cell? ⟨w.heap.size, 0, none⟩ = some (.int .i64 f.kind) ∧ w'.cell? ⟨w.heap.size, 1, none⟩ = some (.int .i64 f.seq) ∧ w'.rangeAt g3 0 ((noSeq f).cells n)) (by kernel_rfl) (HS.out _ HBD.out) (fun hHeld => ?_)
      refine wpAnyH_take (i := 0) (v := .pointer (some ⟨w.heap.size, 0, none⟩)) rfl (by kernel_rfl) (by kernel_rfl) (by kernel_rfl) (fun _ _ _ h => h) (Or.inl ⟨by kernel_rfl, ?_⟩) (by assumption) ?_
      · (intro w' hSw; (try dsimp only at hSw); go_simp)
      simp only [Act.put, List.setIfInBounds_toArray, List.set_cons_zero, List.set_cons_succ]
      refine wpAnyH_take (i := 1) (v := .int .i64 f.kind) rfl (by kernel_rfl) (by kernel_rfl) (by kernel_rfl) (fun _ _ _ h => h) (Or.inl ⟨by kernel_rfl, ?_⟩) (by assumption) ?_
      · (intro w' hSw; (try dsimp only at hSw); go_simp)
      simp only [Act.put, List.setIfInBounds_toArray, List.set_cons_zero, List.set_cons_succ]
      refine wpAnyH_take (i := 3) (v := .pointer (some ⟨w.heap.size, 1, none⟩)) rfl (by kernel_rfl) (by kernel_rfl) (by kernel_rfl) (fun _ _ _ h => h) (Or.inl ⟨by kernel_rfl, ?_⟩) (by assumption) ?_
      · (intro w' hSw; (try dsimp only at hSw); go_simp)
      simp only [Act.put, List.setIfInBounds_toArray, List.set_cons_zero, List.set_cons_succ]
      refine wpAnyH_take (i := 4) (v := .int .i64 f.seq) rfl (by kernel_rfl) (by kernel_rfl) (by kernel_rfl) (fun _ _ _ h => h) (Or.inl ⟨by kernel_rfl, ?_⟩) (by assumption) ?_
      · (intro w' hSw; (try dsimp only at hSw); go_simp)
      simp only [Act.put, List.setIfInBounds_toArray, List.set_cons_zero, List.set_cons_succ]
      refine wpAnyH_take (i := 5) (v := .bool true) rfl (by kernel_rfl) (by kernel_rfl) (by kernel_rfl) (fun _ _ _ h => h) (Or.inl ⟨by kernel_rfl, ?_⟩) (by assumption) ?_
      · (intro w' hSw; (try dsimp only at hSw); go_simp)
      simp only [Act.put, List.setIfInBounds_toArray, List.set_cons_zero, List.set_cons_succ]
      refine wpAnyH_ready (rs := [2]) (by kernel_rfl) (by simp) ?_
      refine AllReadyH.cons rfl (fun K hK => ?_) AllReadyH.nil
      go_simp
      with_reducible refine (HC16.out w6.drew).mono ?_
      rintro e _ ⟨rfl, rfl⟩
      refine hK.out _ _ (HS.out _ HBD.out) (fun hHeld => ?_)
      clear hK K
      (try simp only [Act.put, List.setIfInBounds_toArray, List.set_cons_zero, List.set_cons_succ])
      refine wpAnyH_take (i := 6) (v := .bool true) rfl (by kernel_rfl) (by kernel_rfl) (by kernel_rfl) (fun _ _ _ h => h) (Or.inl ⟨by kernel_rfl, ?_⟩) (by assumption) ?_
      · (intro w' hSw; (try dsimp only at hSw); go_simp)
      simp only [Act.put, List.setIfInBounds_toArray, List.set_cons_zero, List.set_cons_succ]
      refine wpAnyH_take (i := 7) (v := .bool true) rfl (by kernel_rfl) (by kernel_rfl) (by kernel_rfl) (fun _ _ _ h => h) (Or.inl ⟨by kernel_rfl, ?_⟩) (by assumption) ?_
      · (intro w' hSw; (try dsimp only at hSw); go_simp)
      simp only [Act.put, List.setIfInBounds_toArray, List.set_cons_zero, List.set_cons_succ]
      refine wpAnyH_take (i := 8) (v := .agg ((noSeq f).cells n).toArray) rfl (by kernel_rfl) (by kernel_rfl) (by kernel_rfl) (fun _ _ _ h => h) (yieldsIf_load_mid (by kernel_rfl) 25 (.tmp 3) rfl g3 0 rfl ((noSeq f).cells n) _ (fun w' hSw => hSw.2.2) under25.choose_spec rfl HZL.out) (by assumption) ?_
      simp only [Act.put, List.setIfInBounds_toArray, List.set_cons_zero, List.set_cons_succ]
      refine wpAnyH_take (i := 11) (v := .pointer (some ⟨w.heap.size, 0, none⟩)) rfl (by kernel_rfl) (by kernel_rfl) (by kernel_rfl) (fun _ _ _ h => h) (Or.inl ⟨by kernel_rfl, ?_⟩) (by assumption) ?_
      · (intro w' hSw; (try dsimp only at hSw); go_simp)
      simp only [Act.put, List.setIfInBounds_toArray, List.set_cons_zero, List.set_cons_succ]
      refine wpAnyH_take (i := 12) (v := .int .i64 f.kind) rfl (by kernel_rfl) (by kernel_rfl) (by kernel_rfl) (fun _ _ _ h => h) (Or.inl ⟨by kernel_rfl, ?_⟩) (by assumption) ?_
      · (intro w' hSw; (try dsimp only at hSw); go_simp)
      simp only [Act.put, List.setIfInBounds_toArray, List.set_cons_zero, List.set_cons_succ]
      refine wpAnyH_ready (rs := [9]) (by kernel_rfl) (by simp) ?_
      refine AllReadyH.cons rfl (fun K hK => ?_) AllReadyH.nil
      go_simp
      with_reducible refine (HC15.out w6.drew HBD.out).mono ?_
      rintro e w7 ⟨rfl, HV7⟩
      rw [if_pos rfl]
      refine hK.out _ _ (HS.out _ HV7.out) (fun hHeld => ?_)
      clear hK K
      (try simp only [Act.put, List.setIfInBounds_toArray, List.set_cons_zero, List.set_cons_succ])
      refine wpAnyH_take (i := 10) (v := .bool false) rfl (by kernel_rfl) (by kernel_rfl) (by kernel_rfl) (fun _ _ _ h => h) (Or.inl ⟨by kernel_rfl, ?_⟩) (by assumption) ?_
      · (intro w' hSw; (try dsimp only at hSw); go_simp)
      simp only [Act.put, List.setIfInBounds_toArray, List.set_cons_zero, List.set_cons_succ]
      refine wpAnyH_ready (rs := [13]) (by kernel_rfl) (by simp) ?_
      refine AllReadyH.cons rfl (fun K hK => ?_) AllReadyH.nil
      go_simp
      with_reducible refine (HC16.out w7).mono ?_
      rintro e _ ⟨rfl, rfl⟩
      refine hK.out _ _ (HS.out _ HV7.out) (fun hHeld => ?_)
      clear hK K
      (try simp only [Act.put, List.setIfInBounds_toArray, List.set_cons_zero, List.set_cons_succ])
      refine wpAnyH_take (i := 14) (v := .bool false) rfl (by kernel_rfl) (by kernel_rfl) (by kernel_rfl) (fun _ _ _ h => h) (Or.inl ⟨by kernel_rfl, ?_⟩) (by assumption) ?_
      · (intro w' hSw; (try dsimp only at hSw); go_simp)
      simp only [Act.put, List.setIfInBounds_toArray, List.set_cons_zero, List.set_cons_succ]
      refine wpAnyH_take (i := 15) (v := .bool true) rfl (by kernel_rfl) (by kernel_rfl) (by kernel_rfl) (fun _ _ _ h => h) (Or.inl ⟨by kernel_rfl, ?_⟩) (by assumption) ?_
      · (intro w' hSw; (try dsimp only at hSw); go_simp)
      simp only [Act.put, List.setIfInBounds_toArray, List.set_cons_zero, List.set_cons_succ]
      refine wpAnyH_take (i := 16) (v := .bool true) rfl (by kernel_rfl) (by kernel_rfl) (by kernel_rfl) (fun _ _ _ h => h) (Or.inl ⟨by kernel_rfl, ?_⟩) (by assumption) ?_
      · (intro w' hSw; (try dsimp only at hSw); go_simp)
      simp only [Act.put, List.setIfInBounds_toArray, List.set_cons_zero, List.set_cons_succ]
      refine wpAnyH_take (i := 17) (v := .bool true) rfl (by kernel_rfl) (by kernel_rfl) (by kernel_rfl) (fun _ _ _ h => h) (Or.inl ⟨by kernel_rfl, ?_⟩) (by assumption) ?_
      · (intro w' hSw; (try dsimp only at hSw); go_simp)
      simp only [Act.put, List.setIfInBounds_toArray, List.set_cons_zero, List.set_cons_succ]
      refine wpAnyH_done (by kernel_rfl) ?_ _
      simp only [List.getElem_toArray, List.getElem_cons_succ, List.getElem_cons_zero, Act.put, List.setIfInBounds_toArray, List.set_cons_zero, List.set_cons_succ]
      have HBF := Lib.hid (HB6.out.trans (HV7.out.mono HB6.out.size))
      clear hgt
      go_wp2_with fail
      go_ret
      exact ⟨rfl, HBF.out⟩
end Go.Proofs.YtlmdafldggbiaaaDoor

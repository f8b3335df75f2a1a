/- The document's Kind and InForm of FAck with Got 7. -/
import Derived.Test.YtmhfhdbaeijcfaaDoorRpu
import Derived.Deep.RegionHeld3
import Derived.Deep.RegionWith
namespace Go.Proofs.YtmhfhdbaeijcfaaDoor
open Go.RowKit
open Go.Proofs.YtmhfhdbaeijcfaaDoor.H
/-- A draw's move, its plain sides by themselves. -/
theorem tke {P : Program} {md : Region.Mode} {ops : Array Oper} {Q : Exit → Act → World → Prop} {S : World → Prop} (i : Nat) {oi : Oper} (v : Value) {fuel : Nat} {listed : Array Bool} {a : Act} {w : World} (hi : ops[i]? = some oi) (hy : YieldsIf P ops S oi v a)
    (h : wpAnyH P md ops Q S fuel (listed.setIfInBounds i true) (a.put oi.dst v) w) (hs : Region.noSelect ops = true := by kernel_rfl) (hf : Region.free md ops listed i = true := by kernel_rfl) (hr : (Region.ready md ops listed).contains i = true := by kernel_rfl)
    (hQ : ∀ c a w, Q (.panic c) (a.put oi.dst v) w → Q (.panic c) a w := by exact fun _ _ _ h => h) (hS : S w := by assumption) : wpAnyH P md ops Q S (fuel + 1) listed a w :=
  wpAnyH_take hi hs hf hr hQ hy hS h
open List (getElem_toArray getElem_cons_succ getElem_cons_zero setIfInBounds_toArray set_cons_zero set_cons_succ)

set_option maxRecDepth 100000 in
set_option maxHeartbeats 2000000 in
theorem rkind_ack (A : Option Addr) (w : World) (hc : F.CsR w w.heap.size A [{ n := 7 }]) : Calls Tryd.prog 52 #[.int .i64 6, .slice A 1 1] w fun e w' => e = .returned (.agg #[.int .i64 6, .int .i64 0, .int .i64 7, .int .i64 0, .int .i64 0, .int .i64 0, .string ⟨#[]⟩, .string ⟨#[]⟩, .float .f64 0, .slice none 0 0]) ∧ Hid (Below w.heap.size w w') := by
  obtain ⟨b, o, rfl, hb, hcell⟩ : ∃ b o, A = some ⟨b, o, none⟩ ∧ b < w.heap.size ∧ w.cell? ⟨b, o, none⟩ = some (.int .i64 7) := by
    rcases hc with h | ⟨b, o, h1, h2, h3⟩
    · cases h
    · exact ⟨b, o, h1, h2, by simpa using (h3 0 _ rfl).1⟩
  have HCL := Lib.hid hcell
  clear hc hcell
  have HLZ : Hid ((Tryd.prog.info? 25).map (·.size) = some zeroC.length) := Lib.hid size25
  have HLA : Hid ((Tryd.prog.info? 25).map (·.size) = some (fAck.cells 0).length) := Lib.hid size25
  go_enter Tryd.func52, Tryd.ntmps52
  go_wp2_with (first
    | (refine H.wl_allocAt rfl 25 rfl 4 rfl _ _ info25' ?_
       intro w1 HA1 HB1 HZ1
       have hz1 : w.heap.size < w1.heap.size := by rw [HZ1.out]; omega)
    | (refine H.wl_allocAt rfl 25 rfl 5 rfl _ _ info25' ?_
       intro w2 HA2 HB2 HZ2
       have hz2 : w1.heap.size < w2.heap.size := by rw [HZ2.out]; omega)
    | (refine wl_store rfl 25 (.tmp 5) (.tmp 7) rfl w1.heap.size _ (kindC 6) rfl rfl rfl 25 _ HA2.out HLZ.out rfl (kindC_one _) ?_
       intro w3 HR3 HS3 HZ3
       have hb13 : Below w1.heap.size w1 w3 := HB2.out.trans (HS3.out.below (Nat.le_refl _) (by omega))
       have hb03 : Below w.heap.size w w3 := HB1.out.trans (hb13.mono (Nat.le_of_lt hz1))
       have c7 : w3.cell? ⟨b, o, none⟩ = some (.int .i64 7) := (hb03.cell (p := ⟨b, o, none⟩) hb).trans HCL.out
       have c2 : w3.cell? ⟨w1.heap.size, 2, none⟩ = some (.int .i64 0) := HR3.out.cell 2
       have f2 : w3.frozen? ⟨w1.heap.size, 2, none⟩ = false := HR3.out.frozen 2
       have HA3 := Lib.hid (HA1.out.below hb13 hz1)
       have HR4 : Hid (Row (w3.setCell ⟨w1.heap.size, 2, none⟩ (.int .i64 7)) w1.heap.size 25 (fAck.cells 0)) := Lib.hid (HR3.out.set 2 _)
       have HS4 : Hid (Sole w1.heap.size w3 (w3.setCell ⟨w1.heap.size, 2, none⟩ (.int .i64 7))) := Lib.hid ((Sole.refl _ _).setCell 2 _)
       have HA4 := Lib.hid (HS4.out.row HA3.out (by omega)))
    | (refine wl_load rfl 25 (.tmp 5) rfl w1.heap.size rfl 25 _ _ HR4.out under25.choose_spec rfl size25 ?_
       intro vq HVQ)
    | (refine wl_store rfl 25 (.tmp 4) (.tmp 168) rfl w.heap.size _ (fAck.cells 0) rfl HVQ.out rfl 25 _ HA4.out HLA.out rfl (cells_ok fAck 0) ?_
       intro w8 HR8 HS8 HZ8))
  refine bodyPost_ret (v := .agg #[.int .i64 6, .int .i64 0, .int .i64 7, .int .i64 0, .int .i64 0, .int .i64 0, .string ⟨#[]⟩, .string ⟨#[]⟩, .float .f64 0, .slice none 0 0]) (results_cell_row Tryd.results52 _ w8 w.heap.size 25 _ (0, 0) _ rfl HR8.out under25.choose_spec rfl HLA.out) rfl ?_
  have hb4 : Below w.heap.size w (w3.setCell ⟨w1.heap.size, 2, none⟩ (.int .i64 7)) := hb03.setCell (p := ⟨w1.heap.size, 2, none⟩) (Nat.le_of_lt hz1) _
  exact ⟨rfl, Lib.hid (hb4.trans (HS8.out.below (Nat.le_refl _) hb4.size))⟩

set_option maxRecDepth 100000 in
set_option maxHeartbeats 4000000 in
theorem rform_ack (hRC : RCells fAck) : RForm fAck true := by
  intro w v hv hf
  have HRC : Hid (∀ (w : World) (v : Value), Hid (v = fAck.v) → fAck.ok w w.heap.size → Calls Tryd.prog 16 #[v] w fun e w' => ∃ A, e = .returned (.tuple #[.string ⟨#[113]⟩, .slice A 1 1]) ∧ Hid (F.CsR w' w'.heap.size A [{ n := 7 }] ∧ Below w.heap.size w w')) := Lib.hid hRC
  have HV : Hid (v = .agg (fAck.cells 0).toArray) := hv
  clear hRC hv hf
  go_enter Tryd.func42, Tryd.ntmps42
  go_wp2_with (first
    | (refine wl_box rfl 25 (.tmp 0) rfl (fAck.cells 0) HV.out ?_
       intro w1 HA1 HB1 HZ1
       have hz1 : w.heap.size < w1.heap.size := by rw [HZ1.out]; omega)
    | (refine wl_load rfl 25 (.tmp 1) rfl w.heap.size rfl 25 _ _ HA1.out under25.choose_spec rfl size25 ?_
       intro vp HVP))
  have HVP2 : Hid (vp = fAck.v) := Lib.hid HVP.out
  with_reducible refine (HRC.out w1 vp HVP2 (fAck_ok _ _)).mono ?_
  rintro e w2 ⟨A2, rfl, HV2⟩
  have HB2 := Lib.hid (HB1.out.trans (HV2.out.2.mono HB1.out.size))
  have HA2 := Lib.hid (HA1.out.below HV2.out.2 hz1)
  have HC2 := Lib.hid HV2.out.1
  have hz2 : w1.heap.size ≤ w2.heap.size := HV2.out.2.size
  clear HV2 HVP HVP2 HA1 HB1 HZ1
  have hg2 : w.heap.size < w2.heap.size := by omega
  have HS : Hid (∀ w', Below w2.heap.size w2 w' → w'.cell? ⟨w.heap.size, 0, none⟩ = some (.int .i64 6) ∧ w'.rangeAt w.heap.size 0 (fAck.cells 0)) := Lib.hid (fun w' hb => ⟨(HA2.out.below hb hg2).cell 0, (HA2.out.below hb hg2).range (es := []) (by simp)⟩)
  have HZL : Hid ((Tryd.prog.info? 25).map (·.size) = some (fAck.cells 0).length) := Lib.hid size25
  have HC52 : Hid (∀ w', Below w2.heap.size w2 w' → Calls Tryd.prog 52 #[.int .i64 6, .slice A2 1 1] w' fun e w'' => e = .returned (.agg #[.int .i64 6, .int .i64 0, .int .i64 7, .int .i64 0, .int .i64 0, .int .i64 0, .string ⟨#[]⟩, .string ⟨#[]⟩, .float .f64 0, .slice none 0 0]) ∧ Hid (Below w2.heap.size w2 w'')) := Lib.hid (fun w' hb => (rkind_ack A2 w' (csr_more (HC2.out.keep hb) hb.size)).mono fun e w'' ⟨h1, h2⟩ => ⟨h1, Lib.hid (hb.trans (h2.out.mono hb.size))⟩)
  have HC22 : Hid (∀ w', Below w2.heap.size w2 w' → Calls Tryd.prog 22 #[.agg (fAck.cells 0).toArray, .agg #[.int .i64 6, .int .i64 0, .int .i64 7, .int .i64 0, .int .i64 0, .int .i64 0, .string ⟨#[]⟩, .string ⟨#[]⟩, .float .f64 0, .slice none 0 0]] w' fun e w'' => e = .returned (.bool true) ∧ Hid (Below w2.heap.size w2 w'')) := Lib.hid (fun w' hb => (rsame_true fAck fAck _ _ w' rfl rfl (fAck_ok _ _) (fAck_ok _ _) rfl).mono fun e w'' ⟨h1, h2⟩ => ⟨h1, Lib.hid (hb.trans (h2.out.mono hb.size))⟩)
  have HBD : Hid (Below w2.heap.size w2 w2.drew) := Lib.hid ((Below.refl _ _).drew)
  go_wp2_with fail
  refine wp_region_held_drew (S := fun w' => w'.cell? ⟨w.heap.size, 0, none⟩ = some (.int .i64 6) ∧ w'.rangeAt w.heap.size 0 (fAck.cells 0)) (by kernel_rfl) (HS.out _ HBD.out) (fun hHeld => ?_)
  refine tke 0 (.string ⟨#[113]⟩) rfl (Or.inl ⟨by kernel_rfl, ?_⟩) ?_
  · (intro w' hSw; (try dsimp only at hSw); go_simp)
  simp only [Act.put, setIfInBounds_toArray]
  refine tke 1 (.bool false) rfl (Or.inl ⟨by kernel_rfl, ?_⟩) ?_
  · (intro w' hSw; (try dsimp only at hSw); go_simp)
  simp only [Act.put]
  refine tke 2 (.bool false) rfl (Or.inl ⟨by kernel_rfl, ?_⟩) ?_
  · (intro w' hSw; (try dsimp only at hSw); go_simp)
  simp only [Act.put]
  refine tke 3 (.agg (fAck.cells 0).toArray) rfl (yieldsIf_load_mid (by kernel_rfl) 25 (.tmp 1) rfl w.heap.size 0 rfl (fAck.cells 0) _ (fun w' hSw => hSw.2) under25.choose_spec rfl HZL.out) ?_
  simp only [Act.put]
  refine tke 4 (.pointer (some ⟨w.heap.size, 0, none⟩)) rfl (Or.inl ⟨by kernel_rfl, ?_⟩) ?_
  · (intro w' hSw; (try dsimp only at hSw); go_simp)
  simp only [Act.put]
  refine tke 5 (.int .i64 6) rfl (Or.inl ⟨by kernel_rfl, ?_⟩) ?_
  · (intro w' hSw; (try dsimp only at hSw); go_simp)
  simp only [Act.put]
  refine tke 6 (.slice A2 1 1) rfl (Or.inl ⟨by kernel_rfl, ?_⟩) ?_
  · (intro w' hSw; (try dsimp only at hSw); go_simp)
  simp only [Act.put]
  refine wpAnyH_ready (rs := [7]) (by kernel_rfl) (by simp) ?_
  refine AllReadyH.cons rfl (fun K hK => ?_) AllReadyH.nil
  go_simp
  with_reducible refine (HC52.out w2.drew HBD.out).mono ?_
  rintro e w3 ⟨rfl, HV3⟩
  refine hK.out _ _ (HS.out _ HV3.out) (fun hHeld => ?_)
  clear hK K
  (try simp only [Act.put, setIfInBounds_toArray, set_cons_zero, set_cons_succ])
  refine wpAnyH_ready (rs := [8]) (by kernel_rfl) (by simp) ?_
  refine AllReadyH.cons rfl (fun K hK => ?_) AllReadyH.nil
  go_simp
  with_reducible refine (HC22.out w3 HV3.out).mono ?_
  rintro e w4 ⟨rfl, HV4⟩
  refine hK.out _ _ (HS.out _ HV4.out) (fun hHeld => ?_)
  clear hK K
  (try simp only [Act.put, setIfInBounds_toArray, set_cons_zero, set_cons_succ])
  refine tke 9 (.bool false) rfl (Or.inl ⟨by kernel_rfl, ?_⟩) ?_
  · (intro w' hSw; (try dsimp only at hSw); go_simp)
  simp only [Act.put, setIfInBounds_toArray]
  refine tke 10 (.bool false) rfl (Or.inl ⟨by kernel_rfl, ?_⟩) ?_
  · (intro w' hSw; (try dsimp only at hSw); go_simp)
  simp only [Act.put]
  refine wpAnyH_done (by kernel_rfl) ?_ _
  simp only [getElem_toArray, getElem_cons_succ, getElem_cons_zero, setIfInBounds_toArray, set_cons_zero, set_cons_succ]
  have HBF := Lib.hid (HB2.out.trans (HV4.out.mono HB2.out.size))
  have HA4 := Lib.hid (HA2.out.below HV4.out hg2)
  have k0 : w4.cell? ⟨w.heap.size, 0, none⟩ = some (.int .i64 6) := HA4.out.cell 0
  have k2 : w4.cell? ⟨w.heap.size, 2, none⟩ = some (.int .i64 7) := HA4.out.cell 2
  have k9 : w4.cell? ⟨w.heap.size, 9, none⟩ = some (.slice none 0 0) := HA4.out.cell 9
  clear hHeld
  go_wp2_with fail
  go_ret
  exact ⟨rfl, HBF⟩
end Go.Proofs.YtmhfhdbaeijcfaaDoor

/- The document's Cells: a kind's layout, and a frame's cells. -/
import Derived.Test.YtmhfhdbaeijcfaaDoorGI
import Derived.Test.YtmhfhdbaeijcfaaDoorSam
import Derived.BigRegion
import Derived.Deep.RegionHeld3
import Derived.Deep.RegionWith
import Derived.Test.YtmhfhdbaeijcfaaDoorRak
import Derived.Deep.DeepCutAuto
namespace Go.Proofs.YtmhfhdbaeijcfaaDoor
open Go.RowKit
open Go.Proofs.YtmhfhdbaeijcfaaDoor.H
open List (getElem_toArray getElem_cons_succ getElem_cons_zero setIfInBounds_toArray set_cons_zero set_cons_succ)
/-! Rows laid one behind the other. -/
theorem al_l {w : World} (b : List Value) (t : TypeId) : Row (w.alloc (.cells b.toArray t)).drew w.heap.size t b := Row.new w b t
theorem al_0 {w : World} {o2 : Obj} (b : List Value) (t : TypeId) : Row ((w.alloc (.cells b.toArray t)).alloc o2).drew w.heap.size t b := (Row.new w b t).alloc _
theorem al_1 {w : World} (o1 : Obj) (b : List Value) (t : TypeId) : Row ((w.alloc o1).alloc (.cells b.toArray t)).drew (w.heap.size + 1) t b := by
  have h := Row.new (w.alloc o1) b t
  have e : (w.alloc o1).heap.size = w.heap.size + 1 := by simp
  rw [e] at h
  exact h
theorem al_30 {w : World} {o2 o3 : Obj} (b : List Value) (t : TypeId) : Row (((w.alloc (.cells b.toArray t)).alloc o2).alloc o3).drew w.heap.size t b := ((Row.new w b t).alloc _).alloc _
theorem al_31 {w : World} {o3 : Obj} (o1 : Obj) (b : List Value) (t : TypeId) : Row (((w.alloc o1).alloc (.cells b.toArray t)).alloc o3).drew (w.heap.size + 1) t b := by
  have h := Row.new (w.alloc o1) b t
  have e : (w.alloc o1).heap.size = w.heap.size + 1 := by simp
  rw [e] at h
  exact h.alloc _
theorem al_32 {w : World} (o1 o2 : Obj) (b : List Value) (t : TypeId) : Row (((w.alloc o1).alloc o2).alloc (.cells b.toArray t)).drew (w.heap.size + 2) t b := by
  have h := Row.new ((w.alloc o1).alloc o2) b t
  have e : ((w.alloc o1).alloc o2).heap.size = w.heap.size + 2 := by simp
  rw [e] at h
  exact h
theorem al_b1 (w : World) (o1 : Obj) : Below w.heap.size w (w.alloc o1).drew := ((Below.refl _ w).alloc (Nat.le_refl _) o1).drew
theorem al_b2 (w : World) (o1 o2 : Obj) : Below w.heap.size w ((w.alloc o1).alloc o2).drew := (((Below.refl _ w).alloc (Nat.le_refl _) o1).alloc (by simp) o2).drew
theorem al_b3 (w : World) (o1 o2 o3 : Obj) : Below w.heap.size w (((w.alloc o1).alloc o2).alloc o3).drew := ((((Below.refl _ w).alloc (Nat.le_refl _) o1).alloc (by simp) o2).alloc (by simp; omega) o3).drew

set_option maxRecDepth 100000 in
set_option maxHeartbeats 4000000 in
theorem rcells_6 (f : Fr) (v : Value) (w : World) (hv : Hid (v = f.v)) (hf : f.ok w w.heap.size) (hk : f.kind = 6) :
    Calls Tryd.prog 16 #[v] w fun e w' => ∃ A, e = .returned (.tuple #[.string ⟨#[113]⟩, .slice A 1 1]) ∧ Hid (F.CsR w' w'.heap.size A [cellF f 1] ∧ Below w.heap.size w w') := by
  obtain ⟨m, HN⟩ : ∃ m, Hid (f.bs.length = m) := ⟨_, rfl⟩
  have HV : Hid (v = .agg (f.cells m).toArray) := Lib.hid (by rw [hv.out, ← HN.out]; rfl)
  have HF := Lib.hid hf
  obtain ⟨s, HS0⟩ : ∃ s, H.Shut (ByteArray.mk f.bs.toArray = s) := ⟨_, ⟨rfl⟩⟩
  clear hv hf
  go_enter Tryd.func16, Tryd.ntmps16
  go_wp2_with (first
    | (refine wl_box rfl 25 (.tmp 0) rfl (f.cells m) HV.out ?_
       intro w1 HA1 HB1 HZ1
       have hz1 : w.heap.size < w1.heap.size := by rw [HZ1.out]; omega))
  have HA_w1 := HA1
  have e1 : w1.cell? ⟨w.heap.size, 1, none⟩ = some (.int .i64 f.seq) := HA_w1.out.cell 1
  have e3 : w1.cell? ⟨w.heap.size, 3, none⟩ = some (.int .i64 f.stream) := HA_w1.out.cell 3
  go_cut [4, 5] (fun s4 s5 wx => ∃ p4 p5 : Nat, s4 = .pointer (some ⟨p4, 0, none⟩) ∧ s5 = .pointer (some ⟨p5, 0, none⟩) ∧ Hid (Row wx p4 89 [.int .i64 f.seq, .int .u64 0, .string ⟨#[]⟩] ∧ Row wx p5 89 [.int .i64 f.stream, .int .u64 0, .string ⟨#[]⟩] ∧ w1.heap.size ≤ p4 ∧ w1.heap.size ≤ p5 ∧ Below w1.heap.size w1 wx))
  case first =>
    go_region
    all_goals
      go_wp2_with fail
      go_meet
      case rel =>
        refine ⟨_, _, rfl, rfl, Lib.hid ⟨?_, ?_, ?_, ?_, ?_⟩⟩
        · first | exact al_0 _ _ | exact al_1 _ _ _ | exact al_30 _ _ | exact al_31 _ _ _ | exact al_32 _ _ _ _
        · first | exact al_0 _ _ | exact al_1 _ _ _ | exact al_30 _ _ | exact al_31 _ _ _ | exact al_32 _ _ _ _
        · first | exact Nat.le_refl _ | exact Nat.le_add_right _ _
        · first | exact Nat.le_refl _ | exact Nat.le_add_right _ _
        · exact al_b2 _ _ _
  case rest =>
    obtain ⟨p4, p5, rfl, rfl, HC_w2⟩ := hcut
    generalize wc = w2 at *
    have HB_w2 := Lib.hid HC_w2.out.2.2.2.2
    have hz_w2 : w1.heap.size ≤ w2.heap.size := HB_w2.out.size
    have HA_w2 := Lib.hid (HA_w1.out.below HB_w2.out (by omega))
    have hlt_w2 : w.heap.size < w2.heap.size := by omega
    have HP4_w2 := Lib.hid HC_w2.out.1
    have hp4 : p4 < w2.heap.size := HP4_w2.out.lt
    have HP5_w2 := Lib.hid HC_w2.out.2.1
    have hp5 : p5 < w2.heap.size := HP5_w2.out.lt
    clear e1 e3 HC_w2
    go_upto_region 2 with fail
    have e2 : w2.cell? ⟨w.heap.size, 2, none⟩ = some (.int .i64 f.got) := HA_w2.out.cell 2
    have e5 : w2.cell? ⟨w.heap.size, 5, none⟩ = some (.int .i64 f.code) := HA_w2.out.cell 5
    go_cut [6, 7] (fun s6 s7 wx => ∃ p6 p7 : Nat, s6 = .pointer (some ⟨p6, 0, none⟩) ∧ s7 = .pointer (some ⟨p7, 0, none⟩) ∧ Hid (Row wx p6 89 [.int .i64 f.got, .int .u64 0, .string ⟨#[]⟩] ∧ Row wx p7 89 [.int .i64 f.code, .int .u64 0, .string ⟨#[]⟩] ∧ w2.heap.size ≤ p6 ∧ w2.heap.size ≤ p7 ∧ Below w2.heap.size w2 wx))
    case first =>
      go_region
      all_goals
        go_wp2_with fail
        go_meet
        case rel =>
          refine ⟨_, _, rfl, rfl, Lib.hid ⟨?_, ?_, ?_, ?_, ?_⟩⟩
          · first | exact al_0 _ _ | exact al_1 _ _ _ | exact al_30 _ _ | exact al_31 _ _ _ | exact al_32 _ _ _ _
          · first | exact al_0 _ _ | exact al_1 _ _ _ | exact al_30 _ _ | exact al_31 _ _ _ | exact al_32 _ _ _ _
          · first | exact Nat.le_refl _ | exact Nat.le_add_right _ _
          · first | exact Nat.le_refl _ | exact Nat.le_add_right _ _
          · exact al_b2 _ _ _
    case rest =>
      obtain ⟨p6, p7, rfl, rfl, HC_w3⟩ := hcut
      generalize wc = w3 at *
      have HB_w3 := Lib.hid HC_w3.out.2.2.2.2
      have hz_w3 : w2.heap.size ≤ w3.heap.size := HB_w3.out.size
      have HA_w3 := Lib.hid (HA_w2.out.below HB_w3.out (by omega))
      have hlt_w3 : w.heap.size < w3.heap.size := by omega
      have HP6_w3 := Lib.hid HC_w3.out.1
      have hp6 : p6 < w3.heap.size := HP6_w3.out.lt
      have HP7_w3 := Lib.hid HC_w3.out.2.1
      have hp7 : p7 < w3.heap.size := HP7_w3.out.lt
      have HP4_w3 := Lib.hid (HP4_w2.out.below HB_w3.out (by omega))
      have HP5_w3 := Lib.hid (HP5_w2.out.below HB_w3.out (by omega))
      clear e2 e5 HC_w3
      go_upto_region 3 with fail
      have hrd3 : Rd w3 w3.heap.size f.ba (f.bs.map bv) := ((HF.out.below HB1.out).rd.below ((HB_w2.out.trans (HB_w3.out.mono hz_w2)).mono (Nat.le_of_lt hz1))).more (by omega)
      have HRD3 := Lib.hid hrd3
      clear hrd3
      have e6 : w3.cell? ⟨w.heap.size, 6, none⟩ = some (.string f.who) := HA_w3.out.cell 6
      have e7 : w3.cell? ⟨w.heap.size, 7, none⟩ = some (.string f.name) := HA_w3.out.cell 7
      have e9 : w3.cell? ⟨w.heap.size, 9, none⟩ = some (.slice f.ba m f.bc) := HA_w3.out.cell 9
      have HS : Hid (∀ w', Below w3.heap.size w3 w' → w'.cell? ⟨w.heap.size, 6, none⟩ = some (.string f.who) ∧ w'.cell? ⟨w.heap.size, 7, none⟩ = some (.string f.name) ∧ w'.cell? ⟨w.heap.size, 9, none⟩ = some (.slice f.ba m f.bc) ∧ (convert 23 9 (.slice f.ba m f.bc)).run Tryd.prog w' = .ok (.string s) w') := Lib.hid (fun w' hb => ⟨(HA_w3.out.below hb hlt_w3).cell 6, (HA_w3.out.below hb hlt_w3).cell 7, (HA_w3.out.below hb hlt_w3).cell 9, by rw [← HS0.out]; exact Rd.toStr (HRD3.out.below hb) m f.bc HN.out⟩)
      have HBD : Hid (Below w3.heap.size w3 w3.drew) := Lib.hid ((Below.refl _ _).drew)
      go_cut [8, 9, 10] (fun s8 s9 s10 wx => ∃ p8 p9 p10 : Nat, s8 = .pointer (some ⟨p8, 0, none⟩) ∧ s9 = .pointer (some ⟨p9, 0, none⟩) ∧ s10 = .pointer (some ⟨p10, 0, none⟩) ∧ Hid (Row wx p8 89 [.int .i64 0, .int .u64 0, .string f.who] ∧ Row wx p9 89 [.int .i64 0, .int .u64 0, .string f.name] ∧ Row wx p10 89 [.int .i64 0, .int .u64 0, .string s] ∧ w3.heap.size ≤ p8 ∧ w3.heap.size ≤ p9 ∧ w3.heap.size ≤ p10 ∧ Below w3.heap.size w3 wx))
      case first =>
        refine wp_region_held_drew (S := fun w' => w'.cell? ⟨w.heap.size, 6, none⟩ = some (.string f.who) ∧ w'.cell? ⟨w.heap.size, 7, none⟩ = some (.string f.name) ∧ w'.cell? ⟨w.heap.size, 9, none⟩ = some (.slice f.ba m f.bc) ∧ (convert 23 9 (.slice f.ba m f.bc)).run Tryd.prog w' = .ok (.string s) w') (by kernel_rfl) (HS.out _ HBD.out) (fun hHeld => ?_)
        refine tke 0 (.pointer (some ⟨w.heap.size, 6, none⟩)) rfl (Or.inl ⟨by kernel_rfl, ?_⟩) ?_
        · (intro w' hSw; (try dsimp only at hSw); go_simp)
        simp only [Act.put, setIfInBounds_toArray]
        refine tke 1 (.string f.who) rfl (Or.inl ⟨by kernel_rfl, ?_⟩) ?_
        · (intro w' hSw; (try dsimp only at hSw); go_simp)
        simp only [Act.put]
        refine tke 2 (.agg #[.int .i64 0, .int .u64 0, .string f.who]) rfl (Or.inl ⟨by kernel_rfl, ?_⟩) ?_
        · (intro w' hSw; (try dsimp only at hSw); go_simp)
        simp only [Act.put]
        refine tke 3 (.pointer (some ⟨w.heap.size, 7, none⟩)) rfl (Or.inl ⟨by kernel_rfl, ?_⟩) ?_
        · (intro w' hSw; (try dsimp only at hSw); go_simp)
        simp only [Act.put]
        refine tke 4 (.string f.name) rfl (Or.inl ⟨by kernel_rfl, ?_⟩) ?_
        · (intro w' hSw; (try dsimp only at hSw); go_simp)
        simp only [Act.put]
        refine tke 5 (.agg #[.int .i64 0, .int .u64 0, .string f.name]) rfl (Or.inl ⟨by kernel_rfl, ?_⟩) ?_
        · (intro w' hSw; (try dsimp only at hSw); go_simp)
        simp only [Act.put]
        refine tke 6 (.pointer (some ⟨w.heap.size, 9, none⟩)) rfl (Or.inl ⟨by kernel_rfl, ?_⟩) ?_
        · (intro w' hSw; (try dsimp only at hSw); go_simp)
        simp only [Act.put]
        refine tke 7 (.slice f.ba m f.bc) rfl (Or.inl ⟨by kernel_rfl, ?_⟩) ?_
        · (intro w' hSw; (try dsimp only at hSw); go_simp)
        simp only [Act.put]
        refine tke 8 (.string s) rfl (Or.inl ⟨by kernel_rfl, ?_⟩) ?_
        · (intro w' hSw; (try dsimp only at hSw); go_simp)
        simp only [Act.put]
        refine tke 9 (.agg #[.int .i64 0, .int .u64 0, .string s]) rfl (Or.inl ⟨by kernel_rfl, ?_⟩) ?_
        · (intro w' hSw; (try dsimp only at hSw); go_simp)
        simp only [Act.put]
        refine wpAnyH_ready (rs := [10, 11, 12]) (by kernel_rfl) (by simp) ?_
        refine (AllReadyH.cons rfl (fun K hK => ?_) (AllReadyH.cons rfl (fun K hK => ?_) (AllReadyH.cons rfl (fun K hK => ?_) AllReadyH.nil)))
        · go_simp
          refine hK.out _ _ (HS.out _ (by first | exact al_b1 _ _ | exact al_b2 _ _ _ | exact al_b3 _ _ _ _)) (fun hHeld => ?_)
          clear hK K
          (try simp only [Act.put, setIfInBounds_toArray, set_cons_zero, set_cons_succ])
          refine wpAnyH_ready (rs := [11, 12]) (by kernel_rfl) (by simp) ?_
          refine (AllReadyH.cons rfl (fun K hK => ?_) (AllReadyH.cons rfl (fun K hK => ?_) AllReadyH.nil))
          · go_simp
            refine hK.out _ _ (HS.out _ (by first | exact al_b1 _ _ | exact al_b2 _ _ _ | exact al_b3 _ _ _ _)) (fun hHeld => ?_)
            clear hK K
            (try simp only [Act.put, setIfInBounds_toArray, set_cons_zero, set_cons_succ])
            refine wpAnyH_ready (rs := [12]) (by kernel_rfl) (by simp) ?_
            refine (AllReadyH.cons rfl (fun K hK => ?_) AllReadyH.nil)
            · go_simp
              refine hK.out _ _ (HS.out _ (by first | exact al_b1 _ _ | exact al_b2 _ _ _ | exact al_b3 _ _ _ _)) (fun hHeld => ?_)
              clear hK K
              (try simp only [Act.put, setIfInBounds_toArray, set_cons_zero, set_cons_succ])
              refine wpAnyH_ready (rs := [13]) (by kernel_rfl) (by simp) ?_
              refine AllReadyH.cons rfl (fun K hK => ?_) AllReadyH.nil
              go_simp
              refine hK.out _ _ (HS.out _ (by first | exact al_b3 _ _ _ _)) (fun hHeld => ?_)
              clear hK K
              (try simp only [Act.put, setIfInBounds_toArray, set_cons_zero, set_cons_succ])
              refine wpAnyH_ready (rs := [14]) (by kernel_rfl) (by simp) ?_
              refine AllReadyH.cons rfl (fun K hK => ?_) AllReadyH.nil
              go_simp
              refine hK.out _ _ (HS.out _ (by first | exact al_b3 _ _ _ _)) (fun hHeld => ?_)
              clear hK K
              (try simp only [Act.put, setIfInBounds_toArray, set_cons_zero, set_cons_succ])
              refine wpAnyH_ready (rs := [15]) (by kernel_rfl) (by simp) ?_
              refine AllReadyH.cons rfl (fun K hK => ?_) AllReadyH.nil
              go_simp
              refine hK.out _ _ (HS.out _ (by first | exact al_b3 _ _ _ _)) (fun hHeld => ?_)
              clear hK K
              (try simp only [Act.put, setIfInBounds_toArray, set_cons_zero, set_cons_succ])
              refine wpAnyH_done (by kernel_rfl) ?_ _
              try simp only [getElem_toArray, getElem_cons_succ, getElem_cons_zero, Act.put, setIfInBounds_toArray, set_cons_zero, set_cons_succ]
              clear hHeld
              go_wp2_with fail
              go_meet
              case rel =>
                refine ⟨_, _, _, rfl, rfl, rfl, Lib.hid ⟨?_, ?_, ?_, ?_, ?_, ?_, ?_⟩⟩
                · first | exact al_30 _ _ | exact al_31 _ _ _ | exact al_32 _ _ _ _
                · first | exact al_30 _ _ | exact al_31 _ _ _ | exact al_32 _ _ _ _
                · first | exact al_30 _ _ | exact al_31 _ _ _ | exact al_32 _ _ _ _
                · first | exact Nat.le_refl _ | exact Nat.le_add_right _ _ | omega
                · first | exact Nat.le_refl _ | exact Nat.le_add_right _ _ | omega
                · first | exact Nat.le_refl _ | exact Nat.le_add_right _ _ | omega
                · exact al_b3 _ _ _ _
          · go_simp
            refine hK.out _ _ (HS.out _ (by first | exact al_b1 _ _ | exact al_b2 _ _ _ | exact al_b3 _ _ _ _)) (fun hHeld => ?_)
            clear hK K
            (try simp only [Act.put, setIfInBounds_toArray, set_cons_zero, set_cons_succ])
            refine wpAnyH_ready (rs := [11]) (by kernel_rfl) (by simp) ?_
            refine (AllReadyH.cons rfl (fun K hK => ?_) AllReadyH.nil)
            · go_simp
              refine hK.out _ _ (HS.out _ (by first | exact al_b1 _ _ | exact al_b2 _ _ _ | exact al_b3 _ _ _ _)) (fun hHeld => ?_)
              clear hK K
              (try simp only [Act.put, setIfInBounds_toArray, set_cons_zero, set_cons_succ])
              refine wpAnyH_ready (rs := [13]) (by kernel_rfl) (by simp) ?_
              refine AllReadyH.cons rfl (fun K hK => ?_) AllReadyH.nil
              go_simp
              refine hK.out _ _ (HS.out _ (by first | exact al_b3 _ _ _ _)) (fun hHeld => ?_)
              clear hK K
              (try simp only [Act.put, setIfInBounds_toArray, set_cons_zero, set_cons_succ])
              refine wpAnyH_ready (rs := [14]) (by kernel_rfl) (by simp) ?_
              refine AllReadyH.cons rfl (fun K hK => ?_) AllReadyH.nil
              go_simp
              refine hK.out _ _ (HS.out _ (by first | exact al_b3 _ _ _ _)) (fun hHeld => ?_)
              clear hK K
              (try simp only [Act.put, setIfInBounds_toArray, set_cons_zero, set_cons_succ])
              refine wpAnyH_ready (rs := [15]) (by kernel_rfl) (by simp) ?_
              refine AllReadyH.cons rfl (fun K hK => ?_) AllReadyH.nil
              go_simp
              refine hK.out _ _ (HS.out _ (by first | exact al_b3 _ _ _ _)) (fun hHeld => ?_)
              clear hK K
              (try simp only [Act.put, setIfInBounds_toArray, set_cons_zero, set_cons_succ])
              refine wpAnyH_done (by kernel_rfl) ?_ _
              try simp only [getElem_toArray, getElem_cons_succ, getElem_cons_zero, Act.put, setIfInBounds_toArray, set_cons_zero, set_cons_succ]
              clear hHeld
              go_wp2_with fail
              go_meet
              case rel =>
                refine ⟨_, _, _, rfl, rfl, rfl, Lib.hid ⟨?_, ?_, ?_, ?_, ?_, ?_, ?_⟩⟩
                · first | exact al_30 _ _ | exact al_31 _ _ _ | exact al_32 _ _ _ _
                · first | exact al_30 _ _ | exact al_31 _ _ _ | exact al_32 _ _ _ _
                · first | exact al_30 _ _ | exact al_31 _ _ _ | exact al_32 _ _ _ _
                · first | exact Nat.le_refl _ | exact Nat.le_add_right _ _ | omega
                · first | exact Nat.le_refl _ | exact Nat.le_add_right _ _ | omega
                · first | exact Nat.le_refl _ | exact Nat.le_add_right _ _ | omega
                · exact al_b3 _ _ _ _
        · go_simp
          refine hK.out _ _ (HS.out _ (by first | exact al_b1 _ _ | exact al_b2 _ _ _ | exact al_b3 _ _ _ _)) (fun hHeld => ?_)
          clear hK K
          (try simp only [Act.put, setIfInBounds_toArray, set_cons_zero, set_cons_succ])
          refine wpAnyH_ready (rs := [10, 12]) (by kernel_rfl) (by simp) ?_
          refine (AllReadyH.cons rfl (fun K hK => ?_) (AllReadyH.cons rfl (fun K hK => ?_) AllReadyH.nil))
          · go_simp
            refine hK.out _ _ (HS.out _ (by first | exact al_b1 _ _ | exact al_b2 _ _ _ | exact al_b3 _ _ _ _)) (fun hHeld => ?_)
            clear hK K
            (try simp only [Act.put, setIfInBounds_toArray, set_cons_zero, set_cons_succ])
            refine wpAnyH_ready (rs := [12]) (by kernel_rfl) (by simp) ?_
            refine (AllReadyH.cons rfl (fun K hK => ?_) AllReadyH.nil)
            · go_simp
              refine hK.out _ _ (HS.out _ (by first | exact al_b1 _ _ | exact al_b2 _ _ _ | exact al_b3 _ _ _ _)) (fun hHeld => ?_)
              clear hK K
              (try simp only [Act.put, setIfInBounds_toArray, set_cons_zero, set_cons_succ])
              refine wpAnyH_ready (rs := [13]) (by kernel_rfl) (by simp) ?_
              refine AllReadyH.cons rfl (fun K hK => ?_) AllReadyH.nil
              go_simp
              refine hK.out _ _ (HS.out _ (by first | exact al_b3 _ _ _ _)) (fun hHeld => ?_)
              clear hK K
              (try simp only [Act.put, setIfInBounds_toArray, set_cons_zero, set_cons_succ])
              refine wpAnyH_ready (rs := [14]) (by kernel_rfl) (by simp) ?_
              refine AllReadyH.cons rfl (fun K hK => ?_) AllReadyH.nil
              go_simp
              refine hK.out _ _ (HS.out _ (by first | exact al_b3 _ _ _ _)) (fun hHeld => ?_)
              clear hK K
              (try simp only [Act.put, setIfInBounds_toArray, set_cons_zero, set_cons_succ])
              refine wpAnyH_ready (rs := [15]) (by kernel_rfl) (by simp) ?_
              refine AllReadyH.cons rfl (fun K hK => ?_) AllReadyH.nil
              go_simp
              refine hK.out _ _ (HS.out _ (by first | exact al_b3 _ _ _ _)) (fun hHeld => ?_)
              clear hK K
              (try simp only [Act.put, setIfInBounds_toArray, set_cons_zero, set_cons_succ])
              refine wpAnyH_done (by kernel_rfl) ?_ _
              try simp only [getElem_toArray, getElem_cons_succ, getElem_cons_zero, Act.put, setIfInBounds_toArray, set_cons_zero, set_cons_succ]
              clear hHeld
              go_wp2_with fail
              go_meet
              case rel =>
                refine ⟨_, _, _, rfl, rfl, rfl, Lib.hid ⟨?_, ?_, ?_, ?_, ?_, ?_, ?_⟩⟩
                · first | exact al_30 _ _ | exact al_31 _ _ _ | exact al_32 _ _ _ _
                · first | exact al_30 _ _ | exact al_31 _ _ _ | exact al_32 _ _ _ _
                · first | exact al_30 _ _ | exact al_31 _ _ _ | exact al_32 _ _ _ _
                · first | exact Nat.le_refl _ | exact Nat.le_add_right _ _ | omega
                · first | exact Nat.le_refl _ | exact Nat.le_add_right _ _ | omega
                · first | exact Nat.le_refl _ | exact Nat.le_add_right _ _ | omega
                · exact al_b3 _ _ _ _
          · go_simp
            refine hK.out _ _ (HS.out _ (by first | exact al_b1 _ _ | exact al_b2 _ _ _ | exact al_b3 _ _ _ _)) (fun hHeld => ?_)
            clear hK K
            (try simp only [Act.put, setIfInBounds_toArray, set_cons_zero, set_cons_succ])
            refine wpAnyH_ready (rs := [10]) (by kernel_rfl) (by simp) ?_
            refine (AllReadyH.cons rfl (fun K hK => ?_) AllReadyH.nil)
            · go_simp
              refine hK.out _ _ (HS.out _ (by first | exact al_b1 _ _ | exact al_b2 _ _ _ | exact al_b3 _ _ _ _)) (fun hHeld => ?_)
              clear hK K
              (try simp only [Act.put, setIfInBounds_toArray, set_cons_zero, set_cons_succ])
              refine wpAnyH_ready (rs := [13]) (by kernel_rfl) (by simp) ?_
              refine AllReadyH.cons rfl (fun K hK => ?_) AllReadyH.nil
              go_simp
              refine hK.out _ _ (HS.out _ (by first | exact al_b3 _ _ _ _)) (fun hHeld => ?_)
              clear hK K
              (try simp only [Act.put, setIfInBounds_toArray, set_cons_zero, set_cons_succ])
              refine wpAnyH_ready (rs := [14]) (by kernel_rfl) (by simp) ?_
              refine AllReadyH.cons rfl (fun K hK => ?_) AllReadyH.nil
              go_simp
              refine hK.out _ _ (HS.out _ (by first | exact al_b3 _ _ _ _)) (fun hHeld => ?_)
              clear hK K
              (try simp only [Act.put, setIfInBounds_toArray, set_cons_zero, set_cons_succ])
              refine wpAnyH_ready (rs := [15]) (by kernel_rfl) (by simp) ?_
              refine AllReadyH.cons rfl (fun K hK => ?_) AllReadyH.nil
              go_simp
              refine hK.out _ _ (HS.out _ (by first | exact al_b3 _ _ _ _)) (fun hHeld => ?_)
              clear hK K
              (try simp only [Act.put, setIfInBounds_toArray, set_cons_zero, set_cons_succ])
              refine wpAnyH_done (by kernel_rfl) ?_ _
              try simp only [getElem_toArray, getElem_cons_succ, getElem_cons_zero, Act.put, setIfInBounds_toArray, set_cons_zero, set_cons_succ]
              clear hHeld
              go_wp2_with fail
              go_meet
              case rel =>
                refine ⟨_, _, _, rfl, rfl, rfl, Lib.hid ⟨?_, ?_, ?_, ?_, ?_, ?_, ?_⟩⟩
                · first | exact al_30 _ _ | exact al_31 _ _ _ | exact al_32 _ _ _ _
                · first | exact al_30 _ _ | exact al_31 _ _ _ | exact al_32 _ _ _ _
                · first | exact al_30 _ _ | exact al_31 _ _ _ | exact al_32 _ _ _ _
                · first | exact Nat.le_refl _ | exact Nat.le_add_right _ _ | omega
                · first | exact Nat.le_refl _ | exact Nat.le_add_right _ _ | omega
                · first | exact Nat.le_refl _ | exact Nat.le_add_right _ _ | omega
                · exact al_b3 _ _ _ _
        · go_simp
          refine hK.out _ _ (HS.out _ (by first | exact al_b1 _ _ | exact al_b2 _ _ _ | exact al_b3 _ _ _ _)) (fun hHeld => ?_)
          clear hK K
          (try simp only [Act.put, setIfInBounds_toArray, set_cons_zero, set_cons_succ])
          refine wpAnyH_ready (rs := [10, 11]) (by kernel_rfl) (by simp) ?_
          refine (AllReadyH.cons rfl (fun K hK => ?_) (AllReadyH.cons rfl (fun K hK => ?_) AllReadyH.nil))
          · go_simp
            refine hK.out _ _ (HS.out _ (by first | exact al_b1 _ _ | exact al_b2 _ _ _ | exact al_b3 _ _ _ _)) (fun hHeld => ?_)
            clear hK K
            (try simp only [Act.put, setIfInBounds_toArray, set_cons_zero, set_cons_succ])
            refine wpAnyH_ready (rs := [11]) (by kernel_rfl) (by simp) ?_
            refine (AllReadyH.cons rfl (fun K hK => ?_) AllReadyH.nil)
            · go_simp
              refine hK.out _ _ (HS.out _ (by first | exact al_b1 _ _ | exact al_b2 _ _ _ | exact al_b3 _ _ _ _)) (fun hHeld => ?_)
              clear hK K
              (try simp only [Act.put, setIfInBounds_toArray, set_cons_zero, set_cons_succ])
              refine wpAnyH_ready (rs := [13]) (by kernel_rfl) (by simp) ?_
              refine AllReadyH.cons rfl (fun K hK => ?_) AllReadyH.nil
              go_simp
              refine hK.out _ _ (HS.out _ (by first | exact al_b3 _ _ _ _)) (fun hHeld => ?_)
              clear hK K
              (try simp only [Act.put, setIfInBounds_toArray, set_cons_zero, set_cons_succ])
              refine wpAnyH_ready (rs := [14]) (by kernel_rfl) (by simp) ?_
              refine AllReadyH.cons rfl (fun K hK => ?_) AllReadyH.nil
              go_simp
              refine hK.out _ _ (HS.out _ (by first | exact al_b3 _ _ _ _)) (fun hHeld => ?_)
              clear hK K
              (try simp only [Act.put, setIfInBounds_toArray, set_cons_zero, set_cons_succ])
              refine wpAnyH_ready (rs := [15]) (by kernel_rfl) (by simp) ?_
              refine AllReadyH.cons rfl (fun K hK => ?_) AllReadyH.nil
              go_simp
              refine hK.out _ _ (HS.out _ (by first | exact al_b3 _ _ _ _)) (fun hHeld => ?_)
              clear hK K
              (try simp only [Act.put, setIfInBounds_toArray, set_cons_zero, set_cons_succ])
              refine wpAnyH_done (by kernel_rfl) ?_ _
              try simp only [getElem_toArray, getElem_cons_succ, getElem_cons_zero, Act.put, setIfInBounds_toArray, set_cons_zero, set_cons_succ]
              clear hHeld
              go_wp2_with fail
              go_meet
              case rel =>
                refine ⟨_, _, _, rfl, rfl, rfl, Lib.hid ⟨?_, ?_, ?_, ?_, ?_, ?_, ?_⟩⟩
                · first | exact al_30 _ _ | exact al_31 _ _ _ | exact al_32 _ _ _ _
                · first | exact al_30 _ _ | exact al_31 _ _ _ | exact al_32 _ _ _ _
                · first | exact al_30 _ _ | exact al_31 _ _ _ | exact al_32 _ _ _ _
                · first | exact Nat.le_refl _ | exact Nat.le_add_right _ _ | omega
                · first | exact Nat.le_refl _ | exact Nat.le_add_right _ _ | omega
                · first | exact Nat.le_refl _ | exact Nat.le_add_right _ _ | omega
                · exact al_b3 _ _ _ _
          · go_simp
            refine hK.out _ _ (HS.out _ (by first | exact al_b1 _ _ | exact al_b2 _ _ _ | exact al_b3 _ _ _ _)) (fun hHeld => ?_)
            clear hK K
            (try simp only [Act.put, setIfInBounds_toArray, set_cons_zero, set_cons_succ])
            refine wpAnyH_ready (rs := [10]) (by kernel_rfl) (by simp) ?_
            refine (AllReadyH.cons rfl (fun K hK => ?_) AllReadyH.nil)
            · go_simp
              refine hK.out _ _ (HS.out _ (by first | exact al_b1 _ _ | exact al_b2 _ _ _ | exact al_b3 _ _ _ _)) (fun hHeld => ?_)
              clear hK K
              (try simp only [Act.put, setIfInBounds_toArray, set_cons_zero, set_cons_succ])
              refine wpAnyH_ready (rs := [13]) (by kernel_rfl) (by simp) ?_
              refine AllReadyH.cons rfl (fun K hK => ?_) AllReadyH.nil
              go_simp
              refine hK.out _ _ (HS.out _ (by first | exact al_b3 _ _ _ _)) (fun hHeld => ?_)
              clear hK K
              (try simp only [Act.put, setIfInBounds_toArray, set_cons_zero, set_cons_succ])
              refine wpAnyH_ready (rs := [14]) (by kernel_rfl) (by simp) ?_
              refine AllReadyH.cons rfl (fun K hK => ?_) AllReadyH.nil
              go_simp
              refine hK.out _ _ (HS.out _ (by first | exact al_b3 _ _ _ _)) (fun hHeld => ?_)
              clear hK K
              (try simp only [Act.put, setIfInBounds_toArray, set_cons_zero, set_cons_succ])
              refine wpAnyH_ready (rs := [15]) (by kernel_rfl) (by simp) ?_
              refine AllReadyH.cons rfl (fun K hK => ?_) AllReadyH.nil
              go_simp
              refine hK.out _ _ (HS.out _ (by first | exact al_b3 _ _ _ _)) (fun hHeld => ?_)
              clear hK K
              (try simp only [Act.put, setIfInBounds_toArray, set_cons_zero, set_cons_succ])
              refine wpAnyH_done (by kernel_rfl) ?_ _
              try simp only [getElem_toArray, getElem_cons_succ, getElem_cons_zero, Act.put, setIfInBounds_toArray, set_cons_zero, set_cons_succ]
              clear hHeld
              go_wp2_with fail
              go_meet
              case rel =>
                refine ⟨_, _, _, rfl, rfl, rfl, Lib.hid ⟨?_, ?_, ?_, ?_, ?_, ?_, ?_⟩⟩
                · first | exact al_30 _ _ | exact al_31 _ _ _ | exact al_32 _ _ _ _
                · first | exact al_30 _ _ | exact al_31 _ _ _ | exact al_32 _ _ _ _
                · first | exact al_30 _ _ | exact al_31 _ _ _ | exact al_32 _ _ _ _
                · first | exact Nat.le_refl _ | exact Nat.le_add_right _ _ | omega
                · first | exact Nat.le_refl _ | exact Nat.le_add_right _ _ | omega
                · first | exact Nat.le_refl _ | exact Nat.le_add_right _ _ | omega
                · exact al_b3 _ _ _ _
      case rest =>
        obtain ⟨p8, p9, p10, rfl, rfl, rfl, HC_w4⟩ := hcut
        generalize wc = w4 at *
        have HB_w4 := Lib.hid HC_w4.out.2.2.2.2.2.2
        have hz_w4 : w3.heap.size ≤ w4.heap.size := HB_w4.out.size
        have HA_w4 := Lib.hid (HA_w3.out.below HB_w4.out (by omega))
        have HP8_w4 := Lib.hid HC_w4.out.1
        have HP9_w4 := Lib.hid HC_w4.out.2.1
        have HP10_w4 := Lib.hid HC_w4.out.2.2.1
        have HP4_w4 := Lib.hid (HP4_w3.out.below HB_w4.out (by omega))
        have HP5_w4 := Lib.hid (HP5_w3.out.below HB_w4.out (by omega))
        have HP6_w4 := Lib.hid (HP6_w3.out.below HB_w4.out (by omega))
        have HP7_w4 := Lib.hid (HP7_w3.out.below HB_w4.out (by omega))
        have hlt_w4 : w.heap.size < w4.heap.size := by omega
        have HB4 : Hid (Below w.heap.size w w4) := Lib.hid (HB1.out.trans (((HB_w2.out.trans (HB_w3.out.mono hz_w2)).trans (HB_w4.out.mono (Nat.le_trans hz_w2 hz_w3))).mono (Nat.le_of_lt hz1)))
        have ck : w4.cell? ⟨w.heap.size, 0, none⟩ = some (.int .i64 6) := (HA_w4.out.cell 0).trans (by show some (Value.int .i64 f.kind) = _; rw [hk])
        have g0 : w4.cell? ⟨p6, 0, none⟩ = some (.int .i64 f.got) := HP6_w4.out.cell 0
        have g1 : w4.cell? ⟨p6, 1, none⟩ = some (.int .u64 0) := HP6_w4.out.cell 1
        have g2 : w4.cell? ⟨p6, 2, none⟩ = some (.string ⟨#[]⟩) := HP6_w4.out.cell 2
        clear HC_w4 HP8_w4 HP9_w4 HP10_w4 HP4_w4 HP5_w4 HP7_w4 HS HBD
        go_wp2_with fail
        go_region
        all_goals
          change Exit.then _ _ _ _ (w4.alloc (.cells #[.int .i64 f.got, .int .u64 0, .string ⟨#[]⟩] 89)).drew
          have HN5 : Hid (Row (w4.alloc (.cells #[.int .i64 f.got, .int .u64 0, .string ⟨#[]⟩] 89)).drew w4.heap.size 89 [.int .i64 f.got, .int .u64 0, .string ⟨#[]⟩]) := Lib.hid (al_l _ _)
          have HB5 : Hid (Below w4.heap.size w4 (w4.alloc (.cells #[.int .i64 f.got, .int .u64 0, .string ⟨#[]⟩] 89)).drew) := Lib.hid (al_b1 _ _)
          generalize (w4.alloc (.cells #[.int .i64 f.got, .int .u64 0, .string ⟨#[]⟩] 89)).drew = w5 at *
          go_wp2_with fail
          go_ret2
          refine ⟨_, rfl, Lib.hid ⟨.inr ⟨w4.heap.size, 0, rfl, HN5.out.lt, fun q x hq => ?_⟩, HB4.out.trans (HB5.out.mono HB4.out.size)⟩⟩
          match q with
          | 0 =>
            have ex : x = { n := f.got } := by
              have h1 : cellF f 1 = x := by simpa using hq
              rw [← h1]
              simp [cellF, ext]
            subst ex
            exact ⟨by simpa using HN5.out.cell 0, by simpa using HN5.out.cell 1, by simpa using HN5.out.cell 2⟩
          | q + 1 => simp at hq
theorem rcells_ack : RCells fAck := fun w v hv hf => rcells_6 fAck v w hv hf rfl
end Go.Proofs.YtmhfhdbaeijcfaaDoor

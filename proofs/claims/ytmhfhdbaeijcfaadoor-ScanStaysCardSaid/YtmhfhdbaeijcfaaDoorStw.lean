/- The law ScanStays: a broken scanner stays so, whatever comes. -/
import Derived.Test.YtmhfhdbaeijcfaaDoorStb
namespace Go.Proofs.YtmhfhdbaeijcfaaDoor
open Go.RowKit
open Go.Proofs.YtmhfhdbaeijcfaaDoor.H

theorem cut_ff : Cut ([] ++ [255, 255]) [] [] true := Cut.size [255, 255] (by simp) (by unfold badSize; decide)
theorem slv_parts (ps : List Part) : slv (ps.map Part.v) := fun v hv => by
  obtain ⟨p, _, rfl⟩ := List.mem_map.1 hv
  exact ⟨_, _, _, rfl⟩
set_option maxRecDepth 100000 in
set_option maxHeartbeats 4000000 in
theorem stays_any (n c m d : Nat) (A D : Option Addr) (gs : List Fr) (ps : List Part) (E : Nat → Value) (a ab : Addr) (w : World) (hE : Env w E 159 (.pointer (some a))) (hE5 : F.Errs w E) (hB : w.cell? ⟨1, 0, none⟩ = some (.iface 159 (.pointer (some ab))))
    (hn : gs.length = n) (hnm : n ≤ 9223372036854775807) (hg : FrsAt w w.heap.size A gs) (hm : ps.length = m) (hmc : m ≤ d) (hmm : d ≤ 9223372036854775807) (hp : Parts w w.heap.size D ps) :
    Calls Tryd.prog 10 #[.slice A n c, .slice D m d] w fun e w' => e = .returned (.bool true) ∧ Below w.heap.size w w' := by
  have HE := Lib.hid hE
  have HE5 := Lib.hid hE5
  have HBR := Lib.hid hB
  have HN := Lib.hid hn
  have HG := Lib.hid hg
  have HM := Lib.hid hm
  have HP := Lib.hid hp
  have h20 := hE.size
  clear hE hE5 hB hn hg hm hp
  go_enter Tryd.func10, Tryd.ntmps10
  go_wp2_with fail
  with_reducible refine (alive6_any E a w HE.out HE5.out).mono ?_
  rintro e w1 ⟨rfl, HB1⟩
  have hz1 : w.heap.size ≤ w1.heap.size := HB1.out.size
  have HP1 : Hid (Parts w1 w1.heap.size D ps) := Lib.hid ((HP.out.below HB1.out).more hz1)
  go_wp2_with fail
  with_reducible refine (few6_any m d D ps w1 HM.out (by omega) HP1.out).mono ?_
  rintro e _ ⟨rfl, rfl⟩
  cases hcnt : countP ps 0 with
  | false =>
    go_wp2_with fail
    go_ret
    exact ⟨rfl, HB1.out⟩
  | true =>
    have hm2 : m ≤ 20000 := by
      have h1 := countP_small ps 0 hcnt
      rw [HM.out] at h1
      omega
    clear hcnt
    go_wp2_with fail
    with_reducible refine (snew_any w1).mono ?_
    rintro e w2 ⟨rfl, HV2⟩
    obtain ⟨sg, HSG⟩ : ∃ sg, H.Shut (w1.heap.size = sg) := ⟨_, ⟨rfl⟩⟩
    rw [HSG.out] at HV2 ⊢
    have hsg : w.heap.size ≤ sg := by rw [← HSG.out]; exact hz1
    have h20s : 20 ≤ sg := by omega
    have hz2 : sg < w2.heap.size := by rw [HV2.out.2.2]; omega
    have HS2 := Lib.hid HV2.out.1
    have HB12 : Hid (Below sg w1 w2) := Lib.hid HV2.out.2.1
    have HB2 := Lib.hid (HB1.out.trans (HB12.out.mono hsg))
    clear HV2
    have HOF : Hid (Off (w2.alloc (.cells #[.int .u8 255, .int .u8 255] 5)) sg none (some ⟨w2.heap.size, 0, none⟩) [255, 255]) := Lib.hid ⟨(Row.new w2 [.int .u8 255, .int .u8 255] 5).rd _ (by simp), fun _ ad e => by
      injection e with e
      rw [← e]
      exact ⟨by show w2.heap.size ≠ sg; omega, fun e2 => by cases e2⟩⟩
    have HBA : Hid (Below w2.heap.size w2 (w2.alloc (.cells #[.int .u8 255, .int .u8 255] 5))) := Lib.hid (below_alloc w2 _)
    have HWA := Lib.hid (HB2.out.trans (HBA.out.mono HB2.out.size))
    have HFE := Lib.hid (feedx_any sg sg 2 2 none [] [255, 255] (some ⟨w2.heap.size, 0, none⟩) E 159 (.pointer (some a)) (w2.alloc (.cells #[.int .u8 255, .int .u8 255] 5)) (HE.out.below h20 HWA.out) (HE5.out.below h20 HWA.out) h20s (HS2.out.below HBA.out) (.inl (by simp)) rfl (Nat.le_refl _) (by decide) (by decide) HOF.out [] [] true cut_ff)
    have eN : errV 159 (.pointer (some a)) true = .iface 159 (.pointer (some a)) := rfl
    rw [eN] at HFE
    go_wp2_with fail
    with_reducible refine HFE.out.mono ?_
    rintro e w3 ⟨fr, v3, h3, rfl, HV3⟩
    have HB3 : Hid (Below w.heap.size w w3) := Lib.hid (HWA.out.trans (HV3.out.2.2.2.below HWA.out.size hsg (fun q e => by cases e)))
    have HS3 := Lib.hid HV3.out.2.2.1
    have ce : w3.cell? ⟨0, 0, none⟩ = some (.iface 159 (.pointer (some a))) := (HE.out.below h20 HB3.out).ef
    have hen := fun W : World => err_neq a W
    have HG3 := Lib.hid (HG.out.below HB3.out)
    have HRD3 : Hid (Rd w3 w3.heap.size D (ps.map Part.v)) := Lib.hid ((HP.out.rd.below HB3.out).more HB3.out.size)
    have hz3 : w.heap.size ≤ w3.heap.size := HB3.out.size
    clear HFE HV3 HOF HBA HWA HS2 HB12 HB2 HP1
    go_wp2_with fail
    clear ce
    go_loopw [1, 33] (fun mv ii W => ∃ j : Nat, j ≤ n ∧ ii = .int .i64 j ∧ ∃ (A' : Option Addr) (m' c' : Nat) (vs : List Value), mv = .slice A' m' c' ∧ m' ≤ 20000 + min j 40 ∧ H.Shut (vs.length = m' ∧ m' ≤ c' ∧ c' ≤ 9223372036854775807 ∧ Rd W W.heap.size A' vs ∧ slv vs ∧ Below w3.heap.size w3 W)) (fun _ ii _ => n - (intOf ii).toNat)
    case atStart => exact ⟨0, Nat.zero_le _, rfl, D, m, d, ps.map Part.v, rfl, by omega, ⟨by rw [List.length_map]; exact HM.out, hmc, hmm, HRD3.out, slv_parts ps, Below.refl _ _⟩⟩
    case round =>
      obtain ⟨j, hj, rfl, A', m', c', vs, rfl, hm', HI⟩ := hrel
      have HBr := Lib.hid (HB3.out.trans (HI.out.2.2.2.2.2.mono hz3))
      have hszr : w3.heap.size ≤ wr.heap.size := HI.out.2.2.2.2.2.size
      have HEr := Lib.hid (HE.out.below h20 HBr.out)
      by_cases hlt : j < n
      · have hj2 : j < gs.length := by rw [HN.out]; exact hlt
        obtain ⟨b, o, rfl, hfo, hra⟩ := (HG3.out.below (HI.out.2.2.2.2.2.mono hz3)).at_ hj2
        obtain ⟨f, HF⟩ : ∃ f, H.Shut (gs[j] = f) := ⟨_, ⟨rfl⟩⟩
        rw [HF.out] at hfo hra
        obtain ⟨n9, HN9⟩ : ∃ n9, H.Shut (f.bs.length = n9) := ⟨_, ⟨rfl⟩⟩
        rw [HN9.out] at hra
        have HRA := Lib.hid hra
        have HFO := Lib.hid hfo
        have HLD : Hid ((Tryd.prog.info? 25).map (·.size) = some (f.cells n9).length) := Lib.hid size25
        clear hra hfo
        go_wp2_with (first
          | (refine wl_loadM rfl (.tmp 36) rfl b (o + j * 10) rfl (f.cells n9) HRA.out HLD.out ?_
             intro vq HVQ)
          | (refine wl_alloc rfl 25 rfl _ _ info25' ?_
             intro w4 HA4 HB4 HZ4)
          | (refine wl_store rfl 25 (.tmp 9) (.tmp 37) rfl wr.heap.size _ (f.cells n9) rfl HVQ.out rfl 25 _ HA4.out HLD.out rfl (cells_ok f n9) ?_
             intro w5 HR5 HS5 HZ5)
          | (refine wl_load rfl 25 (.tmp 9) rfl wr.heap.size rfl 25 _ _ HR5.out under25.choose_spec rfl size25 ?_
             intro vr HVR))
        have hz4 : wr.heap.size < w4.heap.size := by rw [HZ4.out]; omega
        have hz5 : w5.heap.size = w4.heap.size := HZ5.out
        have HBr5 : Hid (Below wr.heap.size wr w5) := Lib.hid (HB4.out.trans (HS5.out.below (Nat.le_refl _) (by omega)))
        have HB5 := Lib.hid (HBr.out.trans (HBr5.out.mono HBr.out.size))
        have HE5w := Lib.hid (HE.out.below h20 HB5.out)
        have HFO5 := Lib.hid (((HFO.out.more HBr.out.size).below HBr5.out).more HBr5.out.size)
        have HVR2 : Hid (vr = f.v) := Lib.hid (by rw [HVR.out]; unfold Fr.v; rw [HN9.out])
        clear HA4 HB4 HZ4 HR5 HS5 HZ5 HVQ HVR
        cases hval : valid f with
        | false =>
          with_reducible refine (put_bad f vr E 159 (.pointer (some a)) w5 HVR2 HE5w.out HFO5.out hval).mono ?_
          rintro e w6 ⟨rfl, HV6⟩
          have HBr6 := Lib.hid (HBr5.out.trans (HV6.out.mono HBr5.out.size))
          have HI6 : H.Shut (vs.length = m' ∧ m' ≤ c' ∧ c' ≤ 9223372036854775807 ∧ Rd w6 w6.heap.size A' vs ∧ slv vs ∧ Below w3.heap.size w3 w6) := ⟨HI.out.1, HI.out.2.1, HI.out.2.2.1, (HI.out.2.2.2.1.below HBr6.out).more HBr6.out.size, HI.out.2.2.2.2.1, HI.out.2.2.2.2.2.trans (HBr6.out.mono hszr)⟩
          clear hval HV6 HI
          go_wp2_with fail
          exact ⟨⟨j + 1, by omega, by go_num, A', m', c', vs, rfl, by omega, HI6⟩, by simp [intOf]; omega⟩
        | true =>
          with_reducible refine (put_ok f vr E 159 (.pointer (some a)) w5 HVR2 HE5w.out HFO5.out hval).mono ?_
          rintro e w6 ⟨x, rfl, HV6⟩
          have HBr6 := Lib.hid (HBr5.out.trans (HV6.out.2.mono HBr5.out.size))
          have hz6 : wr.heap.size ≤ w6.heap.size := HBr6.out.size
          obtain ⟨XA, xc, rfl, _⟩ := own_slice HV6.out.1
          obtain ⟨tt, HTT⟩ : ∃ tt, H.Shut (total f + 4 = tt) := ⟨_, ⟨rfl⟩⟩
          rw [HTT.out]
          clear hval HV6
          by_cases h40 : j < 40
          · have h40I : (j : Int) < 40 := by omega
            have HOE : Hid ((w6.alloc (.cells #[] 23)).ownsRow w6.heap.size 23 1 (.slice (some ⟨w6.heap.size, 0, none⟩) 0 0) 0 []) := Lib.hid (own_emptyN w6 w6.heap.size 23 (Nat.le_refl _))
            have HBA : Hid (Below w6.heap.size w6 (w6.alloc (.cells #[] 23))) := Lib.hid (below_alloc w6 _)
            have HRD : Hid (Rd (w6.alloc (.cells #[] 23)) w6.heap.size A' vs) := Lib.hid (((HI.out.2.2.2.1.below HBr6.out).more hz6).below HBA.out)
            have hm0 : 0 + m' ≤ 1000000 := by omega
            have hsa : w6.heap.size ≤ (w6.alloc (.cells #[] 23)).heap.size := HBA.out.size
            go_wp2_with (first
              | (refine wl_appV rfl (.tmp 49) (.tmp 50) rfl w6.heap.size 0 m' c' (.slice (some ⟨w6.heap.size, 0, none⟩) 0 0) [] vs A' rfl HOE.out rfl HI.out.1 HI.out.2.2.2.2.1 w6.heap.size HRD.out hm0 hsa ?_
                 intro v7 w7 HA7
                 have hs7 : w6.heap.size ≤ w7.heap.size := Nat.le_trans hsa HA7.out.2.size
                 have HO8 : Hid ((w7.alloc (.cells #[.slice XA tt xc] 23)).ownsRow w6.heap.size 23 1 v7 (0 + m') ([] ++ vs)) := Lib.hid (own_kept HA7.out.1 (fun q e => (below_alloc w7 _).block q (HA7.out.1.lt q e).2))
                 have HR8 : Hid (Rd (w7.alloc (.cells #[.slice XA tt xc] 23)) (w7.alloc (.cells #[.slice XA tt xc] 23)).heap.size (some ⟨w7.heap.size, 0, none⟩) [.slice XA tt xc]) := Lib.hid ((Row.new w7 [.slice XA tt xc] 23).rd _ (by simp))
                 have hs8 : w6.heap.size ≤ (w7.alloc (.cells #[.slice XA tt xc] 23)).heap.size := Nat.le_trans hs7 (by simp)
                 have HB8 : Hid (Below w7.heap.size w7 (w7.alloc (.cells #[.slice XA tt xc] 23))) := Lib.hid (below_alloc w7 _)
                 have hm1 : 0 + m' + 1 ≤ 1000000 := by omega
                 have hsl : slv [.slice XA tt xc] := fun v hv => by simp at hv; exact ⟨_, _, _, hv⟩)
              | (refine wl_appV rfl (.tmp 51) (.tmp 53) rfl w6.heap.size (0 + m') 1 1 v7 ([] ++ vs) [.slice XA tt xc] (some ⟨w7.heap.size, 0, none⟩) rfl HO8.out rfl rfl hsl _ HR8.out hm1 hs8 ?_
                 intro v9 w9 HA9))
            have hb7 : Below w6.heap.size w6 w7 := HBA.out.grown HA7.out.2 hsa (fun j hj => (HOE.out.lt j hj).1)
            have hb9 : Below w6.heap.size w6 w9 := (hb7.trans (HB8.out.mono hs7)).grown HA9.out.2 hs8 (fun j hj => (HO8.out.lt j hj).1)
            obtain ⟨A9, c9, rfl, hl9, hc9, hcm9, hr9⟩ := own_vals HA9.out.1
            refine ⟨⟨j + 1, by omega, by go_num, A9, 0 + m' + 1, c9, [] ++ vs ++ [.slice XA tt xc], rfl, by omega, ⟨hl9, hc9, hcm9, hr9, fun v hv => ?_, HI.out.2.2.2.2.2.trans ((HBr6.out.trans (hb9.mono hz6)).mono hszr)⟩⟩, by simp [intOf]; omega⟩
            rw [List.nil_append] at hv
            rcases List.mem_append.1 hv with hv | hv
            · exact HI.out.2.2.2.2.1 v hv
            · exact hsl v hv
          · have h40I : ¬ (j : Int) < 40 := by omega
            have HI6 : H.Shut (vs.length = m' ∧ m' ≤ c' ∧ c' ≤ 9223372036854775807 ∧ Rd w6 w6.heap.size A' vs ∧ slv vs ∧ Below w3.heap.size w3 w6) := ⟨HI.out.1, HI.out.2.1, HI.out.2.2.1, (HI.out.2.2.2.1.below HBr6.out).more HBr6.out.size, HI.out.2.2.2.2.1, HI.out.2.2.2.2.2.trans (HBr6.out.mono hszr)⟩
            clear HI
            go_wp2_with fail
            exact ⟨⟨j + 1, by omega, by go_num, A', m', c', vs, rfl, by omega, HI6⟩, by simp [intOf]; omega⟩
      · obtain ⟨ww, HWW⟩ : ∃ ww, H.Shut (wr = ww) := ⟨_, ⟨rfl⟩⟩
        have HS4 : Hid (Scn wr sg sg h3 [] true) := Lib.hid (HS3.out.below HI.out.2.2.2.2.2)
        have HVS := Lib.hid HI.out.1
        have HRD := Lib.hid HI.out.2.2.2.1
        have HSL := Lib.hid HI.out.2.2.2.2.1
        have hc1 : m' ≤ 9223372036854775807 := Nat.le_trans HI.out.2.1 HI.out.2.2.1
        have ceb : Hid (wr.cell? ⟨1, 0, none⟩ = some (.iface 159 (.pointer (some ab)))) := Lib.hid ((HBr.out.cell (p := ⟨1, 0, none⟩) (show 1 < w.heap.size by omega)).trans HBR.out)
        have heb := fun W : World => err_neq ab W
        clear HI HG3 HRD3 HEr
        rw [HWW.out] at HS4 HRD ceb HBr ⊢
        clear HWW hszr
        go_wp2_with fail
        go_loopw [58] (fun ii W => ∃ j : Nat, j ≤ m' ∧ ii = .int .i64 j ∧ H.Shut (∃ k, W = ww.drewN k)) (fun ii _ => m' - (intOf ii).toNat)
        case atStart => exact ⟨0, Nat.zero_le _, rfl, ⟨0, rfl⟩⟩
        case round =>
          obtain ⟨j2, hj2, rfl, HI2⟩ := hrel
          obtain ⟨k2, HK2⟩ : ∃ k2, H.Shut (wr = ww.drewN k2) := by obtain ⟨k2, h⟩ := HI2.out; exact ⟨k2, ⟨h⟩⟩
          clear HI2
          by_cases hlt2 : j2 < m'
          · have hj3 : j2 < vs.length := by rw [HVS.out]; exact hlt2
            obtain ⟨VA, vn, vc, hv⟩ := HSL.out vs[j2] (List.getElem_mem hj3)
            obtain ⟨ad, rfl, _, hcx⟩ := HRD.out.cell (k := j2) (u := vs[j2]) (by simp [hj3])
            rw [hv] at hcx
            have hcw : wr.cell? (ad.add j2) = some (.slice VA vn vc) := by rw [HK2.out]; exact hcx
            have HSw : Hid (Scn wr sg sg h3 [] true) := Lib.hid (by rw [HK2.out]; exact HS4.out.drewN k2)
            have hbw : wr.cell? ⟨1, 0, none⟩ = some (.iface 159 (.pointer (some ab))) := by rw [HK2.out]; exact ceb.out
            have HFB := Lib.hid (feed_broken sg sg vn vc h3 [] VA (.iface 159 (.pointer (some ab))) wr HSw.out hbw)
            go_wp2_with fail
            with_reducible refine HFB.out.mono ?_
            rintro e w7 ⟨rfl, k7, hw7⟩
            have HK7 : H.Shut (∃ k, w7 = ww.drewN k) := ⟨⟨k2 + k7, by rw [hw7, HK2.out, World.drewN_drewN]⟩⟩
            have HS7 : Hid (Scn w7 sg sg h3 [] true) := Lib.hid (by rw [hw7]; exact HSw.out.drewN k7)
            have hb7 : w7.cell? ⟨1, 0, none⟩ = some (.iface 159 (.pointer (some ab))) := by rw [hw7]; exact hbw
            clear hw7 HFB hbw hcw
            go_wp2_with fail
            with_reducible refine (broken_any sg sg h3 [] true w7 HS7.out).mono ?_
            rintro e _ ⟨rfl, rfl⟩
            go_wp2_with fail
            have HHE : Hid (Calls Tryd.prog 33 #[.pointer (some ⟨sg, 0, none⟩)] w7 fun e w' => e = .returned (.int .i64 0) ∧ w7 = w') := Lib.hid (held_any sg sg h3 [] true w7 HS7.out)
            with_reducible refine HHE.out.mono ?_
            rintro e _ ⟨rfl, rfl⟩
            go_wp2_with fail
            exact ⟨⟨j2 + 1, by omega, by go_num, HK7⟩, by simp [intOf]; omega⟩
          · have HBF : Hid (Below w.heap.size w wr) := Lib.hid (by rw [HK2.out]; exact below_drewN HBr.out k2)
            go_wp2_with fail
            go_ret
            exact ⟨rfl, HBF.out⟩
end Go.Proofs.YtmhfhdbaeijcfaaDoor

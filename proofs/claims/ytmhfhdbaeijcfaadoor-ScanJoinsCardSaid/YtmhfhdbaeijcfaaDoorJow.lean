/- The law ScanJoins: frames put one behind the other and cut anywhere come out as they were. -/
import Derived.Test.YtmhfhdbaeijcfaaDoorJoa
namespace Go.Proofs.YtmhfhdbaeijcfaaDoor
open Go.RowKit
open Go.Proofs.YtmhfhdbaeijcfaaDoor.H
set_option maxRecDepth 100000 in
set_option maxHeartbeats 4000000 in
theorem joins_any (n c : Nat) (A : Option Addr) (gs : List Fr) (cu : Int) (E : Nat → Value) (a : Addr) (w : World) (hE : Env w E 159 (.pointer (some a))) (hE5 : F.Errs w E) (_hcl : -9223372036854775808 ≤ cu) (_hch : cu ≤ 9223372036854775807)
    (hn : gs.length = n) (hnm : n ≤ 9223372036854775807) (hg : FrsAt w w.heap.size A gs) :
    Calls Tryd.prog 9 #[.slice A n c, .int .i64 cu] w fun e w' => e = .returned (.bool true) ∧ Below w.heap.size w w' := by
  have HE := Lib.hid hE
  have HE5 := Lib.hid hE5
  have HN := Lib.hid hn
  have HG := Lib.hid hg
  have h20 := hE.size
  clear hE hE5 hn hg
  go_enter Tryd.func9, Tryd.ntmps9
  go_wp2_with fail
  with_reducible refine (alive6_any E a w HE.out HE5.out).mono ?_
  rintro e w1 ⟨rfl, HB1⟩
  have hz1 : w.heap.size ≤ w1.heap.size := HB1.out.size
  have HJ1 := Lib.hid (jh_start w1)
  have HB3 : Hid (Below w.heap.size w (((w1.alloc (.cells #[] 5)).alloc (.cells #[] 25)).alloc (.cells #[] 3))) := Lib.hid (HB1.out.trans ((below_three w1 _ _ _).mono hz1))
  obtain ⟨z, HZ⟩ : ∃ z, H.Shut (w1.heap.size = z) := ⟨_, ⟨rfl⟩⟩
  have hz : w.heap.size ≤ z := by rw [← HZ.out]; exact hz1
  rw [HZ.out] at HJ1
  go_wp2_with fail
  go_loopw [5, 6, 7, 26] (fun vb vg ve ii W => ∃ (j : Nat) (gg : List Fr) (qb cb qg cg qe ce nb ng : Nat), j ≤ n ∧ ii = .int .i64 j ∧ vb = .slice (some ⟨qb, 0, none⟩) nb cb ∧ vg = .slice (some ⟨qg, 0, none⟩) ng cg ∧ ve = .slice (some ⟨qe, 0, none⟩) ng ce ∧ ng ≤ 41 ∧ ng ≤ j ∧ nb ≤ 1024 * ng ∧
    H.Shut (gg.length = ng ∧ (joinB gg).length = nb ∧ Good gg ∧ Jh W z (.slice (some ⟨qb, 0, none⟩) nb cb) nb ((joinB gg).map bv) (.slice (some ⟨qg, 0, none⟩) ng cg) ng (flatF gg) (.slice (some ⟨qe, 0, none⟩) ng ce) ng (endsV gg) ∧ (∀ f ∈ gg, f.ok w w.heap.size) ∧ Below w.heap.size w W ∧ nb ≤ cb ∧ ng ≤ cg ∧ ng ≤ ce)) (fun _ _ _ ii _ => n - (intOf ii).toNat)
  case atStart =>
    simp only [HZ.out]
    exact ⟨0, [], _, _, _, _, _, _, 0, 0, Nat.zero_le _, rfl, rfl, rfl, rfl, by omega, by omega, by omega, ⟨rfl, rfl, (fun f hf => by cases hf), HJ1.out, (fun f hf => by cases hf), HB3.out, Nat.le_refl _, Nat.le_refl _, Nat.le_refl _⟩⟩
  case round =>
    obtain ⟨j, gg, qb, cb, qg, cg, qe, ce, nb, ng, hj, rfl, rfl, rfl, rfl, h41, hngj, hnb, HI⟩ := hrel
    have HBr := Lib.hid HI.out.2.2.2.2.2.1
    have hszr : w.heap.size ≤ wr.heap.size := HBr.out.size
    have HEr := Lib.hid (HE.out.below h20 HBr.out)
    by_cases hlt : j < n
    · have hj2 : j < gs.length := by rw [HN.out]; exact hlt
      obtain ⟨b, o, rfl, hfo, hra⟩ := (HG.out.below HBr.out).at_ hj2
      have hfo0 : gs[j].ok w w.heap.size := by
        obtain ⟨_, _, _, h, _⟩ := HG.out.at_ hj2
        exact h
      obtain ⟨f, HF⟩ : ∃ f, H.Shut (gs[j] = f) := ⟨_, ⟨rfl⟩⟩
      rw [HF.out] at hfo hra hfo0
      obtain ⟨n9, HN9⟩ : ∃ n9, H.Shut (f.bs.length = n9) := ⟨_, ⟨rfl⟩⟩
      rw [HN9.out] at hra
      have HRA := Lib.hid hra
      have HFO := Lib.hid hfo
      have HFO0 := Lib.hid hfo0
      have HLD : Hid ((Tryd.prog.info? 25).map (·.size) = some (f.cells n9).length) := Lib.hid size25
      clear hra hfo hfo0
      go_wp2_with (first
        | (refine wl_loadM rfl (.tmp 29) rfl b (o + j * 10) rfl (f.cells n9) HRA.out HLD.out ?_
           intro vq HVQ)
        | (refine wl_alloc rfl 25 rfl _ _ info25' ?_
           intro w4 HA4 HB4 HZ4)
        | (refine wl_store rfl 25 (.tmp 9) (.tmp 30) rfl wr.heap.size _ (f.cells n9) rfl HVQ.out rfl 25 _ HA4.out HLD.out rfl (cells_ok f n9) ?_
           intro w5 HR5 HS5 HZ5)
        | (refine wl_load rfl 25 (.tmp 9) rfl wr.heap.size rfl 25 _ _ HR5.out under25.choose_spec rfl size25 ?_
           intro vr HVR))
      have hz4 : wr.heap.size < w4.heap.size := by rw [HZ4.out]; omega
      have hz5 : w5.heap.size = w4.heap.size := HZ5.out
      have HBr5 : Hid (Below wr.heap.size wr w5) := Lib.hid (HB4.out.trans (HS5.out.below (Nat.le_refl _) (by omega)))
      have HB5 := Lib.hid (HBr.out.trans (HBr5.out.mono HBr.out.size))
      have HE5w := Lib.hid (HE.out.below h20 HB5.out)
      have HFO5 := Lib.hid (((HFO.out.more HBr.out.size).below HBr5.out).more HBr5.out.size)
      have HVR2 : Hid (vr = f.v) := Lib.hid (by rw [HVR.out]; unfold Fr.v; rw [HN9.out])
      clear HA4 HB4 HZ4 HS5 HZ5 HVQ HVR HRA HFO
      cases hval : valid f with
      | false =>
        with_reducible refine (put_bad f vr E 159 (.pointer (some a)) w5 HVR2 HE5w.out HFO5.out hval).mono ?_
        rintro e w6 ⟨rfl, HV6⟩
        have HBr6 := Lib.hid (HBr5.out.trans (HV6.out.mono HBr5.out.size))
        have HI6 : H.Shut (gg.length = ng ∧ (joinB gg).length = nb ∧ Good gg ∧ Jh w6 z (.slice (some ⟨qb, 0, none⟩) nb cb) nb ((joinB gg).map bv) (.slice (some ⟨qg, 0, none⟩) ng cg) ng (flatF gg) (.slice (some ⟨qe, 0, none⟩) ng ce) ng (endsV gg) ∧ (∀ f ∈ gg, f.ok w w.heap.size) ∧ Below w.heap.size w w6 ∧ nb ≤ cb ∧ ng ≤ cg ∧ ng ≤ ce) := ⟨HI.out.1, HI.out.2.1, HI.out.2.2.1, HI.out.2.2.2.1.below HBr6.out, HI.out.2.2.2.2.1, HBr.out.trans (HBr6.out.mono hszr), HI.out.2.2.2.2.2.2⟩
        clear hval HV6 HI HR5 HBr
        by_cases h40 : j ≤ 40
        · have h40I : ¬ (j : Int) > 40 := by omega
          go_wp2_with fail
          exact ⟨⟨j + 1, gg, qb, cb, qg, cg, qe, ce, nb, ng, by omega, by go_num, rfl, rfl, rfl, h41, by omega, hnb, HI6⟩, by simp [intOf]; omega⟩
        · have h40I : (j : Int) > 40 := by omega
          go_wp2_with fail
          exact ⟨⟨j + 1, gg, qb, cb, qg, cg, qe, ce, nb, ng, by omega, by go_num, rfl, rfl, rfl, h41, by omega, hnb, HI6⟩, by simp [intOf]; omega⟩
      | true =>
        with_reducible refine (put_ok f vr E 159 (.pointer (some a)) w5 HVR2 HE5w.out HFO5.out hval).mono ?_
        rintro e w6 ⟨x, rfl, HV6⟩
        have HBr6 := Lib.hid (HBr5.out.trans (HV6.out.2.mono HBr5.out.size))
        have hz6 : wr.heap.size < w6.heap.size := by have := HV6.out.2.size; omega
        have h5r : wr.heap.size < w5.heap.size := by omega
        by_cases h40 : j ≤ 40
        · have h40I : ¬ (j : Int) > 40 := by omega
          obtain ⟨XA, xc, rfl, hpl, hxc, hxm, hxr, hxg⟩ := own_slice HV6.out.1
          have hXA : ∀ ad, XA = some ad → wr.heap.size < ad.block := fun ad e => by
            have := (HV6.out.1.lt ad.block (by rw [e]; rfl)).1
            omega
          have HXA := Lib.hid hXA
          obtain ⟨tt, HTT⟩ : ∃ tt, H.Shut (total f + 4 = tt) := ⟨_, ⟨rfl⟩⟩
          have htt : tt ≤ 1024 := by have := total_1020 f hval; rw [← HTT.out]; omega
          rw [HTT.out] at hpl hxc ⊢
          obtain ⟨W0, HW0⟩ : ∃ W0, H.Shut (w6 = W0) := ⟨_, ⟨rfl⟩⟩
          have hq := HI.out.2.2.2.1
          have hqb := (hq.ob.lt qb rfl)
          have hqg := (hq.og.lt qg rfl)
          have hqe := (hq.oe.lt qe rfl)
          have HPB : Hid ((putB f).length = tt) := Lib.hid hpl
          have HJ0 : Hid (Jh w6.drew z (.slice (some ⟨qb, 0, none⟩) nb cb) nb ((joinB gg).map bv) (.slice (some ⟨qg, 0, none⟩) ng cg) ng (flatF gg) (.slice (some ⟨qe, 0, none⟩) ng ce) ng (endsV gg)) := Lib.hid (hq.below HBr6.out.drew)
          have HX0 : Hid (Rd w6.drew w6.heap.size XA ((putB f).map bv)) := Lib.hid hxr
          have HB0 : Hid (Below w.heap.size w w6.drew) := Lib.hid ((HBr.out.trans (HBr6.out.mono hszr)).drew)
          have hrow : Row w6 wr.heap.size 25 (f.cells n9) := HR5.out.below HV6.out.2 (by omega)
          have hrg : w6.rangeAt wr.heap.size 0 (f.cells n9) := row_range hrow
          have HRG : Hid (w6.drew.rangeAt wr.heap.size 0 (f.cells n9)) := Lib.hid hrg
          have hz0 : z ≤ w6.drew.heap.size := by show z ≤ w6.heap.size; omega
          have HJ00 : Hid (Jh w6 z (.slice (some ⟨qb, 0, none⟩) nb cb) nb ((joinB gg).map bv) (.slice (some ⟨qg, 0, none⟩) ng cg) ng (flatF gg) (.slice (some ⟨qe, 0, none⟩) ng ce) ng (endsV gg)) := Lib.hid (hq.below HBr6.out)
          have HX00 : Hid (Rd w6 w6.heap.size XA ((putB f).map bv)) := Lib.hid hxr
          have HB00 : Hid (Below w.heap.size w w6) := Lib.hid (HBr.out.trans (HBr6.out.mono hszr))
          have HGV : Hid (valid f = true) := Lib.hid hval
          obtain ⟨nb2, HNB2⟩ : ∃ m, H.Shut (nb + tt = m) := ⟨_, ⟨rfl⟩⟩
          obtain ⟨ng2, HNG2⟩ : ∃ m, H.Shut (ng + 1 = m) := ⟨_, ⟨rfl⟩⟩
          have hnb2 : nb2 ≤ 1024 * ng2 := by rw [← HNB2.out, ← HNG2.out]; omega
          have hng2 : ng2 ≤ 41 ∧ ng2 ≤ j + 1 := by rw [← HNG2.out]; omega
          have HI0 := Lib.hid (And.intro HI.out.1 (And.intro HI.out.2.1 (And.intro HI.out.2.2.1 HI.out.2.2.2.2.1)))
          rw [HW0.out] at HJ0 HX0 HB0 HRG hz0 hz6 HJ00 HX00 HB00 ⊢
          clear hval HV6 HI HR5 HW0 HBr6 HBr5 HBr HB5 HE5w HFO5 hq hpl hxr hxg hXA
          go_wp2_with fail
          go_cut [5, 6] (fun s5 s6 wx => Met wx z nb2 ((joinB gg).map bv ++ (putB f).map bv) ng2 (flatF gg ++ f.cells n9) (.slice (some ⟨qe, 0, none⟩) ng ce) ng (endsV gg) (Below w.heap.size w wx ∧ W0.heap.size ≤ wx.heap.size) s5 s6)
          case first =>
            refine wp_region_held_drew (S := fun w' => w'.rangeAt wr.heap.size 0 (f.cells n9)) (by kernel_rfl) HRG.out (fun hHeld => ?_)
            refine wpAnyH_take (i := 0) (v := .slice (some ⟨qb, 0, none⟩) nb cb) rfl (by kernel_rfl) (by kernel_rfl) (by kernel_rfl) (fun _ _ _ h => h) (Or.inl ⟨by kernel_rfl, ?_⟩) (by assumption) ?_
            · (intro w' hSw; (try dsimp only at hSw); go_simp)
            simp only [Act.put, List.setIfInBounds_toArray]
            refine wpAnyH_take (i := 1) (v := .slice XA tt xc) rfl (by kernel_rfl) (by kernel_rfl) (by kernel_rfl) (fun _ _ _ h => h) (Or.inl ⟨by kernel_rfl, ?_⟩) (by assumption) ?_
            · (intro w' hSw; (try dsimp only at hSw); go_simp)
            simp only [Act.put]
            refine wpAnyH_take (i := 3) (v := .slice (some ⟨qg, 0, none⟩) ng cg) rfl (by kernel_rfl) (by kernel_rfl) (by kernel_rfl) (fun _ _ _ h => h) (Or.inl ⟨by kernel_rfl, ?_⟩) (by assumption) ?_
            · (intro w' hSw; (try dsimp only at hSw); go_simp)
            simp only [Act.put]
            refine wpAnyH_take (i := 4) (v := .agg #[.int .i64 f.kind, .int .i64 f.seq, .int .i64 f.got, .int .i64 f.stream, .int .i64 f.amount, .int .i64 f.code, .string f.who, .string f.name, .float .f64 f.weight, .slice f.ba n9 f.bc]) rfl (by kernel_rfl) (by kernel_rfl) (by kernel_rfl) (fun _ _ _ h => h) (yieldsIf_load_mid (by kernel_rfl) 25 (.tmp 9) rfl wr.heap.size 0 rfl (f.cells n9) _ (fun w' hSw => hSw) under25.choose_spec rfl HLD.out) (by assumption) ?_
            simp only [Act.put]

            refine wpAnyH_ready (rs := [2, 5]) (by kernel_rfl) (by simp) ?_
            refine AllReadyH.cons rfl (fun K hK => ?_) (AllReadyH.cons rfl (fun K hK => ?_) AllReadyH.nil)
            · -- bytes, then the frame's block, then the frame
              refine F.step_append_rd _ rfl (.tmp 42) (.tmp 43) rfl z (.slice (some ⟨qb, 0, none⟩) nb cb) nb ((joinB gg).map bv) rfl HJ0.out.ob W0.heap.size XA tt xc (putB f) rfl HPB.out HX0.out (by omega) hz0 ?_
              intro v7 w7 ho7 hg7 hl7
              have hs7 : W0.heap.size ≤ w7.heap.size := hg7.size
              refine hK.out _ _ (range_grown HRG.out hg7 (ob_ne (by omega))) (fun hHeld => ?_)
              clear hK K
              simp only [Act.put]
              have HJ7 : Hid (Jh w7 z v7 (nb + tt) ((joinB gg).map bv ++ (putB f).map bv) (.slice (some ⟨qg, 0, none⟩) ng cg) ng (flatF gg) (.slice (some ⟨qe, 0, none⟩) ng ce) ng (endsV gg)) := Lib.hid (HJ0.out.appb ho7 hg7 hl7)
              have HB7 : Hid (Below w.heap.size w w7) := Lib.hid (HB0.out.grown hg7 HB0.out.size (fun j hj => ob_ge hj (by omega)))
              refine wpAnyH_ready (rs := [5]) (by kernel_rfl) (by simp) ?_
              refine AllReadyH.cons rfl (fun K hK => ?_) AllReadyH.nil
              go_simp
              refine hK.out _ _ (range_below hHeld (below_alloc _ _)) (fun hHeld => ?_)
              clear hK K
              (try simp only [Act.put, List.setIfInBounds_toArray, List.set_cons_zero, List.set_cons_succ])
              have hs8 : w7.heap.size ≤ (w7.alloc (.cells (f.cells n9).toArray 25)).heap.size := (below_alloc w7 _).size
              have hz8 : z ≤ (w7.alloc (.cells (f.cells n9).toArray 25)).heap.size := by omega
              have HJ8 : Hid (Jh (w7.alloc (.cells (f.cells n9).toArray 25)) z v7 (nb + tt) ((joinB gg).map bv ++ (putB f).map bv) (.slice (some ⟨qg, 0, none⟩) ng cg) ng (flatF gg) (.slice (some ⟨qe, 0, none⟩) ng ce) ng (endsV gg)) := Lib.hid (HJ7.out.below (below_alloc w7 _))
              have HB8 : Hid (Below w.heap.size w (w7.alloc (.cells (f.cells n9).toArray 25))) := Lib.hid (HB7.out.trans ((below_alloc w7 _).mono HB7.out.size))
              refine wpAnyH_ready (rs := [6]) (by kernel_rfl) (by simp) ?_
              refine AllReadyH.cons rfl (fun K hK => ?_) AllReadyH.nil
              refine step_frame _ rfl (.tmp 45) (.tmp 47) rfl z ng (.slice (some ⟨qg, 0, none⟩) ng cg) (flatF gg) f n9 w7.heap.size rfl rfl (Row.new w7 (f.cells n9) 25) HJ8.out.og (by omega) hz8 ?_
              intro v9 w9 ho9 hg9 hl9
              have hs9 : (w7.alloc (.cells (f.cells n9).toArray 25)).heap.size ≤ w9.heap.size := hg9.size
              refine hK.out _ _ (range_grown hHeld hg9 (ob_ne (by omega))) (fun hHeld => ?_)
              clear hK K
              (try simp only [Act.put, List.setIfInBounds_toArray])
              refine wpAnyH_take (i := 7) (v := v7) rfl (by kernel_rfl) (by kernel_rfl) (by kernel_rfl) (fun _ _ _ h => h) (Or.inl ⟨by kernel_rfl, ?_⟩) (by assumption) ?_
              · (intro w' hSw; (try dsimp only at hSw); go_simp)
              simp only [Act.put]
              refine wpAnyH_take (i := 8) (v := v9) rfl (by kernel_rfl) (by kernel_rfl) (by kernel_rfl) (fun _ _ _ h => h) (Or.inl ⟨by kernel_rfl, ?_⟩) (by assumption) ?_
              · (intro w' hSw; (try dsimp only at hSw); go_simp)
              simp only [Act.put]
              refine wpAnyH_done (by kernel_rfl) ?_ _
              simp only [List.getElem_toArray, List.getElem_cons_succ, List.getElem_cons_zero, List.setIfInBounds_toArray, List.set_cons_zero, List.set_cons_succ]
              have HJF : Jh w9 z v7 (nb + tt) ((joinB gg).map bv ++ (putB f).map bv) v9 (ng + 1) (flatF gg ++ f.cells n9) (.slice (some ⟨qe, 0, none⟩) ng ce) ng (endsV gg) := HJ8.out.appg ho9 hg9 hl9
              rw [HNB2.out, HNG2.out] at HJF
              have HMET : Hid (Met w9 z nb2 ((joinB gg).map bv ++ (putB f).map bv) ng2 (flatF gg ++ f.cells n9) (.slice (some ⟨qe, 0, none⟩) ng ce) ng (endsV gg) (Below w.heap.size w w9 ∧ W0.heap.size ≤ w9.heap.size) v7 v9) := Lib.hid (met_of HJF (own_next rfl hl7) (own_next rfl hl9) ⟨HB8.out.grown hg9 HB8.out.size (fun j hj => ob_ge hj (by omega)), by omega⟩)
              clear HJF
              go_wp2_with fail
              go_meet
              case rel => exact HMET.out


            · -- the frame's block first
              go_simp
              refine hK.out _ _ (range_below HRG.out (below_alloc _ _)) (fun hHeld => ?_)
              clear hK K
              (try simp only [Act.put, List.setIfInBounds_toArray, List.set_cons_zero, List.set_cons_succ])
              have hba5 : Below W0.heap.size W0 ((W0.alloc (.cells (f.cells n9).toArray 25)).drew) := (below_alloc W0 _).drew
              have hs5 : W0.heap.size ≤ ((W0.alloc (.cells (f.cells n9).toArray 25)).drew).heap.size := hba5.size
              have hz5 : z ≤ ((W0.alloc (.cells (f.cells n9).toArray 25)).drew).heap.size := Nat.le_trans hz0 hs5
              have hs5' : W0.heap.size < ((W0.alloc (.cells (f.cells n9).toArray 25)).drew).heap.size := by show W0.heap.size < (W0.alloc _).heap.size; simp
              have HJ5 : Hid (Jh ((W0.alloc (.cells (f.cells n9).toArray 25)).drew) z (.slice (some ⟨qb, 0, none⟩) nb cb) nb ((joinB gg).map bv) (.slice (some ⟨qg, 0, none⟩) ng cg) ng (flatF gg) (.slice (some ⟨qe, 0, none⟩) ng ce) ng (endsV gg)) := Lib.hid (HJ00.out.below hba5)
              have HB5 : Hid (Below w.heap.size w ((W0.alloc (.cells (f.cells n9).toArray 25)).drew)) := Lib.hid (HB00.out.trans (hba5.mono HB00.out.size))
              have HX5 : Hid (Rd ((W0.alloc (.cells (f.cells n9).toArray 25)).drew) W0.heap.size XA ((putB f).map bv)) := Lib.hid (HX00.out.below hba5)
              have HRQ0 : Row (W0.alloc (.cells (f.cells n9).toArray 25)) W0.heap.size 25 (f.cells n9) := Row.new W0 (f.cells n9) 25
              have HRQ : Hid (Row ((W0.alloc (.cells (f.cells n9).toArray 25)).drew) W0.heap.size 25 (f.cells n9)) := Lib.hid HRQ0
              clear HRQ0
              refine wpAnyH_ready (rs := [2]) (by kernel_rfl) (by simp) ?_
              refine AllReadyH.cons rfl (fun K hK => ?_) AllReadyH.nil
              · refine F.step_append_rd _ rfl (.tmp 42) (.tmp 43) rfl z (.slice (some ⟨qb, 0, none⟩) nb cb) nb ((joinB gg).map bv) rfl HJ5.out.ob W0.heap.size XA tt xc (putB f) rfl HPB.out HX5.out (by omega) hz5 ?_
                intro v7 w7 ho7 hg7 hl7
                have hs7 : ((W0.alloc (.cells (f.cells n9).toArray 25)).drew).heap.size ≤ w7.heap.size := hg7.size
                refine hK.out _ _ (range_grown hHeld hg7 (ob_ne (by omega))) (fun hHeld => ?_)
                clear hK K
                (try simp only [Act.put, List.setIfInBounds_toArray])
                have HJ7 : Hid (Jh w7 z v7 (nb + tt) ((joinB gg).map bv ++ (putB f).map bv) (.slice (some ⟨qg, 0, none⟩) ng cg) ng (flatF gg) (.slice (some ⟨qe, 0, none⟩) ng ce) ng (endsV gg)) := Lib.hid (HJ5.out.appb ho7 hg7 hl7)
                have HB7 : Hid (Below w.heap.size w w7) := Lib.hid (HB5.out.grown hg7 HB5.out.size (fun j hj => ob_ge hj (by omega)))
                have HRQ7 : Hid (Row w7 W0.heap.size 25 (f.cells n9)) := Lib.hid (row_grown HRQ.out hg7 (ob_ne (by omega)))
                refine wpAnyH_ready (rs := [6]) (by kernel_rfl) (by simp) ?_
                refine AllReadyH.cons rfl (fun K hK => ?_) AllReadyH.nil
                refine step_frame _ rfl (.tmp 45) (.tmp 47) rfl z ng (.slice (some ⟨qg, 0, none⟩) ng cg) (flatF gg) f n9 W0.heap.size rfl rfl HRQ7.out HJ7.out.og (by omega) (by omega) ?_
                intro v9 w9 ho9 hg9 hl9
                have hs9 := hg9.size
                refine hK.out _ _ (range_grown hHeld hg9 (ob_ne (by omega))) (fun hHeld => ?_)
                clear hK K
                (try simp only [Act.put])
                refine wpAnyH_take (i := 7) (v := v7) rfl (by kernel_rfl) (by kernel_rfl) (by kernel_rfl) (fun _ _ _ h => h) (Or.inl ⟨by kernel_rfl, ?_⟩) (by assumption) ?_
                · (intro w' hSw; (try dsimp only at hSw); go_simp)
                simp only [Act.put]
                refine wpAnyH_take (i := 8) (v := v9) rfl (by kernel_rfl) (by kernel_rfl) (by kernel_rfl) (fun _ _ _ h => h) (Or.inl ⟨by kernel_rfl, ?_⟩) (by assumption) ?_
                · (intro w' hSw; (try dsimp only at hSw); go_simp)
                simp only [Act.put]
                refine wpAnyH_done (by kernel_rfl) ?_ _
                simp only [List.getElem_toArray, List.getElem_cons_succ, List.getElem_cons_zero, List.setIfInBounds_toArray, List.set_cons_zero, List.set_cons_succ]
                have HJF : Jh w9 z v7 (nb + tt) ((joinB gg).map bv ++ (putB f).map bv) v9 (ng + 1) (flatF gg ++ f.cells n9) (.slice (some ⟨qe, 0, none⟩) ng ce) ng (endsV gg) := HJ7.out.appg ho9 hg9 hl9
                rw [HNB2.out, HNG2.out] at HJF
                have HMET : Hid (Met w9 z nb2 ((joinB gg).map bv ++ (putB f).map bv) ng2 (flatF gg ++ f.cells n9) (.slice (some ⟨qe, 0, none⟩) ng ce) ng (endsV gg) (Below w.heap.size w w9 ∧ W0.heap.size ≤ w9.heap.size) v7 v9) := Lib.hid (met_of HJF (own_next rfl hl7) (own_next rfl hl9) ⟨HB7.out.grown hg9 HB7.out.size (fun j hj => ob_ge hj (by omega)), by omega⟩)
                clear HJF
                go_wp2_with fail
                go_meet
                case rel => exact HMET.out



          case rest =>
            obtain ⟨q5, c5, q6, c6, rfl, rfl, HC⟩ := hcut
            generalize wc = w8 at *
            have HJ8 := Lib.hid HC.out.2.2.2.2.1
            have HB8 := Lib.hid HC.out.2.2.2.2.2.1
            have hs8 : W0.heap.size ≤ w8.heap.size := HC.out.2.2.2.2.2.2
            have hc5 : nb2 ≤ c5 := HC.out.1
            have hc6 : ng2 ≤ c6 := HC.out.2.2.1
            have hz8 : z ≤ (w8.alloc (.cells #[.int .i64 (nb2 : Int)] 3)).heap.size := Nat.le_trans (Nat.le_trans hz0 hs8) (by simp)
            have HJA := Lib.hid (HJ8.out.below (below_alloc w8 (.cells #[.int .i64 (nb2 : Int)] 3)))
            have HBA : Hid (Below w.heap.size w (w8.alloc (.cells #[.int .i64 (nb2 : Int)] 3))) := Lib.hid (HB8.out.trans ((below_alloc w8 _).mono HB8.out.size))
            have HRI : Hid (Row (w8.alloc (.cells #[.int .i64 (nb2 : Int)] 3)) w8.heap.size 3 [.int .i64 (nb2 : Int)]) := Lib.hid (Row.new w8 [.int .i64 (nb2 : Int)] 3)
            clear HC HJ8 HB8
            go_wp2_with (first
              | (refine wl_appI rfl (.tmp 49) (.tmp 52) rfl z ng (.slice (some ⟨qe, 0, none⟩) ng ce) (endsV gg) (nb2 : Int) w8.heap.size rfl rfl HRI.out HJA.out.oe (by omega) hz8 ?_
                 intro v12 w12 HA12))
            obtain ⟨q12, h12⟩ := own_next rfl HA12.out.2.2
            have HJ12 := HJA.out.appe HA12.out.1 HA12.out.2.1 HA12.out.2.2
            have ho12 := HA12.out.1
            rw [HNG2.out] at HJ12 ho12
            obtain ⟨c12, rfl, e1, e2, _⟩ := own_some ho12 h12
            have HB12 : Below w.heap.size w w12 := HBA.out.grown HA12.out.2.1 HBA.out.size (fun j hj => ob_ge hj (by omega))
            refine ⟨⟨j + 1, gg ++ [f], q5, c5, q6, c6, q12, c12, nb2, ng2, by omega, by go_num, rfl, rfl, rfl, hng2.1, hng2.2, hnb2, ⟨?_, ?_, HI0.out.2.2.1.snoc HGV.out HFO0.out.fit, ?_, fun g hgm => ?_, HB12, hc5, hc6, e1⟩⟩, by simp [intOf]; omega⟩
            · rw [List.length_append, HI0.out.1]
              exact HNG2.out
            · rw [joinB_snoc, List.length_append, HI0.out.2.1, HPB.out]
              exact HNB2.out
            · rw [joinB_snoc, List.map_append, flatF_snoc, HN9.out, endsV_snoc]
              have e3 : bytesOf (gg ++ [f]) = nb2 := by rw [← joinB_length, joinB_snoc, List.length_append, HI0.out.2.1, HPB.out]; exact HNB2.out
              rw [e3]
              exact HJ12
            · rcases List.mem_append.1 hgm with hgm | hgm
              · exact HI0.out.2.2.2 g hgm
              · have : g = f := by simpa using hgm
                subst this
                exact HFO0.out
        · have h40I : (j : Int) > 40 := by omega
          have HI6 : H.Shut (gg.length = ng ∧ (joinB gg).length = nb ∧ Good gg ∧ Jh w6 z (.slice (some ⟨qb, 0, none⟩) nb cb) nb ((joinB gg).map bv) (.slice (some ⟨qg, 0, none⟩) ng cg) ng (flatF gg) (.slice (some ⟨qe, 0, none⟩) ng ce) ng (endsV gg) ∧ (∀ f ∈ gg, f.ok w w.heap.size) ∧ Below w.heap.size w w6 ∧ nb ≤ cb ∧ ng ≤ cg ∧ ng ≤ ce) := ⟨HI.out.1, HI.out.2.1, HI.out.2.2.1, HI.out.2.2.2.1.below HBr6.out, HI.out.2.2.2.2.1, HBr.out.trans (HBr6.out.mono hszr), HI.out.2.2.2.2.2.2⟩
          clear hval HV6 HI HR5 HBr
          go_wp2_with fail
          exact ⟨⟨j + 1, gg, qb, cb, qg, cg, qe, ce, nb, ng, by omega, by go_num, rfl, rfl, rfl, h41, by omega, hnb, HI6⟩, by simp [intOf]; omega⟩
    · clear HG HN
      have hcb : nb ≤ cb := HI.out.2.2.2.2.2.2.1
      have hcg : ng ≤ cg := HI.out.2.2.2.2.2.2.2.1
      have hce : ng ≤ ce := HI.out.2.2.2.2.2.2.2.2
      obtain ⟨k, hk, hkn⟩ := left_by cu nb (by omega)
      have HLN : Hid (gg.length = ng) := Lib.hid HI.out.1
      have HLB : Hid ((joinB gg).length = nb) := Lib.hid HI.out.2.1
      have HGD : Hid (Good gg) := Lib.hid HI.out.2.2.1
      have HJ := Lib.hid HI.out.2.2.2.1
      have HOK := Lib.hid HI.out.2.2.2.2.1
      obtain ⟨ww, HWW⟩ : ∃ ww, H.Shut (wr = ww) := ⟨_, ⟨rfl⟩⟩
      obtain ⟨m, HM⟩ : ∃ m, H.Shut (cutN gg k = m) := ⟨_, ⟨rfl⟩⟩
      have hmn : m ≤ ng := by rw [← HM.out, ← HLN.out]; exact cutN_le gg k
      have HCR := Lib.hid (cutR_length gg k HGD.out (by rw [HLB.out]; exact hkn))
      rw [HM.out] at HCR
      obtain ⟨p, HP⟩ : ∃ p, H.Shut (bytesOf (gg.take m) = p) := ⟨_, ⟨rfl⟩⟩
      rw [HP.out] at HCR
      have hpk : p ≤ k := HCR.out.2
      have HIF : Hid (∀ i e, i < ng → bytesOf (gg.take (i + 1)) = e → (e ≤ k ↔ i < m)) := Lib.hid (fun i e hi he => by rw [← he, ← HM.out]; exact cutN_iff gg k i (by rw [HLN.out]; exact hi))
      have HCE : Hid (∀ i e, i < ng → bytesOf (gg.take (i + 1)) = e → wr.cell? ⟨qe, i, none⟩ = some (.int .i64 (e : Int))) := Lib.hid (fun i e hi he => by
        have h1 := HJ.out.oe.cells (g := qe) rfl i _ (endsV_at gg i (by rw [HLN.out]; exact hi))
        rw [Addr.add_mid, Nat.zero_add, he] at h1
        exact h1)
      clear HI HZ hz1 HB1 HJ1 HB3
      go_wp2_with fail
      rw [hk]
      clear hk hlt
      go_loop [12, 13, 65] (fun nv av iv => ∃ i mi pi : Nat, i ≤ ng ∧ iv = .int .i64 i ∧ nv = .int .i64 mi ∧ av = .int .i64 pi ∧ mi ≤ ng ∧ H.Shut (mi = min i m ∧ bytesOf (gg.take mi) = pi)) (fun _ _ iv => ng - (intOf iv).toNat)
      case atStart => exact ⟨0, 0, 0, Nat.zero_le _, rfl, rfl, rfl, Nat.zero_le _, ⟨by omega, by simp [bytesOf]⟩⟩
      case round =>
        obtain ⟨i, mi, pi, hi, rfl, rfl, rfl, hmi, HS⟩ := hrel
        by_cases hlt2 : i < ng
        · obtain ⟨e, HEE⟩ : ∃ e, H.Shut (bytesOf (gg.take (i + 1)) = e) := ⟨_, ⟨rfl⟩⟩
          have hce := HCE.out i e hlt2 HEE.out
          have hif := HIF.out i e hlt2 HEE.out
          by_cases hek : e ≤ k
          · have hekI : (e : Int) ≤ (k : Int) := by omega
            have him : i < m := hif.1 hek
            have HS2 : H.Shut (mi + 1 = min (i + 1) m ∧ bytesOf (gg.take (mi + 1)) = e) := ⟨by have := HS.out.1; omega, by
              have h1 : mi = i := by have := HS.out.1; omega
              rw [h1]
              exact HEE.out⟩
            clear HS HEE hif
            go_wp2_with fail
            exact ⟨⟨i + 1, mi + 1, e, by omega, by go_num, by go_num, rfl, by have := HS2.out.1; omega, HS2⟩, by simp [intOf]; omega⟩
          · have hekI : ¬ (e : Int) ≤ (k : Int) := by omega
            have him : ¬ i < m := fun h => hek (hif.2 h)
            have HS2 : H.Shut (mi = min (i + 1) m ∧ bytesOf (gg.take mi) = pi) := ⟨by have := HS.out.1; omega, HS.out.2⟩
            clear HS HEE hif
            go_wp2_with fail
            exact ⟨⟨i + 1, mi, pi, by omega, by go_num, rfl, rfl, hmi, HS2⟩, by simp [intOf]; omega⟩
        · have hmm : mi = m := by have := HS.out.1; omega
          subst hmm
          obtain rfl : pi = p := by rw [← HS.out.2]; exact HP.out
          clear HS HCE HIF
          rw [HWW.out] at HJ HBr HEr hszr ⊢
          clear HWW
          obtain ⟨sg, HSG⟩ : ∃ sg, H.Shut (ww.heap.size = sg) := ⟨_, ⟨rfl⟩⟩
          have hqb := HJ.out.ob.lt qb rfl
          have hqg := HJ.out.og.lt qg rfl
          have hcbm : cb ≤ 9223372036854775807 := by
            obtain ⟨c', e1, _, h, _⟩ := own_some HJ.out.ob rfl
            injection e1 with _ _ e1
            rw [e1]
            exact h
          rw [HSG.out] at hqb hqg hszr
          go_wp2_with fail
          with_reducible refine (snew_any ww).mono ?_
          rintro e w2 ⟨rfl, HV2⟩
          rw [HSG.out] at HV2 ⊢
          have h20s : 20 ≤ sg := by omega
          have HS2 := Lib.hid HV2.out.1
          have hz2 : w2.heap.size = sg + 1 := HV2.out.2.2
          have HB12 : Hid (Below sg ww w2) := Lib.hid HV2.out.2.1
          have HE2 := Lib.hid (HEr.out.below (B := sg) h20s HB12.out)
          have HE52 := Lib.hid (HE5.out.below h20 (HBr.out.trans (HB12.out.mono hszr)))
          have HO2 : Hid (Off w2 sg none (some ⟨qb, 0, none⟩) (joinB gg)) := Lib.hid (by
            obtain ⟨A', c', e1, _, _, _, hr, _⟩ := own_slice HJ.out.ob
            injection e1 with e1
            subst e1
            rw [HSG.out] at hr
            refine ⟨(hr.below HB12.out).more (by omega), fun _ ad e => ?_⟩
            injection e with e
            subst e
            exact ⟨by show qb ≠ sg; omega, fun e => by cases e⟩)
          have HTL : Hid (((joinB gg).take k).length = k) := Lib.hid (by rw [List.length_take, HLB.out]; omega)
          have HFE := Lib.hid (feedx_any sg sg k k none [] ((joinB gg).take k) (some ⟨qb, 0, none⟩) E 159 (.pointer (some a)) w2 HE2.out HE52.out h20s HS2.out (.inl (by simp)) HTL.out (Nat.le_refl _) (by omega) (by omega) (HO2.out.take k) _ _ _ (cut_first gg k HGD.out))
          have eN : errV 159 (.pointer (some a)) false = .nilIface := rfl
          rw [eN, HM.out] at HFE
          have hkc : (k : Int) ≤ (cb : Int) := by omega
          clear HV2
          go_wp2_with fail
          with_reducible refine HFE.out.mono ?_
          rintro e w3 ⟨fr, v3, h3, rfl, HV3⟩
          obtain ⟨A3, c3, rfl, hc3, hcm3, hfr3⟩ := HV3.out.1.frs
          have HFR3 := Lib.hid hfr3
          have HPL : Hid (fr.map Fr.pl = (gg.take mi).map Fr.pl) := Lib.hid HV3.out.2.1
          have HL3 : Hid (fr.length = mi) := Lib.hid (by
            have h1 := congrArg List.length HPL.out
            rw [List.length_map, List.length_map, List.length_take, HLN.out] at h1
            omega)
          have HS3 := Lib.hid HV3.out.2.2.1
          have HM3 := Lib.hid HV3.out.2.2.2
          have HB23 : Hid (Below sg w2 w3) := Lib.hid (HM3.out.below (by omega) (Nat.le_refl _) (fun q e => by cases e))
          have HBW3 : Hid (Below sg ww w3) := Lib.hid (HB12.out.trans HB23.out)
          have HO3 := Lib.hid (HO2.out.mv HM3.out)
          have HJ3 := Lib.hid (HJ.out.below (HSG.out ▸ HBW3.out))
          have HB3 : Hid (Below w.heap.size w w3) := Lib.hid (HBr.out.trans (HBW3.out.mono hszr))
          have hz3 : sg < w3.heap.size := by have := HB23.out.size; omega
          have hwz3 : w.heap.size ≤ w3.heap.size := HB3.out.size
          have HG3 : Hid (FrsAt w3 w3.heap.size (some ⟨qg, 0, none⟩) gg) := Lib.hid (frs_own HJ3.out.og (fun f hf => ((HOK.out f hf).below HB3.out).more hwz3))
          have HLT : Hid ((gg.take mi).length = mi) := Lib.hid (by rw [List.length_take, HLN.out]; omega)
          have HSL := Lib.hid (sameList_true mi c3 cg A3 (some ⟨qg, 0, none⟩) fr (gg.take mi) w3 HL3.out HLT.out (by omega) HFR3.out (HG3.out.take mi) HPL.out)
          have hmc : (mi : Int) ≤ (cg : Int) := by omega
          rw [HL3.out]
          clear HFE HV3 hc3 hfr3 hkc
          go_wp2_with fail
          with_reducible refine HSL.out.mono ?_
          rintro e w4 ⟨rfl, HB34⟩
          have HS4 := Lib.hid (HS3.out.below HB34.out)
          have HHE := Lib.hid (held_any sg sg h3 (cutR gg k) false w4 HS4.out)
          rw [HCR.out.1] at HHE
          have q1 : ((((k - pi : Nat) : Int)) != (k : Int) - (pi : Int)) = false := by
            have : ((k - pi : Nat) : Int) = (k : Int) - (pi : Int) := by omega
            rw [this]; simp
          have q2 : ((((k - pi : Nat) : Int)) == (k : Int) - (pi : Int)) = true := by
            have : ((k - pi : Nat) : Int) = (k : Int) - (pi : Int) := by omega
            rw [this]; simp
          clear HSL hmc
          go_wp2_with fail
          with_reducible refine HHE.out.mono ?_
          rintro e _ ⟨rfl, rfl⟩
          obtain ⟨X, HX⟩ : ∃ X, H.Shut ((if cb = k then (some ⟨qb, 0, none⟩ : Option Addr) else (some ⟨qb, 0, none⟩ : Option Addr).map (·.add k)) = X) := ⟨_, ⟨rfl⟩⟩
          have hsl : ∀ w', (Instr.slice 23 (.slice (some ⟨qb, 0, none⟩) nb cb) (some (.int .i64 (k : Int))) none none).run Tryd.prog w' = .ok (.slice X (nb - k) (cb - k)) w' := fun w' => by rw [← HX.out]; exact from_bytes w' _ nb cb k hkn
          have HO4 : Hid (Off w4 sg h3 X ((joinB gg).drop k)) := Lib.hid (by
            rw [← HX.out]
            exact (HO3.out.mv (.of_below HB34.out)).drop (by rw [HLB.out]; exact hkn) (by rw [HLB.out]; exact hcb))
          have hz4 : w3.heap.size ≤ w4.heap.size := HB34.out.size
          have HB4 : Hid (Below w.heap.size w w4) := Lib.hid (HB3.out.trans (HB34.out.mono hwz3))
          have HBW4 : Hid (Below sg ww w4) := Lib.hid (HBW3.out.trans (HB34.out.mono (Nat.le_of_lt hz3)))
          have HE4 := Lib.hid (HE.out.below h20 HB4.out)
          have HE54 := Lib.hid (HE5.out.below h20 HB4.out)
          have HDL : Hid (((joinB gg).drop k).length = nb - k) := Lib.hid (by rw [List.length_drop, HLB.out])
          have HFE := Lib.hid (feedx_any sg sg (nb - k) (cb - k) h3 (cutR gg k) ((joinB gg).drop k) X E 159 (.pointer (some a)) w4 HE4.out HE54.out h20s HS4.out (cut_first gg k HGD.out).rest.2 HDL.out (by omega) (by omega) (by omega) HO4.out _ _ _ (cut_second gg k HGD.out))
          rw [eN, HM.out] at HFE
          clear HHE HO3 HO2 HS3 HFR3
          go_wp2_with fail
          clear hsl
          with_reducible refine HFE.out.mono ?_
          rintro e w5 ⟨fr2, v5, h5, rfl, HV5⟩
          obtain ⟨A5, c5, rfl, hc5, hcm5, hfr5⟩ := HV5.out.1.frs
          have HFR5 := Lib.hid hfr5
          have HPL5 : Hid (fr2.map Fr.pl = (gg.drop mi).map Fr.pl) := Lib.hid HV5.out.2.1
          have HL5 : Hid (fr2.length = ng - mi) := Lib.hid (by
            have h1 := congrArg List.length HPL5.out
            rw [List.length_map, List.length_map, List.length_drop, HLN.out] at h1
            exact h1)
          have HS5 := Lib.hid HV5.out.2.2.1
          have HB45 : Hid (Below sg w4 w5) := Lib.hid (HV5.out.2.2.2.below (by omega) (Nat.le_refl _) (fun q e => (HS4.out.bh q e).1))
          have HBW5 : Hid (Below sg ww w5) := Lib.hid (HBW4.out.trans HB45.out)
          have HJ5 := Lib.hid (HJ.out.below (HSG.out ▸ HBW5.out))
          have HB5 : Hid (Below w.heap.size w w5) := Lib.hid (HBr.out.trans (HBW5.out.mono hszr))
          have hwz5 : w.heap.size ≤ w5.heap.size := HB5.out.size
          obtain ⟨Y, HY⟩ : ∃ Y, H.Shut ((if cg = mi then (some ⟨qg, 0, none⟩ : Option Addr) else (some ⟨qg, 0, none⟩ : Option Addr).map (·.add (mi * 10))) = Y) := ⟨_, ⟨rfl⟩⟩
          have hsl : ∀ w', (Instr.slice 62 (.slice (some ⟨qg, 0, none⟩) ng cg) (some (.int .i64 (mi : Int))) none none).run Tryd.prog w' = .ok (.slice Y (ng - mi) (cg - mi)) w' := fun w' => by rw [← HY.out]; exact from_frames w' _ ng cg mi hmn
          have HG5 : Hid (FrsAt w5 w5.heap.size Y (gg.drop mi)) := Lib.hid (by
            rw [← HY.out]
            exact (frs_own HJ5.out.og (fun f hf => ((HOK.out f hf).below HB5.out).more hwz5)).drop (by rw [HLN.out]; exact hcg))
          have HLD : Hid ((gg.drop mi).length = ng - mi) := Lib.hid (by rw [List.length_drop, HLN.out])
          have HSL := Lib.hid (sameList_true (ng - mi) c5 (cg - mi) A5 Y fr2 (gg.drop mi) w5 HL5.out HLD.out (by omega) HFR5.out HG5.out HPL5.out)
          rw [HL5.out]
          clear HFE HV5 hc5 hfr5
          go_wp2_with fail
          clear hsl
          with_reducible refine HSL.out.mono ?_
          rintro e w6 ⟨rfl, HB56⟩
          have HS6 := Lib.hid (HS5.out.below HB56.out)
          have HH6 : Hid (Calls Tryd.prog 33 #[.pointer (some ⟨sg, 0, none⟩)] w6 fun e w' => e = .returned (.int .i64 0) ∧ w6 = w') := Lib.hid (held_any sg sg h5 [] false w6 HS6.out)
          have HB6 : Hid (Below w.heap.size w w6) := Lib.hid (HB5.out.trans (HB56.out.mono hwz5))
          go_wp2_with fail
          with_reducible refine HH6.out.mono ?_
          rintro e _ ⟨rfl, rfl⟩
          go_wp2_with fail
          go_ret
          exact ⟨rfl, HB6.out⟩
end Go.Proofs.YtmhfhdbaeijcfaaDoor

/- The law ScanFirst: the first frame that is wrong breaks the stream; those ahead of it are told. -/
import Derived.Test.YtmhfhdbaeijcfaaDoorJob
namespace Go.Proofs.YtmhfhdbaeijcfaaDoor
open Go.RowKit
open Go.Proofs.YtmhfhdbaeijcfaaDoor.H
set_option maxRecDepth 100000 in
set_option maxHeartbeats 4000000 in
theorem first_any (n c : Nat) (A : Option Addr) (gs : List Fr) (cu tu : Int) (E : Nat → Value) (a : Addr) (w : World) (hE : Env w E 159 (.pointer (some a))) (hE5 : F.Errs w E)
    (hn : gs.length = n) (hnm : n ≤ 9223372036854775807) (hg : FrsAt w w.heap.size A gs) :
    Calls Tryd.prog 11 #[.slice A n c, .int .i64 cu, .int .i64 tu] w fun e w' => e = .returned (.bool true) ∧ Below w.heap.size w w' := by
  have HE := Lib.hid hE
  have HE5 := Lib.hid hE5
  have HN := Lib.hid hn
  have HG := Lib.hid hg
  have h20 := hE.size
  clear hE hE5 hn hg
  go_enter Tryd.func11, Tryd.ntmps11
  go_wp2_with fail
  with_reducible refine (alive6_any E a w HE.out HE5.out).mono ?_
  rintro e w1 ⟨rfl, HB1⟩
  have hz1 : w.heap.size ≤ w1.heap.size := HB1.out.size
  have HJ1 := Lib.hid (jh_start w1)
  have HB3 : Hid (Below w.heap.size w (((w1.alloc (.cells #[] 5)).alloc (.cells #[] 25)).alloc (.cells #[] 3))) := Lib.hid (HB1.out.trans ((below_three w1 _ _ _).mono hz1))
  obtain ⟨z, HZ⟩ : ∃ z, H.Shut (w1.heap.size = z) := ⟨_, ⟨rfl⟩⟩
  have hz : w.heap.size ≤ z := by rw [← HZ.out]; exact hz1
  rw [HZ.out] at HJ1
  go_wp2_with fail
  go_loopw [7, 8, 9, 26] (fun vb vg ve ii W => ∃ (j : Nat) (gg : List Fr) (qb cb qg cg qe ce nb ng : Nat), j ≤ n ∧ ii = .int .i64 j ∧ vb = .slice (some ⟨qb, 0, none⟩) nb cb ∧ vg = .slice (some ⟨qg, 0, none⟩) ng cg ∧ ve = .slice (some ⟨qe, 0, none⟩) ng ce ∧ ng ≤ 21 ∧ ng ≤ j ∧ nb ≤ 1024 * ng ∧
    H.Shut (gg.length = ng ∧ (joinB gg).length = nb ∧ Good gg ∧ Jh W z (.slice (some ⟨qb, 0, none⟩) nb cb) nb ((joinB gg).map bv) (.slice (some ⟨qg, 0, none⟩) ng cg) ng (flatF gg) (.slice (some ⟨qe, 0, none⟩) ng ce) ng (startsV gg) ∧ (∀ f ∈ gg, f.ok w w.heap.size) ∧ Below w.heap.size w W ∧ nb ≤ cb ∧ ng ≤ cg ∧ ng ≤ ce)) (fun _ _ _ ii _ => n - (intOf ii).toNat)
  case atStart =>
    simp only [HZ.out]
    exact ⟨0, [], _, _, _, _, _, _, 0, 0, Nat.zero_le _, rfl, rfl, rfl, rfl, by omega, by omega, by omega, ⟨rfl, rfl, (fun f hf => by cases hf), HJ1.out, (fun f hf => by cases hf), HB3.out, Nat.le_refl _, Nat.le_refl _, Nat.le_refl _⟩⟩
  case round =>
    obtain ⟨j, gg, qb, cb, qg, cg, qe, ce, nb, ng, hj, rfl, rfl, rfl, rfl, h41, hngj, hnb, HI⟩ := hrel
    have HBr := Lib.hid HI.out.2.2.2.2.2.1
    have hszr : w.heap.size ≤ wr.heap.size := HBr.out.size
    have HEr := Lib.hid (HE.out.below h20 HBr.out)
    by_cases hlt : j < n
    · have hj2 : j < gs.length := by rw [HN.out]; exact hlt
      obtain ⟨b, o, rfl, hfo, hra⟩ := (HG.out.below HBr.out).at_ hj2
      have hfo0 : gs[j].ok w w.heap.size := by
        obtain ⟨_, _, _, h, _⟩ := HG.out.at_ hj2
        exact h
      obtain ⟨f, HF⟩ : ∃ f, H.Shut (gs[j] = f) := ⟨_, ⟨rfl⟩⟩
      rw [HF.out] at hfo hra hfo0
      obtain ⟨n9, HN9⟩ : ∃ n9, H.Shut (f.bs.length = n9) := ⟨_, ⟨rfl⟩⟩
      rw [HN9.out] at hra
      have HRA := Lib.hid hra
      have HFO := Lib.hid hfo
      have HFO0 := Lib.hid hfo0
      have HLD : Hid ((Tryd.prog.info? 25).map (·.size) = some (f.cells n9).length) := Lib.hid size25
      clear hra hfo hfo0
      go_wp2_with (first
        | (refine wl_loadM rfl (.tmp 29) rfl b (o + j * 10) rfl (f.cells n9) HRA.out HLD.out ?_
           intro vq HVQ)
        | (refine wl_alloc rfl 25 rfl _ _ info25' ?_
           intro w4 HA4 HB4 HZ4)
        | (refine wl_store rfl 25 (.tmp 11) (.tmp 30) rfl wr.heap.size _ (f.cells n9) rfl HVQ.out rfl 25 _ HA4.out HLD.out rfl (cells_ok f n9) ?_
           intro w5 HR5 HS5 HZ5)
        | (refine wl_load rfl 25 (.tmp 11) rfl wr.heap.size rfl 25 _ _ HR5.out under25.choose_spec rfl size25 ?_
           intro vr HVR))
      have hz4 : wr.heap.size < w4.heap.size := by rw [HZ4.out]; omega
      have hz5 : w5.heap.size = w4.heap.size := HZ5.out
      have HBr5 : Hid (Below wr.heap.size wr w5) := Lib.hid (HB4.out.trans (HS5.out.below (Nat.le_refl _) (by omega)))
      have HB5 := Lib.hid (HBr.out.trans (HBr5.out.mono HBr.out.size))
      have HE5w := Lib.hid (HE.out.below h20 HB5.out)
      have HFO5 := Lib.hid (((HFO.out.more HBr.out.size).below HBr5.out).more HBr5.out.size)
      have HVR2 : Hid (vr = f.v) := Lib.hid (by rw [HVR.out]; unfold Fr.v; rw [HN9.out])
      clear HA4 HB4 HZ4 HS5 HZ5 HVQ HVR HRA HFO
      cases hval : valid f with
      | false =>
        with_reducible refine (put_bad f vr E 159 (.pointer (some a)) w5 HVR2 HE5w.out HFO5.out hval).mono ?_
        rintro e w6 ⟨rfl, HV6⟩
        have HBr6 := Lib.hid (HBr5.out.trans (HV6.out.mono HBr5.out.size))
        have HI6 : H.Shut (gg.length = ng ∧ (joinB gg).length = nb ∧ Good gg ∧ Jh w6 z (.slice (some ⟨qb, 0, none⟩) nb cb) nb ((joinB gg).map bv) (.slice (some ⟨qg, 0, none⟩) ng cg) ng (flatF gg) (.slice (some ⟨qe, 0, none⟩) ng ce) ng (startsV gg) ∧ (∀ f ∈ gg, f.ok w w.heap.size) ∧ Below w.heap.size w w6 ∧ nb ≤ cb ∧ ng ≤ cg ∧ ng ≤ ce) := ⟨HI.out.1, HI.out.2.1, HI.out.2.2.1, HI.out.2.2.2.1.below HBr6.out, HI.out.2.2.2.2.1, HBr.out.trans (HBr6.out.mono hszr), HI.out.2.2.2.2.2.2⟩
        clear hval HV6 HI HR5 HBr
        by_cases h40 : j ≤ 20
        · have h40I : ¬ (j : Int) > 20 := by omega
          go_wp2_with fail
          exact ⟨⟨j + 1, gg, qb, cb, qg, cg, qe, ce, nb, ng, by omega, by go_num, rfl, rfl, rfl, h41, by omega, hnb, HI6⟩, by simp [intOf]; omega⟩
        · have h40I : (j : Int) > 20 := by omega
          go_wp2_with fail
          exact ⟨⟨j + 1, gg, qb, cb, qg, cg, qe, ce, nb, ng, by omega, by go_num, rfl, rfl, rfl, h41, by omega, hnb, HI6⟩, by simp [intOf]; omega⟩
      | true =>
        with_reducible refine (put_ok f vr E 159 (.pointer (some a)) w5 HVR2 HE5w.out HFO5.out hval).mono ?_
        rintro e w6 ⟨x, rfl, HV6⟩
        have HBr6 := Lib.hid (HBr5.out.trans (HV6.out.2.mono HBr5.out.size))
        have hz6 : wr.heap.size < w6.heap.size := by have := HV6.out.2.size; omega
        have h5r : wr.heap.size < w5.heap.size := by omega
        by_cases h40 : j ≤ 20
        · have h40I : ¬ (j : Int) > 20 := by omega
          obtain ⟨XA, xc, rfl, hpl, hxc, hxm, hxr, hxg⟩ := own_slice HV6.out.1
          have hXA : ∀ ad, XA = some ad → wr.heap.size < ad.block := fun ad e => by
            have := (HV6.out.1.lt ad.block (by rw [e]; rfl)).1
            omega
          have HXA := Lib.hid hXA
          obtain ⟨tt, HTT⟩ : ∃ tt, H.Shut (total f + 4 = tt) := ⟨_, ⟨rfl⟩⟩
          have htt : tt ≤ 1024 := by have := total_1020 f hval; rw [← HTT.out]; omega
          rw [HTT.out] at hpl hxc ⊢
          have hq := HI.out.2.2.2.1
          have hqb := (hq.ob.lt qb rfl)
          have hqg := (hq.og.lt qg rfl)
          have hqe := (hq.oe.lt qe rfl)
          have HPB : Hid ((putB f).length = tt) := Lib.hid hpl
          have HXr : Hid (Rd w6 w6.heap.size XA ((putB f).map bv)) := Lib.hid hxr
          have hrow : Row w6 wr.heap.size 25 (f.cells n9) := HR5.out.below HV6.out.2 (by omega)
          have hrg : w6.rangeAt wr.heap.size 0 (f.cells n9) := row_range hrow
          have HRG6 := Lib.hid hrg
          have HB6 : Hid (Below w.heap.size w w6) := Lib.hid (HBr.out.trans (HBr6.out.mono hszr))
          have HJ6 := Lib.hid (hq.below HBr6.out)
          have HGV : Hid (valid f = true) := Lib.hid hval
          have HI0 := Lib.hid (And.intro HI.out.1 (And.intro HI.out.2.1 (And.intro HI.out.2.2.1 HI.out.2.2.2.2.1)))
          obtain ⟨nb2, HNB2⟩ : ∃ m, H.Shut (nb + tt = m) := ⟨_, ⟨rfl⟩⟩
          obtain ⟨ng2, HNG2⟩ : ∃ m, H.Shut (ng + 1 = m) := ⟨_, ⟨rfl⟩⟩
          have hnb2 : nb2 ≤ 1024 * ng2 := by rw [← HNB2.out, ← HNG2.out]; omega
          have hng2 : ng2 ≤ 21 ∧ ng2 ≤ j + 1 := by rw [← HNG2.out]; omega
          clear hval HV6 HI HR5 HBr6 HBr5 HBr HB5 HE5w HFO5 hq hpl hxr hxg hXA hrow hrg
          have hba : Below w6.heap.size w6 (w6.alloc (.cells #[.int .i64 (nb : Int)] 3)) := below_alloc w6 _
          have hz8 : z ≤ (w6.alloc (.cells #[.int .i64 (nb : Int)] 3)).heap.size := by have := hba.size; omega
          have hz68 : w6.heap.size ≤ (w6.alloc (.cells #[.int .i64 (nb : Int)] 3)).heap.size := hba.size
          have HJA := Lib.hid (HJ6.out.below hba)
          have HBA : Hid (Below w.heap.size w (w6.alloc (.cells #[.int .i64 (nb : Int)] 3))) := Lib.hid (HB6.out.trans (hba.mono HB6.out.size))
          have HRI : Hid (Row (w6.alloc (.cells #[.int .i64 (nb : Int)] 3)) w6.heap.size 3 [.int .i64 (nb : Int)]) := Lib.hid (Row.new w6 [.int .i64 (nb : Int)] 3)
          have HXA6 := Lib.hid (HXr.out.below hba)
          have HRGA := Lib.hid (range_below HRG6.out hba)
          clear hba
          go_wp2_with (first
            | (refine wl_appI rfl (.tmp 42) (.tmp 45) rfl z ng (.slice (some ⟨qe, 0, none⟩) ng ce) (startsV gg) (nb : Int) w6.heap.size rfl rfl HRI.out HJA.out.oe (by omega) hz8 ?_
               intro v12 W0 HA12))
          obtain ⟨qh, h12⟩ := own_next rfl HA12.out.2.2
          have hj12 := HJA.out.appe HA12.out.1 HA12.out.2.1 HA12.out.2.2
          have ho12 := HA12.out.1
          rw [HNG2.out] at hj12 ho12
          obtain ⟨ch, rfl, hch, _, _⟩ := own_some ho12 h12
          have hs12 : (w6.alloc (.cells #[.int .i64 (nb : Int)] 3)).heap.size ≤ W0.heap.size := HA12.out.2.1.size
          have hqh := (hj12.oe.lt qh rfl)
          have HJ00 : Hid (Jh W0 z (.slice (some ⟨qb, 0, none⟩) nb cb) nb ((joinB gg).map bv) (.slice (some ⟨qg, 0, none⟩) ng cg) ng (flatF gg) (.slice (some ⟨qh, 0, none⟩) ng2 ch) ng2 (startsV gg ++ [.int .i64 (nb : Int)])) := Lib.hid hj12
          have HX00 : Hid (Rd W0 W0.heap.size XA ((putB f).map bv)) := Lib.hid ((rd_grown HXA6.out hz68 HA12.out.2.1 (fun ad e => ob_ne (by have := HXA.out ad e; omega))).more (by omega))
          have HB00 : Hid (Below w.heap.size w W0) := Lib.hid (HBA.out.grown HA12.out.2.1 HBA.out.size (fun j hj => ob_ge hj (by omega)))
          have hrg : W0.rangeAt wr.heap.size 0 (f.cells n9) := range_grown HRGA.out HA12.out.2.1 (ob_ne (by omega))
          have HJ0 : Hid (Jh W0.drew z (.slice (some ⟨qb, 0, none⟩) nb cb) nb ((joinB gg).map bv) (.slice (some ⟨qg, 0, none⟩) ng cg) ng (flatF gg) (.slice (some ⟨qh, 0, none⟩) ng2 ch) ng2 (startsV gg ++ [.int .i64 (nb : Int)])) := Lib.hid (hj12.below (Below.refl _ _).drew)
          have HX0 : Hid (Rd W0.drew W0.heap.size XA ((putB f).map bv)) := Lib.hid HX00.out
          have HB0 : Hid (Below w.heap.size w W0.drew) := Lib.hid HB00.out.drew
          have HRG : Hid (W0.drew.rangeAt wr.heap.size 0 (f.cells n9)) := Lib.hid hrg
          have hz0 : z ≤ W0.drew.heap.size := by show z ≤ W0.heap.size; omega
          have hz66 : wr.heap.size < W0.heap.size := by omega
          clear hj12 ho12 HA12 hrg HXA6 HRGA HJA HBA HRI HJ6 HB6 HRG6 HXr h12
          go_wp2_with fail
          refine wp_region_held_drew (S := fun w' => w'.rangeAt wr.heap.size 0 (f.cells n9)) (by kernel_rfl) HRG.out (fun hHeld => ?_)
          refine wpAnyH_take (i := 0) (v := .slice (some ⟨qb, 0, none⟩) nb cb) rfl (by kernel_rfl) (by kernel_rfl) (by kernel_rfl) (fun _ _ _ h => h) (Or.inl ⟨by kernel_rfl, ?_⟩) (by assumption) ?_
          · (intro w' hSw; (try dsimp only at hSw); go_simp)
          simp only [Act.put, List.setIfInBounds_toArray]
          refine wpAnyH_take (i := 1) (v := .slice XA tt xc) rfl (by kernel_rfl) (by kernel_rfl) (by kernel_rfl) (fun _ _ _ h => h) (Or.inl ⟨by kernel_rfl, ?_⟩) (by assumption) ?_
          · (intro w' hSw; (try dsimp only at hSw); go_simp)
          simp only [Act.put]
          refine wpAnyH_take (i := 3) (v := .slice (some ⟨qg, 0, none⟩) ng cg) rfl (by kernel_rfl) (by kernel_rfl) (by kernel_rfl) (fun _ _ _ h => h) (Or.inl ⟨by kernel_rfl, ?_⟩) (by assumption) ?_
          · (intro w' hSw; (try dsimp only at hSw); go_simp)
          simp only [Act.put]
          refine wpAnyH_take (i := 4) (v := .agg #[.int .i64 f.kind, .int .i64 f.seq, .int .i64 f.got, .int .i64 f.stream, .int .i64 f.amount, .int .i64 f.code, .string f.who, .string f.name, .float .f64 f.weight, .slice f.ba n9 f.bc]) rfl (by kernel_rfl) (by kernel_rfl) (by kernel_rfl) (fun _ _ _ h => h) (yieldsIf_load_mid (by kernel_rfl) 25 (.tmp 11) rfl wr.heap.size 0 rfl (f.cells n9) _ (fun w' hSw => hSw) under25.choose_spec rfl HLD.out) (by assumption) ?_
          simp only [Act.put]

          refine wpAnyH_ready (rs := [2, 5]) (by kernel_rfl) (by simp) ?_
          refine AllReadyH.cons rfl (fun K hK => ?_) (AllReadyH.cons rfl (fun K hK => ?_) AllReadyH.nil)
          · -- bytes, then the frame's block, then the frame
            refine F.step_append_rd _ rfl (.tmp 47) (.tmp 48) rfl z (.slice (some ⟨qb, 0, none⟩) nb cb) nb ((joinB gg).map bv) rfl HJ0.out.ob W0.heap.size XA tt xc (putB f) rfl HPB.out HX0.out (by omega) hz0 ?_
            intro v7 w7 ho7 hg7 hl7
            have hs7 : W0.heap.size ≤ w7.heap.size := hg7.size
            refine hK.out _ _ (range_grown HRG.out hg7 (ob_ne (by omega))) (fun hHeld => ?_)
            clear hK K
            simp only [Act.put]
            have HJ7 : Hid (Jh w7 z v7 (nb + tt) ((joinB gg).map bv ++ (putB f).map bv) (.slice (some ⟨qg, 0, none⟩) ng cg) ng (flatF gg) (.slice (some ⟨qh, 0, none⟩) ng2 ch) ng2 (startsV gg ++ [.int .i64 (nb : Int)])) := Lib.hid (HJ0.out.appb ho7 hg7 hl7)
            have HB7 : Hid (Below w.heap.size w w7) := Lib.hid (HB0.out.grown hg7 HB0.out.size (fun j hj => ob_ge hj (by omega)))
            refine wpAnyH_ready (rs := [5]) (by kernel_rfl) (by simp) ?_
            refine AllReadyH.cons rfl (fun K hK => ?_) AllReadyH.nil
            go_simp
            refine hK.out _ _ (range_below hHeld (below_alloc _ _)) (fun hHeld => ?_)
            clear hK K
            (try simp only [Act.put, List.setIfInBounds_toArray, List.set_cons_zero, List.set_cons_succ])
            have hs8 : w7.heap.size ≤ (w7.alloc (.cells (f.cells n9).toArray 25)).heap.size := (below_alloc w7 _).size
            have hz8 : z ≤ (w7.alloc (.cells (f.cells n9).toArray 25)).heap.size := by omega
            have HJ8 : Hid (Jh (w7.alloc (.cells (f.cells n9).toArray 25)) z v7 (nb + tt) ((joinB gg).map bv ++ (putB f).map bv) (.slice (some ⟨qg, 0, none⟩) ng cg) ng (flatF gg) (.slice (some ⟨qh, 0, none⟩) ng2 ch) ng2 (startsV gg ++ [.int .i64 (nb : Int)])) := Lib.hid (HJ7.out.below (below_alloc w7 _))
            have HB8 : Hid (Below w.heap.size w (w7.alloc (.cells (f.cells n9).toArray 25))) := Lib.hid (HB7.out.trans ((below_alloc w7 _).mono HB7.out.size))
            refine wpAnyH_ready (rs := [6]) (by kernel_rfl) (by simp) ?_
            refine AllReadyH.cons rfl (fun K hK => ?_) AllReadyH.nil
            refine step_frame _ rfl (.tmp 50) (.tmp 52) rfl z ng (.slice (some ⟨qg, 0, none⟩) ng cg) (flatF gg) f n9 w7.heap.size rfl rfl (Row.new w7 (f.cells n9) 25) HJ8.out.og (by omega) hz8 ?_
            intro v9 w9 ho9 hg9 hl9
            have hs9 : (w7.alloc (.cells (f.cells n9).toArray 25)).heap.size ≤ w9.heap.size := hg9.size
            refine hK.out _ _ (range_grown hHeld hg9 (ob_ne (by omega))) (fun hHeld => ?_)
            clear hK K
            (try simp only [Act.put, List.setIfInBounds_toArray])
            refine wpAnyH_take (i := 7) (v := v7) rfl (by kernel_rfl) (by kernel_rfl) (by kernel_rfl) (fun _ _ _ h => h) (Or.inl ⟨by kernel_rfl, ?_⟩) (by assumption) ?_
            · (intro w' hSw; (try dsimp only at hSw); go_simp)
            simp only [Act.put]
            refine wpAnyH_take (i := 8) (v := v9) rfl (by kernel_rfl) (by kernel_rfl) (by kernel_rfl) (fun _ _ _ h => h) (Or.inl ⟨by kernel_rfl, ?_⟩) (by assumption) ?_
            · (intro w' hSw; (try dsimp only at hSw); go_simp)
            simp only [Act.put]
            refine wpAnyH_done (by kernel_rfl) ?_ _
            simp only [List.getElem_toArray, List.getElem_cons_succ, List.getElem_cons_zero, List.setIfInBounds_toArray, List.set_cons_zero, List.set_cons_succ]
            have HJF : Jh w9 z v7 (nb + tt) ((joinB gg).map bv ++ (putB f).map bv) v9 (ng + 1) (flatF gg ++ f.cells n9) (.slice (some ⟨qh, 0, none⟩) ng2 ch) ng2 (startsV gg ++ [.int .i64 (nb : Int)]) := HJ8.out.appg ho9 hg9 hl9
            rw [HNB2.out, HNG2.out] at HJF
            have HMET : Hid (Met w9 z nb2 ((joinB gg).map bv ++ (putB f).map bv) ng2 (flatF gg ++ f.cells n9) (.slice (some ⟨qh, 0, none⟩) ng2 ch) ng2 (startsV gg ++ [.int .i64 (nb : Int)]) (Below w.heap.size w w9 ∧ W0.heap.size ≤ w9.heap.size) v7 v9) := Lib.hid (met_of HJF (own_next rfl hl7) (own_next rfl hl9) ⟨HB8.out.grown hg9 HB8.out.size (fun j hj => ob_ge hj (by omega)), by omega⟩)
            clear HJF
            obtain ⟨q5, c5, q6, c6, rfl, rfl, HC⟩ := HMET.out
            have HJ8' := Lib.hid HC.out.2.2.2.2.1
            have HB8' := Lib.hid HC.out.2.2.2.2.2.1
            have hc5 : nb2 ≤ c5 := HC.out.1
            have hc6 : ng2 ≤ c6 := HC.out.2.2.1
            clear HC HMET
            go_wp2_with fail
            refine ⟨⟨j + 1, gg ++ [f], q5, c5, q6, c6, qh, ch, nb2, ng2, by omega, by go_num, rfl, rfl, rfl, hng2.1, hng2.2, hnb2, ⟨?_, ?_, HI0.out.2.2.1.snoc HGV.out HFO0.out.fit, ?_, fun g hgm => ?_, HB8'.out, hc5, hc6, hch⟩⟩, by simp [intOf]; omega⟩
            · rw [List.length_append, HI0.out.1]
              exact HNG2.out
            · rw [joinB_snoc, List.length_append, HI0.out.2.1, HPB.out]
              exact HNB2.out
            · rw [joinB_snoc, List.map_append, flatF_snoc, HN9.out, startsV_snoc]
              have e3 : bytesOf gg = nb := by rw [← joinB_length, HI0.out.2.1]
              rw [e3]
              exact HJ8'.out
            · rcases List.mem_append.1 hgm with hgm | hgm
              · exact HI0.out.2.2.2 g hgm
              · have : g = f := by simpa using hgm
                subst this
                exact HFO0.out


          · -- the frame's block first
            go_simp
            refine hK.out _ _ (range_below HRG.out (below_alloc _ _)) (fun hHeld => ?_)
            clear hK K
            (try simp only [Act.put, List.setIfInBounds_toArray, List.set_cons_zero, List.set_cons_succ])
            have hba5 : Below W0.heap.size W0 ((W0.alloc (.cells (f.cells n9).toArray 25)).drew) := (below_alloc W0 _).drew
            have hs5 : W0.heap.size ≤ ((W0.alloc (.cells (f.cells n9).toArray 25)).drew).heap.size := hba5.size
            have hz5 : z ≤ ((W0.alloc (.cells (f.cells n9).toArray 25)).drew).heap.size := Nat.le_trans hz0 hs5
            have hs5' : W0.heap.size < ((W0.alloc (.cells (f.cells n9).toArray 25)).drew).heap.size := by show W0.heap.size < (W0.alloc _).heap.size; simp
            have HJ5 : Hid (Jh ((W0.alloc (.cells (f.cells n9).toArray 25)).drew) z (.slice (some ⟨qb, 0, none⟩) nb cb) nb ((joinB gg).map bv) (.slice (some ⟨qg, 0, none⟩) ng cg) ng (flatF gg) (.slice (some ⟨qh, 0, none⟩) ng2 ch) ng2 (startsV gg ++ [.int .i64 (nb : Int)])) := Lib.hid (HJ00.out.below hba5)
            have HB5 : Hid (Below w.heap.size w ((W0.alloc (.cells (f.cells n9).toArray 25)).drew)) := Lib.hid (HB00.out.trans (hba5.mono HB00.out.size))
            have HX5 : Hid (Rd ((W0.alloc (.cells (f.cells n9).toArray 25)).drew) W0.heap.size XA ((putB f).map bv)) := Lib.hid (HX00.out.below hba5)
            have HRQ0 : Row (W0.alloc (.cells (f.cells n9).toArray 25)) W0.heap.size 25 (f.cells n9) := Row.new W0 (f.cells n9) 25
            have HRQ : Hid (Row ((W0.alloc (.cells (f.cells n9).toArray 25)).drew) W0.heap.size 25 (f.cells n9)) := Lib.hid HRQ0
            clear HRQ0
            refine wpAnyH_ready (rs := [2]) (by kernel_rfl) (by simp) ?_
            refine AllReadyH.cons rfl (fun K hK => ?_) AllReadyH.nil
            · refine F.step_append_rd _ rfl (.tmp 47) (.tmp 48) rfl z (.slice (some ⟨qb, 0, none⟩) nb cb) nb ((joinB gg).map bv) rfl HJ5.out.ob W0.heap.size XA tt xc (putB f) rfl HPB.out HX5.out (by omega) hz5 ?_
              intro v7 w7 ho7 hg7 hl7
              have hs7 : ((W0.alloc (.cells (f.cells n9).toArray 25)).drew).heap.size ≤ w7.heap.size := hg7.size
              refine hK.out _ _ (range_grown hHeld hg7 (ob_ne (by omega))) (fun hHeld => ?_)
              clear hK K
              (try simp only [Act.put, List.setIfInBounds_toArray])
              have HJ7 : Hid (Jh w7 z v7 (nb + tt) ((joinB gg).map bv ++ (putB f).map bv) (.slice (some ⟨qg, 0, none⟩) ng cg) ng (flatF gg) (.slice (some ⟨qh, 0, none⟩) ng2 ch) ng2 (startsV gg ++ [.int .i64 (nb : Int)])) := Lib.hid (HJ5.out.appb ho7 hg7 hl7)
              have HB7 : Hid (Below w.heap.size w w7) := Lib.hid (HB5.out.grown hg7 HB5.out.size (fun j hj => ob_ge hj (by omega)))
              have HRQ7 : Hid (Row w7 W0.heap.size 25 (f.cells n9)) := Lib.hid (row_grown HRQ.out hg7 (ob_ne (by omega)))
              refine wpAnyH_ready (rs := [6]) (by kernel_rfl) (by simp) ?_
              refine AllReadyH.cons rfl (fun K hK => ?_) AllReadyH.nil
              refine step_frame _ rfl (.tmp 50) (.tmp 52) rfl z ng (.slice (some ⟨qg, 0, none⟩) ng cg) (flatF gg) f n9 W0.heap.size rfl rfl HRQ7.out HJ7.out.og (by omega) (by omega) ?_
              intro v9 w9 ho9 hg9 hl9
              have hs9 := hg9.size
              refine hK.out _ _ (range_grown hHeld hg9 (ob_ne (by omega))) (fun hHeld => ?_)
              clear hK K
              (try simp only [Act.put])
              refine wpAnyH_take (i := 7) (v := v7) rfl (by kernel_rfl) (by kernel_rfl) (by kernel_rfl) (fun _ _ _ h => h) (Or.inl ⟨by kernel_rfl, ?_⟩) (by assumption) ?_
              · (intro w' hSw; (try dsimp only at hSw); go_simp)
              simp only [Act.put]
              refine wpAnyH_take (i := 8) (v := v9) rfl (by kernel_rfl) (by kernel_rfl) (by kernel_rfl) (fun _ _ _ h => h) (Or.inl ⟨by kernel_rfl, ?_⟩) (by assumption) ?_
              · (intro w' hSw; (try dsimp only at hSw); go_simp)
              simp only [Act.put]
              refine wpAnyH_done (by kernel_rfl) ?_ _
              simp only [List.getElem_toArray, List.getElem_cons_succ, List.getElem_cons_zero, List.setIfInBounds_toArray, List.set_cons_zero, List.set_cons_succ]
              have HJF : Jh w9 z v7 (nb + tt) ((joinB gg).map bv ++ (putB f).map bv) v9 (ng + 1) (flatF gg ++ f.cells n9) (.slice (some ⟨qh, 0, none⟩) ng2 ch) ng2 (startsV gg ++ [.int .i64 (nb : Int)]) := HJ7.out.appg ho9 hg9 hl9
              rw [HNB2.out, HNG2.out] at HJF
              have HMET : Hid (Met w9 z nb2 ((joinB gg).map bv ++ (putB f).map bv) ng2 (flatF gg ++ f.cells n9) (.slice (some ⟨qh, 0, none⟩) ng2 ch) ng2 (startsV gg ++ [.int .i64 (nb : Int)]) (Below w.heap.size w w9 ∧ W0.heap.size ≤ w9.heap.size) v7 v9) := Lib.hid (met_of HJF (own_next rfl hl7) (own_next rfl hl9) ⟨HB7.out.grown hg9 HB7.out.size (fun j hj => ob_ge hj (by omega)), by omega⟩)
              clear HJF
              obtain ⟨q5, c5, q6, c6, rfl, rfl, HC⟩ := HMET.out
              have HJ8' := Lib.hid HC.out.2.2.2.2.1
              have HB8' := Lib.hid HC.out.2.2.2.2.2.1
              have hc5 : nb2 ≤ c5 := HC.out.1
              have hc6 : ng2 ≤ c6 := HC.out.2.2.1
              clear HC HMET
              go_wp2_with fail
              refine ⟨⟨j + 1, gg ++ [f], q5, c5, q6, c6, qh, ch, nb2, ng2, by omega, by go_num, rfl, rfl, rfl, hng2.1, hng2.2, hnb2, ⟨?_, ?_, HI0.out.2.2.1.snoc HGV.out HFO0.out.fit, ?_, fun g hgm => ?_, HB8'.out, hc5, hc6, hch⟩⟩, by simp [intOf]; omega⟩
              · rw [List.length_append, HI0.out.1]
                exact HNG2.out
              · rw [joinB_snoc, List.length_append, HI0.out.2.1, HPB.out]
                exact HNB2.out
              · rw [joinB_snoc, List.map_append, flatF_snoc, HN9.out, startsV_snoc]
                have e3 : bytesOf gg = nb := by rw [← joinB_length, HI0.out.2.1]
                rw [e3]
                exact HJ8'.out
              · rcases List.mem_append.1 hgm with hgm | hgm
                · exact HI0.out.2.2.2 g hgm
                · have : g = f := by simpa using hgm
                  subst this
                  exact HFO0.out



        · have h40I : (j : Int) > 20 := by omega
          have HI6 : H.Shut (gg.length = ng ∧ (joinB gg).length = nb ∧ Good gg ∧ Jh w6 z (.slice (some ⟨qb, 0, none⟩) nb cb) nb ((joinB gg).map bv) (.slice (some ⟨qg, 0, none⟩) ng cg) ng (flatF gg) (.slice (some ⟨qe, 0, none⟩) ng ce) ng (startsV gg) ∧ (∀ f ∈ gg, f.ok w w.heap.size) ∧ Below w.heap.size w w6 ∧ nb ≤ cb ∧ ng ≤ cg ∧ ng ≤ ce) := ⟨HI.out.1, HI.out.2.1, HI.out.2.2.1, HI.out.2.2.2.1.below HBr6.out, HI.out.2.2.2.2.1, HBr.out.trans (HBr6.out.mono hszr), HI.out.2.2.2.2.2.2⟩
          clear hval HV6 HI HR5 HBr
          go_wp2_with fail
          exact ⟨⟨j + 1, gg, qb, cb, qg, cg, qe, ce, nb, ng, by omega, by go_num, rfl, rfl, rfl, h41, by omega, hnb, HI6⟩, by simp [intOf]; omega⟩
    · clear HG HN
      have hcb : nb ≤ cb := HI.out.2.2.2.2.2.2.1
      have hcg : ng ≤ cg := HI.out.2.2.2.2.2.2.2.1
      have hce : ng ≤ ce := HI.out.2.2.2.2.2.2.2.2
      by_cases h0 : ng = 0
      · subst h0
        go_wp2_with fail
        go_ret
        exact ⟨rfl, HBr.out⟩
      · have h0I : ((ng : Int) == 0) = false := by
          simp
          exact h0
        obtain ⟨k, hk, hkn⟩ := left_by2 cu ng (by omega) (by omega)
        have HLN : Hid (gg.length = ng) := Lib.hid HI.out.1
        have HLB : Hid ((joinB gg).length = nb) := Lib.hid HI.out.2.1
        have HGD : Hid (Good gg) := Lib.hid HI.out.2.2.1
        have HJ := Lib.hid HI.out.2.2.2.1
        have HOK := Lib.hid HI.out.2.2.2.2.1
        obtain ⟨en, HEN⟩ : ∃ en, H.Shut (bytesOf (gg.take (k + 1)) = en) := ⟨_, ⟨rfl⟩⟩
        have hen7 : 7 ≤ en := by rw [← HEN.out]; exact bytesOf_pos HGD.out k (by rw [HLN.out]; exact hkn)
        obtain ⟨e1, rfl⟩ : ∃ e1, en = e1 + 1 := ⟨en - 1, by omega⟩
        have henb : e1 + 1 ≤ nb := by rw [← HEN.out, ← HLB.out, joinB_length]; exact bytesOf_take_le gg (k + 1)
        obtain ⟨st, HST⟩ : ∃ st, H.Shut (bytesOf (gg.take k) = st) := ⟨_, ⟨rfl⟩⟩
        have hcst : wr.cell? ⟨qe, k, none⟩ = some (.int .i64 (st : Int)) := by
          have h1 := HJ.out.oe.cells (g := qe) rfl k _ (startsV_at gg k (by rw [HLN.out]; exact hkn))
          rw [Addr.add_mid, Nat.zero_add, HST.out] at h1
          exact h1
        have HCST := Lib.hid hcst
        have HCEN : Hid (k + 1 < ng → wr.cell? ⟨qe, k + 1, none⟩ = some (.int .i64 ((e1 : Int) + 1))) := Lib.hid (fun h => by
          have h1 := HJ.out.oe.cells (g := qe) rfl (k + 1) _ (startsV_at gg (k + 1) (by rw [HLN.out]; exact h))
          rw [Addr.add_mid, Nat.zero_add, HEN.out] at h1
          exact h1)
        have he1b : e1 < (joinB gg).length := by rw [HLB.out]; omega
        obtain ⟨b0, HB0⟩ : ∃ b0, H.Shut ((joinB gg)[e1]'he1b = b0) := ⟨_, ⟨rfl⟩⟩
        have hb0c : wr.cell? ⟨qb, e1, none⟩ = some (.int .u8 (b0.toNat : Int)) := by
          have h1 := HJ.out.ob.cells (g := qb) rfl e1 (bv b0) (by rw [List.getElem?_map, List.getElem?_eq_getElem he1b, HB0.out]; rfl)
          rw [Addr.add_mid, Nat.zero_add] at h1
          exact h1
        have hb0f : wr.frozen? ⟨qb, e1, none⟩ = false := own_unfrozen HJ.out.ob e1
        have hb0l := b0.toNat_lt
        obtain ⟨x0, HX0⟩ : ∃ x0, H.Shut (b0.toNat = x0) := ⟨_, ⟨rfl⟩⟩
        rw [HX0.out] at hb0c hb0l
        have he1I : (e1 : Int) < (nb : Int) := by omega
        clear HI HZ hz1 HB1 HJ1 HB3 hcst
        go_upto_region 17 with fail
        rw [hk]
        clear hk hlt h0I
        go_upto_if 71 with fail
        go_cut [15] (fun s15 wx => s15 = .int .i64 ((e1 : Int) + 1) ∧ wr = wx)
        case first =>
          by_cases hk1 : k + 1 < ng
          · have hce1 := HCEN.out hk1
            have hk1I : (k : Int) + 1 < (ng : Int) := by omega
            go_wp2_with fail
            go_meet
            case rel => exact ⟨rfl, rfl⟩
          · have hk1I : ¬ (k : Int) + 1 < (ng : Int) := by omega
            have hnn : (nb : Int) = (e1 : Int) + 1 := by
              have : nb = e1 + 1 := by rw [← HEN.out, ← HLB.out, joinB_length, List.take_of_length_le (by rw [HLN.out]; omega)]
              omega
            have HNN := Lib.hid hnn
            clear hnn
            go_wp2_with fail
            go_meet
            case rel => exact ⟨by rw [HNN.out], rfl⟩
        case rest =>
          obtain ⟨rfl, rfl⟩ := hcut
          go_wp2_with fail
          obtain ⟨y, hy, hyne⟩ := turned_byte b0 tu
          rw [HX0.out] at hy
          rw [hy]
          have hqb := HJ.out.ob.lt qb rfl
          have hqe := HJ.out.oe.lt qe rfl
          have hJs := HJ.out.setb e1 (bv y) (by omega)
          have HBs : Hid (Below w.heap.size w (wr.setCell ⟨qb, e1, none⟩ (.int .u8 (y.toNat : Int)))) := Lib.hid (HBr.out.setCell (show w.heap.size ≤ qb by omega) _)
          rw [← List.map_set] at hJs
          have HJs : Hid (Jh (wr.setCell ⟨qb, e1, none⟩ (.int .u8 (y.toNat : Int))) z (.slice (some ⟨qb, 0, none⟩) nb cb) nb (((joinB gg).set e1 y).map bv) (.slice (some ⟨qg, 0, none⟩) ng cg) ng (flatF gg) (.slice (some ⟨qe, 0, none⟩) ng ce) ng (startsV gg)) := Lib.hid hJs
          generalize wr.setCell ⟨qb, e1, none⟩ (.int .u8 (y.toNat : Int)) = w2 at *
          obtain ⟨A', c', ee, hsl, _, hcm', hrd, _⟩ := own_slice HJs.out.ob
          injection ee with ee1 ee2 ee3
          subst ee1
          subst ee3
          have hws : w.heap.size ≤ w2.heap.size := HBs.out.size
          have HE2 := Lib.hid (HE.out.below h20 HBs.out)
          have HE52 := Lib.hid (HE5.out.below h20 HBs.out)
          have hcut := cut_turned gg k y HGD.out (by rw [HLN.out]; exact hkn) (by
            rw [HEN.out, Nat.add_sub_cancel, List.getElem?_eq_getElem he1b, HB0.out]
            exact fun e => hyne (Option.some.inj e).symm)
          rw [HEN.out, Nat.add_sub_cancel] at hcut
          have HSP := Lib.hid (split_any nb cb ((joinB gg).set e1 y) (some ⟨qb, 0, none⟩) E 159 (.pointer (some a)) w2 HE2.out HE52.out hsl hcb hcm' (by omega) hrd _ _ _ hcut)
          have eN : errV 159 (.pointer (some a)) true = .iface 159 (.pointer (some a)) := rfl
          rw [bytesOf_pl, HST.out, eN] at HSP
          clear hJs hsl hrd hcut hy hyne hb0c hb0f HCEN HCST
          with_reducible refine HSP.out.mono ?_
          rintro e w3 ⟨fr, v3, h3, rfl, HV3⟩
          obtain ⟨A3, c3, rfl, hc3, hcm3, hfr3⟩ := HV3.out.1.frs
          have HFR3 := Lib.hid hfr3
          have HPL : Hid (fr.map Fr.pl = (gg.take k).map Fr.pl) := Lib.hid HV3.out.2.1
          have HL3 : Hid (fr.length = k) := Lib.hid (by
            have h1 := congrArg List.length HPL.out
            rw [List.length_map, List.length_map, List.length_take, HLN.out] at h1
            omega)
          have HB23 := Lib.hid HV3.out.2.2
          have HJ3 := Lib.hid (HJs.out.below HB23.out)
          have HB3 : Hid (Below w.heap.size w w3) := Lib.hid (HBs.out.trans (HB23.out.mono hws))
          have hwz3 : w.heap.size ≤ w3.heap.size := HB3.out.size
          have HG3 : Hid (FrsAt w3 w3.heap.size (some ⟨qg, 0, none⟩) gg) := Lib.hid (frs_own HJ3.out.og (fun f hf => ((HOK.out f hf).below HB3.out).more hwz3))
          have HLT : Hid ((gg.take k).length = k) := Lib.hid (by rw [List.length_take, HLN.out]; omega)
          have HSL := Lib.hid (sameList_true k c3 cg A3 (some ⟨qg, 0, none⟩) fr (gg.take k) w3 HL3.out HLT.out (by omega) HFR3.out (HG3.out.take k) HPL.out)
          have hkc : (k : Int) ≤ (cg : Int) := by omega
          have ce0 : w3.cell? ⟨0, 0, none⟩ = some (.iface 159 (.pointer (some a))) := (HE.out.below h20 HB3.out).ef
          have hen := fun W : World => err_eql a W
          rw [HL3.out]
          clear HSP HV3 hc3 hfr3
          go_wp2_with fail
          with_reducible refine HSL.out.mono ?_
          rintro e w4 ⟨rfl, HB34⟩
          have HJ4 := Lib.hid (HJ3.out.below HB34.out)
          have HB4 : Hid (Below w.heap.size w w4) := Lib.hid (HB3.out.trans (HB34.out.mono hwz3))
          have hcst : w4.cell? ⟨qe, k, none⟩ = some (.int .i64 (st : Int)) := by
            have h1 := HJ4.out.oe.cells (g := qe) rfl k _ (startsV_at gg k (by rw [HLN.out]; exact hkn))
            rw [Addr.add_mid, Nat.zero_add, HST.out] at h1
            exact h1
          have hknI : (k : Int) < (ng : Int) := by omega
          go_wp2_with fail
          go_ret
          exact ⟨rfl, HB4.out⟩
end Go.Proofs.YtmhfhdbaeijcfaaDoor

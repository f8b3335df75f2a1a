/- What frame.Check answers: nil just if the frame is valid, else ErrFrame. -/
import Derived.Test.YtlmdafldggbiaaaDoorExta
namespace Go.Proofs.YtlmdafldggbiaaaDoor
open Go.RowKit
open Go.Proofs.YtlmdafldggbiaaaDoor.H

theorem info82 : (Tryd.prog.info? 82).map (fun i => (i.zero, i.size)) = some (some (.agg (List.replicate 9 (Value.int .i64 0)).toArray), 9) := by kernel_rfl
theorem under25 : ∃ fs, Tryd.prog.underlying 25 = some (.struct fs) := ⟨_, Tryd.underlying25⟩
theorem size25 : (Tryd.prog.info? 25).map (·.size) = some 10 := by kernel_rfl
/-- Nine numbers: those of L as g says, the others 0. -/
def rowOf (g : Nat → Int) (L : List Nat) : List Value := (List.range 9).map fun x => .int .i64 (if x ∈ L then g x else 0)
theorem rowOf_nil (g : Nat → Int) : rowOf g [] = List.replicate 9 (Value.int .i64 0) := by simp [rowOf, List.range, List.range.loop, List.replicate]
theorem rowOf_at (g : Nat → Int) (L : List Nat) (x : Nat) (hx : x < 9) : (rowOf g L)[x]? = some (.int .i64 (if x ∈ L then g x else 0)) := by
  unfold rowOf
  rw [List.getElem?_map, List.getElem?_range hx]
  rfl
theorem rowOf_set (g : Nat → Int) (L : List Nat) (x : Nat) : (rowOf g L).set x (.int .i64 (g x)) = rowOf g (L ++ [x]) := by
  apply List.ext_getElem
  · simp [rowOf]
  · intro i h1 h2
    rw [List.getElem_set]
    unfold rowOf
    simp only [List.getElem_map, List.getElem_range, List.mem_append, List.mem_singleton]
    by_cases h : x = i
    · subst h; simp
    · have h' : ¬ i = x := fun e => h e.symm
      simp [h, h']
theorem all_snoc (f : Fr) (x : Nat) (h : ∀ y, y < x → fits f y = true) (hx : fits f x = true) : ∀ y, y < x + 1 → fits f y = true := fun y hy => by
  by_cases e : y = x
  · subst e; exact hx
  · exact h y (by omega)
theorem valid_of (f : Fr) (hu : used f.kind ≠ []) (h : ∀ y, y < 9 → fits f y = true) : valid f = true := by
  unfold valid
  simp [hu]
  exact h
theorem invalid_of (f : Fr) (x : Nat) (hx : x < 9) (h : fits f x = false) : valid f = false := by
  unfold valid
  simp
  intro _
  exact ⟨x, hx, h⟩
theorem invalid_none (f : Fr) (h : used f.kind = []) : valid f = false := by simp [valid, h]

set_option maxRecDepth 100000 in
set_option maxHeartbeats 2000000 in
theorem check_frame (f : Fr) (v EF : Value) (w : World) (hv : Hid (v = f.v)) (hE : w.cell? ⟨0, 0, none⟩ = some EF) (h20 : 20 ≤ w.heap.size) (hf : f.ok w w.heap.size) :
    Calls Tryd.prog 15 #[v] w fun e w' => e = .returned (if valid f = true then .nilIface else EF) ∧ Hid (Below w.heap.size w w') := by
  have HF := Lib.hid hf
  have HE := Lib.hid hE
  clear hf hE
  obtain ⟨n, HN⟩ : ∃ n, Hid (f.bs.length = n) := ⟨_, rfl⟩
  have HV : Hid (v = .agg (f.cells n).toArray) := Lib.hid (by rw [hv.out, ← HN.out]; rfl)
  obtain ⟨res, HR⟩ : ∃ res, H.Shut (res = if valid f = true then Value.nilIface else EF) := ⟨_, ⟨rfl⟩⟩
  rw [← HR.out]
  clear hv
  go_enter Tryd.func15, Tryd.ntmps15
  go_wp2_with (first
    | (refine wl_box rfl 25 (.tmp 0) rfl (f.cells n) HV.out ?_
       intro w1 HA1 HB1 HZ1
       have c0 : w1.cell? ⟨w.heap.size, 0, none⟩ = some (.int .i64 f.kind) := HA1.out.cell 0))
  have hz1 : w.heap.size < w1.heap.size := by rw [HZ1.out]; omega
  clear HZ1
  with_reducible refine (fieldsOf_any f.kind w1).mono ?_
  rintro e w2 ⟨A, rfl, HV2⟩
  have HB2 := Lib.hid (HB1.out.trans (HV2.out.2.1.mono (Nat.le_of_lt hz1)))
  have HA2 := Lib.hid (HA1.out.below HV2.out.2.1 hz1)
  have hz2 : w1.heap.size ≤ w2.heap.size := HV2.out.2.1.size
  have he2 : w2.cell? ⟨0, 0, none⟩ = some EF := (HB2.out.cell (p := ⟨0, 0, none⟩) (show 0 < w.heap.size by omega)).trans HE.out
  obtain ⟨L, HL⟩ : ∃ L, H.Shut (used f.kind = L) := ⟨_, ⟨rfl⟩⟩
  obtain ⟨m, HM⟩ : ∃ m, Hid (L.length = m) := ⟨_, rfl⟩
  rw [HL.out, HM.out]
  have HRD : Hid (Rd w2 w2.heap.size A (L.map nv)) := Lib.hid (by rw [← HL.out]; exact HV2.out.1)
  clear HV2 c0
  have hm9 : m ≤ 9 := by
    have h := used_len f.kind
    rw [HL.out, HM.out] at h
    exact h
  by_cases hm0 : m = 0
  · have HF0 : Hid (res = EF) := Lib.hid (by rw [HR.out, if_neg]; rw [invalid_none f (by rw [HL.out]; exact List.eq_nil_of_length_eq_zero (by rw [HM.out]; exact hm0))]; decide)
    subst hm0
    go_wp2_with fail
    go_ret
    exact ⟨by rw [HF0.out]; rfl, HB2⟩
  have hmI : ((m : Int) == 0) = false := by simp; omega
  have HNE : Hid (used f.kind ≠ []) := Lib.hid (by rw [HL.out]; intro e; rw [e] at HM; exact hm0 HM.out.symm)
  clear he2
  go_wp2_with (first
    | (refine wl_alloc (o := ⟨some 4, _, _, _, _, _⟩) rfl 82 rfl _ _ info82 ?_
       intro w3 HA3 HB3 HZ3)
    | (refine wl_alloc (o := ⟨some 5, _, _, _, _, _⟩) rfl 82 rfl _ _ info82 ?_
       intro w4 HA4 HB4 HZ4))
  have hz3 : w2.heap.size < w3.heap.size := by rw [HZ3.out]; omega
  have hz4 : w3.heap.size < w4.heap.size := by rw [HZ4.out]; omega
  have HL4 : H.Shut (Row w4 w2.heap.size 82 (rowOf (lo f.kind) []) ∧ Row w4 w3.heap.size 82 (rowOf (hi f.kind) []) ∧ Row w4 w.heap.size 25 (f.cells n) ∧ Rd w4 w2.heap.size A (L.map nv) ∧ Below w.heap.size w w4) := ⟨by
    rw [rowOf_nil, rowOf_nil]
    have hb34 : Below w2.heap.size w2 w4 := HB3.out.trans (HB4.out.mono (by omega))
    exact ⟨HA3.out.below HB4.out (by omega), HA4.out, HA2.out.below hb34 (by omega), HRD.out.below hb34, HB2.out.trans (hb34.mono (by omega))⟩⟩
  generalize hgl : w2.heap.size = gl at *
  generalize hgm : w3.heap.size = gm at *
  have hlm : gl < gm := by omega
  have hwl : w.heap.size < gl := by omega
  clear HA3 HB3 HZ3 HA4 HB4 HZ4 hgl hgm HA1 HA2 HB1 HB2 HRD
  have HRL := Lib.hid HL4.out.2.2.2.1
  have HBW4 := Lib.hid HL4.out.2.2.2.2
  have HLX : H.Shut (∀ x ∈ L, x < 9) := ⟨by rw [← HL.out]; exact used_lt f.kind⟩
  go_loopw [19] (fun i W => ∃ j : Nat, j ≤ m ∧ i = .int .i64 j ∧ H.Shut (Row W gl 82 (rowOf (lo f.kind) (L.take j)) ∧ Row W gm 82 (rowOf (hi f.kind) (L.take j)) ∧ Row W w.heap.size 25 (f.cells n) ∧ Below gl w4 W)) (fun i _ => m - (intOf i).toNat)
  case atStart => exact ⟨0, Nat.zero_le _, rfl, ⟨HL4.out.1, HL4.out.2.1, HL4.out.2.2.1, Below.refl _ _⟩⟩
  case round =>
    clear HL4
    obtain ⟨j, hj, rfl, HI⟩ := hrel
    by_cases hlt : j < m
    · have hj2 : j < L.length := by rw [HM.out]; exact hlt
      obtain ⟨ad, rfl, _, hcx⟩ := Rd.cell (k := j) (u := nv L[j]) (HRL.out.below HI.out.2.2.2) (by simp [hj2])
      have hx9 : L[j] < 9 := HLX.out _ (List.getElem_mem hj2)
      have htk : L.take (j + 1) = L.take j ++ [L[j]] := List.take_succ_eq_append_getElem hj2
      generalize L[j] = x at *
      unfold nv at hcx
      have HTK := Lib.hid htk
      clear htk
      have c0 : wr.cell? ⟨w.heap.size, 0, none⟩ = some (.int .i64 f.kind) := HI.out.2.2.1.cell 0
      have hxI : (x : Int) < 9 := by omega
      have fr1 : ∀ v, (wr.setCell ⟨gl, x, none⟩ v).frozen? ⟨gm, x, none⟩ = false := fun v => (HI.out.2.1.setOther ⟨gl, x, none⟩ (show gm ≠ gl by omega) v).frozen x
      have fr2 : wr.frozen? ⟨gl, x, none⟩ = false := HI.out.1.frozen x
      have fr3 : wr.frozen? ⟨gm, x, none⟩ = false := HI.out.2.1.frozen x
      obtain ⟨x1, cx1⟩ : ∃ y, wr.cell? ⟨gl, x, none⟩ = some y := ⟨_, (HI.out.1.cell x).trans (rowOf_at _ _ _ hx9)⟩
      obtain ⟨x2, cx2⟩ : ∃ y, wr.cell? ⟨gm, x, none⟩ = some y := ⟨_, (HI.out.2.1.cell x).trans (rowOf_at _ _ _ hx9)⟩
      go_wp2_with fail
      with_reducible refine (bounds_any f.kind x wr hx9).mono ?_
      rintro e _ ⟨rfl, rfl⟩
      go_wp2_with fail
      refine ⟨⟨j + 1, by omega, by go_num, ⟨?_, ?_, ?_, ?_⟩⟩, by simp [intOf]; omega⟩
      · have h1 := (HI.out.1.set x (.int .i64 (lo f.kind x))).setOther ⟨gm, x, none⟩ (show gl ≠ gm by omega) (.int .i64 (hi f.kind x))
        rw [rowOf_set] at h1
        rw [HTK.out]
        exact h1
      · have h1 := (HI.out.2.1.setOther ⟨gl, x, none⟩ (show gm ≠ gl by omega) (.int .i64 (lo f.kind x))).set x (.int .i64 (hi f.kind x))
        rw [rowOf_set] at h1
        rw [HTK.out]
        exact h1
      · exact (HI.out.2.2.1.setOther ⟨gl, x, none⟩ (show w.heap.size ≠ gl by omega) _).setOther ⟨gm, x, none⟩ (show w.heap.size ≠ gm by omega) _
      · exact (HI.out.2.2.2.setCell (p := ⟨gl, x, none⟩) (Nat.le_refl _) _).setCell (p := ⟨gm, x, none⟩) (Nat.le_of_lt hlm) _
    · have HJ : H.Shut (Row wr gl 82 (rowOf (lo f.kind) L) ∧ Row wr gm 82 (rowOf (hi f.kind) L) ∧ Row wr w.heap.size 25 (f.cells n) ∧ Below w.heap.size w wr) := ⟨by
        have h1 := HI.out
        rw [List.take_of_length_le (by rw [HM.out]; omega)] at h1
        exact ⟨h1.1, h1.2.1, h1.2.2.1, HBW4.out.trans (h1.2.2.2.mono (Nat.le_of_lt hwl))⟩⟩
      have hglr : gl < wr.heap.size := HJ.out.1.lt
      have hgmr : gm < wr.heap.size := HJ.out.2.1.lt
      have hwr : w.heap.size < wr.heap.size := HJ.out.2.2.1.lt
      clear HI HRL HBW4 HLX
      generalize hw5 : wr = w5 at *
      clear hw5
      go_wp2_with fail
      go_loopw [35] (fun i W => ∃ x : Nat, x ≤ 9 ∧ i = .int .i64 x ∧ H.Shut ((∀ y, y < x → fits f y = true) ∧ Below w5.heap.size w5 W)) (fun i _ => 9 - (intOf i).toNat)
      case atStart => exact ⟨0, Nat.zero_le _, rfl, ⟨fun y hy => absurd hy (Nat.not_lt_zero _), Below.refl _ _⟩⟩
      case round =>
        obtain ⟨x, hx, rfl, HI⟩ := hrel
        have hb5 := HI.out.2
        by_cases hlt9 : x < 9
        · have hxI : (x : Int) < 9 := by omega
          have HRw := Lib.hid (HJ.out.2.2.1.below hb5 hwr)
          have cl : wr.cell? ⟨gl, x, none⟩ = some (.int .i64 (least f.kind x)) := ((HJ.out.1.below hb5 hglr).cell x).trans ((rowOf_at _ _ _ hlt9).trans (by unfold least; rw [HL.out]))
          have cm : wr.cell? ⟨gm, x, none⟩ = some (.int .i64 (most f.kind x)) := ((HJ.out.2.1.below hb5 hgmr).cell x).trans ((rowOf_at _ _ _ hlt9).trans (by unfold most; rw [HL.out]))
          have hlo : least f.kind x ≤ ext f x ∨ ext f x < least f.kind x := by omega
          have HFO := Lib.hid (((HF.out.below HJ.out.2.2.2).below (hb5.mono HJ.out.2.2.2.size)).more (Nat.le_trans HJ.out.2.2.2.size hb5.size))
          have hszr : w5.heap.size ≤ wr.heap.size := hb5.size
          have HB5 := Lib.hid (HJ.out.2.2.2.trans (hb5.mono HJ.out.2.2.2.size))
          have HYS := Lib.hid HI.out.1
          have HBR := Lib.hid hb5
          clear hb5 HI
          go_wp2_with (first
            | (refine wl_load rfl 25 (.tmp 1) rfl w.heap.size rfl 25 _ _ HRw.out under25.choose_spec rfl size25 ?_
               intro vp HVP))
          have HVP2 : Hid (vp = f.v) := Lib.hid (by rw [HVP.out]; unfold Fr.v; rw [HN.out])
          with_reducible refine (extent_any f vp x wr HVP2 hlt9 HFO.out).mono ?_
          rintro e w6 ⟨rfl, HV6⟩
          have HB6 := Lib.hid (HB5.out.trans (HV6.out.mono (Nat.le_trans HJ.out.2.2.2.size hszr)))
          have HB56 := Lib.hid (HBR.out.trans (HV6.out.mono hszr))
          have cl6 : w6.cell? ⟨gl, x, none⟩ = some (.int .i64 (least f.kind x)) := (HV6.out.cell (p := ⟨gl, x, none⟩) (show gl < wr.heap.size by omega)).trans cl
          have cm6 : w6.cell? ⟨gm, x, none⟩ = some (.int .i64 (most f.kind x)) := (HV6.out.cell (p := ⟨gm, x, none⟩) (show gm < wr.heap.size by omega)).trans cm
          have ce6 : w6.cell? ⟨0, 0, none⟩ = some EF := (HB6.out.cell (p := ⟨0, 0, none⟩) (show 0 < w.heap.size by omega)).trans HE.out
          clear cl cm HV6 HBR HB5 HFO HVP HVP2 HRw
          obtain ⟨E, HEE⟩ : ∃ E, H.Shut (ext f x = E) := ⟨_, ⟨rfl⟩⟩
          obtain ⟨a, HAA⟩ : ∃ a, H.Shut (least f.kind x = a) := ⟨_, ⟨rfl⟩⟩
          obtain ⟨b, HBB⟩ : ∃ b, H.Shut (most f.kind x = b) := ⟨_, ⟨rfl⟩⟩
          rw [HAA.out] at cl6
          rw [HBB.out] at cm6
          rw [HEE.out]
          clear hlo
          by_cases h1 : E < a
          · have HF0 : Hid (res = EF) := Lib.hid (by
              rw [HR.out, if_neg]
              rw [invalid_of f x hlt9 (by unfold fits; rw [HEE.out, HAA.out]; simp; omega)]
              decide)
            go_wp2_with fail
            go_ret
            exact ⟨by rw [HF0.out]; rfl, HB6⟩
          by_cases h2 : b < E
          · have HF0 : Hid (res = EF) := Lib.hid (by
              rw [HR.out, if_neg]
              rw [invalid_of f x hlt9 (by unfold fits; rw [HEE.out, HAA.out, HBB.out]; simp; omega)]
              decide)
            go_wp2_with fail
            go_ret
            exact ⟨by rw [HF0.out]; rfl, HB6⟩
          have HFX : Hid (fits f x = true) := Lib.hid (by unfold fits; rw [HEE.out, HAA.out, HBB.out]; simp; omega)
          go_wp2_with fail
          exact ⟨⟨x + 1, by omega, by go_num, ⟨all_snoc f x HYS.out HFX.out, HB56.out⟩⟩, by simp [intOf]; omega⟩
        · have HF1 : Hid (res = .nilIface) := Lib.hid (by
            have hx9 : x = 9 := by omega
            rw [HR.out, if_pos]
            exact valid_of f HNE.out (by rw [← hx9]; exact HI.out.1))
          have HB7 := Lib.hid (HJ.out.2.2.2.trans (hb5.mono HJ.out.2.2.2.size))
          clear hb5 HI
          go_wp2_with fail
          go_ret
          exact ⟨by rw [HF1.out]; rfl, HB7⟩
end Go.Proofs.YtlmdafldggbiaaaDoor

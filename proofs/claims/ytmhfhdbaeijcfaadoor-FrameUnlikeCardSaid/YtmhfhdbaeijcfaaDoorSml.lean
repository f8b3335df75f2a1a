/- SameList of frames that are the same, one by one. -/
import Derived.Test.YtmhfhdbaeijcfaaDoorStb
import Derived.Deep.RegionHeld3
import Derived.Laws.Closers25b
namespace Go.Proofs.YtmhfhdbaeijcfaaDoor
open Go.RowKit
open Go.Proofs.YtmhfhdbaeijcfaaDoor.H
theorem flatF_at : ∀ (gs : List Fr) (k : Nat) (f : Fr), gs[k]? = some f → ∀ (j : Nat) (v : Value), (f.cells f.bs.length)[j]? = some v → (flatF gs)[k * 10 + j]? = some v
  | [], k, f, h, j, v, hv => by simp at h
  | g :: gs, 0, f, h, j, v, hv => by
    have e : flatF (g :: gs) = g.cells g.bs.length ++ flatF gs := rfl
    have hl : (g.cells g.bs.length).length = 10 := rfl
    simp at h
    subst h
    have hj : j < 10 := by
      have := List.getElem?_eq_some_iff.1 hv
      obtain ⟨hh, _⟩ := this
      rw [hl] at hh
      exact hh
    rw [e, Nat.zero_mul, Nat.zero_add, List.getElem?_append_left (by rw [hl]; exact hj)]
    exact hv
  | g :: gs, k + 1, f, h, j, v, hv => by
    have e : flatF (g :: gs) = g.cells g.bs.length ++ flatF gs := rfl
    have hl : (g.cells g.bs.length).length = 10 := rfl
    rw [e, List.getElem?_append_right (by rw [hl]; omega), hl]
    have e2 : (k + 1) * 10 + j - 10 = k * 10 + j := by omega
    rw [e2]
    exact flatF_at gs k f (by simpa using h) j v hv
/-- A row of frames of our own, read as frames. -/
theorem Fnd.frs {W : World} {z : Nat} {h : Option Nat} {v : Value} {gs : List Fr} (s : Fnd W z h v gs) : ∃ A c, v = .slice A gs.length c ∧ gs.length ≤ c ∧ c ≤ 9223372036854775807 ∧ FrsAt W W.heap.size A gs := by
  have ho := s.own
  rcases ho.2 with ⟨e1, e2⟩ | ⟨q, cap, cur, e1, hb, hq, hn, hcm, _⟩
  · have hg : gs = [] := List.eq_nil_of_length_eq_zero e2
    subst hg
    exact ⟨none, 0, e1, Nat.le_refl _, by decide, .inl rfl⟩
  · refine ⟨some ⟨q, 0, none⟩, cap, e1, hn, hcm, .inr ⟨q, 0, rfl, (ho.lt q (by rw [e1]; rfl)).2, fun k f hk => ⟨s.ok f (List.mem_of_getElem? hk), fun j u hj => ?_⟩⟩⟩
    have := ho.cells (g := q) (by rw [e1]; rfl) (k * 10 + j) u (flatF_at gs k f hk j u hj)
    rw [Addr.add_mid] at this
    simpa using this
set_option maxRecDepth 100000 in
set_option maxHeartbeats 4000000 in
theorem sameList_true (n c d : Nat) (A D : Option Addr) (fs gs : List Fr) (w : World) (hn : fs.length = n) (hm : gs.length = n) (hnm : n ≤ 9223372036854775807) (hf : FrsAt w w.heap.size A fs) (hg : FrsAt w w.heap.size D gs) (he : fs.map Fr.pl = gs.map Fr.pl) :
    Calls Tryd.prog 35 #[.slice A n c, .slice D n d] w fun e w' => e = .returned (.bool true) ∧ Hid (Below w.heap.size w w') := by
  have HN := Lib.hid hn
  have HM := Lib.hid hm
  have HF := Lib.hid hf
  have HG := Lib.hid hg
  have HE := Lib.hid he
  clear hn hm hf hg he
  go_enter Tryd.func35, Tryd.ntmps35
  go_wp2_with fail
  go_loopw [13] (fun ii W => ∃ j : Nat, j ≤ n ∧ ii = .int .i64 j ∧ H.Shut (Below w.heap.size w W)) (fun ii _ => n - (intOf ii).toNat)
  case atStart => exact ⟨0, Nat.zero_le _, rfl, ⟨Below.refl _ _⟩⟩
  case round =>
    obtain ⟨j, hj, rfl, HI⟩ := hrel
    by_cases hlt : j < n
    · have hj1 : j < fs.length := by rw [HN.out]; exact hlt
      have hj2 : j < gs.length := by rw [HM.out]; exact hlt
      obtain ⟨b, o, rfl, hfo, hra⟩ := (HF.out.below HI.out).at_ hj1
      obtain ⟨b2, o2, rfl, hgo, hrb⟩ := (HG.out.below HI.out).at_ hj2
      have hpl : fs[j].pl = gs[j].pl := by
        have h1 : (fs.map Fr.pl)[j]? = (gs.map Fr.pl)[j]? := by rw [HE.out]
        simpa [hj1, hj2] using h1
      obtain ⟨f, HFq⟩ : ∃ f, H.Shut (fs[j] = f) := ⟨_, ⟨rfl⟩⟩
      obtain ⟨g, HGq⟩ : ∃ g, H.Shut (gs[j] = g) := ⟨_, ⟨rfl⟩⟩
      rw [HFq.out] at hfo hra hpl
      rw [HGq.out] at hgo hrb hpl
      obtain ⟨n8, HN8⟩ : ∃ n8, H.Shut (f.bs.length = n8) := ⟨_, ⟨rfl⟩⟩
      obtain ⟨n9, HN9⟩ : ∃ n9, H.Shut (g.bs.length = n9) := ⟨_, ⟨rfl⟩⟩
      rw [HN8.out] at hra
      rw [HN9.out] at hrb
      have hszr : w.heap.size ≤ wr.heap.size := HI.out.size
      have HS : Hid (∀ w', Below wr.heap.size wr w' → w'.rangeAt b (o + j * 10) (f.cells n8) ∧ w'.rangeAt b2 (o2 + j * 10) (g.cells n9)) := Lib.hid (fun w' hb => ⟨fun k v hk => (hb.cell (p := ⟨b, o + j * 10 + k, none⟩) (lt_of_cell (hra k v hk))).trans (hra k v hk), fun k v hk => (hb.cell (p := ⟨b2, o2 + j * 10 + k, none⟩) (lt_of_cell (hrb k v hk))).trans (hrb k v hk)⟩)
      have HZf : Hid ((Tryd.prog.info? 25).map (·.size) = some (f.cells n8).length) := Lib.hid size25
      have HZg : Hid ((Tryd.prog.info? 25).map (·.size) = some (g.cells n9).length) := Lib.hid size25
      have HCL : Hid (∀ w', Below wr.heap.size wr w' → Calls Tryd.prog 22 #[.agg (f.cells n8).toArray, .agg (g.cells n9).toArray] w' fun e w'' => e = .returned (.bool true) ∧ Hid (Below wr.heap.size wr w'')) := Lib.hid (fun w' hb => by
        refine (rsame_true f g _ _ w' (by unfold Fr.v; rw [HN8.out]) (by unfold Fr.v; rw [HN9.out]) (((hfo.more hszr).below hb).more hb.size) (((hgo.more hszr).below hb).more hb.size) hpl).mono ?_
        rintro e w'' ⟨h1, h2⟩
        exact ⟨h1, Lib.hid (hb.trans (h2.out.mono hb.size))⟩)
      have HBD : Hid (Below wr.heap.size wr wr.drew) := Lib.hid ((Below.refl _ _).drew)
      clear hfo hgo hra hrb hpl
      go_wp2_with fail
      refine wp_region_held_drew (S := fun w' => w'.rangeAt b (o + j * 10) (f.cells n8) ∧ w'.rangeAt b2 (o2 + j * 10) (g.cells n9)) (by kernel_rfl) (HS.out _ HBD.out) (fun hHeld => ?_)
      refine wpAnyH_take (i := 0) (v := .slice (some ⟨b, o, none⟩) n c) rfl (by kernel_rfl) (by kernel_rfl) (by kernel_rfl) (fun _ _ _ h => h) (Or.inl ⟨by kernel_rfl, ?_⟩) (by assumption) ?_
      · (intro w' hSw; (try dsimp only at hSw); go_simp)
      simp only [Act.put, List.setIfInBounds_toArray]
      refine wpAnyH_take (i := 1) (v := .int .i64 j) rfl (by kernel_rfl) (by kernel_rfl) (by kernel_rfl) (fun _ _ _ h => h) (Or.inl ⟨by kernel_rfl, ?_⟩) (by assumption) ?_
      · (intro w' hSw; (try dsimp only at hSw); go_simp)
      simp only [Act.put]
      refine wpAnyH_take (i := 2) (v := .pointer (some ⟨b, o + j * 10, none⟩)) rfl (by kernel_rfl) (by kernel_rfl) (by kernel_rfl) (fun _ _ _ h => h) (Or.inl ⟨by kernel_rfl, ?_⟩) (by assumption) ?_
      · (intro w' hSw; (try dsimp only at hSw); go_simp)
      simp only [Act.put]
      refine wpAnyH_take (i := 3) (v := .agg (f.cells n8).toArray) rfl (by kernel_rfl) (by kernel_rfl) (by kernel_rfl) (fun _ _ _ h => h) (yieldsIf_load_mid (by kernel_rfl) 25 (.tmp 18) rfl b (o + j * 10) rfl (f.cells n8) _ (fun w' hSw => hSw.1) under25.choose_spec rfl HZf.out) (by assumption) ?_
      simp only [Act.put]
      refine wpAnyH_take (i := 4) (v := .slice (some ⟨b2, o2, none⟩) n d) rfl (by kernel_rfl) (by kernel_rfl) (by kernel_rfl) (fun _ _ _ h => h) (Or.inl ⟨by kernel_rfl, ?_⟩) (by assumption) ?_
      · (intro w' hSw; (try dsimp only at hSw); go_simp)
      simp only [Act.put]
      refine wpAnyH_take (i := 5) (v := .int .i64 j) rfl (by kernel_rfl) (by kernel_rfl) (by kernel_rfl) (fun _ _ _ h => h) (Or.inl ⟨by kernel_rfl, ?_⟩) (by assumption) ?_
      · (intro w' hSw; (try dsimp only at hSw); go_simp)
      simp only [Act.put]
      refine wpAnyH_take (i := 6) (v := .pointer (some ⟨b2, o2 + j * 10, none⟩)) rfl (by kernel_rfl) (by kernel_rfl) (by kernel_rfl) (fun _ _ _ h => h) (Or.inl ⟨by kernel_rfl, ?_⟩) (by assumption) ?_
      · (intro w' hSw; (try dsimp only at hSw); go_simp)
      simp only [Act.put]
      refine wpAnyH_take (i := 7) (v := .agg (g.cells n9).toArray) rfl (by kernel_rfl) (by kernel_rfl) (by kernel_rfl) (fun _ _ _ h => h) (yieldsIf_load_mid (by kernel_rfl) 25 (.tmp 22) rfl b2 (o2 + j * 10) rfl (g.cells n9) _ (fun w' hSw => hSw.2) under25.choose_spec rfl HZg.out) (by assumption) ?_
      simp only [Act.put]
      refine wpAnyH_ready (rs := [8]) (by kernel_rfl) (by simp) ?_
      refine AllReadyH.cons rfl (fun K hK => ?_) AllReadyH.nil
      go_simp
      with_reducible refine (HCL.out wr.drew HBD.out).mono ?_
      rintro e w11 ⟨rfl, HV11⟩
      refine hK.out _ _ (HS.out _ HV11.out) (fun hHeld => ?_)
      clear hK K
      (try simp only [Act.put, List.setIfInBounds_toArray, List.set_cons_zero, List.set_cons_succ])
      refine wpAnyH_take (i := 9) (v := .bool false) rfl (by kernel_rfl) (by kernel_rfl) (by kernel_rfl) (fun _ _ _ h => h) (Or.inl ⟨by kernel_rfl, ?_⟩) (by assumption) ?_
      · (intro w' hSw; (try dsimp only at hSw); go_simp)
      simp only [Act.put, List.setIfInBounds_toArray]
      refine wpAnyH_done (by kernel_rfl) ?_ _
      simp only [List.getElem_toArray, List.getElem_cons_succ, List.getElem_cons_zero, List.set_cons_zero, List.set_cons_succ]
      have HI2 : H.Shut (Below w.heap.size w w11) := ⟨HI.out.trans (HV11.out.mono hszr)⟩
      go_wp2_with fail
      exact ⟨⟨j + 1, by omega, by go_num, HI2⟩, by simp [intOf]; omega⟩
    · go_wp2_with fail
      go_ret
      exact ⟨rfl, Lib.hid HI.out⟩
end Go.Proofs.YtmhfhdbaeijcfaaDoor

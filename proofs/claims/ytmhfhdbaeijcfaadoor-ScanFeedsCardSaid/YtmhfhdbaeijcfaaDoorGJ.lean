/- GJ: several texts in one. -/
import Derived.Test.YtmhfhdbaeijcfaaDoorAli
import Derived.Deep.RegionHeld3
import Derived.Laws.Closers25b
import Derived.Test.YtmhfhdbaeijcfaaDoorGS
import Derived.Deep.DeepCutAuto
import Derived.BigRegion
namespace Go.Proofs.YtmhfhdbaeijcfaaDoor
open Go.RowKit
open Go.Proofs.YtmhfhdbaeijcfaaDoor.H

/-- How many bytes and parts: as few counts them. -/
def countP : List Part → Nat → Bool
  | [], n => decide (n ≤ 20000)
  | p :: ps, n => if 20000 < n ∨ 20000 < p.bs.length then false else countP ps (n + (1 + p.bs.length))
theorem countP_small : ∀ (ps : List Part) (n : Nat), countP ps n = true → n + ps.length + (H.flat ps).length ≤ 20000
  | [], n, h => by simpa [countP, H.flat] using h
  | p :: ps, n, h => by
    unfold countP at h
    split at h
    · cases h
    · have ih := countP_small ps _ h
      unfold flat at ih ⊢
      simp only [List.flatMap_cons, List.length_append, List.length_cons]
      omega

set_option maxRecDepth 100000 in
set_option maxHeartbeats 400000 in
theorem few6_any (n c : Nat) (A : Option Addr) (ps : List Part) (w : World) (hn : ps.length = n) (hmax : n ≤ 9223372036854775807) (hr : Parts w w.heap.size A ps) :
    Calls Tryd.prog 29 #[.slice A n c] w fun e w' => e = .returned (.bool (countP ps 0)) ∧ w = w' := by
  have HN := Lib.hid hn
  have HR := Lib.hid hr
  clear hn hr
  obtain ⟨r, HRR⟩ : ∃ r, H.Shut (countP ps 0 = r) := ⟨_, ⟨rfl⟩⟩
  rw [HRR.out]
  go_enter Tryd.func29, Tryd.ntmps29
  go_wp2_with fail
  go_loop [3, 8] (fun v i => ∃ k t : Nat, k ≤ n ∧ t ≤ 40001 ∧ i = .int .i64 k ∧ v = .int .i64 t ∧ H.Shut (countP (ps.drop k) t = r)) (fun _ i => n - (intOf i).toNat)
  case atStart => exact ⟨0, 0, Nat.zero_le _, by omega, rfl, rfl, ⟨by rw [List.drop_zero]; exact HRR.out⟩⟩
  case round =>
    obtain ⟨k, t, hk, ht, rfl, rfl, HC⟩ := hrel
    by_cases hlt : k < n
    · have hlt' : k < ps.length := by rw [HN.out]; exact hlt
      obtain ⟨ad, rfl, _, hc⟩ := HR.out.rd.cell (k := k) (u := (ps[k]).v) (by simp [hlt'])
      have hok := HR.out.ok ps[k] (List.getElem_mem hlt')
      have hcc := HC.out
      rw [List.drop_eq_getElem_cons hlt'] at hcc
      generalize ps[k] = p at *
      obtain ⟨pa, pc, pb⟩ := p
      unfold Part.v at hc
      obtain ⟨h1, h2, _⟩ := hok
      dsimp only at *
      obtain ⟨m, HM⟩ : ∃ m, Hid (pb.length = m) := ⟨_, rfl⟩
      rw [HM.out] at hc h1
      unfold countP at hcc
      dsimp only at hcc
      rw [HM.out] at hcc
      by_cases hb1 : 20000 < t
      · rw [if_pos (.inl hb1)] at hcc
        have HF := Lib.hid hcc
        clear hcc
        go_wp2_with fail
        go_ret
        exact ⟨ret_bool HF.out, rfl⟩
      · by_cases hb2 : 20000 < m
        · rw [if_pos (.inr hb2)] at hcc
          have HF := Lib.hid hcc
          clear hcc
          go_wp2_with fail
          go_ret
          exact ⟨ret_bool HF.out, rfl⟩
        · rw [if_neg (by omega)] at hcc
          have HF := Lib.hid hcc
          clear hcc
          go_wp2_with fail
          exact ⟨⟨k + 1, t + (1 + m), by omega, by omega, by go_num, by go_num, ⟨HF.out⟩⟩, by simp [intOf]; omega⟩
    · have HF : Hid (decide (t ≤ 20000) = r) := Lib.hid (by
        have h1 := HC.out
        rw [List.drop_eq_nil_of_le (by rw [HN.out]; omega)] at h1
        exact h1)
      go_wp2_with fail
      go_ret
      refine ⟨ret_bool ?_, rfl⟩
      rw [← HF.out]
      by_cases h : t ≤ 20000
      · have h9 : (t : Int) ≤ 20000 := by omega
        simp [h, h9]
      · have h9 : ¬ (t : Int) ≤ 20000 := by omega
        simp [h, h9]
/-- A row of frames that came in. -/
def FrsAt (w : World) (B : Nat) (A : Option Addr) (gs : List Fr) : Prop := gs = [] ∨ ∃ b o, A = some ⟨b, o, none⟩ ∧ b < B ∧ ∀ (k : Nat) (f : Fr), gs[k]? = some f → f.ok w B ∧ w.rangeAt b (o + k * 10) (f.cells f.bs.length)
theorem FrsAt.below {w w' : World} {B : Nat} {A : Option Addr} {gs : List Fr} (h : FrsAt w B A gs) (hb : Below B w w') : FrsAt w' B A gs := by
  rcases h with h | ⟨b, o, h1, h2, h3⟩
  · exact .inl h
  · refine .inr ⟨b, o, h1, h2, fun k f hk => ?_⟩
    obtain ⟨a1, a2⟩ := h3 k f hk
    exact ⟨a1.below hb, fun j u hj => (hb.cell (p := ⟨b, _, none⟩) h2).trans (a2 j u hj)⟩
theorem FrsAt.at_ {w : World} {B : Nat} {A : Option Addr} {gs : List Fr} (h : FrsAt w B A gs) {k : Nat} (hk : k < gs.length) : ∃ b o, A = some ⟨b, o, none⟩ ∧ gs[k].ok w B ∧ w.rangeAt b (o + k * 10) (gs[k].cells gs[k].bs.length) := by
  rcases h with h | ⟨b, o, h1, _, h3⟩
  · subst h; simp at hk
  · exact ⟨b, o, h1, h3 k _ (List.getElem?_eq_getElem hk)⟩
/-- An error against itself: not unequal. -/
theorem err_neq (a : Addr) (W : World) : (binOp .neq 28 (.iface 159 (.pointer (some a))) (.iface 159 (.pointer (some a)))).run Tryd.prog W = .ok (.bool false) W := by
  obtain ⟨i, hi, hcmp⟩ := Option.map_eq_some_iff.1 compErr
  obtain ⟨j, hj, _⟩ := Option.map_eq_some_iff.1 sizeErr
  simp only [binOp]
  simp [Op.equal, Op.maxDepth, run_equalIn_iface_ptr_same W 9998 a Tryd.underlying28 Tryd.underlying159 hi hcmp hj]
end Go.Proofs.YtmhfhdbaeijcfaaDoor
namespace Go.Proofs.YtmhfhdbaeijcfaaDoor
open Go.RowKit
open Go.Proofs.YtmhfhdbaeijcfaaDoor.H
open List (getElem_toArray getElem_cons_succ getElem_cons_zero setIfInBounds_toArray set_cons_zero set_cons_succ)
theorem flatF_at : ∀ (gs : List Fr) (k : Nat) (f : Fr), gs[k]? = some f → ∀ (j : Nat) (v : Value), (f.cells f.bs.length)[j]? = some v → (flatF gs)[k * 10 + j]? = some v
  | [], k, f, h, j, v, hv => by simp at h
  | g :: gs, 0, f, h, j, v, hv => by
    have e : flatF (g :: gs) = g.cells g.bs.length ++ flatF gs := rfl
    have hl : (g.cells g.bs.length).length = 10 := rfl
    simp at h
    subst h
    have hj : j < 10 := by
      have := List.getElem?_eq_some_iff.1 hv
      obtain ⟨hh, _⟩ := this
      rw [hl] at hh
      exact hh
    rw [e, Nat.zero_mul, Nat.zero_add, List.getElem?_append_left (by rw [hl]; exact hj)]
    exact hv
  | g :: gs, k + 1, f, h, j, v, hv => by
    have e : flatF (g :: gs) = g.cells g.bs.length ++ flatF gs := rfl
    have hl : (g.cells g.bs.length).length = 10 := rfl
    rw [e, List.getElem?_append_right (by rw [hl]; omega), hl]
    have e2 : (k + 1) * 10 + j - 10 = k * 10 + j := by omega
    rw [e2]
    exact flatF_at gs k f (by simpa using h) j v hv
/-- A row of frames of our own, read as frames. -/
theorem Fnd.frs {W : World} {z : Nat} {h : Option Nat} {v : Value} {gs : List Fr} (s : Fnd W z h v gs) : ∃ A c, v = .slice A gs.length c ∧ gs.length ≤ c ∧ c ≤ 9223372036854775807 ∧ FrsAt W W.heap.size A gs := by
  have ho := s.own
  rcases ho.2 with ⟨e1, e2⟩ | ⟨q, cap, cur, e1, hb, hq, hn, hcm, _⟩
  · have hg : gs = [] := List.eq_nil_of_length_eq_zero e2
    subst hg
    exact ⟨none, 0, e1, Nat.le_refl _, by decide, .inl rfl⟩
  · refine ⟨some ⟨q, 0, none⟩, cap, e1, hn, hcm, .inr ⟨q, 0, rfl, (ho.lt q (by rw [e1]; rfl)).2, fun k f hk => ⟨s.ok f (List.mem_of_getElem? hk), fun j u hj => ?_⟩⟩⟩
    have := ho.cells (g := q) (by rw [e1]; rfl) (k * 10 + j) u (flatF_at gs k f hk j u hj)
    rw [Addr.add_mid] at this
    simpa using this
set_option maxRecDepth 100000 in
set_option maxHeartbeats 4000000 in
theorem sameList_true (n c d : Nat) (A D : Option Addr) (fs gs : List Fr) (w : World) (hn : fs.length = n) (hm : gs.length = n) (hnm : n ≤ 9223372036854775807) (hf : FrsAt w w.heap.size A fs) (hg : FrsAt w w.heap.size D gs) (he : fs.map Fr.pl = gs.map Fr.pl) :
    Calls Tryd.prog 35 #[.slice A n c, .slice D n d] w fun e w' => e = .returned (.bool true) ∧ Hid (Below w.heap.size w w') := by
  have HN := Lib.hid hn
  have HM := Lib.hid hm
  have HF := Lib.hid hf
  have HG := Lib.hid hg
  have HE := Lib.hid he
  clear hn hm hf hg he
  go_enter Tryd.func35, Tryd.ntmps35
  go_wp2_with fail
  go_loopw [13] (fun ii W => ∃ j : Nat, j ≤ n ∧ ii = .int .i64 j ∧ H.Shut (Below w.heap.size w W)) (fun ii _ => n - (intOf ii).toNat)
  case atStart => exact ⟨0, Nat.zero_le _, rfl, ⟨Below.refl _ _⟩⟩
  case round =>
    obtain ⟨j, hj, rfl, HI⟩ := hrel
    by_cases hlt : j < n
    · have hj1 : j < fs.length := by rw [HN.out]; exact hlt
      have hj2 : j < gs.length := by rw [HM.out]; exact hlt
      obtain ⟨b, o, rfl, hfo, hra⟩ := (HF.out.below HI.out).at_ hj1
      obtain ⟨b2, o2, rfl, hgo, hrb⟩ := (HG.out.below HI.out).at_ hj2
      have hpl : fs[j].pl = gs[j].pl := by
        have h1 : (fs.map Fr.pl)[j]? = (gs.map Fr.pl)[j]? := by rw [HE.out]
        simpa [hj1, hj2] using h1
      obtain ⟨f, HFq⟩ : ∃ f, H.Shut (fs[j] = f) := ⟨_, ⟨rfl⟩⟩
      obtain ⟨g, HGq⟩ : ∃ g, H.Shut (gs[j] = g) := ⟨_, ⟨rfl⟩⟩
      rw [HFq.out] at hfo hra hpl
      rw [HGq.out] at hgo hrb hpl
      obtain ⟨n8, HN8⟩ : ∃ n8, H.Shut (f.bs.length = n8) := ⟨_, ⟨rfl⟩⟩
      obtain ⟨n9, HN9⟩ : ∃ n9, H.Shut (g.bs.length = n9) := ⟨_, ⟨rfl⟩⟩
      rw [HN8.out] at hra
      rw [HN9.out] at hrb
      have hszr : w.heap.size ≤ wr.heap.size := HI.out.size
      have HS : Hid (∀ w', Below wr.heap.size wr w' → w'.rangeAt b (o + j * 10) (f.cells n8) ∧ w'.rangeAt b2 (o2 + j * 10) (g.cells n9)) := Lib.hid (fun w' hb => ⟨fun k v hk => (hb.cell (p := ⟨b, o + j * 10 + k, none⟩) (lt_of_cell (hra k v hk))).trans (hra k v hk), fun k v hk => (hb.cell (p := ⟨b2, o2 + j * 10 + k, none⟩) (lt_of_cell (hrb k v hk))).trans (hrb k v hk)⟩)
      have HZf : Hid ((Tryd.prog.info? 25).map (·.size) = some (f.cells n8).length) := Lib.hid size25
      have HZg : Hid ((Tryd.prog.info? 25).map (·.size) = some (g.cells n9).length) := Lib.hid size25
      have HCL : Hid (∀ w', Below wr.heap.size wr w' → Calls Tryd.prog 22 #[.agg (f.cells n8).toArray, .agg (g.cells n9).toArray] w' fun e w'' => e = .returned (.bool true) ∧ Hid (Below wr.heap.size wr w'')) := Lib.hid (fun w' hb => by
        refine (rsame_true f g _ _ w' (by unfold Fr.v; rw [HN8.out]) (by unfold Fr.v; rw [HN9.out]) (((hfo.more hszr).below hb).more hb.size) (((hgo.more hszr).below hb).more hb.size) hpl).mono ?_
        rintro e w'' ⟨h1, h2⟩
        exact ⟨h1, Lib.hid (hb.trans (h2.out.mono hb.size))⟩)
      have HBD : Hid (Below wr.heap.size wr wr.drew) := Lib.hid ((Below.refl _ _).drew)
      clear hfo hgo hra hrb hpl
      go_wp2_with fail
      refine wp_region_held_drew (S := fun w' => w'.rangeAt b (o + j * 10) (f.cells n8) ∧ w'.rangeAt b2 (o2 + j * 10) (g.cells n9)) (by kernel_rfl) (HS.out _ HBD.out) (fun hHeld => ?_)
      refine tke 0 (.slice (some ⟨b, o, none⟩) n c) rfl (Or.inl ⟨by kernel_rfl, ?_⟩) ?_
      · (intro w' hSw; (try dsimp only at hSw); go_simp)
      simp only [Act.put, setIfInBounds_toArray]
      refine tke 1 (.int .i64 j) rfl (Or.inl ⟨by kernel_rfl, ?_⟩) ?_
      · (intro w' hSw; (try dsimp only at hSw); go_simp)
      simp only [Act.put]
      refine tke 2 (.pointer (some ⟨b, o + j * 10, none⟩)) rfl (Or.inl ⟨by kernel_rfl, ?_⟩) ?_
      · (intro w' hSw; (try dsimp only at hSw); go_simp)
      simp only [Act.put]
      refine tke 3 (.agg (f.cells n8).toArray) rfl (yieldsIf_load_mid (by kernel_rfl) 25 (.tmp 18) rfl b (o + j * 10) rfl (f.cells n8) _ (fun w' hSw => hSw.1) under25.choose_spec rfl HZf.out) ?_
      simp only [Act.put]
      refine tke 4 (.slice (some ⟨b2, o2, none⟩) n d) rfl (Or.inl ⟨by kernel_rfl, ?_⟩) ?_
      · (intro w' hSw; (try dsimp only at hSw); go_simp)
      simp only [Act.put]
      refine tke 5 (.int .i64 j) rfl (Or.inl ⟨by kernel_rfl, ?_⟩) ?_
      · (intro w' hSw; (try dsimp only at hSw); go_simp)
      simp only [Act.put]
      refine tke 6 (.pointer (some ⟨b2, o2 + j * 10, none⟩)) rfl (Or.inl ⟨by kernel_rfl, ?_⟩) ?_
      · (intro w' hSw; (try dsimp only at hSw); go_simp)
      simp only [Act.put]
      refine tke 7 (.agg (g.cells n9).toArray) rfl (yieldsIf_load_mid (by kernel_rfl) 25 (.tmp 22) rfl b2 (o2 + j * 10) rfl (g.cells n9) _ (fun w' hSw => hSw.2) under25.choose_spec rfl HZg.out) ?_
      simp only [Act.put]
      refine wpAnyH_ready (rs := [8]) (by kernel_rfl) (by simp) ?_
      refine AllReadyH.cons rfl (fun K hK => ?_) AllReadyH.nil
      go_simp
      with_reducible refine (HCL.out wr.drew HBD.out).mono ?_
      rintro e w11 ⟨rfl, HV11⟩
      refine hK.out _ _ (HS.out _ HV11.out) (fun hHeld => ?_)
      clear hK K
      (try simp only [Act.put, setIfInBounds_toArray, set_cons_zero, set_cons_succ])
      refine tke 9 (.bool false) rfl (Or.inl ⟨by kernel_rfl, ?_⟩) ?_
      · (intro w' hSw; (try dsimp only at hSw); go_simp)
      simp only [Act.put, setIfInBounds_toArray]
      refine wpAnyH_done (by kernel_rfl) ?_ _
      simp only [getElem_toArray, getElem_cons_succ, getElem_cons_zero, set_cons_zero, set_cons_succ]
      have HI2 : H.Shut (Below w.heap.size w w11) := ⟨HI.out.trans (HV11.out.mono hszr)⟩
      go_wp2_with fail
      exact ⟨⟨j + 1, by omega, by go_num, HI2⟩, by simp [intOf]; omega⟩
    · go_wp2_with fail
      go_ret
      exact ⟨rfl, Lib.hid HI.out⟩
end Go.Proofs.YtmhfhdbaeijcfaaDoor
namespace Go.Proofs.YtmhfhdbaeijcfaaDoor
open Go.RowKit
open Go.Proofs.YtmhfhdbaeijcfaaDoor.H
/-- Frames that can be put. -/
def Good (fs : List Fr) : Prop := ∀ f ∈ fs, valid f = true ∧ f.fit
theorem Good.head {f : Fr} {fs : List Fr} (h : Good (f :: fs)) : valid f = true ∧ f.fit := h f (by simp)
theorem Good.tail {f : Fr} {fs : List Fr} (h : Good (f :: fs)) : Good fs := fun g hg => h g (by simp [hg])
theorem Good.snoc {f : Fr} {fs : List Fr} (h : Good fs) (hv : valid f = true) (hf : f.fit) : Good (fs ++ [f]) := fun g hg => by
  rcases List.mem_append.1 hg with hg | hg
  · exact h g hg
  · simp at hg; subst hg; exact ⟨hv, hf⟩
end Go.Proofs.YtmhfhdbaeijcfaaDoor
namespace Go.Proofs.YtmhfhdbaeijcfaaDoor
open Go.RowKit
open Go.Proofs.YtmhfhdbaeijcfaaDoor.H
/-- Two values with no block in common. -/
def Apart (v u : Value) : Prop := ∀ q, v.ownBlock = some q → u.ownBlock ≠ some q
theorem Apart.symm {v u : Value} (h : Apart v u) : Apart u v := fun q e1 e2 => h q e2 e1
/-- Rows of bytes, of frames, of numbers, of our own, none older than z. -/
structure Jh (U : World) (z : Nat) (vb : Value) (nb : Nat) (xs : List Value) (vg : Value) (ng : Nat) (cs : List Value) (ve : Value) (ne : Nat) (es : List Value) : Prop where
  ob : U.ownsRow z 5 1 vb nb xs
  og : U.ownsRow z 25 10 vg ng cs
  oe : U.ownsRow z 3 1 ve ne es
  bg : Apart vb vg
  be : Apart vb ve
  ge : Apart vg ve
theorem Jh.below {U U' : World} {z nb ng ne : Nat} {vb vg ve : Value} {xs cs es : List Value} (s : Jh U z vb nb xs vg ng cs ve ne es) (hb : Below U.heap.size U U') : Jh U' z vb nb xs vg ng cs ve ne es :=
  ⟨own_kept s.ob (fun q e => hb.block q (s.ob.lt q e).2), own_kept s.og (fun q e => hb.block q (s.og.lt q e).2), own_kept s.oe (fun q e => hb.block q (s.oe.lt q e).2), s.bg, s.be, s.ge⟩
theorem own_emptyF (w : World) (base : Nat) (h : base ≤ w.heap.size) : (w.alloc (.cells #[] 25)).ownsRow base 25 10 (.slice (some ⟨w.heap.size, 0, none⟩) 0 0) 0 [] :=
  ⟨rfl, .inr ⟨w.heap.size, 0, #[], rfl, h, heap_alloc_last w _, Nat.le_refl _, by decide, rfl, rfl⟩⟩
end Go.Proofs.YtmhfhdbaeijcfaaDoor
namespace Go.Proofs.YtmhfhdbaeijcfaaDoor
open Go.RowKit
open Go.Proofs.YtmhfhdbaeijcfaaDoor.H
end Go.Proofs.YtmhfhdbaeijcfaaDoor
namespace Go.Proofs.YtmhfhdbaeijcfaaDoor
open Go.RowKit
open Go.Proofs.YtmhfhdbaeijcfaaDoor.H
theorem own_some {w : World} {base : Nat} {e : TypeId} {size : Nat} {v : Value} {n q : Nat} {xs : List Value} (h : w.ownsRow base e size v n xs) (hq : v.ownBlock = some q) :
    ∃ c, v = .slice (some ⟨q, 0, none⟩) n c ∧ n ≤ c ∧ c ≤ 9223372036854775807 ∧ base ≤ q ∧ q < w.heap.size := by
  have hl := h.lt q hq
  rcases h.2 with ⟨e1, _⟩ | ⟨g, cap, cur, e1, _, _, hn, hc, _⟩
  · rw [e1] at hq; cases hq
  · rw [e1] at hq
    have : g = q := Option.some.inj hq
    subst this
    exact ⟨cap, e1, hn, hc, hl.1, hl.2⟩
theorem ob_ne {q r n c : Nat} (h : q ≠ r) : (Value.slice (some ⟨q, 0, none⟩) n c).ownBlock ≠ some r := fun e => h (Option.some.inj e)
theorem own_next {v v' : Value} {q n : Nat} (hq : v.ownBlock = some q) (h : v'.ownBlock = v.ownBlock ∨ v'.ownBlock = some n) : ∃ q', v'.ownBlock = some q' := by
  rcases h with h | h
  · exact ⟨q, h.trans hq⟩
  · exact ⟨n, h⟩
theorem FrsAt.take {w : World} {B : Nat} {A : Option Addr} {gs : List Fr} (h : FrsAt w B A gs) (m : Nat) : FrsAt w B A (gs.take m) := by
  rcases h with h | ⟨b, o, h1, h2, h3⟩
  · exact .inl (by rw [h]; simp)
  · refine .inr ⟨b, o, h1, h2, fun k f hk => h3 k f ?_⟩
    rw [List.getElem?_take] at hk
    split at hk
    · exact hk
    · cases hk
theorem FrsAt.drop {w : World} {B : Nat} {A : Option Addr} {gs : List Fr} (h : FrsAt w B A gs) {m cap : Nat} (hc : gs.length ≤ cap) : FrsAt w B (if cap = m then A else A.map (·.add (m * 10))) (gs.drop m) := by
  rcases h with h | ⟨b, o, h1, h2, h3⟩
  · exact .inl (by rw [h]; simp)
  · by_cases hm : m < gs.length
    · rw [if_neg (by omega)]
      subst h1
      refine .inr ⟨b, o + m * 10, by show some (Addr.add _ _) = _; rw [Addr.add_mid], h2, fun k f hk => ?_⟩
      rw [List.getElem?_drop] at hk
      have h4 := h3 (m + k) f hk
      have e : o + m * 10 + k * 10 = o + (m + k) * 10 := by omega
      rw [e]
      exact h4
    · exact .inl (List.drop_eq_nil_of_le (by omega))
theorem FrsAt.more {w : World} {B B' : Nat} {A : Option Addr} {gs : List Fr} (h : FrsAt w B A gs) (hb : B ≤ B') : FrsAt w B' A gs := by
  rcases h with h | ⟨b, o, h1, h2, h3⟩
  · exact .inl h
  · exact .inr ⟨b, o, h1, Nat.lt_of_lt_of_le h2 hb, fun k f hk => ⟨(h3 k f hk).1.more hb, (h3 k f hk).2⟩⟩
theorem Off.take {w : World} {g : Nat} {h : Option Nat} {A : Option Addr} {bs : List UInt8} (o : Off w g h A bs) (k : Nat) : Off w g h A (bs.take k) := by
  refine ⟨?_, fun hb => o.ne (fun e => hb (by rw [e]; simp))⟩
  have := o.rd.take k
  rwa [← List.map_take] at this
theorem from_frames (w : World) (A : Option Addr) (L cap k : Nat) (hk : k ≤ L) :
    (Instr.slice 62 (.slice A L cap) (some (.int .i64 (k : Int))) none none).run Tryd.prog w = .ok (.slice (if cap = k then A else A.map (·.add (k * 10))) (L - k) (cap - k)) w := by
  obtain ⟨i0, hi0, _, hz1, _⟩ := info_parts' frame_info
  have h := run_slice_l (P := Tryd.prog) w 62 A L cap (by rw [show Tryd.prog.elem 62 = 25 by kernel_rfl]; exact Tryd.underlying62) .i64 (k : Int) (by omega) (by omega)
  rw [h, show Tryd.prog.elem 62 = 25 by kernel_rfl]
  simp [sizeOf, typeInfo, hi0, hz1, sliced]
end Go.Proofs.YtmhfhdbaeijcfaaDoor

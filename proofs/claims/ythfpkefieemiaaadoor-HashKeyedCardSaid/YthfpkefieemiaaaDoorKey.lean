/- What hash.Check, padKey and maskedSum answer. -/
import Derived.Test.YthfpkefieemiaaaDoorDigest
namespace Go.Proofs.YthfpkefieemiaaaDoor
open Go.RowKit

theorem run_head (w : World) (t : TypeId) (n : Nat) (hu : Tryd.prog.underlying t = some (.array n 5)) (g o : Nat) (z : Int) (l : Nat) (hz : z = (l : Int)) (hl : l ≤ n) (hn : 0 < n) :
    (Instr.sliceAt t (.pointer (some ⟨g, o, none⟩)) none (some (.int .i64 z)) none).run Tryd.prog w = .ok (.slice (some ⟨g, o, none⟩) l n) w := by
  subst hz
  obtain ⟨i0, hi0, _⟩ := info_parts' u8_info
  have h2 : ¬ n = 0 := by omega
  simp [Instr.sliceAt, Instr.sureAddr, run_underlying hu, Instr.sliceBounds, run_sliceBound, sizeOf, typeInfo, hi0, hl, Addr.add_mid]

set_option maxHeartbeats 1000000 in
theorem check_any (n c : Nat) (A : Option Addr) (ps : List Part) (w : World) (hK : Ktab w) (hn : ps.length = n) (hmax : n ≤ 9223372036854775807) (hT : (flat ps).length < 1152921504606846976) (hr : Parts w w.heap.size A ps) :
    Calls Tryd.prog 14 #[.slice A n c] w fun e w' => ∃ v, e = .returned v ∧ Hid (v = .agg (((digest (flat ps)).take 4).map bv).toArray ∧ Below w.heap.size w w') := by
  have h0 := hK.1
  have HK := Lib.hid hK
  have HN := Lib.hid hn
  have HR := Lib.hid hr
  have HT := Lib.hid hT
  clear hK hn hr hT
  go_enter Tryd.func14, Tryd.ntmps14
  go_wp2_with (first
    | (refine wl_alloc rfl 29 rfl _ _ info29 ?_
       intro w1 HA HB HZ))
  have hs1 : w.heap.size < w1.heap.size := by rw [HZ.out]; omega
  with_reducible refine (digest_any n c A ps w1 (HK.out.below h0 HB.out) HN.out hmax HT.out ((HR.out.below HB.out).more (Nat.le_of_lt hs1))).mono ?_
  rintro e w2 ⟨v, rfl, HV⟩
  obtain ⟨D, HD⟩ : ∃ D, Shut (D = (digest (flat ps)).map bv) := ⟨_, ⟨rfl⟩⟩
  have HVD : Hid (v = .agg D.toArray) := Lib.hid (by rw [HD.out]; exact HV.out.1)
  have HLD : Shut ((Tryd.prog.info? 27).map (·.size) = some D.length ∧ (List.replicate 32 (Value.int .u8 0)).length = D.length ∧ D.length = 32 ∧ ∀ v ∈ D, v.oneCell' = true) := ⟨by
    have h1 : D.length = 32 := by rw [HD.out]; exact digest_len _
    exact ⟨by rw [h1]; exact info_size info27, by rw [h1]; exact List.length_replicate, h1, by rw [HD.out]; exact bytes_one _⟩⟩
  have HB2 := Lib.hid (HB.out.trans (HV.out.2.mono (Nat.le_of_lt hs1)))
  have HG0 := Lib.hid (HA.out.below HV.out.2 hs1)
  have hs2 : w1.heap.size ≤ w2.heap.size := HV.out.2.size
  clear HA HB HZ HV
  obtain ⟨F, HF⟩ : ∃ F, Shut (F = D.take 4) := ⟨_, ⟨rfl⟩⟩
  have HLF : Shut ((Tryd.prog.info? 29).map (·.size) = some F.length ∧ (List.replicate 4 (Value.int .u8 0)).length = F.length ∧ F.length = 4 ∧ ∀ v ∈ F, v.oneCell' = true) := ⟨by
    have h1 : F.length = 4 := by rw [HF.out, List.length_take, HLD.out.2.2.1]; rfl
    exact ⟨by rw [h1]; exact info_size info29, by rw [h1]; exact List.length_replicate, h1, by rw [HF.out]; exact fun v hv => HLD.out.2.2.2 v (List.mem_of_mem_take hv)⟩⟩
  have hsl := fun w' : World => run_head w' 27 32 under27 w2.heap.size 0 4 4 rfl (by decide) (by decide)
  have har := fun w' : World => run_arrayAt w' 29 4 under29 (some ⟨w2.heap.size, 0, none⟩) 4 32 (Nat.le_refl _)
  go_wp2_with (first
    | (refine wl_alloc rfl 27 rfl _ _ info27 ?_
       intro w3 HA3 HB3 HZ3)
    | (refine wl_store rfl 27 (.tmp 3) (.tmp 5) rfl w2.heap.size _ D rfl HVD.out rfl 27 _ HA3.out HLD.out.1 HLD.out.2.1 HLD.out.2.2.2 ?_
       intro w4 HR4 HS4 HZ4
       have HG4 := Lib.hid (HS4.out.row (HG0.out.below HB3.out (by omega)) (by omega)))
    | (refine wl_mid rfl 29 (.tmp 7) rfl w2.heap.size 0 rfl F _ (HR4.out.range (es := D.drop 4) (by rw [HF.out, List.drop_zero, List.take_append_drop])) under29 rfl HLF.out.1 ?_
       intro vf HVF)
    | (refine wl_store rfl 29 (.tmp 2) (.tmp 8) rfl w.heap.size _ F rfl HVF.out rfl 29 _ HG4.out HLF.out.1 HLF.out.2.1 HLF.out.2.2.2 ?_
       intro w5 HR5 HS5 HZ5))
  refine bodyPost_ret (v := .agg F.toArray) (results_cell_row Tryd.results14 _ w5 w.heap.size 29 _ (0, 0) _ rfl HR5.out under29 rfl (by simpa using HLF.out.1)) rfl ?_
  have hF : Value.agg F.toArray = .agg (((digest (flat ps)).take 4).map bv).toArray := by rw [HF.out, HD.out, List.map_take]
  have hb3 : Below w.heap.size w w3 := HB2.out.trans (HB3.out.mono HB2.out.size)
  have hb4 : Below w.heap.size w w4 := hb3.trans (HS4.out.below (by omega) hb3.size)
  exact ⟨.agg F.toArray, rfl, Lib.hid (And.intro hF (hb4.trans (HS5.out.below (Nat.le_refl _) hb4.size)))⟩
theorem wl_allocAt {w : World} {ops : Array Oper} {rest : List Oper} {o : Oper} {a : Act} {Q : Exit → Act → World → Prop} (hgd : o.guard = none) (t : TypeId) (ho : o.op = .alloc t) (d : Tmp) (hd : o.dst = some d)
    (cs : List Value) (n : Nat) (hz : (Tryd.prog.info? t).map (fun i => (i.zero, i.size)) = some (some (.agg cs.toArray), n))
    (h : ∀ w', Hid (Row w' w.heap.size t cs) → Hid (Below w.heap.size w w') → Hid (w'.heap.size = w.heap.size + 1) → wpList Tryd.prog ops Q rest (a.put (some d) (.pointer (some ⟨w.heap.size, 0, none⟩))) w') :
    wpList Tryd.prog ops Q (o :: rest) a w := wl_alloc hgd t ho cs n hz (by rw [hd]; exact h)
theorem wl_copy {w : World} {ops : Array Oper} {rest : List Oper} {o : Oper} {a : Act} {Q : Exit → Act → World → Prop} (hgd : o.guard = none) (d s : Operand)
    (ho : o.op = .call { callee := .builtin .copy, args := #[d, s], argTypes := #[25, 25] }) (g off dLen dCap : Nat) (sp : Option Addr) (sLen sCap : Nat)
    (hd : a.eval d = .slice (some ⟨g, off, none⟩) dLen dCap) (hs : a.eval s = .slice sp sLen sCap) (cur : List Value) (t : TypeId) (hg : Row w g t cur) (cs : List Value) (hn : cs.length = Nat.min sLen dLen)
    (hsrc : Rd w w.heap.size sp cs) (hfit : off + cs.length ≤ cur.length) (h1 : ∀ v ∈ cs, v.oneCell' = true)
    (h : ∀ w', Hid (Row w' g t (splice cur off cs) ∧ Sole g w w' ∧ w'.heap.size = w.heap.size) → wpList Tryd.prog ops Q rest (a.put o.dst (goInt cs.length)) w') : wpList Tryd.prog ops Q (o :: rest) a w := by
  obtain ⟨i0, hi0, _, hz1, _⟩ := info_parts' u8_info
  rcases hsrc with h0 | ⟨ad, rfl, _, h3⟩
  · subst h0
    refine wpList_copy_nothing hgd d s 25 25 ho 5 Tryd.underlying25 (by simp [hi0, hz1]) _ _ dLen dCap sLen sCap hd hs (by simpa using hn.symm) ?_
    exact h w ⟨by simpa [splice] using hg, Sole.refl _ _, rfl⟩
  · refine wpList_copy_own hgd d s 25 25 ho 5 Tryd.underlying25 (by simp [hi0, hz1]) g off dLen dCap ad sLen sCap hd hs cur.toArray t hg cs hn h3 (by simpa using hfit) h1 ?_
    refine h _ ⟨?_, (Sole.refl g w).setRow _, by simp [World.setRow]⟩
    have := hg.setRow (splice cur off cs)
    simpa [splice] using this
theorem splice_zero (cs : List UInt8) (n : Nat) (h : cs.length ≤ n) : splice (List.replicate n (Value.int .u8 0)) 0 (cs.map bv) = (cs ++ List.replicate (n - cs.length) 0).map bv := by
  unfold splice
  simp [bv]
theorem one_part (w : World) (A : Option Addr) (n c : Nat) (bs : List UInt8) (hn : bs.length = n) (hc : n ≤ c) (hm : c ≤ 9223372036854775807) (hr : Rd w w.heap.size A (bs.map bv)) :
    Parts (w.alloc (.cells #[.slice A n c] 25)) (w.alloc (.cells #[.slice A n c] 25)).heap.size (some ⟨w.heap.size, 0, none⟩) [⟨A, c, bs⟩] := by
  have hb : Below w.heap.size w (w.alloc (.cells #[.slice A n c] 25)) := (Below.refl _ _).alloc (Nat.le_refl _) _
  refine ⟨.inr ⟨_, rfl, by simp, ?_⟩, ?_⟩
  · have h1 := cells_new w #[.slice A n c] 25
    intro j u hj
    refine h1 j u ?_
    rw [← hj]
    simp [Part.v, hn]
  · intro p hp
    simp at hp
    subst hp
    exact ⟨by show bs.length ≤ c; omega, hm, (hr.below hb).more hb.size⟩
theorem flat_one (A : Option Addr) (c : Nat) (bs : List UInt8) : flat [⟨A, c, bs⟩] = bs := by simp [flat]

set_option maxHeartbeats 1000000 in
theorem padKey_any (n c : Nat) (A : Option Addr) (key : List UInt8) (w : World) (hK : Ktab w) (hn : key.length = n) (hc : n ≤ c) (hm : c ≤ 9223372036854775807) (hT : n < 1152921504606846976) (hr : Rd w w.heap.size A (key.map bv)) :
    Calls Tryd.prog 28 #[.slice A n c] w fun e w' => ∃ v, e = .returned v ∧ Hid (v = .agg ((padK key).map bv).toArray ∧ Below w.heap.size w w') := by
  have h0 := hK.1
  have HK := Lib.hid hK
  have HN := Lib.hid hn
  have HR := Lib.hid hr
  clear hK hn hr
  obtain ⟨P, HP⟩ : ∃ P, Shut (P = (padK key).map bv) := ⟨_, ⟨rfl⟩⟩
  have HLP : Shut ((Tryd.prog.info? 45).map (·.size) = some P.length ∧ (List.replicate 64 (Value.int .u8 0)).length = P.length ∧ P.length = 64 ∧ ∀ v ∈ P, v.oneCell' = true) := ⟨by
    have h1 : P.length = 64 := by rw [HP.out, List.length_map, padK_length]
    exact ⟨by rw [h1]; exact info_size info45, by rw [h1]; exact List.length_replicate, h1, by rw [HP.out]; exact bytes_one _⟩⟩
  have hP : ∀ v, Hid (v = Value.agg P.toArray) → v = .agg ((padK key).map bv).toArray := fun v h => by rw [h.out, HP.out]
  have HPV := Lib.hid hP
  clear hP
  go_enter Tryd.func28, Tryd.ntmps28
  by_cases hlt : 64 < n
  · go_wp2_with (first
      | (refine wl_allocAt rfl 45 rfl 2 rfl _ _ info45 ?_
         intro w1 HA1 HB1 HZ1)
      | (refine wl_allocAt rfl 45 rfl 3 rfl _ _ info45 ?_
         intro w2 HA2 HB2 HZ2))
    have hs1 : w.heap.size < w1.heap.size := by rw [HZ1.out]; omega
    have hs2 : w1.heap.size < w2.heap.size := by rw [HZ2.out]; omega
    have HBW2 := Lib.hid (HB1.out.trans (HB2.out.mono (by omega)))
    have HG0 := Lib.hid (HA1.out.below HB2.out (by omega))
    have HB3 : Hid (Below w2.heap.size w2 (w2.alloc (.cells #[.slice A n c] 25))) := Lib.hid ((Below.refl _ _).alloc (Nat.le_refl _) _)
    have HPS := Lib.hid (one_part w2 A n c key HN.out hc hm ((HR.out.below HBW2.out).more (by omega)))
    have HK3 := Lib.hid (HK.out.below h0 (HBW2.out.trans (HB3.out.mono (by omega))))
    have HF1 : Hid (flat [⟨A, c, key⟩] = key) := Lib.hid (flat_one A c key)
    with_reducible refine (digest_any 1 1 _ [⟨A, c, key⟩] _ HK3.out rfl (by decide) (by rw [HF1.out, HN.out]; exact hT) HPS.out).mono ?_
    rintro e w4 ⟨v, rfl, HV⟩
    obtain ⟨D, HD⟩ : ∃ D, Shut (D = (digest key).map bv) := ⟨_, ⟨rfl⟩⟩
    have HVD : Hid (v = .agg D.toArray) := Lib.hid (by rw [HD.out]; have := HV.out.1; rwa [HF1.out] at this)
    have HLD : Shut ((Tryd.prog.info? 27).map (·.size) = some D.length ∧ (List.replicate 32 (Value.int .u8 0)).length = D.length ∧ D.length = 32 ∧ ∀ v ∈ D, v.oneCell' = true) := ⟨by
      have h1 : D.length = 32 := by rw [HD.out]; exact digest_len _
      exact ⟨by rw [h1]; exact info_size info27, by rw [h1]; exact List.length_replicate, h1, by rw [HD.out]; exact bytes_one _⟩⟩
    have hb24 : Below w2.heap.size w2 w4 := HB3.out.trans (HV.out.2.mono (by simp))
    have HB4 := Lib.hid (HBW2.out.trans (hb24.mono (by omega)))
    have HG04 := Lib.hid (HG0.out.below hb24 (by omega))
    have HGP4 := Lib.hid (HA2.out.below hb24 (by omega))
    have hs4 : w2.heap.size ≤ w4.heap.size := hb24.size
    generalize hgp : w1.heap.size = gp at *
    clear HV hb24 HB3 HPS HK3 HA1 HA2 HB1 HB2 HZ1 HZ2 HBW2 HG0 hgp
    have hsl1 := fun w' : World => run_all w' 45 64 under45 gp 0
    have hsl2 := fun w' : World => run_all w' 27 32 under27 w4.heap.size 0
    go_wp2_with (first
      | (refine wl_alloc rfl 27 rfl _ _ info27 ?_
         intro w5 HA5 HB5 HZ5)
      | (refine wl_store rfl 27 (.tmp 4) (.tmp 10) rfl w4.heap.size _ D rfl HVD.out rfl 27 _ HA5.out HLD.out.1 HLD.out.2.1 HLD.out.2.2.2 ?_
         intro w6 HR6 HS6 HZ6))
    have hz5 : w4.heap.size < w5.heap.size := by rw [HZ5.out]; omega
    have hz6 : w5.heap.size ≤ w6.heap.size := by rw [HZ6.out]; exact Nat.le_refl _
    have HG06 := Lib.hid (HS6.out.row (HG04.out.below HB5.out (by omega)) (by omega))
    have HGP6 := Lib.hid (HS6.out.row (HGP4.out.below HB5.out (by omega)) (by omega))
    have HB6 : Hid (Below w.heap.size w w6) := Lib.hid ((HB4.out.trans (HB5.out.mono HB4.out.size)).trans (HS6.out.below HB4.out.size (by omega)))
    have hsrc : ∀ j v, D[j]? = some v → w6.drew.cell? ((⟨w4.heap.size, 0, none⟩ : Addr).add j) = some v := fun j v hj => by
      rw [Addr.add_mid, Nat.zero_add]
      exact (HR6.out.cell j).trans hj
    have hrw : Row w6.drew gp 45 (List.replicate 64 (.int .u8 0)) := HGP6.out
    have HSR := Lib.hid hsrc
    have HRW := Lib.hid hrw
    clear hsrc hrw
    go_region_law (refine step_copy_sole rfl (.tmp 11) (.tmp 12) rfl gp 0 64 64 ⟨w4.heap.size, 0, none⟩ 32 32 rfl rfl _ 45 HRW.out D (by rw [HLD.out.2.2.1]; rfl) HSR.out (by rw [HLD.out.2.2.1]; decide) HLD.out.2.2.2 ?_; intro w7 HW7)
    clear hsl1 hsl2
    have HR7 : Hid (Row w7 gp 45 P) := Lib.hid (by
      have h1 := HW7.out.1
      have h2 : splice (List.replicate 64 (Value.int .u8 0)) 0 D = P := by
        rw [HD.out, splice_zero _ _ (by rw [digest_length]; decide), HP.out]
        unfold padK
        rw [if_pos (by rw [HN.out]; exact hlt), digest_length]
      rwa [h2] at h1)
    have HS7 : Hid (Sole gp w6 w7) := Lib.hid HW7.out.2.1.of_drew
    have HG07 := Lib.hid (HS7.out.row HG06.out (by omega))
    have HB7 := Lib.hid (HB6.out.trans (HS7.out.below (by omega) HB6.out.size))
    go_wp2_with (first
      | (refine wl_load rfl 45 (.tmp 3) rfl gp rfl 45 _ _ HR7.out under45 rfl HLP.out.1 ?_
         intro vp HVP)
      | (refine wl_store rfl 45 (.tmp 2) (.tmp 14) rfl w.heap.size _ P rfl HVP.out rfl 45 _ HG07.out HLP.out.1 HLP.out.2.1 HLP.out.2.2.2 ?_
         intro w8 HR8 HS8 HZ8))
    refine bodyPost_ret (v := .agg P.toArray) (results_cell_row Tryd.results28 _ w8 w.heap.size 45 _ (0, 0) _ rfl HR8.out under45 rfl (by simpa using HLP.out.1)) rfl ?_
    exact ⟨.agg P.toArray, rfl, Lib.hid (And.intro (HPV.out _ (Lib.hid rfl)) (HB7.out.trans (HS8.out.below (Nat.le_refl _) HB7.out.size)))⟩
  · have hsl1 := fun (w' : World) (g : Nat) => run_all w' 45 64 under45 g 0
    have hkl : (key.map bv).length = Nat.min n 64 := by rw [List.length_map, HN.out]; exact (Nat.min_eq_left (by omega)).symm
    have HKL := Lib.hid hkl
    clear hkl
    go_wp2_with (first
      | (refine wl_allocAt rfl 45 rfl 2 rfl _ _ info45 ?_
         intro w1 HA1 HB1 HZ1)
      | (refine wl_allocAt rfl 45 rfl 3 rfl _ _ info45 ?_
         intro w2 HA2 HB2 HZ2
         have hs1 : w.heap.size < w1.heap.size := by rw [HZ1.out]; omega
         have hs2 : w1.heap.size < w2.heap.size := by rw [HZ2.out]; omega
         have HBW2 := Lib.hid (HB1.out.trans (HB2.out.mono (by omega)))
         have HG0 := Lib.hid (HA1.out.below HB2.out (by omega)))
      | (refine wl_copy rfl (.tmp 15) (.tmp 16) rfl w1.heap.size 0 64 64 A n c rfl rfl _ 45 HA2.out (key.map bv) HKL.out ((HR.out.below HBW2.out).more HBW2.out.size) (by rw [HKL.out]; show 0 + min n 64 ≤ _; simp; omega) (bytes_one _) ?_
         intro w3 HW3
         have HR3 : Hid (Row w3 w1.heap.size 45 P) := Lib.hid (by
           have h1 := HW3.out.1
           have h2 : splice (List.replicate 64 (Value.int .u8 0)) 0 (key.map bv) = P := by
             rw [splice_zero _ _ (by rw [HN.out]; omega), HP.out]
             unfold padK
             rw [if_neg (by rw [HN.out]; exact hlt)]
           rwa [h2] at h1)
         have HG3 := Lib.hid (HW3.out.2.1.row HG0.out (by omega))
         have HB3 := Lib.hid (HBW2.out.trans (HW3.out.2.1.below (by omega) HBW2.out.size)))
      | (refine wl_load rfl 45 (.tmp 3) rfl w1.heap.size rfl 45 _ _ HR3.out under45 rfl HLP.out.1 ?_
         intro vp HVP)
      | (refine wl_store rfl 45 (.tmp 2) (.tmp 18) rfl w.heap.size _ P rfl HVP.out rfl 45 _ HG3.out HLP.out.1 HLP.out.2.1 HLP.out.2.2.2 ?_
         intro w8 HR8 HS8 HZ8))
    refine bodyPost_ret (v := .agg P.toArray) (results_cell_row Tryd.results28 _ w8 w.heap.size 45 _ (0, 0) _ rfl HR8.out under45 rfl (by simpa using HLP.out.1)) rfl ?_
    exact ⟨.agg P.toArray, rfl, Lib.hid (And.intro (HPV.out _ (Lib.hid rfl)) (HB3.out.trans (HS8.out.below (Nat.le_refl _) HB3.out.size)))⟩
end Go.Proofs.YthfpkefieemiaaaDoor

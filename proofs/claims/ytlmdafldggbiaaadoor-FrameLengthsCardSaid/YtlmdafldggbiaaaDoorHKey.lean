/- What hash.Check, padKey and maskedSum answer. -/
import Derived.Test.YtlmdafldggbiaaaDoorHDigest
namespace Go.Proofs.YtlmdafldggbiaaaDoor.H
open Go.RowKit

theorem run_head (w : World) (t : TypeId) (n : Nat) (hu : Tryd.prog.underlying t = some (.array n 5)) (g o : Nat) (z : Int) (l : Nat) (hz : z = (l : Int)) (hl : l ≤ n) (hn : 0 < n) :
    (Instr.sliceAt t (.pointer (some ⟨g, o, none⟩)) none (some (.int .i64 z)) none).run Tryd.prog w = .ok (.slice (some ⟨g, o, none⟩) l n) w := by
  subst hz
  obtain ⟨i0, hi0, _⟩ := info_parts' u8_info
  have h2 : ¬ n = 0 := by omega
  simp [Instr.sliceAt, Instr.sureAddr, run_underlying hu, Instr.sliceBounds, run_sliceBound, sizeOf, typeInfo, hi0, hl, Addr.add_mid]

set_option maxRecDepth 100000 in
set_option maxHeartbeats 1000000 in
theorem check_any (n c : Nat) (A : Option Addr) (ps : List Part) (w : World) (hK : Ktab w) (hn : ps.length = n) (hmax : n ≤ 9223372036854775807) (hT : (flat ps).length < 1152921504606846976) (hr : Parts w w.heap.size A ps) :
    Calls Tryd.prog 46 #[.slice A n c] w fun e w' => ∃ v, e = .returned v ∧ Hid (v = .agg (((digest (flat ps)).take 4).map bv).toArray ∧ Below w.heap.size w w') := by
  have h0 := hK.1
  have HK := Lib.hid hK
  have HN := Lib.hid hn
  have HR := Lib.hid hr
  have HT := Lib.hid hT
  clear hK hn hr hT
  go_enter Tryd.func46, Tryd.ntmps46
  go_wp2_with (first
    | (refine wl_alloc rfl 94 rfl _ _ info29 ?_
       intro w1 HA HB HZ))
  have hs1 : w.heap.size < w1.heap.size := by rw [HZ.out]; omega
  with_reducible refine (digest_any n c A ps w1 (HK.out.below h0 HB.out) HN.out hmax HT.out ((HR.out.below HB.out).more (Nat.le_of_lt hs1))).mono ?_
  rintro e w2 ⟨v, rfl, HV⟩
  obtain ⟨D, HD⟩ : ∃ D, Shut (D = (digest (flat ps)).map bv) := ⟨_, ⟨rfl⟩⟩
  have HVD : Hid (v = .agg D.toArray) := Lib.hid (by rw [HD.out]; exact HV.out.1)
  have HLD : Shut ((Tryd.prog.info? 115).map (·.size) = some D.length ∧ (List.replicate 32 (Value.int .u8 0)).length = D.length ∧ D.length = 32 ∧ ∀ v ∈ D, v.oneCell' = true) := ⟨by
    have h1 : D.length = 32 := by rw [HD.out]; exact digest_len _
    exact ⟨by rw [h1]; exact info_size info27, by rw [h1]; exact List.length_replicate, h1, by rw [HD.out]; exact bytes_one _⟩⟩
  have HB2 := Lib.hid (HB.out.trans (HV.out.2.mono (Nat.le_of_lt hs1)))
  have HG0 := Lib.hid (HA.out.below HV.out.2 hs1)
  have hs2 : w1.heap.size ≤ w2.heap.size := HV.out.2.size
  clear HA HB HZ HV
  obtain ⟨F, HF⟩ : ∃ F, Shut (F = D.take 4) := ⟨_, ⟨rfl⟩⟩
  have HLF : Shut ((Tryd.prog.info? 94).map (·.size) = some F.length ∧ (List.replicate 4 (Value.int .u8 0)).length = F.length ∧ F.length = 4 ∧ ∀ v ∈ F, v.oneCell' = true) := ⟨by
    have h1 : F.length = 4 := by rw [HF.out, List.length_take, HLD.out.2.2.1]; rfl
    exact ⟨by rw [h1]; exact info_size info29, by rw [h1]; exact List.length_replicate, h1, by rw [HF.out]; exact fun v hv => HLD.out.2.2.2 v (List.mem_of_mem_take hv)⟩⟩
  have hsl := fun w' : World => run_head w' 115 32 under27 w2.heap.size 0 4 4 rfl (by decide) (by decide)
  have har := fun w' : World => run_arrayAt w' 94 4 under29 (some ⟨w2.heap.size, 0, none⟩) 4 32 (Nat.le_refl _)
  go_wp2_with (first
    | (refine wl_alloc rfl 115 rfl _ _ info27 ?_
       intro w3 HA3 HB3 HZ3)
    | (refine wl_store rfl 115 (.tmp 3) (.tmp 5) rfl w2.heap.size _ D rfl HVD.out rfl 115 _ HA3.out HLD.out.1 HLD.out.2.1 HLD.out.2.2.2 ?_
       intro w4 HR4 HS4 HZ4
       have HG4 := Lib.hid (HS4.out.row (HG0.out.below HB3.out (by omega)) (by omega)))
    | (refine wl_mid rfl 94 (.tmp 7) rfl w2.heap.size 0 rfl F _ (HR4.out.range (es := D.drop 4) (by rw [HF.out, List.drop_zero, List.take_append_drop])) under29 rfl HLF.out.1 ?_
       intro vf HVF)
    | (refine wl_store rfl 94 (.tmp 2) (.tmp 8) rfl w.heap.size _ F rfl HVF.out rfl 94 _ HG4.out HLF.out.1 HLF.out.2.1 HLF.out.2.2.2 ?_
       intro w5 HR5 HS5 HZ5))
  refine bodyPost_ret (v := .agg F.toArray) (results_cell_row Tryd.results46 _ w5 w.heap.size 94 _ (0, 0) _ rfl HR5.out under29 rfl (by simpa using HLF.out.1)) rfl ?_
  have hF : Value.agg F.toArray = .agg (((digest (flat ps)).take 4).map bv).toArray := by rw [HF.out, HD.out, List.map_take]
  have hb3 : Below w.heap.size w w3 := HB2.out.trans (HB3.out.mono HB2.out.size)
  have hb4 : Below w.heap.size w w4 := hb3.trans (HS4.out.below (by omega) hb3.size)
  exact ⟨.agg F.toArray, rfl, Lib.hid (And.intro hF (hb4.trans (HS5.out.below (Nat.le_refl _) hb4.size)))⟩
theorem wl_allocAt {w : World} {ops : Array Oper} {rest : List Oper} {o : Oper} {a : Act} {Q : Exit → Act → World → Prop} (hgd : o.guard = none) (t : TypeId) (ho : o.op = .alloc t) (d : Tmp) (hd : o.dst = some d)
    (cs : List Value) (n : Nat) (hz : (Tryd.prog.info? t).map (fun i => (i.zero, i.size)) = some (some (.agg cs.toArray), n))
    (h : ∀ w', Hid (Row w' w.heap.size t cs) → Hid (Below w.heap.size w w') → Hid (w'.heap.size = w.heap.size + 1) → wpList Tryd.prog ops Q rest (a.put (some d) (.pointer (some ⟨w.heap.size, 0, none⟩))) w') :
    wpList Tryd.prog ops Q (o :: rest) a w := wl_alloc hgd t ho cs n hz (by rw [hd]; exact h)
theorem wl_copy {w : World} {ops : Array Oper} {rest : List Oper} {o : Oper} {a : Act} {Q : Exit → Act → World → Prop} (hgd : o.guard = none) (d s : Operand)
    (ho : o.op = .call { callee := .builtin .copy, args := #[d, s], argTypes := #[23, 23] }) (g off dLen dCap : Nat) (sp : Option Addr) (sLen sCap : Nat)
    (hd : a.eval d = .slice (some ⟨g, off, none⟩) dLen dCap) (hs : a.eval s = .slice sp sLen sCap) (cur : List Value) (t : TypeId) (hg : Row w g t cur) (cs : List Value) (hn : cs.length = Nat.min sLen dLen)
    (hsrc : Rd w w.heap.size sp cs) (hfit : off + cs.length ≤ cur.length) (h1 : ∀ v ∈ cs, v.oneCell' = true)
    (h : ∀ w', Hid (Row w' g t (splice cur off cs) ∧ Sole g w w' ∧ w'.heap.size = w.heap.size) → wpList Tryd.prog ops Q rest (a.put o.dst (goInt cs.length)) w') : wpList Tryd.prog ops Q (o :: rest) a w := by
  obtain ⟨i0, hi0, _, hz1, _⟩ := info_parts' u8_info
  rcases hsrc with h0 | ⟨ad, rfl, _, h3⟩
  · subst h0
    refine wpList_copy_nothing hgd d s 23 23 ho 5 Tryd.underlying23 (by simp [hi0, hz1]) _ _ dLen dCap sLen sCap hd hs (by simpa using hn.symm) ?_
    exact h w ⟨by simpa [splice] using hg, Sole.refl _ _, rfl⟩
  · refine wpList_copy_own hgd d s 23 23 ho 5 Tryd.underlying23 (by simp [hi0, hz1]) g off dLen dCap ad sLen sCap hd hs cur.toArray t hg cs hn h3 (by simpa using hfit) h1 ?_
    refine h _ ⟨?_, (Sole.refl g w).setRow _, by simp [World.setRow]⟩
    have := hg.setRow (splice cur off cs)
    simpa [splice] using this
theorem splice_zero (cs : List UInt8) (n : Nat) (h : cs.length ≤ n) : splice (List.replicate n (Value.int .u8 0)) 0 (cs.map bv) = (cs ++ List.replicate (n - cs.length) 0).map bv := by
  unfold splice
  simp [bv]
theorem one_part (w : World) (A : Option Addr) (n c : Nat) (bs : List UInt8) (hn : bs.length = n) (hc : n ≤ c) (hm : c ≤ 9223372036854775807) (hr : Rd w w.heap.size A (bs.map bv)) :
    Parts (w.alloc (.cells #[.slice A n c] 23)) (w.alloc (.cells #[.slice A n c] 23)).heap.size (some ⟨w.heap.size, 0, none⟩) [⟨A, c, bs⟩] := by
  have hb : Below w.heap.size w (w.alloc (.cells #[.slice A n c] 23)) := (Below.refl _ _).alloc (Nat.le_refl _) _
  refine ⟨.inr ⟨_, rfl, by simp, ?_⟩, ?_⟩
  · have h1 := cells_new w #[.slice A n c] 23
    intro j u hj
    refine h1 j u ?_
    rw [← hj]
    simp [Part.v, hn]
  · intro p hp
    simp at hp
    subst hp
    exact ⟨by show bs.length ≤ c; omega, hm, (hr.below hb).more hb.size⟩
theorem flat_one (A : Option Addr) (c : Nat) (bs : List UInt8) : flat [⟨A, c, bs⟩] = bs := by simp [flat]

end Go.Proofs.YtlmdafldggbiaaaDoor.H

/- The document's Put of a frame in form: the frame's bytes. -/
import Derived.Test.YtmhfhdbaeijcfaaDoorGI
import Derived.Test.YtmhfhdbaeijcfaaDoorGH
import Derived.Test.YtmhfhdbaeijcfaaDoorSam
import Derived.Test.YtmhfhdbaeijcfaaDoorGF
namespace Go.Proofs.YtmhfhdbaeijcfaaDoor
open Go.RowKit
open Go.Proofs.YtmhfhdbaeijcfaaDoor.H

/-- What the document's Cells answers for a frame. -/
def RCells (f : Fr) : Prop := ∀ (w : World) (v : Value), Hid (v = f.v) → f.ok w w.heap.size → Calls Tryd.prog 16 #[v] w fun e w' => ∃ A, e = .returned (.tuple #[.string ⟨(layL f.kind).toArray⟩, .slice A (used f.kind).length (used f.kind).length]) ∧ Hid (F.CsR w' w'.heap.size A ((used f.kind).map (cellF f)) ∧ Below w.heap.size w w')
/-- What the document's InForm answers for a frame. -/
def RForm (f : Fr) (b : Bool) : Prop := ∀ (w : World) (v : Value), Hid (v = f.v) → f.ok w w.heap.size → Calls Tryd.prog 42 #[v] w fun e w' => e = .returned (.bool b) ∧ Hid (Below w.heap.size w w')

theorem flatR_cell (cs : List F.FC) (w : World) (B : Nat) (A : Option Addr) (h : F.CsR w B A cs) (hne : cs ≠ []) : ∃ b o, A = some ⟨b, o, none⟩ ∧ ∀ (j : Nat) (u : Value), (F.flatR cs)[j]? = some u → w.cell? ((⟨b, o, none⟩ : Addr).add j) = some u := by
  rcases h with h | ⟨b, o, h1, _, h3⟩
  · exact absurd h hne
  · refine ⟨b, o, h1, fun j u hj => ?_⟩
    have hjl : j < (F.flatR cs).length := by
      rcases Nat.lt_or_ge j (F.flatR cs).length with h | h
      · exact h
      · rw [List.getElem?_eq_none h] at hj; cases hj
    rw [F.flatR_length] at hjl
    have hk : j / 3 < cs.length := by omega
    obtain ⟨a1, a2, a3⟩ := h3 (j / 3) cs[j / 3] (List.getElem?_eq_getElem hk)
    obtain ⟨b1, b2, b3⟩ := F.flatR_at (List.getElem?_eq_getElem hk)
    have e : (⟨b, o, none⟩ : Addr).add j = ⟨b, o + j, none⟩ := by
      unfold Addr.add
      split
      · rename_i h0; subst h0; rfl
      · rfl
    rw [e]
    have hm : j % 3 = 0 ∨ j % 3 = 1 ∨ j % 3 = 2 := by omega
    rcases hm with hm | hm | hm
    · have ej : j = j / 3 * 3 := by omega
      have e2 : o + j = o + j / 3 * 3 := by omega
      rw [e2, a1]
      rw [ej] at hj
      rw [b1] at hj
      exact hj
    · have ej : j = j / 3 * 3 + 1 := by omega
      have e2 : o + j = o + j / 3 * 3 + 1 := by omega
      rw [e2, a2]
      rw [ej] at hj
      rw [b2] at hj
      exact hj
    · have ej : j = j / 3 * 3 + 2 := by omega
      have e2 : o + j = o + j / 3 * 3 + 2 := by omega
      rw [e2, a3]
      rw [ej] at hj
      rw [b3] at hj
      exact hj
/-- Cells appended to a row of cells of our own. -/
theorem wl_rcells {w : World} {ops : Array Oper} {rest : List Oper} {o : Oper} {a : Act} {Q : Exit → Act → World → Prop} (hgd : o.guard = none) (t x : Operand)
    (ho : o.op = .call { callee := .builtin .append, args := #[t, x], argTypes := #[35, 35] }) (base n m c : Nat) (v : Value) (c0 cs : List F.FC) (A : Option Addr) (hs : a.eval t = v) (hx : a.eval x = .slice A m c) (hm : cs.length = m) (hne : cs ≠ [])
    (hcs : F.CsR w w.heap.size A cs) (hown : w.ownsRow base 89 3 v n (F.flatR c0)) (hb : n + m ≤ 1000000) (hbase : base ≤ w.heap.size)
    (h : ∀ v' w', Hid (w'.ownsRow base 89 3 v' (n + m) (F.flatR (c0 ++ cs)) ∧ w.grownBy w' v.ownBlock) → wpList Tryd.prog ops Q rest (a.put o.dst v') w') : wpList Tryd.prog ops Q (o :: rest) a w := by
  refine wpList_plain hgd fun K hK => ?_
  obtain ⟨i0, hi0, hz0, hz1, hz2⟩ := info_parts' F.rcell_info
  obtain ⟨b, off, rfl, hc⟩ := flatR_cell cs w _ A hcs hne
  subst hm
  obtain ⟨v', w', hr, hh2, hh3, _⟩ := run_append_own_at (P := Tryd.prog) w base 35 o.type 89 i0 _ 3 32 Tryd.underlying35 hi0 hz0 hz1 hz2 rfl (by omega) v n (F.flatR c0) hown ⟨b, off, none⟩ cs.length c (F.flatR cs) (F.flatR_length cs) hc
    (by
      intro u hu
      unfold F.flatR at hu
      obtain ⟨x, _, hx⟩ := List.mem_flatMap.1 hu
      simp at hx
      rcases hx with rfl | rfl | rfl <;> rfl) (by simp only [maxLen]; omega) (by omega) hbase
  unfold Oper.wp execOp
  simp only [ho, resolve, invoke, builtin, Sem.run_bind, Sem.run_pure, Result.andThen_ok, List.map_toArray, List.map_cons, List.map_nil, hs, hx, hr]
  have e : F.flatR (c0 ++ cs) = F.flatR c0 ++ F.flatR cs := by unfold F.flatR; rw [List.flatMap_append]
  exact hK _ _ (h v' w' ⟨by rw [e]; exact hh2, hh3⟩)
theorem csr_more {w : World} {B B' : Nat} {A : Option Addr} {cs : List F.FC} (h : F.CsR w B A cs) (hb : B ≤ B') : F.CsR w B' A cs := by
  rcases h with h | ⟨b, o, h1, h2, h3⟩
  · exact .inl h
  · exact .inr ⟨b, o, h1, by omega, h3⟩
theorem kn_body (k : Int) : F.kn (98 :: layL k) = true := by
  have h := kn_layS k
  have e : layS k = 104 :: 98 :: layL k := rfl
  rw [e] at h
  exact (F.kn_cons h).2
theorem body_ok {f : Fr} {w : World} {B : Nat} (hf : f.ok w B) (hk : 1 ≤ f.kind ∧ f.kind ≤ 17) : ∀ x ∈ [({ n := f.kind } : F.FC)] ++ (used f.kind).map (cellF f), x.ok := by
  intro x hx
  rcases List.mem_append.1 hx with hx | hx
  · have : x = { n := f.kind } := by simpa using hx
    subst this
    exact ⟨by show _ ≤ f.kind; omega, by show f.kind ≤ _; omega, by show 0 < 18446744073709551616; decide, by show (0 : Nat) ≤ _; exact Nat.zero_le _⟩
  · obtain ⟨y, _, rfl⟩ := List.mem_map.1 hx
    exact cellF_ok f w B hf y
/-- A frame's bytes behind the first two. -/
def bodyOf (f : Fr) : List UInt8 := F.encB (98 :: layL f.kind) ({ n := f.kind } :: (used f.kind).map (cellF f))
theorem cov_body (f : Fr) : cov f = F.be 2 ((total f : Int) - 2).toNat ++ bodyOf f := rfl
theorem body_length (f : Fr) (h : valid f = true) : (bodyOf f).length = total f - 2 := by
  have h1 := cov_length f h
  rw [cov_body, List.length_append, F.be_length] at h1
  omega
theorem body_sum (f : Fr) (h : valid f = true) : F.sumS (98 :: layL f.kind) ({ n := f.kind } :: (used f.kind).map (cellF f)) = .ok (total f - 2) := by
  have ht := total_le f h
  have hs := sumS_frame f ((total f : Int) - 2) h (by omega) (by omega)
  obtain ⟨n, k, s1, s2, s3⟩ := F.sumS_cons (c := 104) (l := 98 :: layL f.kind) (x := { n := (total f : Int) - 2 }) (cs := { n := f.kind } :: (used f.kind).map (cellF f)) hs
  rcases F.sizeS_inv s1 with ⟨e, _⟩ | ⟨_, e, _⟩ | ⟨_, _, _, _, e⟩
  · exact absurd e (by decide)
  · exact absurd e (by decide)
  · have e2 : F.hd (104 : UInt8).toNat = 2 := rfl
    rw [e2] at e
    rw [s2]
    congr 1
    omega

set_option maxRecDepth 100000 in
set_option maxHeartbeats 2000000 in
theorem rput_of (f : Fr) (v : Value) (g : Nat) (w : World) (hRC : RCells f) (hRF : RForm f true) (hv : Hid (v = f.v)) (hT : Tab w w.heap.size g) (hf : f.ok w w.heap.size) (hval : valid f = true) :
    Calls Tryd.prog 14 #[.pointer (some ⟨g, 0, none⟩), v] w fun e w' => ∃ x, e = .returned (.tuple #[x, .bool true]) ∧ Hid (w'.ownsRow w.heap.size 5 1 x (total f + 4) ((putB f).map bv) ∧ Below w.heap.size w w') := by
  have HRC := Lib.hid hRC
  have HRF : Hid (∀ (w : World) (v : Value), Hid (v = f.v) → f.ok w w.heap.size → Calls Tryd.prog 42 #[v] w fun e w' => e = .returned (.bool true) ∧ Hid (Below w.heap.size w w')) := Lib.hid hRF
  have HT := Lib.hid hT
  have HF := Lib.hid hf
  have HVL := Lib.hid hval
  obtain ⟨m, HN⟩ : ∃ m, Hid (f.bs.length = m) := ⟨_, rfl⟩
  have HV : Hid (v = .agg (f.cells m).toArray) := Lib.hid (by rw [hv.out, ← HN.out]; rfl)
  have HV2 : Hid (Value.agg (f.cells m).toArray = f.v) := Lib.hid (by rw [← HN.out]; rfl)
  obtain ⟨lay, HLY⟩ : ∃ t, H.Shut (ByteArray.mk (layL f.kind).toArray = t) := ⟨_, ⟨rfl⟩⟩
  obtain ⟨k, HK⟩ : ∃ k, H.Shut ((used f.kind).length = k) := ⟨_, ⟨rfl⟩⟩
  have hk9 : k ≤ 9 := by rw [← HK.out]; exact used_len f.kind
  have hly : lay.size ≤ 9 := by
    rw [← HLY.out]
    show (layL f.kind).toArray.size ≤ 9
    unfold layL
    simp
    exact used_len f.kind
  have hnl : ¬ 9223372036854775807 < 1 + lay.size := by omega
  obtain ⟨T2, HTT⟩ : ∃ T2, H.Shut (total f = T2 + 2) := ⟨total f - 2, ⟨by have := total_le f hval; omega⟩⟩
  have hT2 : 1 ≤ T2 ∧ T2 ≤ 4627 := by have := total_le f hval; rw [HTT.out] at this; omega
  have HKD : Hid (1 ≤ f.kind ∧ f.kind ≤ 17) := Lib.hid (used_kind _ (valid_used hval))
  have HC : Hid (∀ (w' : World) (u : Value), u = .agg (f.cells m).toArray → f.ok w' w'.heap.size → Calls Tryd.prog 16 #[u] w' fun e w'' => ∃ A, e = .returned (.tuple #[.string lay, .slice A k k]) ∧ Hid (F.CsR w'' w''.heap.size A ((used f.kind).map (cellF f)) ∧ Below w'.heap.size w' w'')) := Lib.hid (fun w' u hu ho => by
    have h1 := HRC.out w' u (Lib.hid (hu.trans HV2.out)) ho
    rw [HLY.out, HK.out] at h1
    exact h1)
  rw [HTT.out]
  clear hRC hRF hT hf hval hv
  go_enter Tryd.func14, Tryd.ntmps14
  go_wp2_with (first
    | (refine wl_box rfl 25 (.tmp 1) rfl (f.cells m) HV.out ?_
       intro w1 HA1 HB1 HZ1
       have hz1 : w.heap.size < w1.heap.size := by rw [HZ1.out]; omega)
    | (refine wl_load rfl 25 (.tmp 3) rfl w.heap.size rfl 25 _ _ HA1.out under25.choose_spec rfl size25 ?_
       intro vp HVP))
  have HF1 := Lib.hid ((HF.out.below HB1.out).more HB1.out.size)
  with_reducible refine (HRF.out w1 vp (Lib.hid (HVP.out.trans HV2.out)) HF1.out).mono ?_
  rintro e w2 ⟨rfl, HV2w⟩
  have HB2 := Lib.hid (HB1.out.trans (HV2w.out.mono HB1.out.size))
  have HA2 := Lib.hid (HA1.out.below HV2w.out hz1)
  have hz2 : w1.heap.size ≤ w2.heap.size := HV2w.out.size
  clear HV2w HVP HF1
  go_wp2_with (first
    | (refine wl_load rfl 25 (.tmp 3) rfl w.heap.size rfl 25 _ _ HA2.out under25.choose_spec rfl size25 ?_
       intro vq HVQ))
  have HF2 := Lib.hid ((HF.out.below HB2.out).more HB2.out.size)
  with_reducible refine (HC.out w2 vq HVQ.out HF2.out).mono ?_
  rintro e w3 ⟨A3, rfl, HV3⟩
  have HB3 := Lib.hid (HB2.out.trans (HV3.out.2.mono HB2.out.size))
  have HA3 := Lib.hid (HA2.out.below HV3.out.2 (by omega))
  have hz3 : w2.heap.size ≤ w3.heap.size := HV3.out.2.size
  have HC3 := Lib.hid HV3.out.1
  have c0 : w3.cell? ⟨w.heap.size, 0, none⟩ = some (.int .i64 f.kind) := HA3.out.cell 0
  clear HV3 HVQ HF2 HA1 HB1 HZ1 HA2
  obtain ⟨s, HS⟩ : ∃ s, H.Shut (ByteArray.mk #[98] ++ lay = s) := ⟨_, ⟨rfl⟩⟩
  have HSD : H.Shut (s.data.toList = 98 :: layL f.kind) := ⟨by rw [← HS.out, ← HLY.out, bytes_cat [98] (layL f.kind)]; rfl⟩
  have HSS : Hid (s.size = k + 1) := Lib.hid (by
    have h1 : s.size = s.data.toList.length := by simp
    rw [h1, HSD.out]
    simp [layL, HK.out])
  have HNE : Hid ((used f.kind).map (cellF f) ≠ [] ∧ ((used f.kind).map (cellF f)).length = k) := Lib.hid ⟨by simp; exact valid_used HVL.out, by simp [HK.out]⟩
  have HBX : Hid (Below w3.heap.size w3 (w3.alloc (.cells #[.int .i64 f.kind, .int .u64 0, .string ⟨#[]⟩] 89))) := Lib.hid (below_alloc w3 _)
  have HOX : Hid ((w3.alloc (.cells #[.int .i64 f.kind, .int .u64 0, .string ⟨#[]⟩] 89)).ownsRow w3.heap.size 89 3 (.slice (some ⟨w3.heap.size, 0, none⟩) 1 1) 1 (F.flatR [{ n := f.kind }])) := Lib.hid ⟨rfl, .inr ⟨w3.heap.size, 1, _, rfl, Nat.le_refl _, heap_alloc_last w3 _, Nat.le_refl _, by decide, rfl, rfl⟩⟩
  have HC4 : Hid (F.CsR (w3.alloc (.cells #[.int .i64 f.kind, .int .u64 0, .string ⟨#[]⟩] 89)) (w3.alloc (.cells #[.int .i64 f.kind, .int .u64 0, .string ⟨#[]⟩] 89)).heap.size A3 ((used f.kind).map (cellF f))) := Lib.hid (csr_more (HC3.out.keep HBX.out) HBX.out.size)
  have hsx : w3.heap.size ≤ (w3.alloc (.cells #[.int .i64 f.kind, .int .u64 0, .string ⟨#[]⟩] 89)).heap.size := HBX.out.size
  have hk1 : 1 + k ≤ 1000000 := by omega
  go_wp2_with (first
    | (refine wl_rcells rfl (.tmp 25) (.tmp 26) rfl w3.heap.size 1 k k (.slice (some ⟨w3.heap.size, 0, none⟩) 1 1) [{ n := f.kind }] ((used f.kind).map (cellF f)) A3 rfl rfl HNE.out.2 HNE.out.1 HC4.out HOX.out hk1 hsx ?_
       intro v5 w5 HA5))
  generalize w3.alloc (.cells #[.int .i64 f.kind, .int .u64 0, .string ⟨#[]⟩] 89) = w4 at *
  rw [HS.out]
  have HB45 : Hid (Below w3.heap.size w3 w5) := Lib.hid (HBX.out.grown HA5.out.2 hsx (fun j hj => (HOX.out.lt j hj).1))
  obtain ⟨A5, c5, rfl, _, hc5, HC5⟩ := F.own_rcells HA5.out.1
  have HC5' := Lib.hid HC5
  have HB5 := Lib.hid (HB3.out.trans (HB45.out.mono HB3.out.size))
  have hz5 : w3.heap.size ≤ w5.heap.size := HB45.out.size
  have HA5w := Lib.hid (HA3.out.below HB45.out (by omega))
  clear HA5 HBX HOX HC4 HC3 c0 HC5
  have e1k : 1 + k = s.size := by rw [HSS.out]; omega
  rw [e1k]
  have HRE := Lib.hid (F.rencode_known s c5 A5 ([{ n := f.kind }] ++ (used f.kind).map (cellF f)) w5 (by rw [HSD.out]; exact kn_body f.kind) (by rw [List.length_append, HNE.out.2, HSS.out]; simp; omega) HC5'.out (body_ok HF.out HKD.out) (by rw [HSS.out]; omega))
  with_reducible refine HRE.out.mono ?_
  rintro e w6 ⟨v6, j6, rfl, HV6⟩
  have HSU : H.Shut (F.sumS s.data.toList ([{ n := f.kind }] ++ (used f.kind).map (cellF f)) = .ok T2) := ⟨by rw [HSD.out]; have h := body_sum f HVL.out; rw [HTT.out] at h; exact h⟩
  have HEB : H.Shut (F.encB s.data.toList ([{ n := f.kind }] ++ (used f.kind).map (cellF f)) = bodyOf f) := ⟨by rw [HSD.out]; rfl⟩
  have HR6 : Hid (j6 = 0 ∧ w6.ownsRow w5.heap.size 5 1 v6 T2 ((bodyOf f).map bv) ∧ Below w5.heap.size w5 w6) := Lib.hid (by
    have h1 := HV6.out
    rw [HSU.out, HEB.out] at h1
    obtain ⟨⟨h2, h3⟩, h4⟩ := h1
    have hl : (bodyOf f).length = T2 := by rw [body_length f HVL.out, HTT.out]; omega
    rw [hl] at h3
    exact ⟨h2, h3, h4⟩)
  obtain ⟨A6, c6, rfl, hb6, hc6, hcm6, hr6, hq9⟩ := own_slice HR6.out.2.1
  have HRD6 := Lib.hid hr6
  have hcm6' : c6 ≤ 9223372036854775807 := hcm6
  have HL6 : Hid ((bodyOf f).length = T2) := Lib.hid hb6
  have HB6 := Lib.hid (HB5.out.trans (HR6.out.2.2.mono HB5.out.size))
  have hz6 : w5.heap.size ≤ w6.heap.size := HR6.out.2.2.size
  clear HV6 HRE HR6 hr6 hb6 hcm6 HC5'
  clear hq9
  go_wp2_with fail
  have HNU : Hid (Calls Tryd.prog 44 #[.int .u64 (T2 : Int), .int .i64 2] w6 fun e w' => e = .returned (.slice (some ⟨w6.heap.size, 0, none⟩) 2 2) ∧ Hid (w'.ownsRow w6.heap.size 5 1 (.slice (some ⟨w6.heap.size, 0, none⟩) 2 2) 2 ((F.be 2 T2).map bv) ∧ Below w6.heap.size w6 w')) := Lib.hid (F.rnumber_any T2 2 w6 (by decide) (by omega))
  with_reducible refine HNU.out.mono ?_
  rintro e w7 ⟨rfl, HV7⟩
  have HB7 := Lib.hid (HB6.out.trans (HV7.out.2.mono HB6.out.size))
  have HRD7 := Lib.hid ((HRD6.out.below HV7.out.2).more HV7.out.2.size)
  have HO7 := Lib.hid HV7.out.1
  have hz7 : w6.heap.size ≤ w7.heap.size := HV7.out.2.size
  clear HV7 HRD6
  go_wp2_with (first
    | (refine H.wl_append rfl (.tmp 34) (.tmp 35) rfl w6.heap.size (.slice (some ⟨w6.heap.size, 0, none⟩) 2 2) 2 ((F.be 2 T2).map bv) rfl HO7.out w7.heap.size A6 T2 c6 (bodyOf f) rfl HL6.out HRD7.out (by omega) hz7 ?_
       intro v8 w8 HA8))
  have HCV : H.Shut (F.be 2 T2 ++ bodyOf f = cov f) := ⟨by rw [cov_body, HTT.out]; congr 2; omega⟩
  have HO8 : Hid (w8.ownsRow w6.heap.size 5 1 v8 (2 + T2) ((cov f).map bv)) := Lib.hid (by rw [← HCV.out, List.map_append]; exact HA8.out.1)
  have HB78 : Hid (Below w6.heap.size w7 w8) := Lib.hid (((Below.refl _ w7).mono hz7).grown HA8.out.2 hz7 (fun j hj => (HO7.out.lt j hj).1))
  have HB8 := Lib.hid (HB7.out.trans (HB78.out.mono HB6.out.size))
  obtain ⟨A8, c8, rfl, hb8, hc8, hcm8, hr8, _⟩ := own_slice HO8.out
  have HRD8 := Lib.hid hr8
  have HL8 : Hid ((cov f).length = 2 + T2) := Lib.hid hb8
  have hz8 : w7.heap.size ≤ w8.heap.size := HB78.out.size
  have HT8 : Hid (Tab w8 w8.heap.size g) := Lib.hid ((HT.out.below HB8.out).more HB8.out.size)
  clear HA8 HO7 HRD7 hr8 hb8 HNU HB78
  go_wp2_with fail
  with_reducible refine (rdigest_any g (2 + T2) c8 A8 (cov f) w8 HT8.out HL8.out (by omega) HRD8.out).mono ?_
  rintro e w9 ⟨v9, rfl, HV9⟩
  obtain ⟨A9, c9, rfl, hb9, hc9, hcm9, hr9, _⟩ := own_slice HV9.out.1
  have HRD9 : Hid (Rd w9 w9.heap.size A9 (((digest (cov f)).take 4).map bv)) := Lib.hid (by rw [List.map_take]; exact hr9.take 4)
  have HL9 : Hid (((digest (cov f)).take 4).length = 4) := Lib.hid (by rw [List.length_take, digest_length]; rfl)
  have HO9 := Lib.hid (own_below HO8.out HV9.out.2)
  have HB9 := Lib.hid (HB8.out.trans (HV9.out.2.mono HB8.out.size))
  have hz9 : w8.heap.size ≤ w9.heap.size := HV9.out.2.size
  have h4c : 4 ≤ c9 := by omega
  clear HV9 hr9 hb9
  go_wp2_with (first
    | (refine H.wl_append rfl (.tmp 37) (.tmp 41) rfl w6.heap.size (.slice A8 (2 + T2) c8) (2 + T2) ((cov f).map bv) rfl HO9.out w9.heap.size A9 4 c9 ((digest (cov f)).take 4) rfl HL9.out HRD9.out (by omega) (by omega) ?_
       intro v10 w10 HA10))
  go_ret2
  refine ⟨v10, rfl, Lib.hid ⟨?_, ?_⟩⟩
  · have h1 := own_base HA10.out.1 (b2 := w.heap.size) HB6.out.size
    rw [← List.map_append] at h1
    have e : T2 + 2 + 4 = 2 + T2 + 4 := by omega
    rw [e]
    exact h1
  · exact HB9.out.grown HA10.out.2 (by omega) (fun j hj => Nat.le_trans HB6.out.size (HO9.out.lt j hj).1)
end Go.Proofs.YtmhfhdbaeijcfaaDoor

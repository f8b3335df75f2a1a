/- The law FrameGets: what Get answers is what the document's Get answers; the bytes stay; Put of the frame is the bytes. -/
import Derived.Test.YtmhfhdbaeijcfaaDoorRget
import Derived.Test.YtmhfhdbaeijcfaaDoorRkp
namespace Go.Proofs.YtmhfhdbaeijcfaaDoor
open Go.RowKit
open Go.Proofs.YtmhfhdbaeijcfaaDoor.H
theorem err_neq (a : Addr) (W : World) : (binOp .neq 28 (.iface 159 (.pointer (some a))) (.iface 159 (.pointer (some a)))).run Tryd.prog W = .ok (.bool false) W := by
  obtain ⟨i, hi, hcmp⟩ := Option.map_eq_some_iff.1 compErr
  obtain ⟨j, hj, _⟩ := Option.map_eq_some_iff.1 sizeErr
  simp only [binOp]
  simp [Op.equal, Op.maxDepth, run_equalIn_iface_ptr_same W 9998 a Tryd.underlying28 Tryd.underlying159 hi hcmp hj]
/-- What the document's Get answers, for all bytes. -/
theorem rget_any (g n c : Nat) (A : Option Addr) (bs : List UInt8) (w : World) (hT : Tab w w.heap.size g) (hn : bs.length = n) (hc : n ≤ c) (hcm : c ≤ 9223372036854775807) (hr : Rd w w.heap.size A (bs.map bv)) :
    Calls Tryd.prog 24 #[.pointer (some ⟨g, 0, none⟩), .slice A n c] w (RG bs w) := by
  by_cases h : n < 7 ∨ 1024 < n
  · exact rget_size g n c A bs w hn (by omega) h
  · obtain ⟨p, rfl⟩ : ∃ p, n = p + 4 := ⟨n - 4, by omega⟩
    rcases hr with h0 | ⟨b, rfl, hb, hcc⟩
    · have : bs = [] := by simpa using h0
      subst this
      simp at hn
    · exact rget_in g p c b bs w hT hn (by omega) (by omega) hc hcm (.inr ⟨b, rfl, hb, hcc⟩)
/-- What Get answers, as one contract. -/
theorem fgot_any (n c : Nat) (A : Option Addr) (bs : List UInt8) (E : Nat → Value) (te : TypeId) (pe : Value) (w : World) (hE : Env w E te pe) (hE5 : F.Errs w E) (hn : bs.length = n) (hc : n ≤ c) (hcm : c ≤ 9223372036854775807) (hr : Rd w w.heap.size A (bs.map bv)) :
    Calls Tryd.prog 21 #[.slice A n c] w fun e w' => ∃ (f : Fr) (v er : Value), e = .returned (.tuple #[v, er]) ∧ Hid (v = .agg (f.cells f.bs.length).toArray ∧ Below w.heap.size w w' ∧ f.ok w' w'.heap.size ∧ ((getB bs = none ∧ f = zf 0 ∧ er = .iface te pe) ∨ (getB bs = some f.pl ∧ er = .nilIface))) := by
  cases hg : getB bs with
  | none =>
    refine (get_none n c A bs E te pe w hE hE5 hn hc hcm hr hg).mono ?_
    rintro e w' ⟨h1, h2⟩
    exact ⟨zf 0, _, _, h1, Lib.hid ⟨rfl, h2.out, zf0_ok _ _, .inl ⟨rfl, rfl, rfl⟩⟩⟩
  | some f0 =>
    refine (get_some n c A bs E te pe w hE hE5 hn hc hcm hr f0 hg).mono ?_
    rintro e w' ⟨f, v, h1, h2⟩
    exact ⟨f, v, _, h1, Lib.hid ⟨h2.out.1, h2.out.2.2.2.1, h2.out.2.2.1, .inr ⟨by rw [h2.out.2.1], rfl⟩⟩⟩
set_option maxRecDepth 100000 in
set_option maxHeartbeats 4000000 in
theorem gets_any (n c : Nat) (A : Option Addr) (bs : List UInt8) (E : Nat → Value) (a : Addr) (w : World) (hE : Env w E 159 (.pointer (some a))) (hE5 : F.Errs w E) (hn : bs.length = n) (hbig : n ≤ 140737488351232) (hc : n ≤ c) (hcm : c ≤ 9223372036854775807) (hr : Rd w w.heap.size A (bs.map bv)) :
    Calls Tryd.prog 4 #[.slice A n c] w fun e w' => e = .returned (.bool true) ∧ Below w.heap.size w w' := by
  have HE := Lib.hid hE
  have HE5 := Lib.hid hE5
  have h20 := hE.size
  have HN := Lib.hid hn
  have HR := Lib.hid hr
  clear hE hE5 hn hr
  go_enter Tryd.func4, Tryd.ntmps4
  go_wp2_with fail
  with_reducible refine (alive_any E a w HE.out).mono ?_
  rintro e w1 ⟨rfl, HB1⟩
  have HR1 := Lib.hid ((HR.out.below HB1.out).more HB1.out.size)
  go_wp2_with fail
  with_reducible refine (bytes_any n c A bs w1 HN.out hbig HR1.out).mono ?_
  rintro e w2 ⟨X, cx, rfl, HV2⟩
  have hcx : n + 6 ≤ cx := HV2.out.1
  have hcxm : cx ≤ 9223372036854775807 := HV2.out.2.1
  have hz1 : w.heap.size ≤ w1.heap.size := HB1.out.size
  have hz2 : w1.heap.size ≤ w2.heap.size := HV2.out.2.2.2.size
  have HB2 := Lib.hid (HB1.out.trans (HV2.out.2.2.2.mono hz1))
  have HX2 := Lib.hid HV2.out.2.2.1
  have HXB : Hid (Rd w2 w2.heap.size X (bs.map bv)) := Lib.hid (by
    have h := HX2.out.take n
    rwa [← List.map_take, List.take_append_of_le_length (by rw [HN.out]; exact Nat.le_refl _), List.take_of_length_le (by rw [HN.out]; exact Nat.le_refl _)] at h)
  have HE2 := Lib.hid (HE.out.below h20 HB2.out)
  have HE52 := Lib.hid (HE5.out.below h20 HB2.out)
  clear HV2 HR1
  go_wp2_with fail
  with_reducible refine (fgot_any n cx X bs E 159 (.pointer (some a)) w2 HE2.out HE52.out HN.out (by omega) hcxm HXB.out).mono ?_
  rintro e w3 ⟨f, vf, er, rfl, HV3⟩
  have HVF : Hid (vf = .agg (f.cells f.bs.length).toArray) := Lib.hid HV3.out.1
  have hz3 : w2.heap.size ≤ w3.heap.size := HV3.out.2.1.size
  have HB3 := Lib.hid (HB2.out.trans (HV3.out.2.1.mono HB2.out.size))
  have HX3 := Lib.hid ((HX2.out.below HV3.out.2.1).more hz3)
  have HF3 : Hid (f.ok w3 w3.heap.size) := Lib.hid HV3.out.2.2.1
  have HCS := Lib.hid HV3.out.2.2.2
  have HLF : Hid ((Tryd.prog.info? 25).map (·.size) = some (f.cells f.bs.length).length) := Lib.hid size25
  clear HV3 HE2 HE52 HXB HX2
  go_wp2_with (first
    | (refine H.wl_allocAt rfl 25 rfl 4 rfl _ _ info25' ?_
       intro w4 HA4 HB4 HZ4
       have hz4 : w3.heap.size < w4.heap.size := by rw [HZ4.out]; omega)
    | (refine wl_store rfl 25 (.tmp 4) (.tmp 16) rfl w3.heap.size _ (f.cells f.bs.length) rfl HVF.out rfl 25 _ HA4.out HLF.out rfl (cells_ok f _) ?_
       intro w5 HR5 HS5 HZ5))
  have hb35 : Below w3.heap.size w3 w5 := HB4.out.trans (HS5.out.below (Nat.le_refl _) (by omega))
  have HB5 := Lib.hid (HB3.out.trans (hb35.mono HB3.out.size))
  have hz5 : w4.heap.size = w5.heap.size := HZ5.out.symm
  have HF5 := Lib.hid ((HF3.out.below hb35).more hb35.size)
  have HX5 := Lib.hid ((HX3.out.below hb35).more hb35.size)
  clear hb35 HA4 HB4 HZ4 HS5 HZ5 HX3 HF3 HVF
  with_reducible refine (new_any w5).mono ?_
  rintro e w6 ⟨g, rfl, HV6⟩
  have hz6 : w5.heap.size ≤ w6.heap.size := HV6.out.2.size
  have HB6 := Lib.hid (HB5.out.trans (HV6.out.2.mono HB5.out.size))
  have HT6 := Lib.hid HV6.out.1
  have HR6 := Lib.hid (HR5.out.below HV6.out.2 (by omega))
  have HF6 := Lib.hid ((HF5.out.below HV6.out.2).more hz6)
  have HX6 := Lib.hid ((HX5.out.below HV6.out.2).more hz6)
  have HA6 : Hid (Rd w6 w6.heap.size A (bs.map bv)) := Lib.hid ((HR.out.below HB6.out).more HB6.out.size)
  clear HV6 HR5 HF5 HX5
  go_wp2_with fail
  have HRG : Hid (Calls Tryd.prog 24 #[.pointer (some ⟨g, 0, none⟩), .slice A n c] w6 (RG bs w6)) := Lib.hid (rget_any g n c A bs w6 HT6.out HN.out hc hcm HA6.out)
  with_reducible refine HRG.out.mono ?_
  rintro e w7 ⟨G, rfl, HV7⟩
  have hz7 : w6.heap.size ≤ w7.heap.size := HV7.out.1.size
  have HB7 := Lib.hid (HB6.out.trans (HV7.out.1.mono HB6.out.size))
  have HR7 := Lib.hid (HR6.out.below HV7.out.1 (by omega))
  have HF7 := Lib.hid ((HF6.out.below HV7.out.1).more hz7)
  have HX7 := Lib.hid ((HX6.out.below HV7.out.1).more hz7)
  have HG7 : Hid (G.ok w7 w7.heap.size) := Lib.hid HV7.out.2.1
  have HGS := Lib.hid HV7.out.2.2
  obtain ⟨gv, HGV⟩ : ∃ gv, H.Shut (G.v = gv) := ⟨_, ⟨rfl⟩⟩
  rw [HGV.out]
  have HGA : Hid (gv = .agg (G.cells G.bs.length).toArray) := Lib.hid HGV.out.symm
  have HLG : Hid ((Tryd.prog.info? 25).map (·.size) = some (G.cells G.bs.length).length) := Lib.hid size25
  obtain ⟨ok, HOK⟩ : ∃ b, H.Shut ((getB bs).isSome = b) := ⟨_, ⟨rfl⟩⟩
  rw [HOK.out]
  clear HV7 HR6 HF6 HX6 HRG HT6 HA6
  have HSM : Hid (sameB f G = true) := Lib.hid (by
    rw [sameB_iff]
    rcases HCS.out with ⟨h1, h2, _⟩ | ⟨h1, _⟩
    · rcases HGS.out with ⟨_, h4⟩ | h4
      · rw [h2, h4]
      · rw [h1] at h4; cases h4
    · rcases HGS.out with ⟨h3, _⟩ | h4
      · rw [h1] at h3; cases h3
      · rw [h1] at h4; exact Option.some.inj h4)
  have HST : Hid (∀ (v u : Value) (w : World), Hid (v = .agg (f.cells f.bs.length).toArray) → Hid (u = .agg (G.cells G.bs.length).toArray) → f.ok w w.heap.size → G.ok w w.heap.size → Calls Tryd.prog 22 #[v, u] w fun e w' => e = .returned (.bool true) ∧ Hid (Below w.heap.size w w')) := Lib.hid (fun v u w hv hu hf hg => by
    have h := rsame_any f G v u w hv.out hu.out hf hg
    rw [HSM.out] at h
    exact h)
  have hcase : (er = .iface 159 (.pointer (some a)) ∧ ok = false) ∨ (er = .nilIface ∧ ok = true ∧ getB bs = some f.pl) := by
    rcases HCS.out with ⟨h1, _, h3⟩ | ⟨h1, h3⟩
    · exact .inl ⟨h3, by rw [← HOK.out, h1]; rfl⟩
    · exact .inr ⟨h3, by rw [← HOK.out, h1]; rfl, h1⟩
  clear HCS HGS HOK HSM
  rcases hcase with ⟨rfl, rfl⟩ | ⟨rfl, rfl, hgb⟩
  · have hne := err_neq a
    go_wp2_with (first
      | (refine H.wl_allocAt rfl 25 rfl 6 rfl _ _ info25' ?_
         intro w8 HA8 HB8 HZ8
         have hz8 : w7.heap.size < w8.heap.size := by rw [HZ8.out]; omega)
      | (refine wl_store rfl 25 (.tmp 6) (.tmp 22) rfl w7.heap.size _ (G.cells G.bs.length) rfl HGA.out rfl 25 _ HA8.out HLG.out rfl (cells_ok G _) ?_
         intro w9 HR9 HS9 HZ9
         have hz9 : w8.heap.size = w9.heap.size := HZ9.out.symm
         have hb79 : Below w7.heap.size w7 w9 := HB8.out.trans (HS9.out.below (Nat.le_refl _) (by omega))
         have HB9 := Lib.hid (HB7.out.trans (hb79.mono HB7.out.size))
         have HRf := Lib.hid (HR7.out.below hb79 (by omega))
         have HF9 := Lib.hid ((HF7.out.below hb79).more hb79.size)
         have HG9 := Lib.hid ((HG7.out.below hb79).more hb79.size)
         have HX9 := Lib.hid ((HX7.out.below hb79).more hb79.size)
         have ce : w9.cell? ⟨0, 0, none⟩ = some (.iface 159 (.pointer (some a))) := (HE.out.below h20 HB9.out).ef
         clear hb79)
      | (refine wl_loadF (by kernel_rfl) (.tmp 4) rfl w3.heap.size rfl _ HRf.out HLF.out ?_
         intro vq HVQ)
      | (refine wl_loadF (by kernel_rfl) (.tmp 6) rfl w7.heap.size rfl _ HR9.out HLG.out ?_
         intro vr HVR))
    with_reducible refine (HST.out vq vr w9 HVQ HVR HF9.out HG9.out).mono ?_
    rintro e w10 ⟨rfl, HBs⟩
    have HB10 := Lib.hid (HB9.out.trans (HBs.out.mono HB9.out.size))
    have HX10 := Lib.hid ((HX9.out.below HBs.out).more HBs.out.size)
    have HA10 : Hid (Rd w10 w10.heap.size A (bs.map bv)) := Lib.hid ((HR.out.below HB10.out).more HB10.out.size)
    clear HBs ce
    go_wp2_with fail
    with_reducible refine (kept_any n cx c X A bs w10 HN.out hbig hcx (by simpa only [maxLen] using hcxm) HX10.out HA10.out).mono ?_
    rintro e w11 ⟨rfl, hbk⟩
    go_wp2_with fail
    go_ret
    exact ⟨rfl, HB10.out.trans (hbk.mono HB10.out.size)⟩
  · go_wp2_with (first
      | (refine H.wl_allocAt rfl 25 rfl 6 rfl _ _ info25' ?_
         intro w8 HA8 HB8 HZ8
         have hz8 : w7.heap.size < w8.heap.size := by rw [HZ8.out]; omega)
      | (refine wl_store rfl 25 (.tmp 6) (.tmp 22) rfl w7.heap.size _ (G.cells G.bs.length) rfl HGA.out rfl 25 _ HA8.out HLG.out rfl (cells_ok G _) ?_
         intro w9 HR9 HS9 HZ9
         have hz9 : w8.heap.size = w9.heap.size := HZ9.out.symm
         have hb79 : Below w7.heap.size w7 w9 := HB8.out.trans (HS9.out.below (Nat.le_refl _) (by omega))
         have HB9 := Lib.hid (HB7.out.trans (hb79.mono HB7.out.size))
         have HRf := Lib.hid (HR7.out.below hb79 (by omega))
         have HF9 := Lib.hid ((HF7.out.below hb79).more hb79.size)
         have HG9 := Lib.hid ((HG7.out.below hb79).more hb79.size)
         have HX9 := Lib.hid ((HX7.out.below hb79).more hb79.size)
         have HE9 := Lib.hid (HE.out.below h20 HB9.out)
         clear hb79)
      | (refine wl_loadF (by kernel_rfl) (.tmp 4) rfl w3.heap.size rfl _ HRf.out HLF.out ?_
         intro vq HVQ)
      | (refine wl_loadF (by kernel_rfl) (.tmp 6) rfl w7.heap.size rfl _ HR9.out HLG.out ?_
         intro vr HVR))
    with_reducible refine (HST.out vq vr w9 HVQ HVR HF9.out HG9.out).mono ?_
    rintro e w10 ⟨rfl, HBs⟩
    have HB10 := Lib.hid (HB9.out.trans (HBs.out.mono HB9.out.size))
    have HX10 := Lib.hid ((HX9.out.below HBs.out).more HBs.out.size)
    have HA10 : Hid (Rd w10 w10.heap.size A (bs.map bv)) := Lib.hid ((HR.out.below HB10.out).more HB10.out.size)
    have HRf10 := Lib.hid (HRf.out.below HBs.out (by omega))
    have HF10 := Lib.hid ((HF9.out.below HBs.out).more HBs.out.size)
    have hz10 : w9.heap.size ≤ w10.heap.size := HBs.out.size
    clear HBs
    go_wp2_with fail
    with_reducible refine (kept_any n cx c X A bs w10 HN.out hbig hcx (by simpa only [maxLen] using hcxm) HX10.out HA10.out).mono ?_
    rintro e w11 ⟨rfl, hbk⟩
    have HB11 := Lib.hid (HB10.out.trans (hbk.mono HB10.out.size))
    have HRf11 := Lib.hid (HRf10.out.below hbk (by omega))
    have HF11 := Lib.hid ((HF10.out.below hbk).more hbk.size)
    have HE11 := Lib.hid (HE.out.below h20 HB11.out)
    obtain ⟨hvl, hpl, hft, hpb, h7, h1024⟩ := getB_some hgb
    rw [valid_pl] at hvl
    rw [putB_pl] at hpb
    have HVL := Lib.hid hvl
    have HPB : H.Shut (putB f = bs) := ⟨hpb⟩
    have HZ11 := Lib.hid hbk.size
    clear hgb hvl hpl hft hpb hbk
    go_wp2_with (first
      | (refine wl_load rfl 25 (.tmp 4) rfl w3.heap.size rfl 25 _ _ HRf11.out under25.choose_spec rfl size25 ?_
         intro vp HVP))
    have HVP2 : Hid (vp = f.v) := HVP
    with_reducible refine (put_ok f vp E 159 (.pointer (some a)) w11 HVP2 HE11.out HF11.out HVL.out).mono ?_
    rintro e w12 ⟨x, rfl, HV12⟩
    have HB12 := Lib.hid (HB11.out.trans (HV12.out.2.mono HB11.out.size))
    obtain ⟨XA, cX, rfl, hbX, _, _, hrX, _⟩ := own_slice HV12.out.1
    rw [HPB.out] at hrX hbX
    have hst1 : (convert 23 9 (.slice XA (total f + 4) cX)).run Tryd.prog w12 = .ok (.string ⟨bs.toArray⟩) w12 := hrX.toStr _ _ hbX
    have hst2 : (convert 23 9 (.slice A n c)).run Tryd.prog w12 = .ok (.string ⟨bs.toArray⟩) w12 := ((HR.out.below HB12.out).more HB12.out.size).toStr _ _ HN.out
    clear HV12 hrX hbX
    obtain ⟨S, HS⟩ : ∃ S, H.Shut ((⟨bs.toArray⟩ : ByteArray) = S) := ⟨_, ⟨rfl⟩⟩
    rw [HS.out] at hst1 hst2
    go_wp2_with fail
    go_ret
    exact ⟨rfl, HB12.out⟩
end Go.Proofs.YtmhfhdbaeijcfaaDoor

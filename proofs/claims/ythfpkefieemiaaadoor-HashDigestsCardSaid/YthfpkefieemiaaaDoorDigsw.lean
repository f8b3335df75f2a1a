/- The law HashDigests: Digest and Check of all parts are the document's; what is handed in stays. -/
import Derived.Test.YthfpkefieemiaaaDoorCops
import Derived.Test.YthfpkefieemiaaaDoorRkey
namespace Go.Proofs.YthfpkefieemiaaaDoor
open Go.RowKit

set_option maxRecDepth 100000 in
set_option maxHeartbeats 2000000 in
theorem digs_any (n c : Nat) (A : Option Addr) (ps : List Part) (w : World) (hK : Ktab w) (hn : ps.length = n) (hmax : n ≤ 9223372036854775807) (hr : Parts w w.heap.size A ps) :
    Calls Tryd.prog 3 #[.slice A n c] w fun e w' => e = .returned (.bool true) ∧ Below w.heap.size w w' := by
  have h0 := hK.1
  have HK := Lib.hid hK
  have HN := Lib.hid hn
  have HP := Lib.hid hr
  clear hK hn hr
  go_enter Tryd.func3, Tryd.ntmps3
  go_wp2_with fail
  with_reducible refine (alive_any w HK.out).mono ?_
  rintro e w1 ⟨rfl, HB1⟩
  have hsz1 : w.heap.size ≤ w1.heap.size := HB1.out.size
  go_wp2_with fail
  with_reducible refine (few_any n c A ps w1 HN.out hmax ((HP.out.below HB1.out).more hsz1)).mono ?_
  rintro e _ ⟨rfl, rfl⟩
  cases hfew : countP ps 0 with
  | false =>
    go_wp2_with fail
    go_ret
    exact ⟨rfl, HB1.out⟩
  | true =>
    have HSM := Lib.hid (countP_small ps 0 hfew)
    have hn2 : n ≤ 20000 := by have := HSM.out; have := HN.out; omega
    have HFL : Hid ((flat ps).length ≤ 20000) := Lib.hid (by have := HSM.out; omega)
    clear hfew
    have HCO : Shut (Cops w (w1.alloc (.cells #[] 25)) (.slice (some ⟨w1.heap.size, 0, none⟩) 0 0) ps 0) := ⟨⟨[], rfl, own_emptyP w1 w.heap.size hsz1, by simp, HB1.out.alloc hsz1 _⟩⟩
    go_wp2_with fail
    go_loopw [3, 19] (fun v i W => ∃ k : Nat, k ≤ n ∧ i = .int .i64 k ∧ Shut (Cops w W v ps k)) (fun _ i _ => n - (intOf i).toNat)
    case atStart => exact ⟨0, Nat.zero_le _, rfl, HCO⟩
    case round =>
      clear HCO
      obtain ⟨k, hk, rfl, HI⟩ := hrel
      have hbr : Below w.heap.size w wr := by obtain ⟨_, _, _, _, h⟩ := HI.out; exact h
      have hszr : w.heap.size ≤ wr.heap.size := hbr.size
      by_cases hlt : k < n
      · have hlt' : k < ps.length := by rw [HN.out]; exact hlt
        obtain ⟨ad, rfl, _, hc⟩ := (HP.out.below hbr).rd.cell (k := k) (u := (ps[k]).v) (by simp [hlt'])
        have hok := (HP.out.below hbr).ok ps[k] (List.getElem_mem hlt')
        have hget : ps[k]? = some ps[k] := List.getElem?_eq_getElem hlt'
        have hle := flat_le ps k hlt'
        generalize ps[k] = p at *
        have HGT := Lib.hid hget
        obtain ⟨m, HM⟩ : ∃ m, Hid (p.bs.length = m) := ⟨_, rfl⟩
        have hm2 : m ≤ 20000 := by have := HFL.out; have := HM.out; omega
        unfold Part.v at hc
        rw [HM.out] at hc
        have HOK := Lib.hid (hok.2.2.more hszr)
        clear hok hget hle
        have HBR := Lib.hid hbr
        clear hbr
        go_wp2_with fail
        with_reducible refine (bytes_own m p.c p.a p.bs wr HM.out (by omega) HOK.out).mono ?_
        rintro e w3 ⟨g3, c3, rfl, HV3⟩
        have HC3 : Shut (Cops w w3 u3 ps k) := ⟨HI.out.below HV3.out.2.2.2⟩
        have hsz3 : wr.heap.size ≤ w3.heap.size := HV3.out.2.2.2.size
        have HO3 : Shut (w3.ownsRow w.heap.size 5 1 (.slice (some ⟨g3, 0, none⟩) (p.bs.length + 6) c3) (p.bs.length + 6) ((p.bs ++ marks).map bv)) := ⟨by rw [HM.out]; exact own_base HV3.out.2.2.1 hszr⟩
        obtain ⟨qs, hq1, hq2, hq3, hq4⟩ := HC3.out
        have HQ2 := Lib.hid (And.intro hq1 hq2)
        clear hq1 hq2 hq3 hq4
        have hk9 : k ≤ 20000 := by omega
        go_wp2_with (first
          | (refine wl_appendP rfl (.tmp 23) (.tmp 26) rfl w.heap.size u3 k (qs.map Part.v) rfl (HQ2.out.2.alloc _) ⟨w3.heap.size, 0, none⟩ 1 1 [.slice (some ⟨g3, 0, none⟩) m c3] rfl rfl (cells_new w3 #[.slice (some ⟨g3, 0, none⟩) m c3] 25) (by simp [Value.oneCell']) (by omega) (by simp; omega) ?_
             intro v4 w4 HA4))
        have hba := below_alloc w3 (.cells #[.slice (some ⟨g3, 0, none⟩) m c3] 25)
        refine ⟨⟨k + 1, by omega, by go_num, ⟨?_⟩⟩, by simp [intOf]; omega⟩
        have hcc : Cops w (w3.alloc (.cells #[.slice (some ⟨g3, 0, none⟩) m c3] 25)) u3 ps k := HC3.out.below hba
        have hne : ∀ rs : List Part, rs.length = k → (w3.alloc (.cells #[.slice (some ⟨g3, 0, none⟩) m c3] 25)).ownsRow w.heap.size 25 1 u3 k (rs.map Part.v) → w4.ownsRow w.heap.size 25 1 v4 (k + 1) (rs.map Part.v ++ [.slice (some ⟨g3, 0, none⟩) p.bs.length c3]) := fun rs h1 h2 => by
          have e : rs.map Part.v = qs.map Part.v := own_same h2 (HQ2.out.2.alloc _)
          rw [e, HM.out]
          exact HA4.out.1
        exact hcc.next HGT.out (by rw [HM.out]; exact HV3.out.1) HV3.out.2.1 (own_below HO3.out hba) HA4.out.2 hne
      · have hkn : k = n := by omega
        subst hkn
        have HCW : Shut (Cops w wr u3 ps ps.length) := ⟨by rw [HN.out]; exact HI.out⟩
        obtain ⟨A3, c3, qs, rfl, hq1, hq2, hq3, hq4, hq5, hq6⟩ := HCW.out.parts
        rw [HN.out] at hq1 hq2 ⊢
        have HQ := Lib.hid (And.intro hq1 (And.intro hq4 hq5))
        have HQC : Shut (∀ (j : Nat) (q p : Part), qs[j]? = some q → ps[j]? = some p → Cop wr w.heap.size q p) := ⟨hq6⟩
        have HBR := Lib.hid hbr
        clear hq1 hq4 hq5 hq6 hbr HI HCW
        have HFT : Hid ((flat qs).length < 1152921504606846976) := Lib.hid (by rw [HQ.out.2.1]; have := HFL.out; omega)
        obtain ⟨Z, HZ⟩ : ∃ Z, Shut (Z = flat ps) := ⟨_, ⟨rfl⟩⟩
        have HFZ : Shut (flat qs = Z) := ⟨by rw [HZ.out]; exact HQ.out.2.1⟩
        go_wp2_with fail
        with_reducible refine (digest_any k c3 A3 qs wr (HK.out.below h0 HBR.out) HQ.out.1 (by omega) HFT.out HQ.out.2.2).mono ?_
        rintro e w2 ⟨v2, rfl, HV2⟩
        obtain ⟨D, HD, HLD⟩ := dig_facts Z
        have HVD : Hid (v2 = .agg D.toArray) := Lib.hid (by rw [HD.out, ← HFZ.out]; exact HV2.out.1)
        have HB2 := Lib.hid (HBR.out.trans (HV2.out.2.mono hszr))
        have hsz2 : w.heap.size ≤ w2.heap.size := HB2.out.size
        have hszr2 : wr.heap.size ≤ w2.heap.size := HV2.out.2.size
        have HP2 := Lib.hid ((HQ.out.2.2.below HV2.out.2).more HV2.out.2.size)
        go_wp2_with fail
        with_reducible refine (check_any k c3 A3 qs w2 (HK.out.below h0 HB2.out) HQ.out.1 (by omega) HFT.out HP2.out).mono ?_
        rintro e w3 ⟨v3, rfl, HV3⟩
        obtain ⟨F, HF⟩ : ∃ F, Shut (F = ((digest Z).take 4).map bv) := ⟨_, ⟨rfl⟩⟩
        have HVF : Hid (v3 = .agg F.toArray) := Lib.hid (by rw [HF.out, ← HFZ.out]; exact HV3.out.1)
        have HLF : Shut ((Tryd.prog.info? 29).map (·.size) = some F.length ∧ (List.replicate 4 (Value.int .u8 0)).length = F.length ∧ F.length = 4 ∧ ∀ v ∈ F, v.oneCell' = true) := ⟨by
          have h1 : F.length = 4 := by rw [HF.out, List.length_map, List.length_take, digest_length]; rfl
          exact ⟨by rw [h1]; exact info_size info29, by rw [h1]; exact List.length_replicate, h1, by rw [HF.out]; exact bytes_one _⟩⟩
        have hb3 := HV2.out.2.trans (HV3.out.2.mono hszr2)
        have HBR3 := Lib.hid hb3
        have HB3 := Lib.hid (HBR.out.trans (hb3.mono hszr))
        have hsz3 : w.heap.size ≤ w3.heap.size := HB3.out.size
        have hszr3 : wr.heap.size ≤ w3.heap.size := hb3.size
        clear HV2 HV3 HP2 hb3
        go_wp2_with (first
          | (refine wl_alloc rfl 27 rfl _ _ info27 ?_
             intro w4 HA4 HB4 HZ4)
          | (refine wl_alloc rfl 29 rfl _ _ info29 ?_
             intro w5 HA5 HB5 HZ5
             have hz4 : w3.heap.size < w4.heap.size := by rw [HZ4.out]; omega
             have hz5 : w4.heap.size < w5.heap.size := by rw [HZ5.out]; omega
             have HA45 := Lib.hid (HA4.out.below HB5.out hz4))
          | (refine wl_store rfl 27 (.tmp 6) (.tmp 30) rfl w3.heap.size _ D rfl HVD.out rfl 27 _ HA45.out HLD.out.1 HLD.out.2.1 HLD.out.2.2.2 ?_
             intro w6 HR6 HS6 HZ6
             have HA56 := Lib.hid (HS6.out.row HA5.out (by omega)))
          | (refine wl_store rfl 29 (.tmp 7) (.tmp 32) rfl w4.heap.size _ F rfl HVF.out rfl 29 _ HA56.out HLF.out.1 HLF.out.2.1 HLF.out.2.2.2 ?_
             intro w7 HR7 HS7 HZ7))
        have hz6 : w5.heap.size ≤ w6.heap.size := by rw [HZ6.out]; exact Nat.le_refl _
        have hz7 : w6.heap.size ≤ w7.heap.size := by rw [HZ7.out]; exact Nat.le_refl _
        have HD7 := Lib.hid (HS7.out.row HR6.out (by omega))
        have hb35 : Below w3.heap.size w3 w5 := HB4.out.trans (HB5.out.mono (by omega))
        have hb37 : Below w3.heap.size w3 w7 := (hb35.trans (HS6.out.below (Nat.le_refl _) (by omega))).trans (HS7.out.below (by omega) (by omega))
        have HBR7 := Lib.hid (HBR3.out.trans (hb37.mono hszr3))
        have HB7 := Lib.hid (HBR.out.trans (HBR7.out.mono hszr))
        have hsz7 : w.heap.size ≤ w7.heap.size := HB7.out.size
        have hszr7 : wr.heap.size ≤ w7.heap.size := HBR7.out.size
        have HF7 : Hid (Row w7 w4.heap.size 29 F) := HR7
        generalize hgd : w3.heap.size = gd at *
        generalize hgf : w4.heap.size = gf at *
        clear HA4 HB4 HZ4 HA5 HB5 HZ5 HR6 HS6 HZ6 HR7 HS7 HZ7 HA45 HA56 hb35 hb37 hgd hgf HB3 HBR3 hz4 hz5 hz6 hz7
        with_reducible refine (new_any w7).mono ?_
        rintro e w8 ⟨g8, rfl, HV8⟩
        have HB8 := Lib.hid (HB7.out.trans (HV8.out.2.mono hsz7))
        have hsz8 : w.heap.size ≤ w8.heap.size := HB8.out.size
        have hsz78 : w7.heap.size ≤ w8.heap.size := HV8.out.2.size
        go_wp2_with fail
        with_reducible refine (join_any k c A ps w8 HN.out hmax HFL.out ((HP.out.below HB8.out).more hsz8)).mono ?_
        rintro e w9 ⟨v9, rfl, HV9⟩
        obtain ⟨A9, c9, rfl, hl9, _, _, hr9, _⟩ := own_slice HV9.out.1
        have hsz89 : w8.heap.size ≤ w9.heap.size := HV9.out.2.size
        have HR9 := Lib.hid hr9
        have HB79 := Lib.hid (HV8.out.2.trans (HV9.out.2.mono hsz78))
        clear hl9 hr9
        go_wp2_with fail
        with_reducible refine (rdigest_any g8 (flat ps).length c9 A9 (flat ps) w9 ((HV8.out.1.below HV9.out.2).more HV9.out.2.size) rfl (by have := HFL.out; omega) HR9.out).mono ?_
        rintro e wa ⟨va, rfl, HVa⟩
        rw [← HZ.out] at HVa
        obtain ⟨Aa, ca, rfl, hla, hca, hcam, hra, _⟩ := own_slice HVa.out.1
        have hca' : ca ≤ 9223372036854775807 := hcam
        have HB7a := Lib.hid (HB79.out.trans (HVa.out.2.mono (by omega)))
        have HRa := Lib.hid hra
        have hsz7a : w7.heap.size ≤ wa.heap.size := HB7a.out.size
        have HCa : Shut (∀ (j : Nat) (q p : Part), qs[j]? = some q → ps[j]? = some p → Cop wa w.heap.size q p) := ⟨fun j q p hq hp => (HQC.out j q p hq hp).below (HBR7.out.trans (HB7a.out.mono hszr7))⟩
        have HQa : Hid (Parts wa wa.heap.size A3 qs) := Lib.hid ((HQ.out.2.2.below (HBR7.out.trans (HB7a.out.mono hszr7))).more (by omega))
        have HBa := Lib.hid (HB7.out.trans (HB7a.out.mono hsz7))
        have hsza : w.heap.size ≤ wa.heap.size := HBa.out.size
        have HPa : Hid (Parts wa wa.heap.size A ps) := Lib.hid ((HP.out.below HBa.out).more hsza)
        have HSa : Shut (Row wa gd 27 D ∧ Row wa gf 29 F) := ⟨HD7.out.below HB7a.out HD7.out.lt, HF7.out.below HB7a.out HF7.out.lt⟩
        have HQL := Lib.hid HQ.out.1
        clear HVa HV8 HV9 HB79 HB7a hra hcam HD7 HF7 HQC HB8 HB7 HBR7 HB2 HQ HBR hszr hszr2 hszr3 hszr7
        go_wp2_with fail
        go_loopw [39] (fun i W => ∃ j : Nat, j ≤ k ∧ i = .int .i64 j ∧ Shut (Below wa.heap.size wa W)) (fun i _ => k - (intOf i).toNat)
        case atStart => exact ⟨0, Nat.zero_le _, rfl, ⟨Below.refl _ _⟩⟩
        case round =>
          obtain ⟨j, hj, rfl, HJ⟩ := hrel
          have hszj := HJ.out.size
          by_cases hlt2 : j < k
          · have hj1 : j < ps.length := by rw [HN.out]; exact hlt2
            have hj2 : j < qs.length := by rw [HQL.out]; exact hlt2
            obtain ⟨ad, rfl, _, hc⟩ := (HPa.out.below HJ.out).rd.cell (k := j) (u := (ps[j]).v) (by simp [hj1])
            obtain ⟨ad3, rfl, _, hc3⟩ := (HQa.out.below HJ.out).rd.cell (k := j) (u := (qs[j]).v) (by simp [hj2])
            have hok := (HPa.out.below HJ.out).ok ps[j] (List.getElem_mem hj1)
            have hcop := (HCa.out j qs[j] ps[j] (List.getElem?_eq_getElem hj2) (List.getElem?_eq_getElem hj1)).below HJ.out
            have hle := flat_le ps j hj1
            generalize ps[j] = p at *
            generalize qs[j] = q at *
            obtain ⟨e1, e2, e3, e4⟩ := hcop.rd
            unfold Part.v at hc hc3
            rw [e1] at hc3
            obtain ⟨m, HM⟩ : ∃ m, Hid (p.bs.length = m) := ⟨_, rfl⟩
            have hm2 : m ≤ 20000 := by have := HFL.out; have := HM.out; omega
            rw [HM.out] at hc hc3 e2
            have HE := Lib.hid (And.intro e4 (hok.2.2.more hszj))
            have e3' : q.c ≤ maxLen := e3
            clear hle hok hcop e1 e4
            go_wp2_with fail
            with_reducible refine (kept_any m q.c p.c q.a p.a p.bs _ HM.out (by omega) e2 e3' HE.out.1 HE.out.2).mono ?_
            rintro e wb ⟨rfl, HBb⟩
            have HBW := Lib.hid (HJ.out.trans (HBb.mono hszj))
            clear HBb
            go_wp2_with fail
            exact ⟨⟨j + 1, by omega, by go_num, ⟨HBW.out⟩⟩, by simp [intOf]; omega⟩
          · have HS9 : Shut (Row wr gd 27 D ∧ Row wr gf 29 F ∧ Rd wr wr.heap.size Aa ((digest Z).map bv)) := ⟨HSa.out.1.below HJ.out HSa.out.1.lt, HSa.out.2.below HJ.out HSa.out.2.lt, (HRa.out.below HJ.out).more hszj⟩
            have hl4 : ((digest Z).take 4).length = 4 := by rw [List.length_take, digest_length]; rfl
            have hst1 := fun m : Nat => Rd.toStr (bs := digest Z) (w := wr.drewN m) (B := wr.heap.size) (A := some ⟨gd, 0, none⟩) (by rw [← HD.out]; exact (HS9.out.1.rd _ HS9.out.1.lt).drewN m) 32 32 (digest_length Z)
            have hst2 := fun m : Nat => Rd.toStr (bs := (digest Z).take 4) (w := wr.drewN m) (B := wr.heap.size) (A := some ⟨gf, 0, none⟩) (by rw [← HF.out]; exact (HS9.out.2.1.rd _ HS9.out.2.1.lt).drewN m) 4 4 hl4
            have hst3 := fun m : Nat => Rd.toStr (bs := digest Z) (w := wr.drewN m) (B := wr.heap.size) (A := Aa) (HS9.out.2.2.drewN m) 32 ca (digest_length Z)
            have hst4 := fun m : Nat => Rd.toStr (bs := (digest Z).take 4) (w := wr.drewN m) (B := wr.heap.size) (A := Aa) (by rw [List.map_take]; exact (HS9.out.2.2.take 4).drewN m) 4 ca hl4
            obtain ⟨t1, HT1⟩ : ∃ t, Shut (ByteArray.mk (digest Z).toArray = t) := ⟨_, ⟨rfl⟩⟩
            obtain ⟨t2, HT2⟩ : ∃ t, Shut (ByteArray.mk ((digest Z).take 4).toArray = t) := ⟨_, ⟨rfl⟩⟩
            rw [HT1.out] at hst1 hst3
            rw [HT2.out] at hst2 hst4
            have hsl1 := fun w' : World => run_all w' 27 32 under27 gd 0
            have hsl2 := fun w' : World => run_all w' 29 4 under29 gf 0
            have HBF := Lib.hid (HBa.out.trans (HJ.out.mono hsza))
            clear HS9 HSa HCa HQa HPa HJ hl4
            go_wp2_with fail
            go_quiet (fail)
            clear hst1 hst2 hst3 hst4 hsl1 hsl2
            go_wp2_with fail
            go_ret
            exact ⟨rfl, below_drewN HBF.out _⟩
end Go.Proofs.YthfpkefieemiaaaDoor

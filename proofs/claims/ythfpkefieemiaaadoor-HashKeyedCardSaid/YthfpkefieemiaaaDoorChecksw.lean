/- The law HashChecks: the check is the digest's beginning; empty parts change nothing. -/
import Derived.Test.YthfpkefieemiaaaDoorLongw
namespace Go.Proofs.YthfpkefieemiaaaDoor
open Go.RowKit

theorem sl_info : (Tryd.prog.info? 25).map (fun i => (i.zero, i.size, i.bytes)) = some (some (.slice none 0 0), 1, 24) := by kernel_rfl
/-- Parts appended to a row of our own. -/
theorem run_appendP (w : World) (base : Nat) (v : Value) (n : Nat) (xs : List Value) (hown : w.ownsRow base 25 1 v n xs) (ad : Addr) (m c : Nat) (cs : List Value) (hm : cs.length = m)
    (hc : ∀ (j : Nat) (u : Value), cs[j]? = some u → w.cell? (ad.add j) = some u) (h1 : ∀ u ∈ cs, u.oneCell' = true) (hb : n + m ≤ 1000000) (hbase : base ≤ w.heap.size) (ty : TypeId) :
    ∃ v' w', (Builtin.append_ #[22, 22] ty #[v, .slice (some ad) m c]).run Tryd.prog w = .ok v' w' ∧ w'.ownsRow base 25 1 v' (n + m) (xs ++ cs) ∧ w.grownBy w' v.ownBlock := by
  obtain ⟨i0, hi0, hz0, hz1, hz2⟩ := info_parts' sl_info
  obtain ⟨v', w', hrun, h2, h3, _, _⟩ := run_append_own_at (P := Tryd.prog) w base 22 ty 25 i0 _ 1 24 Tryd.underlying22 hi0 hz0 hz1 hz2 rfl (by omega) v n xs hown ad m c cs (by omega) hc h1 (by simp only [maxLen]; omega) (by omega) hbase
  exact ⟨v', w', hrun, h2, h3⟩
theorem wl_appendP {w : World} {ops : Array Oper} {rest : List Oper} {o : Oper} {a : Act} {Q : Exit → Act → World → Prop} (hgd : o.guard = none) (t x : Operand)
    (ho : o.op = .call { callee := .builtin .append, args := #[t, x], argTypes := #[22, 22] }) (base : Nat) (v : Value) (n : Nat) (xs : List Value) (hs : a.eval t = v) (hown : w.ownsRow base 25 1 v n xs)
    (ad : Addr) (m c : Nat) (cs : List Value) (hx : a.eval x = .slice (some ad) m c) (hm : cs.length = m) (hc : ∀ (j : Nat) (u : Value), cs[j]? = some u → w.cell? (ad.add j) = some u) (h1 : ∀ u ∈ cs, u.oneCell' = true)
    (hb : n + m ≤ 1000000) (hbase : base ≤ w.heap.size)
    (h : ∀ v' w', Hid (w'.ownsRow base 25 1 v' (n + m) (xs ++ cs) ∧ w.grownBy w' v.ownBlock) → wpList Tryd.prog ops Q rest (a.put o.dst v') w') : wpList Tryd.prog ops Q (o :: rest) a w := by
  refine wpList_plain hgd fun K hK => ?_
  obtain ⟨v', w', hr2, h2, h3⟩ := run_appendP w base v n xs hown ad m c cs hm hc h1 hb hbase o.type
  unfold Oper.wp execOp
  simp only [ho, resolve, invoke, builtin, Sem.run_bind, Sem.run_pure, Result.andThen_ok, List.map_toArray, List.map_cons, List.map_nil, hs, hx, hr2]
  exact hK _ _ (h v' w' ⟨h2, h3⟩)
theorem own_one (w : World) (base : Nat) (v : Value) (h : base ≤ w.heap.size) : (w.alloc (.cells #[v] 25)).ownsRow base 25 1 (.slice (some ⟨w.heap.size, 0, none⟩) 1 1) 1 [v] :=
  ⟨rfl, .inr ⟨w.heap.size, 1, #[v], rfl, h, heap_alloc_last w _, Nat.le_refl _, by decide, rfl, rfl⟩⟩
theorem own_sliceP {w : World} {base : Nat} {v : Value} {n : Nat} {cs : List Value} (h : w.ownsRow base 25 1 v n cs) (hn : 0 < n) : ∃ g c, v = .slice (some ⟨g, 0, none⟩) n c ∧ cs.length = n ∧ n ≤ c ∧ c ≤ 9223372036854775807 ∧ g < w.heap.size ∧ base ≤ g ∧
    (∀ (j : Nat) (u : Value), cs[j]? = some u → w.cell? ((⟨g, 0, none⟩ : Addr).add j) = some u) := by
  have hl : cs.length = n := by simpa using h.1
  rcases h.2 with ⟨_, h0⟩ | ⟨g, cap, cur, rfl, hb, hg, hnc, hcm, _⟩
  · omega
  · refine ⟨g, cap, rfl, hl, hnc, hcm, ?_, hb, h.cells (g := g) rfl⟩
    rcases Nat.lt_or_ge g w.heap.size with hlt | hge
    · exact hlt
    · rw [Array.getElem?_eq_none hge] at hg; cases hg
theorem part_one (p : Part) : p.v.oneCell' = true := rfl
theorem parts_one (ps : List Part) : ∀ v ∈ ps.map Part.v, v.oneCell' = true := by intro v hv; obtain ⟨p, _, rfl⟩ := List.mem_map.1 hv; rfl

/-- v is a slice of our own with parts that make the bytes bs. -/
def OwnP (w0 W : World) (v : Value) (n : Nat) (bs : List UInt8) : Prop :=
  ∃ ps : List Part, ps.length = n ∧ W.ownsRow w0.heap.size 25 1 v n (ps.map Part.v) ∧ flat ps = bs ∧ (∀ p ∈ ps, p.ok W w0.heap.size) ∧ Below w0.heap.size w0 W
theorem ok_nil (w : World) (B : Nat) (a : Option Addr) : Part.ok w B ⟨a, 0, []⟩ := ⟨Nat.le_refl _, by show 0 ≤ _; decide, .inl rfl⟩
theorem ok_below {w w' : World} {B : Nat} {p : Part} (h : p.ok w B) (hb : Below B w w') : p.ok w' B := ⟨h.1, h.2.1, h.2.2.below hb⟩
theorem OwnP.parts {w0 W : World} {v : Value} {n : Nat} {bs : List UInt8} (h : OwnP w0 W v n bs) (hn : 0 < n) : ∃ g c ps, v = .slice (some ⟨g, 0, none⟩) n c ∧ ps.length = n ∧ flat ps = bs ∧ Parts W W.heap.size (some ⟨g, 0, none⟩) ps := by
  obtain ⟨ps, h1, h2, h3, h4, h5⟩ := h
  obtain ⟨g, c, rfl, hl, _, _, hg, _, hc⟩ := own_sliceP h2 hn
  exact ⟨g, c, ps, rfl, h1, h3, ⟨.inr ⟨_, rfl, hg, hc⟩, fun p hp => ⟨(h4 p hp).1, (h4 p hp).2.1, (h4 p hp).2.2.more h5.size⟩⟩⟩

theorem step_load {ops : Array Oper} {o : Oper} {a : Act} {w : World} {K : Act → World → Prop} {Q : Exit → Act → World → Prop} {E : Prop} (hgd : o.guard = none) (ty : TypeId) (x : Operand) (ho : o.op = .load ty x)
    (b off : Nat) (hx : a.eval x = .pointer (some ⟨b, off, none⟩)) (cs : List Value) (d : TypeDesc) (hc : w.rangeAt b off cs) (hu : Tryd.prog.underlying ty = some d) (hd : d.isRow = true) (hi : (Tryd.prog.info? ty).map (·.size) = some cs.length)
    (h : K (a.put o.dst (.agg cs.toArray)) w) : if Region.wanted o (yielded ops a.tmps) = true then Oper.wp Tryd.prog o a w K Q else E := by
  have hw : Region.wanted o (yielded ops a.tmps) = true := by simp [Region.wanted, hgd]
  rw [if_pos hw]
  exact wp_load_mid ty x ho b off hx cs d hc hu hd hi h

set_option maxHeartbeats 1000000 in
theorem checks_any (n c : Nat) (z : Int) (A : Option Addr) (bs : List UInt8) (w : World) (hK : Ktab w) (hn : bs.length = n) (hc : n ≤ c) (hcm : c ≤ 9223372036854775807) (hz0 : -9223372036854775808 ≤ z) (hz1 : z ≤ 9223372036854775807) (hr : Rd w w.heap.size A (bs.map bv)) :
    Calls Tryd.prog 8 #[.slice A n c, .int .i64 z] w fun e w' => e = .returned (.bool true) ∧ Below w.heap.size w w' := by
  have h0 := hK.1
  have HK := Lib.hid hK
  have HN := Lib.hid hn
  have HR := Lib.hid hr
  clear hK hn hr
  obtain ⟨q, hq5, hq⟩ : ∃ q : Nat, q < 5 ∧ wrap64 ((IntKind.u64.wrap z).tmod 5) = (q : Int) := by
    have e1 : (IntKind.u64.wrap z).tmod 5 = IntKind.u64.wrap z % 5 := Int.tmod_eq_emod_of_nonneg (by rw [IntKind.wrap_u64]; omega)
    rw [e1, IntKind.wrap_u64]
    refine ⟨(z % 18446744073709551616 % 5).toNat, by omega, ?_⟩
    unfold wrap64
    omega
  go_enter Tryd.func8, Tryd.ntmps8
  go_wp2_with fail
  with_reducible refine (alive_any w HK.out).mono ?_
  rintro e w1 ⟨rfl, HB1⟩
  by_cases hbig : 5000 < n
  · go_wp2_with fail
    go_ret
    exact ⟨rfl, HB1.out⟩
  have hsz1 : w.heap.size ≤ w1.heap.size := HB1.out.size
  have HOP : Shut (OwnP w (w1.alloc (.cells #[.slice A n c] 25)) (.slice (some ⟨w1.heap.size, 0, none⟩) 1 1) (2 * 0 + 1) bs) := ⟨by
    have hb := HB1.out.alloc hsz1 (.cells #[.slice A n c] 25)
    refine ⟨[⟨A, c, bs⟩], rfl, ?_, flat_one _ _ _, ?_, hb⟩
    · have h1 := own_one w1 w.heap.size (.slice A n c) hsz1
      have e1 : ([⟨A, c, bs⟩] : List Part).map Part.v = [.slice A n c] := by simp [Part.v, HN.out]
      rw [e1]
      exact h1
    · intro p hp
      simp at hp
      subst hp
      exact ⟨by show bs.length ≤ c; rw [HN.out]; exact hc, hcm, HR.out.below hb⟩⟩
  have HQ := Lib.hid hq
  clear hq
  go_wp2_with fail
  simp only [HQ.out]
  go_loopw [5, 19] (fun v i W => ∃ k : Nat, k ≤ q ∧ i = .int .i64 k ∧ Shut (OwnP w W v (2 * k + 1) bs)) (fun _ i _ => q - (intOf i).toNat)
  case atStart => exact ⟨0, Nat.zero_le _, rfl, HOP⟩
  case round =>
    clear HOP
    obtain ⟨k, hk, rfl, HI⟩ := hrel
    obtain ⟨ps, hp1, hp2, hp3, hp4, hp5⟩ := HI.out
    have hszr : w.heap.size ≤ wr.heap.size := hp5.size
    by_cases hlt : k < q
    · obtain ⟨g, cg, rfl, hl, hcg, hcm2, hgl, hgb, hcl⟩ := own_sliceP hp2 (by omega)
      have HPS := Lib.hid (And.intro hp1 (And.intro hp3 (And.intro hp4 (And.intro hl hcl))))
      have HB2 := Lib.hid (hp5.alloc hszr (.cells #[.slice none 0 0] 25))
      have HO2 := Lib.hid (own_one wr w.heap.size (.slice none 0 0) hszr)
      have HCL2 : Hid (∀ (j : Nat) (u : Value), (ps.map Part.v)[j]? = some u → (wr.alloc (.cells #[.slice none 0 0] 25)).cell? ((⟨g, 0, none⟩ : Addr).add j) = some u) := Lib.hid (fun j u hj => by
        rw [← hcl j u hj]
        exact (below_alloc wr _).cell (by rw [Addr.add_mid]; exact hgl))
      clear hp1 hp2 hp3 hp4 hl hcl HI
      go_wp2_with (first
        | (refine wl_appendP rfl (.tmp 21) (.tmp 22) rfl w.heap.size _ 1 [.slice none 0 0] rfl HO2.out ⟨g, 0, none⟩ (2 * k + 1) cg (ps.map Part.v) rfl HPS.out.2.2.2.1 HCL2.out (parts_one ps) (by omega) HB2.out.size ?_
           intro v3 w3 HA3
           have HB3 := Lib.hid (HB2.out.grown HA3.out.2 HB2.out.size (fun j hj => by have e : wr.heap.size = j := Option.some.inj hj; omega))
           have hsz3 : w.heap.size ≤ w3.heap.size := HB3.out.size
           have HB4 := Lib.hid ((HB3.out.alloc hsz3 (.cells #[] 5)).alloc (by simp; omega) (.cells #[.slice (some ⟨w3.heap.size, 0, none⟩) 0 0] 25))
           have HO4 := Lib.hid ((HA3.out.1.alloc (.cells #[] 5)).alloc (.cells #[.slice (some ⟨w3.heap.size, 0, none⟩) 0 0] 25)))
        | (refine wl_appendP rfl (.tmp 23) (.tmp 25) rfl w.heap.size v3 (1 + (2 * k + 1)) ([.slice none 0 0] ++ ps.map Part.v) rfl HO4.out ⟨w3.heap.size + 1, 0, none⟩ 1 1 [.slice (some ⟨w3.heap.size, 0, none⟩) 0 0] rfl rfl (by simpa using cells_new (w3.alloc (.cells #[] 5)) #[.slice (some ⟨w3.heap.size, 0, none⟩) 0 0] 25) (by simp [Value.oneCell']) (by omega) HB4.out.size ?_
           intro v5 w5 HA5
           have HB5 := Lib.hid (HB4.out.grown HA5.out.2 HB4.out.size (fun j hj => (HA3.out.1.lt j hj).1))))
      refine ⟨⟨k + 1, by omega, by go_num, ⟨⟨⟨none, 0, []⟩ :: (ps ++ [⟨some ⟨w3.heap.size, 0, none⟩, 0, []⟩]), ?_, ?_, ?_, ?_, HB5.out⟩⟩⟩, by simp [intOf]; omega⟩
      · simp [HPS.out.1]; omega
      · have h1 := HA5.out.1
        have e1 : (⟨none, 0, []⟩ :: (ps ++ [⟨some ⟨w3.heap.size, 0, none⟩, 0, []⟩]) : List Part).map Part.v = ([.slice none 0 0] ++ ps.map Part.v) ++ [.slice (some ⟨w3.heap.size, 0, none⟩) 0 0] := by simp [Part.v]
        have e2 : 1 + (2 * k + 1) + 1 = 2 * (k + 1) + 1 := by omega
        rw [e1, ← e2]
        exact h1
      · have h1 := HPS.out.2.1
        unfold flat at h1 ⊢
        simp [List.flatMap_append, h1]
      · intro p hp
        rcases List.mem_cons.1 hp with rfl | hp
        · exact ok_nil _ _ _
        · rcases List.mem_append.1 hp with hp | hp
          · have hbb : Below w.heap.size wr w5 := ⟨HB5.out.os.trans hp5.os.symm, HB5.out.tape.trans hp5.tape.symm, HB5.out.output.trans hp5.output.symm, Nat.le_trans (by have := HA3.out.2.size; simp at this; omega) (Nat.le_trans (show w3.heap.size ≤ _ by simp; omega) HA5.out.2.size), fun j hj => (HB5.out.block j hj).trans (hp5.block j hj).symm⟩
            exact ok_below (HPS.out.2.2.1 p hp) hbb
          · simp at hp
            subst hp
            exact ok_nil _ _ _
    · clear hp1 hp2 hp3 hp4
      obtain ⟨g, cg, ps, rfl, hl, hfl, hps⟩ := HI.out.parts (by omega)
      have HPS := Lib.hid (And.intro hl (And.intro hfl hps))
      have HBR := Lib.hid hp5
      clear hl hfl hps hp5 HI
      go_wp2_with fail
      with_reducible refine (digest_one n c A bs wr (HK.out.below h0 HBR.out) HN.out hc hcm (by omega) ((HR.out.below HBR.out).more hszr)).mono ?_
      rintro e w2 ⟨v2, rfl, HV2⟩
      obtain ⟨D, HD, HLD⟩ := dig_facts bs
      have HVD : Hid (v2 = .agg D.toArray) := Lib.hid (by rw [HD.out]; exact HV2.out.1)
      have HB2 := Lib.hid (HBR.out.trans (HV2.out.2.mono hszr))
      have hsz2 : w.heap.size ≤ w2.heap.size := HB2.out.size
      have HP2 := Lib.hid ((HPS.out.2.2.below HV2.out.2).more HV2.out.2.size)
      have HFT : Hid ((flat ps).length < 1152921504606846976) := Lib.hid (by rw [HPS.out.2.1, HN.out]; omega)
      go_wp2_with fail
      with_reducible refine (check_any (2 * k + 1) cg _ ps w2 (HK.out.below h0 HB2.out) HPS.out.1 (by omega) HFT.out HP2.out).mono ?_
      rintro e w3 ⟨v3, rfl, HV3⟩
      obtain ⟨F, HF⟩ : ∃ F, Shut (F = ((digest bs).take 4).map bv) := ⟨_, ⟨rfl⟩⟩
      have HVF : Hid (v3 = .agg F.toArray) := Lib.hid (by rw [HF.out]; have := HV3.out.1; rwa [HPS.out.2.1] at this)
      have HLF : Shut ((Tryd.prog.info? 29).map (·.size) = some F.length ∧ (List.replicate 4 (Value.int .u8 0)).length = F.length ∧ F.length = 4 ∧ ∀ v ∈ F, v.oneCell' = true) := ⟨by
        have h1 : F.length = 4 := by rw [HF.out, List.length_map, List.length_take, digest_length]; rfl
        exact ⟨by rw [h1]; exact info_size info29, by rw [h1]; exact List.length_replicate, h1, by rw [HF.out]; exact bytes_one _⟩⟩
      have HB3 := Lib.hid (HB2.out.trans (HV3.out.2.mono hsz2))
      have hsz3 : w.heap.size ≤ w3.heap.size := HB3.out.size
      have HP3 := Lib.hid ((HP2.out.below HV3.out.2).more HV3.out.2.size)
      clear HV2 HV3 HP2
      go_wp2_with (first
        | (refine wl_alloc rfl 27 rfl _ _ info27 ?_
           intro w4 HA4 HB4 HZ4)
        | (refine wl_alloc rfl 29 rfl _ _ info29 ?_
           intro w5 HA5 HB5 HZ5
           have hz4 : w3.heap.size < w4.heap.size := by rw [HZ4.out]; omega
           have hz5 : w4.heap.size < w5.heap.size := by rw [HZ5.out]; omega
           have HA45 := Lib.hid (HA4.out.below HB5.out hz4))
        | (refine wl_store rfl 27 (.tmp 6) (.tmp 30) rfl w3.heap.size _ D rfl HVD.out rfl 27 _ HA45.out HLD.out.1 HLD.out.2.1 HLD.out.2.2.2 ?_
           intro w6 HR6 HS6 HZ6
           have HA56 := Lib.hid (HS6.out.row HA5.out (by omega)))
        | (refine wl_store rfl 29 (.tmp 7) (.tmp 32) rfl w4.heap.size _ F rfl HVF.out rfl 29 _ HA56.out HLF.out.1 HLF.out.2.1 HLF.out.2.2.2 ?_
           intro w7 HR7 HS7 HZ7))
      have hz6 : w5.heap.size ≤ w6.heap.size := by rw [HZ6.out]; exact Nat.le_refl _
      have hz7 : w6.heap.size ≤ w7.heap.size := by rw [HZ7.out]; exact Nat.le_refl _
      have HD7 := Lib.hid (HS7.out.row HR6.out (by omega))
      have hb35 : Below w3.heap.size w3 w5 := HB4.out.trans (HB5.out.mono (by omega))
      have hb37 : Below w3.heap.size w3 w7 := (hb35.trans (HS6.out.below (Nat.le_refl _) (by omega))).trans (HS7.out.below (by omega) (by omega))
      have HB7 := Lib.hid (HB3.out.trans (hb37.mono hsz3))
      have HP7 := Lib.hid ((HP3.out.below hb37).more hb37.size)
      have hsz7 : w.heap.size ≤ w7.heap.size := HB7.out.size
      have HF7 : Hid (Row w7 w4.heap.size 29 F) := HR7
      generalize hgd : w3.heap.size = gd at *
      generalize hgf : w4.heap.size = gf at *
      clear HA4 HB4 HZ4 HA5 HB5 HZ5 HR6 HS6 HZ6 HR7 HS7 HZ7 HA45 HA56 hb35 hb37 hgd hgf HP3 HB3
      have HEQ : Hid (∀ w' : World, (Op.equalIn 10000 27 (.agg D.toArray) (.agg D.toArray)).run Tryd.prog w' = .ok true w') := Lib.hid (fun w' => by rw [HD.out]; exact eq_in 27 32 under27 _ (digest_length _) w')
      have HLO : Hid (∀ w', Below w7.heap.size w7 w' → w'.rangeAt gd 0 D) := Lib.hid (fun w' hb => (HD7.out.below hb HD7.out.lt).range (es := []) (by simp))
      have HST : Hid (∀ w', Below w7.heap.size w7 w' → (convert 25 9 (.slice (some ⟨gf, 0, none⟩) 4 4)).run Tryd.prog w' = .ok (.string ⟨((digest bs).take 4).toArray⟩) w' ∧ (convert 25 9 (.slice (some ⟨gd, 0, none⟩) 4 32)).run Tryd.prog w' = .ok (.string ⟨((digest bs).take 4).toArray⟩) w') := Lib.hid (fun w' hb => by
        have h1 : ((digest bs).take 4).length = 4 := by rw [List.length_take, digest_length]; rfl
        refine ⟨Rd.toStr (w := w') (B := w'.heap.size) ?_ 4 4 h1, Rd.toStr (w := w') (B := w'.heap.size) ?_ 4 32 h1⟩
        · rw [← HF.out]; exact ((HF7.out.rd _ HF7.out.lt).below hb).more hb.size
        · have h2 := (((HD7.out.rd _ HD7.out.lt).below hb).more hb.size).take 4
          rwa [HD.out, ← List.map_take] at h2)
      have hbd : Below w7.heap.size w7 w7.drew := (Below.refl _ _).drew
      have HC1 : Hid (Calls Tryd.prog 13 #[.slice (some ⟨g, 0, none⟩) (2 * k + 1) cg] w7.drew fun e w' => e = .returned (.agg D.toArray) ∧ Hid (Below w7.heap.size w7 w')) := Lib.hid
        ((digest_any (2 * k + 1) cg _ ps w7.drew (HK.out.below h0 HB7.out.drew) HPS.out.1 (by omega) HFT.out ⟨HP7.out.rd, HP7.out.ok⟩).mono fun e w' ⟨v, he, hv⟩ => ⟨by rw [he, hv.out.1, HPS.out.2.1, HD.out], Lib.hid (hbd.trans hv.out.2)⟩)
      have HLD7 := Lib.hid (HLO.out w7.drew hbd)
      have HS7' := Lib.hid (HST.out w7.drew hbd)
      have hsl1 := fun w' : World => run_all w' 29 4 under29 gf 0
      have hsl2 := fun w' : World => run_head w' 27 32 under27 gd 0 4 4 rfl (by decide) (by decide)
      have heq := HEQ.out
      have hg27 := guard27
      clear hbd
      have hu27 := under27
      have hi27 := HLD.out.1
      go_region_held3 (fun w' => w'.rangeAt gd 0 D ∧ (convert 25 9 (.slice (some ⟨gf, 0, none⟩) 4 4)).run Tryd.prog w' = .ok (.string ⟨((digest bs).take 4).toArray⟩) w' ∧ (convert 25 9 (.slice (some ⟨gd, 0, none⟩) 4 32)).run Tryd.prog w' = .ok (.string ⟨((digest bs).take 4).toArray⟩) w')
        (first | exact ⟨HLD7.out, HS7'.out.1, HS7'.out.2⟩ | exact ⟨HLO.out w8 HV8.out, (HST.out w8 HV8.out).1, (HST.out w8 HV8.out).2⟩)
        (first
          | (go_at_call 13; (with_reducible refine HC1.out.mono ?_); rintro e w8 ⟨rfl, HV8⟩))
      all_goals
        have HB8 := Lib.hid (HB7.out.trans (HV8.out.mono hsz7))
        clear hsl1 hsl2 heq hg27 hu27 hi27
        go_wp2_with fail
        go_ret
        exact ⟨rfl, HB8.out⟩
end Go.Proofs.YthfpkefieemiaaaDoor

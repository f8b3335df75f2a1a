/- The law ScanFeeds: pieces of any bytes, one behind the other: what Feed answers is what the document's Split of all bytes so far has anew. -/
import Derived.Test.YtmhfhdbaeijcfaaDoorSpw
import Derived.Test.YtmhfhdbaeijcfaaDoorGJ
namespace Go.Proofs.YtmhfhdbaeijcfaaDoor
open Go.RowKit
open Go.Proofs.YtmhfhdbaeijcfaaDoor.H
theorem addr_spot {w : World} {a : Addr} {v : Value} (h : w.cell? a = some v) : a.spot = none := by
  unfold World.cell? at h
  cases hsp : a.spot with
  | none => rfl
  | some k => rw [hsp] at h; revert h; split <;> simp
theorem rd_mv {w w' : World} {g : Nat} {h' : Option Nat} {A : Option Addr} {v : Value} {br : Bool} {xs : List Value} (hr : Rd w w.heap.size A xs) (hrow : Row w g 109 [v, .bool br]) (hv : ∀ k n, v ≠ .int k n) (hx : ∀ u ∈ xs, ∃ k n, u = .int k n) (m : Mv g none w w' h') : Rd w' w'.heap.size A xs := by
  rcases hr with h0 | ⟨ad, e, hlt, hc⟩
  · exact .inl h0
  · match xs, hx, hc with
    | [], _, _ => exact .inl rfl
    | u :: us, hx, hc =>
      have hne : ad.block ≠ g := fun eb => by
        obtain ⟨k, n, rfl⟩ := hx u (by simp)
        have h1 := hc 0 _ rfl
        have h2 := addr_spot h1
        have h3 : ad.add 0 = ⟨g, (ad.add 0).off, none⟩ := by
          have : (ad.add 0).block = g := (add_block ad 0).trans eb
          cases hq : ad.add 0 with
          | mk b o s => rw [hq] at this h2; dsimp only at this h2 ⊢; rw [this, h2]
        rw [h3, hrow.cell] at h1
        match (ad.add 0).off, h1 with
        | 0, h1 => exact hv k n (Option.some.inj h1)
        | 1, h1 => cases (Option.some.inj h1)
        | o + 2, h1 => cases h1
      exact .inr ⟨ad, e, Nat.lt_of_lt_of_le hlt m.size, fun j u' hj => (m.cell (by rw [add_block]; exact hlt) (by rw [add_block]; exact hne) (by simp)).trans (hc j u' hj)⟩
theorem Tab.mv {w w' : World} {g t : Nat} {h' : Option Nat} {v : Value} {br : Bool} (T : Tab w w.heap.size t) (hrow : Row w g 109 [v, .bool br]) (hv : ∀ k n, v ≠ .int k n) (m : Mv g none w w' h') : Tab w' w'.heap.size t := by
  obtain ⟨A, c, K, d, h0, h1, h2, h3, h4, h5, h6, h7, h8⟩ := T
  have ht : t ≠ g := fun e => by
    subst e
    have h := hrow.cell 1
    rw [h2] at h
    cases h
  have hi : ∀ L : List Wd, ∀ u ∈ L.map uv, ∃ k n, u = .int k n := fun L u hu => by
    obtain ⟨x, _, rfl⟩ := List.mem_map.1 hu
    exact ⟨_, _, rfl⟩
  exact ⟨A, c, K, d, Nat.lt_of_lt_of_le h0 m.size, (m.cell (p := ⟨t, 0, none⟩) h0 ht (by simp)).trans h1, (m.cell (p := ⟨t, 1, none⟩) h0 ht (by simp)).trans h2, h3, h4, h5, h6, rd_mv h7 hrow hv (hi _) m, rd_mv h8 hrow hv (hi _) m⟩
set_option maxRecDepth 100000 in
/-- Bytes appended to a row of our own; where the row lies then. -/
theorem wl_appendL {w : World} {ops : Array Oper} {rest : List Oper} {o : Oper} {a : Act} {Q : Exit → Act → World → Prop} (hgd : o.guard = none) (t x : Operand)
    (ho : o.op = .call { callee := .builtin .append, args := #[t, x], argTypes := #[23, 23] }) (base : Nat) (v : Value) (n : Nat) (xs : List Value) (hs : a.eval t = v) (hown : w.ownsRow base 5 1 v n xs) (B : Nat) (A : Option Addr) (m c : Nat) (bs : List UInt8)
    (hx : a.eval x = .slice A m c) (hm : bs.length = m) (hr : Rd w B A (bs.map bv)) (hb : n + m ≤ 140737488355328) (hbase : base ≤ w.heap.size)
    (h : ∀ v' w', Hid (w'.ownsRow base 5 1 v' (n + m) (xs ++ bs.map bv) ∧ w.grownBy w' v.ownBlock ∧ (v'.ownBlock = v.ownBlock ∨ v'.ownBlock = some w.heap.size)) → wpList Tryd.prog ops Q rest (a.put o.dst v') w') : wpList Tryd.prog ops Q (o :: rest) a w := by
  refine wpList_plain hgd fun K hK => ?_
  obtain ⟨v', w', hr2, h2, h3, h4⟩ := H.run_append_rd w base v n xs hown B A m c bs hm hr hb hbase o.type
  unfold Oper.wp execOp
  simp only [ho, resolve, invoke, builtin, Sem.run_bind, Sem.run_pure, Result.andThen_ok, List.map_toArray, List.map_cons, List.map_nil, hs, hx, hr2]
  exact hK _ _ (h v' w' ⟨h2, h3, h4⟩)
theorem flat_take (ps : List Part) (j : Nat) (h : j < ps.length) : flat (ps.take (j + 1)) = flat (ps.take j) ++ ps[j].bs := by
  unfold flat
  rw [List.take_add_one, List.getElem?_eq_getElem h, List.flatMap_append]
  simp only [Option.toList, List.flatMap_cons, List.flatMap_nil, List.append_nil]
theorem flat_le (ps : List Part) (j : Nat) : (flat (ps.take j)).length ≤ (flat ps).length := by
  have h : flat ps = flat (ps.take j) ++ flat (ps.drop j) := by
    unfold flat
    rw [← List.flatMap_append, List.take_append_drop]
  rw [h, List.length_append]
  omega
theorem inc_small {r : List UInt8} (h : Inc r) : r.length < 1024 := by
  rcases h with h | ⟨h1, h2⟩
  · omega
  · unfold badSize at h1
    omega
/-- What a good scanner and the rows beside it are. -/
structure Fds (W w4 : World) (sg : Nat) (T : List UInt8) (tl m : Nat) (X : List UInt8) (h : Option Nat) (qa ca : Nat) (fs : List Fr) : Prop where
  mv : Mv sg none w4 W h
  scn : Scn W sg sg h X false
  inc : Inc X
  cut : Cut T fs X false
  len : T.length = tl
  num : fs.length = m
  own : W.ownsRow w4.heap.size 5 1 (.slice (some ⟨qa, 0, none⟩) tl ca) tl (T.map bv)
  ne : h ≠ some qa
set_option maxRecDepth 100000 in
set_option maxHeartbeats 8000000 in
theorem feeds_any (n d : Nat) (D : Option Addr) (ps : List Part) (E : Nat → Value) (ad : Nat → Addr) (a : Addr) (w : World) (hE : Env w E 159 (.pointer (some a))) (hE5 : F.Errs w E) (h18 : Eighteen w ad) (ha : ad 0 = a) (hn : ps.length = n) (hnc : n ≤ d) (hdm : d ≤ 9223372036854775807) (hp : Parts w w.heap.size D ps) :
    Calls Tryd.prog 7 #[.slice D n d] w fun e w' => e = .returned (.bool true) ∧ Below w.heap.size w w' := by
  have HE := Lib.hid hE
  have HE5 := Lib.hid hE5
  have H18 := Lib.hid h18
  have HAD := Lib.hid ha
  have HN := Lib.hid hn
  have HP := Lib.hid hp
  have h20 := hE.size
  clear hE hE5 h18 ha hn hp
  go_enter Tryd.func7, Tryd.ntmps7
  go_wp2_with fail
  with_reducible refine (alive6_any E a w HE.out HE5.out).mono ?_
  rintro e w1 ⟨rfl, HB1⟩
  have hz1 : w.heap.size ≤ w1.heap.size := HB1.out.size
  have HP1 : Hid (Parts w1 w1.heap.size D ps) := Lib.hid ((HP.out.below HB1.out).more hz1)
  go_wp2_with fail
  with_reducible refine (few6_any n d D ps w1 HN.out (by omega) HP1.out).mono ?_
  rintro e _ ⟨rfl, rfl⟩
  cases hcnt : countP ps 0 with
  | false =>
    go_wp2_with fail
    go_ret
    exact ⟨rfl, HB1.out⟩
  | true =>
    have HCN : Hid (n + (flat ps).length ≤ 20000) := Lib.hid (by
      have h1 := countP_small ps 0 hcnt
      rw [HN.out] at h1
      omega)
    have hn2 : n ≤ 20000 := by have := HCN.out; omega
    clear hcnt
    go_wp2_with fail
    with_reducible refine (snew_any w1).mono ?_
    rintro e w2 ⟨rfl, HV2⟩
    obtain ⟨sg, HSG⟩ : ∃ sg, H.Shut (w1.heap.size = sg) := ⟨_, ⟨rfl⟩⟩
    rw [HSG.out] at HV2 ⊢
    have hsg : w.heap.size ≤ sg := by rw [← HSG.out]; exact hz1
    have h20s : 20 ≤ sg := by omega
    have hz2 : sg < w2.heap.size := by rw [HV2.out.2.2]; omega
    have HS2 := Lib.hid HV2.out.1
    have HB2 : Hid (Below w.heap.size w w2) := Lib.hid (HB1.out.trans (HV2.out.2.1.mono hsg))
    clear HV2 HP1
    go_wp2_with fail
    with_reducible refine (new_any w2).mono ?_
    rintro e w4 ⟨t, rfl, HV4⟩
    have hz4 : w2.heap.size ≤ w4.heap.size := HV4.out.2.size
    have HT4 := Lib.hid HV4.out.1
    have HS4 := Lib.hid (HS2.out.below HV4.out.2)
    have HB4 : Hid (Below w.heap.size w w4) := Lib.hid (HB2.out.trans (HV4.out.2.mono HB2.out.size))
    have hwz4 : w.heap.size ≤ w4.heap.size := HB4.out.size
    obtain ⟨v0, HRW⟩ : ∃ v0, Hid (Row w4 sg 109 [v0, .bool false] ∧ ∀ k n, v0 ≠ .int k n) := by
      obtain ⟨A0, c0, h1, _⟩ := HS4.out.open
      exact ⟨_, Lib.hid ⟨h1, fun k n e => by cases e⟩⟩
    clear HV4 HS2
    have HA4 : Hid (Fds (w4.alloc (.cells #[] 5)) w4 sg [] 0 0 [] none w4.heap.size 0 []) := Lib.hid ⟨.of_below (below_alloc w4 _), HS4.out.below (below_alloc w4 _), .inl (by simp), .short _ (by simp), rfl, rfl, own_emptyN w4 w4.heap.size 5 (Nat.le_refl _), fun e => by cases e⟩
    have hen := fun W : World => err_neq (ad 1) W
    go_wp2_with fail
    go_loopw [5, 6, 7, 26] (fun va vh vw vi W => ∃ j : Nat, j ≤ n ∧ vi = .int .i64 j ∧ ((∃ (tl m : Nat) (qa ca : Nat), va = .slice (some ⟨qa, 0, none⟩) tl ca ∧ vh = .int .i64 m ∧ vw = .int .i64 0 ∧ tl ≤ 20000 ∧ m ≤ 20000 ∧ w4.heap.size ≤ qa ∧ H.Shut (∃ X h fs, Fds W w4 sg (flat (ps.take j)) tl m X h qa ca fs)) ∨ (vw = .int .i64 7 ∧ H.Shut (∃ h, Scn W sg sg h [] true ∧ Mv sg none w4 W h)))) (fun _ _ _ vi _ => n - (intOf vi).toNat)
    case atStart => exact ⟨0, Nat.zero_le _, rfl, .inl ⟨0, 0, _, _, rfl, rfl, rfl, by omega, by omega, Nat.le_refl _, ⟨_, _, _, HA4.out⟩⟩⟩
    case round =>
      obtain ⟨j, hj, rfl, hst⟩ := hrel
      have HMV : Hid (∃ h, Mv sg none w4 wr h) := Lib.hid (by
        rcases hst with ⟨_, _, _, _, _, _, _, _, _, _, ⟨_, h, _, F⟩⟩ | ⟨_, ⟨h, _, F⟩⟩
        · exact ⟨h, F.mv⟩
        · exact ⟨h, F⟩)
      have HBr : Hid (Below w.heap.size w wr) := Lib.hid (by
        obtain ⟨h, m⟩ := HMV.out
        exact HB4.out.trans (m.below hwz4 hsg (fun q e => by cases e)))
      have hszr : w4.heap.size ≤ wr.heap.size := by
        obtain ⟨h, m⟩ := HMV.out
        exact m.size
      by_cases hlt : j < n
      · have hj2 : j < ps.length := by rw [HN.out]; exact hlt
        have HPr := Lib.hid ((HP.out.below HBr.out).more HBr.out.size)
        obtain ⟨dd, rfl, _, hc⟩ := HPr.out.rd.cell (k := j) (u := (ps[j]).v) (by simp [hj2])
        have hok := HPr.out.ok ps[j] (List.getElem_mem hj2)
        have HFT := Lib.hid (flat_take ps j hj2)
        have HFL : Hid ((flat (ps.take (j + 1))).length ≤ (flat ps).length) := Lib.hid (flat_le ps (j + 1))
        rw [HFT.out, List.length_append] at HFL
        obtain ⟨p, HPP⟩ : ∃ p, H.Shut (ps[j] = p) := ⟨_, ⟨rfl⟩⟩
        rw [HPP.out] at hc hok HFT HFL
        obtain ⟨pa, pc, pb⟩ := p
        unfold Part.v at hc
        obtain ⟨k1, k2, k3⟩ := hok
        dsimp only at *
        obtain ⟨m, HM⟩ : ∃ m, H.Shut (pb.length = m) := ⟨_, ⟨rfl⟩⟩
        rw [HM.out] at hc k1
        have hm2 : m ≤ 20000 := by have := HFL.out; have := HCN.out; have := HM.out; omega
        have HK3 := Lib.hid k3
        clear k3
        go_wp2_with fail
        with_reducible refine (bytes_new m pc pa pb wr HM.out (by omega) HK3.out).mono ?_
        rintro e w6 ⟨X, cx, rfl, HV6⟩
        have hz6 : wr.heap.size ≤ w6.heap.size := HV6.out.2.2.2.1.size
        have hcx : m + 6 ≤ cx := HV6.out.1
        have hcxm : cx ≤ 9223372036854775807 := HV6.out.2.1
        have hcxL : cx ≤ maxLen := HV6.out.2.1
        have HB6 : Hid (Below w.heap.size w w6) := Lib.hid (HBr.out.trans (HV6.out.2.2.2.1.mono HBr.out.size))
        have HXM : Hid (Rd w6 w6.heap.size X ((pb ++ marks).map bv)) := Lib.hid HV6.out.2.2.1
        have HXY : Hid (∀ ad, X = some ad → wr.heap.size ≤ ad.block) := Lib.hid HV6.out.2.2.2.2
        have HB16 : Hid (Below wr.heap.size wr w6) := Lib.hid HV6.out.2.2.2.1
        have HK6 : Hid (Rd w6 w.heap.size pa (pb.map bv)) := Lib.hid (by
          have h1 := HP.out.ok ps[j] (List.getElem_mem hj2)
          rw [HPP.out] at h1
          exact h1.2.2.below HB6.out)
        clear HV6 HK3 hc HPr
        rcases hst with ⟨tl, m0, qa, ca, rfl, rfl, rfl, htl, hm0, hqa, HI⟩ | ⟨rfl, HI⟩
        · -- a scanner that is not broken
          obtain ⟨Xh, h, fs, HF⟩ : ∃ Xh h fs, H.Shut (Fds wr w4 sg (flat (ps.take j)) tl m0 Xh h qa ca fs) := by
            obtain ⟨Xh, h, fs, F⟩ := HI.out
            exact ⟨Xh, h, fs, ⟨F⟩⟩
          clear HI HMV
          obtain ⟨fs2, r2, bad, hcut⟩ := Cut.any (Xh ++ pb).length (Xh ++ pb) (Nat.le_refl _)
          have HCU := Lib.hid hcut
          clear hcut
          have hqar : qa < wr.heap.size := (HF.out.own.lt qa rfl).2
          have hsqa : sg ≠ qa := by omega
          have HS6 := Lib.hid (HF.out.scn.below HB16.out)
          have hOX : Off w6 sg h X (pb ++ marks) := ⟨HXM.out, fun _ ad e => ⟨by have := HXY.out ad e; omega, fun e2 => by
            have h1 := HXY.out ad e
            have h2 := (HF.out.scn.bh ad.block e2.symm).2
            omega⟩⟩
          have HOX := Lib.hid hOX
          have HOB : Hid (Off w6 sg h X pb) := Lib.hid (by
            have h1 := hOX.take m
            rwa [List.take_append_of_le_length (by rw [HM.out]; exact Nat.le_refl _), List.take_of_length_le (by rw [HM.out]; exact Nat.le_refl _)] at h1)
          have HE6 := Lib.hid (HE.out.below h20 HB6.out)
          have HE56 := Lib.hid (HE5.out.below h20 HB6.out)
          have HFE := Lib.hid (feedx_any sg sg m cx h Xh pb X E 159 (.pointer (some a)) w6 HE6.out HE56.out h20s HS6.out HF.out.inc HM.out (by omega) hcxm (by omega) HOB.out fs2 r2 bad HCU.out)
          obtain ⟨ev, HEV⟩ : ∃ ev, H.Shut (errV 159 (.pointer (some a)) bad = ev) := ⟨_, ⟨rfl⟩⟩
          rw [HEV.out] at HFE
          clear hOX
          go_wp2_with fail
          with_reducible refine HFE.out.mono ?_
          rintro e w7 ⟨gs, v7, h7, rfl, HV7⟩
          have HM67 := Lib.hid HV7.out.2.2.2
          have hz7 : w6.heap.size ≤ w7.heap.size := HV7.out.2.2.2.size
          have HM7 : Hid (Mv sg none w4 w7 h7) := Lib.hid ((HF.out.mv.trans (.of_below HB16.out)).trans HV7.out.2.2.2)
          have HB7 : Hid (Below w.heap.size w w7) := Lib.hid (HB4.out.trans (HM7.out.below hwz4 hsg (fun q e => by cases e)))
          have HX7 : Hid (Rd w7 w7.heap.size X ((pb ++ marks).map bv)) := Lib.hid (HOX.out.mv HV7.out.2.2.2).rd
          have hwz7 : w.heap.size ≤ w7.heap.size := HB7.out.size
          have HK7 : Hid (Rd w7 w7.heap.size pa (pb.map bv)) := Lib.hid (by
            have h1 := HP.out.ok ps[j] (List.getElem_mem hj2)
            rw [HPP.out] at h1
            exact (h1.2.2.below HB7.out).more hwz7)
          have HPL : Hid (gs.map Fr.pl = fs2) := Lib.hid HV7.out.2.1
          have HOW7 : Hid (w7.ownsRow w4.heap.size 5 1 (.slice (some ⟨qa, 0, none⟩) tl ca) tl ((flat (ps.take j)).map bv)) := Lib.hid (own_kept (own_kept HF.out.own (fun q e => HB16.out.block q (HF.out.own.lt q e).2)) (fun q e => by
            have e1 : q = qa := (Option.some.inj e).symm
            subst e1
            exact HM67.out.block q (by omega) (fun e2 => hsqa e2.symm) (fun e2 => HF.out.ne e2.symm)))
          have hneq : h7 ≠ some qa := fun e => by
            rcases HM67.out.lies qa e with e1 | e1
            · exact HF.out.ne e1
            · omega
          have HS7 := Lib.hid HV7.out.2.2.1
          have HFN7 : Hid (Fnd w7 w6.heap.size h7 v7 gs) := Lib.hid HV7.out.1
          clear HV7 HFE HXM HXY HOX HOB HE6 HE56 HS6
          go_wp2_with fail
          with_reducible refine (kept_any m cx pc X pa pb w7 HM.out (by omega) hcx hcxL HX7.out HK7.out).mono ?_
          rintro e w8 ⟨rfl, hb78⟩
          have HB78 := Lib.hid hb78
          have hz8 : w7.heap.size ≤ w8.heap.size := hb78.size
          have HM8 : Hid (Mv sg none w4 w8 h7) := Lib.hid (HM7.out.trans (.of_below hb78))
          have HOW8 : Hid (w8.ownsRow w4.heap.size 5 1 (.slice (some ⟨qa, 0, none⟩) tl ca) tl ((flat (ps.take j)).map bv)) := Lib.hid (own_kept HOW7.out (fun q e => hb78.block q (HOW7.out.lt q e).2))
          have HS8 := Lib.hid (HS7.out.below hb78)
          have HFN8 := Lib.hid (HFN7.out.below hb78)
          have HK8 : Hid (Rd w8 w.heap.size pa (pb.map bv)) := Lib.hid (by
            have h1 := HP.out.ok ps[j] (List.getElem_mem hj2)
            rw [HPP.out] at h1
            exact h1.2.2.below (HB7.out.trans (hb78.mono hwz7)))
          have hb4 : w4.heap.size ≤ w8.heap.size := by omega
          have htm : tl + m ≤ 20000 := by have := HFL.out; have := HCN.out; have := HM.out; have := HF.out.len; omega
          have htm2 : tl + m ≤ 140737488355328 := by omega
          clear hb78 HK7 HX7
          go_wp2_with (first
            | (refine wl_appendL rfl (.tmp 62) (.tmp 63) rfl w4.heap.size (.slice (some ⟨qa, 0, none⟩) tl ca) tl ((flat (ps.take j)).map bv) rfl HOW8.out w.heap.size pa m pc pb rfl HM.out HK8.out htm2 hb4 ?_
               intro v9 w9 HA9))
          obtain ⟨q9, h9⟩ := own_next rfl HA9.out.2.2
          obtain ⟨c9, rfl, hc9, hcm9, hq9, hq9s⟩ := own_some HA9.out.1 h9
          have hz9 : w8.heap.size ≤ w9.heap.size := HA9.out.2.1.size
          have HM9 : Hid (Mv sg none w4 w9 h7) := Lib.hid (HM8.out.grown HA9.out.2.1 (fun q e => by have : qa = q := Option.some.inj e; omega))
          have HS9 : Hid (Scn w9 sg sg h7 r2 bad) := Lib.hid (HS8.out.grown HA9.out.2.1 (ob_ne (by omega)) (fun q e e2 => hneq (e2.trans e.symm)))
          have HFN9 : Hid (Fnd w9 w6.heap.size h7 v7 gs) := Lib.hid (HFN8.out.keep hz9 (fun q h1 h2 _ => HA9.out.2.1.block q h2 (fun e => by have : qa = q := Option.some.inj e.symm; omega)) (fun q e => .inl e))
          have hne9 : h7 ≠ some q9 := fun e => by
            rcases HA9.out.2.2 with e1 | e1
            · have e2 : q9 = qa := Option.some.inj e1
              exact hneq (e2 ▸ e)
            · have e2 : q9 = w8.heap.size := Option.some.inj e1
              have := (HS8.out.bh q9 e).2
              omega
          have HOW9 : Hid (w9.ownsRow w4.heap.size 5 1 (.slice (some ⟨q9, 0, none⟩) (tl + m) c9) (tl + m) ((flat (ps.take j) ++ pb).map bv)) := Lib.hid (by rw [List.map_append]; exact HA9.out.1)
          have HB9 : Hid (Below w.heap.size w w9) := Lib.hid (HB4.out.trans (HM9.out.below hwz4 hsg (fun q e => by cases e)))
          have HT9 : Hid (Tab w9 w9.heap.size t) := Lib.hid (Tab.mv HT4.out HRW.out.1 HRW.out.2 HM9.out)
          have HCT : Hid (Cut (flat (ps.take j) ++ pb) (fs ++ fs2) r2 bad) := Lib.hid (HF.out.cut.append rfl HCU.out)
          have HL9 : Hid ((flat (ps.take j) ++ pb).length = tl + m) := Lib.hid (by rw [List.length_append, HF.out.len, HM.out])
          have HRD9 : Hid (Rd w9 w9.heap.size (some ⟨q9, 0, none⟩) ((flat (ps.take j) ++ pb).map bv)) := Lib.hid (by
            obtain ⟨A', c', ee, _, _, _, hrd, _⟩ := own_slice HOW9.out
            injection ee with ee1 ee2 ee3
            subst ee1
            exact hrd)
          have HRS := Lib.hid (rsplit_any t (tl + m) c9 (some ⟨q9, 0, none⟩) (flat (ps.take j) ++ pb) w9 HT9.out HL9.out hc9 hcm9 (by omega) HRD9.out (fs ++ fs2) r2 bad HCT.out)
          obtain ⟨K, HK⟩ : ∃ K : Nat, H.Shut (bytesOf (fs ++ fs2) = K) := ⟨_, ⟨rfl⟩⟩
          rw [HK.out] at HRS
          have HKS : Hid (bad = false → K + r2.length = tl + m) := Lib.hid (fun e => by have h1 := HCT.out.sum e; rw [HK.out, HL9.out] at h1; exact h1)
          have HKL : Hid (K ≤ tl + m ∧ 7 * (fs ++ fs2).length ≤ tl + m) := Lib.hid (by have h1 := HCT.out.sum_le; rw [HK.out, HL9.out] at h1; exact h1)
          have HRI := Lib.hid HCT.out.rest
          have HFNM : Hid (fs.length = m0) := Lib.hid HF.out.num
          clear HA9 HF HM8 HOW8 HOW7 HS7 HS8 HFN7 HFN8 HM7 HM67 HT9 HRD9 h9 HK8 HK6
          go_wp2_with fail
          with_reducible refine HRS.out.mono ?_
          rintro e w10 ⟨gs2, q10, n10, c10, rfl, HV10⟩
          have HB910 := Lib.hid HV10.out.2.2.2
          have hz10 : w9.heap.size ≤ w10.heap.size := HB910.out.size
          have HB10 : Hid (Below w.heap.size w w10) := Lib.hid (HB9.out.trans (HB910.out.mono HB9.out.size))
          obtain ⟨k, HKK⟩ : ∃ k, H.Shut (gs.length = k) := ⟨_, ⟨rfl⟩⟩
          have HG2 : Hid (gs2.length = n10) := Lib.hid HV10.out.1
          have hn10 : n10 = m0 + k := by
            have h1 := congrArg List.length HV10.out.2.2.1
            rw [List.length_map, HV10.out.1, List.length_append, ← HPL.out, List.length_map, HKK.out, HFNM.out] at h1
            exact h1
          subst hn10
          have hkb : m0 + k ≤ 20000 := by
            have h1 := HKL.out.2
            rw [List.length_append, ← HPL.out, List.length_map, HKK.out, HFNM.out] at h1
            omega
          obtain ⟨A7, c7, e7, hc7, hcm7, hfr7⟩ := HFN9.out.frs
          subst e7
          rw [HKK.out] at hc7
          rw [HKK.out]
          have HFR10 : Hid (FrsAt w10 w10.heap.size A7 gs) := Lib.hid ((hfr7.below HB910.out).more hz10)
          obtain ⟨A10, c10', e10, hc10, hcm10, hfr10⟩ := HV10.out.2.1.frs
          injection e10 with e11 e12 e13
          subst e11
          subst e13
          rw [HG2.out] at hc10
          have HFS10 : Hid (FrsAt w10 w10.heap.size (if c10 = m0 then some ⟨q10, 0, none⟩ else (some ⟨q10, 0, none⟩ : Option Addr).map (·.add (m0 * 10))) (gs2.drop m0)) := Lib.hid (hfr10.drop (by rw [HG2.out]; exact hc10))
          have HPE : Hid (gs.map Fr.pl = (gs2.drop m0).map Fr.pl) := Lib.hid (by
            rw [List.map_drop, HV10.out.2.2.1, List.drop_append_of_le_length (by rw [HFNM.out]; exact Nat.le_refl _), List.drop_of_length_le (by rw [HFNM.out]; exact Nat.le_refl _), List.nil_append, HPL.out])
          obtain ⟨B10, HB10x⟩ : ∃ B, H.Shut ((if c10 = m0 then some ⟨q10, 0, none⟩ else (some ⟨q10, 0, none⟩ : Option Addr).map (·.add (m0 * 10))) = B) := ⟨_, ⟨rfl⟩⟩
          have HFF : ∀ W : World, (Instr.slice 62 (.slice (some ⟨q10, 0, none⟩) (m0 + k) c10) (some (.int .i64 (m0 : Int))) none none).run Tryd.prog W = .ok (.slice B10 k (c10 - m0)) W := fun W => by
            have h1 := from_frames W (some ⟨q10, 0, none⟩) (m0 + k) c10 m0 (by omega)
            rw [HB10x.out, Nat.add_sub_cancel_left] at h1
            exact h1
          rw [HB10x.out] at HFS10
          have HDL : Hid ((gs2.drop m0).length = k) := Lib.hid (by rw [List.length_drop, HG2.out]; omega)
          have HS10 := Lib.hid (HS9.out.below (HB910.out.mono (Nat.le_refl _)))
          have HM10 : Hid (Mv sg none w4 w10 h7) := Lib.hid (HM9.out.trans (.of_below HB910.out))
          have HOW10 : Hid (w10.ownsRow w4.heap.size 5 1 (.slice (some ⟨q9, 0, none⟩) (tl + m) c9) (tl + m) ((flat (ps.take j) ++ pb).map bv)) := Lib.hid (own_kept HOW9.out (fun q e => HB910.out.block q (HOW9.out.lt q e).2))
          have HSL := Lib.hid (fun (W : World) (hb : Below w10.heap.size w10 W) => sameList_true k c7 (c10 - m0) A7 B10 gs (gs2.drop m0) W HKK.out HDL.out (by omega) ((HFR10.out.below hb).more hb.size) ((HFS10.out.below hb).more hb.size) HPE.out)
          have HNU := Lib.hid (num_bad bad ad a w10 (H18.out.below H18.out.lt HB10.out) HAD.out)
          rw [HEV.out] at HNU
          obtain ⟨L, HL⟩ : ∃ L, H.Shut (r2.length = L) := ⟨_, ⟨rfl⟩⟩
          have hL : L < 1024 := by rw [← HL.out]; exact inc_small HRI.out.2
          have HHE : Hid (∀ W : World, Scn W sg sg h7 r2 bad → Calls Tryd.prog 33 #[.pointer (some ⟨sg, 0, none⟩)] W fun e w' => e = .returned (.int .i64 (L : Int)) ∧ W = w') := Lib.hid (fun W hs => by
            have h1 := held_any sg sg h7 r2 bad W hs
            rw [HL.out] at h1
            exact h1)
          have hkm : (m0 : Int) + (k : Int) - (m0 : Int) = (k : Int) := by omega
          have hKt : K ≤ tl + m := HKL.out.1
          clear HV10 HRS hfr7 hfr10 HFR10 HFS10 e12 HFN9 HS9 HOW9 HM9 HB9
          cases bad with
          | false =>
            have hKL : K + L = tl + m := by rw [← HL.out]; exact HKS.out rfl
            have hKI : (tl : Int) + (m : Int) - (K : Int) = (L : Int) := by omega
            have eb : badN false = 0 := rfl
            rw [eb] at HNU
            rw [eb]
            go_wp2_with fail
            with_reducible refine HNU.out.mono ?_
            rintro e w11 ⟨rfl, HB11⟩
            go_wp2_with fail
            with_reducible refine (HSL.out w11 HB11.out).mono ?_
            rintro e w12 ⟨rfl, HB1112⟩
            have HB12 : Hid (Below w10.heap.size w10 w12) := Lib.hid (HB11.out.trans (HB1112.out.mono HB11.out.size))
            have HS12 := Lib.hid (HS10.out.below HB12.out)
            go_wp2_with fail
            with_reducible refine (broken_any sg sg h7 r2 false w12 HS12.out).mono ?_
            rintro e _ ⟨rfl, rfl⟩
            go_wp2_with fail
            with_reducible refine (HHE.out w12 HS12.out).mono ?_
            rintro e _ ⟨rfl, rfl⟩
            go_wp2_with fail
            with_reducible refine (HHE.out w12 HS12.out).mono ?_
            rintro e _ ⟨rfl, rfl⟩
            go_wp2_with fail
            refine ⟨⟨j + 1, by omega, by go_num, .inl ⟨tl + m, m0 + k, q9, c9, rfl, by go_num, rfl, htm, hkb, hq9, ⟨r2, h7, fs ++ fs2, ?_⟩⟩⟩, by simp [intOf]; omega⟩
            rw [HFT.out]
            exact ⟨HM10.out.trans (.of_below HB12.out), HS12.out, HRI.out.2, HCT.out, HL9.out, by rw [List.length_append, ← HPL.out, List.length_map, HKK.out, HFNM.out], own_kept HOW10.out (fun q e => HB12.out.block q (HOW10.out.lt q e).2), hne9⟩
          | true =>
            have hr0 : r2 = [] := HRI.out.1 rfl
            obtain rfl : L = 0 := by rw [← HL.out, hr0]; rfl
            have eb : badN true = 7 := rfl
            rw [eb] at HNU
            rw [eb]
            go_wp2_with fail
            with_reducible refine HNU.out.mono ?_
            rintro e w11 ⟨rfl, HB11⟩
            go_wp2_with fail
            with_reducible refine (HSL.out w11 HB11.out).mono ?_
            rintro e w12 ⟨rfl, HB1112⟩
            have HB12 : Hid (Below w10.heap.size w10 w12) := Lib.hid (HB11.out.trans (HB1112.out.mono HB11.out.size))
            have HS12 := Lib.hid (HS10.out.below HB12.out)
            go_wp2_with fail
            with_reducible refine (broken_any sg sg h7 r2 true w12 HS12.out).mono ?_
            rintro e _ ⟨rfl, rfl⟩
            go_wp2_with fail
            with_reducible refine (HHE.out w12 HS12.out).mono ?_
            rintro e _ ⟨rfl, rfl⟩
            go_wp2_with fail
            with_reducible refine (HHE.out w12 HS12.out).mono ?_
            rintro e _ ⟨rfl, rfl⟩
            go_wp2_with fail
            refine ⟨⟨j + 1, by omega, by go_num, .inr ⟨rfl, ⟨h7, ?_, HM10.out.trans (.of_below HB12.out)⟩⟩⟩, by simp [intOf]; omega⟩
            rw [← hr0]
            exact HS12.out
        · -- a broken one
          obtain ⟨h, HF⟩ : ∃ h, H.Shut (Scn wr sg sg h [] true ∧ Mv sg none w4 wr h) := by
            obtain ⟨h, F⟩ := HI.out
            exact ⟨h, ⟨F⟩⟩
          clear HI HMV
          have HS6 := Lib.hid (HF.out.1.below HB16.out)
          have HEB : Hid (w6.cell? ⟨1, 0, none⟩ = some (.iface 159 (.pointer (some (ad 1))))) := Lib.hid ((H18.out.below H18.out.lt HB6.out).cell 1 (by decide))
          have HFB := Lib.hid (feed_broken sg sg m cx h [] X (.iface 159 (.pointer (some (ad 1)))) w6 HS6.out HEB.out)
          go_wp2_with fail
          with_reducible refine HFB.out.mono ?_
          rintro e w7 ⟨rfl, q7, hw7⟩
          have hb67 : Below w6.heap.size w6 w7 := by rw [hw7]; exact below_drewN (Below.refl _ _) q7
          have HB67 := Lib.hid hb67
          have HS7 := Lib.hid (HS6.out.below hb67)
          have HX7 : Hid (Rd w7 w7.heap.size X ((pb ++ marks).map bv)) := Lib.hid ((HXM.out.below hb67).more hb67.size)
          have HB7 : Hid (Below w.heap.size w w7) := Lib.hid (HB6.out.trans (hb67.mono HB6.out.size))
          have HK7 : Hid (Rd w7 w7.heap.size pa (pb.map bv)) := Lib.hid ((HK6.out.below (hb67.mono HB6.out.size)).more HB7.out.size)
          clear hw7 hb67 HFB
          go_wp2_with fail
          with_reducible refine (kept_any m cx pc X pa pb w7 HM.out (by omega) hcx hcxL HX7.out HK7.out).mono ?_
          rintro e w8 ⟨rfl, hb78⟩
          have HB68 : Hid (Below w6.heap.size w6 w8) := Lib.hid (HB67.out.trans (hb78.mono HB67.out.size))
          have HS8 := Lib.hid (HS6.out.below HB68.out)
          have ceb : w8.cell? ⟨1, 0, none⟩ = some (.iface 159 (.pointer (some (ad 1)))) := ((H18.out.below H18.out.lt (HB6.out.trans (HB68.out.mono HB6.out.size))).cell 1 (by decide))
          have HM8 : Hid (Mv sg none w4 w8 h) := Lib.hid ((HF.out.2.trans (.of_below HB16.out)).trans (.of_below HB68.out))
          have HHE : Hid (Calls Tryd.prog 33 #[.pointer (some ⟨sg, 0, none⟩)] w8 fun e w' => e = .returned (.int .i64 0) ∧ w8 = w') := Lib.hid (held_any sg sg h [] true w8 HS8.out)
          clear hb78 HK7 HX7 HF HEB
          go_wp2_with fail
          with_reducible refine (broken_any sg sg h [] true w8 HS8.out).mono ?_
          rintro e _ ⟨rfl, rfl⟩
          go_wp2_with fail
          with_reducible refine HHE.out.mono ?_
          rintro e _ ⟨rfl, rfl⟩
          go_wp2_with fail
          exact ⟨⟨j + 1, by omega, by go_num, .inr ⟨rfl, ⟨h, HS8.out, HM8.out⟩⟩⟩, by simp [intOf]; omega⟩
      · go_wp2_with fail
        go_ret
        exact ⟨rfl, HBr.out⟩
end Go.Proofs.YtmhfhdbaeijcfaaDoor

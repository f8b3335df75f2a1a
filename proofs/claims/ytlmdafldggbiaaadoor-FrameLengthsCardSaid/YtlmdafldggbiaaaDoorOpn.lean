/- frame.opened and frame.Get where the length that the bytes tell is not their length: an error. -/
import Derived.Test.YtlmdafldggbiaaaDoorEqu
import Derived.Laws.ResultCell
namespace Go.Proofs.YtlmdafldggbiaaaDoor
open Go.RowKit
open Go.Proofs.YtlmdafldggbiaaaDoor.H

theorem results_cell_two {fn : Func} {p u : Tmp} {ty : TypeId} (h : fn.results = #[.cell p ty, .tmp u]) (tmps : Array Value) (w : World) (g : Nat) (t : TypeId) (cs : List Value) (d : TypeDesc) (v : Value)
    (hp : tmps.getD p undef = .pointer (some ⟨g, 0, none⟩)) (hv : tmps.getD u undef = v) (hr : Row w g t cs) (hu : Tryd.prog.underlying ty = some d) (hd : d.isRow = true) (hi : (Tryd.prog.info? ty).map (·.size) = some cs.length) :
    (results fn tmps).run Tryd.prog w = .ok (.tuple #[.agg cs.toArray, v]) w := by
  rw [results_cell_tmp h, hp, hv]
  have h1 := run_loadVar_mid (P := Tryd.prog) w g 0 ty cs d (hr.range (es := []) (by simp)) hu hd hi
  simp [asAddr, h1]
theorem step_store {ops : Array Oper} {o : Oper} {a : Act} {w : World} {K : Act → World → Prop} {Q : Exit → Act → World → Prop} {E : Prop} (hgd : o.guard = none) (ty : TypeId) (x y : Operand) (ho : o.op = .store ty x y)
    (g : Nat) (cells : Array Value) (cs : List Value) (hx : a.eval x = .pointer (some ⟨g, 0, none⟩)) (hy : a.eval y = .agg cells) (hc : cells = cs.toArray) (t : TypeId) (old : List Value) (hr : Row w g t old)
    (hi : (Tryd.prog.info? ty).map (·.size) = some cs.length) (hold : old.length = cs.length) (h1 : ∀ v ∈ cs, v.oneCell' = true)
    (h : ∀ w', Hid (Row w' g t cs) → Hid (Sole g w w') → Hid (w'.heap.size = w.heap.size) → K (a.put o.dst undef) w') : if Region.wanted o (yielded ops a.tmps) = true then Oper.wp Tryd.prog o a w K Q else E := by
  have hw : Region.wanted o (yielded ops a.tmps) = true := by simp [Region.wanted, hgd]
  rw [if_pos hw]
  subst hc
  exact wp_store_row ty x y ho g cs.toArray hx hy t old.toArray hr (by simpa using hi) (by simpa using hold) (all_oneCell_toArray h1)
    (h _ (hr.setRow cs) ((Sole.refl g w).setRow _) (by show (w.setRow g cs.toArray).heap.size = w.heap.size; simp [World.setRow]))
/-- The zero frame's cells. -/
def zeroC : List Value := [.int .i64 0, .int .i64 0, .int .i64 0, .int .i64 0, .int .i64 0, .int .i64 0, .string ⟨#[]⟩, .string ⟨#[]⟩, .float .f64 0, .slice none 0 0]
theorem info25' : (Tryd.prog.info? 25).map (fun i => (i.zero, i.size)) = some (some (.agg zeroC.toArray), 10) := by kernel_rfl
theorem zeroC_one : ∀ v ∈ zeroC, v.oneCell' = true := by
  intro v hv
  unfold zeroC at hv
  simp at hv
  rcases hv with rfl | rfl | rfl | rfl <;> rfl
attribute [local go_sem] F.run_store_f64
/-- The zero frame stored over itself, a cell after the other. -/
def rezero (w : World) (g : Nat) : World := ((((((((((w.setCell ⟨g, 0, none⟩ (.int .i64 0)).setCell ⟨g, 1, none⟩ (.int .i64 0)).setCell ⟨g, 2, none⟩ (.int .i64 0)).setCell ⟨g, 3, none⟩ (.int .i64 0)).setCell ⟨g, 4, none⟩ (.int .i64 0)).setCell ⟨g, 5, none⟩ (.int .i64 0)).setCell ⟨g, 6, none⟩ (.string ⟨#[]⟩)).setCell ⟨g, 7, none⟩ (.string ⟨#[]⟩)).setCell ⟨g, 8, none⟩ (.float .f64 0)).setCell ⟨g, 9, none⟩ (.slice none 0 0))
theorem rezero_row {w : World} {g : Nat} (h : Row w g 25 zeroC) : Row (rezero w g) g 25 zeroC := ((((((((((h.set 0 _).set 1 _).set 2 _).set 3 _).set 4 _).set 5 _).set 6 _).set 7 _).set 8 _).set 9 _)
theorem rezero_below {w w' : World} {g B : Nat} (h : Below B w w') (hB : B ≤ g) : Below B w (rezero w' g) := ((((((((((h.setCell (p := ⟨g, 0, none⟩) hB _).setCell (p := ⟨g, 1, none⟩) hB _).setCell (p := ⟨g, 2, none⟩) hB _).setCell (p := ⟨g, 3, none⟩) hB _).setCell (p := ⟨g, 4, none⟩) hB _).setCell (p := ⟨g, 5, none⟩) hB _).setCell (p := ⟨g, 6, none⟩) hB _).setCell (p := ⟨g, 7, none⟩) hB _).setCell (p := ⟨g, 8, none⟩) hB _).setCell (p := ⟨g, 9, none⟩) hB _)
theorem row_drew {w : World} {g : Nat} {t : TypeId} {cs : List Value} (h : Row w g t cs) : Row w.drew g t cs := h
/-- A frame of a kind alone. -/
def kindC (k : Int) : List Value := .int .i64 k :: zeroC.tail
theorem kindC_one (k : Int) : ∀ v ∈ kindC k, v.oneCell' = true := by
  intro v hv
  rcases List.mem_cons.1 hv with rfl | hv
  · rfl
  · exact zeroC_one v (List.mem_of_mem_tail hv)
theorem F.decS_bound : ∀ {l bs : List UInt8} {k : Nat}, F.decS l bs = .error k → k < 5
  | [], bs, k, h => by
    unfold F.decS at h
    split at h
    · cases h
    · injection h with h; omega
  | c :: l, bs, k, h => by
    unfold F.decS at h
    cases hs : F.spanS c.toNat bs with
    | error e => rw [hs] at h; injection h with h; rw [← h]; exact F.spanS_err hs
    | ok n =>
      rw [hs] at h
      simp only at h
      cases hd : F.decS l (bs.drop n) with
      | error e => rw [hd] at h; injection h with h; rw [← h]; exact F.decS_bound hd
      | ok ys => rw [hd] at h; cases h
/-- What the first two bytes tell. -/
def told (bs : List UInt8) : Nat := F.num (bs.take 2)
theorem first_cell (l bs : List UInt8) (cs : List F.FC) (h : F.decS (104 :: l) bs = .ok cs) : ∃ y ys, cs = y :: ys ∧ y.n = (told bs : Int) := by
  unfold F.decS at h
  cases hs : F.spanS (104 : UInt8).toNat bs with
  | error e => rw [hs] at h; cases h
  | ok n =>
    rw [hs] at h
    simp only at h
    cases hd : F.decS l (bs.drop n) with
    | error e => rw [hd] at h; cases h
    | ok ys =>
      rw [hd] at h
      injection h with h
      refine ⟨_, ys, h.symm, ?_⟩
      have hle := F.spanS_le hs
      unfold F.cellS told
      rw [if_neg (by decide), if_neg (by decide)]
      have e : F.hd (104 : UInt8).toNat = 2 := rfl
      rw [e, List.take_take]
      rw [e] at hle
      rw [Nat.min_eq_left hle.2]

set_option maxRecDepth 100000 in
set_option maxHeartbeats 2000000 in
theorem opened_bad (n : Nat) (b : Addr) (bs : List UInt8) (E : Nat → Value) (te : TypeId) (pe : Value) (w : World) (hE : Env w E te pe) (hE5 : F.Errs w E) (hn : bs.length = n) (h3 : 3 ≤ n) (hs : n ≤ 900000) (hr : Rd w w.heap.size (some b) (bs.map bv)) (hne : (told bs : Int) ≠ (n : Int) - 2) :
    Calls Tryd.prog 38 #[.slice (some b) n n] w fun e w' => ∃ t p, e = .returned (.tuple #[.agg zeroC.toArray, .iface t p]) ∧ Hid (Below w.heap.size w w') := by
  have HE := Lib.hid hE
  have HE5 := Lib.hid hE5
  have h20 := hE.size
  have HN := Lib.hid hn
  have HR := Lib.hid hr
  have HNE := Lib.hid hne
  obtain ⟨x, HX⟩ : ∃ x, H.Shut (bs[2]? = some x) := ⟨bs[2]'(by omega), ⟨List.getElem?_eq_getElem (by omega)⟩⟩
  clear hE hE5 hn hr hne
  have HLZ : Hid ((Tryd.prog.info? 25).map (·.size) = some zeroC.length) := Lib.hid size25
  have hwx : wrap64 (x.toNat : Int) = (x.toNat : Int) := by have := x.toNat_lt; unfold wrap64; omega
  go_enter Tryd.func38, Tryd.ntmps38
  go_wp2_with (first
    | (refine wl_alloc (o := ⟨some 2, _, _, _, _, _⟩) rfl 25 rfl _ _ info25' ?_
       intro w1 HA1 HB1 HZ1
       have hz1 : w.heap.size < w1.heap.size := by rw [HZ1.out]; omega
       have hcx : w1.cell? ⟨b.block, b.off + 2, none⟩ = some (.int .u8 (x.toNat : Int)) := by
         obtain ⟨ad, he, _, hc⟩ := (HR.out.below HB1.out).cell (k := 2) (u := bv x) (by rw [List.getElem?_map, HX.out]; rfl)
         injection he with he
         subst he
         simpa [Addr.add, bv] using hc)
    | (refine wl_alloc (o := ⟨some 4, _, _, _, _, _⟩) rfl 25 rfl _ _ info25' ?_
       intro w2 HA2 HB2 HZ2
       have hz2 : w1.heap.size < w2.heap.size := by rw [HZ2.out]; omega)
    | (refine wl_store rfl 25 (.tmp 4) (.tmp 13) rfl w1.heap.size _ (kindC (x.toNat : Int)) rfl rfl rfl 25 _ HA2.out HLZ.out rfl (kindC_one _) ?_
       intro w3 HR3 HS3 HZ3
       have c0 : w3.cell? ⟨w1.heap.size, 0, none⟩ = some (.int .i64 (x.toNat : Int)) := HR3.out.cell 0))
  have hz3 : w2.heap.size ≤ w3.heap.size := by rw [HZ3.out]; exact Nat.le_refl _
  have hb13 : Below w1.heap.size w1 w3 := HB2.out.trans (HS3.out.below (Nat.le_refl _) (by omega))
  have HB3 := Lib.hid (HB1.out.trans (hb13.mono (Nat.le_of_lt hz1)))
  have HA3 := Lib.hid (HA1.out.below hb13 hz1)
  clear HA1 HB1 HZ1 HA2 HB2 HZ2 HS3 HZ3 hcx hb13
  obtain ⟨k, HK⟩ : ∃ k, H.Shut ((x.toNat : Int) = k) := ⟨_, ⟨rfl⟩⟩
  rw [HK.out]
  with_reducible refine (layout_any k w3).mono ?_
  rintro e w4 ⟨rfl, HV4⟩
  obtain ⟨t, HT⟩ : ∃ t, H.Shut (t = ByteArray.mk (layL k).toArray) := ⟨_, ⟨rfl⟩⟩
  rw [← HT.out]
  have hts : t.size ≤ 9 := by
    rw [HT.out]
    show (layL k).toArray.size ≤ 9
    unfold layL
    simp
    exact used_len k
  have hnl : ¬ 9223372036854775807 < 2 + t.size := by omega
  have HB4 := Lib.hid (HB3.out.trans (HV4.out.mono HB3.out.size))
  have hz4 : w3.heap.size ≤ w4.heap.size := HV4.out.size
  have HA4 := Lib.hid (HA3.out.below HV4.out (by omega))
  clear HV4 HA3 HB3 c0
  go_wp2_with fail
  obtain ⟨s, HS⟩ : ∃ s, H.Shut (ByteArray.mk #[104, 98] ++ t = s) := ⟨_, ⟨rfl⟩⟩
  have HSD : H.Shut (s.data.toList = 104 :: 98 :: layL k) := ⟨by rw [← HS.out, HT.out, bytes_cat [104, 98] (layL k)]; rfl⟩
  have HSS : Hid (s.size ≤ 11) := Lib.hid (by
    have h1 : s.size = s.data.toList.length := by simp
    rw [h1, HSD.out]
    simp [layL]
    exact used_len k)
  rw [HS.out]
  have HE4 := Lib.hid (HE.out.below h20 HB4.out)
  have HE54 := Lib.hid (HE5.out.below h20 HB4.out)
  have HMX : Hid (s.size ≤ maxLen) := Lib.hid (by have e : maxLen = 9223372036854775807 := rfl; rw [e]; have := HSS.out; omega)
  have HNX : Hid (n ≤ maxLen) := Lib.hid (by have e : maxLen = 9223372036854775807 := rfl; rw [e]; omega)
  have HKN : Hid (F.kn s.data.toList = true) := Lib.hid (by rw [HSD.out]; exact kn_layS k)
  have HR4 : Hid (F.Rd w4 w4.heap.size (some b) (bs.map F.bv)) := Lib.hid ((HR.out.below HB4.out).more HB4.out.size)
  with_reducible refine (F.decode_known E s n n (some b) bs w4 HE54.out HE4.out.size HMX.out (by have := HSS.out; omega) HN.out HNX.out (Nat.le_refl _) HR4.out HKN.out).mono ?_
  intro e w5 HD
  have HLZ2 : Hid (zeroC.length = zeroC.length) := Lib.hid rfl
  cases hdec : F.decS s.data.toList bs with
  | error q =>
    rw [hdec] at HD
    obtain ⟨rfl, hb5⟩ := HD
    have hq5 : q < 5 := F.decS_bound hdec
    obtain ⟨tq, pq, hEq⟩ := HE5.out.some_ q hq5
    rw [hEq]
    have HB5 := Lib.hid (HB4.out.trans (hb5.mono HB4.out.size))
    have HA5 := Lib.hid (HA4.out.below hb5 (by omega))
    go_wp2_with (first
      | (refine wl_store rfl 25 (.tmp 2) (.tmp 25) rfl w.heap.size _ zeroC rfl rfl rfl 25 _ HA5.out HLZ.out rfl zeroC_one ?_
         intro w6 HR6 HS6 HZ6))
    refine bodyPost_ret (v := .tuple #[.agg zeroC.toArray, .iface tq pq]) (results_cell_two Tryd.results38 _ w6 w.heap.size 25 zeroC _ _ rfl rfl HR6.out under25.choose_spec rfl HLZ.out) rfl ?_
    exact ⟨tq, pq, rfl, Lib.hid (HB5.out.trans (HS6.out.below (Nat.le_refl _) HB5.out.size))⟩
  | ok cs =>
    rw [hdec] at HD
    obtain ⟨v, rfl, hown, hb5⟩ := HD
    rw [HSD.out] at hdec
    obtain ⟨y, ys, rfl, hyn⟩ := first_cell _ bs cs hdec
    obtain ⟨g, c, rfl, _, hc1, hc2, hg1, hg2, hcs⟩ := own_cells hown (by simp)
    have HB5 := Lib.hid (HB4.out.trans (hb5.mono HB4.out.size))
    have HA5 := Lib.hid (HA4.out.below hb5 (by omega))
    have cg : w5.cell? ⟨g, 0, none⟩ = some (.int .i64 (told bs : Int)) := by
      obtain ⟨b', o, hb1, _, hb2, _⟩ := F.Cs.at_ (k := 0) hcs (by simp)
      injection hb1 with hb1
      injection hb1 with hb1 hb3 _
      subst hb1 hb3
      rw [← hyn]
      simpa using hb2
    obtain ⟨m, hm⟩ : ∃ m, (y :: ys).length = m := ⟨_, rfl⟩
    have hm0 : 0 < m := by rw [← hm]; simp
    rw [hm]
    rw [hm] at hc1
    have ce : w5.cell? ⟨0, 0, none⟩ = some (.iface te pe) := (HE.out.below h20 HB5.out).ef
    obtain ⟨T, HTT⟩ : ∃ T, H.Shut ((told bs : Int) = T) := ⟨_, ⟨rfl⟩⟩
    rw [HTT.out] at cg
    have hTne : (T != (n : Int) - 2) = true := by have := HNE.out; rw [HTT.out] at this; simp [this]
    have hTne2 : ¬ T = (n : Int) - 2 := by have := HNE.out; rwa [HTT.out] at this
    clear hdec hown hyn hcs hm
    have z0 : w5.cell? ⟨w.heap.size, 0, none⟩ = some (.int .i64 0) := HA5.out.cell 0
    have z1 : w5.cell? ⟨w.heap.size, 1, none⟩ = some (.int .i64 0) := HA5.out.cell 1
    have z2 : w5.cell? ⟨w.heap.size, 2, none⟩ = some (.int .i64 0) := HA5.out.cell 2
    have z3 : w5.cell? ⟨w.heap.size, 3, none⟩ = some (.int .i64 0) := HA5.out.cell 3
    have z4 : w5.cell? ⟨w.heap.size, 4, none⟩ = some (.int .i64 0) := HA5.out.cell 4
    have z5 : w5.cell? ⟨w.heap.size, 5, none⟩ = some (.int .i64 0) := HA5.out.cell 5
    have z6 : w5.cell? ⟨w.heap.size, 6, none⟩ = some (.string ⟨#[]⟩) := HA5.out.cell 6
    have z7 : w5.cell? ⟨w.heap.size, 7, none⟩ = some (.string ⟨#[]⟩) := HA5.out.cell 7
    have z8 : w5.cell? ⟨w.heap.size, 8, none⟩ = some (.float .f64 0) := HA5.out.cell 8
    have z9 : w5.cell? ⟨w.heap.size, 9, none⟩ = some (.slice none 0 0) := HA5.out.cell 9
    have fzz : ∀ i, w5.frozen? ⟨w.heap.size, i, none⟩ = false := HA5.out.frozen
    go_wp2_with fail
    go_region
    all_goals
      change Exit.then _ _ _ _ (rezero w5 w.heap.size).drew
      have HR6 : Hid (Row (rezero w5 w.heap.size).drew w.heap.size 25 zeroC) := Lib.hid (row_drew (rezero_row HA5.out))
      have HB6 : Hid (Below w.heap.size w (rezero w5 w.heap.size).drew) := Lib.hid (rezero_below HB5.out (Nat.le_refl _)).drew
      generalize (rezero w5 w.heap.size).drew = w6 at *
      clear z0 z1 z2 z3 z4 z5 z6 z7 z8 z9 fzz
      go_wp2_with fail
      refine bodyPost_ret (v := .tuple #[.agg zeroC.toArray, .iface te pe]) (results_cell_two Tryd.results38 _ w6 w.heap.size 25 zeroC _ _ rfl rfl HR6.out under25.choose_spec rfl HLZ.out) rfl ?_
      exact ⟨te, pe, rfl, HB6⟩
end Go.Proofs.YtlmdafldggbiaaaDoor

/- frame.opened and frame.Get where the length that the bytes tell is not their length: an error. Plain mathematics: the frame of bytes. Get of Put is the frame, Put of Get the bytes. No program, no memory. The float of an int that is not 0 has bits that are not 0. A field that a kind doesn't use, set to what isn't zero, makes a frame invalid. -/
import Derived.Test.YtmhfhdbaeijcfaaDoorGD
import Derived.Laws.ResultCell
import Derived.Test.YtmhfhdbaeijcfaaDoorGC
import Derived.Test.YtmhfhdbaeijcfaaDoorGB
import Derived.Laws.FloatBits
namespace Go.Proofs.YtmhfhdbaeijcfaaDoor
open Go.RowKit
open Go.Proofs.YtmhfhdbaeijcfaaDoor.H

theorem results_cell_two {fn : Func} {p u : Tmp} {ty : TypeId} (h : fn.results = #[.cell p ty, .tmp u]) (tmps : Array Value) (w : World) (g : Nat) (t : TypeId) (cs : List Value) (d : TypeDesc) (v : Value)
    (hp : tmps.getD p undef = .pointer (some ⟨g, 0, none⟩)) (hv : tmps.getD u undef = v) (hr : Row w g t cs) (hu : Tryd.prog.underlying ty = some d) (hd : d.isRow = true) (hi : (Tryd.prog.info? ty).map (·.size) = some cs.length) :
    (results fn tmps).run Tryd.prog w = .ok (.tuple #[.agg cs.toArray, v]) w := by
  rw [results_cell_tmp h, hp, hv]
  have h1 := run_loadVar_mid (P := Tryd.prog) w g 0 ty cs d (hr.range (es := []) (by simp)) hu hd hi
  simp [asAddr, h1]
theorem step_store {ops : Array Oper} {o : Oper} {a : Act} {w : World} {K : Act → World → Prop} {Q : Exit → Act → World → Prop} {E : Prop} (hgd : o.guard = none) (ty : TypeId) (x y : Operand) (ho : o.op = .store ty x y)
    (g : Nat) (cells : Array Value) (cs : List Value) (hx : a.eval x = .pointer (some ⟨g, 0, none⟩)) (hy : a.eval y = .agg cells) (hc : cells = cs.toArray) (t : TypeId) (old : List Value) (hr : Row w g t old)
    (hi : (Tryd.prog.info? ty).map (·.size) = some cs.length) (hold : old.length = cs.length) (h1 : ∀ v ∈ cs, v.oneCell' = true)
    (h : ∀ w', Hid (Row w' g t cs) → Hid (Sole g w w') → Hid (w'.heap.size = w.heap.size) → K (a.put o.dst undef) w') : if Region.wanted o (yielded ops a.tmps) = true then Oper.wp Tryd.prog o a w K Q else E := by
  have hw : Region.wanted o (yielded ops a.tmps) = true := by simp [Region.wanted, hgd]
  rw [if_pos hw]
  subst hc
  exact wp_store_row ty x y ho g cs.toArray hx hy t old.toArray hr (by simpa using hi) (by simpa using hold) (all_oneCell_toArray h1)
    (h _ (hr.setRow cs) ((Sole.refl g w).setRow _) (by show (w.setRow g cs.toArray).heap.size = w.heap.size; simp [World.setRow]))
/-- The zero frame's cells. -/
def zeroC : List Value := [.int .i64 0, .int .i64 0, .int .i64 0, .int .i64 0, .int .i64 0, .int .i64 0, .string ⟨#[]⟩, .string ⟨#[]⟩, .float .f64 0, .slice none 0 0]
theorem info25' : (Tryd.prog.info? 25).map (fun i => (i.zero, i.size)) = some (some (.agg zeroC.toArray), 10) := by kernel_rfl
theorem zeroC_one : ∀ v ∈ zeroC, v.oneCell' = true := by
  intro v hv
  unfold zeroC at hv
  simp at hv
  rcases hv with rfl | rfl | rfl | rfl <;> rfl
attribute [local go_sem] F.run_store_f64
/-- The zero frame stored over itself, a cell after the other. -/
def rezero (w : World) (g : Nat) : World := ((((((((((w.setCell ⟨g, 0, none⟩ (.int .i64 0)).setCell ⟨g, 1, none⟩ (.int .i64 0)).setCell ⟨g, 2, none⟩ (.int .i64 0)).setCell ⟨g, 3, none⟩ (.int .i64 0)).setCell ⟨g, 4, none⟩ (.int .i64 0)).setCell ⟨g, 5, none⟩ (.int .i64 0)).setCell ⟨g, 6, none⟩ (.string ⟨#[]⟩)).setCell ⟨g, 7, none⟩ (.string ⟨#[]⟩)).setCell ⟨g, 8, none⟩ (.float .f64 0)).setCell ⟨g, 9, none⟩ (.slice none 0 0))
theorem rezero_row {w : World} {g : Nat} (h : Row w g 25 zeroC) : Row (rezero w g) g 25 zeroC := ((((((((((h.set 0 _).set 1 _).set 2 _).set 3 _).set 4 _).set 5 _).set 6 _).set 7 _).set 8 _).set 9 _)
theorem rezero_below {w w' : World} {g B : Nat} (h : Below B w w') (hB : B ≤ g) : Below B w (rezero w' g) := ((((((((((h.setCell (p := ⟨g, 0, none⟩) hB _).setCell (p := ⟨g, 1, none⟩) hB _).setCell (p := ⟨g, 2, none⟩) hB _).setCell (p := ⟨g, 3, none⟩) hB _).setCell (p := ⟨g, 4, none⟩) hB _).setCell (p := ⟨g, 5, none⟩) hB _).setCell (p := ⟨g, 6, none⟩) hB _).setCell (p := ⟨g, 7, none⟩) hB _).setCell (p := ⟨g, 8, none⟩) hB _).setCell (p := ⟨g, 9, none⟩) hB _)
theorem row_drew {w : World} {g : Nat} {t : TypeId} {cs : List Value} (h : Row w g t cs) : Row w.drew g t cs := h
/-- A frame of a kind alone. -/
def kindC (k : Int) : List Value := .int .i64 k :: zeroC.tail
theorem kindC_one (k : Int) : ∀ v ∈ kindC k, v.oneCell' = true := by
  intro v hv
  rcases List.mem_cons.1 hv with rfl | hv
  · rfl
  · exact zeroC_one v (List.mem_of_mem_tail hv)
theorem F.decS_bound : ∀ {l bs : List UInt8} {k : Nat}, F.decS l bs = .error k → k < 5
  | [], bs, k, h => by
    unfold F.decS at h
    split at h
    · cases h
    · injection h with h; omega
  | c :: l, bs, k, h => by
    unfold F.decS at h
    cases hs : F.spanS c.toNat bs with
    | error e => rw [hs] at h; injection h with h; rw [← h]; exact F.spanS_err hs
    | ok n =>
      rw [hs] at h
      simp only at h
      cases hd : F.decS l (bs.drop n) with
      | error e => rw [hd] at h; injection h with h; rw [← h]; exact F.decS_bound hd
      | ok ys => rw [hd] at h; cases h
/-- What the first two bytes tell. -/
def told (bs : List UInt8) : Nat := F.num (bs.take 2)
theorem first_cell (l bs : List UInt8) (cs : List F.FC) (h : F.decS (104 :: l) bs = .ok cs) : ∃ y ys, cs = y :: ys ∧ y.n = (told bs : Int) := by
  unfold F.decS at h
  cases hs : F.spanS (104 : UInt8).toNat bs with
  | error e => rw [hs] at h; cases h
  | ok n =>
    rw [hs] at h
    simp only at h
    cases hd : F.decS l (bs.drop n) with
    | error e => rw [hd] at h; cases h
    | ok ys =>
      rw [hd] at h
      injection h with h
      refine ⟨_, ys, h.symm, ?_⟩
      have hle := F.spanS_le hs
      unfold F.cellS told
      rw [if_neg (by decide), if_neg (by decide)]
      have e : F.hd (104 : UInt8).toNat = 2 := rfl
      rw [e, List.take_take]
      rw [e] at hle
      rw [Nat.min_eq_left hle.2]

set_option maxRecDepth 100000 in
set_option maxHeartbeats 2000000 in
theorem opened_bad (n : Nat) (b : Addr) (bs : List UInt8) (E : Nat → Value) (te : TypeId) (pe : Value) (w : World) (hE : Env w E te pe) (hE5 : F.Errs w E) (hn : bs.length = n) (h3 : 3 ≤ n) (hs : n ≤ 900000) (hr : Rd w w.heap.size (some b) (bs.map bv)) (hne : (told bs : Int) ≠ (n : Int) - 2) :
    Calls Tryd.prog 50 #[.slice (some b) n n] w fun e w' => ∃ t p, e = .returned (.tuple #[.agg zeroC.toArray, .iface t p]) ∧ Hid (Below w.heap.size w w') := by
  have HE := Lib.hid hE
  have HE5 := Lib.hid hE5
  have h20 := hE.size
  have HN := Lib.hid hn
  have HR := Lib.hid hr
  have HNE := Lib.hid hne
  obtain ⟨x, HX⟩ : ∃ x, H.Shut (bs[2]? = some x) := ⟨bs[2]'(by omega), ⟨List.getElem?_eq_getElem (by omega)⟩⟩
  clear hE hE5 hn hr hne
  have HLZ : Hid ((Tryd.prog.info? 25).map (·.size) = some zeroC.length) := Lib.hid size25
  have hwx : wrap64 (x.toNat : Int) = (x.toNat : Int) := by have := x.toNat_lt; unfold wrap64; omega
  go_enter Tryd.func50, Tryd.ntmps50
  go_wp2_with (first
    | (refine wl_alloc (o := ⟨some 2, _, _, _, _, _⟩) rfl 25 rfl _ _ info25' ?_
       intro w1 HA1 HB1 HZ1
       have hz1 : w.heap.size < w1.heap.size := by rw [HZ1.out]; omega
       have hcx : w1.cell? ⟨b.block, b.off + 2, none⟩ = some (.int .u8 (x.toNat : Int)) := by
         obtain ⟨ad, he, _, hc⟩ := (HR.out.below HB1.out).cell (k := 2) (u := bv x) (by rw [List.getElem?_map, HX.out]; rfl)
         injection he with he
         subst he
         simpa [Addr.add, bv] using hc)
    | (refine wl_alloc (o := ⟨some 4, _, _, _, _, _⟩) rfl 25 rfl _ _ info25' ?_
       intro w2 HA2 HB2 HZ2
       have hz2 : w1.heap.size < w2.heap.size := by rw [HZ2.out]; omega)
    | (refine wl_store rfl 25 (.tmp 4) (.tmp 13) rfl w1.heap.size _ (kindC (x.toNat : Int)) rfl rfl rfl 25 _ HA2.out HLZ.out rfl (kindC_one _) ?_
       intro w3 HR3 HS3 HZ3
       have c0 : w3.cell? ⟨w1.heap.size, 0, none⟩ = some (.int .i64 (x.toNat : Int)) := HR3.out.cell 0))
  have hz3 : w2.heap.size ≤ w3.heap.size := by rw [HZ3.out]; exact Nat.le_refl _
  have hb13 : Below w1.heap.size w1 w3 := HB2.out.trans (HS3.out.below (Nat.le_refl _) (by omega))
  have HB3 := Lib.hid (HB1.out.trans (hb13.mono (Nat.le_of_lt hz1)))
  have HA3 := Lib.hid (HA1.out.below hb13 hz1)
  clear HA1 HB1 HZ1 HA2 HB2 HZ2 HS3 HZ3 hcx hb13
  obtain ⟨k, HK⟩ : ∃ k, H.Shut ((x.toNat : Int) = k) := ⟨_, ⟨rfl⟩⟩
  rw [HK.out]
  with_reducible refine (layout_any k w3).mono ?_
  rintro e w4 ⟨rfl, HV4⟩
  obtain ⟨t, HT⟩ : ∃ t, H.Shut (t = ByteArray.mk (layL k).toArray) := ⟨_, ⟨rfl⟩⟩
  rw [← HT.out]
  have hts : t.size ≤ 9 := by
    rw [HT.out]
    show (layL k).toArray.size ≤ 9
    unfold layL
    simp
    exact used_len k
  have hnl : ¬ 9223372036854775807 < 2 + t.size := by omega
  have HB4 := Lib.hid (HB3.out.trans (HV4.out.mono HB3.out.size))
  have hz4 : w3.heap.size ≤ w4.heap.size := HV4.out.size
  have HA4 := Lib.hid (HA3.out.below HV4.out (by omega))
  clear HV4 HA3 HB3 c0
  go_wp2_with fail
  obtain ⟨s, HS⟩ : ∃ s, H.Shut (ByteArray.mk #[104, 98] ++ t = s) := ⟨_, ⟨rfl⟩⟩
  have HSD : H.Shut (s.data.toList = 104 :: 98 :: layL k) := ⟨by rw [← HS.out, HT.out, bytes_cat [104, 98] (layL k)]; rfl⟩
  have HSS : Hid (s.size ≤ 11) := Lib.hid (by
    have h1 : s.size = s.data.toList.length := by simp
    rw [h1, HSD.out]
    simp [layL]
    exact used_len k)
  rw [HS.out]
  have HE4 := Lib.hid (HE.out.below h20 HB4.out)
  have HE54 := Lib.hid (HE5.out.below h20 HB4.out)
  have HMX : Hid (s.size ≤ maxLen) := Lib.hid (by have e : maxLen = 9223372036854775807 := rfl; rw [e]; have := HSS.out; omega)
  have HNX : Hid (n ≤ maxLen) := Lib.hid (by have e : maxLen = 9223372036854775807 := rfl; rw [e]; omega)
  have HKN : Hid (F.kn s.data.toList = true) := Lib.hid (by rw [HSD.out]; exact kn_layS k)
  have HR4 : Hid (F.Rd w4 w4.heap.size (some b) (bs.map F.bv)) := Lib.hid ((HR.out.below HB4.out).more HB4.out.size)
  with_reducible refine (F.decode_known E s n n (some b) bs w4 HE54.out HE4.out.size HMX.out (by have := HSS.out; omega) HN.out HNX.out (Nat.le_refl _) HR4.out HKN.out).mono ?_
  intro e w5 HD
  have HLZ2 : Hid (zeroC.length = zeroC.length) := Lib.hid rfl
  cases hdec : F.decS s.data.toList bs with
  | error q =>
    rw [hdec] at HD
    obtain ⟨rfl, hb5⟩ := HD
    have hq5 : q < 5 := F.decS_bound hdec
    obtain ⟨tq, pq, hEq⟩ := HE5.out.some_ q hq5
    rw [hEq]
    have HB5 := Lib.hid (HB4.out.trans (hb5.mono HB4.out.size))
    have HA5 := Lib.hid (HA4.out.below hb5 (by omega))
    go_wp2_with (first
      | (refine wl_store rfl 25 (.tmp 2) (.tmp 25) rfl w.heap.size _ zeroC rfl rfl rfl 25 _ HA5.out HLZ.out rfl zeroC_one ?_
         intro w6 HR6 HS6 HZ6))
    refine bodyPost_ret (v := .tuple #[.agg zeroC.toArray, .iface tq pq]) (results_cell_two Tryd.results50 _ w6 w.heap.size 25 zeroC _ _ rfl rfl HR6.out under25.choose_spec rfl HLZ.out) rfl ?_
    exact ⟨tq, pq, rfl, Lib.hid (HB5.out.trans (HS6.out.below (Nat.le_refl _) HB5.out.size))⟩
  | ok cs =>
    rw [hdec] at HD
    obtain ⟨v, rfl, hown, hb5⟩ := HD
    rw [HSD.out] at hdec
    obtain ⟨y, ys, rfl, hyn⟩ := first_cell _ bs cs hdec
    obtain ⟨g, c, rfl, _, hc1, hc2, hg1, hg2, hcs⟩ := own_cells hown (by simp)
    have HB5 := Lib.hid (HB4.out.trans (hb5.mono HB4.out.size))
    have HA5 := Lib.hid (HA4.out.below hb5 (by omega))
    have cg : w5.cell? ⟨g, 0, none⟩ = some (.int .i64 (told bs : Int)) := by
      obtain ⟨b', o, hb1, _, hb2, _⟩ := F.Cs.at_ (k := 0) hcs (by simp)
      injection hb1 with hb1
      injection hb1 with hb1 hb3 _
      subst hb1 hb3
      rw [← hyn]
      simpa using hb2
    obtain ⟨m, hm⟩ : ∃ m, (y :: ys).length = m := ⟨_, rfl⟩
    have hm0 : 0 < m := by rw [← hm]; simp
    rw [hm]
    rw [hm] at hc1
    have ce : w5.cell? ⟨0, 0, none⟩ = some (.iface te pe) := (HE.out.below h20 HB5.out).ef
    obtain ⟨T, HTT⟩ : ∃ T, H.Shut ((told bs : Int) = T) := ⟨_, ⟨rfl⟩⟩
    rw [HTT.out] at cg
    have hTne : (T != (n : Int) - 2) = true := by have := HNE.out; rw [HTT.out] at this; simp [this]
    have hTne2 : ¬ T = (n : Int) - 2 := by have := HNE.out; rwa [HTT.out] at this
    clear hdec hown hyn hcs hm
    have z0 : w5.cell? ⟨w.heap.size, 0, none⟩ = some (.int .i64 0) := HA5.out.cell 0
    have z1 : w5.cell? ⟨w.heap.size, 1, none⟩ = some (.int .i64 0) := HA5.out.cell 1
    have z2 : w5.cell? ⟨w.heap.size, 2, none⟩ = some (.int .i64 0) := HA5.out.cell 2
    have z3 : w5.cell? ⟨w.heap.size, 3, none⟩ = some (.int .i64 0) := HA5.out.cell 3
    have z4 : w5.cell? ⟨w.heap.size, 4, none⟩ = some (.int .i64 0) := HA5.out.cell 4
    have z5 : w5.cell? ⟨w.heap.size, 5, none⟩ = some (.int .i64 0) := HA5.out.cell 5
    have z6 : w5.cell? ⟨w.heap.size, 6, none⟩ = some (.string ⟨#[]⟩) := HA5.out.cell 6
    have z7 : w5.cell? ⟨w.heap.size, 7, none⟩ = some (.string ⟨#[]⟩) := HA5.out.cell 7
    have z8 : w5.cell? ⟨w.heap.size, 8, none⟩ = some (.float .f64 0) := HA5.out.cell 8
    have z9 : w5.cell? ⟨w.heap.size, 9, none⟩ = some (.slice none 0 0) := HA5.out.cell 9
    have fzz : ∀ i, w5.frozen? ⟨w.heap.size, i, none⟩ = false := HA5.out.frozen
    go_wp2_with fail
    go_region
    all_goals
      change Exit.then _ _ _ _ (rezero w5 w.heap.size).drew
      have HR6 : Hid (Row (rezero w5 w.heap.size).drew w.heap.size 25 zeroC) := Lib.hid (row_drew (rezero_row HA5.out))
      have HB6 : Hid (Below w.heap.size w (rezero w5 w.heap.size).drew) := Lib.hid (rezero_below HB5.out (Nat.le_refl _)).drew
      generalize (rezero w5 w.heap.size).drew = w6 at *
      clear z0 z1 z2 z3 z4 z5 z6 z7 z8 z9 fzz
      go_wp2_with fail
      refine bodyPost_ret (v := .tuple #[.agg zeroC.toArray, .iface te pe]) (results_cell_two Tryd.results50 _ w6 w.heap.size 25 zeroC _ _ rfl rfl HR6.out under25.choose_spec rfl HLZ.out) rfl ?_
      exact ⟨te, pe, rfl, HB6⟩
end Go.Proofs.YtmhfhdbaeijcfaaDoor
namespace Go.Proofs.YtmhfhdbaeijcfaaDoor
open Go.RowKit
open Go.Proofs.YtmhfhdbaeijcfaaDoor.H

/-- A frame but for where its bytes lie. -/
def Fr.pl (f : Fr) : Fr := { f with ba := none, bc := 0 }
/-- The zero frame of a kind. -/
def zf (k : Int) : Fr := ⟨k, 0, 0, 0, 0, 0, ⟨#[]⟩, ⟨#[]⟩, 0, none, 0, []⟩
/-- A field set by a cell; bytes at A. -/
def setF (f : Fr) (x : Nat) (c : F.FC) (A : Option Addr) (C : Nat) : Fr :=
  if x = 0 then { f with seq := c.n } else if x = 1 then { f with got := c.n } else if x = 2 then { f with stream := c.n } else if x = 3 then { f with amount := c.n } else if x = 4 then { f with code := c.n }
  else if x = 5 then { f with who := c.s } else if x = 6 then { f with name := c.s } else if x = 7 then { f with weight := c.f } else { f with ba := A, bc := C, bs := f.bs ++ c.s.data.toList }
def fill (f : Fr) : List Nat → List F.FC → Fr
  | x :: L, c :: cs => fill (setF f x c none 0) L cs
  | _, _ => f
/-- The kind that bytes tell. -/
def kindOf (bs : List UInt8) : Int := ((bs.getD 2 0).toNat : Int)
/-- The frame, valid or not, of bytes ahead of the check. -/
def openB (bs : List UInt8) : Option Fr := match F.decS (layS (kindOf bs)) bs with
  | .ok (y :: _ :: cs) => if y.n = (bs.length : Int) - 2 then some (fill (zf (kindOf bs)) (used (kindOf bs)) cs) else none
  | _ => none
/-- Bytes with their check. -/
def sealB (bs : List UInt8) : List UInt8 := bs ++ (digest bs).take 4
def goodF (o : Option Fr) : Option Fr := match o with
  | some f => if valid f = true then some f else none
  | none => none
/-- The frame of bytes. -/
def getB (bs : List UInt8) : Option Fr := if 7 ≤ bs.length ∧ bs.length ≤ 1024 ∧ sealB (bs.take (bs.length - 4)) = bs then goodF (openB (bs.take (bs.length - 4))) else none

theorem pl_pl (f : Fr) : f.pl.pl = f.pl := rfl
theorem pl_kind (f : Fr) : f.pl.kind = f.kind := rfl
theorem ext_pl (f : Fr) (x : Nat) : ext f.pl x = ext f x := rfl
theorem valid_pl (f : Fr) : valid f.pl = valid f := rfl
theorem cov_pl (f : Fr) : cov f.pl = cov f := rfl
theorem putB_pl (f : Fr) : putB f.pl = putB f := rfl
theorem setF_pl (f : Fr) (x : Nat) (c : F.FC) (A : Option Addr) (C : Nat) : (setF f x c A C).pl = (setF f.pl x c none 0).pl := by
  unfold setF
  repeat' split
  all_goals rfl
theorem setF_plain (f : Fr) (x : Nat) (c : F.FC) (h : f.pl = f) : (setF f x c none 0).pl = setF f x c none 0 := by
  obtain ⟨h1, h2⟩ : f.ba = none ∧ f.bc = 0 := by rw [← h]; exact ⟨rfl, rfl⟩
  unfold setF
  repeat' split
  all_goals simp [Fr.pl, h1, h2]
theorem fill_plain : ∀ (L : List Nat) (cs : List F.FC) (f : Fr), f.pl = f → (fill f L cs).pl = fill f L cs
  | [], _, f, h => by simpa [fill] using h
  | _ :: _, [], f, h => by simpa [fill] using h
  | x :: L, c :: cs, f, h => by
    show (fill (setF f x c none 0) L cs).pl = fill (setF f x c none 0) L cs
    exact fill_plain L cs _ (setF_plain f x c h)
theorem setF_kind (f : Fr) (x : Nat) (c : F.FC) (A : Option Addr) (C : Nat) : (setF f x c A C).kind = f.kind := by
  unfold setF
  repeat' split
  all_goals rfl
theorem fill_kind : ∀ (L : List Nat) (cs : List F.FC) (f : Fr), (fill f L cs).kind = f.kind
  | [], _, f => by simp [fill]
  | _ :: _, [], f => by simp [fill]
  | x :: L, c :: cs, f => by
    show (fill (setF f x c none 0) L cs).kind = f.kind
    rw [fill_kind L cs, setF_kind]

theorem valid_zero {f : Fr} (h : valid f = true) (x : Nat) (hx : x < 9) (hu : x ∉ used f.kind) : ext f x = 0 := by
  unfold valid at h
  simp at h
  have h2 := h.2 x hx
  unfold fits least most at h2
  simp [hu] at h2
  omega
theorem size_nil {s : ByteArray} (h : s.size = 0) : s = ⟨#[]⟩ := by
  apply ByteArray.ext
  apply Array.eq_empty_of_size_eq_zero
  exact h
/-- A frame that fits its kind, out of its cells. -/
theorem fill_cells {f : Fr} (h : valid f = true) (hw : f.weight < 18446744073709551616) : fill (zf f.kind) (used f.kind) ((used f.kind).map (cellF f)) = f.pl := by
  have e0 : 0 ∉ used f.kind → f.seq = 0 := fun hu => by have := valid_zero h 0 (by decide) hu; simpa [ext] using this
  have e1 : 1 ∉ used f.kind → f.got = 0 := fun hu => by have := valid_zero h 1 (by decide) hu; simpa [ext] using this
  have e2 : 2 ∉ used f.kind → f.stream = 0 := fun hu => by have := valid_zero h 2 (by decide) hu; simpa [ext] using this
  have e3 : 3 ∉ used f.kind → f.amount = 0 := fun hu => by have := valid_zero h 3 (by decide) hu; simpa [ext] using this
  have e4 : 4 ∉ used f.kind → f.code = 0 := fun hu => by have := valid_zero h 4 (by decide) hu; simpa [ext] using this
  have e5 : 5 ∉ used f.kind → f.who = ⟨#[]⟩ := fun hu => by have := valid_zero h 5 (by decide) hu; exact size_nil (by simpa [ext] using this)
  have e6 : 6 ∉ used f.kind → f.name = ⟨#[]⟩ := fun hu => by have := valid_zero h 6 (by decide) hu; exact size_nil (by simpa [ext] using this)
  have e7 : 7 ∉ used f.kind → f.weight = 0 := fun hu => by
    have h7 := valid_zero h 7 (by decide) hu
    have e : ext f 7 = wrap64 (f.weight : Int) := by simp [ext]
    rw [e] at h7
    unfold wrap64 at h7
    omega
  have e8 : 8 ∉ used f.kind → f.bs = [] := fun hu => by have := valid_zero h 8 (by decide) hu; simpa [ext] using this
  have hu := valid_used h
  clear h
  obtain ⟨k, q, g, s, a, c, who, name, wt, ba, bc, bs⟩ := f
  simp only at e0 e1 e2 e3 e4 e5 e6 e7 e8 hu ⊢
  rcases kinds_or k with (rfl | rfl | rfl | rfl | rfl | rfl | rfl | rfl | rfl | rfl | rfl | rfl | rfl | rfl | rfl | rfl | rfl) | h1
  rotate_right
  · exact absurd (used_none k h1) hu
  · rw [used_1] at *; simp at e0 e1 e2 e3 e4 e5 e6 e7 e8; subst_vars; simp [fill, setF, zf, cellF, ext, Fr.pl]
  · rw [used_2] at *; simp at e0 e1 e2 e3 e4 e5 e6 e7 e8; subst_vars; simp [fill, setF, zf, cellF, Fr.pl]
  · rw [used_3] at *; simp at e0 e1 e2 e3 e4 e5 e6 e7 e8; subst_vars; simp [fill, setF, zf, cellF, Fr.pl]
  · rw [used_4] at *; simp at e0 e1 e2 e3 e4 e5 e6 e7 e8; subst_vars; simp [fill, setF, zf, cellF, ext, Fr.pl]
  · rw [used_5] at *; simp at e0 e1 e2 e3 e4 e5 e6 e7 e8; subst_vars; simp [fill, setF, zf, cellF, ext, Fr.pl]
  · rw [used_6] at *; simp at e0 e1 e2 e3 e4 e5 e6 e7 e8; subst_vars; simp [fill, setF, zf, cellF, ext, Fr.pl]
  · rw [used_7] at *; simp at e0 e1 e2 e3 e4 e5 e6 e7 e8; subst_vars; simp [fill, setF, zf, cellF, ext, Fr.pl]
  · rw [used_8] at *; simp at e0 e1 e2 e3 e4 e5 e6 e7 e8; subst_vars; simp [fill, setF, zf, cellF, ext, Fr.pl]
  · rw [used_9] at *; simp at e0 e1 e2 e3 e4 e5 e6 e7 e8; subst_vars; simp [fill, setF, zf, cellF, ext, Fr.pl]
  · rw [used_10] at *; simp at e0 e1 e2 e3 e4 e5 e6 e7 e8; subst_vars; simp [fill, setF, zf, cellF, ext, Fr.pl]
  · rw [used_11] at *; simp at e0 e1 e2 e3 e4 e5 e6 e7 e8; subst_vars; simp [fill, setF, zf, cellF, ext, Fr.pl]
  · rw [used_12] at *; simp at e0 e1 e2 e3 e4 e5 e6 e7 e8; subst_vars; simp [fill, setF, zf, cellF, ext, Fr.pl]
  · rw [used_13] at *; simp at e0 e1 e2 e3 e4 e5 e6 e7 e8; subst_vars; simp [fill, setF, zf, cellF, ext, Fr.pl]
  · rw [used_14] at *; simp at e0 e1 e2 e3 e4 e5 e6 e7 e8; subst_vars; simp [fill, setF, zf, cellF, ext, Fr.pl]
  · rw [used_15] at *; simp at e0 e1 e2 e3 e4 e5 e6 e7 e8; subst_vars; simp [fill, setF, zf, cellF, ext, Fr.pl]
  · rw [used_16] at *; simp at e0 e1 e2 e3 e4 e5 e6 e7 e8; subst_vars; simp [fill, setF, zf, cellF, ext, Fr.pl]
  · rw [used_17] at *; simp at e0 e1 e2 e3 e4 e5 e6 e7 e8; subst_vars; simp [fill, setF, zf, cellF, ext, Fr.pl]

/-- A cell that its letter keeps whole. -/
theorem norm_cellF (f : Fr) (x : Nat) (hx : x < 9) : F.normC (letter x).toNat (cellF f x) = cellF f x := by
  rcases ext_nine x hx with rfl | rfl | rfl | rfl | rfl | rfl | rfl | rfl | rfl <;> rfl
theorem norms_fields (f : Fr) : ∀ L : List Nat, (∀ x ∈ L, x < 9) → F.norms (L.map letter) (L.map (cellF f)) = L.map (cellF f)
  | [], _ => rfl
  | x :: L, h => by
    show F.normC (letter x).toNat (cellF f x) :: F.norms (L.map letter) (L.map (cellF f)) = _
    rw [norm_cellF f x (h x (by simp)), norms_fields f L (fun y hy => h y (by simp [hy]))]
    rfl
theorem norms_cellsP (f : Fr) (t : Int) : F.norms (layS f.kind) (cellsP f t) = cellsP f t := by
  show F.normC 104 { n := t } :: F.normC 98 { n := f.kind } :: F.norms (layL f.kind) ((used f.kind).map (cellF f)) = _
  unfold layL
  rw [norms_fields f _ (used_lt _)]
  rfl
/-- What is taken apart is kept whole by its letters. -/
theorem cellS_norm (c : Nat) (bs : List UInt8) : F.normC c (F.cellS c bs) = F.cellS c bs := by
  unfold F.normC F.cellS
  repeat' split
  all_goals rfl
theorem decS_norm : ∀ {l bs : List UInt8} {cs : List F.FC}, F.decS l bs = .ok cs → F.norms l cs = cs
  | [], bs, cs, h => by
    unfold F.decS at h
    split at h
    · cases h; rfl
    · cases h
  | c :: l, bs, cs, h => by
    unfold F.decS at h
    split at h
    · cases h
    · rename_i n hn
      split at h
      · cases h
      · rename_i r hr
        injection h with h
        subst h
        show F.normC c.toNat (F.cellS c.toNat (bs.take n)) :: F.norms l r = _
        rw [cellS_norm, decS_norm hr]
theorem norm_cases (x : Nat) (hx : x < 9) (c : F.FC) (h : F.normC (letter x).toNat c = c) (f : Fr) (A : Option Addr) (C : Nat) (hb : f.bs = []) : cellF (setF f x c A C) x = c := by
  obtain ⟨n, fl, s⟩ := c
  rcases ext_nine x hx with rfl | rfl | rfl | rfl | rfl | rfl | rfl | rfl | rfl
  all_goals
    simp [F.normC, letter, F.isT] at h
    obtain ⟨rfl, rfl⟩ := h
    simp [cellF, setF, ext, hb]
/-- Fields set beside a field leave it. -/
theorem cellF_other (f : Fr) (x y : Nat) (hx : x < 9) (hy : y < 9) (h : x ≠ y) (c : F.FC) (A : Option Addr) (C : Nat) : cellF (setF f y c A C) x = cellF f x := by
  rcases ext_nine x hx with rfl | rfl | rfl | rfl | rfl | rfl | rfl | rfl | rfl <;> rcases ext_nine y hy with rfl | rfl | rfl | rfl | rfl | rfl | rfl | rfl | rfl <;> first | exact absurd rfl h | simp [cellF, setF, ext]
theorem cellF_fill : ∀ (L : List Nat) (cs : List F.FC) (f : Fr) (x : Nat), x < 9 → (∀ y ∈ L, y < 9) → x ∉ L → cellF (fill f L cs) x = cellF f x
  | [], _, _, _, _, _, _ => by simp [fill]
  | _ :: _, [], _, _, _, _, _ => by simp [fill]
  | y :: L, c :: cs, f, x, hx, hL, hn => by
    show cellF (fill (setF f y c none 0) L cs) x = _
    rw [cellF_fill L cs _ x hx (fun z hz => hL z (by simp [hz])) (fun h => hn (by simp [h]))]
    exact cellF_other f x y hx (hL y (by simp)) (fun e => hn (by simp [e])) c none 0
theorem bs_fill (f : Fr) (x : Nat) (hx : x ≠ 8) (h9 : x < 9) (c : F.FC) (A : Option Addr) (C : Nat) : (setF f x c A C).bs = f.bs := by
  rcases ext_nine x h9 with rfl | rfl | rfl | rfl | rfl | rfl | rfl | rfl | rfl <;> first | exact absurd rfl hx | rfl
/-- The cells of a frame that is filled by cells are these. -/
theorem cells_fill : ∀ (L : List Nat) (cs : List F.FC) (f : Fr), (∀ y ∈ L, y < 9) → L.Nodup → cs.length = L.length → F.norms (L.map letter) cs = cs → f.bs = [] → L.map (cellF (fill f L cs)) = cs
  | [], cs, f, _, _, hl, _, _ => by
    have : cs = [] := List.eq_nil_of_length_eq_zero hl
    subst this; rfl
  | x :: L, [], f, _, _, hl, _, _ => by simp at hl
  | x :: L, c :: cs, f, hL, hnd, hl, hn, hb => by
    have hn' : F.normC (letter x).toNat c :: F.norms (L.map letter) cs = c :: cs := hn
    injection hn' with h1 h2
    rw [List.nodup_cons] at hnd
    show cellF (fill (setF f x c none 0) L cs) x :: L.map (cellF (fill (setF f x c none 0) L cs)) = c :: cs
    rw [cellF_fill L cs _ x (hL x (by simp)) (fun y hy => hL y (by simp [hy])) hnd.1, norm_cases x (hL x (by simp)) c h1 f none 0 hb]
    congr 1
    by_cases h8 : x = 8
    · cases L with
      | nil =>
        have : cs = [] := List.eq_nil_of_length_eq_zero (by simpa using hl)
        subst this; rfl
      | cons y L =>
        -- bytes stand last in every layout: this case is met by 'last8'
        subst h8
        exact cells_fill8 (y :: L) cs _ (fun y hy => hL y (by simp [hy])) hnd.2 (by simpa using hl) h2 hnd.1
    · exact cells_fill L cs _ (fun y hy => hL y (by simp [hy])) hnd.2 (by simpa using hl) h2 (by rw [bs_fill f x h8 (hL x (by simp))]; exact hb)
where
  cells_fill8 : ∀ (L : List Nat) (cs : List F.FC) (f : Fr), (∀ y ∈ L, y < 9) → L.Nodup → cs.length = L.length → F.norms (L.map letter) cs = cs → 8 ∉ L → L.map (cellF (fill f L cs)) = cs
  | [], cs, f, _, _, hl, _, _ => by
    have : cs = [] := List.eq_nil_of_length_eq_zero hl
    subst this; rfl
  | x :: L, [], f, _, _, hl, _, _ => by simp at hl
  | x :: L, c :: cs, f, hL, hnd, hl, hn, hb => by
    have hn' : F.normC (letter x).toNat c :: F.norms (L.map letter) cs = c :: cs := hn
    injection hn' with h1 h2
    rw [List.nodup_cons] at hnd
    have hx8 : x ≠ 8 := fun e => hb (by simp [e])
    show cellF (fill (setF f x c none 0) L cs) x :: L.map (cellF (fill (setF f x c none 0) L cs)) = c :: cs
    rw [cellF_fill L cs _ x (hL x (by simp)) (fun y hy => hL y (by simp [hy])) hnd.1, norm_not8 x (hL x (by simp)) hx8 c h1 f none 0]
    congr 1
    exact cells_fill8 L cs _ (fun y hy => hL y (by simp [hy])) hnd.2 (by simpa using hl) h2 (fun h => hb (by simp [h]))
  norm_not8 (x : Nat) (hx : x < 9) (h8 : x ≠ 8) (c : F.FC) (h : F.normC (letter x).toNat c = c) (f : Fr) (A : Option Addr) (C : Nat) : cellF (setF f x c A C) x = c := by
    obtain ⟨n, fl, s⟩ := c
    rcases ext_nine x hx with rfl | rfl | rfl | rfl | rfl | rfl | rfl | rfl | rfl
    all_goals first | exact absurd rfl h8 | (simp [F.normC, letter, F.isT] at h; obtain ⟨rfl, rfl⟩ := h; simp [cellF, setF, ext])
theorem used_nodup (k : Int) : (used k).Nodup := by
  rcases kinds_or k with (rfl | rfl | rfl | rfl | rfl | rfl | rfl | rfl | rfl | rfl | rfl | rfl | rfl | rfl | rfl | rfl | rfl) | h
  rotate_right
  · rw [used_none k h]; simp
  all_goals decide
theorem total_1020 (f : Fr) (h : valid f = true) : total f ≤ 1020 := by
  have hw := valid_within h
  have hu := valid_used h
  have h5 : 5 ∈ used f.kind → wid f 5 ≤ 17 := fun hm => by
    have h2 := (hw 5 hm).2
    have e1 : hi f.kind 5 = 16 := rfl
    have e2 : ext f 5 = (f.who.size : Int) := rfl
    have e3 : wid f 5 = 1 + f.who.size := rfl
    omega
  have h6 : 6 ∈ used f.kind → wid f 6 ≤ 64 := fun hm => by
    have h2 := (hw 6 hm).2
    have e1 : hi f.kind 6 = 63 := rfl
    have e2 : ext f 6 = (f.name.size : Int) := rfl
    have e3 : wid f 6 = 1 + f.name.size := rfl
    omega
  have h8 : 8 ∈ used f.kind → wid f 8 ≤ 514 := fun hm => wid_le f 8 (by decide) (hw 8 hm)
  have w0 : wid f 0 = 8 := rfl
  have w1 : wid f 1 = 8 := rfl
  have w2 : wid f 2 = 4 := rfl
  have w3 : wid f 3 = 4 := rfl
  have w4 : wid f 4 = 1 := rfl
  have w7 : wid f 7 = 8 := rfl
  unfold total
  generalize wid f = g at *
  generalize f.kind = k at *
  clear hw h
  rcases kinds_or k with (rfl | rfl | rfl | rfl | rfl | rfl | rfl | rfl | rfl | rfl | rfl | rfl | rfl | rfl | rfl | rfl | rfl) | h1
  rotate_right
  · exact absurd (used_none k h1) hu
  · rw [used_1] at *; simp at h5 h6 h8 ⊢; omega
  · rw [used_2] at *; simp at h5 h6 h8 ⊢; omega
  · rw [used_3] at *; simp at h5 h6 h8 ⊢; omega
  · rw [used_4] at *; simp at h5 h6 h8 ⊢; omega
  · rw [used_5] at *; simp at h5 h6 h8 ⊢; omega
  · rw [used_6] at *; simp at h5 h6 h8 ⊢; omega
  · rw [used_7] at *; simp at h5 h6 h8 ⊢; omega
  · rw [used_8] at *; simp at h5 h6 h8 ⊢; omega
  · rw [used_9] at *; simp at h5 h6 h8 ⊢; omega
  · rw [used_10] at *; simp at h5 h6 h8 ⊢; omega
  · rw [used_11] at *; simp at h5 h6 h8 ⊢; omega
  · rw [used_12] at *; simp at h5 h6 h8 ⊢; omega
  · rw [used_13] at *; simp at h5 h6 h8 ⊢; omega
  · rw [used_14] at *; simp at h5 h6 h8 ⊢; omega
  · rw [used_15] at *; simp at h5 h6 h8 ⊢; omega
  · rw [used_16] at *; simp at h5 h6 h8 ⊢; omega
  · rw [used_17] at *; simp at h5 h6 h8 ⊢; omega

/-- The first three bytes: the length told, the kind. -/
theorem cov_head (f : Fr) : ∃ r, cov f = F.be 2 ((total f : Int) - 2).toNat ++ (F.be 1 f.kind.toNat ++ r) := by
  refine ⟨F.encB (layL f.kind) ((used f.kind).map (cellF f)), ?_⟩
  show F.fieldB 104 { n := (total f : Int) - 2 } ++ (F.fieldB 98 { n := f.kind } ++ _) = _
  rfl
theorem be1 (n : Nat) : F.be 1 n = [UInt8.ofNat n] := by
  apply List.ext_getElem
  · rw [F.be_length]; rfl
  · intro i h1 h2
    have : i = 0 := by rw [F.be_length] at h1; omega
    subst this
    rw [F.be_getElem 1 n 0 (by decide)]
    simp
theorem kindOf_cov {f : Fr} (h : valid f = true) : kindOf (cov f) = f.kind := by
  obtain ⟨r, e⟩ := cov_head f
  have hk := used_kind _ (valid_used h)
  unfold kindOf
  rw [e, be1]
  have e2 : (F.be 2 ((total f : Int) - 2).toNat ++ ([UInt8.ofNat f.kind.toNat] ++ r)).getD 2 0 = UInt8.ofNat f.kind.toNat := by
    rw [List.getD_eq_getElem?_getD, List.getElem?_append_right (by rw [F.be_length]; exact Nat.le_refl _), F.be_length]
    rfl
  rw [e2, UInt8.toNat_ofNat', Nat.mod_eq_of_lt (by omega)]
  omega
theorem cells_okP (f : Fr) (hf : f.who.size ≤ maxLen) (hn : f.name.size ≤ maxLen) (hw : f.weight < 18446744073709551616) (h : valid f = true) : ∀ x ∈ cellsP f ((total f : Int) - 2), x.ok := by
  have hb : f.bs.length ≤ 9223372036854775807 := by
    by_cases hm : 8 ∈ used f.kind
    · have h1 := (valid_within h 8 hm).2
      have h2 := bhi_le f.kind
      have e : ext f 8 = (f.bs.length : Int) := rfl
      have e2 : hi f.kind 8 = bhi f.kind := rfl
      omega
    · have := valid_zero h 8 (by decide) hm
      have e : ext f 8 = (f.bs.length : Int) := rfl
      omega
  have ht := total_le f h
  have hk := used_kind _ (valid_used h)
  have z : F.FC.ok {} := ⟨by decide, by decide, by decide, by show (0 : Nat) ≤ _; exact Nat.zero_le _⟩
  intro x hx
  unfold cellsP at hx
  rcases List.mem_append.1 hx with hx | hx
  · simp at hx
    rcases hx with rfl | rfl
    · exact ⟨by show _ ≤ (total f : Int) - 2; omega, by show (total f : Int) - 2 ≤ _; omega, z.2.2.1, z.2.2.2⟩
    · exact ⟨by show _ ≤ f.kind; omega, by show f.kind ≤ _; omega, z.2.2.1, z.2.2.2⟩
  · obtain ⟨y, hy, rfl⟩ := List.mem_map.1 hx
    have hv := valid_within h y hy
    unfold cellF
    split
    · exact ⟨z.1, z.2.1, z.2.2.1, hf⟩
    split
    · exact ⟨z.1, z.2.1, z.2.2.1, hn⟩
    split
    · exact ⟨z.1, z.2.1, hw, z.2.2.2⟩
    split
    · exact ⟨z.1, z.2.1, z.2.2.1, by show f.bs.toArray.size ≤ maxLen; have e : maxLen = 9223372036854775807 := rfl; rw [e]; simpa using hb⟩
    · rename_i h5 h6 h7 h8
      have h9 := used_lt _ y hy
      obtain ⟨v1, v2⟩ := hv
      rcases ext_nine y h9 with rfl | rfl | rfl | rfl | rfl | rfl | rfl | rfl | rfl
      · exact ⟨by show _ ≤ ext f 0; simp [lo] at v1; omega, by show ext f 0 ≤ _; simp [hi] at v2; omega, z.2.2.1, z.2.2.2⟩
      · exact ⟨by show _ ≤ ext f 1; simp [lo] at v1; omega, by show ext f 1 ≤ _; simp [hi] at v2; omega, z.2.2.1, z.2.2.2⟩
      · exact ⟨by show _ ≤ ext f 2; simp [lo] at v1; omega, by show ext f 2 ≤ _; simp [hi] at v2; omega, z.2.2.1, z.2.2.2⟩
      · exact ⟨by show _ ≤ ext f 3; simp [lo] at v1; omega, by show ext f 3 ≤ _; simp [hi] at v2; omega, z.2.2.1, z.2.2.2⟩
      · exact ⟨by show _ ≤ ext f 4; simp [lo] at v1; omega, by show ext f 4 ≤ _; simp [hi] at v2; omega, z.2.2.1, z.2.2.2⟩
      · exact absurd rfl h5
      · exact absurd rfl h6
      · exact absurd rfl h7
      · exact absurd rfl h8
/-- A frame whose texts and weight fit. -/
def Fr.fit (f : Fr) : Prop := f.who.size ≤ maxLen ∧ f.name.size ≤ maxLen ∧ f.weight < 18446744073709551616
theorem Fr.ok.fit {f : Fr} {w : World} {B : Nat} (h : f.ok w B) : f.fit := ⟨h.who, h.name, h.weight⟩
theorem openB_cov {f : Fr} (h : valid f = true) (hf : f.fit) : openB (cov f) = some f.pl := by
  have ht := total_le f h
  have hs := sumS_frame f ((total f : Int) - 2) h (by omega) (by omega)
  have hd := F.dec_enc (kn_layS f.kind) (by rw [cellsP_length', layS_length']) (cells_okP f hf.1 hf.2.1 hf.2.2 h) hs []
  rw [List.append_nil, if_pos rfl, norms_cellsP] at hd
  unfold openB
  rw [kindOf_cov h]
  have hd2 : F.decS (layS f.kind) (cov f) = .ok ({ n := (total f : Int) - 2 } :: { n := f.kind } :: (used f.kind).map (cellF f)) := hd
  rw [hd2]
  simp only
  rw [if_pos (by rw [cov_length f h]), fill_cells h hf.2.2]
where
  cellsP_length' : ∀ {f : Fr} {t : Int}, (cellsP f t).length = 2 + (used f.kind).length := by
    intro f t
    unfold cellsP
    rw [List.length_append, List.length_map]
    rfl
  layS_length' : ∀ {k : Int}, (layS k).length = 2 + (used k).length := by
    intro k
    unfold layS layL
    rw [List.length_append, List.length_map]
    rfl
theorem getB_putB {f : Fr} (h : valid f = true) (hf : f.fit) : getB (putB f) = some f.pl := by
  have h1 := total_1020 f h
  have h2 := total_le f h
  have hl := putB_length f h
  have hc := cov_length f h
  have e : (putB f).take ((putB f).length - 4) = cov f := by
    rw [hl, Nat.add_sub_cancel]
    unfold putB
    rw [List.take_append_of_le_length (by omega), List.take_of_length_le (by omega)]
  unfold getB
  have h7 : 7 ≤ (putB f).length := by
    have hu := valid_used h
    have : 4 ≤ total f := by
      unfold total
      cases hq : used f.kind with
      | nil => exact absurd hq hu
      | cons x L =>
        have : 1 ≤ wid f x := by unfold wid; repeat' split
                                 all_goals omega
        simp only [List.map_cons, List.sum_cons]
        omega
    omega
  rw [e, if_pos ⟨h7, by omega, rfl⟩, openB_cov h hf]
  show (if valid f.pl = true then some f.pl else none) = _
  rw [valid_pl, if_pos h]
theorem getB_some {bs : List UInt8} {f : Fr} (h : getB bs = some f) : valid f = true ∧ f.pl = f ∧ f.fit ∧ putB f = bs ∧ 7 ≤ bs.length ∧ bs.length ≤ 1024 := by
  unfold getB at h
  split at h
  · rename_i hc
    obtain ⟨h7, h1024, hseal⟩ := hc
    generalize hC : bs.take (bs.length - 4) = C at *
    have hCl : C.length = bs.length - 4 := by rw [← hC, List.length_take]; omega
    unfold goodF at h
    split at h
    · rename_i g hg
      split at h
      · rename_i hv
        injection h with h
        subst h
        unfold openB at hg
        split at hg
        · rename_i y z cs hdec
          split at hg
          · rename_i hy
            injection hg with hg
            have hmx : C.length ≤ maxLen := by have e : maxLen = 9223372036854775807 := rfl; rw [e]; omega
            obtain ⟨q1, q2, q3, q4⟩ := F.enc_dec (kn_layS _) hmx hdec
            have hn := decS_norm hdec
            have hkind : g.kind = kindOf C := by rw [← hg, fill_kind]; rfl
            have hn1 : F.normC 104 y :: F.normC 98 z :: F.norms (layL (kindOf C)) cs = y :: z :: cs := hn
            injection hn1 with hn1 hn2
            injection hn2 with hn2 hn3
            have hlen : cs.length = (used (kindOf C)).length := by
              have : (layS (kindOf C)).length = 2 + (used (kindOf C)).length := by unfold layS layL; rw [List.length_append, List.length_map]; rfl
              rw [this] at q1
              simp at q1
              omega
            have hcs : (used (kindOf C)).map (cellF g) = cs := by
              rw [← hg]
              exact cells_fill _ cs _ (used_lt _) (used_nodup _) hlen hn3 rfl
            have hz : z.n = kindOf C := by
              have hk98 : F.encB (layS (kindOf C)) (y :: z :: cs) = F.be 2 y.n.toNat ++ (F.be 1 z.n.toNat ++ F.encB (layL (kindOf C)) cs) := rfl
              have hz0 : 0 ≤ z.n ∧ z.n ≤ 255 := by
                obtain ⟨n1, k1, s1, s2, _⟩ := F.sumS_cons (c := 104) (l := 98 :: layL (kindOf C)) (x := y) (cs := z :: cs) q3
                obtain ⟨n2, k2, s3, s4, _⟩ := F.sumS_cons (c := 98) (l := layL (kindOf C)) (x := z) (cs := cs) s2
                rcases F.sizeS_inv s3 with ⟨e, _⟩ | ⟨_, e, _⟩ | ⟨_, _, e1, e2, _⟩
                · exact absurd e (by decide)
                · exact absurd e (by decide)
                · exact ⟨e1, e2⟩
              have e3 : C.getD 2 0 = UInt8.ofNat z.n.toNat := by
                rw [← q2, hk98, be1, List.getD_eq_getElem?_getD, List.getElem?_append_right (by rw [F.be_length]; exact Nat.le_refl _), F.be_length]
                rfl
              unfold kindOf
              rw [e3, UInt8.toNat_ofNat', Nat.mod_eq_of_lt (by omega)]
              omega
            have hyc : y = { n := y.n } := by
              obtain ⟨a, b, c⟩ := y
              simp [F.normC, F.isT] at hn1
              obtain ⟨rfl, rfl⟩ := hn1
              rfl
            have hzc : z = { n := z.n } := by
              obtain ⟨a, b, c⟩ := z
              simp [F.normC, F.isT] at hn2
              obtain ⟨rfl, rfl⟩ := hn2
              rfl
            have hP : cellsP g ((C.length : Int) - 2) = y :: z :: cs := by
              show { n := (C.length : Int) - 2 } :: { n := g.kind } :: (used g.kind).map (cellF g) = _
              rw [hkind, hcs, hyc, hzc, hy, hz]
            have ht := total_le g hv
            have hT : total g = C.length := by
              have h1 := sumS_frame g ((C.length : Int) - 2) hv (by omega) (by omega)
              rw [hP, hkind, q3] at h1
              injection h1 with h1
              exact h1.symm
            have hcov : cov g = C := by
              unfold cov
              rw [hT, hP, hkind]
              exact q2
            have hfit : g.fit := by
              have hok : ∀ x ∈ cs, x.ok := fun x hx => q4 x (by simp [hx])
              have hmm : maxLen = 9223372036854775807 := rfl
              refine ⟨?_, ?_, ?_⟩
              · by_cases hm : 5 ∈ used g.kind
                · have h1 := (valid_within hv 5 hm).2
                  have e1 : hi g.kind 5 = 16 := rfl
                  have e2 : ext g 5 = (g.who.size : Int) := rfl
                  rw [hmm]; omega
                · have h1 := valid_zero hv 5 (by decide) hm
                  have e2 : ext g 5 = (g.who.size : Int) := rfl
                  rw [hmm]; omega
              · by_cases hm : 6 ∈ used g.kind
                · have h1 := (valid_within hv 6 hm).2
                  have e1 : hi g.kind 6 = 63 := rfl
                  have e2 : ext g 6 = (g.name.size : Int) := rfl
                  rw [hmm]; omega
                · have h1 := valid_zero hv 6 (by decide) hm
                  have e2 : ext g 6 = (g.name.size : Int) := rfl
                  rw [hmm]; omega
              · by_cases hm : 7 ∈ used (kindOf C)
                · have : cellF g 7 ∈ cs := by rw [← hcs]; exact List.mem_map.2 ⟨7, hm, rfl⟩
                  exact (hok _ this).2.2.1
                · have e7 : cellF g 7 = cellF (zf (kindOf C)) 7 := by
                    rw [← hg]
                    exact cellF_fill _ cs _ 7 (by decide) (used_lt _) hm
                  have : g.weight = 0 := congrArg F.FC.f e7
                  omega
            refine ⟨hv, ?_, hfit, ?_, h7, h1024⟩
            · rw [← hg]; exact fill_plain _ cs _ rfl
            · unfold putB
              rw [hcov]
              exact hseal
          · cases hg
        · cases hg
      · cases h
    · cases h
  · cases h
theorem getB_none {bs : List UInt8} (h : getB bs = none) (f : Fr) (hv : valid f = true) (hf : f.fit) : putB f ≠ bs := fun e => by
  have := getB_putB hv hf
  rw [e, h] at this
  cases this
theorem putB_inj {f g : Fr} (h : valid f = true) (hf : f.fit) (k : valid g = true) (kf : g.fit) (e : putB f = putB g) : f.pl = g.pl := by
  have h1 := getB_putB h hf
  rw [e, getB_putB k kf] at h1
  exact (Option.some.inj h1).symm
end Go.Proofs.YtmhfhdbaeijcfaaDoor
namespace Go.Proofs.YtmhfhdbaeijcfaaDoor
open Go.RowKit

theorem word_pos (f : Ieee.Format) (neg : Bool) (r : Nat) (h : 0 < r) : 0 < f.word neg r := by
  unfold Ieee.Format.word
  split <;> omega
theorem nearest_pos (n : Int) (h : n ≠ 0) : 0 < FloatKind.f64.nearest n := by
  unfold FloatKind.nearest FloatKind.encode Ieee.Format.write Ieee.Format.nearest
  dsimp only
  rw [if_neg (by omega)]
  refine word_pos _ _ _ ?_
  have hl : FloatKind.f64.format.leastPlace = -1074 := by rfl
  have hf : (FloatKind.f64.format.fractionBits : Int) = 52 := by rfl
  have hb : FloatKind.f64.format.binade = 4503599627370496 := by rfl
  have hi : 0 < FloatKind.f64.format.infRung := by decide
  rw [hl, hf, hb]
  have ha : 1 ≤ (max ((0 : Int) + (n.natAbs.log2 : Int) - 52) (-1074) - -1074).toNat := by omega
  have hm : 4503599627370496 ≤ (max ((0 : Int) + (n.natAbs.log2 : Int) - 52) (-1074) - -1074).toNat * 4503599627370496 := by omega
  omega
theorem nearest_bound (n : Int) : FloatKind.f64.nearest n < 18446744073709551616 := by
  have h : FloatKind.f64.nearest n < 2 ^ FloatKind.f64.format.width := Ieee.Format.write_lt FloatKind.f64.format (.number (n < 0) n.natAbs 0)
  have e : 2 ^ FloatKind.f64.format.width = 18446744073709551616 := rfl
  rwa [e] at h
theorem wrap_nearest (n : Int) (h : n ≠ 0) : wrap64 (FloatKind.f64.nearest n : Int) ≠ 0 := by
  have h1 := nearest_pos n h
  have h2 := nearest_bound n
  generalize FloatKind.f64.nearest n = m at *
  unfold wrap64
  omega
end Go.Proofs.YtmhfhdbaeijcfaaDoor
namespace Go.Proofs.YtmhfhdbaeijcfaaDoor
open Go.RowKit

theorem inv_set (g : Fr) (x : Nat) (hx : x < 9) (hu : x ∉ used g.kind) (he : ext g x ≠ 0) : valid g = false := by
  refine invalid_of g x hx ?_
  unfold fits least most
  simp [hu]
  omega
theorem not_used {f : Fr} (h : valid f = true) (x : Nat) (hl : 1 ≤ lo f.kind x) (he : ext f x = 0) : x ∉ used f.kind := fun hu => by
  have h1 := (valid_within h x hu).1
  omega
theorem inv_seq {f : Fr} (h : valid f = true) (h0 : f.seq = 0) (z : Int) (hz : z ≠ 0) : valid { f with seq := z } = false :=
  inv_set _ 0 (by decide) (not_used h 0 (by simp [lo]) (by simpa [ext] using h0)) (by simpa [ext] using hz)
theorem inv_stream {f : Fr} (h : valid f = true) (h0 : f.stream = 0) (z : Int) (hz : z ≠ 0) : valid { f with stream := z } = false :=
  inv_set _ 2 (by decide) (not_used h 2 (by simp [lo]) (by simpa [ext] using h0)) (by simpa [ext] using hz)
theorem inv_name {f : Fr} (h : valid f = true) (h0 : f.name.size = 0) (s : ByteArray) (hs : s.size ≠ 0) : valid { f with name := s } = false :=
  inv_set _ 6 (by decide) (not_used h 6 (by simp [lo]) (by show ext f 6 = 0; unfold ext; simp only [show (6 : Nat) ≠ 0 by decide, show (6 : Nat) ≠ 1 by decide, show (6 : Nat) ≠ 2 by decide, show (6 : Nat) ≠ 3 by decide, show (6 : Nat) ≠ 4 by decide, show (6 : Nat) ≠ 5 by decide, if_false, if_true]; omega)) (by
    have e : ext { f with name := s } 6 = (s.size : Int) := rfl
    rw [e]
    omega)
theorem inv_bytes (f : Fr) (hk : f.kind = 15) (A : Option Addr) (c : Nat) (bs : List UInt8) (hs : bs ≠ []) : valid { f with ba := A, bc := c, bs := bs } = false :=
  inv_set _ 8 (by decide) (by show 8 ∉ used f.kind; rw [hk]; decide) (by simpa [ext] using hs)
theorem inv_amount (f : Fr) (hk : f.kind = 9) (z : Int) (hz : z ≠ 0) : valid { f with amount := z } = false :=
  inv_set _ 3 (by decide) (by show 3 ∉ used f.kind; rw [hk]; decide) (by simpa [ext] using hz)
theorem inv_code (f : Fr) (hk : f.kind = 6) (z : Int) (hz : z ≠ 0) : valid { f with code := z } = false :=
  inv_set _ 4 (by decide) (by show 4 ∉ used f.kind; rw [hk]; decide) (by simpa [ext] using hz)
theorem inv_weight (f : Fr) (hk : f.kind = 14) (z : Int) (hz : z ≠ 0) : valid { f with weight := FloatKind.f64.nearest z } = false :=
  inv_set _ 7 (by decide) (by show 7 ∉ used f.kind; rw [hk]; decide) (by simpa [ext] using wrap_nearest z hz)
end Go.Proofs.YtmhfhdbaeijcfaaDoor

/- What (*sum).finish answers: the digest of the stream. -/
import Derived.Test.YtlmdafldggbiaaaDoorHAll
namespace Go.Proofs.YtlmdafldggbiaaaDoor.H
open Go.RowKit

theorem SumT.below {w w' : World} {g : Nat} {S : List UInt8} {T : Nat} (h : SumT w g S T) {B : Nat} (hb : Below B w w') (hg : g < B) : SumT w' g S T := by
  obtain ⟨blk, h1, h2, h3⟩ := h
  exact ⟨blk, h1, h2, h3.below hb hg⟩
theorem SumT.lt {w : World} {g : Nat} {S : List UInt8} {T : Nat} (h : SumT w g S T) : g < w.heap.size := by
  obtain ⟨blk, _, _, h3⟩ := h
  exact h3.lt
/-- On the way to the digest: the sum, what was left alone, the result's variable. -/
structure Fin (w W : World) (g g0 : Nat) (S : List UInt8) (T : Nat) : Prop where
  sum : SumT W g S T
  sole : Sole g w W
  res : Row W g0 115 (List.replicate 32 (.int .u8 0))
theorem Fin.below {w W W' : World} {g g0 : Nat} {S : List UInt8} {T : Nat} (h : Fin w W g g0 S T) (hb : Below W.heap.size W W') : Fin w W' g g0 S T :=
  ⟨h.sum.below hb h.sum.lt, h.sole.trans (Sole.of_below hb), h.res.below hb h.res.lt⟩
theorem Fin.next {w W W' : World} {g g0 : Nat} {S S' : List UInt8} {T T' : Nat} (h : Fin w W g g0 S T) (hne : g0 ≠ g) (hs : SumT W' g S' T') (hw : Sole g W W') : Fin w W' g g0 S' T' :=
  ⟨hs, h.sole.trans hw, hw.row h.res hne⟩
theorem Src.new (w : World) (cs : Array Value) (bs : List UInt8) (g : Nat) (hg : g < w.heap.size) (h : cs.toList = bs.map bv) : Src (w.alloc (.cells cs 5)) g (some ⟨w.heap.size, 0, none⟩) bs :=
  ⟨.inr ⟨_, rfl, by simp, by rw [← h]; exact cells_new w cs 5⟩, fun _ ad had => by injection had with had; rw [← had]; show w.heap.size ≠ g; omega⟩
theorem Src.own {w : World} {base n c : Nat} {A : Option Addr} {bs : List UInt8} {g : Nat} (h : w.ownsRow base 5 1 (.slice A n c) n (bs.map bv)) (hg : g < base) : Src w g A bs ∧ bs.length = n ∧ n ≤ c ∧ c ≤ 9223372036854775807 := by
  obtain ⟨A', c', e, h1, h2, h3, h4, h5⟩ := own_slice h
  injection e with e1 e2 e3
  subst e1 e3
  refine ⟨⟨h4, fun hne ad had => ?_⟩, h1, h2, h3⟩
  obtain ⟨g', h6, h7⟩ := h5 hne
  rw [had] at h6
  injection h6 with h6
  rw [h6]
  show g' ≠ g
  omega
theorem below_none {w w' : World} (h : w.grownBy w' none) : Below w.heap.size w w' := (Below.refl _ _).grown h (Nat.le_refl _) (fun k hk => by cases hk)
theorem made_zeros (n : Nat) : (madeCells (Value.int .u8 0).cells (n * 1)).toList = (List.replicate n (0 : UInt8)).map bv := by
  apply List.ext_getElem?
  intro j
  by_cases hj : j < n
  · simp [madeCells, Value.cells, bv, hj, Nat.mod_one]
  · simp [madeCells, Value.cells, bv, hj]
theorem appendWord_lit (base : Nat) (v0 : Value) (xs : List Value) (x : Wd) (z : Int) (w : World) (hz : z = U x) (hown : w.ownsRow base 5 1 v0 xs.length xs) (hbase : base ≤ w.heap.size) (hlen : xs.length + 4 ≤ 140737488355328) :
    Calls Tryd.prog 71 #[v0, .int .u32 z] w fun e w' => ∃ v, e = .returned v ∧ Hid (Acc w w' base v0 v (xs ++ (wordBytes x).map bv)) := by
  subst hz
  exact appendWord_any base v0 xs x w hown hbase hlen
theorem U_ofNat (n : Nat) : (n : Int) % 4294967296 = U (BitVec.ofNat 32 n) := by
  unfold U
  rw [BitVec.toNat_ofNat]
  omega

theorem U_small (n : Nat) (h : n < 4294967296) : (n : Int) = U (BitVec.ofNat 32 n) := by rw [← U_ofNat]; omega
theorem wl_mid {w : World} {ops : Array Oper} {rest : List Oper} {o : Oper} {a : Act} {Q : Exit → Act → World → Prop} (hgd : o.guard = none) (ty : TypeId) (x : Operand) (ho : o.op = .load ty x)
    (b off : Nat) (hx : a.eval x = .pointer (some ⟨b, off, none⟩)) (cs : List Value) (d : TypeDesc) (hc : w.rangeAt b off cs) (hu : Tryd.prog.underlying ty = some d) (hd : d.isRow = true) (hi : (Tryd.prog.info? ty).map (·.size) = some cs.length)
    (h : ∀ v, Hid (v = Value.agg cs.toArray) → wpList Tryd.prog ops Q rest (a.put o.dst v) w) : wpList Tryd.prog ops Q (o :: rest) a w :=
  wpList_load_mid hgd ty x ho b off hx cs d hc hu hd hi (h _ rfl)
theorem info44 : (Tryd.prog.info? 120).map (fun i => (i.zero, i.size)) = some (some (.agg (List.replicate 8 (Value.int .u32 0)).toArray), 8) := by kernel_rfl
theorem Row.range {w : World} {g : Nat} {t : TypeId} {cs ds es : List Value} {o : Nat} (h : Row w g t cs) (hc : cs.drop o = ds ++ es) : w.rangeAt g o ds := by
  intro j v hv
  rw [h.cell]
  have h1 : (cs.drop o)[j]? = some v := by rw [hc, List.getElem?_append_left (List.getElem?_eq_some_iff.1 hv).1]; exact hv
  rwa [List.getElem?_drop] at h1
theorem run_arrayAt (w : World) (t : TypeId) (n : Nat) (hu : Tryd.prog.underlying t = some (.array n 5)) (A : Option Addr) (m c : Nat) (h : n ≤ m) : (Instr.arrayAt t (.slice A m c)).run Tryd.prog w = .ok (.pointer A) w := by
  have h1 : ¬ m < n := by omega
  simp [Instr.arrayAt, run_underlying hu, h1]
theorem flat_words (l : List Wd) (k : Nat) (h : k < l.length) : (l.take (k + 1)).flatMap wordBytes = (l.take k).flatMap wordBytes ++ wordBytes (l.getD k 0) := by
  rw [List.take_succ_eq_append_getElem h, List.flatMap_append]
  simp [h]
theorem flat_words_length (l : List Wd) (k : Nat) (h : k ≤ l.length) : ((l.take k).flatMap wordBytes).length = 4 * k := by
  induction k with
  | zero => rfl
  | succ k ih => rw [flat_words l k h, List.length_append, ih (by omega), wordBytes_length]; omega
theorem Row.grown {w w' : World} {g : Nat} {t : TypeId} {cs : List Value} (h : Row w g t cs) {r : Option Nat} (hg : w.grownBy w' r) (hr : r ≠ some g) : Row w' g t cs := (hg.block g h.lt (fun e => hr e.symm)).trans h

theorem Acc.trans {w0 w w' : World} {base : Nat} {v0 v v' : Value} {xs ys : List Value} (h : Acc w0 w base v0 v xs) (k : Acc w w' base v v' ys) : Acc w0 w' base v0 v' ys := by
  refine ⟨k.own, h.grown.andThen k.grown (fun j hj => ?_), ?_⟩
  · rcases h.lies with e | ⟨g, e, hge⟩
    · right; rw [← e]; exact hj
    · left; rw [e] at hj; injection hj with hj; omega
  · rcases k.lies with e | ⟨g, e, hge⟩
    · rcases h.lies with e2 | ⟨g2, e2, hge2⟩
      · exact .inl (e.trans e2)
      · exact .inr ⟨g2, e.trans e2, hge2⟩
    · exact .inr ⟨g, e, Nat.le_trans h.grown.size hge⟩

set_option maxRecDepth 100000 in
set_option maxHeartbeats 1000000 in
theorem finish_any (g : Nat) (S : List UInt8) (w : World) (hK : Ktab w) (hg0 : 19 < g) (hS : S.length < 1152921504606846976) (hs : SumT w g S S.length) :
    Calls Tryd.prog 67 #[.pointer (some ⟨g, 0, none⟩)] w fun e w' => ∃ v, e = .returned v ∧ Hid (v = .agg ((digest S).map bv).toArray ∧ Sole g w w') := by
  obtain ⟨i0, hi0, hz0, hz1, hz2⟩ := info_parts' u8_info
  have HI := Lib.hid (And.intro hi0 (And.intro hz0 (And.intro hz1 hz2)))
  clear hi0 hz0 hz1 hz2
  have hg := hs.lt
  have HK := Lib.hid hK
  have HS : Shut (SumT w g S S.length) := ⟨hs⟩
  obtain ⟨T, HT⟩ : ∃ T, Shut (T = S.length) := ⟨_, ⟨rfl⟩⟩
  rw [← HT.out] at hS
  have hT8 : 8 * T < 18446744073709551616 := by omega
  clear hK hs
  go_enter Tryd.func67, Tryd.ntmps67
  go_wp2_with (first
    | (refine wl_alloc (o := ⟨some 2, _, _, _, _, _⟩) rfl 115 rfl _ _ info27 ?_
       intro w1 HA HB HZ
       have cT : w1.cell? ⟨g, 73, none⟩ = some (.int .u64 (T : Int)) := by
         obtain ⟨blk, h1, h2, h3⟩ := HS.out.below HB.out hg
         rw [h3.cell, sumCells_total_at _ _ _ _ h1, HT.out]))
  have hne : w.heap.size ≠ g := by omega
  have HF1 : Shut (Fin w w1 g w.heap.size S T) := ⟨⟨by rw [HT.out]; exact HS.out.below HB.out hg, Sole.of_below HB.out, HA.out⟩⟩
  have HB2 : Hid (Below w1.heap.size w1 (w1.alloc (.cells #[.int .u8 128] 5))) := Lib.hid ((Below.refl _ _).alloc (Nat.le_refl _) _)
  have HF2 : Shut (Fin w (w1.alloc (.cells #[.int .u8 128] 5)) g w.heap.size S T) := ⟨HF1.out.below HB2.out⟩
  have hgw1 : g < w1.heap.size := HF1.out.sum.lt
  clear cT HA HB HZ
  with_reducible refine (add_any g S T 1 1 _ [0x80] _ (HK.out.sole hg0 HF2.out.sole) hg0 rfl (by decide) (by decide) (by omega) (Src.new w1 _ [0x80] g hgw1 rfl) HF2.out.sum).mono ?_
  rintro e w2 ⟨rfl, HA2⟩
  have HF3 : Shut (Fin w w2 g w.heap.size (S ++ [0x80]) (T + 1)) := ⟨HF2.out.next hne HA2.out.1 HA2.out.2⟩
  clear HA2 HB2 HF1 HF2
  obtain ⟨h, HH⟩ : ∃ h, Shut (h = (S ++ [0x80]).length % 64) := ⟨_, ⟨rfl⟩⟩
  have hh : h < 64 := by rw [HH.out]; omega
  have ch : w2.cell? ⟨g, 72, none⟩ = some (.int .i64 (h : Int)) := by
    obtain ⟨blk, h1, h2, h3⟩ := HF3.out.sum
    rw [h3.cell, sumCells_held_at _ _ _ _ h1, HH.out]
  obtain ⟨z, hz⟩ : ∃ z, z = (120 - h) % 64 := ⟨_, rfl⟩
  have hz1 : ((120 : Int) - (h : Int)) % 64 = (z : Int) := by omega
  have hz2 : z < 64 := by omega
  have HZ := Lib.hid hz
  clear hz
  have hs2 : g < w2.heap.size := HF3.out.sum.lt
  go_wp2_with (first
    | (refine wpList_make_full (o := ⟨some 23, _, _, _, _, _⟩) _ rfl _ _ 23 rfl w2.heap.size 5 i0 _ 1 Tryd.underlying23 HI.out.1 HI.out.2.1 HI.out.2.2.1 .i64 .i64 _ _ z rfl rfl hz1 hz1 (by rw [HI.out.2.2.2]; omega) (by simp only [maxLen]; omega) (Nat.le_refl _) ?_
       intro w3 hown3 hg3
       rw [made_zeros] at hown3
       have HO3 := Lib.hid hown3
       have HF4 : Shut (Fin w w3 g w.heap.size (S ++ [0x80]) (T + 1)) := ⟨HF3.out.below (below_none hg3)⟩
       clear hown3 hg3))
  have HSR := Lib.hid (Src.own HO3.out hs2)
  with_reducible refine (add_any g (S ++ [0x80]) (T + 1) z z _ (List.replicate z 0) _ (HK.out.sole hg0 HF4.out.sole) hg0 (by simp) (Nat.le_refl _) (by omega) (by omega) HSR.out.1 HF4.out.sum).mono ?_
  rintro e w4 ⟨rfl, HA4⟩
  have HF5 : Shut (Fin w w4 g w.heap.size (S ++ [0x80] ++ List.replicate z 0) (T + 1 + z)) := ⟨HF4.out.next hne HA4.out.1 HA4.out.2⟩
  clear HA4 HF3 HF4 HO3 HSR ch hs2
  have hs4 : g < w4.heap.size := HF5.out.sum.lt
  go_wp2_with (first
    | (refine wpList_make_own (o := ⟨some 25, _, _, _, _, _⟩) _ rfl _ _ 23 rfl w4.heap.size 5 i0 _ 1 Tryd.underlying23 HI.out.1 HI.out.2.1 HI.out.2.2.1 .i64 .i64 _ 8 rfl rfl rfl (by rw [HI.out.2.2.2]; omega) (by simp only [maxLen]; omega) (Nat.le_refl _) ?_
       intro w5 hown5 hg5
       have HO5 := Lib.hid hown5
       have HB5 := Lib.hid (below_none hg5)
       clear hown5 hg5))
  have HO5' : Hid (w5.ownsRow w4.heap.size 5 1 (.slice (some ⟨w4.heap.size, 0, none⟩) 0 8) ([] : List Value).length []) := HO5
  have hl6 : ([] ++ (wordBytes (BitVec.ofNat 32 (8 * T / 4294967296))).map bv : List Value).length + 4 ≤ 140737488355328 := by simp [wordBytes_length]
  with_reducible refine (appendWord_lit w4.heap.size (.slice (some ⟨w4.heap.size, 0, none⟩) 0 8) [] (BitVec.ofNat 32 (8 * T / 4294967296)) _ w5 (by rw [← U_small _ (by omega)]; omega) HO5'.out HB5.out.size (by decide)).mono ?_
  rintro e w6 ⟨v6, rfl, HA6⟩
  go_wp2_with fail
  have hb6 : w4.heap.size ≤ w6.heap.size := Nat.le_trans HB5.out.size HA6.out.grown.size
  with_reducible refine (appendWord_lit w4.heap.size v6 _ (BitVec.ofNat 32 (8 * T)) _ w6 (by rw [← U_ofNat]; omega) HA6.out.own hb6 hl6).mono ?_
  rintro e w7 ⟨v7, rfl, HA7⟩
  have hown7 := HA7.out.own
  rw [List.nil_append, ← List.map_append, List.length_map] at hown7
  have hown7' : w7.ownsRow w4.heap.size 5 1 v7 8 ((be8 (8 * T)).map bv) := hown7
  obtain ⟨A7, c7, rfl, _⟩ := own_slice hown7'
  have HSR7 := Lib.hid (Src.own hown7' hs4)
  have hb46 : Below w4.heap.size w4 w6 := HB5.out.trans (HA6.out.below HB5.out.size (fun k hk => by have e : w4.heap.size = k := Option.some.inj hk; omega))
  have hb67 : Below w4.heap.size w6 w7 := HA7.out.below hb6 (fun k hk => (HA6.out.own.lt k hk).1)
  have HF7 : Shut (Fin w w7 g w.heap.size (S ++ [0x80] ++ List.replicate z 0) (T + 1 + z)) := ⟨HF5.out.below (hb46.trans hb67)⟩
  clear hown7 hown7' hb46 hb67 hb6 HA6 HA7 HO5 HO5' hl6 HB5 HF5
  go_wp2_with fail
  with_reducible refine (add_any g _ (T + 1 + z) 8 c7 _ (be8 (8 * T)) _ (HK.out.sole hg0 HF7.out.sole) hg0 rfl HSR7.out.2.2.1 HSR7.out.2.2.2 (by omega) HSR7.out.1 HF7.out.sum).mono ?_
  rintro e w8 ⟨rfl, HA8⟩
  have HF8 : Shut (Fin w w8 g w.heap.size (padded S) (T + 1 + z + 8)) := ⟨by
    have h1 := HF7.out.next hne HA8.out.1 HA8.out.2
    have h2 : S ++ [0x80] ++ List.replicate z 0 ++ be8 (8 * T) = padded S := by
      unfold padded
      have h3 := HH.out
      rw [List.length_append] at h3
      have h4 : zerosN S.length = z := by rw [HZ.out, h3]; rfl
      rw [h4, HT.out]
    rwa [h2] at h1⟩
  clear HA8 HF7 HSR7
  obtain ⟨R, HR⟩ : ∃ R, Shut (R = regsOf (padded S)) := ⟨_, ⟨rfl⟩⟩
  have HRG : Shut (w8.rangeAt g 0 (R.list.map uv)) := ⟨by
    obtain ⟨blk, h1, h2, h3⟩ := HF8.out.sum
    rw [HR.out]
    refine h3.range (es := blk.map bv ++ [.int .i64 (((padded S).length % 64 : Nat) : Int), .int .u64 ((T + 1 + z + 8 : Nat) : Int)]) ?_
    unfold sumCells
    rw [List.drop_zero, List.append_assoc]⟩
  have hlw : (R.list.map uv).length = 8 := rfl
  have HLW := Lib.hid hlw
  clear hlw
  go_wp2_with (first
    | (refine wpList_make_own (o := ⟨some 38, _, _, _, _, _⟩) _ rfl _ _ 23 rfl w8.heap.size 5 i0 _ 1 Tryd.underlying23 HI.out.1 HI.out.2.1 HI.out.2.2.1 .i64 .i64 _ 32 rfl rfl rfl (by rw [HI.out.2.2.2]; omega) (by simp only [maxLen]; omega) (Nat.le_refl _) ?_
       intro w9 hown9 hg9
       have HO9 := Lib.hid hown9
       have HB9 := Lib.hid (below_none hg9)
       have HF9 : Shut (Fin w w9 g w.heap.size (padded S) (T + 1 + z + 8)) := ⟨HF8.out.below HB9.out⟩
       have HRG9 : Shut (w9.rangeAt g 0 (R.list.map uv)) := ⟨fun j v hv => (HB9.out.cell (p := ⟨g, 0 + j, none⟩) HF8.out.sum.lt).trans (HRG.out j v hv)⟩
       clear hown9 hg9)
    | (refine wl_mid rfl 120 (.tmp 41) rfl g 0 rfl (R.list.map uv) _ HRG9.out under44 rfl (by rw [HLW.out]; exact info_size info44) ?_
       intro vw HVW))
  go_loopw [5, 43] (fun v i W => ∃ k : Nat, k ≤ 8 ∧ i = .int .i64 k ∧ Shut (Acc w9 W w8.heap.size (.slice (some ⟨w8.heap.size, 0, none⟩) 0 32) v (((R.list.take k).flatMap wordBytes).map bv))) (fun _ i _ => 8 - (intOf i).toNat)
  case atStart => exact ⟨0, Nat.zero_le _, rfl, ⟨⟨HO9.out, World.grownBy.refl _ _, .inl rfl⟩⟩⟩
  case round =>
    obtain ⟨k, hk, rfl, HC⟩ := hrel
    by_cases hlt : k < 8
    · obtain ⟨x, HX⟩ : ∃ x, Shut (x = R.list.getD k 0) := ⟨_, ⟨rfl⟩⟩
      have hix : (Instr.index 120 vw (.int .i64 (k : Int))).run Tryd.prog wr = .ok (.int .u32 (U x)) wr := by
        rw [HVW.out]
        refine run_word wr _ k _ hlt ?_
        rw [HX.out, List.getElem?_map]
        have : k < R.list.length := hlt
        simp [this, uv]
      go_wp2_with fail
      with_reducible refine (appendWord_any w8.heap.size u5 _ x wr HC.out.own (Nat.le_trans HB9.out.size HC.out.grown.size) (by rw [List.length_map, flat_words_length _ _ hk]; omega)).mono ?_
      rintro e w' ⟨v', rfl, HA'⟩
      clear hix
      go_wp2_with fail
      refine ⟨⟨k + 1, by omega, by go_num, ⟨?_⟩⟩, by simp [intOf]; omega⟩
      have h1 : k < R.list.length := hlt
      rw [flat_words R.list k h1, List.map_append, ← HX.out]
      exact HC.out.trans HA'.out
    · have hk8 : k = 8 := by omega
      have hown := HC.out.own
      have hfw : (R.list.take k).flatMap wordBytes = digest S := by
        rw [hk8, List.take_of_length_le (by rw [list_length]; decide)]
        unfold digest bytesOf
        rw [HR.out]
      rw [hfw] at hown
      have hown' : wr.ownsRow w8.heap.size 5 1 u5 32 ((digest S).map bv) := by rwa [List.length_map, digest_length] at hown
      obtain ⟨A9, c9, rfl, hl9, hc9, hm9, hr9, hat9⟩ := own_slice hown'
      obtain ⟨g9, rfl, hg9⟩ := hat9 (fun e => by rw [e] at hl9; simp at hl9)
      have HRD : Shut (wr.rangeAt g9 0 ((digest S).map bv)) := ⟨fun j v hv => by
        obtain ⟨ad, h1, _, h2⟩ := hr9.cell hv
        injection h1 with h1
        rw [← h1, Addr.add_mid] at h2
        exact h2⟩
      have HLD : Shut (((digest S).map bv).length = 32) := ⟨by rw [List.length_map, digest_length]⟩
      have HON : Shut (∀ v ∈ (digest S).map bv, v.oneCell' = true) := ⟨by intro v hv; obtain ⟨x, _, rfl⟩ := List.mem_map.1 hv; rfl⟩
      obtain ⟨D, HD⟩ : ∃ D, Shut (D = (digest S).map bv) := ⟨_, ⟨rfl⟩⟩
      rw [← HD.out] at HRD HLD HON
      have HRES : Shut (Row wr w.heap.size 115 (List.replicate 32 (.int .u8 0))) := ⟨HF9.out.res.grown HC.out.grown (fun e => by
        have e1 : w8.heap.size = w.heap.size := Option.some.inj e
        have e2 : w.heap.size < w8.heap.size := HF8.out.res.lt
        omega)⟩
      have HSO : Shut (Sole g w wr) := ⟨by
        have h1 : Below w8.heap.size w9 wr := HC.out.below HB9.out.size (fun j hj => by have e : w8.heap.size = j := Option.some.inj hj; omega)
        exact HF8.out.sole.trans (Sole.of_below (HB9.out.trans h1))⟩
      have HLDI : Shut ((Tryd.prog.info? 115).map (·.size) = some D.length) := ⟨by rw [HLD.out]; exact info_size info27⟩
      have HLDR : Shut ((List.replicate 32 (Value.int .u8 0)).length = D.length) := ⟨by rw [HLD.out]; exact List.length_replicate⟩
      have har := run_arrayAt wr 115 32 under27 (some ⟨g9, 0, none⟩) 32 c9 (Nat.le_refl _)
      clear hown hown' hfw hl9 hr9 hat9 HC HF9 HF8 HRG9 HRG HO9 HB9
      go_wp2_with (first
        | (refine wl_mid rfl 115 (.tmp 51) rfl g9 0 rfl D _ HRD.out under27 rfl HLDI.out ?_
           intro vd HVD)
        | (refine wl_store rfl 115 (.tmp 2) (.tmp 52) rfl w.heap.size _ D rfl HVD.out rfl 115 _ HRES.out HLDI.out HLDR.out HON.out ?_
           intro w10 HR10 HS10 HZ10))
      refine bodyPost_ret (v := .agg D.toArray) (results_cell_row Tryd.results67 _ w10 w.heap.size 115 _ (0, 0) _ rfl HR10.out under27 rfl (by simpa [HLD.out] using info_size info27)) rfl ?_

      refine ⟨.agg D.toArray, rfl, ?_⟩
      have hD : Value.agg D.toArray = .agg ((digest S).map bv).toArray := by rw [HD.out]
      refine Lib.hid (And.intro hD ?_)
      exact ⟨HS10.out.os.trans HSO.out.os, HS10.out.tape.trans HSO.out.tape, HS10.out.output.trans HSO.out.output, Nat.le_trans HSO.out.size HS10.out.size, fun j hj hjg => (HS10.out.block j (Nat.lt_of_lt_of_le hj HSO.out.size) (by omega)).trans (HSO.out.block j hj hjg)⟩
end Go.Proofs.YtlmdafldggbiaaaDoor.H

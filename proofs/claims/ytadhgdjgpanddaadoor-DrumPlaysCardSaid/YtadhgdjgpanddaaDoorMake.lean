/- What New and From answer. -/
import Derived.Test.YtadhgdjgpanddaaDoorRead
import Derived.Deep.RegionLaw
import Derived.DataElems
namespace Go.Proofs.YtadhgdjgpanddaaDoor
open Go.RowKit

theorem made_rep (m k : Nat) (hm : 0 < m) (v : Value) : madeCells (List.replicate m v).toArray k = (List.replicate k v).toArray := by
  apply Array.ext'
  apply List.ext_getElem?
  intro j
  have h2 : j % m < m := Nat.mod_lt _ hm
  by_cases hj : j < k
  · simp [madeCells, hj, h2]
  · simp [madeCells, hj]
theorem made_zero (n : Nat) : madeCells (Value.agg (List.replicate 64 (Value.int .u8 0)).toArray).cells (n * 64) = ((List.replicate (n * 64) (0 : UInt8)).map bv).toArray := by
  have h := made_rep 64 (n * 64) (by decide) (Value.int .u8 0)
  rw [List.map_replicate]
  exact h
/-- A new slice of blocks, all bytes 0. -/
theorem wl_make {w : World} {ops : Array Oper} {rest : List Oper} {o : Oper} {a : Act} {Q : Exit → Act → World → Prop} (hgd : o.guard = none) (l c : Operand) (ho : o.op = Op.makeSlice 33 l c)
    (z : Int) (n : Nat) (hl : a.eval l = .int .i64 z) (hc : a.eval c = .int .i64 z) (hz : z = (n : Int)) (hn : n ≤ 4096)
    (h : ∀ w', Hid (Row w' w.heap.size 47 ((List.replicate (n * 64) (0 : UInt8)).map bv) ∧ Below w.heap.size w w' ∧ w'.heap.size = w.heap.size + 1) → wpList Tryd.prog ops Q rest (a.put o.dst (.slice (some ⟨w.heap.size, 0, none⟩) n n)) w') :
    wpList Tryd.prog ops Q (o :: rest) a w := by
  refine wpList_plain hgd fun K hK => ?_
  subst hz
  obtain ⟨i0, hi0, hz0, hz1, hz2⟩ := info_parts' info47b
  have hr := run_make (P := Tryd.prog) w 33 47 i0 _ Tryd.underlying33 hi0 hz0 .i64 .i64 n n (by omega) (Int.le_refl _) (by rw [hz2]; omega) (by omega)
  rw [Int.toNat_natCast, hz1, made_zero] at hr
  unfold Oper.wp
  simp only [execOp, ho, hl, hc, Sem.run_bind, hr, Result.andThen_ok]
  exact hK _ _ (h _ (Lib.hid ⟨Row.new w _ 47, (Below.refl _ _).alloc (Nat.le_refl _) _, by simp⟩))
/-- A drum of n blocks. -/
def fresh (n : Nat) : Dm := ⟨List.replicate (n * 64) 0, n, false, false, 0, 0⟩
theorem fresh_ok {n : Nat} (h1 : 1 ≤ n) (h2 : n ≤ 4096) : (fresh n).ok := ⟨h1, h2, by simp [fresh], by show 0 ≤ _; omega, by show 0 ≤ _; omega⟩
set_option maxHeartbeats 1000000 in
theorem new_ok (n : Nat) (z : Int) (w : World) (hz : z = (n : Int)) (h1 : 1 ≤ n) (h2 : n ≤ 4096) :
    Calls Tryd.prog 9 #[.int .i64 z] w fun x w' => x = .returned (.tuple #[.pointer (some ⟨w.heap.size + 1, 0, none⟩), .nilIface]) ∧ Hid (DrumAt w' (w.heap.size + 1) w.heap.size (fresh n) ∧ Below w.heap.size w w' ∧ w'.heap.size = w.heap.size + 2) := by
  subst hz
  have hd1 : decide ((n : Int) < 1) = false := by simp; omega
  have hd2 : decide (4096 < (n : Int)) = false := by simp; omega
  go_enter Tryd.func9, Tryd.ntmps9
  go_wp2_with (first
    | (refine wl_make rfl (.tmp 11) (.tmp 11) rfl _ n rfl rfl rfl h2 ?_
       intro w1 H1))
  go_ret2
  have hsz : w1.heap.size = w.heap.size + 1 := H1.out.2.2
  refine ⟨by rw [← hsz]; rfl, Lib.hid ⟨?_, H1.out.2.1.alloc (by omega) _, by simp [hsz]⟩⟩
  rw [← hsz]
  exact ⟨Row.new w1 _ 35, H1.out.1.keep (Below.heap_alloc _ _ _ (by omega)), by omega, fresh_ok h1 h2⟩
theorem new_bad (ad : Nat → Addr) (z : Int) (w : World) (hE : Errs w ad) (hz : z < 1 ∨ 4096 < z) :
    Calls Tryd.prog 9 #[.int .i64 z] w fun x w' => x = .returned (.tuple #[.pointer none, .iface 67 (.pointer (some (ad 0)))]) ∧ ∃ m, w' = w.drewN m := by
  have e0 := hE.cell 0 (by omega)
  clear hE
  rcases Int.lt_or_le z 1 with h1 | h1
  · have hd1 : decide (z < 1) = true := by simpa using h1
    go_enter Tryd.func9, Tryd.ntmps9
    go_wp2_with fail
    go_quiet (fail)
    go_wp2_with fail
    go_ret2
    exact ⟨rfl, _, rfl⟩
  · have hd1 : decide (z < 1) = false := by simp; omega
    have hd2 : decide (4096 < z) = true := by simp; omega
    go_enter Tryd.func9, Tryd.ntmps9
    go_wp2_with fail
    go_quiet (fail)
    go_wp2_with fail
    go_ret2
    exact ⟨rfl, _, rfl⟩

theorem run_all (w : World) (t : TypeId) (n : Nat) (hu : Tryd.prog.underlying t = some (.array n 5)) (g o : Nat) :
    (Instr.sliceAt t (.pointer (some ⟨g, o, none⟩)) none none none).run Tryd.prog w = .ok (.slice (some ⟨g, o, none⟩) n n) w := by
  obtain ⟨i0, hi0, _⟩ := info_parts' u8_info
  simp [Instr.sliceAt, Instr.sureAddr, run_underlying hu, Instr.sliceBounds, sizeOf, typeInfo, hi0, Addr.add_mid]
theorem run_some (w : World) (ad : Addr) (L cap k : Nat) (z : Int) (hz : z = (k : Int)) (hk : k ≤ L) (hc : k < cap) :
    (Instr.slice 22 (.slice (some ad) L cap) (some (.int .i64 z)) none none).run Tryd.prog w = .ok (.slice (some (ad.add k)) (L - k) (cap - k)) w := by
  rw [run_from w _ L cap k z hz hk, if_neg (by omega)]
  rfl
/-- Bytes copied into a row, in a region that draws its order. -/
theorem step_copy {ops : Array Oper} {o : Oper} {a : Act} {w : World} {K : Act → World → Prop} {Q : Exit → Act → World → Prop} {E : Prop} (hgd : o.guard = none) (d s : Operand)
    (ho : o.op = .call { callee := .builtin .copy, args := #[d, s], argTypes := #[22, 22] })
    (g off dLen dCap : Nat) (ad : Addr) (sLen sCap : Nat) (hd : a.eval d = .slice (some ⟨g, off, none⟩) dLen dCap) (hs : a.eval s = .slice (some ad) sLen sCap)
    (cur : List Value) (t : TypeId) (hg : Row w g t cur) (cs : List Value) (hn : cs.length = Nat.min sLen dLen)
    (hsrc : ∀ j v, cs[j]? = some v → w.cell? (ad.add j) = some v) (hfit : off + cs.length ≤ cur.length) (h1 : ∀ v ∈ cs, v.oneCell' = true)
    (h : ∀ w', Hid (Row w' g t (splice cur off cs) ∧ Turn (fun k => k = g) w w' ∧ w'.heap.size = w.heap.size) → K (a.put o.dst (goInt cs.length)) w') :
    if Region.wanted o (yielded ops a.tmps) = true then Oper.wp Tryd.prog o a w K Q else E := by
  have hw : Region.wanted o (yielded ops a.tmps) = true := by simp [Region.wanted, hgd]
  rw [if_pos hw]
  obtain ⟨i0, hi0, _, hz1, _⟩ := info_parts' u8_info
  have hrun := run_copy_row (P := Tryd.prog) w 22 22 o.type 5 g off dLen dCap ad sLen sCap cur.toArray t cs Tryd.underlying22 (by simp [hi0, hz1]) hg hn hsrc (by simpa using hfit) h1
  unfold Oper.wp
  simp [execOp, ho, resolve, invoke, builtin, hd, hs, hrun, Result.andThen]
  refine h _ ⟨?_, ⟨rfl, rfl, rfl, by simp, fun k _ hk => setRow_other w g k _ hk⟩, by simp⟩
  have h2 := setRow_heap w g cur.toArray (splice cur off cs).toArray t (0, 0) hg
  show (w.setRow g _).heap[g]? = _
  simpa [splice] using h2
/-- A drum of k blocks of bs, the others of bytes 0. -/
def part (bs : List UInt8) (n k : Nat) : Dm := { fresh n with all := bs.take (k * 64) ++ List.replicate ((n - k) * 64) 0 }
theorem part_ok {bs : List UInt8} {n k : Nat} (h1 : 1 ≤ n) (h2 : n ≤ 4096) (hb : bs.length = n * 64) (hk : k ≤ n) : (part bs n k).ok := by
  refine ⟨h1, h2, ?_, by show 0 ≤ _; omega, by show 0 ≤ _; omega⟩
  show (bs.take (k * 64) ++ List.replicate ((n - k) * 64) 0).length = n * 64
  simp [hb]
  omega
theorem part_zero (bs : List UInt8) (n : Nat) : part bs n 0 = fresh n := by simp [part, fresh]
theorem part_full (bs : List UInt8) (n : Nat) (hb : bs.length = n * 64) : part bs n n = { fresh n with all := bs } := by
  unfold part
  rw [List.take_of_length_le (by omega)]
  simp
theorem part_next (bs : List UInt8) (n k : Nat) (hb : bs.length = n * 64) (hk : k < n) : splice (part bs n k).all (k * 64) ((bs.drop (k * 64)).take 64) = (part bs n (k + 1)).all := by
  have e1 : (bs.take (k * 64)).length = k * 64 := by rw [List.length_take]; omega
  have e2 : ((bs.drop (k * 64)).take 64).length = 64 := by rw [List.length_take, List.length_drop]; omega
  show splice (bs.take (k * 64) ++ List.replicate ((n - k) * 64) 0) (k * 64) _ = bs.take ((k + 1) * 64) ++ List.replicate ((n - (k + 1)) * 64) 0
  unfold splice
  have e4 : (bs.take (k * 64) ++ List.replicate ((n - k) * 64) 0).drop (k * 64 + 64) = List.replicate ((n - (k + 1)) * 64) 0 := by
    rw [List.drop_append, e1, List.drop_eq_nil_of_le (by omega), List.nil_append, List.drop_replicate]
    congr 1; omega
  rw [List.take_append_of_le_length (by omega), List.take_of_length_le (Nat.le_of_eq e1), e2, e4, ← List.append_assoc, show (k + 1) * 64 = k * 64 + 64 by omega, List.take_add]

theorem div_nat (L : Nat) (h : L ≤ 9223372036854775807) : ((L : Int).tdiv 64) = ((L / 64 : Nat) : Int) := by
  rw [Int.tdiv_eq_ediv_of_nonneg (by omega)]
  omega
set_option maxHeartbeats 1000000 in
theorem from_ok (n L cap : Nat) (A : Option Addr) (bs : List UInt8) (w : World) (hb : bs.length = L) (hL : L = n * 64) (h1 : 1 ≤ n) (h2 : n ≤ 4096) (hLc : L ≤ cap) (hcm : cap ≤ 9223372036854775807) (hr : Rd w w.heap.size A (bs.map bv)) :
    Calls Tryd.prog 12 #[.slice A L cap] w fun x w' => x = .returned (.tuple #[.pointer (some ⟨w.heap.size + 1, 0, none⟩), .nilIface]) ∧ Hid (DrumAt w' (w.heap.size + 1) w.heap.size { fresh n with all := bs } ∧ Below w.heap.size w w') := by
  subst hL
  obtain ⟨ad, rfl⟩ : ∃ ad, A = some ad := by
    rcases hr with h | ⟨ad, h, _⟩
    · rw [List.map_eq_nil_iff] at h; subst h; simp at hb; omega
    · exact ⟨ad, h⟩
  have HB := Lib.hid hb
  have HR := Lib.hid hr
  clear hb hr
  have hq : ((n * 64 : Nat) : Int).tmod 64 = 0 := by rw [Int.tmod_eq_emod_of_nonneg (by omega)]; omega
  have hd : ((n * 64 : Nat) : Int).tdiv 64 = (n : Int) := by rw [div_nat _ (by omega)]; omega
  go_enter Tryd.func12, Tryd.ntmps12
  go_wp2_with (first
    | (go_at_call 9; (with_reducible refine (new_ok n _ _ (by omega) h1 h2).mono ?_); rintro x w1 ⟨rfl, H1⟩; (have c3 : w1.cell? ⟨w.heap.size + 1, 3, none⟩ = some (.slice (some ⟨w.heap.size, 0, none⟩) n n) := H1.out.1.c3)))
  have HP0 : Hid (DrumAt w1 (w.heap.size + 1) w.heap.size (part bs n 0) ∧ Below w.heap.size w w1) := Lib.hid ⟨by rw [part_zero]; exact H1.out.1, H1.out.2.1⟩
  clear H1 c3 hq hd
  go_loopw [27] (fun i W => ∃ k : Nat, k ≤ n ∧ i = .int .i64 k ∧ Hid (DrumAt W (w.heap.size + 1) w.heap.size (part bs n k) ∧ Below w.heap.size w W)) (fun i _ => n - (intOf i).toNat)
  case atStart => exact ⟨0, Nat.zero_le _, rfl, HP0⟩
  case round =>
    clear HP0
    obtain ⟨k, hk, rfl, HK⟩ := hrel
    by_cases hlt : k < n
    · have c3 : wr.cell? ⟨w.heap.size + 1, 3, none⟩ = some (.slice (some ⟨w.heap.size, 0, none⟩) n n) := HK.out.1.c3
      obtain ⟨C, HC⟩ : ∃ C, Shut (C = ((bs.drop (k * 64)).take 64).map bv) := ⟨_, ⟨rfl⟩⟩
      have HCL : Shut (C.length = 64 ∧ (∀ v ∈ C, v.oneCell' = true)) := ⟨by
        rw [HC.out]
        exact ⟨by rw [List.length_map, List.length_take, List.length_drop, HB.out]; omega, bytes_one _⟩⟩
      have HSR : Hid (∀ j v, C[j]? = some v → wr.drew.cell? ((ad.add (k * 64)).add j) = some v) := Lib.hid (fun j v hj => by
        have h3 := HR.out.below HK.out.2
        rw [HC.out, List.map_take, List.getElem?_take] at hj
        split at hj
        · rw [List.map_drop, List.getElem?_drop] at hj
          obtain ⟨ad', e1, _, e2⟩ := h3.cell hj
          injection e1 with e1
          subst e1
          have e3 : (ad.add (k * 64)).add j = ad.add (k * 64 + j) := Addr.add_add _ _ _
          rw [e3]
          exact e2
        · simp at hj)
      have HRW : Hid (Row wr.drew w.heap.size 47 ((part bs n k).all.map bv)) := Lib.hid HK.out.1.blk
      have hI : (0 : Int) ≤ (k : Int) * 64 := by omega
      have hI1 : (k : Int) * 64 ≤ (n : Int) * 64 := by omega
      have hI3 : ¬ cap = k * 64 := by omega
      have hI2 : IntKind.i64.wrap ((k : Int) * 64) = (k : Int) * 64 := by rw [IntKind.wrap_i64]; omega
      have hsl1 := fun w' : World => run_all w' 47 64 under47 w.heap.size (k * 64)
      have hsl2 := fun w' : World => run_some w' ad (n * 64) cap (k * 64) ((k : Int) * 64) (by omega) (by omega) (by omega)
      go_wp2_with fail
      go_region_law (refine step_copy rfl (.tmp 36) (.tmp 40) rfl w.heap.size (k * 64) 64 64 (ad.add (k * 64)) _ _ rfl rfl _ 47 HRW.out C (by rw [HCL.out.1]; show 64 = min (n * 64 - k * 64) 64; omega) HSR.out (by rw [HCL.out.1, List.length_map, (part_ok h1 h2 HB.out hk).len]; show k * 64 + 64 ≤ n * 64; omega) HCL.out.2 ?_; intro w7 HW7)
      clear hsl1 hsl2 hI hI1 hI2 hI3
      have HN : Hid (DrumAt w7 (w.heap.size + 1) w.heap.size (part bs n (k + 1)) ∧ Below w.heap.size w w7) := Lib.hid (by
        have hst : Stay wr wr.drew := ⟨rfl, rfl, rfl, rfl⟩
        refine ⟨⟨HW7.out.2.1.row (HK.out.1.stay hst).row (by omega), ?_, by omega, part_ok h1 h2 HB.out (by omega)⟩, HK.out.2.drew.trans (HW7.out.2.1.below (fun j hj => by omega) HK.out.2.size)⟩
        have h3 := HW7.out.1
        rw [HC.out, splice_map, part_next bs n k HB.out hlt] at h3
        exact h3)
      clear HW7 HRW HSR HK
      go_wp2_with fail
      exact ⟨⟨k + 1, by omega, by go_num, HN⟩, by simp [intOf]; omega⟩
    · obtain rfl : k = n := by omega
      go_wp2_with fail
      go_ret2
      exact ⟨rfl, Lib.hid ⟨by rw [← part_full bs k HB.out]; exact HK.out.1, HK.out.2⟩⟩
theorem from_odd (L cap : Nat) (ad : Nat → Addr) (A : Option Addr) (w : World) (hE : Errs w ad) (hL : L % 64 ≠ 0) (hLm : L ≤ 9223372036854775807) :
    Calls Tryd.prog 12 #[.slice A L cap] w fun x w' => x = .returned (.tuple #[.pointer none, .iface 67 (.pointer (some (ad 0)))]) ∧ ∃ m, w' = w.drewN m := by
  have e0 := hE.cell 0 (by omega)
  clear hE
  have hq : ((L : Int).tmod 64 == 0) = false := by rw [Int.tmod_eq_emod_of_nonneg (by omega)]; simp; omega
  have hq2 : ((L : Int) % 64 == 0) = false := by simp; omega
  go_enter Tryd.func12, Tryd.ntmps12
  go_wp2_with fail
  go_quiet (fail)
  go_wp2_with fail
  go_ret2
  exact ⟨rfl, _, rfl⟩
theorem from_count (n L cap : Nat) (ad : Nat → Addr) (A : Option Addr) (w : World) (hE : Errs w ad) (hL : L = n * 64) (hn : n = 0 ∨ 4096 < n) (hLm : L ≤ 9223372036854775807) :
    Calls Tryd.prog 12 #[.slice A L cap] w fun x w' => x = .returned (.tuple #[.pointer none, .iface 67 (.pointer (some (ad 0)))]) ∧ ∃ m, w' = w.drewN m := by
  subst hL
  have HE := Lib.hid hE
  clear hE
  have hq : ((n * 64 : Nat) : Int).tmod 64 = 0 := by rw [Int.tmod_eq_emod_of_nonneg (by omega)]; omega
  have hd : ((n * 64 : Nat) : Int).tdiv 64 = (n : Int) := by rw [div_nat _ (by omega)]; omega
  have HN := Lib.hid hn
  clear hn
  go_enter Tryd.func12, Tryd.ntmps12
  go_wp2_with (first
    | (go_at_call 9; (with_reducible refine (new_bad ad _ _ HE.out (by have := HN.out; omega)).mono ?_); rintro x w1 ⟨rfl, m1, rfl⟩))
  go_ret2
  exact ⟨rfl, _, rfl⟩
end Go.Proofs.YtadhgdjgpanddaaDoor

/- The calls at any spelling of their numbers; what jackfieldlaw04.alive answers: true. -/
import Derived.Test.YtadhgdjgpanddaaDoorImage
namespace Go.Proofs.YtadhgdjgpanddaaDoor
open Go.RowKit

/-- A block whose first byte is b, all others 0. -/
def blk (b : UInt8) : List UInt8 := b :: List.replicate 63 0
theorem blk_length (b : UInt8) : (blk b).length = 64 := by simp [blk]
theorem blk_lit (z : Int) (b : UInt8) (hz : z = (b.toNat : Int)) : #[.int .u8 z, .int .u8 0, .int .u8 0, .int .u8 0, .int .u8 0, .int .u8 0, .int .u8 0, .int .u8 0, .int .u8 0, .int .u8 0, .int .u8 0, .int .u8 0, .int .u8 0, .int .u8 0, .int .u8 0, .int .u8 0, .int .u8 0, .int .u8 0, .int .u8 0, .int .u8 0, .int .u8 0, .int .u8 0, .int .u8 0, .int .u8 0, .int .u8 0, .int .u8 0, .int .u8 0, .int .u8 0, .int .u8 0, .int .u8 0, .int .u8 0, .int .u8 0, .int .u8 0, .int .u8 0, .int .u8 0, .int .u8 0, .int .u8 0, .int .u8 0, .int .u8 0, .int .u8 0, .int .u8 0, .int .u8 0, .int .u8 0, .int .u8 0, .int .u8 0, .int .u8 0, .int .u8 0, .int .u8 0, .int .u8 0, .int .u8 0, .int .u8 0, .int .u8 0, .int .u8 0, .int .u8 0, .int .u8 0, .int .u8 0, .int .u8 0, .int .u8 0, .int .u8 0, .int .u8 0, .int .u8 0, .int .u8 0, .int .u8 0, .int .u8 0] = ((blk b).map bv).toArray := by subst hz; rfl
section
variable {h : Nat} {D : Dm}
/-- Write of a block that is written out. -/
theorem w_ok (g i : Nat) (e z : Int) (b : UInt8) (w : World) (H : DrumAt w g h D) (he : e = (i : Int)) (hz : z = (b.toNat : Int)) (ho : D.off = false) (hi : i < D.n) (ha : D.armed = true → 0 < D.left) (hw : D.writes < 1000000) :
    Calls Tryd.prog 16 #[.pointer (some ⟨g, 0, none⟩), .int .i64 e, .agg #[.int .u8 z, .int .u8 0, .int .u8 0, .int .u8 0, .int .u8 0, .int .u8 0, .int .u8 0, .int .u8 0, .int .u8 0, .int .u8 0, .int .u8 0, .int .u8 0, .int .u8 0, .int .u8 0, .int .u8 0, .int .u8 0, .int .u8 0, .int .u8 0, .int .u8 0, .int .u8 0, .int .u8 0, .int .u8 0, .int .u8 0, .int .u8 0, .int .u8 0, .int .u8 0, .int .u8 0, .int .u8 0, .int .u8 0, .int .u8 0, .int .u8 0, .int .u8 0, .int .u8 0, .int .u8 0, .int .u8 0, .int .u8 0, .int .u8 0, .int .u8 0, .int .u8 0, .int .u8 0, .int .u8 0, .int .u8 0, .int .u8 0, .int .u8 0, .int .u8 0, .int .u8 0, .int .u8 0, .int .u8 0, .int .u8 0, .int .u8 0, .int .u8 0, .int .u8 0, .int .u8 0, .int .u8 0, .int .u8 0, .int .u8 0, .int .u8 0, .int .u8 0, .int .u8 0, .int .u8 0, .int .u8 0, .int .u8 0, .int .u8 0, .int .u8 0]] w fun x w' => x = .returned .nilIface ∧ Hid (DrumAt w' g h (D.wrote i (blk b)) ∧ Turn (Two g h) w w') := by
  subst he
  exact write_ok g i _ (blk b) w H (blk_lit z b hz) (blk_length b) ho hi ha hw
theorem w_power (ad : Nat → Addr) (g i : Nat) (e : Int) (A : Array Value) (w : World) (hE : Errs w ad) (hgh : 2 ≤ g ∧ 2 ≤ h) (H : DrumAt w g h D) (he : e = (i : Int)) (ho : D.off = false) (hi : i < D.n) (ha : D.armed = true) (hl : D.left = 0) :
    Calls Tryd.prog 16 #[.pointer (some ⟨g, 0, none⟩), .int .i64 e, .agg A] w fun x w' => x = .returned (.iface 67 (.pointer (some (ad 1)))) ∧ Hid (DrumAt w' g h { D with off := true } ∧ Turn (Two g h) w w') := by
  subst he
  exact write_power ad g i A w hE hgh H ho hi ha hl
theorem r_ok (g i : Nat) (e : Int) (w : World) (H : DrumAt w g h D) (he : e = (i : Int)) (ho : D.off = false) (hi : i < D.n) :
    Calls Tryd.prog 19 #[.pointer (some ⟨g, 0, none⟩), .int .i64 e] w fun x w' => ∃ A, x = .returned (.tuple #[.agg A, .nilIface]) ∧ Hid (A = ((D.block i).map bv).toArray ∧ Below w.heap.size w w') := by
  subst he
  exact read_ok g i w H ho hi
end
theorem err_neq (a : Addr) (W : World) : (binOp .neq 27 (.iface 67 (.pointer (some a))) (.iface 67 (.pointer (some a)))).run Tryd.prog W = .ok (.bool false) W := by
  obtain ⟨i, hi, hcmp⟩ := Option.map_eq_some_iff.1 compErr
  obtain ⟨j, hj, _⟩ := Option.map_eq_some_iff.1 sizeErr
  simp only [binOp]
  simp [Op.equal, Op.maxDepth, run_equalIn_iface_ptr_same W 9998 a Tryd.underlying27 Tryd.underlying67 hi hcmp hj]
def al0 : Dm := (fresh 2).arm 1
def al1 : Dm := al0.wrote 0 (blk 7)
def al2 : Dm := { al1 with off := true }
def al3 : Dm := al2.on
theorem al_new (w : World) : Calls Tryd.prog 9 #[.int .i64 2] w fun x w' => x = .returned (.tuple #[.pointer (some ⟨w.heap.size + 1, 0, none⟩), .nilIface]) ∧ Hid (DrumAt w' (w.heap.size + 1) w.heap.size (fresh 2) ∧ Below w.heap.size w w' ∧ w'.heap.size = w.heap.size + 2) := new_ok 2 2 w rfl (by omega) (by omega)
theorem al_arm (g h : Nat) (w : World) (H : DrumAt w g h (fresh 2)) : Calls Tryd.prog 21 #[.pointer (some ⟨g, 0, none⟩), .int .i64 1] w fun x w' => x = .returned (.tuple #[]) ∧ Hid (DrumAt w' g h al0 ∧ Turn (Two g h) w w') := arm_any g 1 w H (by omega)
theorem al_write (g h : Nat) (w : World) (H : DrumAt w g h al0) : Calls Tryd.prog 16 #[.pointer (some ⟨g, 0, none⟩), .int .i64 0, .agg #[.int .u8 7, .int .u8 0, .int .u8 0, .int .u8 0, .int .u8 0, .int .u8 0, .int .u8 0, .int .u8 0, .int .u8 0, .int .u8 0, .int .u8 0, .int .u8 0, .int .u8 0, .int .u8 0, .int .u8 0, .int .u8 0, .int .u8 0, .int .u8 0, .int .u8 0, .int .u8 0, .int .u8 0, .int .u8 0, .int .u8 0, .int .u8 0, .int .u8 0, .int .u8 0, .int .u8 0, .int .u8 0, .int .u8 0, .int .u8 0, .int .u8 0, .int .u8 0, .int .u8 0, .int .u8 0, .int .u8 0, .int .u8 0, .int .u8 0, .int .u8 0, .int .u8 0, .int .u8 0, .int .u8 0, .int .u8 0, .int .u8 0, .int .u8 0, .int .u8 0, .int .u8 0, .int .u8 0, .int .u8 0, .int .u8 0, .int .u8 0, .int .u8 0, .int .u8 0, .int .u8 0, .int .u8 0, .int .u8 0, .int .u8 0, .int .u8 0, .int .u8 0, .int .u8 0, .int .u8 0, .int .u8 0, .int .u8 0, .int .u8 0, .int .u8 0]] w fun x w' => x = .returned .nilIface ∧ Hid (DrumAt w' g h al1 ∧ Turn (Two g h) w w') :=
  w_ok g 0 0 7 7 w H rfl rfl rfl (by decide) (by decide) (by decide)
theorem al_write2 (ad : Nat → Addr) (g h : Nat) (A : Array Value) (w : World) (hE : Errs w ad) (hgh : 2 ≤ g ∧ 2 ≤ h) (H : DrumAt w g h al1) : Calls Tryd.prog 16 #[.pointer (some ⟨g, 0, none⟩), .int .i64 1, .agg A] w fun x w' => x = .returned (.iface 67 (.pointer (some (ad 1)))) ∧ Hid (DrumAt w' g h al2 ∧ Turn (Two g h) w w') :=
  w_power ad g 1 1 A w hE hgh H rfl rfl (by decide) rfl rfl
theorem al_read (ad : Nat → Addr) (g h : Nat) (w : World) (hE : Errs w ad) (h2 : 2 ≤ w.heap.size) (H : DrumAt w g h al2) :
    Calls Tryd.prog 19 #[.pointer (some ⟨g, 0, none⟩), .int .i64 0] w fun x w' => ∃ A, x = .returned (.tuple #[.agg A, .iface 67 (.pointer (some (ad 1)))]) ∧ Hid (A = (zeros64.map bv).toArray ∧ Below w.heap.size w w') := read_off ad g 0 w hE h2 H rfl
theorem al_on (g h : Nat) (w : World) (H : DrumAt w g h al2) : Calls Tryd.prog 23 #[.pointer (some ⟨g, 0, none⟩)] w fun x w' => x = .returned (.tuple #[]) ∧ Hid (DrumAt w' g h al3 ∧ Turn (Two g h) w w') := on_any g w H
theorem al_block0 : al3.block 0 = blk 7 := by decide +kernel
theorem al_block1 : al3.block 1 = zeros64 := by decide +kernel
theorem al_read0 (g h : Nat) (w : World) (H : DrumAt w g h al3) : Calls Tryd.prog 19 #[.pointer (some ⟨g, 0, none⟩), .int .i64 0] w fun x w' => ∃ A, x = .returned (.tuple #[.agg A, .nilIface]) ∧ Hid (A = ((blk 7).map bv).toArray ∧ Below w.heap.size w w') := by
  rw [← al_block0]; exact r_ok g 0 0 w H rfl rfl (by decide)
theorem al_read1 (g h : Nat) (w : World) (H : DrumAt w g h al3) : Calls Tryd.prog 19 #[.pointer (some ⟨g, 0, none⟩), .int .i64 1] w fun x w' => ∃ A, x = .returned (.tuple #[.agg A, .nilIface]) ∧ Hid (A = (zeros64.map bv).toArray ∧ Below w.heap.size w w') := by
  rw [← al_block1]; exact r_ok g 1 1 w H rfl rfl (by decide)

theorem fact64 (bs : List UInt8) (hb : bs.length = 64) : Shut ((Tryd.prog.info? 47).map (·.size) = some (bs.map bv).length ∧ (0 + (bs.map bv).length ≤ (List.replicate 64 (Value.int .u8 0)).length) ∧ (∀ v ∈ bs.map bv, v.oneCell' = true) ∧ splice (List.replicate 64 (Value.int .u8 0)) 0 (bs.map bv) = bs.map bv) := ⟨by
  have h1 : (bs.map bv).length = 64 := by rw [List.length_map, hb]
  refine ⟨by rw [h1]; exact size47, by rw [h1]; simp, bytes_one bs, ?_⟩
  simp [splice, hb]⟩
/-- A block's value, laid into a new variable. -/
structure Laid1 (w w' : World) (bs : List UInt8) : Prop where
  row : Row w' w.heap.size 47 (bs.map bv)
  below : Below w.heap.size w w'
  size : w'.heap.size = w.heap.size + 1
theorem wl_var {w : World} {ops : Array Oper} {rest : List Oper} {o o2 : Oper} {a : Act} {Q : Exit → Act → World → Prop} (hgd : o.guard = none) (hgd2 : o2.guard = none) (ho : o.op = .alloc 47) (d : Tmp) (hd : o.dst = some d) (hd2 : o2.dst = none) (y : Operand) (ho2 : o2.op = .store 47 (.tmp d) y)
    (A : Array Value) (bs : List UInt8) (hb : bs.length = 64) (hA : A = (bs.map bv).toArray) (hx : (a.put (some d) (.pointer (some ⟨w.heap.size, 0, none⟩))).eval (.tmp d) = .pointer (some ⟨w.heap.size, 0, none⟩)) (hy : (a.put (some d) (.pointer (some ⟨w.heap.size, 0, none⟩))).eval y = .agg A)
    (h : ∀ w', Hid (Laid1 w w' bs) → wpList Tryd.prog ops Q rest (a.put (some d) (.pointer (some ⟨w.heap.size, 0, none⟩))) w') :
    wpList Tryd.prog ops Q (o :: o2 :: rest) a w := by
  refine wl_alloc hgd 47 ho d hd _ _ info47 fun w1 H1 => ?_
  have HF := fact64 bs hb
  refine wl_store hgd2 47 (.tmp d) y ho2 w.heap.size 0 _ (bs.map bv) hx hy (by rw [hA]) 47 _ H1.out.1 HF.out.1 HF.out.2.1 HF.out.2.2.1 fun w2 H2 => ?_
  rw [hd2]
  refine h w2 (Lib.hid ⟨?_, H1.out.2.1.trans (H2.out.2.1.below (fun k hk => by omega) H1.out.2.1.size), by rw [H2.out.2.2, H1.out.2.2]⟩)
  have h3 := H2.out.1
  rwa [HF.out.2.2.2] at h3

set_option maxHeartbeats 1000000 in
set_option maxRecDepth 100000 in
theorem alive_any (ad : Nat → Addr) (w : World) (hE : Errs w ad) (h2 : 2 ≤ w.heap.size) : Calls Tryd.prog 8 #[] w fun e w' => e = .returned (.bool true) ∧ Hid (Below w.heap.size w w') := by
  have HE := Lib.hid hE
  clear hE
  go_enter Tryd.func8, Tryd.ntmps8
  go_wp2_with fail
  with_reducible refine (al_new w).mono ?_
  rintro x w1 ⟨rfl, H1⟩
  have HT : Hid (∀ k, Two (w.heap.size + 1) w.heap.size k → w.heap.size ≤ k) := Lib.hid (by rintro k (e | e) <;> omega)
  have HT2 : Hid (2 ≤ w.heap.size + 1 ∧ 2 ≤ w.heap.size) := Lib.hid (by omega)
  generalize hg : w.heap.size + 1 = g at *
  have HG := Lib.hid hg
  clear hg
  go_wp2_with fail
  with_reducible refine (al_arm g _ _ H1.out.1).mono ?_
  rintro x w2 ⟨rfl, H2⟩
  have HB2 : Hid (Below w.heap.size w w2) := Lib.hid (H1.out.2.1.trans (H2.out.2.below HT.out H1.out.2.1.size))
  go_wp2_with fail
  with_reducible refine (al_write g _ _ H2.out.1).mono ?_
  rintro x w3 ⟨rfl, H3⟩
  have HB3 : Hid (Below w.heap.size w w3) := Lib.hid (HB2.out.trans (H3.out.2.below HT.out HB2.out.size))
  have HE3 := Lib.hid (HE.out.below h2 HB3.out)
  go_wp2_with fail
  with_reducible refine (al_write2 ad g _ _ _ HE3.out HT2.out H3.out.1).mono ?_
  rintro x w4 ⟨rfl, H4⟩
  have HB4 : Hid (Below w.heap.size w w4) := Lib.hid (HB3.out.trans (H4.out.2.below HT.out HB3.out.size))
  have HE4 := Lib.hid (HE.out.below h2 HB4.out)
  have HZ4 : Hid (2 ≤ w4.heap.size) := Lib.hid (Nat.le_trans h2 HB4.out.size)
  go_wp2_with fail
  with_reducible refine (al_read ad g _ _ HE4.out HZ4.out H4.out.1).mono ?_
  rintro x w5 ⟨A5, rfl, H5⟩
  have HB5 : Hid (Below w.heap.size w w5) := Lib.hid (HB4.out.trans (H5.out.2.mono HB4.out.size))
  have HD5 := Lib.hid (H4.out.1.under H5.out.2)
  have HZL : Hid (zeros64.length = 64 ∧ (blk 7).length = 64) := Lib.hid ⟨rfl, rfl⟩
  go_wp2_with (first
    | (refine wl_var rfl rfl rfl 5 rfl rfl (.tmp 34) rfl _ zeros64 HZL.out.1 H5.out.1 rfl rfl ?_
       intro w6 H6))
  have HB6 : Hid (Below w.heap.size w w6) := Lib.hid (HB5.out.trans (H6.out.below.mono HB5.out.size))
  have HD6 := Lib.hid (HD5.out.under H6.out.below)
  with_reducible refine (al_on g _ _ HD6.out).mono ?_
  rintro x w7 ⟨rfl, H7⟩
  have HB7 : Hid (Below w.heap.size w w7) := Lib.hid (HB6.out.trans (H7.out.2.below HT.out HB6.out.size))
  go_wp2_with fail
  with_reducible refine (al_read0 g _ _ H7.out.1).mono ?_
  rintro x w8 ⟨A8, rfl, H8⟩
  have HB8 : Hid (Below w.heap.size w w8) := Lib.hid (HB7.out.trans (H8.out.2.mono HB7.out.size))
  have HD8 := Lib.hid (H7.out.1.under H8.out.2)
  go_wp2_with (first
    | (refine wl_var rfl rfl rfl 7 rfl rfl (.tmp 43) rfl _ (blk 7) HZL.out.2 H8.out.1 rfl rfl ?_
       intro w9 H9))
  have HB9 : Hid (Below w.heap.size w w9) := Lib.hid (HB8.out.trans (H9.out.below.mono HB8.out.size))
  have HD9 := Lib.hid (HD8.out.under H9.out.below)
  with_reducible refine (al_read1 g _ _ HD9.out).mono ?_
  rintro x w10 ⟨A10, rfl, H10⟩
  have HB10 : Hid (Below w.heap.size w w10) := Lib.hid (HB9.out.trans (H10.out.2.mono HB9.out.size))
  have HR10 := Lib.hid (H9.out.row.below H10.out.2 H9.out.row.lt)
  go_wp2_with (first
    | (refine wl_var rfl rfl rfl 9 rfl rfl (.tmp 48) rfl _ zeros64 HZL.out.1 H10.out.1 rfl rfl ?_
       intro w11 H11
       have HB11 : Hid (Below w.heap.size w w11) := Lib.hid (HB10.out.trans (H11.out.below.mono HB10.out.size))
       have HR11 := Lib.hid (HR10.out.below H11.out.below HR10.out.lt)
       have ca : w11.cell? ⟨w8.heap.size, 0, none⟩ = some (.int .u8 7) := HR11.out.cell 0
       have cb : w11.cell? ⟨w10.heap.size, 0, none⟩ = some (.int .u8 0) := H11.out.row.cell 0
       have c1 := (HE.out.below h2 HB11.out).cell 1 (by omega)
       have heq := fun w' => err_same (ad 1) w'))
  go_ret
  exact ⟨rfl, HB11⟩
end Go.Proofs.YtadhgdjgpanddaaDoor

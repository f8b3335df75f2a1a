/- How a script of operations reads; the drum of the program and that of the document side by side. -/
import Derived.Test.YtadhgdjgpanddaaDoorBlock
import Derived.Test.YtadhgdjgpanddaaDoorByt
namespace Go.Proofs.YtadhgdjgpanddaaDoor
open Go.ChangeShapes Go.WideShapes Go.ChangeAt Go.WideMaps Go.WideElems Go.RowKit Go.Deep

/-- One operation of a script. -/
structure OpV where
  kind : Int
  at_ : Int
  n : Int
  byte : UInt8
structure OpV.ok (o : OpV) : Prop where
  k1 : -9223372036854775808 ≤ o.kind
  k2 : o.kind ≤ 9223372036854775807
  a1 : -9223372036854775808 ≤ o.at_
  a2 : o.at_ ≤ 9223372036854775807
  n1 : -9223372036854775808 ≤ o.n
  n2 : o.n ≤ 9223372036854775807
structure OpCells (W : World) (b off : Nat) (o : OpV) : Prop where
  c0 : W.cell? ⟨b, off, none⟩ = some (.int .i64 o.kind)
  c1 : W.cell? ⟨b, off + 1, none⟩ = some (.int .i64 o.at_)
  c2 : W.cell? ⟨b, off + 2, none⟩ = some (.int .i64 o.n)
  c3 : W.cell? ⟨b, off + 3, none⟩ = some (.int .u8 (o.byte.toNat : Int))
/-- 'the slice with base A holds the operations os, in a block below B'. -/
def OpsAt (W : World) (B : Nat) (A : Option Addr) (os : List OpV) : Prop :=
  os = [] ∨ ∃ b off, A = some ⟨b, off, none⟩ ∧ b < B ∧ ∀ (k : Nat) (o : OpV), os[k]? = some o → o.ok ∧ OpCells W b (off + k * 4) o
section
variable {H : Type} {enc : TypeId × Value → H} {W : World}
theorem cells43 : Tryd.prog.cellsOf 43 = 4 := by kernel_rfl
theorem open_op {base : Nat} {sp : Nat → Bool} {held : Bool} {n : Nat} {a : Addr} {cs : List Value} {x : DataW H × List MemPlace} (hc : W.cells? base a 4 = some cs) (h : DataW.trod enc Tryd.prog W 0 sp held n 43 cs = some x) :
    ∃ o : OpV, o.ok ∧ W.cell? (a.add 0) = some (.int .i64 o.kind) ∧ W.cell? (a.add 1) = some (.int .i64 o.at_) ∧ W.cell? (a.add 2) = some (.int .i64 o.n) ∧ W.cell? (a.add 3) = some (.int .u8 (o.byte.toNat : Int)) := by
  obtain ⟨_, hlen, hat⟩ := World.cells?_some hc
  obtain ⟨ys, m, _, _, _, _, hf⟩ := DataW.trod_struct Tryd.underlying43 h
  match cs, hlen with
  | [c0, c1, c2, c3], _ =>
    have h0 : DataW.trod enc Tryd.prog W 0 sp held m 3 (List.take (Tryd.prog.cellsOf 3) [c0, c1, c2, c3]) = ys[0]? := hf 0 _ rfl
    have h1 : DataW.trod enc Tryd.prog W 0 sp held m 3 (List.take (Tryd.prog.cellsOf 3) [c1, c2, c3]) = ys[1]? := hf 1 _ rfl
    have h2 : DataW.trod enc Tryd.prog W 0 sp held m 3 (List.take (Tryd.prog.cellsOf 3) [c2, c3]) = ys[2]? := hf 2 _ rfl
    have h3 : DataW.trod enc Tryd.prog W 0 sp held m 5 (List.take (Tryd.prog.cellsOf 5) [c3]) = ys[3]? := hf 3 _ rfl
    rw [cells3] at h0 h1 h2
    rw [cells5] at h3
    have hl : ys.length = 4 := by assumption
    obtain ⟨i0, e0, _, w0⟩ := DataW.trod_int Tryd.underlying3 (h0.trans (List.getElem?_eq_getElem (by omega)))
    obtain ⟨i1, e1, _, w1⟩ := DataW.trod_int Tryd.underlying3 (h1.trans (List.getElem?_eq_getElem (by omega)))
    obtain ⟨i2, e2, _, w2⟩ := DataW.trod_int Tryd.underlying3 (h2.trans (List.getElem?_eq_getElem (by omega)))
    obtain ⟨i3, e3, _, w3⟩ := DataW.trod_int Tryd.underlying5 (h3.trans (List.getElem?_eq_getElem (by omega)))
    have b0 := bounds_i64 w0
    have b1 := bounds_i64 w1
    have b2 := bounds_i64 w2
    have b3 := bounds_u8 w3
    refine ⟨⟨i0, i1, i2, UInt8.ofNat i3.toNat⟩, ⟨by show _ ≤ i0; omega, by show i0 ≤ _; omega, by show _ ≤ i1; omega, by show i1 ≤ _; omega, by show _ ≤ i2; omega, by show i2 ≤ _; omega⟩, ?_, ?_, ?_, ?_⟩
    · rw [hat 0 (by omega)]; injection e0 with e0; simp [e0]
    · rw [hat 1 (by omega)]; injection e1 with e1; simp [e1]
    · rw [hat 2 (by omega)]; injection e2 with e2; simp [e2]
    · rw [hat 3 (by omega)]; injection e3 with e3
      have e4 : ((UInt8.ofNat i3.toNat).toNat : Int) = i3 := by rw [UInt8.toNat_ofNat', Nat.mod_eq_of_lt (by omega)]; omega
      simp [e3]
      omega
theorem choose_list {α : Type} {P : Nat → α → Prop} : ∀ n : Nat, (∀ i, i < n → ∃ y, P i y) → ∃ cs : List α, cs.length = n ∧ ∀ i y, cs[i]? = some y → P i y
  | 0, _ => ⟨[], rfl, fun i y h => by simp at h⟩
  | n + 1, h => by
    obtain ⟨cs, hl, hc⟩ := choose_list n (fun i hi => h i (by omega))
    obtain ⟨y, hy⟩ := h n (by omega)
    refine ⟨cs ++ [y], by simp [hl], fun i z hz => ?_⟩
    rcases Nat.lt_or_ge i cs.length with hlt | hge
    · rw [List.getElem?_append_left hlt] at hz
      exact hc i z hz
    · rw [List.getElem?_append_right hge] at hz
      have : i - cs.length = 0 := by
        rcases Nat.eq_zero_or_pos (i - cs.length) with h0 | h0
        · exact h0
        · rw [List.getElem?_eq_none (by simp; omega)] at hz; cases hz
      rw [this] at hz
      simp at hz
      subst hz
      have : i = n := by omega
      subst this
      exact hy
theorem open_ops {fuel : Nat} {vs : List Value} {x : DataW H × List MemPlace} (h : DataW.trod enc Tryd.prog W 0 (fun _ => true) true fuel 23 vs = some x) :
    ∃ (A : Option Addr) (n cap : Nat) (os : List OpV), vs = [.slice A n cap] ∧ os.length = n ∧ n ≤ cap ∧ cap ≤ maxLen ∧ OpsAt W W.heap.size A os := by
  rcases open_slice Tryd.underlying23 h with ⟨rfl, rfl⟩ | ⟨a, len, cap, m, n, D, Pl, rfl, _, hl, hm, hmm, rfl, hi⟩
  · exact ⟨none, 0, 0, [], rfl, rfl, Nat.le_refl _, by decide, .inl rfl⟩
  · have hm' : len ≤ m := by rw [hmm]; split <;> omega
    rw [cells43] at hi
    obtain ⟨cs, hcl, hcs⟩ := choose_list (P := fun i (o : OpV) => o.ok ∧ W.cell? ((a.add (i * 4)).add 0) = some (.int .i64 o.kind) ∧ W.cell? ((a.add (i * 4)).add 1) = some (.int .i64 o.at_) ∧ W.cell? ((a.add (i * 4)).add 2) = some (.int .i64 o.n) ∧ W.cell? ((a.add (i * 4)).add 3) = some (.int .u8 (o.byte.toNat : Int))) len (fun i hi' => by
      obtain ⟨vs, hv, ht⟩ := hi i (by omega)
      exact open_op hv ht)
    refine ⟨some a, len, cap, cs, rfl, hcl, hl, hm, ?_⟩
    rcases Nat.eq_zero_or_pos len with h0 | h0
    · exact .inl (List.eq_nil_of_length_eq_zero (by omega))
    · have hfirst := (hcs 0 (cs[0]'(by omega)) (List.getElem?_eq_getElem (by omega))).2.1
      have e0 : (a.add (0 * 4)).add 0 = a := by simp [Addr.add]
      rw [e0] at hfirst
      obtain ⟨b, o, spt⟩ := a
      obtain rfl : spt = none := addr_split hfirst
      refine .inr ⟨b, o, rfl, lt_of_cell hfirst, fun k y hy => ?_⟩
      obtain ⟨gk, g0, g1, g2, g3⟩ := hcs k y hy
      rw [addr_plain, addr_plain] at g0 g1 g2 g3
      exact ⟨gk, ⟨g0, g1, g2, g3⟩⟩
end
theorem OpsAt.below {W W' : World} {B : Nat} {A : Option Addr} {os : List OpV} (h : OpsAt W B A os) (hb : Below B W W') : OpsAt W' B A os := by
  rcases h with h | ⟨b, off, h1, h2, h3⟩
  · exact .inl h
  · refine .inr ⟨b, off, h1, h2, fun k o hk => ?_⟩
    obtain ⟨g, g4⟩ := h3 k o hk
    exact ⟨g, ⟨(hb.cell (p := ⟨b, _, none⟩) h2).trans g4.c0, (hb.cell (p := ⟨b, _, none⟩) h2).trans g4.c1, (hb.cell (p := ⟨b, _, none⟩) h2).trans g4.c2, (hb.cell (p := ⟨b, _, none⟩) h2).trans g4.c3⟩⟩
theorem readOps : Tryd.prog.readableRec 23 = true := by kernel_rfl
theorem rowOps : 23 < Tryd.prog.types.size := of_decide_eq_true (by kernel_rfl)

/-! Both drums, by one mathematical drum. -/
/-- The number of Read's error. -/
def Dm.askc (D : Dm) (z : Int) : Nat := if D.off then 6 else if z < 0 ∨ (D.n : Int) ≤ z then 1 else 0
/-- The number of Write's error, and the drum behind it. -/
def Dm.code (D : Dm) (z : Int) : Nat := if D.askc z = 0 then (if D.armed ∧ D.left = 0 then 6 else 0) else D.askc z
def Dm.after (D : Dm) (z : Int) (b : List UInt8) : Dm := if D.askc z = 0 then (if D.armed ∧ D.left = 0 then { D with off := true } else D.wrote z.toNat b) else D
def Dm.got (D : Dm) (z : Int) : List UInt8 := if D.askc z = 0 then D.block z.toNat else zeros64
/-- An error by its number. -/
def evOf (ad : Nat → Addr) (c : Nat) : Value := if c = 0 then .nilIface else if c = 1 then .iface 67 (.pointer (some (ad 0))) else .iface 67 (.pointer (some (ad 1)))
theorem askc_cases (D : Dm) (z : Int) : (D.off = true ∧ D.askc z = 6) ∨ (D.off = false ∧ (z < 0 ∨ (D.n : Int) ≤ z) ∧ D.askc z = 1) ∨ (D.off = false ∧ (∃ i : Nat, z = (i : Int) ∧ i < D.n) ∧ D.askc z = 0) := by
  unfold Dm.askc
  cases D.off
  · by_cases h : z < 0 ∨ (D.n : Int) ≤ z
    · right; left; simp [h]
    · right; right; exact ⟨rfl, ⟨z.toNat, by omega, by omega⟩, by simp [h]⟩
  · left; simp
theorem got_length {D : Dm} (hk : D.ok) (z : Int) : (D.got z).length = 64 := by
  unfold Dm.got
  rcases askc_cases D z with ⟨_, h⟩ | ⟨_, _, h⟩ | ⟨_, ⟨i, rfl, hi⟩, h⟩ <;> rw [h]
  · rfl
  · rfl
  · rw [if_pos rfl, Int.toNat_natCast]; exact block_length hk hi
theorem p_write (ad : Nat → Addr) {h : Nat} {D : Dm} (g : Nat) (z : Int) (A : Array Value) (b : List UInt8) (W : World) (hE : Errs W ad) (hgh : 2 ≤ g ∧ 2 ≤ h) (H : DrumAt W g h D) (hA : A = (b.map bv).toArray) (hb : b.length = 64) (hw : D.writes < 1000000) :
    Calls Tryd.prog 16 #[.pointer (some ⟨g, 0, none⟩), .int .i64 z, .agg A] W fun x W' => x = .returned (evOf ad (D.code z)) ∧ Hid (DrumAt W' g h (D.after z b) ∧ Turn (Two g h) W W') := by
  have h2 : 2 ≤ W.heap.size := by have := H.row.lt; omega
  rcases askc_cases D z with ⟨ho, hc⟩ | ⟨ho, hz, hc⟩ | ⟨ho, ⟨i, rfl, hi⟩, hc⟩
  · rw [Dm.code, Dm.after, hc]
    exact (write_off ad g z A W hE h2 H ho).mono fun x W' ⟨hx, hB⟩ => ⟨hx, Lib.hid ⟨H.under hB.out, Turn.of_below hB.out⟩⟩
  · rw [Dm.code, Dm.after, hc]
    exact (write_range ad g z A W hE h2 H ho hz).mono fun x W' ⟨hx, hB⟩ => ⟨hx, Lib.hid ⟨H.under hB.out, Turn.of_below hB.out⟩⟩
  · rw [Dm.code, Dm.after, hc, if_pos rfl, if_pos rfl, Int.toNat_natCast]
    by_cases ha : D.armed = true ∧ D.left = 0
    · rw [if_pos ha, if_pos ha]
      exact write_power ad g i A W hE hgh H ho hi ha.1 ha.2
    · rw [if_neg ha, if_neg ha]
      exact write_ok g i A b W H hA hb ho hi (fun h => Nat.pos_of_ne_zero (fun e => ha ⟨h, e⟩)) hw
theorem r_write {h N : Nat} {D : Dm} (g : Nat) (z : Int) (A : Array Value) (b : List UInt8) (W : World) (H : RefAt W g h N D) (hA : A = (b.map bv).toArray) (hb : b.length = 64) (hw : D.writes < 1000000) :
    Calls Tryd.prog 18 #[.pointer (some ⟨g, 0, none⟩), .int .i64 z, .agg A] W fun x W' => x = .returned (.int .i64 (D.code z : Int)) ∧ Hid (RefAt W' g h N (D.after z b) ∧ Turn (Two g h) W W') := by
  rcases askc_cases D z with ⟨ho, hc⟩ | ⟨ho, hz, hc⟩ | ⟨ho, ⟨i, rfl, hi⟩, hc⟩
  · rw [Dm.code, Dm.after, hc]
    exact (rwrite_off g z A W H ho).mono fun x W' ⟨hx, hB⟩ => ⟨hx, Lib.hid ⟨H.under hB.out, Turn.of_below hB.out⟩⟩
  · rw [Dm.code, Dm.after, hc]
    exact (rwrite_range g z A W H ho hz).mono fun x W' ⟨hx, hB⟩ => ⟨hx, Lib.hid ⟨H.under hB.out, Turn.of_below hB.out⟩⟩
  · rw [Dm.code, Dm.after, hc, if_pos rfl, if_pos rfl, Int.toNat_natCast]
    by_cases ha : D.armed = true ∧ D.left = 0
    · rw [if_pos ha, if_pos ha]
      exact rwrite_power g i A W H ho hi ha.1 ha.2
    · rw [if_neg ha, if_neg ha]
      exact rwrite_ok g i A b W H hA hb ho hi (fun h => Nat.pos_of_ne_zero (fun e => ha ⟨h, e⟩)) hw
theorem p_read (ad : Nat → Addr) {h : Nat} {D : Dm} (g : Nat) (z : Int) (W : World) (hE : Errs W ad) (h2 : 2 ≤ W.heap.size) (H : DrumAt W g h D) :
    Calls Tryd.prog 19 #[.pointer (some ⟨g, 0, none⟩), .int .i64 z] W fun x W' => ∃ A, x = .returned (.tuple #[.agg A, evOf ad (D.askc z)]) ∧ Hid (A = ((D.got z).map bv).toArray ∧ Below W.heap.size W W') := by
  rcases askc_cases D z with ⟨ho, hc⟩ | ⟨ho, hz, hc⟩ | ⟨ho, ⟨i, rfl, hi⟩, hc⟩
  · rw [Dm.got, hc]; exact read_off ad g z W hE h2 H ho
  · rw [Dm.got, hc]; exact read_range ad g z W hE h2 H ho hz
  · rw [Dm.got, hc, if_pos rfl, Int.toNat_natCast]; exact read_ok g i W H ho hi
theorem r_read {h N : Nat} {D : Dm} (g : Nat) (z : Int) (W : World) (H : RefAt W g h N D) :
    Calls Tryd.prog 20 #[.pointer (some ⟨g, 0, none⟩), .int .i64 z] W fun x W' => ∃ A, x = .returned (.tuple #[.agg A, .int .i64 (D.askc z : Int)]) ∧ Hid (A = ((D.got z).map bv).toArray ∧ Below W.heap.size W W') := by
  rcases askc_cases D z with ⟨ho, hc⟩ | ⟨ho, hz, hc⟩ | ⟨ho, ⟨i, rfl, hi⟩, hc⟩
  · rw [Dm.got, hc]; exact rread_off g z W H ho
  · rw [Dm.got, hc]; exact rread_range g z W H ho hz
  · rw [Dm.got, hc, if_pos rfl, Int.toNat_natCast]; exact rread_ok g i W H ho hi
theorem num_code (ad : Nat → Addr) (c : Nat) (W : World) (h : Eighteen W ad) (hc : c = 0 ∨ c = 1 ∨ c = 6) : Calls Tryd.prog 15 #[evOf ad c] W fun x W' => x = .returned (.int .i64 (c : Int)) ∧ Hid (Below W.heap.size W W') := by
  rcases hc with rfl | rfl | rfl
  · exact (num_none W).mono fun x W' ⟨hx, hw⟩ => ⟨hx, by subst hw; exact Lib.hid (Below.refl _ _)⟩
  · exact (num_err ad 0 W h (by decide)).mono fun x W' ⟨hx, hw⟩ => ⟨hx, Lib.hid hw⟩
  · exact (num_err ad 1 W h (by decide)).mono fun x W' ⟨hx, hw⟩ => ⟨hx, Lib.hid hw⟩
theorem askc_any (D : Dm) (z : Int) : D.askc z = 0 ∨ D.askc z = 1 ∨ D.askc z = 6 := by
  rcases askc_cases D z with ⟨_, h⟩ | ⟨_, _, h⟩ | ⟨_, _, h⟩ <;> rw [h] <;> simp
theorem code_any (D : Dm) (z : Int) : D.code z = 0 ∨ D.code z = 1 ∨ D.code z = 6 := by
  unfold Dm.code
  split
  · split <;> simp
  · exact askc_any D z
theorem after_writes (D : Dm) (z : Int) (b : List UInt8) : (D.after z b).writes ≤ D.writes + 1 ∧ (D.after z b).n = D.n := by
  unfold Dm.after
  split
  · split
    · exact ⟨by show D.writes ≤ _; omega, rfl⟩
    · exact ⟨Nat.le_refl _, rfl⟩
  · exact ⟨by omega, rfl⟩
/-- The drum of the program and that of the document. -/
structure SimW (w W : World) (g h rg rh N : Nat) (D : Dm) : Prop where
  d : DrumAt W g h D
  r : RefAt W rg rh N D
  ne : g ≠ rg ∧ g ≠ rh ∧ h ≠ rg ∧ h ≠ rh
  lo : w.heap.size ≤ g ∧ w.heap.size ≤ h ∧ w.heap.size ≤ rg ∧ w.heap.size ≤ rh
  below : Below w.heap.size w W
theorem SimW.under {w W W' : World} {g h rg rh N : Nat} {D : Dm} (H : SimW w W g h rg rh N D) (hb : Below W.heap.size W W') : SimW w W' g h rg rh N D := ⟨H.d.under hb, H.r.under hb, H.ne, H.lo, H.below.trans (hb.mono H.below.size)⟩
theorem SimW.stay {w W W' : World} {g h rg rh N : Nat} {D : Dm} (H : SimW w W g h rg rh N D) (hb : Stay W W') : SimW w W' g h rg rh N D := H.under ⟨hb.os, hb.tape, hb.output, by rw [hb.heap]; exact Nat.le_refl _, fun k _ => by rw [hb.heap]⟩
/-- Between a call of the program's drum and that of the document's. -/
structure MidW (w W : World) (g h rg rh N : Nat) (D D' : Dm) : Prop where
  d : DrumAt W g h D'
  r : RefAt W rg rh N D
  ne : g ≠ rg ∧ g ≠ rh ∧ h ≠ rg ∧ h ≠ rh
  lo : w.heap.size ≤ g ∧ w.heap.size ≤ h ∧ w.heap.size ≤ rg ∧ w.heap.size ≤ rh
  below : Below w.heap.size w W
theorem SimW.mid {w W W' : World} {g h rg rh N : Nat} {D D' : Dm} (H : SimW w W g h rg rh N D) (hd : DrumAt W' g h D') (ht : Turn (Two g h) W W') : MidW w W' g h rg rh N D D' :=
  ⟨hd, H.r.turn ht (not_two (fun e => H.ne.1 e.symm) (fun e => H.ne.2.2.1 e.symm)) (not_two (fun e => H.ne.2.1 e.symm) (fun e => H.ne.2.2.2 e.symm)), H.ne, H.lo, H.below.trans (ht.below (by have := H.lo; rintro k (e | e) <;> omega) H.below.size)⟩
theorem MidW.under {w W W' : World} {g h rg rh N : Nat} {D D' : Dm} (H : MidW w W g h rg rh N D D') (hb : Below W.heap.size W W') : MidW w W' g h rg rh N D D' := ⟨H.d.under hb, H.r.under hb, H.ne, H.lo, H.below.trans (hb.mono H.below.size)⟩
theorem MidW.sim {w W W' : World} {g h rg rh N : Nat} {D D' : Dm} (H : MidW w W g h rg rh N D D') (hr : RefAt W' rg rh N D') (ht : Turn (Two rg rh) W W') : SimW w W' g h rg rh N D' :=
  ⟨H.d.turn ht (not_two H.ne.1 H.ne.2.1) (not_two H.ne.2.2.1 H.ne.2.2.2), hr, H.ne, H.lo, H.below.trans (ht.below (by have := H.lo; rintro k (e | e) <;> omega) H.below.size)⟩
theorem errs_of {W : World} {ad : Nat → Addr} (h : Eighteen W ad) : Errs W ad := ⟨fun k hk => h.cell k (by rcases (by omega : k = 0 ∨ k = 1) with rfl | rfl <;> decide)⟩
theorem Eighteen.size {W : World} {ad : Nat → Addr} (h : Eighteen W ad) : 18 ≤ W.heap.size := by have := (h.lt 17 (by decide)).1; omega
end Go.Proofs.YtadhgdjgpanddaaDoor

/- What jackfieldlaw03.alive answers: true. -/
import Derived.Test.YtlceemaannndbaaDoorHas
import Derived.Lib.SlBytesConst
namespace Go.Proofs.YtlceemaannndbaaDoor
open Go.RowKit

theorem rd_new (w : World) (cells : Array Value) (bs : List UInt8) (fr : Nat × Nat) (hc : cells.toList = bs.map bv) : Rd (w.alloc (.cells cells 5 fr)) (w.alloc (.cells cells 5 fr)).heap.size (some ⟨w.heap.size, 0, none⟩) (bs.map bv) := by
  refine .inr ⟨_, rfl, by simp, ?_⟩
  intro j u hj
  have e : (w.alloc (.cells cells 5 fr)).cell? ⟨w.heap.size, j, none⟩ = _ := World.cell?_alloc_mark w _ 5 fr j
  rw [Addr.add_mid, Nat.zero_add, e, ← Array.getElem?_toList, hc]
  exact hj

def al0 : Pr := fresh 4
def al1 : Pr := al0.wrote 0 [97, 98, 99, 100, 101, 102]
def al2 : Pr := al1.carry 0 3
def al3 : Pr := al2.took 0 2
def al4 : Pr := al3.cutting
def al5 : Pr := al4.took 0 9
theorem al_write {B : Nat} {K : Nat → Prop} (g : Nat) (A : Option Addr) (w : World) (h : Has w B K g al0) (hr : Rd w w.heap.size A (([97, 98, 99, 100, 101, 102] : List UInt8).map bv)) :
    Calls Tryd.prog 11 #[.pointer (some ⟨g, 0, none⟩), .int .i64 0, .slice A 6 6] w fun x w' => x = .returned (.tuple #[.int .i64 4, .nilIface]) ∧ Hid (Has w' B K g al1 ∧ Keep K w w') :=
  h_write g 0 0 rfl A 6 6 [97, 98, 99, 100, 101, 102] w h (by omega) rfl rfl rfl (by omega) (by decide) hr
theorem al_carry {B : Nat} {K : Nat → Prop} (g : Nat) (w : World) (h : Has w B K g al1) :
    Calls Tryd.prog 17 #[.pointer (some ⟨g, 0, none⟩), .int .i64 0, .int .i64 3] w fun x w' => x = .returned (.tuple #[.int .i64 3, .nilIface]) ∧ Hid (Has w' B K g al2 ∧ Keep K w w') :=
  h_carry g 0 0 rfl 3 3 rfl w h (by omega) rfl (by decide)
theorem al_read {B : Nat} {K : Nat → Prop} (g : Nat) (w : World) (h : Has w B K g al2) :
    Calls Tryd.prog 19 #[.pointer (some ⟨g, 0, none⟩), .int .i64 1, .int .i64 2] w fun x w' => ∃ A m c, x = .returned (.tuple #[.slice A m c, .nilIface]) ∧ Hid (New w w' A m c [97, 98] ∧ Has w' B (fun k => K k ∨ w.heap.size ≤ k ∧ k < w'.heap.size) g al3 ∧ Keep K w w') :=
  h_read2 g 1 1 rfl 2 2 rfl w h (by omega) (by decide) (fun h => by cases h)
theorem al_room {B : Nat} {K : Nat → Prop} (g : Nat) (w : World) (h : Has w B K g al3) :
    Calls Tryd.prog 23 #[.pointer (some ⟨g, 0, none⟩), .int .i64 0] w fun x w' => x = .returned (.int .i64 2) ∧ ∃ n, w' = w.drewN n :=
  h_room g 0 0 rfl w h (by omega)
theorem al_read2 {B : Nat} {K : Nat → Prop} (g : Nat) (w : World) (h : Has w B K g al4) :
    Calls Tryd.prog 19 #[.pointer (some ⟨g, 0, none⟩), .int .i64 1, .int .i64 9] w fun x w' => ∃ A m c, x = .returned (.tuple #[.slice A m c, .nilIface]) ∧ Hid (New w w' A m c [99] ∧ Has w' B K g al5 ∧ Keep K w w') :=
  h_read g 1 1 rfl 9 9 rfl w h (by omega) (by decide) (fun _ => by decide)
theorem al_read3 {B : Nat} {K : Nat → Prop} (ad : Nat → Addr) (g : Nat) (w : World) (hE : Errs w ad) (h : Has w B K g al5) :
    Calls Tryd.prog 19 #[.pointer (some ⟨g, 0, none⟩), .int .i64 1, .int .i64 9] w fun x w' => x = .returned (.tuple #[.slice none 0 0, .iface 73 (.pointer (some (ad 1)))]) ∧ ∃ n, w' = w.drewN n :=
  h_read_cut ad g 1 1 rfl 9 9 rfl w hE h (by omega) rfl rfl

set_option maxHeartbeats 1000000 in
set_option maxRecDepth 100000 in
theorem alive_any (ad : Nat → Addr) (w : World) (hE : Errs w ad) (h3 : 3 ≤ w.heap.size) : Calls Tryd.prog 8 #[] w fun e w' => e = .returned (.bool true) ∧ Hid (Below w.heap.size w w') := by
  have HE := Lib.hid hE
  clear hE
  have hcv := fun (w' : World) (C : Array Value) (n c : Nat) => Lib.run_convert_bytes_const (P := Tryd.prog) w' 30 5 C n c Tryd.underlying30 Tryd.underlying5
  go_enter Tryd.func8, Tryd.ntmps8
  go_wp2_with fail
  with_reducible refine (h_new (B := w.heap.size) (K := fun k => k < w.heap.size) 4 4 rfl w (by omega) (by omega) (fun k h => h) (Nat.le_refl _)).mono ?_
  rintro x w1 ⟨rfl, H1⟩
  have HB1 : Hid (Below w1.heap.size w1 (w1.alloc (.cells #[.int .u8 97, .int .u8 98, .int .u8 99, .int .u8 100, .int .u8 101, .int .u8 102] 5 (6, 7)))) := Lib.hid ((Below.refl _ _).alloc (Nat.le_refl _) _)
  have HR1 := Lib.hid (rd_new w1 #[.int .u8 97, .int .u8 98, .int .u8 99, .int .u8 100, .int .u8 101, .int .u8 102] [97, 98, 99, 100, 101, 102] (6, 7) rfl)
  have HH1 : Hid (Has (w1.alloc (.cells #[.int .u8 97, .int .u8 98, .int .u8 99, .int .u8 100, .int .u8 101, .int .u8 102] 5 (6, 7))) w.heap.size (fun k => k < w.heap.size) w.heap.size al0 ∧ Keep (fun k => k < w.heap.size) w (w1.alloc (.cells #[.int .u8 97, .int .u8 98, .int .u8 99, .int .u8 100, .int .u8 101, .int .u8 102] 5 (6, 7)))) := Lib.hid ⟨H1.out.1.below HB1.out, H1.out.2.trans (Keep.of_below HB1.out H1.out.1.lt)⟩
  clear H1
  go_wp2_with fail
  with_reducible refine (al_write _ _ _ HH1.out.1 HR1.out).mono ?_
  rintro x w2 ⟨rfl, H2⟩
  go_wp2_with fail
  with_reducible refine (al_carry _ _ H2.out.1).mono ?_
  rintro x w3 ⟨rfl, H3⟩
  go_wp2_with fail
  with_reducible refine (al_read _ _ H3.out.1).mono ?_
  rintro x w4 ⟨A4, m4, c4, rfl, H4⟩
  go_wp2_with fail
  with_reducible refine (al_room _ _ H4.out.2.1).mono ?_
  rintro x w5 ⟨rfl, n5, rfl⟩
  have HH5 := Lib.hid (H4.out.2.1.stay (Stay.drewN w4 n5))
  go_wp2_with fail
  with_reducible refine (h_cut _ _ HH5.out).mono ?_
  rintro x w6 ⟨rfl, H6⟩
  go_wp2_with fail
  with_reducible refine (al_read2 _ _ H6.out.1).mono ?_
  rintro x w7 ⟨A7, m7, c7, rfl, H7⟩
  have HK4 : Hid (Keep (fun k => k < w.heap.size ∨ w3.heap.size ≤ k ∧ k < w4.heap.size) w4 w7) := Lib.hid (((Keep.stay (Stay.drewN w4 n5)).trans H6.out.2).trans H7.out.2.2)
  have HK7 : Hid (Keep (fun k => k < w.heap.size) w w7) := Lib.hid ((((HH1.out.2.trans H2.out.2).trans H3.out.2).trans H4.out.2.2).trans (HK4.out.mono (fun k hk => .inl hk)))
  have HE7 : Hid (Errs w7 ad) := Lib.hid (HE.out.keep HK7.out (fun k hk => by omega))
  go_wp2_with fail
  with_reducible refine (al_read3 ad _ _ HE7.out H7.out.2.1).mono ?_
  rintro x w8 ⟨rfl, n8, rfl⟩
  have c1 := HE7.out.cell 1 (by omega)
  have hv4 : (convert 30 9 (.slice A4 m4 c4)).run Tryd.prog (w7.drewN n8) = .ok (.string ⟨#[97, 98]⟩) (w7.drewN n8) := ((H4.out.1.to HK4.out).stay (Stay.drewN w7 n8)).str
  have hv7 : (convert 30 9 (.slice A7 m7 c7)).run Tryd.prog (w7.drewN n8) = .ok (.string ⟨#[99]⟩) (w7.drewN n8) := (H7.out.1.stay (Stay.drewN w7 n8)).str
  have heq := fun w' => eql_same (ad 1) w'
  go_wp2_with fail
  go_ret
  exact ⟨rfl, Lib.hid (HK7.out.trans (Keep.stay (Stay.drewN w7 n8)) |>.below (fun k hk => hk))⟩
end Go.Proofs.YtlceemaannndbaaDoor

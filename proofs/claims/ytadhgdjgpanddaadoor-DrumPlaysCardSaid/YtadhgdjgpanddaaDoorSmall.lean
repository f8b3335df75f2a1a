/- The small functions of package drum: Off, Blocks, Writes, Arm, On, spend, refusal. -/
import Derived.Test.YtadhgdjgpanddaaDoorDm
import Derived.Deep.QuietTactic
namespace Go.Proofs.YtadhgdjgpanddaaDoor
open Go.RowKit

/-- The two errors of package drum: ErrRange at variable 0, ErrPower at variable 1. -/
structure Errs (w : World) (ad : Nat → Addr) : Prop where
  cell : ∀ k, k < 2 → w.cell? ⟨k, 0, none⟩ = some (.iface 67 (.pointer (some (ad k))))
theorem Errs.below {w w' : World} {ad : Nat → Addr} (h : Errs w ad) {B : Nat} (hB : 2 ≤ B) (hb : Below B w w') : Errs w' ad := ⟨fun k hk => (hb.cell (p := ⟨k, 0, none⟩) (show k < B by omega)).trans (h.cell k hk)⟩
theorem Errs.stay {w w' : World} {ad : Nat → Addr} (h : Errs w ad) (hs : Stay w w') : Errs w' ad := ⟨fun k hk => (hs.cell _).trans (h.cell k hk)⟩

theorem off_any {h : Nat} {D : Dm} (g : Nat) (w : World) (H : DrumAt w g h D) : Calls Tryd.prog 11 #[.pointer (some ⟨g, 0, none⟩)] w fun x w' => x = .returned (.bool D.off) ∧ w = w' := by
  have c0 := H.c0
  clear H
  go_enter Tryd.func11, Tryd.ntmps11
  go_wp2_with fail
  go_ret
  exact ⟨rfl, rfl⟩
theorem blocks_any {h : Nat} {D : Dm} (g : Nat) (w : World) (H : DrumAt w g h D) : Calls Tryd.prog 10 #[.pointer (some ⟨g, 0, none⟩)] w fun x w' => x = .returned (.int .i64 (D.n : Int)) ∧ w = w' := by
  have c3 := H.c3
  clear H
  go_enter Tryd.func10, Tryd.ntmps10
  go_wp2_with fail
  go_ret
  exact ⟨rfl, rfl⟩
theorem writes_any {h : Nat} {D : Dm} (g : Nat) (w : World) (H : DrumAt w g h D) : Calls Tryd.prog 25 #[.pointer (some ⟨g, 0, none⟩)] w fun x w' => x = .returned (.int .i64 (D.writes : Int)) ∧ w = w' := by
  have c4 := H.c4
  clear H
  go_enter Tryd.func25, Tryd.ntmps25
  go_wp2_with fail
  go_ret
  exact ⟨rfl, rfl⟩
/-- Armed with z. -/
def Dm.arm (D : Dm) (z : Int) : Dm := { D with armed := decide (0 ≤ z), left := z.toNat }
theorem arm_any {h : Nat} {D : Dm} (g : Nat) (z : Int) (w : World) (H : DrumAt w g h D) (hz : z ≤ 9223372036854775807) :
    Calls Tryd.prog 21 #[.pointer (some ⟨g, 0, none⟩), .int .i64 z] w fun x w' => x = .returned (.tuple #[]) ∧ Hid (DrumAt w' g h (D.arm z) ∧ Turn (Two g h) w w') := by
  have c1 := H.c1
  have c2 := H.c2
  have f1 := H.row.frozen 1
  have f2 := H.row.frozen 2
  have hk : ∀ b l, l ≤ 9223372036854775807 → ({ D with armed := b, left := l } : Dm).ok := fun b l hl => ⟨H.ok.lo, H.ok.hi, H.ok.len, hl, H.ok.writes⟩
  have HR : Hid (∀ (b : Bool) (l : Nat), l ≤ 9223372036854775807 → DrumAt ((w.setCell ⟨g, 1, none⟩ (.bool b)).setCell ⟨g, 2, none⟩ (.int .i64 (l : Int))) g h { D with armed := b, left := l } ∧ Turn (Two g h) w ((w.setCell ⟨g, 1, none⟩ (.bool b)).setCell ⟨g, 2, none⟩ (.int .i64 (l : Int)))) := Lib.hid (fun b l hl =>
    ⟨(H.set (D' := { D with armed := b }) 1 (.bool b) rfl rfl ⟨H.ok.lo, H.ok.hi, H.ok.len, H.ok.left, H.ok.writes⟩).set 2 _ rfl rfl (hk b l hl), (DrumAt.turn_set 1 _).trans (DrumAt.turn_set 2 _) (fun _ _ h => h)⟩)
  clear H hk
  by_cases h0 : 0 ≤ z
  · obtain ⟨l, rfl⟩ : ∃ l : Nat, z = (l : Int) := ⟨z.toNat, by omega⟩
    have HE : Hid (D.arm (l : Int) = { D with armed := true, left := l }) := Lib.hid (by simp [Dm.arm])
    go_enter Tryd.func21, Tryd.ntmps21
    go_wp2_with fail
    go_end0
    exact ⟨rfl, by rw [HE.out]; exact Lib.hid (HR.out true l (by omega))⟩
  · have HE : Hid (D.arm z = { D with armed := false, left := 0 }) := Lib.hid (by
      have e : z.toNat = 0 := by omega
      simp [Dm.arm, h0, e])
    have h1 : z < 0 := by omega
    have h2 : decide (0 ≤ z) = false := by simpa using h0
    go_enter Tryd.func21, Tryd.ntmps21
    go_wp2_with fail
    go_end0
    exact ⟨rfl, by rw [HE.out]; exact Lib.hid (HR.out false 0 (by omega))⟩
/-- The power on. -/
def Dm.on (D : Dm) : Dm := { D with off := false, armed := false, left := 0 }
theorem on_any {h : Nat} {D : Dm} (g : Nat) (w : World) (H : DrumAt w g h D) :
    Calls Tryd.prog 23 #[.pointer (some ⟨g, 0, none⟩)] w fun x w' => x = .returned (.tuple #[]) ∧ Hid (DrumAt w' g h D.on ∧ Turn (Two g h) w w') := by
  have HH := Lib.hid H
  clear H
  go_enter Tryd.func23, Tryd.ntmps23
  go_wp2_with (first
    | (refine wl_store rfl 32 (.tmp 4) (.tmp 3) rfl g 0 _ [.bool false, .bool false, .int .i64 0] rfl rfl rfl 35 _ HH.out.row (by kernel_rfl) (by simp [cellsD]) (by simp [Value.oneCell']) ?_
       intro w1 H1))
  go_end0
  refine ⟨rfl, Lib.hid ⟨⟨?_, ?_, HH.out.ne, ⟨HH.out.ok.lo, HH.out.ok.hi, HH.out.ok.len, by show 0 ≤ _; omega, HH.out.ok.writes⟩⟩, H1.out.2.1.mono (fun k _ e => .inl e)⟩⟩
  · exact H1.out.1
  · exact H1.out.2.1.row HH.out.blk (fun e => HH.out.ne e.symm)

theorem spend_free {h : Nat} {D : Dm} (g : Nat) (w : World) (H : DrumAt w g h D) (ha : D.armed = false) : Calls Tryd.prog 28 #[.pointer (some ⟨g, 0, none⟩)] w fun x w' => x = .returned (.bool true) ∧ w = w' := by
  have c1 := H.c1
  rw [ha] at c1
  clear H ha
  go_enter Tryd.func28, Tryd.ntmps28
  go_wp2_with fail
  go_ret
  exact ⟨rfl, rfl⟩
theorem spend_none {h : Nat} {D : Dm} (g : Nat) (w : World) (H : DrumAt w g h D) (ha : D.armed = true) (hl : D.left = 0) :
    Calls Tryd.prog 28 #[.pointer (some ⟨g, 0, none⟩)] w fun x w' => x = .returned (.bool false) ∧ Hid (DrumAt w' g h { D with off := true } ∧ Turn (Two g h) w w') := by
  have c0 := H.c0
  have c1 := H.c1
  have c2 := H.c2
  have f0 := H.row.frozen 0
  rw [ha] at c1
  rw [hl] at c2
  have HR := Lib.hid (H.set (D' := { D with off := true }) 0 (.bool true) rfl rfl ⟨H.ok.lo, H.ok.hi, H.ok.len, H.ok.left, H.ok.writes⟩)
  clear H ha hl
  go_enter Tryd.func28, Tryd.ntmps28
  go_wp2_with fail
  go_ret
  exact ⟨rfl, Lib.hid ⟨HR.out, DrumAt.turn_set 0 _⟩⟩
theorem spend_one {h : Nat} {D : Dm} (g : Nat) (w : World) (H : DrumAt w g h D) (ha : D.armed = true) (hl : 0 < D.left) :
    Calls Tryd.prog 28 #[.pointer (some ⟨g, 0, none⟩)] w fun x w' => x = .returned (.bool true) ∧ Hid (DrumAt w' g h { D with left := D.left - 1 } ∧ Turn (Two g h) w w') := by
  have c0 := H.c0
  have c1 := H.c1
  have c2 := H.c2
  have f2 := H.row.frozen 2
  have hb := H.ok.left
  rw [ha] at c1
  have HR : Hid (DrumAt (w.setCell ⟨g, 2, none⟩ (.int .i64 ((D.left : Int) - 1))) g h { D with left := D.left - 1 }) := Lib.hid (by
    have e : (D.left : Int) - 1 = ((D.left - 1 : Nat) : Int) := by omega
    rw [e]
    exact H.set (D' := { D with left := D.left - 1 }) 2 _ rfl rfl ⟨H.ok.lo, H.ok.hi, H.ok.len, by show D.left - 1 ≤ _; omega, H.ok.writes⟩)
  have hne : ¬ D.left = 0 := by omega
  clear H ha
  go_enter Tryd.func28, Tryd.ntmps28
  go_wp2_with fail
  go_ret
  exact ⟨rfl, Lib.hid ⟨HR.out, DrumAt.turn_set 2 _⟩⟩
theorem refusal_off {h : Nat} {D : Dm} (ad : Nat → Addr) (g : Nat) (z : Int) (w : World) (hE : Errs w ad) (H : DrumAt w g h D) (ho : D.off = true) :
    Calls Tryd.prog 27 #[.pointer (some ⟨g, 0, none⟩), .int .i64 z] w fun x w' => x = .returned (.iface 67 (.pointer (some (ad 1)))) ∧ w = w' := by
  have e1 := hE.cell 1 (by omega)
  have HH := Lib.hid H
  have HO := Lib.hid ho
  clear hE H ho
  go_enter Tryd.func27, Tryd.ntmps27
  go_wp2_with (go_at_call 11; (with_reducible refine (off_any _ _ HH.out).mono ?_); rintro x w' ⟨rfl, rfl⟩; rw [HO.out])
  go_ret
  exact ⟨rfl, rfl⟩
theorem refusal_range {h : Nat} {D : Dm} (ad : Nat → Addr) (g : Nat) (z : Int) (w : World) (hE : Errs w ad) (H : DrumAt w g h D) (ho : D.off = false) (hz : z < 0 ∨ (D.n : Int) ≤ z) :
    Calls Tryd.prog 27 #[.pointer (some ⟨g, 0, none⟩), .int .i64 z] w fun x w' => x = .returned (.iface 67 (.pointer (some (ad 0)))) ∧ w = w' := by
  have e1 := hE.cell 0 (by omega)
  have c3 := H.c3
  have HH := Lib.hid H
  have HO := Lib.hid ho
  clear hE H ho
  rcases Int.lt_or_le z 0 with hz0 | hz0
  · have hd : decide (z < 0) = true := by simpa using hz0
    go_enter Tryd.func27, Tryd.ntmps27
    go_wp2_with (go_at_call 11; (with_reducible refine (off_any _ _ HH.out).mono ?_); rintro x w' ⟨rfl, rfl⟩; rw [HO.out])
    go_ret
    exact ⟨rfl, rfl⟩
  · have hn : (D.n : Int) ≤ z := by omega
    have hd : decide (z < 0) = false := by simpa using hz0
    go_enter Tryd.func27, Tryd.ntmps27
    go_wp2_with (go_at_call 11; (with_reducible refine (off_any _ _ HH.out).mono ?_); rintro x w' ⟨rfl, rfl⟩; rw [HO.out])
    go_ret
    exact ⟨rfl, rfl⟩
theorem refusal_ok {h : Nat} {D : Dm} (g i : Nat) (w : World) (H : DrumAt w g h D) (ho : D.off = false) (hi : i < D.n) :
    Calls Tryd.prog 27 #[.pointer (some ⟨g, 0, none⟩), .int .i64 (i : Int)] w fun x w' => x = .returned .nilIface ∧ w = w' := by
  have c3 := H.c3
  have HH := Lib.hid H
  have HO := Lib.hid ho
  clear H ho
  have hd : decide ((i : Int) < 0) = false := by simp
  go_enter Tryd.func27, Tryd.ntmps27
  go_wp2_with (go_at_call 11; (with_reducible refine (off_any _ _ HH.out).mono ?_); rintro x w' ⟨rfl, rfl⟩; rw [HO.out])
  go_ret
  exact ⟨rfl, rfl⟩
end Go.Proofs.YtadhgdjgpanddaaDoor

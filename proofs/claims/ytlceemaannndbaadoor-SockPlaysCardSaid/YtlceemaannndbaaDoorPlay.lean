/- What the law SockPlays needs: the errors' numbers, where both pairs lie at a round's head. -/
import Derived.Test.YtlceemaannndbaaDoorSim
import Derived.Test.YtlceemaannndbaaDoorNum
import Derived.Test.YtlceemaannndbaaDoorWeigh
namespace Go.Proofs.YtlceemaannndbaaDoor
open Go.RowKit

theorem Eighteen.errs {w : World} {ad : Nat → Addr} (h : Eighteen w ad) : Errs w ad := ⟨fun k hk => h.cell k (by rcases (by omega : k = 0 ∨ k = 1 ∨ k = 2) with rfl | rfl | rfl <;> decide)⟩
theorem num_range (ad : Nat → Addr) (w : World) (h : Eighteen w ad) : Calls Tryd.prog 13 #[.iface 73 (.pointer (some (ad 0)))] w fun e w' => e = .returned (.int .i64 1) ∧ Below w.heap.size w w' := num_err ad 0 w h (by decide)
theorem num_broken (ad : Nat → Addr) (w : World) (h : Eighteen w ad) : Calls Tryd.prog 13 #[.iface 73 (.pointer (some (ad 1)))] w fun e w' => e = .returned (.int .i64 5) ∧ Below w.heap.size w w' := num_err ad 1 w h (by decide)
theorem num_state (ad : Nat → Addr) (w : World) (h : Eighteen w ad) : Calls Tryd.prog 13 #[.iface 73 (.pointer (some (ad 2)))] w fun e w' => e = .returned (.int .i64 17) ∧ Below w.heap.size w w' := num_err ad 2 w h (by decide)
def PlayI (W0 w' : World) (B g m k : Nat) : Prop := (∃ P R, Both w' B (fun k => k < B) g m P R ∧ Sim k P R) ∧ Keep (fun k => k < B) W0 w'
/-- The document's pair, new. -/
theorem rfresh_at (w : World) (room B : Nat) (h : room ≤ 65536) (hB : B ≤ w.heap.size) : RefAt (w.alloc (.cells #[.int .i64 (room : Int), .slice none 0 0, .int .i64 0, .int .i64 0, .bool false, .slice none 0 0, .int .i64 0, .int .i64 0, .bool false, .bool false] 35)) B (fun k => k = w.heap.size) w.heap.size (rfresh room) :=
  ⟨fun _ => .slice none 0 0, ⟨Row.new w _ 35, fun _ _ => Span.nil _, fun _ _ e => (by cases e), fun _ e => (by cases e), rfl, fun _ _ _ e => (by cases e), fun k hk => by simp; omega, fun k hk => by omega⟩, rfresh_ok h⟩
theorem play_start {w1 w2 : World} {room : Nat} (h : room ≤ 65536) (H : Has w2 w1.heap.size (fun k => k < w1.heap.size) w1.heap.size (fresh room) ∧ Keep (fun k => k < w1.heap.size) w1 w2) :
    PlayI w1 (w2.alloc (.cells #[.int .i64 (room : Int), .slice none 0 0, .int .i64 0, .int .i64 0, .bool false, .slice none 0 0, .int .i64 0, .int .i64 0, .bool false, .bool false] 35)) w1.heap.size w1.heap.size w2.heap.size 0 := by
  have hs := H.2.size
  obtain ⟨⟨F, h1, h2⟩, h3⟩ := H.1
  refine ⟨⟨fresh room, rfresh room, ⟨F, fun k => k = w2.heap.size, h1.below ((Below.refl _ _).alloc (Nat.le_refl _) _), rfresh_at w2 room _ h hs, fun k hk e => ?_, h2, fun k hk e => ?_, fun k hk => ?_⟩, sim_fresh room⟩, H.2.trans (Keep.alloc _ (fun k hk => by omega))⟩
  · have := h1.lt k hk; omega
  · omega
  · simp; omega

set_option maxHeartbeats 1000000 in
set_option maxRecDepth 100000 in
theorem plays_bad (ad : Nat → Addr) (z : Int) (x1 : Value) (w : World) (hE : Eighteen w ad) (h3 : 3 ≤ w.heap.size) (hz : z < 1 ∨ 65536 < z) :
    Calls Tryd.prog 3 #[.int .i64 z, x1] w fun e w' => e = .returned (.bool true) ∧ Below w.heap.size w w' := by
  have HE := Lib.hid hE
  clear hE
  have heq := fun w' => eql_same (ad 0) w'
  rcases hz with hz | hz
  · go_enter Tryd.func3, Tryd.ntmps3
    go_wp2_with fail
    with_reducible refine (alive_any ad w HE.out.errs h3).mono ?_
    rintro x w1 ⟨rfl, H1⟩
    have HE1 := Lib.hid (HE.out.below HE.out.lt H1.out)
    have c0 := HE1.out.errs.cell 0 (by omega)
    go_wp2_with fail
    with_reducible refine (new_bad ad z w1 HE1.out.errs (.inl hz)).mono ?_
    rintro x w2 ⟨rfl, n2, rfl⟩
    go_wp2_with fail
    go_ret
    exact ⟨rfl, below_drewN H1.out _⟩
  · have hz' : ¬ z < 1 := by omega
    go_enter Tryd.func3, Tryd.ntmps3
    go_wp2_with fail
    with_reducible refine (alive_any ad w HE.out.errs h3).mono ?_
    rintro x w1 ⟨rfl, H1⟩
    have HE1 := Lib.hid (HE.out.below HE.out.lt H1.out)
    have c0 := HE1.out.errs.cell 0 (by omega)
    go_wp2_with fail
    with_reducible refine (new_bad ad z w1 HE1.out.errs (.inr hz)).mono ?_
    rintro x w2 ⟨rfl, n2, rfl⟩
    go_wp2_with fail
    go_ret
    exact ⟨rfl, below_drewN H1.out _⟩
end Go.Proofs.YtlceemaannndbaaDoor

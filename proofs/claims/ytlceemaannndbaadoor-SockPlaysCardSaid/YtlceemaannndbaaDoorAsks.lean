/- What both pairs answer when they are asked. -/
import Derived.Test.YtlceemaannndbaaDoorTwin
namespace Go.Proofs.YtlceemaannndbaaDoor
open Go.RowKit
section
variable {B : Nat} {K : Nat → Prop} {P : Pr} {R : Rp} {k g m : Nat}
theorem a_room (i : Nat) (e : Int) (he : e = (i : Int)) (w : World) (h : Both w B K g m P R) (hs : Sim k P R) (hi : i < 2) :
    Calls Tryd.prog 23 #[.pointer (some ⟨g, 0, none⟩), .int .i64 e] w fun x w' => x = .returned (.int .i64 (R.free i : Int)) ∧ ∃ n, w' = w.drewN n := by
  rw [← hs.free hi]
  exact h_room g i e he w h.has hi
theorem a_free (i : Nat) (e : Int) (he : e = (i : Int)) (w : World) (h : Both w B K g m P R) (hi : i < 2) :
    Calls Tryd.prog 24 #[.pointer (some ⟨m, 0, none⟩), .int .i64 e] w fun x w' => x = .returned (.int .i64 (R.free i : Int)) ∧ ∃ n, w' = w.drewN n := by
  subst he
  obtain ⟨F', hR⟩ := h.refat
  exact rfree_any m i w hR hi
theorem a_flight (i : Nat) (e : Int) (he : e = (i : Int)) (w : World) (h : Both w B K g m P R) (hs : Sim k P R) (hi : i < 2) :
    Calls Tryd.prog 25 #[.pointer (some ⟨g, 0, none⟩), .int .i64 e] w fun x w' => x = .returned (.int .i64 (R.flight i : Int)) ∧ ∃ n, w' = w.drewN n := by
  rw [← hs.flight h.pok h.rok hi]
  exact h_flight g i e he w h.has hi
theorem a_rflight (i : Nat) (e : Int) (he : e = (i : Int)) (w : World) (h : Both w B K g m P R) (hi : i < 2) :
    Calls Tryd.prog 26 #[.pointer (some ⟨m, 0, none⟩), .int .i64 e] w fun x w' => x = .returned (.int .i64 (R.flight i : Int)) ∧ ∃ n, w' = w.drewN n := by
  subst he
  obtain ⟨F', hR⟩ := h.refat
  exact rflight_any m i w hR hi
theorem a_inbox (i : Nat) (e : Int) (he : e = (i : Int)) (w : World) (h : Both w B K g m P R) (hs : Sim k P R) (hi : i < 2) :
    Calls Tryd.prog 27 #[.pointer (some ⟨g, 0, none⟩), .int .i64 e] w fun x w' => x = .returned (.int .i64 (R.inbox i : Int)) ∧ w = w' := by
  rw [← hs.inbox hi]
  exact h_inbox g i e he w h.has hi
theorem a_rinbox (i : Nat) (e : Int) (he : e = (i : Int)) (w : World) (h : Both w B K g m P R) (hi : i < 2) :
    Calls Tryd.prog 28 #[.pointer (some ⟨m, 0, none⟩), .int .i64 e] w fun x w' => x = .returned (.int .i64 (R.inbox i : Int)) ∧ ∃ n, w' = w.drewN n := by
  subst he
  obtain ⟨F', hR⟩ := h.refat
  exact rinbox_any m i w hR hi
theorem a_ended (i : Nat) (e : Int) (he : e = (i : Int)) (w : World) (h : Both w B K g m P R) (hs : Sim k P R) (hi : i < 2) :
    Calls Tryd.prog 29 #[.pointer (some ⟨g, 0, none⟩), .int .i64 e] w fun x w' => x = .returned (.bool (R.ended i)) ∧ w = w' := by
  rw [← hs.ended h.rok hi]
  exact h_ended g i e he w h.has hi
theorem a_rended (i : Nat) (e : Int) (he : e = (i : Int)) (w : World) (h : Both w B K g m P R) (hi : i < 2) :
    Calls Tryd.prog 30 #[.pointer (some ⟨m, 0, none⟩), .int .i64 e] w fun x w' => x = .returned (.bool (R.ended i)) ∧ Below w.heap.size w w' := by
  subst he
  obtain ⟨F', hR⟩ := h.refat
  exact rended_any m i w hR hi
theorem a_broken (b : Bool) (w : World) (h : Both w B K g m P R) (hb : P.cut = b) : Calls Tryd.prog 22 #[.pointer (some ⟨g, 0, none⟩)] w fun x w' => x = .returned (.bool b) ∧ w = w' := by
  subst hb
  exact h_broken g w h.has
theorem Both.cutcell {w : World} (h : Both w B K g m P R) : w.cell? ⟨m, 9, none⟩ = some (.bool R.cut) := by
  obtain ⟨F', v, hR, _⟩ := h.refat
  exact hR.cut
end
end Go.Proofs.YtlceemaannndbaaDoor

/- What sock.Cut does, and tear below it. -/
import Derived.Test.YtlceemaannndbaaDoorDo
import Derived.RegionTactic
import Derived.LoopTactic
import Derived.ChangeAlike
import Derived.StillTailTactics
namespace Go.Proofs.YtlceemaannndbaaDoor
open Go.RowKit

/-- A way whose flight is lost. -/
def Pr.tore (P : Pr) (i : Nat) : Pr := P.put i { P.ws i with torn := (P.ws i).torn || decide ((P.ws i).car < (P.ws i).row.length), row := (P.ws i).row.take (P.ws i).car }
theorem tore_is_ok {P : Pr} (h : P.ok) (i : Nat) : (P.tore i).ok := by
  have hc := h.car i
  have hr := h.row i
  refine ⟨h.room, fun j => ?_, fun j => ?_⟩ <;> by_cases e : j = i
  · subst e; rw [Pr.tore, Pr.put_same]; show ((P.ws j).row.take (P.ws j).car).length ≤ P.room; rw [List.length_take]; omega
  · rw [Pr.tore, Pr.put_other _ _ e]; exact h.row j
  · subst e; rw [Pr.tore, Pr.put_same]; show (P.ws j).car ≤ ((P.ws j).row.take (P.ws j).car).length; rw [List.length_take]; omega
  · rw [Pr.tore, Pr.put_other _ _ e]; exact h.car j

theorem tore_at {w : World} {B : Nat} {F : Nat → Prop} {g i : Nat} {P : Pr} {v : Nat → Value} (h : PairV w B F g P v) (hok : (P.tore i).ok) (hi : i < 2) (n : Nat) (t : Bool) (ht : ((P.ws i).torn || decide ((P.ws i).car < (P.ws i).row.length)) = t)
    (A : Option Addr) (L cap : Nat) (hv : v i = .slice A L cap) (hc : (P.ws i).car ≤ (P.ws i).row.length) :
    PairAt (((w.drewN n).setCell ⟨g, 1 + i * 4 + 3, none⟩ (.bool t)).setCell ⟨g, 1 + i * 4, none⟩ (.slice A (P.ws i).car cap)).drew B F g (P.tore i) ∧ Turn F w (((w.drewN n).setCell ⟨g, 1 + i * 4 + 3, none⟩ (.bool t)).setCell ⟨g, 1 + i * 4, none⟩ (.slice A (P.ws i).car cap)).drew := by
  have h1 : PairV (w.drewN n) B F g P v := h.keep (Nat.le_refl _) (fun _ _ => rfl)
  have h2 := h1.setTorn hi t
  have hs := h2.span i hi
  rw [Pr.put_same, hv] at hs
  have h3 := h2.setRow hi (.slice A (P.ws i).car cap) ((P.ws i).row.take (P.ws i).car) (hs.take _ hc) (by rw [hv]; cases A <;> rfl)
  rw [Pr.put_same, put_put] at h3
  refine ⟨PairAt.stay ⟨upd v i (.slice A (P.ws i).car cap), ?_, hok⟩ ⟨rfl, rfl, rfl, rfl⟩, ?_⟩
  · rw [Pr.tore, ht]; exact h3.keep (Nat.le_refl _) (fun _ _ => rfl)
  · exact ((((Stay.drewN w n).turn F).setCell _ (fun _ => h.self) _).setCell _ (fun _ => h.self) _).stay ⟨rfl, rfl, rfl, rfl⟩

set_option maxHeartbeats 1000000 in
theorem tear_any {B : Nat} {F : Nat → Prop} {P : Pr} (g i : Nat) (w : World) (h : PairAt w B F g P) (hi : i < 2) :
    Calls Tryd.prog 38 #[.pointer (some ⟨g, 1 + i * 4, none⟩)] w fun x w' => x = .returned (.tuple #[]) ∧ Hid (PairAt w' B F g (P.tore i) ∧ Turn F w w') := by
  have H := Lib.hid h
  obtain ⟨v, h, hok⟩ := h
  obtain ⟨A, cap, hv, h1, h2, c0, c1, c2, c3⟩ := h.at hi
  have f3 := h.row.frozen (1 + i * 4 + 3)
  have f0 := h.row.frozen (1 + i * 4)
  have k1 := hok.car i
  have k2 := hok.row i
  have k3 := hok.room
  have HK := Lib.hid (tore_is_ok hok i)
  have HV := Lib.hid h
  have HVI := Lib.hid hv
  clear h hok hv
  cases ht : (P.ws i).torn
  · rw [ht] at c3
    have HT := Lib.hid ht
    clear ht
    go_enter Tryd.func38, Tryd.ntmps38
    go_wp2_with (first
      | (go_at_call 34; (with_reducible refine (flight_any _ _ _ H.out hi).mono ?_); rintro x w' ⟨rfl, nn, rfl⟩))
    go_region
    go_end0
    exact ⟨rfl, Lib.hid (tore_at HV.out HK.out hi nn _ (by rw [HT.out]; rfl) A _ cap HVI.out k1)⟩
  · rw [ht] at c3
    have HT := Lib.hid ht
    clear ht
    go_enter Tryd.func38, Tryd.ntmps38
    go_wp2_with fail
    go_region
    go_end0
    exact ⟨rfl, Lib.hid (tore_at HV.out HK.out hi 0 _ (by rw [HT.out]; rfl) A _ cap HVI.out k1)⟩

theorem tear_0 {B : Nat} {F : Nat → Prop} {P : Pr} (g : Nat) (w : World) (h : PairAt w B F g P) :
    Calls Tryd.prog 38 #[.pointer (some ⟨g, 1, none⟩)] w fun x w' => x = .returned (.tuple #[]) ∧ Hid (PairAt w' B F g (P.tore 0) ∧ Turn F w w') := tear_any g 0 w h (by omega)
theorem tear_1 {B : Nat} {F : Nat → Prop} {P : Pr} (g : Nat) (w : World) (h : PairAt w B F g P) :
    Calls Tryd.prog 38 #[.pointer (some ⟨g, 5, none⟩)] w fun x w' => x = .returned (.tuple #[]) ∧ Hid (PairAt w' B F g (P.tore 1) ∧ Turn F w w') := tear_any g 1 w h (by omega)
/-- A pair that is cut. -/
def Pr.cutting (P : Pr) : Pr := ({ P with cut := true }.tore 0).tore 1
set_option maxHeartbeats 1000000 in
theorem cut_any {B : Nat} {F : Nat → Prop} {P : Pr} (g : Nat) (w : World) (h : PairAt w B F g P) :
    Calls Tryd.prog 21 #[.pointer (some ⟨g, 0, none⟩)] w fun x w' => x = .returned (.tuple #[]) ∧ Hid (PairAt w' B F g P.cutting ∧ Turn F w w') := by
  obtain ⟨v, h, hok⟩ := h
  have cc := h.cut
  have f9 := h.row.frozen 9
  have H1 : Hid (PairAt (w.setCell ⟨g, 9, none⟩ (.bool true)) B F g { P with cut := true } ∧ Turn F w (w.setCell ⟨g, 9, none⟩ (.bool true))) := Lib.hid ⟨⟨v, h.setCut true, ⟨hok.room, hok.row, hok.car⟩⟩, h.turn_set _ _⟩
  clear h hok
  go_enter Tryd.func21, Tryd.ntmps21
  go_wp2_with fail
  refine wp_loop_rounds 3 ?_
  rw [rounds_succ]
  go_wp2_with (first
    | (go_at_call 38; (with_reducible refine (tear_0 g _ H1.out.1).mono ?_); rintro x w1 ⟨rfl, H2⟩))
  rw [rounds_succ]
  go_wp2_with (first
    | (go_at_call 38; (with_reducible refine (tear_1 g _ H2.out.1).mono ?_); rintro x w2 ⟨rfl, H3⟩))
  rw [rounds_succ]
  go_wp2_with fail
  go_end0
  exact ⟨rfl, Lib.hid ⟨H3.out.1, (H1.out.2.trans H2.out.2 (fun _ _ h => h)).trans H3.out.2 (fun _ _ h => h)⟩⟩
end Go.Proofs.YtlceemaannndbaaDoor

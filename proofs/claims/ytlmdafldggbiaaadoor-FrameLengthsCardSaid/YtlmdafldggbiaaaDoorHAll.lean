/- What (*sum).addAll does: every part is added, in order. -/
import Derived.Test.YtlmdafldggbiaaaDoorHWords
namespace Go.Proofs.YtlmdafldggbiaaaDoor.H
open Go.RowKit

/-- A part: where it lies, its room, its bytes. -/
structure Part where
  a : Option Addr
  c : Nat
  bs : List UInt8
def Part.v (p : Part) : Value := .slice p.a p.bs.length p.c
def Part.ok (w : World) (B : Nat) (p : Part) : Prop := p.bs.length ≤ p.c ∧ p.c ≤ 9223372036854775807 ∧ Rd w B p.a (p.bs.map bv)
/-- The slice of slices with base A holds the parts ps, all below B. -/
structure Parts (w : World) (B : Nat) (A : Option Addr) (ps : List Part) : Prop where
  rd : Rd w B A (ps.map Part.v)
  ok : ∀ p ∈ ps, p.ok w B
def flat (ps : List Part) : List UInt8 := ps.flatMap Part.bs
theorem Parts.below {w w' : World} {B : Nat} {A : Option Addr} {ps : List Part} (h : Parts w B A ps) (hb : Below B w w') : Parts w' B A ps :=
  ⟨h.rd.below hb, fun p hp => ⟨(h.ok p hp).1, (h.ok p hp).2.1, (h.ok p hp).2.2.below hb⟩⟩
theorem Parts.more {w : World} {B B' : Nat} {A : Option Addr} {ps : List Part} (h : Parts w B A ps) (hB : B ≤ B') : Parts w B' A ps :=
  ⟨h.rd.more hB, fun p hp => ⟨(h.ok p hp).1, (h.ok p hp).2.1, (h.ok p hp).2.2.more hB⟩⟩
theorem flat_take (ps : List Part) (k : Nat) (h : k < ps.length) : flat (ps.take (k + 1)) = flat (ps.take k) ++ (ps[k]).bs := by
  unfold flat
  rw [List.take_succ_eq_append_getElem h, List.flatMap_append]
  simp
theorem flat_le (ps : List Part) (k : Nat) (h : k < ps.length) : (flat (ps.take k)).length + (ps[k]).bs.length ≤ (flat ps).length := by
  have e : flat ps = flat (ps.take (k + 1)) ++ flat (ps.drop (k + 1)) := by
    unfold flat
    rw [← List.flatMap_append, List.take_append_drop]
  rw [e, flat_take ps k h]
  simp

set_option maxRecDepth 100000 in
set_option maxHeartbeats 400000 in
theorem addAll_any (g B : Nat) (S : List UInt8) (T n c : Nat) (A : Option Addr) (ps : List Part) (w : World) (hK : Ktab w) (hg0 : 19 < g) (hB : B ≤ g) (hBw : B ≤ w.heap.size) (hn : ps.length = n) (hmax : n ≤ 9223372036854775807) (hT : T + (flat ps).length < 18446744073709551616) (hr : Parts w B A ps) (hs : SumT w g S T) :
    Calls Tryd.prog 66 #[.pointer (some ⟨g, 0, none⟩), .slice A n c] w fun e w' => e = .returned (.tuple #[]) ∧ Hid (SumT w' g (S ++ flat ps) (T + (flat ps).length) ∧ Sole g w w') := by
  have hm' : n ≤ 9223372036854775807 := hmax
  have HK := Lib.hid hK
  have HN := Lib.hid hn
  have HR := Lib.hid hr
  have HS : Shut (SumT w g S T) := ⟨hs⟩
  have HT := Lib.hid hT
  clear hK hn hr hs hmax hT
  go_enter Tryd.func66, Tryd.ntmps66
  go_wp2_with fail
  go_loopw [8] (fun i W => ∃ k : Nat, k ≤ n ∧ i = .int .i64 k ∧ Shut (SumT W g (S ++ flat (ps.take k)) (T + (flat (ps.take k)).length) ∧ Sole g w W)) (fun i _ => n - (intOf i).toNat)
  case atStart => exact ⟨0, Nat.zero_le _, rfl, ⟨by simpa [flat] using HS.out, Sole.refl _ _⟩⟩
  case round =>
    obtain ⟨k, hk, rfl, HI⟩ := hrel
    by_cases hlt : k < n
    · have hlt' : k < ps.length := by rw [HN.out]; exact hlt
      have HBW := Lib.hid (HI.out.2.below hB hBw)
      obtain ⟨ad, rfl, _, hc⟩ := (HR.out.below HBW.out).rd.cell (k := k) (u := (ps[k]).v) (by simp [hlt'])
      have hok := (HR.out.below HBW.out).ok ps[k] (List.getElem_mem hlt')
      have hfl := flat_le ps k hlt'
      have hft := flat_take ps k hlt'
      generalize ps[k] = p at *
      obtain ⟨pa, pc, pb⟩ := p
      unfold Part.v at hc
      obtain ⟨h1, h2, h3⟩ := hok
      dsimp only at *
      obtain ⟨m, HM⟩ : ∃ m, Hid (pb.length = m) := ⟨_, rfl⟩
      rw [HM.out] at hc h1 hfl
      have HFL := Lib.hid hfl
      have HFT := Lib.hid hft
      have HP := Lib.hid h3
      clear hfl hft h3
      go_wp2_with fail
      have hsz : B ≤ wr.heap.size := Nat.le_trans hBw HBW.out.size
      with_reducible refine (add_any g (S ++ flat (ps.take k)) (T + (flat (ps.take k)).length) m pc pa pb wr (HK.out.sole hg0 HI.out.2) hg0 HM.out h1 h2 (by have := HFL.out; have := HT.out; omega) ⟨HP.out.more hsz, fun hne ad2 had => ?_⟩ HI.out.1).mono ?_
      · rcases HP.out with h0 | ⟨ad3, h4, h5, _⟩
        · exact absurd (by simpa using h0) hne
        · rw [had] at h4; injection h4 with h4; rw [h4]; omega
      rintro e w2 ⟨rfl, HA⟩
      go_wp2_with fail
      refine ⟨⟨k + 1, by omega, by go_num, ⟨?_, HI.out.2.trans HA.out.2⟩⟩, by simp [intOf]; omega⟩
      have h5 := HA.out.1
      rw [HFT.out, ← List.append_assoc]
      rw [List.length_append, HM.out, ← Nat.add_assoc]
      exact h5
    · go_wp2_with fail
      go_end0
      have h1 := HI.out
      rw [List.take_of_length_le (by rw [HN.out]; omega)] at h1
      exact ⟨rfl, Lib.hid h1⟩
end Go.Proofs.YtlmdafldggbiaaaDoor.H

/- How the arguments of layer 6's laws read; what the listed variables hold when a call begins, ErrBroken among them. -/
import Derived.Test.YtmhfhdbaeijcfaaDoorArgs
import Derived.Test.YtmhfhdbaeijcfaaDoorGJ
namespace Go.Proofs.YtmhfhdbaeijcfaaDoor
open Go.ChangeShapes Go.WideShapes Go.ChangeAt Go.WideMaps Go.WideElems Go.RowKit Go.Deep
open Go.Proofs.YtmhfhdbaeijcfaaDoor.H
theorem read58 : Tryd.prog.readableRec 58 = true := by kernel_rfl
theorem row58 : 58 < Tryd.prog.types.size := Nat.lt_trans (by decide) types_many
section
variable {H : Type} {enc : TypeId × Value → H} {W : World}
set_option maxRecDepth 100000 in
theorem open_parts {base : Nat} {sp : Nat → Bool} {held : Bool} {fuel : Nat} {vs : List Value} {x : DataW H × List MemPlace} (h : DataW.trod enc Tryd.prog W base sp held fuel 58 vs = some x) :
    ∃ (A : Option Addr) (n cap : Nat) (ps : List Part), vs = [.slice A n cap] ∧ ps.length = n ∧ n ≤ cap ∧ cap ≤ 9223372036854775807 ∧ Parts W W.heap.size A ps := by
  rcases open_slice1 Tryd.underlying58 cells23 h with ⟨rfl, rfl⟩ | ⟨a, len, cap, m, n, V, D, Pl, rfl, _, hl, hm, hmm, rfl, hi⟩
  · exact ⟨none, 0, 0, [], rfl, rfl, Nat.le_refl _, by decide, .inl rfl, by simp⟩
  · have hlm : len ≤ m := by rw [hmm]; split <;> omega
    have hp : ∀ i, ∃ p : Part, i < len → V i = p.v ∧ p.ok W W.heap.size := fun i => by
      by_cases hi' : i < len
      · obtain ⟨A, n', c', bs, e, hn, hc, hcm, hr, _⟩ := open_bytes (hi i (by omega)).2
        injection e with e
        exact ⟨⟨A, c', bs⟩, fun _ => ⟨by rw [e]; unfold Part.v; rw [hn], by show bs.length ≤ c'; rw [hn]; exact hc, hcm, hr⟩⟩
      · exact ⟨⟨none, 0, []⟩, fun h' => absurd h' hi'⟩
    obtain ⟨f, hf⟩ : ∃ f : Nat → Part, ∀ i, i < len → V i = (f i).v ∧ (f i).ok W W.heap.size := ⟨fun i => Classical.choose (hp i), fun i => Classical.choose_spec (hp i)⟩
    refine ⟨some a, len, cap, (List.range len).map f, rfl, by simp, hl, hm, ?_, ?_⟩
    · rcases Nat.eq_zero_or_pos len with h0 | h0
      · subst h0; exact .inl rfl
      · refine .inr ⟨a, rfl, lt_of_cell (a := a) (v := V 0) (by have := (hi 0 (by omega)).1; simpa [Addr.add] using this), fun j u hj => ?_⟩
        have hjl : j < len := by
          rcases Nat.lt_or_ge j len with hlt | hge
          · exact hlt
          · rw [List.getElem?_eq_none (by simp; omega)] at hj; cases hj
        simp [hjl] at hj
        subst hj
        rw [(hi j (by omega)).1, (hf j hjl).1]
    · intro p hp'
      simp at hp'
      obtain ⟨i, hi', rfl⟩ := hp'
      exact (hf i hi').2
end
end Go.Proofs.YtmhfhdbaeijcfaaDoor

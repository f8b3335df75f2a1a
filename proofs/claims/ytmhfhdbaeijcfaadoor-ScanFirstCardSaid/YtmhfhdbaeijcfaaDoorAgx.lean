/- How the arguments of layer 6's laws read; what the listed variables hold when a call begins, ErrBroken among them. -/
import Derived.Test.YtmhfhdbaeijcfaaDoorArgs
import Derived.Test.YtmhfhdbaeijcfaaDoorStb
namespace Go.Proofs.YtmhfhdbaeijcfaaDoor
open Go.ChangeShapes Go.WideShapes Go.ChangeAt Go.WideMaps Go.WideElems Go.RowKit Go.Deep
open Go.Proofs.YtmhfhdbaeijcfaaDoor.H
theorem read62 : Tryd.prog.readableRec 62 = true := by kernel_rfl
theorem row62 : 62 < Tryd.prog.types.size := Nat.lt_trans (by decide) types_many
theorem read58 : Tryd.prog.readableRec 58 = true := by kernel_rfl
theorem row58 : 58 < Tryd.prog.types.size := Nat.lt_trans (by decide) types_many
theorem addr_split {w : World} {a : Addr} {v : Value} (h : w.cell? a = some v) : a.spot = none := by
  unfold World.cell? at h
  cases hsp : a.spot with
  | none => rfl
  | some k => rw [hsp] at h; revert h; split <;> simp
theorem addr_plain (b o k : Nat) : (⟨b, o, none⟩ : Addr).add k = ⟨b, o + k, none⟩ := by
  unfold Addr.add
  split <;> simp_all
theorem choose_list {α : Type} {P : Nat → α → Prop} : ∀ n : Nat, (∀ i, i < n → ∃ y, P i y) → ∃ cs : List α, cs.length = n ∧ ∀ i y, cs[i]? = some y → P i y
  | 0, _ => ⟨[], rfl, fun i y h => by simp at h⟩
  | n + 1, h => by
    obtain ⟨cs, hl, hc⟩ := choose_list n (fun i hi => h i (by omega))
    obtain ⟨y, hy⟩ := h n (by omega)
    refine ⟨cs ++ [y], by simp [hl], fun i z hz => ?_⟩
    rcases Nat.lt_or_ge i cs.length with hlt | hge
    · rw [List.getElem?_append_left hlt] at hz
      exact hc i z hz
    · rw [List.getElem?_append_right hge] at hz
      have : i - cs.length = 0 := by
        rcases Nat.eq_zero_or_pos (i - cs.length) with h0 | h0
        · exact h0
        · rw [List.getElem?_eq_none (by simp; omega)] at hz; cases hz
      rw [this] at hz
      simp at hz
      subst hz
      have : i = n := by omega
      subst this
      exact hy
section
variable {H : Type} {enc : TypeId × Value → H} {W : World}
set_option maxRecDepth 100000 in
theorem open_parts {base : Nat} {sp : Nat → Bool} {held : Bool} {fuel : Nat} {vs : List Value} {x : DataW H × List MemPlace} (h : DataW.trod enc Tryd.prog W base sp held fuel 58 vs = some x) :
    ∃ (A : Option Addr) (n cap : Nat) (ps : List Part), vs = [.slice A n cap] ∧ ps.length = n ∧ n ≤ cap ∧ cap ≤ 9223372036854775807 ∧ Parts W W.heap.size A ps := by
  rcases open_slice1 Tryd.underlying58 cells23 h with ⟨rfl, rfl⟩ | ⟨a, len, cap, m, n, V, D, Pl, rfl, _, hl, hm, hmm, rfl, hi⟩
  · exact ⟨none, 0, 0, [], rfl, rfl, Nat.le_refl _, by decide, .inl rfl, by simp⟩
  · have hlm : len ≤ m := by rw [hmm]; split <;> omega
    have hp : ∀ i, ∃ p : Part, i < len → V i = p.v ∧ p.ok W W.heap.size := fun i => by
      by_cases hi' : i < len
      · obtain ⟨A, n', c', bs, e, hn, hc, hcm, hr, _⟩ := open_bytes (hi i (by omega)).2
        injection e with e
        exact ⟨⟨A, c', bs⟩, fun _ => ⟨by rw [e]; unfold Part.v; rw [hn], by show bs.length ≤ c'; rw [hn]; exact hc, hcm, hr⟩⟩
      · exact ⟨⟨none, 0, []⟩, fun h' => absurd h' hi'⟩
    obtain ⟨f, hf⟩ : ∃ f : Nat → Part, ∀ i, i < len → V i = (f i).v ∧ (f i).ok W W.heap.size := ⟨fun i => Classical.choose (hp i), fun i => Classical.choose_spec (hp i)⟩
    refine ⟨some a, len, cap, (List.range len).map f, rfl, by simp, hl, hm, ?_, ?_⟩
    · rcases Nat.eq_zero_or_pos len with h0 | h0
      · subst h0; exact .inl rfl
      · refine .inr ⟨a, rfl, lt_of_cell (a := a) (v := V 0) (by have := (hi 0 (by omega)).1; simpa [Addr.add] using this), fun j u hj => ?_⟩
        have hjl : j < len := by
          rcases Nat.lt_or_ge j len with hlt | hge
          · exact hlt
          · rw [List.getElem?_eq_none (by simp; omega)] at hj; cases hj
        simp [hjl] at hj
        subst hj
        rw [(hi j (by omega)).1, (hf j hjl).1]
    · intro p hp'
      simp at hp'
      obtain ⟨i, hi', rfl⟩ := hp'
      exact (hf i hi').2
set_option maxRecDepth 100000 in
/-- A slice of frames that reads: the frames. -/
theorem open_frames {fuel : Nat} {vs : List Value} {x : DataW H × List MemPlace} (h : DataW.trod enc Tryd.prog W 0 (fun _ => true) true fuel 62 vs = some x) :
    ∃ (A : Option Addr) (n cap : Nat) (gs : List Fr), vs = [.slice A n cap] ∧ gs.length = n ∧ n ≤ cap ∧ cap ≤ 9223372036854775807 ∧ FrsAt W W.heap.size A gs := by
  rcases open_slice Tryd.underlying62 h with ⟨rfl, rfl⟩ | ⟨a, len, cap, m, n, D, Pl, rfl, _, hl, hm, hmm, rfl, hi⟩
  · exact ⟨none, 0, 0, [], rfl, rfl, Nat.le_refl _, by decide, .inl rfl⟩
  · have hm' : len ≤ m := by rw [hmm]; split <;> omega
    rw [cells25] at hi
    obtain ⟨gs, hcl, hcs⟩ := choose_list (P := fun i (f : Fr) => f.ok W W.heap.size ∧ ∀ j v, (f.cells f.bs.length)[j]? = some v → W.cell? ((a.add (i * 10)).add j) = some v) len (fun i hi' => by
      obtain ⟨vs, hv, ht⟩ := hi i (by omega)
      obtain ⟨_, hlen, hat⟩ := World.cells?_some hv
      obtain ⟨f, hf1, hf2⟩ := frame_of hlen ht
      refine ⟨f, hf2, fun j v hj => ?_⟩
      rw [← hf1] at hj
      have hj10 : j < 10 := by
        rcases Nat.lt_or_ge j 10 with h | h
        · exact h
        · rw [List.getElem?_eq_none (by omega)] at hj; cases hj
      exact (hat j hj10).trans hj)
    refine ⟨some a, len, cap, gs, rfl, hcl, hl, hm, ?_⟩
    rcases Nat.eq_zero_or_pos len with h0 | h0
    · exact .inl (List.eq_nil_of_length_eq_zero (by omega))
    · have hfirst := (hcs 0 (gs[0]'(by omega)) (List.getElem?_eq_getElem (by omega))).2 0 _ rfl
      have e0 : (a.add (0 * 10)).add 0 = a := by simp [Addr.add]
      rw [e0] at hfirst
      obtain ⟨b, o, spt⟩ := a
      obtain rfl : spt = none := addr_split hfirst
      refine .inr ⟨b, o, rfl, lt_of_cell hfirst, fun k f hk => ?_⟩
      obtain ⟨g1, g2⟩ := hcs k f hk
      refine ⟨g1, fun j v hj => ?_⟩
      have g3 := g2 j v hj
      rw [addr_plain, addr_plain] at g3
      exact g3
end
def laidB : List (String × DataW Unit) := [("jackfield/hash.roundWords", Rows.laid_jackfield_hash_roundWords), ("jackfield/api.ErrRange", Rows.laid_jackfield_api_ErrRange), ("jackfield/api.ErrShort", Rows.laid_jackfield_api_ErrShort), ("jackfield/api.ErrLong", Rows.laid_jackfield_api_ErrLong), ("jackfield/api.ErrTail", Rows.laid_jackfield_api_ErrTail), ("jackfield/api.ErrBroken", Rows.laid_jackfield_api_ErrBroken), ("jackfield/api.ErrFrame", Rows.laid_jackfield_api_ErrFrame), ("jackfield/api.ErrState", Rows.laid_jackfield_api_ErrState)]
def idxB : List Nat := [2, 3, 4, 5, 1, 0, 16]
theorem env_b {W : World} (h : laidMetH Tryd.prog laidB W) : ∃ E a ab, Env W E 159 (.pointer (some a)) ∧ F.Errs W E ∧ W.cell? ⟨1, 0, none⟩ = some (.iface 159 (.pointer (some ab))) := by
  rw [MakeChecks.laidMetH_plain _ _ _ (by kernel_rfl)] at h
  obtain ⟨hK, hl⟩ := laid_split h
  obtain ⟨E, hS⟩ := sents_of_laid _ idxB hl (by
    intro x hx
    simp at hx
    rcases hx with rfl | rfl | rfl | rfl | rfl | rfl | rfl <;> exact ⟨_, rfl⟩) (by kernel_rfl) (by
    intro g hg
    simp [idxB] at hg
    rcases hg with rfl | rfl | rfl | rfl | rfl | rfl | rfl <;> kernel_rfl)
  refine ⟨_, _, adOf (E 1), env_of hK hS (by decide) (by decide) (by decide) (by decide), ⟨fun i hi => ?_, fun i hi => ?_⟩, hS.cell (by decide)⟩
  · have hm : F.pos i ∈ idxB := by
      have : i = 0 ∨ i = 1 ∨ i = 2 ∨ i = 3 ∨ i = 4 := by omega
      rcases this with rfl | rfl | rfl | rfl | rfl <;> decide
    obtain ⟨_, _, _, _, hc, _⟩ := hS.at_ _ hm
    exact hc
  · have hm : F.pos i ∈ idxB := by
      have : i = 0 ∨ i = 1 ∨ i = 2 ∨ i = 3 ∨ i = 4 := by omega
      rcases this with rfl | rfl | rfl | rfl | rfl <;> decide
    exact ⟨_, _, hS.val hm⟩
theorem door_metB (os : Os) (args : Array Value) : laidMetH Tryd.prog laidB ((World.doorLaid Tryd.prog 400 os).forCall (fun _ _ => 0) ⟨#[], args, []⟩).memory :=
  laidMetH_of_parts3 (fuel := 8) (laidMet_of_run' 8 (by kernel_rfl) (by kernel_rfl)) (by kernel_rfl) (by kernel_rfl)
end Go.Proofs.YtmhfhdbaeijcfaaDoor

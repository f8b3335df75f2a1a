/- For ScanJoins and ScanFirst: rows of our own with a block, frames in such a row, the three empty rows. -/
import Derived.Test.YtmhfhdbaeijcfaaDoorJop
import Derived.Test.YtmhfhdbaeijcfaaDoorJof
import Derived.Deep.DeepCutAuto
import Derived.BigRegion
namespace Go.Proofs.YtmhfhdbaeijcfaaDoor
open Go.RowKit
open Go.Proofs.YtmhfhdbaeijcfaaDoor.H
theorem own_some {w : World} {base : Nat} {e : TypeId} {size : Nat} {v : Value} {n q : Nat} {xs : List Value} (h : w.ownsRow base e size v n xs) (hq : v.ownBlock = some q) :
    ∃ c, v = .slice (some ⟨q, 0, none⟩) n c ∧ n ≤ c ∧ c ≤ 9223372036854775807 ∧ base ≤ q ∧ q < w.heap.size := by
  have hl := h.lt q hq
  rcases h.2 with ⟨e1, _⟩ | ⟨g, cap, cur, e1, _, _, hn, hc, _⟩
  · rw [e1] at hq; cases hq
  · rw [e1] at hq
    have : g = q := Option.some.inj hq
    subst this
    exact ⟨cap, e1, hn, hc, hl.1, hl.2⟩
theorem ob_ne {q r n c : Nat} (h : q ≠ r) : (Value.slice (some ⟨q, 0, none⟩) n c).ownBlock ≠ some r := fun e => h (Option.some.inj e)
theorem ob_ge {q r n c B : Nat} (e : (Value.slice (some ⟨q, 0, none⟩) n c).ownBlock = some r) (h : B ≤ q) : B ≤ r := by
  have : q = r := Option.some.inj e
  omega
theorem own_next {v v' : Value} {q n : Nat} (hq : v.ownBlock = some q) (h : v'.ownBlock = v.ownBlock ∨ v'.ownBlock = some n) : ∃ q', v'.ownBlock = some q' := by
  rcases h with h | h
  · exact ⟨q, h.trans hq⟩
  · exact ⟨n, h⟩
/-- A row of frames of our own whose bytes are older, read as frames. -/
theorem frs_own {W : World} {z q c : Nat} {gs : List Fr} {n : Nat} (h : W.ownsRow z 25 10 (.slice (some ⟨q, 0, none⟩) n c) n (flatF gs)) (hok : ∀ f ∈ gs, f.ok W W.heap.size) : FrsAt W W.heap.size (some ⟨q, 0, none⟩) gs := by
  refine .inr ⟨q, 0, rfl, (h.lt q rfl).2, fun k f hk => ⟨hok f (List.mem_of_getElem? hk), fun j u hj => ?_⟩⟩
  have := h.cells (g := q) rfl (k * 10 + j) u (flatF_at gs k f hk j u hj)
  rw [Addr.add_mid] at this
  simpa using this
theorem FrsAt.take {w : World} {B : Nat} {A : Option Addr} {gs : List Fr} (h : FrsAt w B A gs) (m : Nat) : FrsAt w B A (gs.take m) := by
  rcases h with h | ⟨b, o, h1, h2, h3⟩
  · exact .inl (by rw [h]; simp)
  · refine .inr ⟨b, o, h1, h2, fun k f hk => h3 k f ?_⟩
    rw [List.getElem?_take] at hk
    split at hk
    · exact hk
    · cases hk
theorem FrsAt.drop {w : World} {B : Nat} {A : Option Addr} {gs : List Fr} (h : FrsAt w B A gs) {m cap : Nat} (hc : gs.length ≤ cap) : FrsAt w B (if cap = m then A else A.map (·.add (m * 10))) (gs.drop m) := by
  rcases h with h | ⟨b, o, h1, h2, h3⟩
  · exact .inl (by rw [h]; simp)
  · by_cases hm : m < gs.length
    · rw [if_neg (by omega)]
      subst h1
      refine .inr ⟨b, o + m * 10, by show some (Addr.add _ _) = _; rw [Addr.add_mid], h2, fun k f hk => ?_⟩
      rw [List.getElem?_drop] at hk
      have h4 := h3 (m + k) f hk
      have e : o + m * 10 + k * 10 = o + (m + k) * 10 := by omega
      rw [e]
      exact h4
    · exact .inl (List.drop_eq_nil_of_le (by omega))
theorem FrsAt.more {w : World} {B B' : Nat} {A : Option Addr} {gs : List Fr} (h : FrsAt w B A gs) (hb : B ≤ B') : FrsAt w B' A gs := by
  rcases h with h | ⟨b, o, h1, h2, h3⟩
  · exact .inl h
  · exact .inr ⟨b, o, h1, Nat.lt_of_lt_of_le h2 hb, fun k f hk => ⟨(h3 k f hk).1.more hb, (h3 k f hk).2⟩⟩
theorem range_grown {W W' : World} {b o : Nat} {cs : List Value} {r : Option Nat} (h : W.rangeAt b o cs) (hg : W.grownBy W' r) (hr : r ≠ some b) : W'.rangeAt b o cs := fun k v hk => by
  have h1 := h k v hk
  rw [← h1]
  unfold World.cell?
  rw [hg.block b (lt_of_cell h1) (fun e => hr e.symm)]
theorem range_below {W W' : World} {b o : Nat} {cs : List Value} (h : W.rangeAt b o cs) (hb : Below W.heap.size W W') : W'.rangeAt b o cs := fun k v hk => by
  have h1 := h k v hk
  exact (hb.cell (p := ⟨b, o + k, none⟩) (lt_of_cell h1)).trans h1
theorem row_range {W : World} {b : Nat} {t : TypeId} {cs : List Value} (h : Row W b t cs) : W.rangeAt b 0 cs := fun k v hk => by
  rw [h.cell, Nat.zero_add]
  exact hk
/-- The three rows at their beginning. -/
theorem jh_start (W : World) : Jh (((W.alloc (.cells #[] 5)).alloc (.cells #[] 25)).alloc (.cells #[] 3)) W.heap.size (.slice (some ⟨W.heap.size, 0, none⟩) 0 0) 0 [] (.slice (some ⟨W.heap.size + 1, 0, none⟩) 0 0) 0 [] (.slice (some ⟨W.heap.size + 2, 0, none⟩) 0 0) 0 [] := by
  have e1 : (W.alloc (.cells #[] 5)).heap.size = W.heap.size + 1 := by simp
  have e2 : ((W.alloc (.cells #[] 5)).alloc (.cells #[] 25)).heap.size = W.heap.size + 2 := by simp
  refine ⟨?_, ?_, ?_, ?_, ?_, ?_⟩
  · exact own_below (own_below (own_emptyN W W.heap.size 5 (Nat.le_refl _)) (below_alloc _ _)) (below_alloc _ _)
  · have h := own_emptyF (W.alloc (.cells #[] 5)) W.heap.size (by omega)
    rw [e1] at h
    exact own_below h (below_alloc _ _)
  · have h := own_emptyN ((W.alloc (.cells #[] 5)).alloc (.cells #[] 25)) W.heap.size 3 (by omega)
    rw [e2] at h
    exact h
  all_goals
    intro q h1 h2
    have h1 := Option.some.inj h1
    have h2 := Option.some.inj h2
    dsimp only at h1 h2
    omega
theorem rd_grown {W W' : World} {B : Nat} {A : Option Addr} {xs : List Value} {r : Option Nat} (h : Rd W B A xs) (hB : B ≤ W.heap.size) (hg : W.grownBy W' r) (hr : ∀ ad, A = some ad → r ≠ some ad.block) : Rd W' B A xs := by
  rcases h with h | ⟨ad, h1, h2, h3⟩
  · exact .inl h
  · refine .inr ⟨ad, h1, h2, fun j u hj => ?_⟩
    rw [← h3 j u hj]
    unfold World.cell?
    rw [add_block, hg.block _ (by omega) (fun e => hr ad h1 e.symm)]
/-- Behind the appends: both rows, their blocks named. -/
def Met (wx : World) (z nb : Nat) (xs : List Value) (ng : Nat) (cs : List Value) (ve : Value) (ne : Nat) (es : List Value) (P : Prop) (s5 s6 : Value) : Prop :=
  ∃ q5 c5 q6 c6 : Nat, s5 = .slice (some ⟨q5, 0, none⟩) nb c5 ∧ s6 = .slice (some ⟨q6, 0, none⟩) ng c6 ∧
    H.Shut (nb ≤ c5 ∧ c5 ≤ 9223372036854775807 ∧ ng ≤ c6 ∧ c6 ≤ 9223372036854775807 ∧ Jh wx z (.slice (some ⟨q5, 0, none⟩) nb c5) nb xs (.slice (some ⟨q6, 0, none⟩) ng c6) ng cs ve ne es ∧ P)
theorem met_of {wx : World} {z nb ng ne : Nat} {xs cs es : List Value} {ve s5 s6 : Value} {P : Prop} (J : Jh wx z s5 nb xs s6 ng cs ve ne es) (h5 : ∃ q, s5.ownBlock = some q) (h6 : ∃ q, s6.ownBlock = some q) (hP : P) : Met wx z nb xs ng cs ve ne es P s5 s6 := by
  obtain ⟨q5, h5⟩ := h5
  obtain ⟨q6, h6⟩ := h6
  obtain ⟨c5, rfl, a1, a2, _⟩ := own_some J.ob h5
  obtain ⟨c6, rfl, b1, b2, _⟩ := own_some J.og h6
  exact ⟨q5, c5, q6, c6, rfl, rfl, ⟨a1, a2, b1, b2, J, hP⟩⟩
theorem Off.take {w : World} {g : Nat} {h : Option Nat} {A : Option Addr} {bs : List UInt8} (o : Off w g h A bs) (k : Nat) : Off w g h A (bs.take k) := by
  refine ⟨?_, fun hb => o.ne (fun e => hb (by rw [e]; simp))⟩
  have := o.rd.take k
  rwa [← List.map_take] at this
theorem from_bytes (w : World) (A : Option Addr) (L cap k : Nat) (hk : k ≤ L) :
    (Instr.slice 23 (.slice A L cap) (some (.int .i64 (k : Int))) none none).run Tryd.prog w = .ok (.slice (if cap = k then A else A.map (·.add k)) (L - k) (cap - k)) w := by
  obtain ⟨i0, hi0, _, hz1, _⟩ := info_parts' u8_info
  have h := run_slice_l (P := Tryd.prog) w 23 A L cap (by rw [show Tryd.prog.elem 23 = 5 by kernel_rfl]; exact Tryd.underlying23) .i64 (k : Int) (by omega) (by omega)
  rw [h, show Tryd.prog.elem 23 = 5 by kernel_rfl]
  simp [sizeOf, typeInfo, hi0, hz1, sliced]
theorem from_frames (w : World) (A : Option Addr) (L cap k : Nat) (hk : k ≤ L) :
    (Instr.slice 62 (.slice A L cap) (some (.int .i64 (k : Int))) none none).run Tryd.prog w = .ok (.slice (if cap = k then A else A.map (·.add (k * 10))) (L - k) (cap - k)) w := by
  obtain ⟨i0, hi0, _, hz1, _⟩ := info_parts' frame_info
  have h := run_slice_l (P := Tryd.prog) w 62 A L cap (by rw [show Tryd.prog.elem 62 = 25 by kernel_rfl]; exact Tryd.underlying62) .i64 (k : Int) (by omega) (by omega)
  rw [h, show Tryd.prog.elem 62 = 25 by kernel_rfl]
  simp [sizeOf, typeInfo, hi0, hz1, sliced]
/-- What a number leaves by another one, read as an unsigned one. -/
theorem left_by (cu : Int) (m : Nat) (hm : m < 9223372036854775807) : ∃ k : Nat, wrap64 ((IntKind.u64.wrap cu).tmod ((m : Int) + 1)) = (k : Int) ∧ k ≤ m := by
  rw [IntKind.wrap_u64]
  have h0 : 0 ≤ cu % 18446744073709551616 := Int.emod_nonneg _ (by decide)
  rw [Int.tmod_eq_emod_of_nonneg h0]
  generalize cu % 18446744073709551616 = x at *
  have h1 : 0 ≤ x % ((m : Int) + 1) := Int.emod_nonneg _ (by omega)
  have h2 : x % ((m : Int) + 1) < (m : Int) + 1 := Int.emod_lt_of_pos _ (by omega)
  generalize x % ((m : Int) + 1) = y at *
  refine ⟨y.toNat, ?_, by omega⟩
  have h3 : wrap64 y = y := by unfold wrap64; omega
  rw [h3]
  omega
theorem below_three (W : World) (o1 o2 o3 : Obj) : Below W.heap.size W (((W.alloc o1).alloc o2).alloc o3) := (((Below.refl _ W).alloc (Nat.le_refl _) o1).alloc (by simp) o2).alloc (by simp; omega) o3
end Go.Proofs.YtmhfhdbaeijcfaaDoor

/- Copies of parts with marked room behind: jackfieldnum's Bytes, told with its block. -/
import Derived.Test.YthfpkefieemiaaaDoorKept
import Derived.Test.YthfpkefieemiaaaDoorPartsw
namespace Go.Proofs.YthfpkefieemiaaaDoor
open Go.RowKit

set_option maxHeartbeats 400000 in
theorem bytes_own (n cap : Nat) (A : Option Addr) (bs : List UInt8) (w : World) (hn : bs.length = n) (hbig : n ≤ 1048576) (hr : Rd w w.heap.size A (bs.map bv)) :
    Calls Tryd.prog 12 #[.slice A n cap] w fun e w' => ∃ g c, e = .returned (.slice (some ⟨g, 0, none⟩) n c) ∧ Hid (n + 6 ≤ c ∧ c ≤ 9223372036854775807 ∧ w'.ownsRow w.heap.size 5 1 (.slice (some ⟨g, 0, none⟩) (n + 6) c) (n + 6) ((bs ++ marks).map bv) ∧ Below w.heap.size w w') := by
  have HN := Lib.hid hn
  have HR := Lib.hid hr
  clear hn hr
  obtain ⟨i0, hi0, hz0, hz1, hz2⟩ := info_parts' u8_info
  have HI := Lib.hid (And.intro hi0 (And.intro hz0 (And.intro hz1 hz2)))
  clear hi0 hz0 hz1 hz2
  go_enter Tryd.func12, Tryd.ntmps12
  go_wp2_with (first
    | (refine wpList_make_own _ rfl _ _ 25 rfl w.heap.size 5 i0 _ 1 Tryd.underlying25 HI.out.1 HI.out.2.1 HI.out.2.2.1 .i64 .i64 _ (n + 6) rfl rfl rfl (by rw [HI.out.2.2.2]; omega) (by simp only [maxLen]; omega) (Nat.le_refl _) ?_
       intro w2 hown2 hg2
       have HB2 := Lib.hid ((Below.refl w.heap.size w).grown hg2 (Nat.le_refl _) (fun k hk => by cases hk)))
    | (refine wl_append rfl (.tmp 7) (.tmp 8) rfl w.heap.size _ 0 [] rfl hown2 w.heap.size A n cap bs rfl HN.out (HR.out.below HB2.out) (by omega) HB2.out.size ?_
       intro v3 w3 HA3
       have hown3 := HA3.out.1
       have hg3 := HA3.out.2
       have HB3 := Lib.hid (HB2.out.grown hg3 HB2.out.size (fun j hj => (hown2.lt j hj).1)))
    | (refine wl_append rfl (.tmp 9) (.tmp 10) rfl w.heap.size _ (0 + n) ([] ++ bs.map bv) rfl (hown3.alloc _) (w3.heap.size + 1) (some ⟨w3.heap.size, 0, none⟩) 6 6 marks rfl rfl (marks_new w3) (by omega) (by have := HB3.out.size; simp; omega) ?_
       intro v4 w4 HA4
       have hown4 := HA4.out.1
       have hg4 := HA4.out.2
       have hbA := HB3.out.alloc HB3.out.size (.cells #[.int .u8 201, .int .u8 202, .int .u8 203, .int .u8 204, .int .u8 205, .int .u8 206] 5)
       have HB4 := Lib.hid (hbA.grown hg4 hbA.size (fun j hj => (hown3.lt j hj).1))
       rw [List.nil_append, ← List.map_append, Nat.zero_add] at hown4
       have hownX := hown4
       obtain ⟨X, c, rfl, _, hc, hm, _, hX⟩ := own_slice hown4
       obtain ⟨g, rfl, _⟩ := hX (by simp [marks])
       have HX := Lib.hid hownX
       have hm' : c ≤ 9223372036854775807 := hm
       clear hm hown4 hg4 HA4 hbA hownX hX))
  go_ret
  exact ⟨g, c, rfl, Lib.hid ⟨hc, hm', HX.out, HB4.out⟩⟩

/-- The part q is a copy of p with marked room behind, in a block of bytes of its own. -/
def Cop (W : World) (B : Nat) (q p : Part) : Prop :=
  ∃ g c, q = ⟨some ⟨g, 0, none⟩, c, p.bs⟩ ∧ p.bs.length + 6 ≤ c ∧ c ≤ 9223372036854775807 ∧ W.ownsRow B 5 1 (.slice (some ⟨g, 0, none⟩) (p.bs.length + 6) c) (p.bs.length + 6) ((p.bs ++ marks).map bv)
theorem Cop.below {W W' : World} {B : Nat} {q p : Part} (h : Cop W B q p) (hb : Below W.heap.size W W') : Cop W' B q p := by
  obtain ⟨g, c, h1, h2, h3, h4⟩ := h
  exact ⟨g, c, h1, h2, h3, own_below h4 hb⟩
theorem Cop.rd {W : World} {B : Nat} {q p : Part} (h : Cop W B q p) : q.bs = p.bs ∧ p.bs.length + 6 ≤ q.c ∧ q.c ≤ 9223372036854775807 ∧ Rd W W.heap.size q.a ((p.bs ++ marks).map bv) := by
  obtain ⟨g, c, rfl, h2, h3, h4⟩ := h
  refine ⟨rfl, h2, h3, ?_⟩
  obtain ⟨A, c', e, _, _, _, hr, _⟩ := own_slice h4
  injection e with e1 _ _
  rw [e1]
  exact hr
theorem Cop.ok {W : World} {B : Nat} {q p : Part} (h : Cop W B q p) : q.ok W W.heap.size := by
  obtain ⟨h1, h2, h3, h4⟩ := h.rd
  refine ⟨by rw [h1]; omega, h3, ?_⟩
  rw [h1]
  have h5 := h4.take p.bs.length
  rwa [← List.map_take, List.take_append_of_le_length (Nat.le_refl _), List.take_of_length_le (Nat.le_refl _)] at h5
theorem own_apart {W : World} {B B' g n c m : Nat} {v : Value} {xs ys : List Value} (h1 : W.ownsRow B 5 1 (.slice (some ⟨g, 0, none⟩) n c) n xs) (h2 : W.ownsRow B' 25 1 v m ys) : v.ownBlock ≠ some g := by
  intro e
  rcases h2.2 with ⟨rfl, _⟩ | ⟨g', cap, cur, rfl, _, hg', _⟩
  · cases e
  · have e' : g' = g := Option.some.inj e
    subst e'
    rcases h1.2 with ⟨e2, _⟩ | ⟨g2, cap2, cur2, e2, _, hg2, _⟩
    · cases e2
    · injection e2 with e3 _ _
      injection e3 with e3
      injection e3 with e3 _ _
      subst e3
      rw [hg'] at hg2
      injection hg2 with hg2
      injection hg2 with _ h5 _
      cases h5
theorem Cop.grown {W W' : World} {B B' m : Nat} {q p : Part} {v : Value} {ys : List Value} (h : Cop W B q p) (hv : W.ownsRow B' 25 1 v m ys) (hg : W.grownBy W' v.ownBlock) : Cop W' B q p := by
  obtain ⟨g, c, h1, h2, h3, h4⟩ := h
  exact ⟨g, c, h1, h2, h3, h4.kept hg (.inr (fun e => own_apart h4 hv e.symm))⟩
theorem own_same {W : World} {B n : Nat} {t : TypeId} {v : Value} {xs ys : List Value} (h1 : W.ownsRow B t 1 v n xs) (h2 : W.ownsRow B t 1 v n ys) : xs = ys := by
  rcases h1.2 with ⟨rfl, h0⟩ | ⟨g, cap, cur, rfl, _, hg, _, _, _, hx⟩
  · have e1 := h1.1
    have e2 := h2.1
    rw [h0, Nat.zero_mul] at e1 e2
    rw [List.eq_nil_of_length_eq_zero e1, List.eq_nil_of_length_eq_zero e2]
  · rcases h2.2 with ⟨e, _⟩ | ⟨g2, cap2, cur2, e, _, hg2, _, _, _, hy⟩
    · cases e
    · injection e with e1 _ _
      injection e1 with e1
      injection e1 with e1 _ _
      subst e1
      rw [hg] at hg2
      injection hg2 with hg2
      injection hg2 with e3 _ _
      rw [← hx, ← hy, e3]
/-- v is a slice of our own with copies of the first k parts. -/
def Cops (w W : World) (v : Value) (ps : List Part) (k : Nat) : Prop :=
  ∃ qs : List Part, qs.length = k ∧ W.ownsRow w.heap.size 25 1 v k (qs.map Part.v) ∧ (∀ (j : Nat) (q p : Part), qs[j]? = some q → ps[j]? = some p → Cop W w.heap.size q p) ∧ Below w.heap.size w W
theorem Cops.below {w W W' : World} {v : Value} {ps : List Part} {k : Nat} (h : Cops w W v ps k) (hb : Below W.heap.size W W') : Cops w W' v ps k := by
  obtain ⟨qs, h1, h2, h3, h4⟩ := h
  exact ⟨qs, h1, own_below h2 hb, fun j q p hq hp => (h3 j q p hq hp).below hb, h4.trans (hb.mono h4.size)⟩
theorem Cops.next {w W W' : World} {v v' : Value} {ps : List Part} {k g c : Nat} {p : Part} (h : Cops w W v ps k) (hp : ps[k]? = some p) (h2 : p.bs.length + 6 ≤ c) (h3 : c ≤ 9223372036854775807)
    (h4 : W.ownsRow w.heap.size 5 1 (.slice (some ⟨g, 0, none⟩) (p.bs.length + 6) c) (p.bs.length + 6) ((p.bs ++ marks).map bv)) (hg : W.grownBy W' v.ownBlock)
    (ho : ∀ qs : List Part, qs.length = k → W.ownsRow w.heap.size 25 1 v k (qs.map Part.v) → W'.ownsRow w.heap.size 25 1 v' (k + 1) (qs.map Part.v ++ [.slice (some ⟨g, 0, none⟩) p.bs.length c])) : Cops w W' v' ps (k + 1) := by
  obtain ⟨qs, h5, h6, h7, h8⟩ := h
  have hnew : Cop W w.heap.size ⟨some ⟨g, 0, none⟩, c, p.bs⟩ p := ⟨g, c, rfl, h2, h3, h4⟩
  refine ⟨qs ++ [⟨some ⟨g, 0, none⟩, c, p.bs⟩], by simp [h5], ?_, ?_, h8.grown hg h8.size (fun j hj => (h6.lt j hj).1)⟩
  · rw [List.map_append]
    exact ho qs h5 h6
  · intro j q p' hq hp'
    rcases Nat.lt_or_ge j k with hj | hj
    · rw [List.getElem?_append_left (by omega)] at hq
      exact (h7 j q p' hq hp').grown h6 hg
    · have hjk : j = k := by
        rcases Nat.lt_or_ge k j with h | h
        · rw [List.getElem?_eq_none (by simp; omega)] at hq; cases hq
        · omega
      subst hjk
      rw [List.getElem?_append_right (by omega), h5, Nat.sub_self] at hq
      injection hq with hq
      rw [hp] at hp'
      injection hp' with hp'
      subst hq hp'
      exact hnew.grown h6 hg
theorem flat_eq : ∀ (qs ps : List Part), qs.length = ps.length → (∀ (j : Nat) (q p : Part), qs[j]? = some q → ps[j]? = some p → q.bs = p.bs) → flat qs = flat ps
  | [], [], _, _ => rfl
  | [], _ :: _, h, _ => by cases h
  | _ :: _, [], h, _ => by cases h
  | q :: qs, p :: ps, h, h2 => by
    unfold flat
    rw [List.flatMap_cons, List.flatMap_cons, h2 0 q p rfl rfl]
    congr 1
    exact flat_eq qs ps (by simpa using h) (fun j q' p' hq hp => h2 (j + 1) q' p' hq hp)
/-- All copies made: the parts of the slice, whose bytes are those of the parts. -/
theorem Cops.parts {w W : World} {v : Value} {ps : List Part} (h : Cops w W v ps ps.length) : ∃ A c qs, v = .slice A ps.length c ∧ qs.length = ps.length ∧ ps.length ≤ c ∧ c ≤ 9223372036854775807 ∧ flat qs = flat ps ∧ Parts W W.heap.size A qs ∧ (∀ (j : Nat) (q p : Part), qs[j]? = some q → ps[j]? = some p → Cop W w.heap.size q p) := by
  obtain ⟨qs, h5, h6, h7, h8⟩ := h
  have hf := flat_eq qs ps h5 (fun j q p hq hp => (h7 j q p hq hp).rd.1)
  have hok : ∀ q ∈ qs, q.ok W W.heap.size := fun q hq => by
    obtain ⟨j, hj, rfl⟩ := List.mem_iff_getElem.1 hq
    exact (h7 j _ _ (List.getElem?_eq_getElem hj) (List.getElem?_eq_getElem (by omega))).ok
  rcases Nat.eq_zero_or_pos ps.length with h0 | h0
  · have hq0 : qs = [] := List.eq_nil_of_length_eq_zero (by omega)
    subst hq0
    rcases h6.2 with ⟨rfl, _⟩ | ⟨g, cap, cur, rfl, hb, hg, hnc, hcm, _⟩
    · exact ⟨none, 0, [], by rw [h0], h5, by omega, by decide, hf, ⟨.inl rfl, hok⟩, h7⟩
    · exact ⟨_, cap, [], rfl, h5, hnc, hcm, hf, ⟨.inl rfl, hok⟩, h7⟩
  · obtain ⟨g, c, rfl, hl, hc, hcm, hgl, _, hcl⟩ := own_sliceP h6 h0
    exact ⟨_, c, qs, rfl, h5, hc, hcm, hf, ⟨.inr ⟨_, rfl, hgl, hcl⟩, hok⟩, h7⟩
end Go.Proofs.YthfpkefieemiaaaDoor

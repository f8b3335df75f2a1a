/- Plain mathematics: a stream cut into frames. No program, no memory. A scanner in memory: what holds of it, what a call of its methods may turn; size and missing. scan's put: bytes up to the next edge of a frame, behind those that are held. scan's take: the frame, if it is complete. What a scanner's feed has found so far; how a stream is cut at a scanner's edge. scan's feed: the frames of a stream, piece by piece. scan's exported calls: New, Feed, Held, Broken, Split. -/
import Derived.Test.YtmhfhdbaeijcfaaDoorGE
import Derived.Test.YtmhfhdbaeijcfaaDoorGF
import Derived.BigQuiet
import Derived.Deep.RegionLaw
namespace Go.Proofs.YtmhfhdbaeijcfaaDoor
open Go.RowKit
open Go.Proofs.YtmhfhdbaeijcfaaDoor.H

/-- How many bytes the whole frame has, by its head. -/
def sizeH (s : List UInt8) : Nat := told s + 6
/-- A size that no frame has. -/
def badSize (s : List UInt8) : Prop := sizeH s < 7 ∨ 1024 < sizeH s
instance (s : List UInt8) : Decidable (badSize s) := by unfold badSize; exact inferInstance
/-- A stream's frames, what is left of it, whether it is broken. -/
inductive Cut : List UInt8 → List Fr → List UInt8 → Bool → Prop
  | short (s : List UInt8) (h : s.length < 2) : Cut s [] s false
  | part (s : List UInt8) (h2 : 2 ≤ s.length) (hs : ¬ badSize s) (h : s.length < sizeH s) : Cut s [] s false
  | size (s : List UInt8) (h2 : 2 ≤ s.length) (hs : badSize s) : Cut s [] [] true
  | wrong (s : List UInt8) (h2 : 2 ≤ s.length) (hs : ¬ badSize s) (h : sizeH s ≤ s.length) (hg : getB (s.take (sizeH s)) = none) : Cut s [] [] true
  | frame (s : List UInt8) (f : Fr) (fs : List Fr) (r : List UInt8) (b : Bool) (h2 : 2 ≤ s.length) (hs : ¬ badSize s) (h : sizeH s ≤ s.length) (hg : getB (s.take (sizeH s)) = some f) (hr : Cut (s.drop (sizeH s)) fs r b) : Cut s (f :: fs) r b
/-- Bytes of a frame that is not complete. -/
def Inc (s : List UInt8) : Prop := s.length < 2 ∨ ¬ badSize s ∧ s.length < sizeH s
theorem told_append (s t : List UInt8) (h : 2 ≤ s.length) : told (s ++ t) = told s := by
  unfold told
  rw [List.take_append_of_le_length h]
theorem sizeH_append (s t : List UInt8) (h : 2 ≤ s.length) : sizeH (s ++ t) = sizeH s := by unfold sizeH; rw [told_append s t h]
theorem told_take (s : List UInt8) (k : Nat) (h : 2 ≤ k) : told (s.take k) = told s := by
  unfold told
  rw [List.take_take, Nat.min_eq_left h]
theorem Cut.inc {s r : List UInt8} {fs : List Fr} {b : Bool} (h : Cut s fs r b) (hi : Inc s) : fs = [] ∧ r = s ∧ b = false := by
  cases h with
  | short => exact ⟨rfl, rfl, rfl⟩
  | part => exact ⟨rfl, rfl, rfl⟩
  | size _ h2 hs =>
    rcases hi with hi | hi
    · omega
    · exact absurd hs hi.1
  | wrong _ h2 hs h _ => rcases hi with hi | hi <;> omega
  | frame _ f fs _ _ h2 hs h _ _ => rcases hi with hi | hi <;> omega
theorem Cut.of_inc {s : List UInt8} (hi : Inc s) : Cut s [] s false := by
  rcases hi with h | h
  · exact .short s h
  · by_cases h2 : 2 ≤ s.length
    · exact .part s h2 h.1 h.2
    · exact .short s (by omega)
theorem Cut.rest {s r : List UInt8} {fs : List Fr} {b : Bool} (h : Cut s fs r b) : (b = true → r = []) ∧ Inc r := by
  induction h with
  | short s h => exact ⟨fun e => (by cases e), .inl h⟩
  | part s h2 hs h => exact ⟨fun e => (by cases e), .inr ⟨hs, h⟩⟩
  | size s h2 hs => exact ⟨fun _ => rfl, .inl (by simp)⟩
  | wrong s h2 hs h hg => exact ⟨fun _ => rfl, .inl (by simp)⟩
  | frame s f fs r b h2 hs h hg hr ih => exact ih
theorem Cut.det {s r r' : List UInt8} {fs fs' : List Fr} {b b' : Bool} (h : Cut s fs r b) (k : Cut s fs' r' b') : fs = fs' ∧ r = r' ∧ b = b' := by
  induction h generalizing fs' with
  | short s h => have := k.inc (.inl h); exact ⟨this.1.symm, this.2.1.symm, this.2.2.symm⟩
  | part s h2 hs h => have := k.inc (.inr ⟨hs, h⟩); exact ⟨this.1.symm, this.2.1.symm, this.2.2.symm⟩
  | size s h2 hs =>
    cases k with
    | short _ h => omega
    | part _ _ hs' _ => exact absurd hs hs'
    | size => exact ⟨rfl, rfl, rfl⟩
    | wrong => exact ⟨rfl, rfl, rfl⟩
    | frame _ _ _ _ _ _ hs' _ _ _ => exact absurd hs hs'
  | wrong s h2 hs h hg =>
    cases k with
    | short _ h' => omega
    | part _ _ _ h' => omega
    | size => exact ⟨rfl, rfl, rfl⟩
    | wrong => exact ⟨rfl, rfl, rfl⟩
    | frame _ _ _ _ _ _ _ _ hg' _ => rw [hg] at hg'; cases hg'
  | frame s f fs r b h2 hs h hg hr ih =>
    cases k with
    | short _ h' => omega
    | part _ _ _ h' => omega
    | size _ _ hs' => exact absurd hs' hs
    | wrong _ _ _ _ hg' => rw [hg] at hg'; cases hg'
    | frame _ f' fs'' _ _ _ _ _ hg' hr' =>
      rw [hg] at hg'
      injection hg' with hg'
      obtain ⟨a1, a2, a3⟩ := ih hr'
      exact ⟨by rw [hg', a1], a2, a3⟩
theorem Cut.any : ∀ (n : Nat) (s : List UInt8), s.length ≤ n → ∃ fs r b, Cut s fs r b
  | 0, s, h => ⟨[], s, false, .short s (by omega)⟩
  | n + 1, s, h => by
    by_cases h2 : s.length < 2
    · exact ⟨[], s, false, .short s h2⟩
    have h2 : 2 ≤ s.length := by omega
    by_cases hs : badSize s
    · exact ⟨[], [], true, .size s h2 hs⟩
    by_cases hl : s.length < sizeH s
    · exact ⟨[], s, false, .part s h2 hs hl⟩
    have hl : sizeH s ≤ s.length := by omega
    cases hg : getB (s.take (sizeH s)) with
    | none => exact ⟨[], [], true, .wrong s h2 hs hl hg⟩
    | some f =>
      obtain ⟨fs, r, b, hr⟩ := Cut.any n (s.drop (sizeH s)) (by
        rw [List.length_drop]
        unfold badSize at hs
        omega)
      exact ⟨f :: fs, r, b, .frame s f fs r b h2 hs hl hg hr⟩
/-- What comes behind, cut with what is left. -/
theorem Cut.append {s r : List UInt8} {fs : List Fr} {b : Bool} (h : Cut s fs r b) : b = false → ∀ {t r2 : List UInt8} {fs2 : List Fr} {b2 : Bool}, Cut (r ++ t) fs2 r2 b2 → Cut (s ++ t) (fs ++ fs2) r2 b2 := by
  induction h with
  | short s h => intro _ t r2 fs2 b2 k; exact k
  | part s h2 hs h => intro _ t r2 fs2 b2 k; exact k
  | size s h2 hs => intro e; cases e
  | wrong s h2 hs h hg => intro e; cases e
  | frame s f fs r b h2 hs h hg hr ih =>
    intro e t r2 fs2 b2 k
    have hsz := sizeH_append s t h2
    refine .frame (s ++ t) f (fs ++ fs2) r2 b2 (by rw [List.length_append]; omega) (by unfold badSize; rw [hsz]; exact hs) (by rw [hsz, List.length_append]; omega) ?_ ?_
    · rw [hsz, List.take_append_of_le_length h]; exact hg
    · rw [hsz, List.drop_append_of_le_length h]
      exact ih e k
/-- The bytes that frames have. -/
def bytesOf (fs : List Fr) : Nat := (fs.map fun f => (putB f).length).sum
theorem bytesOf_cons (f : Fr) (fs : List Fr) : bytesOf (f :: fs) = (putB f).length + bytesOf fs := rfl
theorem bytesOf_snoc (fs : List Fr) (f : Fr) : bytesOf (fs ++ [f]) = bytesOf fs + (putB f).length := by
  unfold bytesOf
  rw [List.map_append, List.sum_append]
  simp
theorem getB_len {s : List UInt8} {f : Fr} (h : getB s = some f) : (putB f).length = s.length := by rw [(getB_some h).2.2.2.1]
theorem Cut.sum {s r : List UInt8} {fs : List Fr} {b : Bool} (h : Cut s fs r b) : b = false → bytesOf fs + r.length = s.length := by
  induction h with
  | short s h => intro _; simp [bytesOf]
  | part s h2 hs h => intro _; simp [bytesOf]
  | size s h2 hs => intro e; cases e
  | wrong s h2 hs h hg => intro e; cases e
  | frame s f fs r b h2 hs h hg hr ih =>
    intro e
    have h1 := ih e
    have h3 := getB_len hg
    rw [bytesOf_cons, h3, List.length_take, List.length_drop] at *
    omega
theorem Cut.sum_le {s r : List UInt8} {fs : List Fr} {b : Bool} (h : Cut s fs r b) : bytesOf fs ≤ s.length ∧ 7 * fs.length ≤ s.length := by
  induction h with
  | short s h => simp [bytesOf]
  | part s h2 hs h => simp [bytesOf]
  | size s h2 hs => simp [bytesOf]
  | wrong s h2 hs h hg => simp [bytesOf]
  | frame s f fs r b h2 hs h hg hr ih =>
    have h3 := getB_len hg
    unfold badSize at hs
    rw [bytesOf_cons, h3, List.length_take]
    rw [List.length_drop] at ih
    simp only [List.length_cons]
    omega
theorem Cut.good {s r : List UInt8} {fs : List Fr} {b : Bool} (h : Cut s fs r b) : ∀ f ∈ fs, valid f = true ∧ f.pl = f ∧ f.fit := by
  induction h with
  | short s h => simp
  | part s h2 hs h => simp
  | size s h2 hs => simp
  | wrong s h2 hs h hg => simp
  | frame s f fs r b h2 hs h hg hr ih =>
    intro g hgm
    rcases List.mem_cons.1 hgm with rfl | hgm
    · have := getB_some hg; exact ⟨this.1, this.2.1, this.2.2.1⟩
    · exact ih g hgm
/-- One frame's bytes, put: they are cut as that frame. -/
theorem told_putB {f : Fr} (h : valid f = true) : told (putB f) = total f - 2 := by
  have ht := total_le f h
  obtain ⟨r, e⟩ := cov_head f
  have e2 : (putB f).take 2 = F.be 2 ((total f : Int) - 2).toNat := by
    unfold putB
    rw [e, List.append_assoc, List.take_append_of_le_length (by rw [F.be_length]; exact Nat.le_refl _), List.take_of_length_le (by rw [F.be_length]; exact Nat.le_refl _)]
  unfold told
  rw [e2, F.num_be]
  omega
theorem sizeH_putB {f : Fr} (h : valid f = true) : sizeH (putB f) = (putB f).length := by
  have ht := total_le f h
  rw [putB_length f h]
  unfold sizeH
  rw [told_putB h]
  omega
theorem putB_len7 {f : Fr} (h : valid f = true) (hf : f.fit) : 7 ≤ (putB f).length ∧ (putB f).length ≤ 1024 := by
  have := getB_some (getB_putB h hf)
  exact ⟨this.2.2.2.2.1, this.2.2.2.2.2⟩
theorem Cut.put {f : Fr} (h : valid f = true) (hf : f.fit) {t r : List UInt8} {fs : List Fr} {b : Bool} (k : Cut t fs r b) : Cut (putB f ++ t) (f.pl :: fs) r b := by
  have h7 := putB_len7 h hf
  have hz := sizeH_putB h
  have hsz : sizeH (putB f ++ t) = (putB f).length := by rw [sizeH_append _ _ (by omega), hz]
  refine .frame _ f.pl fs r b (by rw [List.length_append]; omega) (by unfold badSize; rw [hsz]; omega) (by rw [hsz, List.length_append]; omega) ?_ ?_
  · rw [hsz, List.take_append_of_le_length (Nat.le_refl _), List.take_of_length_le (Nat.le_refl _)]
    exact getB_putB h hf
  · rw [hsz, List.drop_append_of_le_length (Nat.le_refl _), List.drop_eq_nil_of_le (Nat.le_refl _), List.nil_append]
    exact k
/-- A beginning of a frame's bytes is not complete. -/
theorem inc_putB {f : Fr} (h : valid f = true) (hf : f.fit) (k : Nat) (hk : k < (putB f).length) : Inc ((putB f).take k) := by
  have h7 := putB_len7 h hf
  have hl : ((putB f).take k).length = k := by rw [List.length_take]; omega
  by_cases h2 : k < 2
  · exact .inl (by rw [hl]; exact h2)
  · have hs : sizeH ((putB f).take k) = (putB f).length := by
      have hz := sizeH_putB h
      unfold sizeH at hz ⊢
      rw [told_take _ _ (by omega)]
      exact hz
    exact .inr ⟨by unfold badSize; rw [hs]; omega, by rw [hl, hs]; exact hk⟩
end Go.Proofs.YtmhfhdbaeijcfaaDoor
namespace Go.Proofs.YtmhfhdbaeijcfaaDoor
open Go.RowKit
open Go.Proofs.YtmhfhdbaeijcfaaDoor.H

/-- Of what there was only block g and the row h may have turned; the new row is h, or younger, or none. -/
structure Mv (g : Nat) (h : Option Nat) (w w' : World) (h' : Option Nat) : Prop where
  os : w'.os = w.os
  tape : w'.tape = w.tape
  output : w'.output = w.output
  size : w.heap.size ≤ w'.heap.size
  block : ∀ k, k < w.heap.size → k ≠ g → some k ≠ h → w'.heap[k]? = w.heap[k]?
  lies : ∀ q, h' = some q → h = some q ∨ w.heap.size ≤ q
theorem Mv.refl (g : Nat) (h : Option Nat) (w : World) : Mv g h w w h := ⟨rfl, rfl, rfl, Nat.le_refl _, fun _ _ _ _ => rfl, fun _ e => .inl e⟩
theorem Mv.trans {g : Nat} {h h1 h2 : Option Nat} {a b c : World} (x : Mv g h a b h1) (y : Mv g h1 b c h2) : Mv g h a c h2 :=
  ⟨y.os.trans x.os, y.tape.trans x.tape, y.output.trans x.output, Nat.le_trans x.size y.size, fun k hk hg hh => (y.block k (Nat.lt_of_lt_of_le hk x.size) hg (fun e => by
    rcases x.lies k e.symm with e1 | e1
    · exact hh e1.symm
    · omega)).trans (x.block k hk hg hh), fun q e => by
    rcases y.lies q e with e1 | e1
    · exact x.lies q e1
    · exact .inr (Nat.le_trans x.size e1)⟩
theorem Mv.of_below {g : Nat} {h : Option Nat} {w w' : World} (hb : Below w.heap.size w w') : Mv g h w w' h := ⟨hb.os, hb.tape, hb.output, hb.size, fun k hk _ _ => hb.block k hk, fun _ e => .inl e⟩
theorem Mv.below {g : Nat} {h h' : Option Nat} {w w' : World} (m : Mv g h w w' h') {B : Nat} (hB : B ≤ w.heap.size) (hg : B ≤ g) (hh : ∀ q, h = some q → B ≤ q) : Below B w w' :=
  ⟨m.os, m.tape, m.output, m.size, fun k hk => m.block k (by omega) (by omega) (fun e => by have := hh k e.symm; omega)⟩
theorem Mv.cell {g : Nat} {h h' : Option Nat} {w w' : World} (m : Mv g h w w' h') {p : Addr} (hp : p.block < w.heap.size) (hg : p.block ≠ g) (hh : some p.block ≠ h) : w'.cell? p = w.cell? p := by
  unfold World.cell?
  rw [m.block _ hp hg hh]
theorem Mv.row {g : Nat} {h h' : Option Nat} {w w' : World} (m : Mv g h w w' h') {k : Nat} {t : TypeId} {cs : List Value} (hr : Row w k t cs) (hg : k ≠ g) (hh : some k ≠ h) : Row w' k t cs := (m.block k hr.lt hg hh).trans hr
/-- Bytes that lie neither in block g nor in the row h. -/
structure Off (w : World) (g : Nat) (h : Option Nat) (A : Option Addr) (bs : List UInt8) : Prop where
  rd : Rd w w.heap.size A (bs.map bv)
  ne : bs ≠ [] → ∀ ad, A = some ad → ad.block ≠ g ∧ some ad.block ≠ h
theorem Off.mv {w w' : World} {g : Nat} {h h' : Option Nat} {A : Option Addr} {bs : List UInt8} (o : Off w g h A bs) (m : Mv g h w w' h') : Off w' g h' A bs := by
  rcases o.rd with h0 | ⟨ad, h1, h2, h3⟩
  · have : bs = [] := by simpa using h0
    exact ⟨.inl h0, fun hb => absurd this hb⟩
  · by_cases hb : bs = []
    · exact ⟨.inl (by rw [hb]; rfl), fun h => absurd hb h⟩
    · obtain ⟨n1, n2⟩ := o.ne hb ad h1
      refine ⟨.inr ⟨ad, h1, Nat.lt_of_lt_of_le h2 m.size, fun j u hj => (m.cell (by rw [add_block]; exact h2) (by rw [add_block]; exact n1) (by rw [add_block]; exact n2)).trans (h3 j u hj)⟩, fun _ ad' e => ?_⟩
      rw [h1] at e
      injection e with e
      subst e
      refine ⟨n1, fun e => ?_⟩
      rcases m.lies _ e.symm with e1 | e1
      · exact n2 e1.symm
      · omega
theorem Off.drop {w : World} {g : Nat} {h : Option Nat} {A : Option Addr} {bs : List UInt8} (o : Off w g h A bs) {k cap : Nat} (hk : k ≤ bs.length) (hc : bs.length ≤ cap) : Off w g h (if cap = k then A else A.map (·.add k)) (bs.drop k) := by
  have hr := o.rd.drop (k := k) (cap := cap) (by simpa using hk) (by simpa using hc)
  rw [← List.map_drop] at hr
  refine ⟨hr, fun hb ad e => ?_⟩
  have hbs : bs ≠ [] := fun e => hb (by rw [e]; simp)
  split at e
  · exact o.ne hbs ad e
  · cases A with
    | none => cases e
    | some b =>
      injection e with e
      rw [← e]
      show (b.add k).block ≠ g ∧ some (b.add k).block ≠ h
      rw [add_block]
      exact o.ne hbs b rfl
/-- A scanner at block g: the bytes that it holds, in the row h; whether it is broken. -/
structure Scn (w : World) (B g : Nat) (h : Option Nat) (H : List UInt8) (br : Bool) : Prop where
  at_ : ∃ v, Row w g 109 [v, .bool br] ∧ v.ownBlock = h ∧ w.ownsRow B 5 1 v H.length (H.map bv)
  bg : B ≤ g
  ne : h ≠ some g
theorem own_block {w : World} {B : Nat} {v : Value} {n : Nat} {xs : List Value} (h : w.ownsRow B 5 1 v n xs) : ∀ q, v.ownBlock = some q → B ≤ q ∧ q < w.heap.size := h.lt
theorem Scn.bh {w : World} {B g : Nat} {h : Option Nat} {H : List UInt8} {br : Bool} (s : Scn w B g h H br) : ∀ q, h = some q → B ≤ q ∧ q < w.heap.size := fun q e => by
  obtain ⟨v, _, h2, h3⟩ := s.at_
  exact own_block h3 q (h2.trans e)
theorem Scn.glt {w : World} {B g : Nat} {h : Option Nat} {H : List UInt8} {br : Bool} (s : Scn w B g h H br) : g < w.heap.size := by
  obtain ⟨v, h1, _⟩ := s.at_
  exact h1.lt
theorem Scn.below {w w' : World} {B g : Nat} {h : Option Nat} {H : List UInt8} {br : Bool} (s : Scn w B g h H br) (hb : Below w.heap.size w w') : Scn w' B g h H br := by
  obtain ⟨v, h1, h2, h3⟩ := s.at_
  exact ⟨⟨v, h1.below hb h1.lt, h2, own_below h3 hb⟩, s.bg, s.ne⟩
/-- The held slice, read. -/
theorem Scn.open {w : World} {B g : Nat} {h : Option Nat} {H : List UInt8} {br : Bool} (s : Scn w B g h H br) : ∃ A c, Row w g 109 [.slice A H.length c, .bool br] ∧ H.length ≤ c ∧ c ≤ 9223372036854775807 ∧ Rd w w.heap.size A (H.map bv) ∧ (Value.slice A H.length c).ownBlock = h ∧ w.ownsRow B 5 1 (.slice A H.length c) H.length (H.map bv) := by
  obtain ⟨v, h1, h2, h3⟩ := s.at_
  obtain ⟨A, c, rfl, _, hc, hcm, hr, _⟩ := own_slice h3
  exact ⟨A, c, h1, hc, hcm, hr, h2, h3⟩
theorem told_two (x y : UInt8) (l : List UInt8) : told (x :: y :: l) = 256 * x.toNat + y.toNat := by
  show F.num [x, y] = _
  simp [F.num]
theorem told_lt (s : List UInt8) : told s < 65536 := by
  unfold told
  have h := F.num_lt (s.take 2)
  have hl : (s.take 2).length ≤ 2 := by rw [List.length_take]; omega
  have : 256 ^ (s.take 2).length ≤ 256 ^ 2 := Nat.pow_le_pow_right (by decide) hl
  omega

set_option maxRecDepth 100000 in
set_option maxHeartbeats 1000000 in
theorem size_any (B g : Nat) (h : Option Nat) (H : List UInt8) (br : Bool) (w : World) (hs : Scn w B g h H br) (h2 : 2 ≤ H.length) :
    Calls Tryd.prog 81 #[.pointer (some ⟨g, 0, none⟩)] w fun e w' => e = .returned (.int .i64 (sizeH H : Int)) ∧ ∃ m, w' = w.drewN m := by
  obtain ⟨A, c, hr, hc, hcm, hrd, _, _⟩ := hs.open
  match H, h2 with
  | x :: y :: l, _ =>
    obtain ⟨n, hn⟩ : ∃ n, (x :: y :: l).length = n := ⟨_, rfl⟩
    have hn2 : 2 ≤ n := by rw [← hn]; simp
    rw [hn] at hr hc
    obtain ⟨ad, rfl, _, c0⟩ := hrd.cell (k := 0) (u := bv x) rfl
    obtain ⟨ad', e', _, c1⟩ := hrd.cell (k := 1) (u := bv y) rfl
    injection e' with e'
    subst e'
    have cg : w.cell? ⟨g, 0, none⟩ = some (.slice (some ad) n c) := hr.cell 0
    have HT : Hid (sizeH (x :: y :: l) = 256 * x.toNat + y.toNat + 6) := Lib.hid (by unfold sizeH; rw [told_two])
    have hi0 : (0 : Int) < (n : Int) := by omega
    have hi1 : (1 : Int) < (n : Int) := by omega
    have hx := x.toNat_lt
    have hy := y.toNat_lt
    unfold bv at c0 c1
    generalize x.toNat = a at *
    generalize y.toNat = b at *
    clear hrd hr hs hn
    have hn0 : 0 < n := by omega
    have hn1 : 1 < n := by omega
    have c0' : w.cell? ad = some (.int .u8 (a : Int)) := by simpa [Addr.add] using c0
    have c1' : w.cell? ⟨ad.block, ad.off + 1, none⟩ = some (.int .u8 (b : Int)) := by simpa [Addr.add] using c1
    go_enter Tryd.func81, Tryd.ntmps81
    go_wp2_with fail
    go_quiet (fail)
    go_wp2_with fail
    go_ret
    exact ⟨ret_int (by rw [HT.out]; omega), nq, rfl⟩

/-- How many bytes the head lacks or, behind it, the frame. -/
def miss (H : List UInt8) : Nat := (if H.length < 2 then 2 else sizeH H) - H.length
theorem miss_pos {H : List UInt8} (h : Inc H) : 0 < miss H := by
  unfold miss
  rcases h with h | h
  · rw [if_pos h]; omega
  · split <;> omega
theorem Scn.drewN {w : World} {B g : Nat} {h : Option Nat} {H : List UInt8} {br : Bool} (s : Scn w B g h H br) (n : Nat) : Scn (w.drewN n) B g h H br := by
  obtain ⟨v, h1, h2, h3⟩ := s.at_
  exact ⟨⟨v, h1, h2, h3⟩, s.bg, s.ne⟩

set_option maxRecDepth 100000 in
set_option maxHeartbeats 1000000 in
theorem missing_any (B g : Nat) (h : Option Nat) (H : List UInt8) (br : Bool) (w : World) (hs : Scn w B g h H br) (hi : Inc H) :
    Calls Tryd.prog 80 #[.pointer (some ⟨g, 0, none⟩)] w fun e w' => e = .returned (.int .i64 (miss H : Int)) ∧ ∃ m, w' = w.drewN m := by
  have HS := Lib.hid hs
  obtain ⟨A, c, hr, hc, hcm, _, _, _⟩ := hs.open
  obtain ⟨n, HN⟩ : ∃ n, Hid (H.length = n) := ⟨_, rfl⟩
  have hcn : n ≤ c := by rw [← HN.out]; exact hc
  have cg : w.cell? ⟨g, 0, none⟩ = some (.slice A n c) := by rw [← HN.out]; exact hr.cell 0
  have HI := Lib.hid hi
  clear hs hr hc hi
  by_cases h2 : n < 2
  · have HM : Hid (miss H = 2 - n) := Lib.hid (by unfold miss; rw [HN.out, if_pos h2])
    go_enter Tryd.func80, Tryd.ntmps80
    go_wp2_with fail
    go_ret
    exact ⟨ret_int (by rw [HM.out]; omega), 0, rfl⟩
  · have HM : Hid (miss H = sizeH H - n) := Lib.hid (by unfold miss; rw [HN.out, if_neg h2])
    have hlt : n < sizeH H := by
      rcases HI.out with h | h
      · rw [HN.out] at h; omega
      · rw [← HN.out]; exact h.2
    have hsz : sizeH H < 65542 := by have := told_lt H; unfold sizeH; omega
    have HSZ : Hid (2 ≤ H.length) := Lib.hid (by rw [HN.out]; omega)
    generalize hz : sizeH H = z at *
    have HC : Hid (∀ q, Calls Tryd.prog 81 #[.pointer (some ⟨g, 0, none⟩)] (w.drewN q) fun e w' => e = .returned (.int .i64 (z : Int)) ∧ ∃ m, w' = (w.drewN q).drewN m) := Lib.hid (fun q => by rw [← hz]; exact size_any B g h H br _ (HS.out.drewN q) HSZ.out)
    go_enter Tryd.func80, Tryd.ntmps80
    go_wp2_with fail
    go_quiet ((go_at_call 81; with_reducible exact Calls.quiet_of (HC.out _)))
    go_wp2_with fail
    go_ret
    exact ⟨ret_int (by rw [HM.out]; omega), nq, rfl⟩
end Go.Proofs.YtmhfhdbaeijcfaaDoor
namespace Go.Proofs.YtmhfhdbaeijcfaaDoor
open Go.RowKit
open Go.Proofs.YtmhfhdbaeijcfaaDoor.H

theorem append_types (ty : TypeId) (v x : Value) (w : World) : (Builtin.append_ #[107, 23] ty #[v, x]).run Tryd.prog w = (Builtin.append_ #[107, 107] ty #[v, x]).run Tryd.prog w := by
  cases v <;> simp only [Builtin.append_, List.getElem?_toArray, List.getElem?_cons_zero, List.getElem?_cons_succ, Sem.run_bind, run_underlying Tryd.underlying107, run_underlying Tryd.underlying23, Result.andThen_ok, Sem.run_pure]
set_option maxRecDepth 100000 in
/-- Bytes, wherever they lie, appended to the row that a scanner holds. -/
theorem run_append_pc (w : World) (base : Nat) (v : Value) (n : Nat) (xs : List Value) (hown : w.ownsRow base 5 1 v n xs) (ad : Addr) (m c : Nat) (bs : List UInt8) (hm : bs.length = m) (hnews : ∀ (j : Nat) (u : Value), (bs.map bv)[j]? = some u → w.cell? (ad.add j) = some u)
    (hb : n + m ≤ 140737488355328) (hbase : base ≤ w.heap.size) (ty : TypeId) :
    ∃ v' w', (Builtin.append_ #[107, 23] ty #[v, .slice (some ad) m c]).run Tryd.prog w = .ok v' w' ∧ w'.ownsRow base 5 1 v' (n + m) (xs ++ bs.map bv) ∧ w.grownBy w' v.ownBlock ∧ (v'.ownBlock = v.ownBlock ∨ v'.ownBlock = some w.heap.size) := by
  obtain ⟨i0, hi0, hz0, hz1, hz2⟩ := info_parts' u8_info
  subst hm
  obtain ⟨v', w', hrun, h2, h3, _, h5⟩ := run_append_own_at (P := Tryd.prog) w base 107 ty 5 i0 _ 1 1 Tryd.underlying107 hi0 hz0 hz1 hz2 rfl (by omega) v n xs hown ad bs.length c (bs.map bv) (by simp) hnews
    (by intro u hu; simp at hu; obtain ⟨b, _, rfl⟩ := hu; rfl) (by simp only [maxLen]; omega) (by omega) hbase
  exact ⟨v', w', (append_types ty _ _ w).trans hrun, h2, h3, h5⟩
theorem step_append_pc (w : World) {ops : Array Oper} {o : Oper} {a : Act} {K : Act → World → Prop} {Q : Exit → Act → World → Prop} {E : Prop} (hgd : o.guard = none) (t x : Operand)
    (ho : o.op = .call { callee := .builtin .append, args := #[t, x], argTypes := #[107, 23] }) (base : Nat) (v : Value) (n : Nat) (H : List UInt8) (hs : a.eval t = v) (hown : w.ownsRow base 5 1 v n (H.map bv)) (ad : Addr) (m c : Nat) (bs : List UInt8) (hx : a.eval x = .slice (some ad) m c) (hm : bs.length = m)
    (hnews : ∀ (j : Nat) (u : Value), (bs.map bv)[j]? = some u → w.cell? (ad.add j) = some u) (hb : n + m ≤ 140737488355328) (hbase : base ≤ w.heap.size)
    (h : ∀ A C w', Hid (w'.ownsRow base 5 1 (.slice A (n + m) C) (n + m) ((H ++ bs).map bv) ∧ w.grownBy w' v.ownBlock ∧ ((Value.slice A (n + m) C).ownBlock = v.ownBlock ∨ (Value.slice A (n + m) C).ownBlock = some w.heap.size)) → K (a.put o.dst (.slice A (n + m) C)) w') :
    if Region.wanted o (yielded ops a.tmps) = true then Oper.wp Tryd.prog o a w K Q else E := by
  have hw : Region.wanted o (yielded ops a.tmps) = true := by simp [Region.wanted, hgd]
  rw [if_pos hw]
  obtain ⟨v', w', hr, h2, h3, h4⟩ := run_append_pc w base v n (H.map bv) hown ad m c bs hm hnews hb hbase o.type
  unfold Oper.wp execOp
  simp only [ho, resolve, invoke, builtin, Sem.run_bind, Sem.run_pure, Result.andThen_ok, List.map_toArray, List.map_cons, List.map_nil, hs, hx, hr]
  rw [← List.map_append] at h2
  obtain ⟨A, C, rfl, _, _, _, _, _⟩ := own_slice h2
  exact h A C w' (Lib.hid ⟨h2, h3, h4⟩)
theorem ownsRow_setOther {w : World} {base : Nat} {e : TypeId} {size : Nat} {v : Value} {n : Nat} {xs : List Value} (h : w.ownsRow base e size v n xs) {a : Addr} (ha : some a.block ≠ v.ownBlock) (u : Value) : (w.setCell a u).ownsRow base e size v n xs := by
  refine ⟨h.1, ?_⟩
  rcases h.2 with h0 | ⟨g, cap, cur, h1, hbg, h2, h3⟩
  · exact .inl h0
  · refine .inr ⟨g, cap, cur, h1, hbg, ?_, h3⟩
    have hne : g ≠ a.block := fun e => ha (by rw [h1, ← e]; rfl)
    exact (Below.heap_setCell w a u g hne).trans h2

theorem row_grown {w w' : World} {g : Nat} {t : TypeId} {cs : List Value} {r : Option Nat} (h : Row w g t cs) (hg : w.grownBy w' r) (hr : r ≠ some g) : Row w' g t cs := (hg.block g h.lt (fun e => hr e.symm)).trans h
/-- Bytes behind those that are held, and the new slice in the scanner. -/
theorem put_end {w1 w2 : World} {B g n k l ch C2 : Nat} {h : Option Nat} {X bs : List UInt8} {ad : Addr} {Ah A2 : Option Addr} (hs : Scn w1 B g h X false) (ho : Off w1 g h (some ad) bs) (hob : (Value.slice Ah l ch).ownBlock = h) (hl : X.length = l) (_ : bs.length = n) (_ : k ≤ n) (htk : (bs.take k).length = k)
    (h2 : w2.ownsRow B 5 1 (.slice A2 (l + k) C2) (l + k) ((X ++ bs.take k).map bv) ∧ w1.drew.grownBy w2 (Value.slice Ah l ch).ownBlock ∧ ((Value.slice A2 (l + k) C2).ownBlock = (Value.slice Ah l ch).ownBlock ∨ (Value.slice A2 (l + k) C2).ownBlock = some w1.drew.heap.size)) (hr : Row w2 g 109 [.slice Ah l ch, .bool false]) :
    Scn (w2.setCell ⟨g, 0, none⟩ (.slice A2 (l + k) C2)) B g (Value.slice A2 (l + k) C2).ownBlock (X ++ bs.take k) false ∧ Mv g h w1 (w2.setCell ⟨g, 0, none⟩ (.slice A2 (l + k) C2)) (Value.slice A2 (l + k) C2).ownBlock ∧ Off (w2.setCell ⟨g, 0, none⟩ (.slice A2 (l + k) C2)) g (Value.slice A2 (l + k) C2).ownBlock (some ad) bs := by
  obtain ⟨h3, h4, h5⟩ := h2
  rw [hob] at h4 h5
  have hne : (Value.slice A2 (l + k) C2).ownBlock ≠ some g := by
    rcases h5 with e | e
    · rw [e]; exact hs.ne
    · rw [e]
      intro e2
      injection e2 with e2
      have := hs.glt
      have e3 : w1.drew.heap.size = w1.heap.size := rfl
      omega
  have hmv : Mv g h w1 (w2.setCell ⟨g, 0, none⟩ (.slice A2 (l + k) C2)) (Value.slice A2 (l + k) C2).ownBlock := by
    refine ⟨h4.os, h4.tape, h4.output, by have := h4.size; simpa [World.setCell] using this, fun q hq hqg hqh => ?_, fun q e => ?_⟩
    · exact (Below.heap_setCell _ _ _ _ hqg).trans (h4.block q hq hqh)
    · rcases h5 with e1 | e1
      · exact .inl (by rw [← e1]; exact e)
      · rw [e1] at e
        injection e with e
        exact .inr (by rw [← e]; exact Nat.le_refl _)
  refine ⟨⟨⟨.slice A2 (l + k) C2, hr.set 0 _, rfl, ?_⟩, hs.bg, hne⟩, hmv, ho.mv hmv⟩
  have hlen : (X ++ bs.take k).length = l + k := by rw [List.length_append, hl, htk]
  rw [hlen]
  exact ownsRow_setOther h3 (fun e => hne e.symm) _

set_option maxRecDepth 100000 in
set_option maxHeartbeats 2000000 in
theorem put_any (B g n c : Nat) (h : Option Nat) (X bs : List UInt8) (A : Option Addr) (w : World) (hs : Scn w B g h X false) (hi : Inc X) (hn : bs.length = n) (h0 : 0 < n) (hc : n ≤ c) (hcm : c ≤ 9223372036854775807) (ho : Off w g h A bs) :
    Calls Tryd.prog 70 #[.pointer (some ⟨g, 0, none⟩), .slice A n c] w fun e w' => ∃ h' A' c', e = .returned (.slice A' (n - min n (miss X)) c') ∧ Hid (Scn w' B g h' (X ++ bs.take (min n (miss X))) false ∧ Mv g h w w' h' ∧ n - min n (miss X) ≤ c' ∧ c' ≤ 9223372036854775807 ∧ Off w' g h' A' (bs.drop (min n (miss X))) ∧ ∀ a', A' = some a' → ∃ a, A = some a ∧ a'.block = a.block) := by
  have HS := Lib.hid hs
  have HI := Lib.hid hi
  have HN := Lib.hid hn
  have HO := Lib.hid ho
  have hmp := miss_pos hi
  have hmm : miss X ≤ 65541 := by have := told_lt X; unfold miss sizeH; split <;> omega
  have HHL : Hid (X.length ≤ 65541) := Lib.hid (by
    rcases hi with h | h
    · omega
    · have := told_lt X; unfold sizeH at h; omega)
  obtain ⟨ad, rfl⟩ : ∃ ad, A = some ad := by
    rcases ho.rd with h1 | ⟨ad, h1, _⟩
    · have : bs = [] := by simpa using h1
      subst this; simp at hn; omega
    · exact ⟨ad, h1⟩
  obtain ⟨M, HM⟩ : ∃ M, H.Shut (miss X = M) := ⟨_, ⟨rfl⟩⟩
  rw [HM.out] at hmp hmm ⊢
  clear hs hi hn ho
  obtain ⟨k, HK⟩ : ∃ k, H.Shut (min n M = k) := ⟨_, ⟨rfl⟩⟩
  have hkn : k ≤ n := by rw [← HK.out]; exact Nat.min_le_left _ _
  have hk0 : 0 < k := by rw [← HK.out]; omega
  have hkM : k ≤ 65541 := by rw [← HK.out]; omega
  rw [HK.out]
  have HC : Hid (Calls Tryd.prog 80 #[.pointer (some ⟨g, 0, none⟩)] w fun e w' => e = .returned (.int .i64 (M : Int)) ∧ ∃ m, w' = w.drewN m) := Lib.hid (by rw [← HM.out]; exact missing_any B g h X false w HS.out HI.out)
  go_enter Tryd.func70, Tryd.ntmps70
  go_wp2_with fail
  with_reducible refine HC.out.mono ?_
  rintro e w1 ⟨rfl, m1, hw1⟩
  have HS1 : Hid (Scn w1 B g h X false) := Lib.hid (by rw [hw1]; exact HS.out.drewN m1)
  have HO1 : Hid (Off w1 g h (some ad) bs) := Lib.hid (by rw [hw1]; exact ⟨HO.out.rd, HO.out.ne⟩)
  have HW1 : Hid (Mv g h w w1 h) := Lib.hid (by rw [hw1]; exact ⟨rfl, rfl, rfl, Nat.le_refl _, fun _ _ _ _ => rfl, fun _ e => .inl e⟩)
  clear hw1 HS HO HC
  obtain ⟨Ah, ch, hrow, hcl, hch, _, hob, hown⟩ := HS1.out.open
  obtain ⟨l, HL⟩ : ∃ l, H.Shut (X.length = l) := ⟨_, ⟨rfl⟩⟩
  rw [HL.out] at hrow hob hown
  have HRW := Lib.hid hrow
  have HOB := Lib.hid hob
  have HOW : Hid (w1.drew.ownsRow B 5 1 (.slice Ah l ch) l (X.map bv)) := Lib.hid hown
  have hll : l ≤ 65541 := by rw [← HL.out]; exact HHL.out
  have cg : w1.cell? ⟨g, 0, none⟩ = some (.slice Ah l ch) := hrow.cell 0
  have fg : w1.frozen? ⟨g, 0, none⟩ = false := hrow.frozen 0
  have hlc : l ≤ ch := by rw [← HL.out]; exact hcl
  have HTK : Hid ((bs.take k).length = k) := Lib.hid (by rw [List.length_take, HN.out]; omega)
  have HNW : Hid (∀ (j : Nat) (u : Value), ((bs.take k).map bv)[j]? = some u → w1.drew.cell? (ad.add j) = some u) := Lib.hid (fun j u hj => by
    have h1 := HO1.out.rd.take k
    rw [← List.map_take] at h1
    obtain ⟨ad', e', _, hcc⟩ := h1.cell hj
    injection e' with e'
    rw [e']
    exact hcc)
  have HBH : Hid (B ≤ w1.drew.heap.size) := Lib.hid (Nat.le_trans HS1.out.bg (Nat.le_of_lt HS1.out.glt))
  have HRWd : Hid (Row w1.drew g 109 [.slice Ah l ch, .bool false]) := HRW
  have HNG := Lib.hid HS1.out.ne
  clear hrow hown hob hcl
  have hkI : (k : Int) ≤ (n : Int) := by omega
  have hmin : min n M = k := HK.out
  have hcase : (M < n ∧ ¬ n ≤ M ∧ ¬ n < M ∧ k = M) ∨ (n ≤ M ∧ ¬ M < n ∧ k = n) := by omega
  rcases hcase with ⟨hMn, hx1, hx2, hkv⟩ | ⟨hMn, hx1, hkv⟩
  · subst hkv
    have hkc : k ≤ c := by omega
    go_wp2_with fail
    go_region_law (refine step_append_pc _ rfl (.tmp 14) (.tmp 17) rfl B (.slice Ah l ch) l X rfl HOW.out ad k c (bs.take k) rfl HTK.out HNW.out (by omega) HBH.out ?_; intro A2 C2 w2 HO2; have HR2 := Lib.hid (row_grown HRWd.out HO2.out.2.1 (by rw [HOB.out]; exact HNG.out)); have fz2 : w2.frozen? ⟨g, 0, none⟩ = false := HR2.out.frozen 0; have cy : w2.cell? ⟨g, 0, none⟩ = some (.slice Ah l ch) := HR2.out.cell 0)
    all_goals
      have HF := Lib.hid (put_end HS1.out HO1.out HOB.out HL.out HN.out hkn HTK.out HO2.out HR2.out)
      clear HO2 HR2 fz2 cy HOW HNW HTK HRW HRWd cg fg
      generalize w2.setCell ⟨g, 0, none⟩ (.slice A2 (l + k) C2) = w3 at *
      by_cases hck : c = k
      · go_wp2_with fail
        go_ret
        have h1 := HF.out.2.2.drop (k := k) (cap := c) (by rw [HN.out]; exact hkn) (by rw [HN.out]; exact hc)
        rw [if_pos hck] at h1
        exact ⟨_, _, _, rfl, Lib.hid ⟨HF.out.1, HW1.out.trans HF.out.2.1, by omega, by omega, h1, fun a' e => ⟨ad, rfl, by injection e with e; rw [← e]⟩⟩⟩
      · go_wp2_with fail
        go_ret
        have h1 := HF.out.2.2.drop (k := k) (cap := c) (by rw [HN.out]; exact hkn) (by rw [HN.out]; exact hc)
        rw [if_neg hck] at h1
        exact ⟨_, _, _, rfl, Lib.hid ⟨HF.out.1, HW1.out.trans HF.out.2.1, by omega, by omega, h1, fun a' e => ⟨ad, rfl, by injection e with e; rw [← e, add_block]⟩⟩⟩
  · subst hkv
    have hkc : k ≤ c := by omega
    go_wp2_with fail
    go_region_law (refine step_append_pc _ rfl (.tmp 14) (.tmp 17) rfl B (.slice Ah l ch) l X rfl HOW.out ad k c (bs.take k) rfl HTK.out HNW.out (by omega) HBH.out ?_; intro A2 C2 w2 HO2; have HR2 := Lib.hid (row_grown HRWd.out HO2.out.2.1 (by rw [HOB.out]; exact HNG.out)); have fz2 : w2.frozen? ⟨g, 0, none⟩ = false := HR2.out.frozen 0; have cy : w2.cell? ⟨g, 0, none⟩ = some (.slice Ah l ch) := HR2.out.cell 0)
    all_goals
      have HF := Lib.hid (put_end HS1.out HO1.out HOB.out HL.out HN.out hkn HTK.out HO2.out HR2.out)
      clear HO2 HR2 fz2 cy HOW HNW HTK HRW HRWd cg fg
      generalize w2.setCell ⟨g, 0, none⟩ (.slice A2 (l + k) C2) = w3 at *
      by_cases hck : c = k
      · go_wp2_with fail
        go_ret
        have h1 := HF.out.2.2.drop (k := k) (cap := c) (by rw [HN.out]; exact hkn) (by rw [HN.out]; exact hc)
        rw [if_pos hck] at h1
        exact ⟨_, some ad, 0, by rw [Nat.sub_self]; rfl, Lib.hid ⟨HF.out.1, HW1.out.trans HF.out.2.1, by omega, by omega, h1, fun a' e => ⟨ad, rfl, by injection e with e; rw [← e]⟩⟩⟩
      · go_wp2_with fail
        go_ret
        have h1 := HF.out.2.2.drop (k := k) (cap := c) (by rw [HN.out]; exact hkn) (by rw [HN.out]; exact hc)
        rw [if_neg hck] at h1
        exact ⟨_, some (ad.add k), c - k, by rw [Nat.sub_self]; rfl, Lib.hid ⟨HF.out.1, HW1.out.trans HF.out.2.1, by omega, by omega, h1, fun a' e => ⟨ad, rfl, by injection e with e; rw [← e, add_block]⟩⟩⟩
end Go.Proofs.YtmhfhdbaeijcfaaDoor
namespace Go.Proofs.YtmhfhdbaeijcfaaDoor
open Go.RowKit
open Go.Proofs.YtmhfhdbaeijcfaaDoor.H
attribute [local go_sem] F.run_store_f64

theorem results_three {fn : Func} {p u t2 : Tmp} {ty : TypeId} (h : fn.results = #[.cell p ty, .tmp u, .tmp t2]) (tmps : Array Value) (P : Program) (w : World) :
    (results fn tmps).run P w = ((asAddr (tmps.getD p undef)).run P w).andThen fun a w₁ => ((loadVar ty a).run P w₁).andThen fun v w₂ => .ok (.tuple #[v, tmps.getD u undef, tmps.getD t2 undef]) w₂ := by
  simp only [results, h]
  simp [Sem.run_bind, Result.andThen]
theorem results_cell_three {fn : Func} {p u t2 : Tmp} {ty : TypeId} (h : fn.results = #[.cell p ty, .tmp u, .tmp t2]) (tmps : Array Value) (w : World) (g : Nat) (t : TypeId) (cs : List Value) (d : TypeDesc) (v v2 : Value)
    (hp : tmps.getD p undef = .pointer (some ⟨g, 0, none⟩)) (hv : tmps.getD u undef = v) (hv2 : tmps.getD t2 undef = v2) (hr : Row w g t cs) (hu : Tryd.prog.underlying ty = some d) (hd : d.isRow = true) (hi : (Tryd.prog.info? ty).map (·.size) = some cs.length) :
    (results fn tmps).run Tryd.prog w = .ok (.tuple #[.agg cs.toArray, v, v2]) w := by
  rw [results_three h, hp, hv, hv2]
  have h1 := run_loadVar_mid (P := Tryd.prog) w g 0 ty cs d (hr.range (es := []) (by simp)) hu hd hi
  simp [asAddr, h1]
/-- A frame whose bytes are young stays, where only older blocks turn. -/
theorem ok_keep {f : Fr} {w w' : World} {z : Nat} (h : f.ok w w.heap.size) (hn : f.bs ≠ [] → ∃ q, f.ba = some ⟨q, 0, none⟩ ∧ z ≤ q) (hsz : w.heap.size ≤ w'.heap.size) (hk : ∀ k, z ≤ k → k < w.heap.size → w'.heap[k]? = w.heap[k]?) : f.ok w' w'.heap.size := by
  refine { h with rd := ?_ }
  by_cases hb : f.bs = []
  · exact .inl (by rw [hb]; rfl)
  · obtain ⟨q, h1, h2⟩ := hn hb
    rcases h.rd with h3 | ⟨ad, h3, h4, h5⟩
    · exact .inl h3
    · rw [h1] at h3
      injection h3 with h3
      subst h3
      refine .inr ⟨_, h1, Nat.lt_of_lt_of_le h4 hsz, fun j u hj => ?_⟩
      rw [← h5 j u hj]
      unfold World.cell?
      rw [add_block, hk q h2 h4]
theorem Scn.sole {w w' : World} {B g k : Nat} {h : Option Nat} {X : List UInt8} {br : Bool} (s : Scn w B g h X br) (hs : Sole k w w') (hk : g ≠ k) (hh : h ≠ some k) : Scn w' B g h X br := by
  obtain ⟨v, h1, h2, h3⟩ := s.at_
  refine ⟨⟨v, hs.row h1 hk, h2, ⟨h3.1, ?_⟩⟩, s.bg, s.ne⟩
  rcases h3.2 with h0 | ⟨q, cap, cur, e1, hb, hq, h4⟩
  · exact .inl h0
  · have hql : q < w.heap.size := by
      rcases Nat.lt_or_ge q w.heap.size with hlt | hge
      · exact hlt
      · rw [Array.getElem?_eq_none hge] at hq; cases hq
    exact .inr ⟨q, cap, cur, e1, hb, (hs.block q hql (fun e => hh (by rw [← h2, e1, ← e]; rfl))).trans hq, h4⟩

set_option maxRecDepth 100000 in
set_option maxHeartbeats 2000000 in
theorem take_short (B g : Nat) (h : Option Nat) (X : List UInt8) (E : Nat → Value) (te : TypeId) (pe : Value) (w : World) (hE : Env w E te pe) (hE5 : F.Errs w E) (hs : Scn w B g h X false) (h2 : X.length < 2) : Calls Tryd.prog 71 #[.pointer (some ⟨g, 0, none⟩)] w fun e w' => e = .returned (.tuple #[.agg zeroC.toArray, .int .i64 0, .nilIface]) ∧ Hid (Below w.heap.size w w') := by
  have HE := Lib.hid hE
  have HE5 := Lib.hid hE5
  have h20 := hE.size
  have HS := Lib.hid hs
  obtain ⟨A, c, hrow, hcl, hch, hrd, hob, hown⟩ := hs.open
  obtain ⟨l, HL⟩ : ∃ l, Hid (X.length = l) := ⟨_, rfl⟩
  rw [HL.out] at hrow hcl hob hown
  have HRW := Lib.hid hrow
  have HRD := Lib.hid hrd
  have hg := hrow.lt
  clear hE hE5 hs hrow hrd
  have HLZ : Hid ((Tryd.prog.info? 25).map (·.size) = some zeroC.length) := Lib.hid size25
  have hl2 : l < 2 := by rw [← HL.out]; exact h2
  go_enter Tryd.func71, Tryd.ntmps71
  go_wp2_with (first
    | (refine wl_alloc (o := ⟨some 2, _, _, _, _, _⟩) rfl 25 rfl _ _ info25' ?_
       intro w1 HA1 HB1 HZ1
       have hz1 : w.heap.size < w1.heap.size := by rw [HZ1.out]; omega
       have HRW1 := Lib.hid (HRW.out.below HB1.out hg)
       have cg : w1.cell? ⟨g, 0, none⟩ = some (.slice A l c) := HRW1.out.cell 0)
    | (refine wl_store rfl 25 (.tmp 2) (.tmp 13) rfl w.heap.size _ zeroC rfl rfl rfl 25 _ HA1.out HLZ.out rfl zeroC_one ?_
       intro w8 HR8 HS8 HZ8))
  refine bodyPost_ret (v := .tuple #[.agg zeroC.toArray, .int .i64 0, .nilIface]) (results_cell_three Tryd.results71 _ w8 w.heap.size 25 zeroC _ _ _ rfl rfl rfl HR8.out under25.choose_spec rfl HLZ.out) rfl ?_
  exact ⟨rfl, Lib.hid (HB1.out.trans (HS8.out.below (Nat.le_refl _) HB1.out.size))⟩

set_option maxRecDepth 100000 in
set_option maxHeartbeats 2000000 in
theorem take_size (B g : Nat) (h : Option Nat) (X : List UInt8) (E : Nat → Value) (te : TypeId) (pe : Value) (w : World) (hE : Env w E te pe) (hE5 : F.Errs w E) (hs : Scn w B g h X false) (h2 : 2 ≤ X.length) (hb : badSize X) : Calls Tryd.prog 71 #[.pointer (some ⟨g, 0, none⟩)] w fun e w' => e = .returned (.tuple #[.agg zeroC.toArray, .int .i64 0, .iface te pe]) ∧ Hid (Below w.heap.size w w') := by
  have HE := Lib.hid hE
  have HE5 := Lib.hid hE5
  have h20 := hE.size
  have HS := Lib.hid hs
  obtain ⟨A, c, hrow, hcl, hch, hrd, hob, hown⟩ := hs.open
  obtain ⟨l, HL⟩ : ∃ l, Hid (X.length = l) := ⟨_, rfl⟩
  rw [HL.out] at hrow hcl hob hown
  have HRW := Lib.hid hrow
  have HRD := Lib.hid hrd
  have hg := hrow.lt
  clear hE hE5 hs hrow hrd
  have HLZ : Hid ((Tryd.prog.info? 25).map (·.size) = some zeroC.length) := Lib.hid size25
  have HX2 : Hid (2 ≤ X.length) := Lib.hid h2
  obtain ⟨z, HSZ⟩ : ∃ z, H.Shut (sizeH X = z) := ⟨_, ⟨rfl⟩⟩
  have hzl : z < 65542 := by rw [← HSZ.out]; have := told_lt X; unfold sizeH; omega
  have hl2 : ¬ l < 2 := by rw [← HL.out]; omega
  have hbz : z < 7 ∨ 1024 < z := by rw [← HSZ.out]; exact hb
  go_enter Tryd.func71, Tryd.ntmps71
  go_wp2_with (first
    | (refine wl_alloc (o := ⟨some 2, _, _, _, _, _⟩) rfl 25 rfl _ _ info25' ?_
       intro w1 HA1 HB1 HZ1
       have hz1 : w.heap.size < w1.heap.size := by rw [HZ1.out]; omega
       have HRW1 := Lib.hid (HRW.out.below HB1.out hg)
       have cg : w1.cell? ⟨g, 0, none⟩ = some (.slice A l c) := HRW1.out.cell 0)
    | (refine wl_store rfl 25 (.tmp 2) (.tmp 13) rfl w.heap.size _ zeroC rfl rfl rfl 25 _ HA1.out HLZ.out rfl zeroC_one ?_
       intro w8 HR8 HS8 HZ8))
  have HS1 := Lib.hid (HS.out.below HB1.out)
  with_reducible refine (size_any B g h X false w1 HS1.out HX2.out).mono ?_
  rintro e w2 ⟨rfl, m2, hw2⟩
  rw [HSZ.out]
  have HA2 : Hid (Row w2 w.heap.size 25 zeroC) := Lib.hid (by rw [hw2]; exact HA1.out)
  have HB2 : Hid (Below w.heap.size w w2) := Lib.hid (by rw [hw2]; exact below_drewN HB1.out m2)
  have HS2 : Hid (Scn w2 B g h X false) := Lib.hid (by rw [hw2]; exact HS1.out.drewN m2)
  have HRW2 : Hid (Row w2 g 109 [.slice A l c, .bool false]) := Lib.hid (by rw [hw2]; exact HRW1.out)
  have hz2 : w1.heap.size = w2.heap.size := by rw [hw2]; rfl
  have cg2 : w2.cell? ⟨g, 0, none⟩ = some (.slice A l c) := HRW2.out.cell 0
  have fg2 : w2.frozen? ⟨g, 0, none⟩ = false := HRW2.out.frozen 0
  clear hw2 HA1 HB1 HZ1 HS1 HRW1 cg
  rcases hbz with hbz | hbz
  · have hbI : (z : Int) < 7 := by omega
    have z0 : w2.cell? ⟨w.heap.size, 0, none⟩ = some (.int .i64 0) := HA2.out.cell 0
    have z1 : w2.cell? ⟨w.heap.size, 1, none⟩ = some (.int .i64 0) := HA2.out.cell 1
    have z2 : w2.cell? ⟨w.heap.size, 2, none⟩ = some (.int .i64 0) := HA2.out.cell 2
    have z3 : w2.cell? ⟨w.heap.size, 3, none⟩ = some (.int .i64 0) := HA2.out.cell 3
    have z4 : w2.cell? ⟨w.heap.size, 4, none⟩ = some (.int .i64 0) := HA2.out.cell 4
    have z5 : w2.cell? ⟨w.heap.size, 5, none⟩ = some (.int .i64 0) := HA2.out.cell 5
    have z6 : w2.cell? ⟨w.heap.size, 6, none⟩ = some (.string ⟨#[]⟩) := HA2.out.cell 6
    have z7 : w2.cell? ⟨w.heap.size, 7, none⟩ = some (.string ⟨#[]⟩) := HA2.out.cell 7
    have z8 : w2.cell? ⟨w.heap.size, 8, none⟩ = some (.float .f64 0) := HA2.out.cell 8
    have z9 : w2.cell? ⟨w.heap.size, 9, none⟩ = some (.slice none 0 0) := HA2.out.cell 9
    have fzz : ∀ i, w2.frozen? ⟨w.heap.size, i, none⟩ = false := HA2.out.frozen
    have ce : w2.cell? ⟨0, 0, none⟩ = some (.iface te pe) := (HE.out.below h20 HB2.out).ef
    go_wp2_with fail
    go_region
    all_goals
      change Exit.then _ _ _ _ (rezero w2 w.heap.size).drew
      have HRz : Hid (Row (rezero w2 w.heap.size).drew w.heap.size 25 zeroC) := Lib.hid (row_drew (rezero_row HA2.out))
      have HBz : Hid (Below w.heap.size w (rezero w2 w.heap.size).drew) := Lib.hid (rezero_below HB2.out (Nat.le_refl _)).drew
      generalize (rezero w2 w.heap.size).drew = wz at *
      clear z0 z1 z2 z3 z4 z5 z6 z7 z8 z9 fzz ce
      go_wp2_with fail
      refine bodyPost_ret (v := .tuple #[.agg zeroC.toArray, .int .i64 0, .iface te pe]) (results_cell_three Tryd.results71 _ wz w.heap.size 25 zeroC _ _ _ rfl rfl rfl HRz.out under25.choose_spec rfl HLZ.out) rfl ?_
      exact ⟨rfl, HBz⟩
  · have hbI : (1024 : Int) < (z : Int) := by omega
    have hbJ : ¬ (z : Int) < 7 := by omega
    have z0 : w2.cell? ⟨w.heap.size, 0, none⟩ = some (.int .i64 0) := HA2.out.cell 0
    have z1 : w2.cell? ⟨w.heap.size, 1, none⟩ = some (.int .i64 0) := HA2.out.cell 1
    have z2 : w2.cell? ⟨w.heap.size, 2, none⟩ = some (.int .i64 0) := HA2.out.cell 2
    have z3 : w2.cell? ⟨w.heap.size, 3, none⟩ = some (.int .i64 0) := HA2.out.cell 3
    have z4 : w2.cell? ⟨w.heap.size, 4, none⟩ = some (.int .i64 0) := HA2.out.cell 4
    have z5 : w2.cell? ⟨w.heap.size, 5, none⟩ = some (.int .i64 0) := HA2.out.cell 5
    have z6 : w2.cell? ⟨w.heap.size, 6, none⟩ = some (.string ⟨#[]⟩) := HA2.out.cell 6
    have z7 : w2.cell? ⟨w.heap.size, 7, none⟩ = some (.string ⟨#[]⟩) := HA2.out.cell 7
    have z8 : w2.cell? ⟨w.heap.size, 8, none⟩ = some (.float .f64 0) := HA2.out.cell 8
    have z9 : w2.cell? ⟨w.heap.size, 9, none⟩ = some (.slice none 0 0) := HA2.out.cell 9
    have fzz : ∀ i, w2.frozen? ⟨w.heap.size, i, none⟩ = false := HA2.out.frozen
    have ce : w2.cell? ⟨0, 0, none⟩ = some (.iface te pe) := (HE.out.below h20 HB2.out).ef
    go_wp2_with fail
    go_region
    all_goals
      change Exit.then _ _ _ _ (rezero w2 w.heap.size).drew
      have HRz : Hid (Row (rezero w2 w.heap.size).drew w.heap.size 25 zeroC) := Lib.hid (row_drew (rezero_row HA2.out))
      have HBz : Hid (Below w.heap.size w (rezero w2 w.heap.size).drew) := Lib.hid (rezero_below HB2.out (Nat.le_refl _)).drew
      generalize (rezero w2 w.heap.size).drew = wz at *
      clear z0 z1 z2 z3 z4 z5 z6 z7 z8 z9 fzz ce
      go_wp2_with fail
      refine bodyPost_ret (v := .tuple #[.agg zeroC.toArray, .int .i64 0, .iface te pe]) (results_cell_three Tryd.results71 _ wz w.heap.size 25 zeroC _ _ _ rfl rfl rfl HRz.out under25.choose_spec rfl HLZ.out) rfl ?_
      exact ⟨rfl, HBz⟩

set_option maxRecDepth 100000 in
set_option maxHeartbeats 2000000 in
theorem take_part (B g : Nat) (h : Option Nat) (X : List UInt8) (E : Nat → Value) (te : TypeId) (pe : Value) (w : World) (hE : Env w E te pe) (hE5 : F.Errs w E) (hs : Scn w B g h X false) (h2 : 2 ≤ X.length) (hb : ¬ badSize X) (hlt : X.length < sizeH X) : Calls Tryd.prog 71 #[.pointer (some ⟨g, 0, none⟩)] w fun e w' => e = .returned (.tuple #[.agg zeroC.toArray, .int .i64 0, .nilIface]) ∧ Hid (Below w.heap.size w w') := by
  have HE := Lib.hid hE
  have HE5 := Lib.hid hE5
  have h20 := hE.size
  have HS := Lib.hid hs
  obtain ⟨A, c, hrow, hcl, hch, hrd, hob, hown⟩ := hs.open
  obtain ⟨l, HL⟩ : ∃ l, Hid (X.length = l) := ⟨_, rfl⟩
  rw [HL.out] at hrow hcl hob hown
  have HRW := Lib.hid hrow
  have HRD := Lib.hid hrd
  have hg := hrow.lt
  clear hE hE5 hs hrow hrd
  have HLZ : Hid ((Tryd.prog.info? 25).map (·.size) = some zeroC.length) := Lib.hid size25
  have HX2 : Hid (2 ≤ X.length) := Lib.hid h2
  obtain ⟨z, HSZ⟩ : ∃ z, H.Shut (sizeH X = z) := ⟨_, ⟨rfl⟩⟩
  have hzl : z < 65542 := by rw [← HSZ.out]; have := told_lt X; unfold sizeH; omega
  have hl2 : ¬ l < 2 := by rw [← HL.out]; omega
  have hb1 : ¬ (z : Int) < 7 := by rw [← HSZ.out]; unfold badSize at hb; omega
  have hb2 : ¬ (1024 : Int) < (z : Int) := by rw [← HSZ.out]; unfold badSize at hb; omega
  have hb3 : l < z := by rw [← HSZ.out, ← HL.out]; exact hlt
  clear hb hlt h2
  go_enter Tryd.func71, Tryd.ntmps71
  go_wp2_with (first
    | (refine wl_alloc (o := ⟨some 2, _, _, _, _, _⟩) rfl 25 rfl _ _ info25' ?_
       intro w1 HA1 HB1 HZ1
       have hz1 : w.heap.size < w1.heap.size := by rw [HZ1.out]; omega
       have HRW1 := Lib.hid (HRW.out.below HB1.out hg)
       have cg : w1.cell? ⟨g, 0, none⟩ = some (.slice A l c) := HRW1.out.cell 0)
    | (refine wl_store rfl 25 (.tmp 2) (.tmp 13) rfl w.heap.size _ zeroC rfl rfl rfl 25 _ HA1.out HLZ.out rfl zeroC_one ?_
       intro w8 HR8 HS8 HZ8))
  have HS1 := Lib.hid (HS.out.below HB1.out)
  with_reducible refine (size_any B g h X false w1 HS1.out HX2.out).mono ?_
  rintro e w2 ⟨rfl, m2, hw2⟩
  rw [HSZ.out]
  have HA2 : Hid (Row w2 w.heap.size 25 zeroC) := Lib.hid (by rw [hw2]; exact HA1.out)
  have HB2 : Hid (Below w.heap.size w w2) := Lib.hid (by rw [hw2]; exact below_drewN HB1.out m2)
  have HS2 : Hid (Scn w2 B g h X false) := Lib.hid (by rw [hw2]; exact HS1.out.drewN m2)
  have HRW2 : Hid (Row w2 g 109 [.slice A l c, .bool false]) := Lib.hid (by rw [hw2]; exact HRW1.out)
  have hz2 : w1.heap.size = w2.heap.size := by rw [hw2]; rfl
  have cg2 : w2.cell? ⟨g, 0, none⟩ = some (.slice A l c) := HRW2.out.cell 0
  have fg2 : w2.frozen? ⟨g, 0, none⟩ = false := HRW2.out.frozen 0
  clear hw2 HA1 HB1 HZ1 HS1 HRW1 cg
  go_wp2_with (first
    | (refine wl_store rfl 25 (.tmp 2) (.tmp 30) rfl w.heap.size _ zeroC rfl rfl rfl 25 _ HA2.out HLZ.out rfl zeroC_one ?_
       intro w8 HR8 HS8 HZ8))
  refine bodyPost_ret (v := .tuple #[.agg zeroC.toArray, .int .i64 0, .nilIface]) (results_cell_three Tryd.results71 _ w8 w.heap.size 25 zeroC _ _ _ rfl rfl rfl HR8.out under25.choose_spec rfl HLZ.out) rfl ?_
  exact ⟨rfl, Lib.hid (HB2.out.trans (HS8.out.below (Nat.le_refl _) HB2.out.size))⟩

set_option maxRecDepth 100000 in
set_option maxHeartbeats 2000000 in
theorem take_wrong (B g : Nat) (h : Option Nat) (X : List UInt8) (E : Nat → Value) (te : TypeId) (pe : Value) (w : World) (hE : Env w E te pe) (hE5 : F.Errs w E) (hs : Scn w B g h X false) (h2 : 2 ≤ X.length) (hb : ¬ badSize X) (hge : sizeH X ≤ X.length) (hno : getB X = none) : Calls Tryd.prog 71 #[.pointer (some ⟨g, 0, none⟩)] w fun e w' => e = .returned (.tuple #[.agg zeroC.toArray, .int .i64 0, .iface te pe]) ∧ Hid (Below w.heap.size w w') := by
  have HE := Lib.hid hE
  have HE5 := Lib.hid hE5
  have h20 := hE.size
  have HS := Lib.hid hs
  obtain ⟨A, c, hrow, hcl, hch, hrd, hob, hown⟩ := hs.open
  obtain ⟨l, HL⟩ : ∃ l, Hid (X.length = l) := ⟨_, rfl⟩
  rw [HL.out] at hrow hcl hob hown
  have HRW := Lib.hid hrow
  have HRD := Lib.hid hrd
  have hg := hrow.lt
  clear hE hE5 hs hrow hrd
  have HLZ : Hid ((Tryd.prog.info? 25).map (·.size) = some zeroC.length) := Lib.hid size25
  have HX2 : Hid (2 ≤ X.length) := Lib.hid h2
  obtain ⟨z, HSZ⟩ : ∃ z, H.Shut (sizeH X = z) := ⟨_, ⟨rfl⟩⟩
  have hzl : z < 65542 := by rw [← HSZ.out]; have := told_lt X; unfold sizeH; omega
  have hl2 : ¬ l < 2 := by rw [← HL.out]; omega
  have hb1 : ¬ (z : Int) < 7 := by rw [← HSZ.out]; unfold badSize at hb; omega
  have hb2 : ¬ (1024 : Int) < (z : Int) := by rw [← HSZ.out]; unfold badSize at hb; omega
  have hb3 : ¬ l < z := by rw [← HSZ.out, ← HL.out]; omega
  have HNO := Lib.hid hno
  clear hb hge h2 hno
  go_enter Tryd.func71, Tryd.ntmps71
  go_wp2_with (first
    | (refine wl_alloc (o := ⟨some 2, _, _, _, _, _⟩) rfl 25 rfl _ _ info25' ?_
       intro w1 HA1 HB1 HZ1
       have hz1 : w.heap.size < w1.heap.size := by rw [HZ1.out]; omega
       have HRW1 := Lib.hid (HRW.out.below HB1.out hg)
       have cg : w1.cell? ⟨g, 0, none⟩ = some (.slice A l c) := HRW1.out.cell 0)
    | (refine wl_store rfl 25 (.tmp 2) (.tmp 13) rfl w.heap.size _ zeroC rfl rfl rfl 25 _ HA1.out HLZ.out rfl zeroC_one ?_
       intro w8 HR8 HS8 HZ8))
  have HS1 := Lib.hid (HS.out.below HB1.out)
  with_reducible refine (size_any B g h X false w1 HS1.out HX2.out).mono ?_
  rintro e w2 ⟨rfl, m2, hw2⟩
  rw [HSZ.out]
  have HA2 : Hid (Row w2 w.heap.size 25 zeroC) := Lib.hid (by rw [hw2]; exact HA1.out)
  have HB2 : Hid (Below w.heap.size w w2) := Lib.hid (by rw [hw2]; exact below_drewN HB1.out m2)
  have HS2 : Hid (Scn w2 B g h X false) := Lib.hid (by rw [hw2]; exact HS1.out.drewN m2)
  have HRW2 : Hid (Row w2 g 109 [.slice A l c, .bool false]) := Lib.hid (by rw [hw2]; exact HRW1.out)
  have hz2 : w1.heap.size = w2.heap.size := by rw [hw2]; rfl
  have cg2 : w2.cell? ⟨g, 0, none⟩ = some (.slice A l c) := HRW2.out.cell 0
  have fg2 : w2.frozen? ⟨g, 0, none⟩ = false := HRW2.out.frozen 0
  clear hw2 HA1 HB1 HZ1 HS1 HRW1 cg
  have HRD2 : Hid (Rd w2 w2.heap.size A (X.map bv)) := Lib.hid ((HRD.out.below HB2.out).more HB2.out.size)
  have HE2 := Lib.hid (HE.out.below h20 HB2.out)
  have HE52 := Lib.hid (HE5.out.below h20 HB2.out)
  go_wp2_with fail
  with_reducible refine (get_none l c A X E te pe w2 HE2.out HE52.out HL.out hcl hch HRD2.out HNO.out).mono ?_
  rintro e w3 ⟨rfl, HV3⟩
  have HB3 := Lib.hid (HB2.out.trans (HV3.out.mono HB2.out.size))
  have HA3 := Lib.hid (HA2.out.below HV3.out (by omega))
  have hz3 : w2.heap.size ≤ w3.heap.size := HV3.out.size
  clear HV3 HA2 HB2 HE2 HE52 HRD2 HS2 HRW2 cg2 fg2
  go_wp2_with (first
    | (refine wl_alloc (o := ⟨some 6, _, _, _, _, _⟩) rfl 25 rfl _ _ info25' ?_
       intro w4 HA4 HB4 HZ4)
    | (refine wl_store rfl 25 (.tmp 6) (.tmp 36) rfl w3.heap.size _ zeroC rfl rfl rfl 25 _ HA4.out HLZ.out rfl zeroC_one ?_
       intro w5 HR5 HS5 HZ5))
  have hz4 : w3.heap.size < w4.heap.size := by rw [HZ4.out]; omega
  have hb35 : Below w3.heap.size w3 w5 := HB4.out.trans (HS5.out.below (Nat.le_refl _) (by omega))
  have HB5 := Lib.hid (HB3.out.trans (hb35.mono HB3.out.size))
  have HA5 := Lib.hid (HA3.out.below hb35 (by omega))
  clear HA4 HB4 HZ4 HR5 HS5 HZ5 hb35 HA3 HB3
  have z0 : w5.cell? ⟨w.heap.size, 0, none⟩ = some (.int .i64 0) := HA5.out.cell 0
  have z1 : w5.cell? ⟨w.heap.size, 1, none⟩ = some (.int .i64 0) := HA5.out.cell 1
  have z2 : w5.cell? ⟨w.heap.size, 2, none⟩ = some (.int .i64 0) := HA5.out.cell 2
  have z3 : w5.cell? ⟨w.heap.size, 3, none⟩ = some (.int .i64 0) := HA5.out.cell 3
  have z4 : w5.cell? ⟨w.heap.size, 4, none⟩ = some (.int .i64 0) := HA5.out.cell 4
  have z5 : w5.cell? ⟨w.heap.size, 5, none⟩ = some (.int .i64 0) := HA5.out.cell 5
  have z6 : w5.cell? ⟨w.heap.size, 6, none⟩ = some (.string ⟨#[]⟩) := HA5.out.cell 6
  have z7 : w5.cell? ⟨w.heap.size, 7, none⟩ = some (.string ⟨#[]⟩) := HA5.out.cell 7
  have z8 : w5.cell? ⟨w.heap.size, 8, none⟩ = some (.float .f64 0) := HA5.out.cell 8
  have z9 : w5.cell? ⟨w.heap.size, 9, none⟩ = some (.slice none 0 0) := HA5.out.cell 9
  have fzz : ∀ i, w5.frozen? ⟨w.heap.size, i, none⟩ = false := HA5.out.frozen
  have ce : w5.cell? ⟨0, 0, none⟩ = some (.iface te pe) := (HE.out.below h20 HB5.out).ef
  go_wp2_with fail
  go_region
  all_goals
    change Exit.then _ _ _ _ (rezero w5 w.heap.size).drew
    have HRz : Hid (Row (rezero w5 w.heap.size).drew w.heap.size 25 zeroC) := Lib.hid (row_drew (rezero_row HA5.out))
    have HBz : Hid (Below w.heap.size w (rezero w5 w.heap.size).drew) := Lib.hid (rezero_below HB5.out (Nat.le_refl _)).drew
    generalize (rezero w5 w.heap.size).drew = wz at *
    clear z0 z1 z2 z3 z4 z5 z6 z7 z8 z9 fzz ce
    go_wp2_with fail
    refine bodyPost_ret (v := .tuple #[.agg zeroC.toArray, .int .i64 0, .iface te pe]) (results_cell_three Tryd.results71 _ wz w.heap.size 25 zeroC _ _ _ rfl rfl rfl HRz.out under25.choose_spec rfl HLZ.out) rfl ?_
    exact ⟨rfl, HBz⟩

/-- The held slice cut to nothing. -/
theorem scn_empty {w : World} {B g l c : Nat} {h : Option Nat} {A : Option Addr} {X : List UInt8} (hs : Scn w B g h X false) (_hl : X.length = l) (hr : Row w g 109 [.slice A l c, .bool false]) (hc : c ≤ 9223372036854775807) : Scn (w.setCell ⟨g, 0, none⟩ (.slice A 0 c)) B g h [] false ∧ Sole g w (w.setCell ⟨g, 0, none⟩ (.slice A 0 c)) := by
  obtain ⟨v, h1, h2, h3⟩ := hs.at_
  have hv : v = .slice A l c := by
    have e1 := h1.cell 0
    have e2 := hr.cell 0
    rw [e1] at e2
    exact Option.some.inj e2
  subst hv
  have hown : w.ownsRow B 5 1 (.slice A 0 c) 0 (([] : List UInt8).map bv) ∧ (Value.slice A 0 c).ownBlock = h := by
    rcases h3.2 with ⟨e1, _⟩ | ⟨q, cap, cur, e1, hb, hq, _, hcm, hsz, _⟩
    · injection e1 with e1 e2 e3
      subst e1 e3
      exact ⟨⟨rfl, .inl ⟨rfl, rfl⟩⟩, by rw [← h2]; rfl⟩
    · injection e1 with e1 e2 e3
      subst e1 e3
      exact ⟨⟨rfl, .inr ⟨q, c, cur, rfl, hb, hq, Nat.zero_le _, hcm, hsz, by simp⟩⟩, by rw [← h2]; rfl⟩
  exact ⟨⟨⟨.slice A 0 c, hr.set 0 _, hown.2, ownsRow_setOther (a := ⟨g, 0, none⟩) hown.1 (fun e => hs.ne (by rw [← hown.2]; exact e.symm)) _⟩, hs.bg, hs.ne⟩, (Sole.refl g w).setCell 0 _⟩

set_option maxRecDepth 100000 in
set_option maxHeartbeats 2000000 in
theorem take_good (B g : Nat) (h : Option Nat) (X : List UInt8) (E : Nat → Value) (te : TypeId) (pe : Value) (w : World) (hE : Env w E te pe) (hE5 : F.Errs w E) (hs : Scn w B g h X false) (h2 : 2 ≤ X.length) (hb : ¬ badSize X) (hge : sizeH X ≤ X.length) (f0 : Fr) (hso : getB X = some f0) : Calls Tryd.prog 71 #[.pointer (some ⟨g, 0, none⟩)] w
    fun e w' => ∃ (f : Fr) (v : Value), e = .returned (.tuple #[v, .int .i64 (sizeH X : Int), .nilIface]) ∧ Hid (v = f.v ∧ f.pl = f0 ∧ f.ok w' w'.heap.size ∧ f.new w ∧ Scn w' B g h [] false ∧ Mv g h w w' h) := by
  have HE := Lib.hid hE
  have HE5 := Lib.hid hE5
  have h20 := hE.size
  have HS := Lib.hid hs
  obtain ⟨A, c, hrow, hcl, hch, hrd, hob, hown⟩ := hs.open
  obtain ⟨l, HL⟩ : ∃ l, Hid (X.length = l) := ⟨_, rfl⟩
  rw [HL.out] at hrow hcl hob hown
  have HRW := Lib.hid hrow
  have HRD := Lib.hid hrd
  have hg := hrow.lt
  clear hE hE5 hs hrow hrd
  have HLZ : Hid ((Tryd.prog.info? 25).map (·.size) = some zeroC.length) := Lib.hid size25
  have HX2 : Hid (2 ≤ X.length) := Lib.hid h2
  obtain ⟨z, HSZ⟩ : ∃ z, H.Shut (sizeH X = z) := ⟨_, ⟨rfl⟩⟩
  have hzl : z < 65542 := by rw [← HSZ.out]; have := told_lt X; unfold sizeH; omega
  have hl2 : ¬ l < 2 := by rw [← HL.out]; omega
  have hb1 : ¬ (z : Int) < 7 := by rw [← HSZ.out]; unfold badSize at hb; omega
  have hb2 : ¬ (1024 : Int) < (z : Int) := by rw [← HSZ.out]; unfold badSize at hb; omega
  have hb3 : ¬ l < z := by rw [← HSZ.out, ← HL.out]; omega
  have HSO := Lib.hid hso
  rw [HSZ.out]
  clear hb hge h2 hso
  go_enter Tryd.func71, Tryd.ntmps71
  go_wp2_with (first
    | (refine wl_alloc (o := ⟨some 2, _, _, _, _, _⟩) rfl 25 rfl _ _ info25' ?_
       intro w1 HA1 HB1 HZ1
       have hz1 : w.heap.size < w1.heap.size := by rw [HZ1.out]; omega
       have HRW1 := Lib.hid (HRW.out.below HB1.out hg)
       have cg : w1.cell? ⟨g, 0, none⟩ = some (.slice A l c) := HRW1.out.cell 0)
    | (refine wl_store rfl 25 (.tmp 2) (.tmp 13) rfl w.heap.size _ zeroC rfl rfl rfl 25 _ HA1.out HLZ.out rfl zeroC_one ?_
       intro w8 HR8 HS8 HZ8))
  have HS1 := Lib.hid (HS.out.below HB1.out)
  with_reducible refine (size_any B g h X false w1 HS1.out HX2.out).mono ?_
  rintro e w2 ⟨rfl, m2, hw2⟩
  rw [HSZ.out]
  have HA2 : Hid (Row w2 w.heap.size 25 zeroC) := Lib.hid (by rw [hw2]; exact HA1.out)
  have HB2 : Hid (Below w.heap.size w w2) := Lib.hid (by rw [hw2]; exact below_drewN HB1.out m2)
  have HS2 : Hid (Scn w2 B g h X false) := Lib.hid (by rw [hw2]; exact HS1.out.drewN m2)
  have HRW2 : Hid (Row w2 g 109 [.slice A l c, .bool false]) := Lib.hid (by rw [hw2]; exact HRW1.out)
  have hz2 : w1.heap.size = w2.heap.size := by rw [hw2]; rfl
  have cg2 : w2.cell? ⟨g, 0, none⟩ = some (.slice A l c) := HRW2.out.cell 0
  have fg2 : w2.frozen? ⟨g, 0, none⟩ = false := HRW2.out.frozen 0
  clear hw2 HA1 HB1 HZ1 HS1 HRW1 cg
  have HRD2 : Hid (Rd w2 w2.heap.size A (X.map bv)) := Lib.hid ((HRD.out.below HB2.out).more HB2.out.size)
  have HE2 := Lib.hid (HE.out.below h20 HB2.out)
  have HE52 := Lib.hid (HE5.out.below h20 HB2.out)
  go_wp2_with fail
  with_reducible refine (get_some l c A X E te pe w2 HE2.out HE52.out HL.out hcl hch HRD2.out f0 HSO.out).mono ?_
  rintro e w3 ⟨f, vf, rfl, HV3⟩
  have HB3 := Lib.hid (HB2.out.trans (HV3.out.2.2.2.1.mono HB2.out.size))
  have HA3 := Lib.hid (HA2.out.below HV3.out.2.2.2.1 (by omega))
  have hz3 : w2.heap.size ≤ w3.heap.size := HV3.out.2.2.2.1.size
  have HF3 := Lib.hid HV3.out.2.2.1
  have HPL := Lib.hid HV3.out.2.1
  have HNW := Lib.hid (HV3.out.2.2.2.2.old HB2.out.size)
  have HNW2 := Lib.hid HV3.out.2.2.2.2
  have HS3 := Lib.hid (HS2.out.below HV3.out.2.2.2.1)
  obtain ⟨n9, HN9⟩ : ∃ n9, H.Shut (f.bs.length = n9) := ⟨_, ⟨rfl⟩⟩
  have HVF : Hid (vf = .agg (f.cells n9).toArray) := Lib.hid (by rw [HV3.out.1, ← HN9.out]; rfl)
  have HVF2 : Hid (Value.agg (f.cells n9).toArray = f.v) := Lib.hid (by rw [← HN9.out]; rfl)
  have HLD : Hid ((Tryd.prog.info? 25).map (·.size) = some (f.cells n9).length) := Lib.hid size25
  have HRW3 := Lib.hid (HRW2.out.below HV3.out.2.2.2.1 (by omega))
  clear HV3 HA2 HB2 HE2 HE52 HRD2 HS2 HRW2 cg2 fg2
  go_wp2_with (first
    | (refine wl_alloc (o := ⟨some 6, _, _, _, _, _⟩) rfl 25 rfl _ _ info25' ?_
       intro w4 HA4 HB4 HZ4)
    | (refine wl_store rfl 25 (.tmp 6) (.tmp 36) rfl w3.heap.size _ (f.cells n9) rfl HVF.out rfl 25 _ HA4.out HLD.out rfl (cells_ok f n9) ?_
       intro w5 HR5 HS5 HZ5
       have hz4 : w3.heap.size < w4.heap.size := by rw [HZ4.out]; omega
       have hb35 : Below w3.heap.size w3 w5 := HB4.out.trans (HS5.out.below (Nat.le_refl _) (by omega))
       have HRW5 := Lib.hid (HRW3.out.below hb35 (by omega))
       have cg5 : w5.cell? ⟨g, 0, none⟩ = some (.slice A l c) := HRW5.out.cell 0
       have fg5 : w5.frozen? ⟨g, 0, none⟩ = false := HRW5.out.frozen 0
       have HS5s := Lib.hid (HS3.out.below hb35)
       have HSE := Lib.hid (scn_empty HS5s.out HL.out HRW5.out hch)
       have HR6 := Lib.hid (HSE.out.2.row HR5.out (by omega))
       have hz5 : w5.heap.size = w4.heap.size := HZ5.out
       have HB5 := Lib.hid (HB3.out.trans (hb35.mono HB3.out.size))
       have HA6 := Lib.hid (HSE.out.2.row (HA3.out.below hb35 (by omega)) (by omega))
       have HF5 := Lib.hid ((HF3.out.below hb35).more hb35.size))
    | (refine wl_load (o := ⟨some 48, _, _, _, _, _⟩) rfl 25 (.tmp 6) rfl w3.heap.size rfl 25 _ _ HR6.out under25.choose_spec rfl size25 ?_
       intro vq HVQ)
    | (refine wl_store rfl 25 (.tmp 2) (.tmp 48) rfl w.heap.size _ (f.cells n9) rfl HVQ.out rfl 25 _ HA6.out HLD.out rfl (cells_ok f n9) ?_
       intro w8 HR8 HS8 HZ8))
  refine bodyPost_ret (v := .tuple #[.agg (f.cells n9).toArray, .int .i64 (z : Int), .nilIface]) (results_cell_three Tryd.results71 _ w8 w.heap.size 25 (f.cells n9) _ _ _ rfl rfl rfl HR8.out under25.choose_spec rfl HLD.out) rfl ?_
  refine ⟨f, .agg (f.cells n9).toArray, rfl, Lib.hid ⟨HVF2.out, HPL.out, ?_, HNW.out, ?_, ?_⟩⟩
  · refine ok_keep HF5.out HNW2.out (by rw [HZ8.out]; exact HSE.out.2.size) (fun k hk1 hk2 => ?_)
    exact (HS8.out.block k (Nat.lt_of_lt_of_le hk2 HSE.out.2.size) (by omega)).trans (HSE.out.2.block k hk2 (by omega))
  · exact HSE.out.1.sole HS8.out (by omega) (fun e => by have := (HS.out.bh _ e).2; omega)
  · refine ⟨HS8.out.os.trans (HSE.out.2.os.trans HB5.out.os), HS8.out.tape.trans (HSE.out.2.tape.trans HB5.out.tape), HS8.out.output.trans (HSE.out.2.output.trans HB5.out.output), Nat.le_trans HB5.out.size (Nat.le_trans HSE.out.2.size HS8.out.size), fun k hk hkg _ => ?_, fun q e => .inl e⟩
    have hk5 : k < w5.heap.size := Nat.lt_of_lt_of_le hk HB5.out.size
    exact (HS8.out.block k (Nat.lt_of_lt_of_le hk5 HSE.out.2.size) (by omega)).trans ((HSE.out.2.block k hk5 hkg).trans (HB5.out.block k hk))
end Go.Proofs.YtmhfhdbaeijcfaaDoor
namespace Go.Proofs.YtmhfhdbaeijcfaaDoor
open Go.RowKit
open Go.Proofs.YtmhfhdbaeijcfaaDoor.H

/-- The cells of a row of frames. -/
def flatF (gs : List Fr) : List Value := gs.flatMap fun f => f.cells f.bs.length
theorem flatF_snoc (gs : List Fr) (f : Fr) : flatF (gs ++ [f]) = flatF gs ++ f.cells f.bs.length := by simp [flatF]
/-- A row of frames of our own, none older than z; where it and their bytes lie. -/
structure Fnd (W : World) (z : Nat) (h : Option Nat) (v : Value) (gs : List Fr) : Prop where
  own : W.ownsRow z 25 10 v gs.length (flatF gs)
  ok : ∀ f ∈ gs, f.ok W W.heap.size
  young : ∀ f ∈ gs, f.bs ≠ [] → ∃ q, f.ba = some ⟨q, 0, none⟩ ∧ z ≤ q ∧ h ≠ some q ∧ v.ownBlock ≠ some q
  ne : ∀ q, v.ownBlock = some q → h ≠ some q
theorem rd_lt {w : World} {B q : Nat} {bs : List UInt8} (h : Rd w B (some ⟨q, 0, none⟩) (bs.map bv)) (hb : bs ≠ []) : q < B := by
  rcases h with h | ⟨ad, h1, h2, _⟩
  · exact absurd (by simpa using h) hb
  · injection h1 with h1
    subst h1
    exact h2
theorem own_kept {w w' : World} {z : Nat} {e : TypeId} {size : Nat} {v : Value} {n : Nat} {xs : List Value} (h : w.ownsRow z e size v n xs) (hk : ∀ q, v.ownBlock = some q → w'.heap[q]? = w.heap[q]?) : w'.ownsRow z e size v n xs := by
  refine ⟨h.1, ?_⟩
  rcases h.2 with h0 | ⟨g, cap, cur, h1, hbg, h2, h3⟩
  · exact .inl h0
  · exact .inr ⟨g, cap, cur, h1, hbg, (hk g (by rw [h1]; rfl)).trans h2, h3⟩
theorem Fnd.keep {W W' : World} {z : Nat} {h h' : Option Nat} {v : Value} {gs : List Fr} (s : Fnd W z h v gs) (hsz : W.heap.size ≤ W'.heap.size) (hk : ∀ q, z ≤ q → q < W.heap.size → h ≠ some q → W'.heap[q]? = W.heap[q]?) (hl : ∀ q, h' = some q → h = some q ∨ W.heap.size ≤ q) : Fnd W' z h' v gs := by
  have hlt : ∀ q, v.ownBlock = some q → z ≤ q ∧ q < W.heap.size := fun q e => s.own.lt q e
  have hne : ∀ q, q < W.heap.size → h ≠ some q → h' ≠ some q := fun q h1 h2 e => by
    rcases hl q e with e1 | e1
    · exact h2 e1
    · omega
  refine ⟨own_kept s.own (fun q e => hk q (hlt q e).1 (hlt q e).2 (s.ne q e)), fun f hf => ?_, fun f hf hb => ?_, fun q e => hne q (hlt q e).2 (s.ne q e)⟩
  · have hok := s.ok f hf
    by_cases hb : f.bs = []
    · exact { hok with rd := .inl (by rw [hb]; rfl) }
    · obtain ⟨q, h1, h2, h3, h4⟩ := s.young f hf hb
      have hq : q < W.heap.size := by have := hok.rd; rw [h1] at this; exact rd_lt this hb
      refine { hok with rd := ?_ }
      rcases hok.rd with h5 | ⟨ad, h5, h6, h7⟩
      · exact .inl h5
      · rw [h1] at h5
        injection h5 with h5
        subst h5
        refine .inr ⟨_, h1, Nat.lt_of_lt_of_le h6 hsz, fun j u hj => ?_⟩
        rw [← h7 j u hj]
        unfold World.cell?
        rw [add_block, hk q h2 hq h3]
  · obtain ⟨q, h1, h2, h3, h4⟩ := s.young f hf hb
    have hq : q < W.heap.size := by have := (s.ok f hf).rd; rw [h1] at this; exact rd_lt this hb
    exact ⟨q, h1, h2, hne q hq h3, h4⟩
theorem Fnd.mv {W W' : World} {z g : Nat} {h h' : Option Nat} {v : Value} {gs : List Fr} (s : Fnd W z h v gs) (m : Mv g h W W' h') (hg : g < z) : Fnd W' z h' v gs :=
  s.keep m.size (fun q h1 h2 h3 => m.block q h2 (by omega) (fun e => h3 e.symm)) m.lies
theorem Fnd.below {W W' : World} {z : Nat} {h : Option Nat} {v : Value} {gs : List Fr} (s : Fnd W z h v gs) (hb : Below W.heap.size W W') : Fnd W' z h v gs :=
  s.keep hb.size (fun q _ h2 _ => hb.block q h2) (fun _ e => .inl e)
theorem Fnd.nil (W : World) (z : Nat) (h : Option Nat) : Fnd W z h (.slice none 0 0) [] :=
  ⟨⟨rfl, .inl ⟨rfl, rfl⟩⟩, by simp, by simp, fun q e => by cases e⟩
theorem frame_info : (Tryd.prog.info? 25).map (fun i => (i.zero, i.size, i.bytes)) = some (some (.agg zeroC.toArray), 10, 112) := by kernel_rfl
theorem Mv.grown {g : Nat} {h h' : Option Nat} {w W W' : World} {r : Option Nat} (m : Mv g h w W h') (hg : W.grownBy W' r) (hr : ∀ q, r = some q → w.heap.size ≤ q) : Mv g h w W' h' :=
  ⟨hg.os.trans m.os, hg.tape.trans m.tape, hg.output.trans m.output, Nat.le_trans m.size hg.size, fun k hk h1 h2 => (hg.block k (Nat.lt_of_lt_of_le hk m.size) (fun e => by have := hr k e.symm; omega)).trans (m.block k hk h1 h2), m.lies⟩
theorem Scn.grown {W W' : World} {B g : Nat} {h r : Option Nat} {X : List UInt8} {br : Bool} (s : Scn W B g h X br) (hg : W.grownBy W' r) (h1 : r ≠ some g) (h2 : ∀ q, r = some q → h ≠ some q) : Scn W' B g h X br := by
  obtain ⟨v, a1, a2, a3⟩ := s.at_
  refine ⟨⟨v, row_grown a1 hg h1, a2, own_kept a3 (fun q e => hg.block q (a3.lt q e).2 (fun e2 => h2 q e2.symm (by rw [← a2]; exact e)))⟩, s.bg, s.ne⟩
set_option maxRecDepth 100000 in
/-- A frame appended to a row of frames of our own. -/
theorem wl_frame {w : World} {ops : Array Oper} {rest : List Oper} {o : Oper} {a : Act} {Q : Exit → Act → World → Prop} (hgd : o.guard = none) (t x : Operand)
    (ho : o.op = .call { callee := .builtin .append, args := #[t, x], argTypes := #[62, 62] }) (z n : Nat) (v : Value) (cs : List Value) (f : Fr) (m q : Nat) (hs : a.eval t = v) (hx : a.eval x = .slice (some ⟨q, 0, none⟩) 1 1)
    (hq : Row w q 25 (f.cells m)) (hown : w.ownsRow z 25 10 v n cs) (hb : n + 1 ≤ 1000000000) (hz : z ≤ w.heap.size)
    (h : ∀ v' w', Hid (w'.ownsRow z 25 10 v' (n + 1) (cs ++ f.cells m) ∧ w.grownBy w' v.ownBlock ∧ (v'.ownBlock = v.ownBlock ∨ v'.ownBlock = some w.heap.size)) → wpList Tryd.prog ops Q rest (a.put o.dst v') w') : wpList Tryd.prog ops Q (o :: rest) a w := by
  refine wpList_plain hgd fun K hK => ?_
  obtain ⟨i0, hi0, hz0, hz1, hz2⟩ := info_parts' frame_info
  obtain ⟨v', w', hr, h2, h3, _, h5⟩ := run_append_own_at (P := Tryd.prog) w z 62 o.type 25 i0 _ 10 112 Tryd.underlying62 hi0 hz0 hz1 hz2 rfl (by omega) v n cs hown ⟨q, 0, none⟩ 1 1 (f.cells m) rfl
    (by
      intro j u hj
      have e : (⟨q, 0, none⟩ : Addr).add j = ⟨q, j, none⟩ := by simp [Addr.add]; omega
      rw [e, hq.cell]
      exact hj)
    (cells_ok f m) (by simp only [maxLen]; omega) (by omega) hz
  unfold Oper.wp execOp
  simp only [ho, resolve, invoke, builtin, Sem.run_bind, Sem.run_pure, Result.andThen_ok, List.map_toArray, List.map_cons, List.map_nil, hs, hx, hr]
  exact hK _ _ (h v' w' ⟨h2, h3, h5⟩)
/-- The row of frames, one frame longer. -/
theorem Fnd.snoc {W W' : World} {z n m : Nat} {h : Option Nat} {v v' : Value} {gs : List Fr} {f : Fr} (s : Fnd W z h v gs) (hn : gs.length = n) (hm : f.bs.length = m) (hf : f.ok W W.heap.size) (hy : f.bs ≠ [] → ∃ q, f.ba = some ⟨q, 0, none⟩ ∧ z ≤ q ∧ h ≠ some q ∧ v.ownBlock ≠ some q)
    (ho : W'.ownsRow z 25 10 v' (n + 1) (flatF gs ++ f.cells m)) (hg : W.grownBy W' v.ownBlock) (hl : v'.ownBlock = v.ownBlock ∨ v'.ownBlock = some W.heap.size) (hh : ∀ q, h = some q → q < W.heap.size) : Fnd W' z h v' (gs ++ [f]) := by
  have key : ∀ g : Fr, g.ok W W.heap.size → (g.bs ≠ [] → ∃ q, g.ba = some ⟨q, 0, none⟩ ∧ z ≤ q ∧ h ≠ some q ∧ v.ownBlock ≠ some q) → g.ok W' W'.heap.size ∧ (g.bs ≠ [] → ∃ q, g.ba = some ⟨q, 0, none⟩ ∧ z ≤ q ∧ h ≠ some q ∧ v'.ownBlock ≠ some q) := by
    intro g hok hyg
    by_cases hb : g.bs = []
    · exact ⟨{ hok with rd := .inl (by rw [hb]; rfl) }, fun h => absurd hb h⟩
    · obtain ⟨q, h1, h2, h3, h4⟩ := hyg hb
      have hq : q < W.heap.size := by have := hok.rd; rw [h1] at this; exact rd_lt this hb
      refine ⟨{ hok with rd := ?_ }, fun _ => ⟨q, h1, h2, h3, fun e => ?_⟩⟩
      · rcases hok.rd with h5 | ⟨ad, h5, h6, h7⟩
        · exact .inl h5
        · rw [h1] at h5
          injection h5 with h5
          subst h5
          refine .inr ⟨_, h1, Nat.lt_of_lt_of_le h6 hg.size, fun j u hj => ?_⟩
          rw [← h7 j u hj]
          unfold World.cell?
          rw [add_block, hg.block q hq (fun e => h4 e.symm)]
      · rcases hl with e1 | e1
        · exact h4 (by rw [← e1]; exact e)
        · rw [e1] at e
          injection e with e
          omega
  refine ⟨?_, fun g hgm => ?_, fun g hgm => ?_, fun q e => ?_⟩
  · rw [flatF_snoc, hm, List.length_append, hn]
    exact ho
  · rcases List.mem_append.1 hgm with hgm | hgm
    · exact (key g (s.ok g hgm) (s.young g hgm)).1
    · have : g = f := by simpa using hgm
      subst this
      exact (key g hf hy).1
  · rcases List.mem_append.1 hgm with hgm | hgm
    · exact (key g (s.ok g hgm) (s.young g hgm)).2
    · have : g = f := by simpa using hgm
      subst this
      exact (key g hf hy).2
  · rcases hl with e1 | e1
    · exact s.ne q (by rw [← e1]; exact e)
    · rw [e1] at e
      injection e with e
      intro e2
      have := hh q e2
      omega

/-! A stream at a scanner's edge. -/
theorem cut_bad {X t r : List UInt8} {fs : List Fr} {b : Bool} (h2 : 2 ≤ X.length) (hb : badSize X) (k : Cut (X ++ t) fs r b) : fs = [] ∧ r = [] ∧ b = true := by
  have := k.det (.size (X ++ t) (by rw [List.length_append]; omega) (by unfold badSize; rw [sizeH_append X t h2]; exact hb))
  exact this
theorem cut_wrong {X t r : List UInt8} {fs : List Fr} {b : Bool} (h2 : 2 ≤ X.length) (hb : ¬ badSize X) (hl : X.length = sizeH X) (hg : getB X = none) (k : Cut (X ++ t) fs r b) : fs = [] ∧ r = [] ∧ b = true := by
  have hz := sizeH_append X t h2
  exact k.det (.wrong (X ++ t) (by rw [List.length_append]; omega) (by unfold badSize; rw [hz]; exact hb) (by rw [hz, List.length_append]; omega) (by rw [hz, ← hl, List.take_append_of_le_length (Nat.le_refl _), List.take_of_length_le (Nat.le_refl _)]; exact hg))
theorem cut_frame {X t r : List UInt8} {fs : List Fr} {b : Bool} {f : Fr} (h2 : 2 ≤ X.length) (hb : ¬ badSize X) (hl : X.length = sizeH X) (hg : getB X = some f) (k : Cut (X ++ t) fs r b) : ∃ fs', fs = f :: fs' ∧ Cut t fs' r b := by
  obtain ⟨fs', r', b', k'⟩ := Cut.any t.length t (Nat.le_refl _)
  have hz := sizeH_append X t h2
  have h3 := k.det (.frame (X ++ t) f fs' r' b' (by rw [List.length_append]; omega) (by unfold badSize; rw [hz]; exact hb) (by rw [hz, List.length_append]; omega) (by rw [hz, ← hl, List.take_append_of_le_length (Nat.le_refl _), List.take_of_length_le (Nat.le_refl _)]; exact hg) (by rw [hz, ← hl, List.drop_append_of_le_length (Nat.le_refl _), List.drop_eq_nil_of_le (Nat.le_refl _), List.nil_append]; exact k'))
  obtain ⟨e1, e2, e3⟩ := h3
  subst e2 e3
  exact ⟨fs', e1, k'⟩
/-- What is held behind the next edge: a part, a wrong head, or just a frame's bytes. -/
theorem edge {X bs : List UInt8} (hi : Inc X) : (Inc (X ++ bs.take (min bs.length (miss X)))) ∨ (2 ≤ (X ++ bs.take (min bs.length (miss X))).length ∧ badSize (X ++ bs.take (min bs.length (miss X)))) ∨
    (2 ≤ (X ++ bs.take (min bs.length (miss X))).length ∧ ¬ badSize (X ++ bs.take (min bs.length (miss X))) ∧ (X ++ bs.take (min bs.length (miss X))).length = sizeH (X ++ bs.take (min bs.length (miss X)))) := by
  generalize hY : bs.take (min bs.length (miss X)) = Y
  have hYl : Y.length = min bs.length (miss X) := by rw [← hY, List.length_take]; omega
  by_cases h2 : (X ++ Y).length < 2
  · exact .inl (.inl h2)
  by_cases hb : badSize (X ++ Y)
  · exact .inr (.inl ⟨by omega, hb⟩)
  by_cases hl : (X ++ Y).length < sizeH (X ++ Y)
  · exact .inl (.inr ⟨hb, hl⟩)
  refine .inr (.inr ⟨by omega, hb, ?_⟩)
  rw [List.length_append] at hl ⊢
  unfold miss at hYl
  by_cases hx : X.length < 2
  · rw [if_pos hx] at hYl
    unfold badSize at hb
    omega
  · rw [if_neg hx] at hYl
    rw [sizeH_append X Y (by omega)] at hl ⊢
    rcases hi with hi | hi <;> omega
end Go.Proofs.YtmhfhdbaeijcfaaDoor
namespace Go.Proofs.YtmhfhdbaeijcfaaDoor
open Go.RowKit
open Go.Proofs.YtmhfhdbaeijcfaaDoor.H

theorem take_none (B g : Nat) (h : Option Nat) (X : List UInt8) (E : Nat → Value) (te : TypeId) (pe : Value) (w : World) (hE : Env w E te pe) (hE5 : F.Errs w E) (hs : Scn w B g h X false) (hi : Inc X) :
    Calls Tryd.prog 71 #[.pointer (some ⟨g, 0, none⟩)] w fun e w' => e = .returned (.tuple #[.agg zeroC.toArray, .int .i64 0, .nilIface]) ∧ Hid (Below w.heap.size w w') := by
  by_cases h2 : X.length < 2
  · exact take_short B g h X E te pe w hE hE5 hs h2
  · rcases hi with hi | hi
    · exact absurd hi h2
    · exact take_part B g h X E te pe w hE hE5 hs (by omega) hi.1 hi.2
theorem take_err (B g : Nat) (h : Option Nat) (X : List UInt8) (E : Nat → Value) (te : TypeId) (pe : Value) (w : World) (hE : Env w E te pe) (hE5 : F.Errs w E) (hs : Scn w B g h X false) (h2 : 2 ≤ X.length) (hb : badSize X ∨ (¬ badSize X ∧ X.length = sizeH X ∧ getB X = none)) :
    Calls Tryd.prog 71 #[.pointer (some ⟨g, 0, none⟩)] w fun e w' => e = .returned (.tuple #[.agg zeroC.toArray, .int .i64 0, .iface te pe]) ∧ Hid (Below w.heap.size w w') := by
  rcases hb with hb | ⟨hb, hl, hg⟩
  · exact take_size B g h X E te pe w hE hE5 hs h2 hb
  · exact take_wrong B g h X E te pe w hE hE5 hs h2 hb (by omega) hg
def lenV : Value → Nat
  | .slice _ m _ => m
  | _ => 0
def errV (te : TypeId) (pe : Value) (bad : Bool) : Value := if bad = true then .iface te pe else .nilIface
theorem rd_lt' {w : World} {B : Nat} {ad : Addr} {bs : List UInt8} (h : Rd w B (some ad) (bs.map bv)) (hb : bs ≠ []) : ad.block < B := by
  rcases h with h | ⟨ad', h1, h2, _⟩
  · exact absurd (by simpa using h) hb
  · injection h1 with h1
    rw [h1]
    exact h2
theorem Off.grown {W W' : World} {g : Nat} {h : Option Nat} {A : Option Addr} {bs : List UInt8} {r : Option Nat} (o : Off W g h A bs) (hg : W.grownBy W' r) (hr : bs ≠ [] → ∀ ad, A = some ad → some ad.block ≠ r) : Off W' g h A bs := by
  refine ⟨?_, o.ne⟩
  rcases o.rd with h0 | ⟨ad, h1, h2, h3⟩
  · exact .inl h0
  · by_cases hb : bs = []
    · exact .inl (by rw [hb]; rfl)
    · refine .inr ⟨ad, h1, Nat.lt_of_lt_of_le h2 hg.size, fun j u hj => ?_⟩
      rw [← h3 j u hj]
      unfold World.cell?
      rw [add_block, hg.block _ h2 (hr hb ad h1)]
/-- A scanner that breaks. -/
theorem scn_break {w : World} {B g : Nat} {h : Option Nat} {X : List UInt8} (hs : Scn w B g h X false) : Scn ((w.setCell ⟨g, 0, none⟩ (.slice none 0 0)).setCell ⟨g, 1, none⟩ (.bool true)) B g none [] true ∧ Mv g h w ((w.setCell ⟨g, 0, none⟩ (.slice none 0 0)).setCell ⟨g, 1, none⟩ (.bool true)) none := by
  obtain ⟨v, h1, _, _⟩ := hs.at_
  refine ⟨⟨⟨.slice none 0 0, (h1.set 0 _).set 1 _, rfl, ⟨rfl, .inl ⟨rfl, rfl⟩⟩⟩, hs.bg, fun e => by cases e⟩, ?_⟩
  have s := ((Sole.refl g w).setCell 0 (.slice none 0 0)).setCell 1 (.bool true)
  exact ⟨s.os, s.tape, s.output, s.size, fun k hk hg _ => s.block k hk hg, fun q e => by cases e⟩

set_option maxRecDepth 100000 in
set_option maxHeartbeats 4000000 in
theorem feed_any (B g n c : Nat) (h : Option Nat) (X bs : List UInt8) (A : Option Addr) (E : Nat → Value) (te : TypeId) (pe : Value) (w : World) (hE : Env w E te pe) (hE5 : F.Errs w E) (h20B : 20 ≤ B) (hs : Scn w B g h X false) (hi : Inc X) (hn : bs.length = n) (hc : n ≤ c) (hcm : c ≤ 9223372036854775807) (hbig : n ≤ 1000000000) (ho : Off w g h A bs) (fs : List Fr) (r : List UInt8) (bad : Bool) (hcut : Cut (X ++ bs) fs r bad) :
    Calls Tryd.prog 55 #[.pointer (some ⟨g, 0, none⟩), .slice A n c] w fun e w' => ∃ (gs : List Fr) (v : Value) (h' : Option Nat), e = .returned (.tuple #[v, .int .i64 (bytesOf fs : Int), errV te pe bad]) ∧ Hid (Fnd w' w.heap.size h' v gs ∧ gs.map Fr.pl = fs ∧ Scn w' B g h' r bad ∧ Mv g h w w' h') := by
  have HE := Lib.hid hE
  have HE5 := Lib.hid hE5
  have HS := Lib.hid hs
  have HI := Lib.hid hi
  have HN := Lib.hid hn
  have HO := Lib.hid ho
  have HCU := Lib.hid hcut
  have hg := hs.glt
  have hBg := hs.bg
  have HLE : Hid (bytesOf fs ≤ 1000065542 ∧ fs.length ≤ 200000000) := Lib.hid (by
    have h1 := hcut.sum_le
    have h2 : X.length ≤ 65541 := by
      rcases hi with hi | hi
      · omega
      · have := told_lt X; unfold sizeH at hi; omega
    rw [List.length_append] at h1
    omega)
  have cb : w.cell? ⟨g, 1, none⟩ = some (.bool false) := by
    obtain ⟨v, h1, _⟩ := hs.at_
    exact h1.cell 1
  clear hE hE5 hs hi hn ho hcut
  have HLZ : Hid ((Tryd.prog.info? 25).map (·.size) = some zeroC.length) := Lib.hid size25
  go_enter Tryd.func55, Tryd.ntmps55
  go_wp2_with fail
  go_loopw [1, 7, 8] (fun b1 v7 t8 W => ∃ (bs' X' : List UInt8) (A' : Option Addr) (n' c' : Nat) (gs fs' : List Fr) (h' : Option Nat), b1 = .slice A' n' c' ∧ t8 = .int .i64 (bytesOf (gs.map Fr.pl) : Int) ∧ n' ≤ n ∧ H.Shut (bs'.length = n' ∧ n' ≤ c' ∧ c' ≤ 9223372036854775807 ∧ Off W g h' A' bs' ∧ Scn W B g h' X' false ∧ Inc X' ∧ Mv g h w W h' ∧ Cut (X' ++ bs') fs' r bad ∧ fs = gs.map Fr.pl ++ fs' ∧ Fnd W w.heap.size h' v7 gs ∧ (bs' ≠ [] → ∀ ad, A' = some ad → ad.block < w.heap.size))) (fun b1 _ _ _ => lenV b1)
  case atStart => exact ⟨bs, X, A, n, c, [], fs, h, rfl, rfl, Nat.le_refl _, ⟨HN.out, hc, hcm, HO.out, HS.out, HI.out, Mv.refl _ _ _, HCU.out, rfl, Fnd.nil _ _ _, fun hb ad e => by have := HO.out.rd; rw [e] at this; exact rd_lt' this hb⟩⟩
  case round =>
    obtain ⟨bs', X', A', n', c', gs, fs', h', rfl, rfl, hnn, HR⟩ := hrel
    have HBW : Hid (Below B w wr) := Lib.hid (HR.out.2.2.2.2.2.2.1.below (by omega) hBg (fun q e => (HS.out.bh q e).1))
    have HEr := Lib.hid (HE.out.below h20B HBW.out)
    have HE5r := Lib.hid (HE5.out.below h20B HBW.out)
    have hszr : w.heap.size ≤ wr.heap.size := HR.out.2.2.2.2.2.2.1.size
    have hgb : bytesOf (gs.map Fr.pl) ≤ 1000065542 ∧ gs.length ≤ 200000000 := by
      have h1 := HLE.out
      rw [HR.out.2.2.2.2.2.2.2.2.1, List.length_append, List.length_map] at h1
      have h2 : bytesOf (gs.map Fr.pl ++ fs') = bytesOf (gs.map Fr.pl) + bytesOf fs' := by unfold bytesOf; rw [List.map_append, List.sum_append]
      omega
    by_cases hn0 : n' = 0
    · subst hn0
      have HFIN : Hid (fs = gs.map Fr.pl ∧ r = X' ∧ bad = false) := Lib.hid (by
        have hb0 : bs' = [] := List.eq_nil_of_length_eq_zero HR.out.1
        have hk := HR.out.2.2.2.2.2.2.2.1
        rw [hb0, List.append_nil] at hk
        obtain ⟨e1, e2, e3⟩ := hk.inc HR.out.2.2.2.2.2.1
        refine ⟨?_, e2, e3⟩
        rw [HR.out.2.2.2.2.2.2.2.2.1, e1, List.append_nil])
      go_wp2_with fail
      go_ret3
      obtain ⟨e1, e2, e3⟩ := HFIN.out
      refine ⟨gs, u7, h', by rw [e1, e3]; rfl, Lib.hid ⟨HR.out.2.2.2.2.2.2.2.2.2.1, e1.symm, ?_, HR.out.2.2.2.2.2.2.1⟩⟩
      rw [e2, e3]
      exact HR.out.2.2.2.2.1
    · have hnp : 0 < n' := by omega
      have hnI : (0 : Int) < (n' : Int) := by omega
      go_wp2_with fail
      with_reducible refine (put_any B g n' c' h' X' bs' A' wr HR.out.2.2.2.2.1 HR.out.2.2.2.2.2.1 HR.out.1 hnp HR.out.2.1 HR.out.2.2.1 HR.out.2.2.2.1).mono ?_
      rintro e w1 ⟨h1, A1, c1, rfl, HV1⟩
      obtain ⟨k, HK⟩ : ∃ k, H.Shut (min n' (miss X') = k) := ⟨_, ⟨rfl⟩⟩
      have hk0 : 0 < k := by rw [← HK.out]; have := miss_pos HR.out.2.2.2.2.2.1; omega
      have hkn : k ≤ n' := by rw [← HK.out]; exact Nat.min_le_left _ _
      rw [HK.out]
      have HED := Lib.hid (edge (bs := bs') HR.out.2.2.2.2.2.1)
      have HD : H.Shut (min bs'.length (miss X') = k) := ⟨by rw [HR.out.1, HK.out]⟩
      rw [HD.out] at HED
      rw [HK.out] at HV1
      obtain ⟨X1, HX1⟩ : ∃ X1, H.Shut (X' ++ bs'.take k = X1) := ⟨_, ⟨rfl⟩⟩
      have HCT : Hid (Cut (X1 ++ bs'.drop k) fs' r bad) := Lib.hid (by rw [← HX1.out, List.append_assoc, List.take_append_drop]; exact HR.out.2.2.2.2.2.2.2.1)
      rw [HX1.out] at HV1 HED
      have HS1 := Lib.hid HV1.out.1
      have HM1 := Lib.hid (HR.out.2.2.2.2.2.2.1.trans HV1.out.2.1)
      have HO1 := Lib.hid HV1.out.2.2.2.2.1
      have HAB : Hid (bs'.drop k ≠ [] → ∀ ad, A1 = some ad → ad.block < w.heap.size) := Lib.hid (fun hb ad e => by
        obtain ⟨a0, e0, eb⟩ := HV1.out.2.2.2.2.2 ad e
        rw [eb]
        exact HR.out.2.2.2.2.2.2.2.2.2.2 (fun e => hb (by rw [e]; simp)) a0 e0)
      have HC1 := Lib.hid (And.intro HV1.out.2.2.1 HV1.out.2.2.2.1)
      have HF1 := Lib.hid (HR.out.2.2.2.2.2.2.2.2.2.1.mv HV1.out.2.1 hg)
      have HFS := Lib.hid HR.out.2.2.2.2.2.2.2.2.1
      have HLN : Hid ((bs'.drop k).length = n' - k) := Lib.hid (by rw [List.length_drop, HR.out.1])
      have HB1 : Hid (Below B w w1) := Lib.hid (HM1.out.below (by omega) hBg (fun q e => (HS.out.bh q e).1))
      have HE1 := Lib.hid (HE.out.below h20B HB1.out)
      have HE51 := Lib.hid (HE5.out.below h20B HB1.out)
      have hsz1 : w.heap.size ≤ w1.heap.size := HM1.out.size
      clear HV1 HR HEr HE5r HBW
      rcases HED.out with hinc | hbad | hful
      · have HIN := Lib.hid hinc
        clear HED hinc
        go_wp2_with fail
        with_reducible refine (take_none B g h1 X1 E te pe w1 HE1.out HE51.out HS1.out HIN.out).mono ?_
        rintro e w2 ⟨rfl, HV2⟩
        have hsz2 : w1.heap.size ≤ w2.heap.size := HV2.out.size
        go_wp2_with (first
          | (refine wl_alloc rfl 25 rfl _ _ info25' ?_
             intro w3 HA3 HB3 HZ3)
          | (refine wl_store rfl 25 (.tmp 9) (.tmp 30) rfl w2.heap.size _ zeroC rfl rfl rfl 25 _ HA3.out HLZ.out rfl zeroC_one ?_
             intro w4 HR4 HS4 HZ4
             have hz3 : w2.heap.size < w3.heap.size := by rw [HZ3.out]; omega
             have hb14 : Below w1.heap.size w1 w4 := HV2.out.trans ((HB3.out.trans (HS4.out.below (Nat.le_refl _) (by omega))).mono hsz2)))
        have HB14 := Lib.hid hb14
        clear hb14 HV2 HA3 HB3 HZ3 HR4 HS4 HZ4
        go_wp2_with fail
        refine ⟨⟨bs'.drop k, X1, A1, n' - k, c1, gs, fs', h1, rfl, rfl, by omega, ⟨HLN.out, HC1.out.1, HC1.out.2, ?_, HS1.out.below HB14.out, HIN.out, HM1.out.trans (.of_below HB14.out), HCT.out, HFS.out, HF1.out.below HB14.out, HAB.out⟩⟩, by simp [lenV]; omega⟩
        exact HO1.out.mv (.of_below HB14.out)
      · have HBD : Hid (2 ≤ X1.length ∧ (badSize X1 ∨ (¬ badSize X1 ∧ X1.length = sizeH X1 ∧ getB X1 = none))) := Lib.hid ⟨hbad.1, .inl hbad.2⟩
        have HEN : Hid (fs' = [] ∧ r = [] ∧ bad = true) := Lib.hid (cut_bad hbad.1 hbad.2 HCT.out)
        clear HED hbad
        go_wp2_with fail
        with_reducible refine (take_err B g h1 X1 E te pe w1 HE1.out HE51.out HS1.out HBD.out.1 HBD.out.2).mono ?_
        rintro e w2 ⟨rfl, HV2⟩
        have hsz2 : w1.heap.size ≤ w2.heap.size := HV2.out.size
        go_wp2_with (first
          | (refine wl_alloc rfl 25 rfl _ _ info25' ?_
             intro w3 HA3 HB3 HZ3)
          | (refine wl_store rfl 25 (.tmp 9) (.tmp 30) rfl w2.heap.size _ zeroC rfl rfl rfl 25 _ HA3.out HLZ.out rfl zeroC_one ?_
             intro w4 HR4 HS4 HZ4
             have hz3 : w2.heap.size < w3.heap.size := by rw [HZ3.out]; omega
             have HB14 : Hid (Below w1.heap.size w1 w4) := Lib.hid (HV2.out.trans ((HB3.out.trans (HS4.out.below (Nat.le_refl _) (by omega))).mono hsz2))
             have HS4s := Lib.hid (HS1.out.below HB14.out)
             have HF4 := Lib.hid (HF1.out.below HB14.out)
             obtain ⟨vh, hrow, _, _⟩ := HS4s.out.at_
             have q0 : w4.cell? ⟨g, 0, none⟩ = some vh := hrow.cell 0
             have q1 : w4.cell? ⟨g, 1, none⟩ = some (.bool false) := hrow.cell 1
             have qf : ∀ i, w4.frozen? ⟨g, i, none⟩ = false := hrow.frozen
             have HSB := Lib.hid (scn_break HS4s.out)
             have HMB := Lib.hid ((HM1.out.trans (.of_below HB14.out)).trans HSB.out.2)
             have HFB := Lib.hid (HF4.out.mv HSB.out.2 hg)
             have HS5 := Lib.hid HSB.out.1))
        clear HSB HF4 HS4s HB14 HV2 HA3 HB3 HZ3 HR4 HS4 HZ4
        generalize (w4.setCell ⟨g, 0, none⟩ (.slice none 0 0)).setCell ⟨g, 1, none⟩ (.bool true) = w5 at *
        clear q0 q1 qf hrow
        go_wp2_with fail
        go_ret3
        obtain ⟨e1, e2, e3⟩ := HEN.out
        have e4 : fs = gs.map Fr.pl := by rw [HFS.out, e1, List.append_nil]
        refine ⟨gs, u7, none, by rw [e4, e3]; rfl, Lib.hid ⟨HFB.out, e4.symm, by rw [e2, e3]; exact HS5.out, HMB.out⟩⟩
      · cases hgb0 : getB X1 with
        | none =>
          have HBD : Hid (2 ≤ X1.length ∧ (badSize X1 ∨ (¬ badSize X1 ∧ X1.length = sizeH X1 ∧ getB X1 = none))) := Lib.hid ⟨hful.1, .inr ⟨hful.2.1, hful.2.2, hgb0⟩⟩
          have HEN : Hid (fs' = [] ∧ r = [] ∧ bad = true) := Lib.hid (cut_wrong hful.1 hful.2.1 hful.2.2 hgb0 HCT.out)
          clear HED hful hgb0
          go_wp2_with fail
          with_reducible refine (take_err B g h1 X1 E te pe w1 HE1.out HE51.out HS1.out HBD.out.1 HBD.out.2).mono ?_
          rintro e w2 ⟨rfl, HV2⟩
          have hsz2 : w1.heap.size ≤ w2.heap.size := HV2.out.size
          go_wp2_with (first
            | (refine wl_alloc rfl 25 rfl _ _ info25' ?_
               intro w3 HA3 HB3 HZ3)
            | (refine wl_store rfl 25 (.tmp 9) (.tmp 30) rfl w2.heap.size _ zeroC rfl rfl rfl 25 _ HA3.out HLZ.out rfl zeroC_one ?_
               intro w4 HR4 HS4 HZ4
               have hz3 : w2.heap.size < w3.heap.size := by rw [HZ3.out]; omega
               have HB14 : Hid (Below w1.heap.size w1 w4) := Lib.hid (HV2.out.trans ((HB3.out.trans (HS4.out.below (Nat.le_refl _) (by omega))).mono hsz2))
               have HS4s := Lib.hid (HS1.out.below HB14.out)
               have HF4 := Lib.hid (HF1.out.below HB14.out)
               obtain ⟨vh, hrow, _, _⟩ := HS4s.out.at_
               have q0 : w4.cell? ⟨g, 0, none⟩ = some vh := hrow.cell 0
               have q1 : w4.cell? ⟨g, 1, none⟩ = some (.bool false) := hrow.cell 1
               have qf : ∀ i, w4.frozen? ⟨g, i, none⟩ = false := hrow.frozen
               have HSB := Lib.hid (scn_break HS4s.out)
               have HMB := Lib.hid ((HM1.out.trans (.of_below HB14.out)).trans HSB.out.2)
               have HFB := Lib.hid (HF4.out.mv HSB.out.2 hg)
               have HS5 := Lib.hid HSB.out.1))
          clear HSB HF4 HS4s HB14 HV2 HA3 HB3 HZ3 HR4 HS4 HZ4
          generalize (w4.setCell ⟨g, 0, none⟩ (.slice none 0 0)).setCell ⟨g, 1, none⟩ (.bool true) = w5 at *
          clear q0 q1 qf hrow
          go_wp2_with fail
          go_ret3
          obtain ⟨e1, e2, e3⟩ := HEN.out
          have e4 : fs = gs.map Fr.pl := by rw [HFS.out, e1, List.append_nil]
          refine ⟨gs, u7, none, by rw [e4, e3]; rfl, Lib.hid ⟨HFB.out, e4.symm, by rw [e2, e3]; exact HS5.out, HMB.out⟩⟩
        | some f0 =>
          have HGB := Lib.hid hgb0
          have HFU := Lib.hid hful
          obtain ⟨fs2, HF2⟩ : ∃ fs2, H.Shut (fs' = f0 :: fs2 ∧ Cut (bs'.drop k) fs2 r bad) := by
            obtain ⟨fs2, a1, a2⟩ := cut_frame hful.1 hful.2.1 hful.2.2 hgb0 HCT.out
            exact ⟨fs2, ⟨a1, a2⟩⟩
          have HPL0 : Hid ((putB f0).length = sizeH X1) := Lib.hid (by rw [getB_len hgb0, hful.2.2])
          have hzx : 7 ≤ sizeH X1 ∧ sizeH X1 ≤ 1024 := by have := hful.2.1; unfold badSize at this; omega
          obtain ⟨z1, HZ1⟩ : ∃ z1, H.Shut (sizeH X1 = z1) := ⟨_, ⟨rfl⟩⟩
          rw [HZ1.out] at hzx HPL0
          clear HED hful hgb0
          go_wp2_with fail
          with_reducible refine (take_good B g h1 X1 E te pe w1 HE1.out HE51.out HS1.out HFU.out.1 HFU.out.2.1 (Nat.le_of_eq HFU.out.2.2.symm) f0 HGB.out).mono ?_
          rintro e w2 ⟨f, vf, rfl, HV2⟩
          rw [HZ1.out]
          have HM2 := Lib.hid (HM1.out.trans HV2.out.2.2.2.2.2)
          have HF2w := Lib.hid (HF1.out.mv HV2.out.2.2.2.2.2 hg)
          have HO2 := Lib.hid (HO1.out.mv HV2.out.2.2.2.2.2)
          have HS2 := Lib.hid HV2.out.2.2.2.2.1
          have HFO2 := Lib.hid HV2.out.2.2.1
          have HPL := Lib.hid HV2.out.2.1
          have HNW := Lib.hid HV2.out.2.2.2.1
          have hsz2 : w1.heap.size ≤ w2.heap.size := HV2.out.2.2.2.2.2.size
          obtain ⟨n9, HN9⟩ : ∃ n9, H.Shut (f.bs.length = n9) := ⟨_, ⟨rfl⟩⟩
          have HVF : Hid (vf = .agg (f.cells n9).toArray) := Lib.hid (by rw [HV2.out.1, ← HN9.out]; rfl)
          have HLD : Hid ((Tryd.prog.info? 25).map (·.size) = some (f.cells n9).length) := Lib.hid size25
          have hzp : (0 : Int) < (z1 : Int) := by omega
          clear HV2
          go_wp2_with (first
            | (refine wl_alloc rfl 25 rfl _ _ info25' ?_
               intro w3 HA3 HB3 HZ3)
            | (refine wl_store rfl 25 (.tmp 9) (.tmp 30) rfl w2.heap.size _ (f.cells n9) rfl HVF.out rfl 25 _ HA3.out HLD.out rfl (cells_ok f n9) ?_
               intro w4 HR4 HS4 HZ4
               have hz3 : w2.heap.size < w3.heap.size := by rw [HZ3.out]; omega
               have HB24 : Hid (Below w2.heap.size w2 w4) := Lib.hid (HB3.out.trans (HS4.out.below (Nat.le_refl _) (by omega))))
            | (refine wl_load rfl 25 (.tmp 9) rfl w2.heap.size rfl 25 _ _ HR4.out under25.choose_spec rfl size25 ?_
               intro vq HVQ
               obtain rfl : vq = .agg #[.int .i64 f.kind, .int .i64 f.seq, .int .i64 f.got, .int .i64 f.stream, .int .i64 f.amount, .int .i64 f.code, .string f.who, .string f.name, .float .f64 f.weight, .slice f.ba n9 f.bc] := HVQ.out
               have HF4 := Lib.hid (HF2w.out.below HB24.out)
               have HFA := Lib.hid (HF4.out.below (below_alloc w4 (.cells (f.cells n9).toArray 25)))
               have HRQ : Hid (Row (w4.alloc (.cells (f.cells n9).toArray 25)) w4.heap.size 25 (f.cells n9)) := Lib.hid (Row.new w4 (f.cells n9) 25)
               have hsz4 : w.heap.size ≤ (w4.alloc (.cells (f.cells n9).toArray 25)).heap.size := Nat.le_trans (Nat.le_trans hsz1 (Nat.le_trans hsz2 HB24.out.size)) (by simp))
            | (refine wl_frame rfl (.tmp 46) (.tmp 48) rfl w.heap.size gs.length u7 (flatF gs) f n9 w4.heap.size rfl rfl HRQ.out HFA.out.own (by omega) hsz4 ?_
               intro v5 w5 HA5))
          have HBA : Hid (Below w2.heap.size w2 (w4.alloc (.cells (f.cells n9).toArray 25))) := Lib.hid (HB24.out.alloc HB24.out.size _)
          replace HA5 : Hid (w5.ownsRow w.heap.size 25 10 v5 (gs.length + 1) (flatF gs ++ f.cells n9) ∧ (w4.alloc (.cells (f.cells n9).toArray 25)).grownBy w5 u7.ownBlock ∧ (v5.ownBlock = u7.ownBlock ∨ v5.ownBlock = some (w4.alloc (.cells (f.cells n9).toArray 25)).heap.size)) := HA5
          generalize w4.alloc (.cells (f.cells n9).toArray 25) = wa at *
          have hu7 : ∀ q, u7.ownBlock = some q → w.heap.size ≤ q ∧ q < w1.heap.size := fun q e => HF1.out.own.lt q e
          have HYG : Hid (f.bs ≠ [] → ∃ q, f.ba = some ⟨q, 0, none⟩ ∧ w.heap.size ≤ q ∧ h1 ≠ some q ∧ u7.ownBlock ≠ some q) := Lib.hid (fun hb => by
            obtain ⟨q, e1, e2⟩ := HNW.out hb
            exact ⟨q, e1, by omega, fun e => by have := (HS1.out.bh q e).2; omega, fun e => by have := (hu7 q e).2; omega⟩)
          have HF5 := Lib.hid (HFA.out.snoc rfl HN9.out ((HFO2.out.below HBA.out).more HBA.out.size) HYG.out HA5.out.1 HA5.out.2.1 HA5.out.2.2 (fun q e => by have := (HS1.out.bh q e).2; have := HBA.out.size; omega))
          have HS5 := Lib.hid ((HS2.out.below HBA.out).grown HA5.out.2.1 (fun e => by have := (hu7 g e).1; omega) (fun q e => HFA.out.ne q e))
          have HM5 := Lib.hid ((HM2.out.trans (.of_below HBA.out)).grown HA5.out.2.1 (fun q e => (hu7 q e).1))
          have HO5 := Lib.hid ((HO2.out.mv (.of_below HBA.out)).grown HA5.out.2.1 (fun hb ad e e2 => by have := HAB.out hb ad e; have := (hu7 _ e2.symm).1; omega))
          have HTT : H.Shut (bytesOf ((gs ++ [f]).map Fr.pl) = bytesOf (gs.map Fr.pl) + z1) := ⟨by rw [List.map_append, List.map_cons, List.map_nil, bytesOf_snoc, HPL.out, HPL0.out]⟩
          have HFS2 : H.Shut (fs = (gs ++ [f]).map Fr.pl ++ fs2) := ⟨by rw [HFS.out, HF2.out.1, List.map_append, List.map_cons, List.map_nil, HPL.out]; simp⟩
          have hwr : IntKind.i64.wrap ((bytesOf (gs.map Fr.pl) : Int) + (z1 : Int)) = (bytesOf (gs.map Fr.pl) : Int) + (z1 : Int) := by rw [IntKind.wrap_i64]; omega
          clear HA5 HFA HRQ HBA HYG hu7 HVQ HR4 HS4 HZ4 HA3 HB3 HZ3 HB24 HF4
          go_wp2_with fail
          refine ⟨⟨bs'.drop k, [], A1, n' - k, c1, gs ++ [f], fs2, h1, rfl, ?_, by omega, ⟨HLN.out, HC1.out.1, HC1.out.2, HO5.out, HS5.out, .inl (by simp), HM5.out, HF2.out.2, HFS2.out, HF5.out, HAB.out⟩⟩, by simp [lenV]; omega⟩
          rw [HTT.out]
          first | rfl | (congr 1; omega) | go_num
end Go.Proofs.YtmhfhdbaeijcfaaDoor
namespace Go.Proofs.YtmhfhdbaeijcfaaDoor
open Go.RowKit
open Go.Proofs.YtmhfhdbaeijcfaaDoor.H

theorem scn_new (w : World) : Scn (w.alloc (.cells #[.slice none 0 0, .bool false] 109)) w.heap.size w.heap.size none [] false :=
  ⟨⟨.slice none 0 0, Row.new w [.slice none 0 0, .bool false] 109, rfl, ⟨rfl, .inl ⟨rfl, rfl⟩⟩⟩, Nat.le_refl _, fun e => by cases e⟩
set_option maxRecDepth 100000 in
theorem snew_any (w : World) : Calls Tryd.prog 30 #[] w fun e w' => e = .returned (.pointer (some ⟨w.heap.size, 0, none⟩)) ∧ Hid (Scn w' w.heap.size w.heap.size none [] false ∧ Below w.heap.size w w' ∧ w'.heap.size = w.heap.size + 1) := by
  go_enter Tryd.func30, Tryd.ntmps30
  go_wp2_with fail
  go_ret
  exact ⟨rfl, Lib.hid ⟨scn_new w, below_alloc w _, by simp⟩⟩
set_option maxRecDepth 100000 in
theorem broken_any (B g : Nat) (h : Option Nat) (X : List UInt8) (br : Bool) (w : World) (hs : Scn w B g h X br) : Calls Tryd.prog 32 #[.pointer (some ⟨g, 0, none⟩)] w fun e w' => e = .returned (.bool br) ∧ w = w' := by
  obtain ⟨v, h1, _⟩ := hs.at_
  have c1 : w.cell? ⟨g, 1, none⟩ = some (.bool br) := h1.cell 1
  clear h1 hs
  go_enter Tryd.func32, Tryd.ntmps32
  go_wp2_with fail
  go_ret
  exact ⟨rfl, rfl⟩
set_option maxRecDepth 100000 in
theorem held_any (B g : Nat) (h : Option Nat) (X : List UInt8) (br : Bool) (w : World) (hs : Scn w B g h X br) : Calls Tryd.prog 33 #[.pointer (some ⟨g, 0, none⟩)] w fun e w' => e = .returned (.int .i64 (X.length : Int)) ∧ w = w' := by
  obtain ⟨A, c, h1, hc, hcm, _⟩ := hs.open
  have c1 : w.cell? ⟨g, 0, none⟩ = some (.slice A X.length c) := h1.cell 0
  have hl : X.length ≤ 9223372036854775807 := Nat.le_trans hc hcm
  generalize X.length = n at *
  clear h1 hs
  go_enter Tryd.func33, Tryd.ntmps33
  go_wp2_with fail
  go_ret
  exact ⟨rfl, rfl⟩
/-- Feed of a whole scanner. -/
theorem feedx_any (B g n c : Nat) (h : Option Nat) (X bs : List UInt8) (A : Option Addr) (E : Nat → Value) (te : TypeId) (pe : Value) (w : World) (hE : Env w E te pe) (hE5 : F.Errs w E) (h20B : 20 ≤ B) (hs : Scn w B g h X false) (hi : Inc X) (hn : bs.length = n) (hc : n ≤ c) (hcm : c ≤ 9223372036854775807) (hbig : n ≤ 1000000000) (ho : Off w g h A bs) (fs : List Fr) (r : List UInt8) (bad : Bool) (hcut : Cut (X ++ bs) fs r bad) :
    Calls Tryd.prog 31 #[.pointer (some ⟨g, 0, none⟩), .slice A n c] w fun e w' => ∃ (gs : List Fr) (v : Value) (h' : Option Nat), e = .returned (.tuple #[v, errV te pe bad]) ∧ Hid (Fnd w' w.heap.size h' v gs ∧ gs.map Fr.pl = fs ∧ Scn w' B g h' r bad ∧ Mv g h w w' h') := by
  have HC := Lib.hid (feed_any B g n c h X bs A E te pe w hE hE5 h20B hs hi hn hc hcm hbig ho fs r bad hcut)
  clear hE hE5 hs hi hn ho hcut
  generalize errV te pe bad = ev at *
  go_enter Tryd.func31, Tryd.ntmps31
  go_wp2_with fail
  with_reducible refine HC.out.mono ?_
  rintro e w1 ⟨gs, v, h', rfl, HV⟩
  go_wp2_with fail
  go_ret2
  exact ⟨gs, v, h', rfl, HV⟩
set_option maxRecDepth 100000 in
/-- A broken scanner refuses. -/
theorem feed_broken (B g n c : Nat) (h : Option Nat) (X : List UInt8) (A : Option Addr) (eb : Value) (w : World) (hs : Scn w B g h X true) (hb : w.cell? ⟨1, 0, none⟩ = some eb) :
    Calls Tryd.prog 31 #[.pointer (some ⟨g, 0, none⟩), .slice A n c] w fun e w' => e = .returned (.tuple #[.slice none 0 0, eb]) ∧ ∃ m, w' = w.drewN m := by
  obtain ⟨v, h1, _⟩ := hs.at_
  have c1 : w.cell? ⟨g, 1, none⟩ = some (.bool true) := h1.cell 1
  clear h1 hs
  have HC : Hid (Calls Tryd.prog 55 #[.pointer (some ⟨g, 0, none⟩), .slice A n c] w fun e w' => e = .returned (.tuple #[.slice none 0 0, .int .i64 0, eb]) ∧ ∃ m, w' = w.drewN m) := Lib.hid (by
    go_enter Tryd.func55, Tryd.ntmps55
    go_wp2_with fail
    go_quiet (fail)
    go_wp2_with fail
    go_ret3
    exact ⟨rfl, nq, rfl⟩)
  go_enter Tryd.func31, Tryd.ntmps31
  go_wp2_with fail
  with_reducible refine HC.out.mono ?_
  rintro e w1 ⟨rfl, m, rfl⟩
  go_wp2_with fail
  go_ret2
  exact ⟨rfl, m, rfl⟩
set_option maxRecDepth 100000 in
theorem split_any (n c : Nat) (bs : List UInt8) (A : Option Addr) (E : Nat → Value) (te : TypeId) (pe : Value) (w : World) (hE : Env w E te pe) (hE5 : F.Errs w E) (hn : bs.length = n) (hc : n ≤ c) (hcm : c ≤ 9223372036854775807) (hbig : n ≤ 1000000000) (hr : Rd w w.heap.size A (bs.map bv)) (fs : List Fr) (r : List UInt8) (bad : Bool) (hcut : Cut bs fs r bad) :
    Calls Tryd.prog 36 #[.slice A n c] w fun e w' => ∃ (gs : List Fr) (v : Value) (h' : Option Nat), e = .returned (.tuple #[v, .int .i64 (bytesOf fs : Int), errV te pe bad]) ∧ Hid (Fnd w' (w.heap.size + 1) h' v gs ∧ gs.map Fr.pl = fs ∧ Below w.heap.size w w') := by
  have HE := Lib.hid hE
  have HE5 := Lib.hid hE5
  have HN := Lib.hid hn
  have HR := Lib.hid hr
  have HCU := Lib.hid hcut
  have h20 := hE.size
  clear hE hE5 hn hr hcut
  obtain ⟨ev, HEV⟩ : ∃ ev, H.Shut (errV te pe bad = ev) := ⟨_, ⟨rfl⟩⟩
  rw [HEV.out]
  go_enter Tryd.func36, Tryd.ntmps36
  go_wp2_with fail
  with_reducible refine (snew_any w).mono ?_
  rintro e w1 ⟨rfl, HV1⟩
  have HO1 : Hid (Off w1 w.heap.size none A bs) := Lib.hid ⟨(HR.out.below HV1.out.2.1).more HV1.out.2.1.size, fun hb ad e => ⟨by
    have h1 := HR.out
    rw [e] at h1
    have := rd_lt' h1 hb
    omega, fun e => by cases e⟩⟩
  have HE1 := Lib.hid (HE.out.below h20 HV1.out.2.1)
  have HE51 := Lib.hid (HE5.out.below h20 HV1.out.2.1)
  have HC := Lib.hid (feed_any w.heap.size w.heap.size n c none [] bs A E te pe w1 HE1.out HE51.out h20 HV1.out.1 (.inl (by simp)) HN.out hc hcm hbig HO1.out fs r bad HCU.out)
  rw [HEV.out, HV1.out.2.2] at HC
  go_wp2_with fail
  with_reducible refine HC.out.mono ?_
  rintro e w2 ⟨gs, v, h', rfl, HV2⟩
  go_wp2_with fail
  go_ret3
  exact ⟨gs, v, h', rfl, Lib.hid ⟨HV2.out.1, HV2.out.2.1, HV1.out.2.1.trans (HV2.out.2.2.2.below (by rw [HV1.out.2.2]; omega) (Nat.le_refl _) (fun q e => by cases e))⟩⟩
end Go.Proofs.YtmhfhdbaeijcfaaDoor

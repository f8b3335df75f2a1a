/- The pair beside the document's pair: where both lie, and that they agree. -/
import Derived.Test.YtlceemaannndbaaDoorReft
import Derived.Test.YtlceemaannndbaaDoorKept
namespace Go.Proofs.YtlceemaannndbaaDoor
open Go.RowKit

/-- Both pairs, apart from each other and from all blocks of K. -/
def Both (w : World) (B : Nat) (K : Nat → Prop) (g m : Nat) (P : Pr) (R : Rp) : Prop :=
  ∃ F F' : Nat → Prop, PairAt w B F g P ∧ RefAt w B F' m R ∧ (∀ k, F k → ¬ F' k) ∧ (∀ k, F k → ¬ K k) ∧ (∀ k, F' k → ¬ K k) ∧ ∀ k, K k → k < w.heap.size
theorem Both.stay {w w' : World} {B : Nat} {K : Nat → Prop} {g m : Nat} {P : Pr} {R : Rp} (h : Both w B K g m P R) (hs : Stay w w') : Both w' B K g m P R := by
  obtain ⟨F, F', h1, h2, h3, h4, h5, h6⟩ := h
  exact ⟨F, F', h1.stay hs, h2.keep (by rw [hs.heap]; exact Nat.le_refl _) (fun k _ => by rw [hs.heap]), h3, h4, h5, fun k hk => by rw [hs.heap]; exact h6 k hk⟩
theorem Both.mono {w : World} {B : Nat} {K K' : Nat → Prop} {g m : Nat} {P : Pr} {R : Rp} (h : Both w B K g m P R) (hk : ∀ k, K' k → K k) : Both w B K' g m P R := by
  obtain ⟨F, F', h1, h2, h3, h4, h5, h6⟩ := h
  exact ⟨F, F', h1, h2, h3, fun k hf hk' => h4 k hf (hk k hk'), fun k hf hk' => h5 k hf (hk k hk'), fun k hk' => h6 k (hk k hk')⟩
theorem Both.below {w w' : World} {B : Nat} {K : Nat → Prop} {g m : Nat} {P : Pr} {R : Rp} (h : Both w B K g m P R) (hb : Below w.heap.size w w') : Both w' B (fun k => K k ∨ w.heap.size ≤ k ∧ k < w'.heap.size) g m P R := by
  obtain ⟨F, F', h1, h2, h3, h4, h5, h6⟩ := h
  refine ⟨F, F', h1.below hb, h2.keep hb.size (fun k hk => hb.block k (h2.lt k hk)), h3, fun k hf hk => ?_, fun k hf hk => ?_, fun k hk => ?_⟩
  · rcases hk with hk | hk
    · exact h4 k hf hk
    · have := h1.lt k hf; omega
  · rcases hk with hk | hk
    · exact h5 k hf hk
    · have := h2.lt k hf; omega
  · rcases hk with hk | hk
    · exact Nat.lt_of_lt_of_le (h6 k hk) hb.size
    · exact hk.2
theorem Both.pok {w : World} {B : Nat} {K : Nat → Prop} {g m : Nat} {P : Pr} {R : Rp} (h : Both w B K g m P R) : P.ok := by obtain ⟨F, F', h1, _⟩ := h; exact h1.ok
theorem Both.rok {w : World} {B : Nat} {K : Nat → Prop} {g m : Nat} {P : Pr} {R : Rp} (h : Both w B K g m P R) : R.ok := by obtain ⟨F, F', _, h2, _⟩ := h; exact h2.ok
/-- A call of the pair. -/
theorem Both.pair {w : World} {B : Nat} {K : Nat → Prop} {g m : Nat} {P : Pr} {R : Rp} (h : Both w B K g m P R) :
    ∃ F' : Nat → Prop, Has w B (fun k => K k ∨ F' k) g P ∧ ∀ w' P', Has w' B (fun k => K k ∨ F' k) g P' ∧ Keep (fun k => K k ∨ F' k) w w' → Both w' B K g m P' R ∧ Keep K w w' := by
  obtain ⟨F, F', h1, h2, h3, h4, h5, h6⟩ := h
  refine ⟨F', ⟨⟨F, h1, fun k hf hk => ?_⟩, fun k hk => ?_⟩, fun w' P' ⟨⟨⟨G, hg1, hg2⟩, hl⟩, hk⟩ => ⟨⟨G, F', hg1, h2.keep hk.size (fun k hf => hk.block k (.inr hf)), fun k hg hf => hg2 k hg (.inr hf), fun k hg hf => hg2 k hg (.inl hf), h5, fun k hf => hl k (.inl hf)⟩, hk.mono (fun k hf => .inl hf)⟩⟩
  · rcases hk with hk | hk
    · exact h4 k hf hk
    · exact h3 k hf hk
  · rcases hk with hk | hk
    · exact h6 k hk
    · exact h2.lt k hk
/-- A call of the pair that hands something new out. -/
theorem Both.pair2 {w : World} {B : Nat} {K : Nat → Prop} {g m : Nat} {P : Pr} {R : Rp} (h : Both w B K g m P R) :
    ∃ F' : Nat → Prop, Has w B (fun k => K k ∨ F' k) g P ∧ ∀ w' P', Has w' B (fun k => (K k ∨ F' k) ∨ w.heap.size ≤ k ∧ k < w'.heap.size) g P' ∧ Keep (fun k => K k ∨ F' k) w w' → Both w' B (fun k => K k ∨ w.heap.size ≤ k ∧ k < w'.heap.size) g m P' R ∧ Keep K w w' := by
  obtain ⟨F, F', h1, h2, h3, h4, h5, h6⟩ := h
  refine ⟨F', ⟨⟨F, h1, fun k hf hk => ?_⟩, fun k hk => ?_⟩, fun w' P' ⟨⟨⟨G, hg1, hg2⟩, hl⟩, hk⟩ => ⟨⟨G, F', hg1, h2.keep hk.size (fun k hf => hk.block k (.inr hf)), fun k hg hf => hg2 k hg (.inl (.inr hf)), fun k hg hf => hg2 k hg ?_, fun k hf hkk => ?_, fun k hf => hl k ?_⟩, hk.mono (fun k hf => .inl hf)⟩⟩
  · rcases hk with hk | hk
    · exact h4 k hf hk
    · exact h3 k hf hk
  · rcases hk with hk | hk
    · exact h6 k hk
    · exact h2.lt k hk
  · rcases hf with hf | hf
    · exact .inl (.inl hf)
    · exact .inr hf
  · rcases hkk with hkk | hkk
    · exact h5 k hf hkk
    · have := h2.lt k hf; omega
  · rcases hf with hf | hf
    · exact .inl (.inl hf)
    · exact .inr hf
/-- A call of the document's pair. -/
theorem Both.ref {w : World} {B : Nat} {K : Nat → Prop} {g m : Nat} {P : Pr} {R : Rp} (h : Both w B K g m P R) :
    ∃ F' : Nat → Prop, RefAt w B F' m R ∧ ∀ w' R', RefTo w w' B F' m R' ∧ Turn F' w w' → Both w' B K g m P R' ∧ Keep K w w' := by
  obtain ⟨F, F', h1, h2, h3, h4, h5, h6⟩ := h
  refine ⟨F', h2, fun w' R' ⟨⟨G, hg1, hg2⟩, ht⟩ => ⟨⟨F, G, h1.turn ht h3, hg1, fun k hf hg => ?_, h4, fun k hg hk => ?_, fun k hk => Nat.lt_of_lt_of_le (h6 k hk) ht.size⟩, ⟨ht.os, ht.tape, ht.output, ht.size, fun k hk => ht.block k (h6 k hk) (fun hf => h5 k hf hk)⟩⟩⟩
  · rcases hg2 k hg with hx | hx
    · exact h3 k hf hx
    · have := h1.lt k hf; omega
  · rcases hg2 k hg with hx | hx
    · exact h5 k hx hk
    · have := h6 k hk; omega
theorem ref_to {w w' : World} {B : Nat} {F : Nat → Prop} {g : Nat} {P : Rp} (h : RefAt w' B F g P) : RefTo w w' B F g P := ⟨F, h, fun _ hk => .inl hk⟩
theorem Both.has {w : World} {B : Nat} {K : Nat → Prop} {g m : Nat} {P : Pr} {R : Rp} (h : Both w B K g m P R) : Has w B K g P := by
  obtain ⟨F', h1, _⟩ := h.pair
  exact h1.mono (fun k hk => .inl hk)
theorem Both.refat {w : World} {B : Nat} {K : Nat → Prop} {g m : Nat} {P : Pr} {R : Rp} (h : Both w B K g m P R) : ∃ F', RefAt w B F' m R := by
  obtain ⟨F', h1, _⟩ := h.ref
  exact ⟨F', h1⟩

/-- A way and the document's way agree. -/
structure SimW (cut : Bool) (W : Wy) (Y : Ry) : Prop where
  row : W.row = Y.all.drop Y.rd
  car : W.car = Y.car - Y.rd
  shut : Y.shut = (W.shut && !W.torn)
  torn : cut = false → W.torn = false
  end_ : cut = true → Y.car = Y.all.length
structure Sim (k : Nat) (P : Pr) (R : Rp) : Prop where
  room : P.room = R.room
  cut : P.cut = R.cut
  way : ∀ i, i < 2 → SimW P.cut (P.ws i) (R.ws i)
  big : ∀ i, i < 2 → (R.ws i).all.length ≤ 65536 * k
theorem Sim.next {k : Nat} {P : Pr} {R : Rp} (h : Sim k P R) : Sim (k + 1) P R := ⟨h.room, h.cut, h.way, fun i hi => by have := h.big i hi; omega⟩
def rfresh (room : Nat) : Rp := ⟨room, fun _ => ⟨[], 0, 0, false⟩, false⟩
theorem sim_fresh (room : Nat) : Sim 0 (fresh room) (rfresh room) := ⟨rfl, rfl, fun _ _ => ⟨rfl, rfl, rfl, fun _ => rfl, fun h => by cases h⟩, fun _ _ => Nat.zero_le _⟩
theorem rfresh_ok {room : Nat} (h : room ≤ 65536) : (rfresh room).ok := ⟨h, fun _ => Nat.le_refl _, fun _ => Nat.zero_le _, fun _ => Nat.zero_le _, fun _ => by simp [rfresh]⟩
theorem Sim.shut_eq {k : Nat} {P : Pr} {R : Rp} (h : Sim k P R) (hc : P.cut = false) {i : Nat} (hi : i < 2) : (R.ws i).shut = (P.ws i).shut := by
  rw [(h.way i hi).shut, (h.way i hi).torn hc]; simp
theorem Sim.free {k : Nat} {P : Pr} {R : Rp} (h : Sim k P R) {i : Nat} (hi : i < 2) : P.free i = R.free i := by
  unfold Pr.free Rp.free
  rw [← h.cut]
  cases hc : P.cut
  · rw [h.shut_eq hc hi, h.room, (h.way i hi).row, List.length_drop]
  · simp
theorem Sim.puts {k : Nat} {P : Pr} {R : Rp} (h : Sim k P R) {i : Nat} (hi : i < 2) (n : Nat) : P.puts i n = R.puts i n := by rw [Pr.puts, Rp.puts, h.free hi]
theorem Sim.flight {k : Nat} {P : Pr} {R : Rp} (h : Sim k P R) (hp : P.ok) (hr : R.ok) {i : Nat} (hi : i < 2) : ((P.ws i).row.length - (P.ws i).car : Int) = (R.flight i : Int) := by
  have h1 := hp.car i
  have h2 := hr.rd i
  have h3 := hr.car i
  rw [(h.way i hi).row, List.length_drop, (h.way i hi).car] at h1 ⊢
  unfold Rp.flight
  rw [← h.cut]
  cases hc : P.cut
  · simp; omega
  · have := (h.way i hi).end_ hc
    simp; omega
theorem Sim.inbox {k : Nat} {P : Pr} {R : Rp} (h : Sim k P R) {i : Nat} (hi : i < 2) : (P.ws (1 - i)).car = R.inbox i := by rw [(h.way (1 - i) (by omega)).car, Rp.inbox]
theorem Sim.ended {k : Nat} {P : Pr} {R : Rp} (h : Sim k P R) (hr : R.ok) {i : Nat} (hi : i < 2) : P.ended i = R.ended i := by
  unfold Pr.ended Rp.ended Wy.over
  have hw := h.way (1 - i) (by omega)
  have h2 := hr.rd (1 - i)
  have h3 := hr.car (1 - i)
  rw [hw.shut, hw.row, List.length_drop]
  congr 1
  rw [decide_eq_decide]
  omega
theorem Sim.wrote {k : Nat} {P : Pr} {R : Rp} (h : Sim k P R) (hr : R.ok) {i : Nat} (hi : i < 2) (bs : List UInt8) (hc : P.cut = false) : Sim (k + 1) (P.wrote i bs) (R.wrote i bs) := by
  refine ⟨h.room, h.cut, fun j hj => ?_, fun j hj => ?_⟩
  · by_cases e : j = i
    · subst e
      have hw := h.way j hj
      rw [Pr.wrote, Pr.put_same, Rp.wrote, Rp.put_same]
      refine ⟨?_, hw.car, hw.shut, hw.torn, fun hcc => absurd hc (by rw [show P.cut = true from hcc]; decide)⟩
      show (P.ws j).row ++ _ = ((R.ws j).all ++ _).drop (R.ws j).rd
      have h2 := hr.rd j
      have h3 := hr.car j
      rw [List.drop_append_of_le_length (by omega), hw.row, h.puts hj]
    · rw [Pr.wrote, Pr.put_other _ _ e, Rp.wrote, Rp.put_other _ _ e]
      exact h.way j hj
  · have := h.big j hj
    by_cases e : j = i
    · subst e
      rw [Rp.wrote, Rp.put_same]
      show ((R.ws j).all ++ bs.take (R.puts j bs.length)).length ≤ _
      have h5 := rfree_le R j
      have h6 := hr.room
      rw [List.length_append, List.length_take, Rp.puts]; omega
    · rw [Rp.wrote, Rp.put_other _ _ e]; omega
theorem Sim.setShut {k : Nat} {P : Pr} {R : Rp} (h : Sim k P R) {i : Nat} (hi : i < 2) (hc : P.cut = false) : Sim (k + 1) (P.setShut i) (R.setShut i) := by
  refine ⟨h.room, h.cut, fun j hj => ?_, fun j hj => ?_⟩
  · by_cases e : j = i
    · subst e
      have hw := h.way j hj
      rw [Pr.setShut, Pr.put_same, Rp.setShut, Rp.put_same]
      refine ⟨hw.row, hw.car, ?_, hw.torn, hw.end_⟩
      show true = (true && !(P.ws j).torn)
      rw [hw.torn hc]; rfl
    · rw [Pr.setShut, Pr.put_other _ _ e, Rp.setShut, Rp.put_other _ _ e]
      exact h.way j hj
  · have := h.big j hj
    by_cases e : j = i
    · subst e; rw [Rp.setShut, Rp.put_same]; show (R.ws j).all.length ≤ _; omega
    · rw [Rp.setShut, Rp.put_other _ _ e]; omega
theorem Sim.moved {k : Nat} {P : Pr} {R : Rp} (h : Sim k P R) (hr : R.ok) {i : Nat} (hi : i < 2) (n : Nat) : P.moved i n = R.moved i n := by
  have h2 := hr.rd i
  have h3 := hr.car i
  rw [Pr.moved, Rp.moved, (h.way i hi).row, (h.way i hi).car, List.length_drop]
  omega
theorem Sim.carry {k : Nat} {P : Pr} {R : Rp} (h : Sim k P R) (hr : R.ok) {i : Nat} (hi : i < 2) (n : Nat) (hc : P.cut = false) : Sim (k + 1) (P.carry i n) (R.carry i n) := by
  refine ⟨h.room, h.cut, fun j hj => ?_, fun j hj => ?_⟩
  · by_cases e : j = i
    · subst e
      have hw := h.way j hj
      have h2 := hr.rd j
      rw [Pr.carry, Pr.put_same, Rp.carry, Rp.put_same]
      refine ⟨hw.row, ?_, hw.shut, hw.torn, fun hcc => absurd hc (by rw [show P.cut = true from hcc]; decide)⟩
      show (P.ws j).car + P.moved j n = (R.ws j).car + R.moved j n - (R.ws j).rd
      rw [h.moved hr hj, hw.car]; omega
    · rw [Pr.carry, Pr.put_other _ _ e, Rp.carry, Rp.put_other _ _ e]
      exact h.way j hj
  · have := h.big j hj
    by_cases e : j = i
    · subst e; rw [Rp.carry, Rp.put_same]; show (R.ws j).all.length ≤ _; omega
    · rw [Rp.carry, Rp.put_other _ _ e]; omega
theorem Sim.takes {k : Nat} {P : Pr} {R : Rp} (h : Sim k P R) {i : Nat} (hi : i < 2) (n : Nat) : P.takes i n = R.takes i n := by rw [Pr.takes, Rp.takes, (h.way i hi).car]
theorem Sim.took {k : Nat} {P : Pr} {R : Rp} (h : Sim k P R) (hr : R.ok) {i : Nat} (hi : i < 2) (n : Nat) : Sim (k + 1) (P.took i n) (R.took i n) := by
  refine ⟨h.room, h.cut, fun j hj => ?_, fun j hj => ?_⟩
  · by_cases e : j = i
    · subst e
      have hw := h.way j hj
      rw [Pr.took, Pr.put_same, Rp.took, Rp.put_same]
      refine ⟨?_, ?_, hw.shut, hw.torn, hw.end_⟩
      · show (P.ws j).row.drop (P.takes j n) = (R.ws j).all.drop ((R.ws j).rd + R.takes j n)
        rw [hw.row, List.drop_drop, h.takes hj]
      · show (P.ws j).car - P.takes j n = (R.ws j).car - ((R.ws j).rd + R.takes j n)
        rw [hw.car, h.takes hj]; omega
    · rw [Pr.took, Pr.put_other _ _ e, Rp.took, Rp.put_other _ _ e]
      exact h.way j hj
  · have := h.big j hj
    by_cases e : j = i
    · subst e; rw [Rp.took, Rp.put_same]; show (R.ws j).all.length ≤ _; omega
    · rw [Rp.took, Rp.put_other _ _ e]; omega
/-- What a cut leaves of the document's way. -/
def Ry.torn (Y : Ry) : Ry := if Y.car < Y.all.length then { Y with shut := false, all := Y.all.take Y.car } else Y
def Rp.tore (R : Rp) (i : Nat) : Rp := R.put i (R.ws i).torn
def Rp.cutTo (R : Rp) : Nat → Rp
  | 0 => { R with cut := true }
  | q + 1 => (R.cutTo q).tore q
theorem SimW.tear {W : Wy} {Y : Ry} (h : SimW false W Y) (h1 : Y.rd ≤ Y.car) (h2 : Y.car ≤ Y.all.length) : SimW true { W with torn := W.torn || decide (W.car < W.row.length), row := W.row.take W.car } Y.torn := by
  have ht := h.torn rfl
  have hl : W.row.length = Y.all.length - Y.rd := by rw [h.row, List.length_drop]
  unfold Ry.torn
  split
  · rename_i hlt
    refine ⟨?_, h.car, ?_, fun h => (by cases h), fun _ => ?_⟩
    · show W.row.take W.car = (Y.all.take Y.car).drop Y.rd
      rw [h.row, h.car, List.drop_take]
    · show false = (W.shut && !(W.torn || decide (W.car < W.row.length)))
      have : W.car < W.row.length := by rw [hl, h.car]; omega
      simp [this]
    · show Y.car = (Y.all.take Y.car).length
      rw [List.length_take]; omega
  · rename_i hge
    have hn : ¬ W.car < W.row.length := by rw [hl, h.car]; omega
    refine ⟨?_, h.car, ?_, fun h => (by cases h), fun _ => by omega⟩
    · show W.row.take W.car = Y.all.drop Y.rd
      rw [List.take_of_length_le (by omega), h.row]
    · show Y.shut = (W.shut && !(W.torn || decide (W.car < W.row.length)))
      rw [h.shut]; simp [hn]
theorem Sim.cutting {k : Nat} {P : Pr} {R : Rp} (h : Sim k P R) (hr : R.ok) (hc : P.cut = false) : Sim (k + 1) P.cutting (R.cutTo 2) := by
  have hw : ∀ i, i < 2 → SimW false (P.ws i) (R.ws i) := fun i hi => by have := h.way i hi; rwa [hc] at this
  have e0 : (R.cutTo 2).ws 0 = (R.ws 0).torn := rfl
  have e1 : (R.cutTo 2).ws 1 = (R.ws 1).torn := rfl
  have hb : ∀ Y : Ry, Y.torn.all.length ≤ Y.all.length := fun Y => by
    unfold Ry.torn
    split
    · show (Y.all.take Y.car).length ≤ _
      rw [List.length_take]; omega
    · exact Nat.le_refl _
  refine ⟨h.room, rfl, fun j hj => ?_, fun j hj => ?_⟩
  · rcases (by omega : j = 0 ∨ j = 1) with rfl | rfl
    · rw [cutting_ws0, e0]; exact (hw 0 hj).tear (hr.rd 0) (hr.car 0)
    · rw [cutting_ws1, e1]; exact (hw 1 hj).tear (hr.rd 1) (hr.car 1)
  · have := h.big j hj
    rcases (by omega : j = 0 ∨ j = 1) with rfl | rfl
    · rw [e0]; have := hb (R.ws 0); omega
    · rw [e1]; have := hb (R.ws 1); omega
/-- A second cut changes nothing. -/
theorem Sim.again {k : Nat} {P : Pr} {R : Rp} (h : Sim k P R) (hr : R.ok) (hc : P.cut = true) : Sim (k + 1) P.cutting R := by
  have hw : ∀ W : Wy, ∀ Y : Ry, SimW true W Y → Y.rd ≤ Y.car → SimW true { W with torn := W.torn || decide (W.car < W.row.length), row := W.row.take W.car } Y := fun W Y hs h1 => by
    have hl : W.row.length = Y.all.length - Y.rd := by rw [hs.row, List.length_drop]
    have he := hs.end_ rfl
    have hn : ¬ W.car < W.row.length := by rw [hl, hs.car]; omega
    refine ⟨?_, hs.car, ?_, fun h => (by cases h), hs.end_⟩
    · show W.row.take W.car = _
      rw [List.take_of_length_le (by omega), hs.row]
    · show Y.shut = (W.shut && !(W.torn || decide (W.car < W.row.length)))
      rw [hs.shut]; simp [hn]
  have hw' : ∀ i, i < 2 → SimW true (P.ws i) (R.ws i) := fun i hi => by have := h.way i hi; rwa [hc] at this
  refine ⟨h.room, by rw [← h.cut, hc]; rfl, fun j hj => ?_, fun j hj => by have := h.big j hj; omega⟩
  rcases (by omega : j = 0 ∨ j = 1) with rfl | rfl
  · rw [cutting_ws0]; exact hw _ _ (hw' 0 hj) (hr.rd 0)
  · rw [cutting_ws1]; exact hw _ _ (hw' 1 hj) (hr.rd 1)
end Go.Proofs.YtlceemaannndbaaDoor

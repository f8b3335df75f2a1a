/- The law SockPrefix: what an end reads is a beginning of what the other one wrote, and all of it when it has ended. -/
import Derived.Test.YtlceemaannndbaaDoorRoomw
namespace Go.Proofs.YtlceemaannndbaaDoor
open Go.RowKit

def updL (f : Nat → List UInt8) (i : Nat) (x : List UInt8) : Nat → List UInt8 := fun j => if j = i then x else f j
theorem updL_same (f : Nat → List UInt8) (i : Nat) (x : List UInt8) : updL f i x i = x := by simp [updL]
theorem updL_other (f : Nat → List UInt8) {i j : Nat} (x : List UInt8) (h : j ≠ i) : updL f i x j = f j := by simp [updL, h]
/-- What was written into a way, and read from it: what is left of it is lost. -/
def WayOk (R : Nat) (W : Wy) (cut : Bool) (wr rd : List UInt8) : Prop :=
  ∃ lost, wr = rd ++ W.row ++ lost ∧ W.row.length + lost.length ≤ R ∧ (W.torn = false → lost = []) ∧ (cut = false → lost = [])
structure PreM (R k : Nat) (P : Pr) (wr rd : Nat → List UInt8) : Prop where
  room : P.room = R
  ok : P.ok
  way : ∀ i, i < 2 → WayOk R (P.ws i) P.cut (wr i) (rd (1 - i))
  size : ∀ i, i < 2 → (wr i).length ≤ 500 * k
theorem PreM.fresh (R : Nat) (h : R ≤ 500) : PreM R 0 (fresh R) (fun _ => []) (fun _ => []) :=
  ⟨rfl, fresh_ok (by omega), fun _ _ => ⟨[], rfl, by simp [Go.Proofs.YtlceemaannndbaaDoor.fresh], fun _ => rfl, fun _ => rfl⟩, fun _ _ => by simp⟩
theorem PreM.next {R k : Nat} {P : Pr} {wr rd : Nat → List UInt8} (h : PreM R k P wr rd) : PreM R (k + 1) P wr rd := ⟨h.room, h.ok, h.way, fun i hi => by have := h.size i hi; omega⟩
theorem puts_pos {P : Pr} {i n : Nat} (h : P.puts i n ≠ 0) : P.cut = false := by
  cases hc : P.cut
  · rfl
  · exact absurd (puts_free P i n (by rw [hc]; simp)) h
theorem PreM.write {R k : Nat} {P : Pr} {wr rd : Nat → List UInt8} (h : PreM R k P wr rd) (hR : R ≤ 500) (i : Nat) (hi : i < 2) (bs : List UInt8) :
    PreM R (k + 1) (P.wrote i bs) (updL wr i (wr i ++ bs.take (P.puts i bs.length))) rd := by
  have hok := wrote_is_ok h.ok i bs
  refine ⟨h.room, hok, fun j hj => ?_, fun j hj => ?_⟩
  · by_cases e : j = i
    · subst e
      obtain ⟨lost, h1, h2, h3, h4⟩ := h.way j hj
      rw [updL_same, Pr.wrote, Pr.put_same]
      have hroom := hok.row j
      rw [Pr.wrote, Pr.put_same] at hroom
      by_cases h0 : P.puts j bs.length = 0
      · rw [h0, List.take_zero, List.append_nil, List.append_nil]
        exact ⟨lost, h1, h2, h3, h4⟩
      · have hc := puts_pos h0
        have hl := h4 hc
        subst hl
        refine ⟨[], by rw [h1]; simp, ?_, fun _ => rfl, fun _ => rfl⟩
        have e2 : (P.put j { P.ws j with row := (P.ws j).row ++ bs.take (P.puts j bs.length) }).room = R := h.room
        rw [e2] at hroom
        simpa using hroom
    · rw [updL_other wr _ e, Pr.wrote, Pr.put_other P _ e]
      exact h.way j hj
  · by_cases e : j = i
    · subst e
      rw [updL_same, List.length_append, List.length_take]
      have := h.size j hj
      have h5 : P.puts j bs.length ≤ R := by
        have : P.free j ≤ P.room := by unfold Pr.free; split <;> omega
        rw [Pr.puts, ← h.room]; omega
      omega
    · rw [updL_other wr _ e]
      have := h.size j hj
      omega
theorem PreM.carry {R k : Nat} {P : Pr} {wr rd : Nat → List UInt8} (h : PreM R k P wr rd) (i n : Nat) : PreM R (k + 1) (P.carry i n) wr rd := by
  refine ⟨h.room, carry_is_ok h.ok i n, fun j hj => ?_, fun j hj => by have := h.size j hj; omega⟩
  by_cases e : j = i
  · subst e
    rw [Pr.carry, Pr.put_same]
    exact h.way j hj
  · rw [Pr.carry, Pr.put_other P _ e]
    exact h.way j hj
theorem PreM.shut {R k : Nat} {P : Pr} {wr rd : Nat → List UInt8} (h : PreM R k P wr rd) (i : Nat) : PreM R (k + 1) (if P.cut then P else P.setShut i) wr rd := by
  split
  · exact h.next
  · refine ⟨h.room, shut_is_ok h.ok i, fun j hj => ?_, fun j hj => by have := h.size j hj; omega⟩
    by_cases e : j = i
    · subst e
      rw [Pr.setShut, Pr.put_same]
      exact h.way j hj
    · rw [Pr.setShut, Pr.put_other P _ e]
      exact h.way j hj
theorem PreM.read {R k : Nat} {P : Pr} {wr rd : Nat → List UInt8} (h : PreM R k P wr rd) (i n : Nat) (hi : i < 2) :
    PreM R (k + 1) (P.took (1 - i) n) wr (updL rd i (rd i ++ (P.ws (1 - i)).row.take (P.takes (1 - i) n))) := by
  refine ⟨h.room, took_is_ok h.ok (1 - i) n, fun j hj => ?_, fun j hj => by have := h.size j hj; omega⟩
  by_cases e : j = 1 - i
  · subst e
    have e2 : 1 - (1 - i) = i := by omega
    obtain ⟨lost, h1, h2, h3, h4⟩ := h.way (1 - i) (by omega)
    rw [e2] at h1 ⊢
    rw [updL_same, Pr.took, Pr.put_same]
    refine ⟨lost, ?_, ?_, h3, h4⟩
    · rw [h1]
      show _ = rd i ++ (P.ws (1 - i)).row.take (P.takes (1 - i) n) ++ (P.ws (1 - i)).row.drop (P.takes (1 - i) n) ++ lost
      rw [List.append_assoc (rd i) (List.take _ _), List.take_append_drop]
    · show ((P.ws (1 - i)).row.drop (P.takes (1 - i) n)).length + lost.length ≤ R
      rw [List.length_drop]; omega
  · rw [Pr.took, Pr.put_other P _ e, updL_other rd _ (by omega)]
    exact h.way j hj
theorem WayOk.tore {R : Nat} {W : Wy} {cut : Bool} {wr rd : List UInt8} (h : WayOk R W cut wr rd) (hc : W.car ≤ W.row.length) : WayOk R { W with torn := W.torn || decide (W.car < W.row.length), row := W.row.take W.car } true wr rd := by
  obtain ⟨lost, h1, h2, h3, h4⟩ := h
  refine ⟨W.row.drop W.car ++ lost, ?_, ?_, fun ht => ?_, fun h => by cases h⟩
  · rw [h1]
    show _ = rd ++ W.row.take W.car ++ (W.row.drop W.car ++ lost)
    rw [← List.append_assoc, List.append_assoc rd (W.row.take W.car), List.take_append_drop]
  · show (W.row.take W.car).length + (W.row.drop W.car ++ lost).length ≤ R
    rw [List.length_append, List.length_take, List.length_drop]; omega
  · simp at ht
    rw [h3 ht.1, List.drop_of_length_le ht.2]; rfl
theorem PreM.cut {R k : Nat} {P : Pr} {wr rd : Nat → List UInt8} (h : PreM R k P wr rd) : PreM R (k + 1) P.cutting wr rd := by
  refine ⟨h.room, tore_is_ok (P := ({ P with cut := true } : Pr).tore 0) (tore_is_ok (P := { P with cut := true }) ⟨h.ok.room, h.ok.row, h.ok.car⟩ 0) 1, fun j hj => ?_, fun j hj => by have := h.size j hj; omega⟩
  rcases (by omega : j = 0 ∨ j = 1) with rfl | rfl
  · rw [cutting_ws0]; exact (h.way 0 (by omega)).tore (h.ok.car 0)
  · rw [cutting_ws1]; exact (h.way 1 (by omega)).tore (h.ok.car 1)
/-- What the law asks of end q. -/
theorem PreM.asked {R k : Nat} {P : Pr} {wr rd : Nat → List UInt8} (h : PreM R k P wr rd) (q : Nat) (hq : q < 2) :
    (rd q).length ≤ (wr (1 - q)).length ∧ (wr (1 - q)).take (rd q).length = rd q ∧ (wr (1 - q)).length - (rd q).length ≤ R ∧ (P.ended q = true → (wr (1 - q)).length = (rd q).length) := by
  obtain ⟨lost, h1, h2, h3, _⟩ := h.way (1 - q) (by omega)
  have e2 : 1 - (1 - q) = q := by omega
  rw [e2] at h1
  have hl := congrArg List.length h1
  simp only [List.length_append] at hl
  refine ⟨by omega, by rw [h1, List.append_assoc, List.take_left], by omega, fun he => ?_⟩
  unfold Pr.ended Wy.over at he
  simp at he
  rw [h1, h3 he.1.2, he.2]
  simp

/-- The pair of SockPrefix, and the law's own rows of texts. -/
structure PreP (w' : World) (B : Nat) (K : Nat → Prop) (g ha hb : Nat) (P : Pr) (wr rd : Nat → List UInt8) : Prop where
  has : Has w' B K g P
  row1 : Row w' ha 55 [.string (strOf (wr 0)), .string (strOf (wr 1))]
  row2 : Row w' hb 55 [.string (strOf (rd 0)), .string (strOf (rd 1))]
def PreI (W0 w' : World) (B g ha hb R k : Nat) : Prop := (∃ P wr rd, PreP w' B (fun k => k < B ∨ k = ha ∨ k = hb) g ha hb P wr rd ∧ PreM R k P wr rd) ∧ Keep (fun k => k < B) W0 w'
theorem PreP.box {w : World} {B : Nat} {K : Nat → Prop} {g ha hb : Nat} {P : Pr} {wr rd : Nat → List UInt8} (H : PreP w B K g ha hb P wr rd) (o : Obj) : PreP (w.alloc o) B (fun k => K k ∨ k = w.heap.size) g ha hb P wr rd :=
  ⟨H.has.alloc o, (Below.heap_alloc w o ha H.row1.lt).trans H.row1, (Below.heap_alloc w o hb H.row2.lt).trans H.row2⟩
theorem PreP.to {w w' : World} {B : Nat} {K : Nat → Prop} {g ha hb : Nat} {P P' : Pr} {wr rd : Nat → List UInt8} (H : PreP w B K g ha hb P wr rd) (hh : Has w' B K g P' ∧ Keep K w w') (hK1 : K ha) (hK2 : K hb) : PreP w' B K g ha hb P' wr rd :=
  ⟨hh.1, hh.2.row H.row1 hK1, hh.2.row H.row2 hK2⟩
theorem PreP.stay {w w' : World} {B : Nat} {K : Nat → Prop} {g ha hb : Nat} {P : Pr} {wr rd : Nat → List UInt8} (H : PreP w B K g ha hb P wr rd) (hs : Stay w w') : PreP w' B K g ha hb P wr rd :=
  ⟨H.has.stay hs, (by show w'.heap[ha]? = _; rw [hs.heap]; exact H.row1), (by show w'.heap[hb]? = _; rw [hs.heap]; exact H.row2)⟩
theorem two_set (f : Nat → List UInt8) (i : Nat) (hi : i < 2) (x : List UInt8) : [Value.string (strOf (f 0)), .string (strOf (f 1))].set i (.string (strOf x)) = [.string (strOf (updL f i x 0)), .string (strOf (updL f i x 1))] := by
  rcases (by omega : i = 0 ∨ i = 1) with rfl | rfl <;> simp [updL]
theorem PreP.set1 {w : World} {B : Nat} {K : Nat → Prop} {g ha hb : Nat} {P : Pr} {wr rd : Nat → List UInt8} (H : PreP w B K g ha hb P wr rd) (hK1 : K ha) (hne : ha ≠ hb) (i : Nat) (hi : i < 2) (x : List UInt8) : PreP (w.setCell ⟨ha, i, none⟩ (.string (strOf x))) B K g ha hb P (updL wr i x) rd :=
  ⟨H.has.setCell _ hK1 _, by rw [← two_set wr i hi x]; exact H.row1.set i _, (Below.heap_setCell _ _ _ _ (fun e => hne e.symm)).trans H.row2⟩
theorem PreP.set2 {w : World} {B : Nat} {K : Nat → Prop} {g ha hb : Nat} {P : Pr} {wr rd : Nat → List UInt8} (H : PreP w B K g ha hb P wr rd) (hK2 : K hb) (hne : ha ≠ hb) (i : Nat) (hi : i < 2) (x : List UInt8) : PreP (w.setCell ⟨hb, i, none⟩ (.string (strOf x))) B K g ha hb P wr (updL rd i x) :=
  ⟨H.has.setCell _ hK2 _, (Below.heap_setCell _ _ _ _ hne).trans H.row1, by rw [← two_set rd i hi x]; exact H.row2.set i _⟩
theorem two_cell (f : Nat → List UInt8) (i : Nat) (hi : i < 2) : [Value.string (strOf (f 0)), .string (strOf (f 1))][i]? = some (.string (strOf (f i))) := by
  rcases (by omega : i = 0 ∨ i = 1) with rfl | rfl <;> rfl
theorem PreP.cell1 {w : World} {B : Nat} {K : Nat → Prop} {g ha hb : Nat} {P : Pr} {wr rd : Nat → List UInt8} (H : PreP w B K g ha hb P wr rd) (i : Nat) (hi : i < 2) : w.cell? ⟨ha, i, none⟩ = some (.string (strOf (wr i))) ∧ w.frozen? ⟨ha, i, none⟩ = false := ⟨by rw [H.row1.cell i]; exact two_cell wr i hi, H.row1.frozen i⟩
theorem PreP.cell2 {w : World} {B : Nat} {K : Nat → Prop} {g ha hb : Nat} {P : Pr} {wr rd : Nat → List UInt8} (H : PreP w B K g ha hb P wr rd) (i : Nat) (hi : i < 2) : w.cell? ⟨hb, i, none⟩ = some (.string (strOf (rd i))) ∧ w.frozen? ⟨hb, i, none⟩ = false := ⟨by rw [H.row2.cell i]; exact two_cell rd i hi, H.row2.frozen i⟩
theorem PreI.fin {W0 w wb w' : World} {B g ha hb R k : Nat} {P' : Pr} {wr rd : Nat → List UInt8} {K : Nat → Prop} {k0 : Nat} (HI : PreI W0 w B g ha hb R k0) (hb' : Keep (fun k => k < B) w wb) (HP : PreP w' B K g ha hb P' wr rd) (HM : PreM R k P' wr rd) (hk : Keep (fun k => k < B) wb w') (hK : ∀ k, k < B ∨ k = ha ∨ k = hb → K k) : PreI W0 w' B g ha hb R k :=
  ⟨⟨P', wr, rd, ⟨HP.has.mono hK, HP.row1, HP.row2⟩, HM⟩, (HI.2.trans hb').trans hk⟩
theorem room_nat (z : Int) : ∃ R : Nat, Hid (wrap64 (1 + (wrap64 (z.tmod 500 + 500)).tmod 500) = (R : Int)) ∧ 1 ≤ R ∧ R ≤ 500 := by
  have h1 := Int.tmod_lt_of_pos z (b := 500) (by omega)
  have h2 := Int.lt_tmod_of_pos z (b := 500) (by omega)
  have h4 : wrap64 (z.tmod 500 + 500) = z.tmod 500 + 500 := by unfold wrap64; omega
  have h5 := Int.tmod_lt_of_pos (z.tmod 500 + 500) (b := 500) (by omega)
  have h6 := Int.tmod_nonneg (500 : Int) (a := z.tmod 500 + 500) (by omega)
  refine ⟨(1 + (z.tmod 500 + 500).tmod 500).toNat, Lib.hid ?_, by omega, by omega⟩
  rw [h4]
  unfold wrap64
  omega
theorem pre_start {w1 w2 : World} {R : Nat} (H : Has w2 w1.heap.size (fun k => k < w1.heap.size) w1.heap.size (fresh R) ∧ Keep (fun k => k < w1.heap.size) w1 w2) (hR1 : 1 ≤ R) (hR2 : R ≤ 500) :
    PreI w1 ((w2.alloc (.cells #[.string ⟨#[]⟩, .string ⟨#[]⟩] 55)).alloc (.cells #[.string ⟨#[]⟩, .string ⟨#[]⟩] 55)) w1.heap.size w1.heap.size w2.heap.size (w2.heap.size + 1) R 0 := by
  have e : (w2.alloc (.cells #[.string ⟨#[]⟩, .string ⟨#[]⟩] 55)).heap.size = w2.heap.size + 1 := by simp
  have r1 : Row (w2.alloc (.cells #[.string ⟨#[]⟩, .string ⟨#[]⟩] 55)) w2.heap.size 55 [.string (strOf []), .string (strOf [])] := Row.new w2 _ 55
  have r2 := Row.new (w2.alloc (.cells #[.string ⟨#[]⟩, .string ⟨#[]⟩] 55)) [.string (strOf []), .string (strOf [])] 55
  rw [e] at r2
  refine ⟨⟨fresh R, fun _ => [], fun _ => [], ⟨((H.1.alloc _).alloc _).mono (fun k hk => ?_), (Below.heap_alloc _ _ _ r1.lt).trans r1, r2⟩, PreM.fresh R hR2⟩, ?_⟩
  · rcases hk with h | h | h
    · exact .inl (.inl h)
    · exact .inl (.inr h)
    · exact .inr (by rw [e]; exact h)
  · have hs := H.2.size
    exact (H.2.trans (Keep.alloc _ (fun k hk => by omega))).trans (Keep.alloc _ (fun k hk => by rw [e]; omega))
theorem extract_take (a : List UInt8) (n : Nat) : (strOf a).extract 0 n = strOf (a.take n) := by
  apply ByteArray.ext
  apply Array.ext'
  rw [ByteArray.data_extract]
  simp [strOf]
end Go.Proofs.YtlceemaannndbaaDoor

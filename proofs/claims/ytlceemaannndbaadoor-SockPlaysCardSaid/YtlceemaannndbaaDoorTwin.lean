/- Each call of the pair, and that the same call of the document's pair answers alike. -/
import Derived.Test.YtlceemaannndbaaDoorPlay
namespace Go.Proofs.YtlceemaannndbaaDoor
open Go.RowKit

/-- f is the number of the error ev. -/
def NumIs (ad : Nat → Addr) (ev : Value) (f : Int) : Prop :=
  (ev = .nilIface ∧ f = 0) ∨ (ev = .iface 73 (.pointer (some (ad 0))) ∧ f = 1) ∨ (ev = .iface 73 (.pointer (some (ad 1))) ∧ f = 5) ∨ (ev = .iface 73 (.pointer (some (ad 2))) ∧ f = 17)
theorem c_num (ad : Nat → Addr) (ev : Value) (f : Int) (w : World) (h : NumIs ad ev f) (hE : Eighteen w ad) : Calls Tryd.prog 13 #[ev] w fun e w' => e = .returned (.int .i64 f) ∧ Hid (Below w.heap.size w w') := by
  rcases h with ⟨rfl, rfl⟩ | ⟨rfl, rfl⟩ | ⟨rfl, rfl⟩ | ⟨rfl, rfl⟩
  · exact (num_none w).mono fun e w' ⟨h1, h2⟩ => ⟨h1, Lib.hid (by subst h2; exact Below.refl _ _)⟩
  · exact (num_range ad w hE).mono fun e w' ⟨h1, h2⟩ => ⟨h1, Lib.hid h2⟩
  · exact (num_broken ad w hE).mono fun e w' ⟨h1, h2⟩ => ⟨h1, Lib.hid h2⟩
  · exact (num_state ad w hE).mono fun e w' ⟨h1, h2⟩ => ⟨h1, Lib.hid h2⟩
section
variable {B : Nat} {K : Nat → Prop} {P : Pr} {R : Rp} {k g m : Nat}
/-- What the document's pair answers next, and that both pairs agree then. -/
def Next (B : Nat) (K : Nat → Prop) (k g m : Nat) (P' : Pr) (w w' : World) : Prop := (∃ R', Both w' B K g m P' R' ∧ Sim (k + 1) P' R') ∧ Keep K w w'
theorem next_same {P' : Pr} {R' : Rp} {w : World} (h : Both w B K g m P' R') (hs : Sim (k + 1) P' R') : Next B K k g m P' w w := ⟨⟨R', h, hs⟩, Keep.refl _ _⟩

theorem c_write (ad : Nat → Addr) (ed : Int) (X Ao : Option Addr) (L c cap : Nat) (bs : List UInt8) (w : World) (hE : Errs w ad) (h : Both w B K g m P R) (hs : Sim k P R) (hk : k ≤ 300)
    (hL : bs.length = L) (hc : L ≤ c) (hcm : c ≤ 9223372036854775807) (hc' : L ≤ cap) (hcm' : cap ≤ 9223372036854775807) (hx : Rd w w.heap.size X (bs.map bv)) :
    Calls Tryd.prog 11 #[.pointer (some ⟨g, 0, none⟩), .int .i64 ed, .slice X L c] w fun x w' => ∃ (n : Int) (ev : Value), x = .returned (.tuple #[.int .i64 n, ev]) ∧
      Hid (∃ (P' : Pr) (f : Int), NumIs ad ev f ∧ Keep K w w' ∧ Both w' B K g m P' R ∧ (Rd w' w'.heap.size Ao (bs.map bv) →
        Calls Tryd.prog 12 #[.pointer (some ⟨m, 0, none⟩), .int .i64 ed, .slice Ao L cap] w' fun x w2 => x = .returned (.tuple #[.int .i64 n, .int .i64 f]) ∧ Hid (Next B K k g m P' w' w2))) := by
  cases hend : endB ed
  · refine (write_bad ad ⟨g, 0, none⟩ ed _ w hE hend).mono fun x w' ⟨hx', hw⟩ => ⟨_, _, hx', Lib.hid ⟨P, 1, .inr (.inl ⟨rfl, rfl⟩), by subst hw; exact Keep.refl _ _, by subst hw; exact h, fun _ => ?_⟩⟩
    subst hw
    exact (rwrite_bad ⟨m, 0, none⟩ ed _ w hend).mono fun x w2 ⟨h1, h2⟩ => ⟨h1, Lib.hid (by subst h2; exact next_same h hs.next)⟩
  · obtain ⟨i, hi, rfl⟩ := end_of hend
    have hcut := hs.cut
    obtain ⟨F', hR, hto⟩ := h.ref
    cases hc1 : P.cut
    · have hsh := hs.shut_eq hc1 hi
      rw [hc1] at hcut
      cases hc2 : (P.ws i).shut
      · rw [hc2] at hsh
        obtain ⟨G', hH, hpt⟩ := h.pair
        refine (h_write g i _ rfl X L c bs w hH hi hc1 hc2 hL hc hcm hx).mono fun x w' ⟨hx', H⟩ => ⟨_, _, hx', Lib.hid ⟨P.wrote i bs, 0, .inl ⟨rfl, rfl⟩, (hpt _ _ H.out).2, (hpt _ _ H.out).1, fun hrd => ?_⟩⟩
        obtain ⟨F2, hR2, hto2⟩ := (hpt _ _ H.out).1.ref
        have hbig := hs.big i hi
        have := (rwrite_ok m i Ao L cap bs w' hR2 hi hcut.symm hsh (by omega) hL hc' hcm' hrd)
        rw [← hs.puts hi] at this
        exact this.mono fun x w2 ⟨h1, h2⟩ => ⟨h1, Lib.hid ⟨⟨_, (hto2 _ _ h2.out).1, hs.wrote h.rok hi bs hc1⟩, (hto2 _ _ h2.out).2⟩⟩
      · rw [hc2] at hsh
        refine (h_write_shut ad g i _ rfl _ w hE h.has hi hc1 hc2).mono fun x w' ⟨hx', n, hw⟩ => ⟨_, _, hx', Lib.hid ⟨P, 17, .inr (.inr (.inr ⟨rfl, rfl⟩)), by subst hw; exact Keep.stay (Stay.drewN w n), by subst hw; exact h.stay (Stay.drewN w n), fun _ => ?_⟩⟩
        subst hw
        have hB := h.stay (Stay.drewN w n)
        obtain ⟨F2, hR2⟩ := hB.refat
        exact (rwrite_shut m i _ _ hR2 hi hcut.symm hsh).mono fun x w2 ⟨h1, h2⟩ => ⟨h1, Lib.hid (by subst h2; exact next_same hB hs.next)⟩
    · rw [hc1] at hcut
      refine (h_write_cut ad g i _ rfl _ w hE h.has hi hc1).mono fun x w' ⟨hx', hw⟩ => ⟨_, _, hx', Lib.hid ⟨P, 5, .inr (.inr (.inl ⟨rfl, rfl⟩)), by subst hw; exact Keep.refl _ _, by subst hw; exact h, fun _ => ?_⟩⟩
      subst hw
      exact (rwrite_cut m i _ w hR hi hcut.symm).mono fun x w2 ⟨h1, h2⟩ => ⟨h1, Lib.hid (by subst h2; exact next_same h hs.next)⟩
theorem c_carry (ad : Nat → Addr) (ed nn : Int) (w : World) (hE : Errs w ad) (h : Both w B K g m P R) (hs : Sim k P R) (hn : nn ≤ 9223372036854775807) :
    Calls Tryd.prog 17 #[.pointer (some ⟨g, 0, none⟩), .int .i64 ed, .int .i64 nn] w fun x w' => ∃ (n : Int) (ev : Value), x = .returned (.tuple #[.int .i64 n, ev]) ∧
      Hid (∃ (P' : Pr) (f : Int), NumIs ad ev f ∧ Keep K w w' ∧ Both w' B K g m P' R ∧
        Calls Tryd.prog 18 #[.pointer (some ⟨m, 0, none⟩), .int .i64 ed, .int .i64 nn] w' fun x w2 => x = .returned (.tuple #[.int .i64 n, .int .i64 f]) ∧ Hid (Next B K k g m P' w' w2)) := by
  cases hend : (endB ed && decide (0 ≤ nn))
  · refine (carry_bad ad ⟨g, 0, none⟩ ed nn w hE hend).mono fun x w' ⟨hx', hw⟩ => ⟨_, _, hx', Lib.hid ⟨P, 1, .inr (.inl ⟨rfl, rfl⟩), by subst hw; exact Keep.refl _ _, by subst hw; exact h, ?_⟩⟩
    subst hw
    exact (rcarry_bad ⟨m, 0, none⟩ ed nn w hend).mono fun x w2 ⟨h1, h2⟩ => ⟨h1, Lib.hid (by subst h2; exact next_same h hs.next)⟩
  · simp at hend
    obtain ⟨i, hi, rfl⟩ := end_of hend.1
    obtain ⟨n, rfl⟩ : ∃ n : Nat, nn = (n : Int) := ⟨nn.toNat, by omega⟩
    have hcut := hs.cut
    obtain ⟨F', hR, hto⟩ := h.ref
    cases hc1 : P.cut
    · rw [hc1] at hcut
      obtain ⟨G', hH, hpt⟩ := h.pair
      refine (h_carry g i _ rfl n _ rfl w hH hi hc1 (by omega)).mono fun x w' ⟨hx', H⟩ => ⟨_, _, hx', Lib.hid ⟨P.carry i n, 0, .inl ⟨rfl, rfl⟩, (hpt _ _ H.out).2, (hpt _ _ H.out).1, ?_⟩⟩
      obtain ⟨F2, hR2, hto2⟩ := (hpt _ _ H.out).1.ref
      have := (rcarry_ok m i n w' hR2 hi hcut.symm (by omega))
      rw [← hs.moved h.rok hi] at this
      exact this.mono fun x w2 ⟨h1, h2⟩ => ⟨h1, Lib.hid ⟨⟨_, (hto2 _ _ ⟨ref_to h2.out.1, h2.out.2⟩).1, hs.carry h.rok hi n hc1⟩, (hto2 _ _ ⟨ref_to h2.out.1, h2.out.2⟩).2⟩⟩
    · rw [hc1] at hcut
      refine (h_carry_cut ad g i _ rfl _ (by omega) w hE h.has hi hc1).mono fun x w' ⟨hx', hw⟩ => ⟨_, _, hx', Lib.hid ⟨P, 5, .inr (.inr (.inl ⟨rfl, rfl⟩)), by subst hw; exact Keep.refl _ _, by subst hw; exact h, ?_⟩⟩
      subst hw
      exact (rcarry_cut m i n w hR hi hcut.symm).mono fun x w2 ⟨h1, h2⟩ => ⟨h1, Lib.hid (by subst h2; exact next_same h hs.next)⟩
theorem c_shut (ad : Nat → Addr) (ed : Int) (w : World) (hE : Errs w ad) (h : Both w B K g m P R) (hs : Sim k P R) :
    Calls Tryd.prog 15 #[.pointer (some ⟨g, 0, none⟩), .int .i64 ed] w fun x w' => ∃ ev : Value, x = .returned ev ∧
      Hid (∃ (P' : Pr) (f : Int), NumIs ad ev f ∧ Keep K w w' ∧ Both w' B K g m P' R ∧ ∀ w1, Both w1 B K g m P' R →
        Calls Tryd.prog 16 #[.pointer (some ⟨m, 0, none⟩), .int .i64 ed] w1 fun x w2 => x = .returned (.int .i64 f) ∧ Hid (Next B K k g m P' w1 w2)) := by
  cases hend : endB ed
  · refine (shut_bad ad ⟨g, 0, none⟩ ed w hE hend).mono fun x w' ⟨hx', hw⟩ => ⟨_, hx', Lib.hid ⟨P, 1, .inr (.inl ⟨rfl, rfl⟩), by subst hw; exact Keep.refl _ _, by subst hw; exact h, fun w1 hb => ?_⟩⟩
    exact (rshut_bad ⟨m, 0, none⟩ ed w1 hend).mono fun x w2 ⟨h1, h2⟩ => ⟨h1, Lib.hid (by subst h2; exact next_same hb hs.next)⟩
  · obtain ⟨i, hi, rfl⟩ := end_of hend
    have hcut := hs.cut
    cases hc1 : P.cut
    · rw [hc1] at hcut
      obtain ⟨G', hH, hpt⟩ := h.pair
      refine (h_shut g i _ rfl w hH hi hc1).mono fun x w' ⟨hx', H⟩ => ⟨_, hx', Lib.hid ⟨P.setShut i, 0, .inl ⟨rfl, rfl⟩, (hpt _ _ H.out).2, (hpt _ _ H.out).1, fun w1 hb => ?_⟩⟩
      obtain ⟨F2, hR2, hto2⟩ := hb.ref
      exact (rshut_ok m i w1 hR2 hi hcut.symm).mono fun x w2 ⟨h1, h2⟩ => ⟨h1, Lib.hid ⟨⟨_, (hto2 _ _ ⟨ref_to h2.out.1, h2.out.2⟩).1, hs.setShut hi hc1⟩, (hto2 _ _ ⟨ref_to h2.out.1, h2.out.2⟩).2⟩⟩
    · rw [hc1] at hcut
      refine (h_shut_cut ad g i _ rfl w hE h.has hi hc1).mono fun x w' ⟨hx', hw⟩ => ⟨_, hx', Lib.hid ⟨P, 5, .inr (.inr (.inl ⟨rfl, rfl⟩)), by subst hw; exact Keep.refl _ _, by subst hw; exact h, fun w1 hb => ?_⟩⟩
      obtain ⟨F2, hR2⟩ := hb.refat
      exact (rshut_cut m i w1 hR2 hi hcut.symm).mono fun x w2 ⟨h1, h2⟩ => ⟨h1, Lib.hid (by subst h2; exact next_same hb hs.next)⟩
theorem empty_str (w : World) : (convert 30 9 (.slice none 0 0)).run Tryd.prog w = .ok (.string (strOf [])) w := Rd.toStr (bs := []) (B := 0) (A := none) (.inl rfl) 0 0 rfl
theorem c_read (ad : Nat → Addr) (ed nn : Int) (w : World) (hE : Errs w ad) (h : Both w B K g m P R) (hs : Sim k P R) (hn : nn ≤ 9223372036854775807) :
    Calls Tryd.prog 19 #[.pointer (some ⟨g, 0, none⟩), .int .i64 ed, .int .i64 nn] w fun x w' => ∃ (A1 : Option Addr) (m1 c1 : Nat) (ev : Value), x = .returned (.tuple #[.slice A1 m1 c1, ev]) ∧
      Hid (∃ (P' : Pr) (f : Int) (t : ByteArray), NumIs ad ev f ∧ Keep K w w' ∧
        Calls Tryd.prog 20 #[.pointer (some ⟨m, 0, none⟩), .int .i64 ed, .int .i64 nn] w' fun x w2 => ∃ (A2 : Option Addr) (m2 c2 : Nat), x = .returned (.tuple #[.slice A2 m2 c2, .int .i64 f]) ∧
          Hid (Next B K k g m P' w' w2 ∧ (convert 30 9 (.slice A1 m1 c1)).run Tryd.prog w2 = .ok (.string t) w2 ∧ (convert 30 9 (.slice A2 m2 c2)).run Tryd.prog w2 = .ok (.string t) w2)) := by
  cases hend : (endB ed && decide (0 ≤ nn))
  · refine (read_bad ad ⟨g, 0, none⟩ ed nn w hE hend).mono fun x w' ⟨hx', n, hw⟩ => ⟨_, _, _, _, hx', Lib.hid ⟨P, 1, strOf [], .inr (.inl ⟨rfl, rfl⟩), by subst hw; exact Keep.stay (Stay.drewN w n), ?_⟩⟩
    subst hw
    exact (rtake_bad ⟨m, 0, none⟩ ed nn _ hend).mono fun x w2 ⟨h1, h2⟩ => ⟨_, _, _, h1, Lib.hid ⟨by subst h2; exact next_same (h.stay (Stay.drewN w n)) hs.next, empty_str w2, empty_str w2⟩⟩
  · simp at hend
    obtain ⟨i, hi, rfl⟩ := end_of hend.1
    obtain ⟨n, rfl⟩ : ∃ n : Nat, nn = (n : Int) := ⟨nn.toNat, by omega⟩
    have hj : 1 - i < 2 := by omega
    have hcar := (hs.way (1 - i) hj).car
    have hrd := h.rok.rd (1 - i)
    by_cases hc1 : P.cut = true ∧ (P.ws (1 - i)).car = 0
    · refine (h_read_cut ad g i _ rfl n _ rfl w hE h.has hi hc1.1 hc1.2).mono fun x w' ⟨hx', n', hw⟩ => ⟨_, _, _, _, hx', Lib.hid ⟨P, 5, strOf [], .inr (.inr (.inl ⟨rfl, rfl⟩)), by subst hw; exact Keep.stay (Stay.drewN w n'), ?_⟩⟩
      subst hw
      have hB := h.stay (Stay.drewN w n')
      obtain ⟨F2, hR2⟩ := hB.refat
      refine (rtake_cut m i (1 - i) n _ hR2 hi rfl (by rw [← hs.cut]; exact hc1.1) (by omega)).mono fun x w2 ⟨h1, n2, h2⟩ => ⟨_, _, _, h1, Lib.hid ⟨?_, empty_str w2, empty_str w2⟩⟩
      subst h2
      exact ⟨⟨R, hB.stay (Stay.drewN _ n2), hs.next⟩, Keep.stay (Stay.drewN _ n2)⟩
    · obtain ⟨G', hH, hpt⟩ := h.pair2
      refine (h_read2 g i _ rfl n _ rfl w hH hi (by omega) (fun hcut h0 => hc1 ⟨hcut, h0⟩)).mono fun x w' ⟨A1, m1, c1, hx', H⟩ => ⟨A1, m1, c1, _, hx', Lib.hid ⟨P.took (1 - i) n, 0, strOf ((P.ws (1 - i)).row.take (P.takes (1 - i) n)), .inl ⟨rfl, rfl⟩, (hpt _ _ H.out.2).2, ?_⟩⟩
      obtain ⟨F2, hR2, hto2⟩ := (hpt _ _ H.out.2).1.ref
      refine (rtake_ok m i (1 - i) n w' hR2 hi rfl (by omega) (fun hcut h0 => hc1 ⟨by rw [hs.cut]; exact hcut, by omega⟩)).mono fun x w2 ⟨A2, m2, c2, h1, h2⟩ => ⟨A2, m2, c2, h1, Lib.hid ?_⟩
      have hb2 := hto2 _ _ ⟨ref_to h2.out.2.2.1, h2.out.2.2.2⟩
      have hbytes : (P.ws (1 - i)).row.take (P.takes (1 - i) n) = ((R.ws (1 - i)).all.drop (R.ws (1 - i)).rd).take (R.takes (1 - i) n) := by rw [(hs.way (1 - i) hj).row, hs.takes hj]
      refine ⟨⟨⟨_, hb2.1.mono (fun k hk => .inl hk), hs.took h.rok hj n⟩, hb2.2.mono (fun k hk => .inl hk)⟩, (H.out.1.to (K := K) hb2.2).str, ?_⟩
      rw [hbytes]
      exact h2.out.2.1.toStr m2 c2 h2.out.1
end
end Go.Proofs.YtlceemaannndbaaDoor
namespace Go.Proofs.YtlceemaannndbaaDoor
open Go.RowKit
theorem OpsAt.get2 {W : World} {B : Nat} {A : Option Addr} {os : List OpV} (h : OpsAt W B A os) {k : Nat} (hk : k < os.length) :
    ∃ (b off : Nat) (kd ed nn : Int) (Ao : Option Addr) (cap : Nat) (bts : List UInt8), A = some ⟨b, off, none⟩ ∧ b < B ∧ Hid (OpV.ok W B ⟨kd, ed, nn, Ao, cap, bts⟩ ∧ (⟨kd, ed, nn, Ao, cap, bts⟩ : OpV) ∈ os) ∧ W.cell? ⟨b, off + k * 4, none⟩ = some (.int .i64 kd) ∧ W.cell? ⟨b, off + k * 4 + 1, none⟩ = some (.int .i64 ed) ∧ W.cell? ⟨b, off + k * 4 + 2, none⟩ = some (.int .i64 nn) ∧ W.cell? ⟨b, off + k * 4 + 3, none⟩ = some (.slice Ao bts.length cap) := by
  rcases h with h0 | ⟨b, off, h1, h2, h3⟩
  · subst h0; simp at hk
  · obtain ⟨g, g0, g1, g2, g3⟩ := h3 k _ (List.getElem?_eq_getElem hk)
    exact ⟨b, off, _, _, _, _, _, _, h1, h2, Lib.hid ⟨g, List.getElem_mem hk⟩, g0, g1, g2, g3⟩
theorem Marked.keep {K : Nat → Prop} {w w1 w' : World} {X : Option Addr} {n c : Nat} {bs : List UInt8} (h : Marked w w1 X n c bs) (hk : Keep K w1 w') (hK : ∀ k, w.heap.size ≤ k → k < w1.heap.size → K k) : Rd w' w'.heap.size X ((bs ++ marks).map bv) := by
  obtain ⟨_, _, h3, h4⟩ := h
  rcases h3 with h3 | ⟨ad, rfl, h6, h7⟩
  · exact .inl h3
  · refine .inr ⟨ad, rfl, Nat.lt_of_lt_of_le h6 hk.size, fun j u hj => (cell_block ?_).trans (h7 j u hj)⟩
    have e : (ad.add j).block = ad.block := by unfold Addr.add; split <;> rfl
    rw [e]
    exact hk.block _ (hK _ (h4 ad rfl) h6)
theorem rd_front {w : World} {X : Option Addr} {bs ms : List UInt8} (h : Rd w w.heap.size X ((bs ++ ms).map bv)) : Rd w w.heap.size X (bs.map bv) := by
  have := h.take bs.length
  rwa [← List.map_take, List.take_left] at this
theorem box_cells {w : World} {b : Nat} {a0 a1 a2 a3 : Value} (h : Row w b 37 [a0, a1, a2, a3]) : w.cell? ⟨b, 0, none⟩ = some a0 ∧ w.cell? ⟨b, 1, none⟩ = some a1 ∧ w.cell? ⟨b, 2, none⟩ = some a2 ∧ w.cell? ⟨b, 3, none⟩ = some a3 := ⟨h.cell 0, h.cell 1, h.cell 2, h.cell 3⟩
theorem play_fin {W0 w w' : World} {B g m k : Nat} {P : Pr} {R : Rp} {K : Nat → Prop} (h : Keep (fun k => k < B) W0 w) (hk : Keep (fun k => k < B) w w') (hb : Both w' B K g m P R) (hK : ∀ k, k < B → K k) (hs : Sim k P R) : PlayI W0 w' B g m k := ⟨⟨P, R, hb.mono hK, hs⟩, h.trans hk⟩
end Go.Proofs.YtlceemaannndbaaDoor
namespace Go.Proofs.YtlceemaannndbaaDoor
open Go.RowKit
theorem hid_one {α : Sort _} {p : α → Prop} (h : Hid (∃ a, p a)) : ∃ a, Hid (p a) := by
  obtain ⟨a, h⟩ := h.out
  exact ⟨a, Lib.hid h⟩
theorem hid_two {α : Sort _} {β : Sort _} {p : α → β → Prop} (h : Hid (∃ a b, p a b)) : ∃ a b, Hid (p a b) := by
  obtain ⟨a, b, h⟩ := h.out
  exact ⟨a, b, Lib.hid h⟩
theorem hid_three {α : Sort _} {β : Sort _} {γ : Sort _} {p : α → β → γ → Prop} (h : Hid (∃ a b c, p a b c)) : ∃ a b c, Hid (p a b c) := by
  obtain ⟨a, b, c, h⟩ := h.out
  exact ⟨a, b, c, Lib.hid h⟩
end Go.Proofs.YtlceemaannndbaaDoor

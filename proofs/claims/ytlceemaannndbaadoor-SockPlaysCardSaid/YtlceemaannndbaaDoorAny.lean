/- Write, Carry, Shut, Read at whatever state of the pair: refused or not, the pair behind is that of the call with a count of its own. -/
import Derived.Test.YtlceemaannndbaaDoorOps
import Derived.Test.YtlceemaannndbaaDoorLostw
namespace Go.Proofs.YtlceemaannndbaaDoor
open Go.RowKit

theorem put_self (P : Pr) (i : Nat) : P.put i (P.ws i) = P := by
  cases P with
  | mk room ws cut =>
    simp only [Pr.put]
    congr 1
    funext j
    by_cases e : j = i <;> simp [e]
theorem wrote_zero (P : Pr) (i : Nat) (bs : List UInt8) (h : P.puts i bs.length = 0) : P.wrote i bs = P := by
  rw [Pr.wrote, h, List.take_zero, List.append_nil]
  exact put_self P i
theorem carry_zero (P : Pr) (i : Nat) : P.carry i 0 = P := by
  rw [Pr.carry, Pr.moved, Nat.zero_min, Nat.add_zero]
  exact put_self P i
theorem took_zero (P : Pr) (i : Nat) : P.took i 0 = P := by
  rw [Pr.took, Pr.takes, Nat.zero_min, List.drop_zero, Nat.sub_zero]
  exact put_self P i
theorem puts_free (P : Pr) (i L : Nat) (h : (P.cut || (P.ws i).shut) = true) : P.puts i L = 0 := by
  rw [Pr.puts, Pr.free, if_pos h, Nat.min_zero]
section
variable {B : Nat} {K : Nat → Prop} {P : Pr}
theorem h_write_any (ad : Nat → Addr) (g i : Nat) (e : Int) (he : e = (i : Int)) (A : Option Addr) (L c : Nat) (bs : List UInt8) (w : World) (hE : Errs w ad) (h : Has w B K g P) (hi : i < 2)
    (hL : bs.length = L) (hLc : L ≤ c) (hcm : c ≤ 9223372036854775807) (hr : Rd w w.heap.size A (bs.map bv)) :
    Calls Tryd.prog 11 #[.pointer (some ⟨g, 0, none⟩), .int .i64 e, .slice A L c] w fun x w' => ∃ ev, x = .returned (.tuple #[.int .i64 (P.puts i L : Int), ev]) ∧
      Hid ((ev = .nilIface ∨ ∃ a, ev = .iface 73 (.pointer (some a)) ∧ P.puts i L = 0) ∧ Has w' B K g (P.wrote i bs) ∧ Keep K w w') := by
  cases hc : P.cut
  · cases hs : (P.ws i).shut
    · exact (h_write g i e he A L c bs w h hi hc hs hL hLc hcm hr).mono fun x w' ⟨hx, H⟩ => ⟨_, hx, Lib.hid ⟨.inl rfl, H.out⟩⟩
    · have h0 : P.puts i L = 0 := puts_free P i L (by rw [hs]; simp)
      rw [wrote_zero P i bs (by rw [hL]; exact h0), h0]
      exact (h_write_shut ad g i e he _ w hE h hi hc hs).mono fun x w' ⟨hx, n, hn⟩ => ⟨_, hx, Lib.hid ⟨.inr ⟨_, rfl, rfl⟩, by subst hn; exact ⟨h.stay (Stay.drewN w n), Keep.stay (Stay.drewN w n)⟩⟩⟩
  · have h0 : P.puts i L = 0 := puts_free P i L (by rw [hc]; simp)
    rw [wrote_zero P i bs (by rw [hL]; exact h0), h0]
    exact (h_write_cut ad g i e he _ w hE h hi hc).mono fun x w' ⟨hx, hw⟩ => ⟨_, hx, Lib.hid ⟨.inr ⟨_, rfl, rfl⟩, by subst hw; exact ⟨h, Keep.refl _ _⟩⟩⟩
theorem h_carry_any (ad : Nat → Addr) (g i : Nat) (e : Int) (he : e = (i : Int)) (z : Int) (hz : z ≤ 9223372036854775807) (w : World) (hE : Errs w ad) (h : Has w B K g P) (hi : i < 2) :
    Calls Tryd.prog 17 #[.pointer (some ⟨g, 0, none⟩), .int .i64 e, .int .i64 z] w fun x w' => ∃ v, x = .returned v ∧ Hid (∃ n, Has w' B K g (P.carry i n) ∧ Keep K w w') := by
  by_cases hneg : z < 0
  · subst he
    refine (carry_bad ad ⟨g, 0, none⟩ (i : Int) z w hE (by rw [end_nat hi]; simp; omega)).mono fun x w' ⟨hx, hw⟩ => ⟨_, hx, Lib.hid ⟨0, by subst hw; rw [carry_zero]; exact ⟨h, Keep.refl _ _⟩⟩⟩
  · cases hc : P.cut
    · exact (h_carry g i e he z.toNat z (by omega) w h hi hc (by omega)).mono fun x w' ⟨hx, H⟩ => ⟨_, hx, Lib.hid ⟨_, H.out⟩⟩
    · exact (h_carry_cut ad g i e he z (by omega) w hE h hi hc).mono fun x w' ⟨hx, hw⟩ => ⟨_, hx, Lib.hid ⟨0, by subst hw; rw [carry_zero]; exact ⟨h, Keep.refl _ _⟩⟩⟩
theorem h_read_any (ad : Nat → Addr) (g i : Nat) (e : Int) (he : e = (i : Int)) (z : Int) (hz : z ≤ 9223372036854775807) (w : World) (hE : Errs w ad) (h : Has w B K g P) (hi : i < 2) :
    Calls Tryd.prog 19 #[.pointer (some ⟨g, 0, none⟩), .int .i64 e, .int .i64 z] w fun x w' => ∃ A m c ev, x = .returned (.tuple #[.slice A m c, ev]) ∧ Hid (∃ n, New w w' A m c ((P.ws (1 - i)).row.take (P.takes (1 - i) n)) ∧ Has w' B K g (P.took (1 - i) n) ∧ Keep K w w') := by
  have hn0 : ∀ n, New w (w.drewN n) none 0 0 ((P.ws (1 - i)).row.take (P.takes (1 - i) 0)) := fun n => by
    rw [Pr.takes, Nat.zero_min, List.take_zero]
    exact ⟨rfl, Nat.le_refl _, by decide, .inl rfl, fun a ha => by cases ha⟩
  by_cases hneg : z < 0
  · subst he
    refine (read_bad ad ⟨g, 0, none⟩ (i : Int) z w hE (by rw [end_nat hi]; simp; omega)).mono fun x w' ⟨hx, n, hw⟩ => ⟨_, _, _, _, hx, Lib.hid ⟨0, by subst hw; rw [took_zero]; exact ⟨hn0 n, h.stay (Stay.drewN w n), Keep.stay (Stay.drewN w n)⟩⟩⟩
  · by_cases hc : P.cut = true ∧ (P.ws (1 - i)).car = 0
    · exact (h_read_cut ad g i e he z.toNat z (by omega) w hE h hi hc.1 hc.2).mono fun x w' ⟨hx, n, hw⟩ => ⟨_, _, _, _, hx, Lib.hid ⟨0, by subst hw; rw [took_zero]; exact ⟨hn0 n, h.stay (Stay.drewN w n), Keep.stay (Stay.drewN w n)⟩⟩⟩
    · exact (h_read g i e he z.toNat z (by omega) w h hi (by omega) (fun hcut h0 => hc ⟨hcut, h0⟩)).mono fun x w' ⟨A, m, c, hx, H⟩ => ⟨A, m, c, _, hx, Lib.hid ⟨_, H.out⟩⟩
theorem h_shut_any (ad : Nat → Addr) (g i : Nat) (e : Int) (he : e = (i : Int)) (w : World) (hE : Errs w ad) (h : Has w B K g P) (hi : i < 2) :
    Calls Tryd.prog 15 #[.pointer (some ⟨g, 0, none⟩), .int .i64 e] w fun x w' => ∃ v, x = .returned v ∧ Hid (Has w' B K g (if P.cut then P else P.setShut i) ∧ Keep K w w') := by
  cases hc : P.cut
  · exact (h_shut g i e he w h hi hc).mono fun x w' ⟨hx, H⟩ => ⟨_, hx, Lib.hid H.out⟩
  · exact (h_shut_cut ad g i e he w hE h hi hc).mono fun x w' ⟨hx, hw⟩ => ⟨_, hx, Lib.hid (by subst hw; exact ⟨h, Keep.refl _ _⟩)⟩
end
/-- The k-th call of a script. -/
theorem OpsAt.get {W : World} {B : Nat} {A : Option Addr} {os : List OpV} (h : OpsAt W B A os) {k : Nat} (hk : k < os.length) :
    ∃ (b off : Nat) (kd ed nn : Int) (Ao : Option Addr) (cap : Nat) (bts : List UInt8), A = some ⟨b, off, none⟩ ∧ b < B ∧ Hid (OpV.ok W B ⟨kd, ed, nn, Ao, cap, bts⟩) ∧ W.cell? ⟨b, off + k * 4, none⟩ = some (.int .i64 kd) ∧ W.cell? ⟨b, off + k * 4 + 1, none⟩ = some (.int .i64 ed) ∧ W.cell? ⟨b, off + k * 4 + 2, none⟩ = some (.int .i64 nn) ∧ W.cell? ⟨b, off + k * 4 + 3, none⟩ = some (.slice Ao bts.length cap) := by
  rcases h with h0 | ⟨b, off, h1, h2, h3⟩
  · subst h0; simp at hk
  · obtain ⟨g, g0, g1, g2, g3⟩ := h3 k _ (List.getElem?_eq_getElem hk)
    exact ⟨b, off, _, _, _, _, _, _, h1, h2, Lib.hid g, g0, g1, g2, g3⟩
/-- An end's number out of a script's number. -/
theorem and_one (z : Int) : ∃ i : Nat, i < 2 ∧ bits BinOp.and IntKind.i64 z 1 = (i : Int) := by
  have h2 : (BitVec.ofInt 64 (1 : Int)).toNat = 1 := rfl
  have h1 : (BitVec.ofInt 64 z &&& BitVec.ofInt 64 1).toNat < 2 := by
    rw [BitVec.toNat_and, h2, Nat.and_one_is_mod]
    omega
  refine ⟨(BitVec.ofInt 64 z &&& BitVec.ofInt 64 1).toNat, h1, ?_⟩
  show IntKind.i64.wrap ((BitVec.ofInt 64 z &&& BitVec.ofInt 64 1).toNat : Int) = _
  generalize (BitVec.ofInt 64 z &&& BitVec.ofInt 64 1).toNat = n at h1
  rcases (by omega : n = 0 ∨ n = 1) with rfl | rfl <;> rfl
end Go.Proofs.YtlceemaannndbaaDoor

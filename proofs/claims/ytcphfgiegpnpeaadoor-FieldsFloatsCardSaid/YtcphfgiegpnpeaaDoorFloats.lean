/- The law FieldsFloats: every float64 comes back bit by bit. -/
import Derived.Test.YtcphfgiegpnpeaaDoorAlive
namespace Go.Proofs.YtcphfgiegpnpeaaDoor
open Go.RowKit

theorem fs_sum (b : Nat) : sumS [102] [{ f := b }] = .ok 8 := by rfl
theorem fs_enc (b : Nat) : encB [102] [{ f := b }] = be 8 b := by simp [encB, fieldB, hd]
theorem fs_dec (b : Nat) (hb : b < 18446744073709551616) : decS [102] (be 8 b) = .ok [{ f := b }] := by
  have hl := be_length 8 b
  have e : spanS 102 (be 8 b) = .ok 8 := by
    rw [spanS_float (by rw [hl]; decide) (by decide) rfl]; rfl
  have e1 : spanS (102 : UInt8).toNat (be 8 b) = .ok 8 := e
  have e2 : (be 8 b).drop 8 = [] := List.drop_eq_nil_of_le (by omega)
  have e3 : (be 8 b).take 8 = be 8 b := List.take_of_length_le (by omega)
  rw [decS, e1]
  simp only [e2, e3, decS, if_true]
  have e4 : cellS (102 : UInt8).toNat (be 8 b) = { f := b } := by
    have : (102 : UInt8).toNat = 102 := rfl
    rw [this, cellS, if_pos rfl, show hd 102 = 8 from rfl, e3, num_be, Nat.mod_eq_of_lt (by omega)]
  rw [e4]

theorem enc_f (E : Nat → Value) (b : Nat) (w : World) (hb64 : b < 18446744073709551616) (hE : Errs w E) (h5 : 5 ≤ w.heap.size) :
    Calls Tryd.prog 12 #[.string ⟨#[102]⟩, .slice (some ⟨w.heap.size, 0, none⟩) 1 1] (w.alloc (.cells #[.int .i64 0, .float .f64 b, .string ⟨#[]⟩] 49))
      fun e w' => ∃ g c, e = .returned (.tuple #[.slice (some ⟨g, 0, none⟩) 8 c, .nilIface]) ∧ Hid (Rd w' w'.heap.size (some ⟨g, 0, none⟩) ((be 8 b).map bv) ∧ 8 ≤ c ∧ Below w.heap.size w w') := by
  have hb : Below w.heap.size w (w.alloc (.cells #[.int .i64 0, .float .f64 b, .string ⟨#[]⟩] 49)) := (Below.refl _ _).alloc (Nat.le_refl _) _
  have h := encode_ok E ⟨#[102]⟩ 1 (some ⟨w.heap.size, 0, none⟩) [{ f := b }] _ (hE.below h5 hb) (by simp; omega) (by decide) rfl
    (.inr ⟨w.heap.size, 0, rfl, by simp, fun k x hx => by
      match k with
      | 0 => simp at hx; subst hx; simp
      | k + 1 => simp at hx⟩)
    (by intro x hx; simp at hx; subst hx; exact ⟨by show (-9223372036854775808 : Int) ≤ 0; decide, by show (0 : Int) ≤ 9223372036854775807; decide, hb64, Nat.zero_le _⟩) (by decide) 8 (by decide) (fs_sum b) (by decide)
  refine h.mono fun e w' ⟨v, he, hh⟩ => ?_
  obtain ⟨ho, hb2⟩ := hh.out
  have e0 : encB (⟨#[102]⟩ : ByteArray).data.toList [{ f := b }] = be 8 b := fs_enc b
  rw [e0, be_length] at ho
  rcases ho.2 with ⟨_, h0⟩ | ⟨g, c, cur, rfl, _, hg, hnc, _⟩
  · omega
  obtain ⟨g', c', hv, _, hlt⟩ := ho.form (by decide)
  obtain ⟨rfl, rfl⟩ : g = g' ∧ c = c' := by
    injection hv with h1 _ h3
    injection h1 with h1
    injection h1 with h1
    exact ⟨h1, h3⟩
  exact ⟨g, c, he, Lib.hid ⟨.inr ⟨⟨g, 0, none⟩, rfl, hlt, ho.cells (g := g) rfl⟩, hnc, hb.trans (hb2.mono (by simp))⟩⟩

theorem dec_f (E : Nat → Value) (b g c : Nat) (w : World) (hb64 : b < 18446744073709551616) (hE : Errs w E) (h5 : 5 ≤ w.heap.size) (hr : Rd w w.heap.size (some ⟨g, 0, none⟩) ((be 8 b).map bv)) (hc : 8 ≤ c) :
    Calls Tryd.prog 18 #[.string ⟨#[102]⟩, .slice (some ⟨g, 0, none⟩) 8 c] w
      fun e w' => ∃ g2 c2, e = .returned (.tuple #[.slice (some ⟨g2, 0, none⟩) 1 c2, .nilIface]) ∧ Hid (w'.cell? ⟨g2, 1, none⟩ = some (.float .f64 b) ∧ Below w.heap.size w w') := by
  have h := decode_known E ⟨#[102]⟩ 8 c (some ⟨g, 0, none⟩) (be 8 b) w hE h5 (by decide) (by decide) (be_length _ _) (by decide) hc hr (by decide)
  refine h.mono fun e w' hh => ?_
  have hh' : DecPost E w (.ok [{ f := b }]) e w' := by rw [← fs_dec b hb64]; exact hh
  obtain ⟨v, he, ho, hb2⟩ := hh'
  obtain ⟨g2, c2, rfl, _, hlt⟩ := ho.form (Nat.zero_lt_one)
  refine ⟨g2, c2, he, Lib.hid ⟨?_, hb2⟩⟩
  have := ho.cellAt 1 (show 1 < 1 * 3 by decide)
  simpa [flat] using this

theorem addr_at (g k : Nat) : (⟨g, 0, none⟩ : Addr).add k = ⟨g, k, none⟩ := by
  unfold Addr.add
  split <;> simp_all
/-- 'u = u<<8 + uint64(x)'. -/
theorem add_step (a b : Nat) (ha : a < 72057594037927936) (hb : b < 256) :
    IntKind.u64.wrap (IntKind.u64.wrap ((a : Int) * 256) + IntKind.u64.wrap (b : Int)) = ((256 * a + b : Nat) : Int) := by
  rw [IntKind.wrap_u64, IntKind.wrap_u64, IntKind.wrap_u64]
  omega

set_option maxHeartbeats 400000 in
theorem floats_any (E : Nat → Value) (b : Nat) (w : World) (hb64 : b < 18446744073709551616) (hE : Errs w E) (h5 : 5 ≤ w.heap.size) :
    Calls Tryd.prog 9 #[.int .u64 (b : Int)] w fun e w' => e = .returned (.bool true) ∧ Below w.heap.size w w' := by
  have HE := Lib.hid hE
  clear hE
  have hfb := run_frombits
  have hbt := run_bits
  go_enter Tryd.func9, Tryd.ntmps9
  go_wp2_with fail
  with_reducible refine (alive_any E w HE.out h5).mono ?_
  rintro e w1 ⟨rfl, hb1⟩
  have HB1 := Lib.hid hb1
  have h51 : 5 ≤ w1.heap.size := Nat.le_trans h5 hb1.size
  clear hb1
  go_wp2_with fail
  with_reducible refine (enc_f E b w1 hb64 (HE.out.below h5 HB1.out) h51).mono ?_
  rintro e w2 ⟨g, c, rfl, H2⟩
  have h52 : 5 ≤ w2.heap.size := Nat.le_trans h51 H2.out.2.2.size
  go_wp2_with fail
  with_reducible refine (dec_f E b g c w2 hb64 ((HE.out.below h5 HB1.out).below h51 H2.out.2.2) h52 H2.out.1 H2.out.2.1).mono ?_
  rintro e w3 ⟨g2, c2, rfl, H3⟩
  have hcl := H3.out.1
  have HR := Lib.hid (H2.out.1.below H3.out.2)
  have HBE := Lib.hid (be_length 8 b)
  have HNB : Hid (num (be 8 b) = b) := Lib.hid (by rw [num_be, Nat.mod_eq_of_lt (by omega)])
  generalize be 8 b = bs at *
  go_wp2_with fail
  go_loop [7, 43] (fun n i => ∃ k : Nat, k ≤ 8 ∧ i = .int .i64 k ∧ n = .int .u64 (num (bs.take k) : Int)) (fun _ i => 8 - (intOf i).toNat)
  case atStart => exact ⟨0, Nat.zero_le _, rfl, rfl⟩
  case round =>
    obtain ⟨k, hk, rfl, rfl⟩ := hrel
    by_cases hlt : k < 8
    · have hlt2 : k < bs.length := by rw [HBE.out]; exact hlt
      obtain ⟨ad, had, _, hc⟩ := HR.out.cell (k := k) (u := bv bs[k]) (by simp [hlt2])
      injection had with had
      subst had
      unfold bv at hc
      rw [addr_at] at hc
      have HN8 := Lib.hid (num_lt8 bs k hlt2 (by rw [HBE.out]; omega))
      go_wp2_with fail
      refine ⟨⟨k + 1, by omega, by go_num, ?_⟩, by simp [intOf]; omega⟩
      rw [num_take bs k hlt2]
      rw [add_step _ _ HN8.out (bs[k].toNat_lt)]
    · have hk8 : bs.take k = bs := List.take_of_length_le (by rw [HBE.out]; omega)
      rw [hk8, HNB.out]
      clear hk8
      go_wp2_with fail
      go_ret
      exact ⟨rfl, (HB1.out.trans (H2.out.2.2.mono HB1.out.size)).trans (H3.out.2.mono (Nat.le_trans HB1.out.size H2.out.2.2.size))⟩
end Go.Proofs.YtcphfgiegpnpeaaDoor

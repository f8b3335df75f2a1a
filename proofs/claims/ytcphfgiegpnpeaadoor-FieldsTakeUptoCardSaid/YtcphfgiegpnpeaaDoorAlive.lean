/- What jackfieldlaw01.alive answers: true. -/
import Derived.Test.YtcphfgiegpnpeaaDoorDeco
namespace Go.Proofs.YtcphfgiegpnpeaaDoor
open Go.RowKit

def bht : ByteArray := ⟨#[98, 104, 116]⟩
def abS : ByteArray := ⟨#[97, 98]⟩
def cs3 : List FC := [{ n := 1 }, { n := 258 }, { s := abS }]
theorem bht_kn : kn bht.data.toList = true := by decide
theorem bht_sum : sumS bht.data.toList cs3 = .ok 6 := by rfl
theorem bht_enc : encB bht.data.toList cs3 = [1, 1, 2, 2, 97, 98] := by decide
theorem h_dec : decS [104] [1, 2] = .ok [{ n := 258 }] := by rfl

theorem Cs.new (w : World) : Cs (w.alloc (.cells #[.int .i64 1, .float .f64 0, .string ⟨#[]⟩, .int .i64 258, .float .f64 0, .string ⟨#[]⟩, .int .i64 0, .float .f64 0, .string ⟨#[97, 98]⟩] 49)) (w.heap.size + 1) (some ⟨w.heap.size, 0, none⟩) cs3 := by
  refine .inr ⟨w.heap.size, 0, rfl, by omega, fun k x hx => ?_⟩
  match k with
  | 0 => simp [cs3] at hx; subst hx; simp
  | 1 => simp [cs3] at hx; subst hx; simp
  | 2 => simp [cs3] at hx; subst hx; simp [abS]
  | k + 3 => simp [cs3] at hx
theorem cs3_ok : ∀ x ∈ cs3, x.ok := by
  intro x hx
  simp [cs3] at hx
  rcases hx with rfl | rfl | rfl <;> exact ⟨by decide, by decide, by decide, by decide⟩

theorem enc_bht (E : Nat → Value) (w : World) (hE : Errs w E) (h5 : 5 ≤ w.heap.size) :
    Calls Tryd.prog 12 #[.string ⟨#[98, 104, 116]⟩, .slice (some ⟨w.heap.size, 0, none⟩) 3 3]
      (w.alloc (.cells #[.int .i64 1, .float .f64 0, .string ⟨#[]⟩, .int .i64 258, .float .f64 0, .string ⟨#[]⟩, .int .i64 0, .float .f64 0, .string ⟨#[97, 98]⟩] 49))
      fun e w' => ∃ g c, e = .returned (.tuple #[.slice (some ⟨g, 0, none⟩) 6 c, .nilIface]) ∧ Hid (Rd w' w'.heap.size (some ⟨g, 0, none⟩) (([1, 1, 2, 2, 97, 98] : List UInt8).map bv) ∧ Below w.heap.size w w') := by
  have hb : Below w.heap.size w (w.alloc (.cells #[.int .i64 1, .float .f64 0, .string ⟨#[]⟩, .int .i64 258, .float .f64 0, .string ⟨#[]⟩, .int .i64 0, .float .f64 0, .string ⟨#[97, 98]⟩] 49)) := (Below.refl _ _).alloc (Nat.le_refl _) _
  have h := encode_ok E bht 3 (some ⟨w.heap.size, 0, none⟩) cs3 _ (hE.below h5 hb) (by simp; omega) (by decide) rfl (by simpa using Cs.new w) cs3_ok (by decide) 6 bht_kn bht_sum (by decide)
  refine h.mono fun e w' ⟨v, he, hh⟩ => ?_
  obtain ⟨ho, hb2⟩ := hh.out
  rw [bht_enc] at ho
  obtain ⟨g, c, rfl, _, hlt⟩ := ho.form (by decide)
  refine ⟨g, c, he, Lib.hid ⟨.inr ⟨⟨g, 0, none⟩, rfl, hlt, ho.cells (g := g) rfl⟩, hb.trans (hb2.mono (by simp))⟩⟩

theorem dec_h (E : Nat → Value) (w : World) (hE : Errs w E) (h5 : 5 ≤ w.heap.size) :
    Calls Tryd.prog 18 #[.string ⟨#[104]⟩, .slice (some ⟨w.heap.size, 0, none⟩) 2 2] (w.alloc (.cells #[.int .u8 1, .int .u8 2] 5))
      fun e w' => ∃ g c, e = .returned (.tuple #[.slice (some ⟨g, 0, none⟩) 1 c, .nilIface]) ∧ Hid (w'.cell? ⟨g, 0, none⟩ = some (.int .i64 258) ∧ Below w.heap.size w w') := by
  have hb : Below w.heap.size w (w.alloc (.cells #[.int .u8 1, .int .u8 2] 5)) := (Below.refl _ _).alloc (Nat.le_refl _) _
  have h := decode_known E ⟨#[104]⟩ 2 2 (some ⟨w.heap.size, 0, none⟩) [1, 2] _ (hE.below h5 hb) (by simp; omega) (by decide) (by decide) rfl (by decide) (by decide) (.inr ⟨_, rfl, by simp, fun j u hj => by
    match j with
    | 0 => simp at hj; subst hj; simp [bv, Addr.add]
    | 1 => simp at hj; subst hj; simp [bv, Addr.add]
    | j + 2 => simp at hj⟩) (by decide)
  refine h.mono fun e w' hh => ?_
  have hh' : DecPost E (w.alloc (.cells #[.int .u8 1, .int .u8 2] 5)) (.ok [{ n := 258 }]) e w' := by rw [← h_dec]; exact hh
  obtain ⟨v, he, ho, hb2⟩ := hh'
  obtain ⟨g, c, rfl, _, hlt⟩ := ho.form (by decide)
  refine ⟨g, c, he, Lib.hid ⟨?_, hb.trans (hb2.mono (by simp))⟩⟩
  have := ho.cellAt 0 (by decide)
  simpa [flat] using this

set_option maxHeartbeats 400000 in
theorem alive_any (E : Nat → Value) (w : World) (hE : Errs w E) (h5 : 5 ≤ w.heap.size) :
    Calls Tryd.prog 11 #[] w fun e w' => e = .returned (.bool true) ∧ Below w.heap.size w w' := by
  have HE := Lib.hid hE
  clear hE
  go_enter Tryd.func11, Tryd.ntmps11
  go_wp2_with fail
  with_reducible refine (enc_bht E w HE.out h5).mono ?_
  rintro e w1 ⟨g1, c1, rfl, H1⟩
  have h5w : 5 ≤ w1.heap.size := Nat.le_trans h5 H1.out.2.size
  go_wp2_with fail
  with_reducible refine (dec_h E w1 (HE.out.below h5 H1.out.2) h5w).mono ?_
  rintro e w2 ⟨g2, c2, rfl, H2⟩
  have hst := (H1.out.1.below H2.out.2).toStr 6 c1 rfl
  have hcl := H2.out.1
  go_wp2_with fail
  go_ret
  exact ⟨rfl, H1.out.2.trans (H2.out.2.mono H1.out.2.size)⟩
end Go.Proofs.YtcphfgiegpnpeaaDoor

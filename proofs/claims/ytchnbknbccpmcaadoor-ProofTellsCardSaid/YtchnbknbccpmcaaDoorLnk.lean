/- What linkIn answers: a ticket's number. -/
import Derived.Test.YtchnbknbccpmcaaDoorTic
namespace Go.Proofs.YtchnbknbccpmcaaDoor
open Go.RowKit
open Go.Proofs.YtchnbknbccpmcaaDoor.H

theorem dec_q (bs : List UInt8) (h : bs.length = 8) : F.decS [113] bs = if F.num bs ≤ 9223372036854775807 then .ok [⟨(F.num bs : Int), 0, ⟨#[]⟩⟩] else .error 3 := by
  have h1 : ¬ bs.length < 8 := by omega
  have h2 : bs.drop 8 = [] := List.drop_eq_nil_of_le (by omega)
  have h3 : bs.take 8 = bs := List.take_of_length_le (by omega)
  by_cases hb : F.num bs ≤ 9223372036854775807
  · simp [F.decS, F.spanS, F.hd, F.isT, F.great, F.cellS, h1, h2, h3, hb, show ¬ 9223372036854775807 < F.num bs by omega]
  · simp [F.decS, F.spanS, F.hd, F.isT, F.great, h1, h3, hb, show 9223372036854775807 < F.num bs by omega]

set_option maxRecDepth 100000 in
theorem linkIn_short (E : Nat → Value) (er : Value) (t : TypeId) (u : Value) (A : Option Addr) (n c : Nat) (w : World) (hE : Env w E er (.iface t u)) (hn : n ≠ 32) :
    Calls Tryd.prog 35 #[.slice A n c] w fun e w' => e = .panicked [{ v := .iface 81 (.agg #[.iface t u]), recovered := false }] ∧ Below w.heap.size w w' := by
  have h18 := hE.tab.1
  have h1 := hE.er.proof
  have hs := sizedB 32 32 32 32 rfl rfl
  have hq := fun g h => askB_size A n c 32 32 g h t u
  rw [decide_eq_false (by omega : ¬ (32 ≤ n ∧ n ≤ 32))] at hq
  simp only [asked, Bool.false_eq_true, if_false, thrown] at hq
  clear hE
  go_enter Tryd.func35, Tryd.ntmps35
  go_wp2_with fail
  refine wp_region_held_drew (S := (fun w' => w'.cell? ⟨1, 0, none⟩ = some (.iface t u))) (by kernel_rfl) h1 (fun hHeld => ?_)
  refine wpAnyH_take (i := 0) (v := .slice A n c) rfl (by kernel_rfl) (by kernel_rfl) (by kernel_rfl) (fun _ _ _ h => h) (Or.inl ⟨by kernel_rfl, ?_⟩) (by assumption) ?_
  · (intro w' hSw; (try dsimp only at hSw); go_simp)
  simp only [Act.put, List.setIfInBounds_toArray]
  refine wpAnyH_take (i := 2) (v := .iface t u) rfl (by kernel_rfl) (by kernel_rfl) (by kernel_rfl) (fun _ _ _ h => h) (Or.inl ⟨by kernel_rfl, ?_⟩) (by assumption) ?_
  · (intro w' hSw; (try dsimp only at hSw); go_simp)
  simp only [Act.put]
  refine wpAnyH_ready (rs := [1]) (by kernel_rfl) (by simp) ?_
  refine AllReadyH.cons rfl (fun K hK => ?_) AllReadyH.nil
  go_simp
  with_reducible refine (hs _).mono ?_
  rintro e w9 ⟨g, h, rfl, HV⟩
  refine hK.out _ _ ((HV.out.2.2.cell (p := ⟨1, 0, none⟩) (Nat.lt_trans (by decide : 1 < 18) h18)).trans h1) (fun hHeld => ?_)
  clear hK K
  (try simp only [Act.put, List.setIfInBounds_toArray, List.set_cons_zero, List.set_cons_succ])
  refine wpAnyH_ready (rs := [3]) (by kernel_rfl) (by simp) ?_
  refine AllReadyH.cons rfl (fun K hK => ?_) AllReadyH.nil
  go_simp
  with_reducible refine (hq _ _ _ (Lib.hid ⟨HV.out.1, HV.out.2.1⟩)).mono ?_
  rintro e wz ⟨rfl, rfl⟩
  exact ⟨rfl, rfl, (Below.refl _ _).drew.trans HV.out.2.2⟩

set_option maxRecDepth 100000 in
/-- What linkIn answers of 32 bytes. -/
theorem linkIn_ok (E : Nat → Value) (er : Value) (t : TypeId) (u : Value) (A : Option Addr) (c : Nat) (bs : List UInt8) (w : World) (hE : Env w E er (.iface t u)) (hn : bs.length = 32) (hc : 32 ≤ c) (hcm : c ≤ 9223372036854775807) (hr : H.Rd w w.heap.size A (bs.map bv)) (hb : F.num (bs.take 8) ≤ 9223372036854775807) :
    Calls Tryd.prog 35 #[.slice A 32 c] w fun e w' => e = .returned (.int .i64 (F.num (bs.take 8) : Int)) ∧ Below w.heap.size w w' := by
  have h18 := hE.tab.1
  have h1 := hE.er.proof
  have hs := sizedB 32 32 32 32 rfl rfl
  have hq := fun g h => askB_size A 32 c 32 32 g h t u
  rw [decide_eq_true (by omega : (32 ≤ 32 ∧ 32 ≤ 32))] at hq
  simp only [asked, if_true] at hq
  obtain ⟨ad, rfl⟩ : ∃ ad, A = some ad := by
    rcases hr with h | ⟨ad, h, _⟩
    · rw [List.map_eq_nil_iff] at h; subst h; simp at hn
    · exact ⟨ad, h⟩
  have HE := Lib.hid hE
  have HR := Lib.hid hr
  have HN := Lib.hid hn
  clear hE hr hn
  have hneq : ∀ (w : World), (binOp BinOp.neq 30 .nilIface .nilIface).run Tryd.prog w = .ok (.bool false) w := fun _ => by kernel_rfl
  have hneq2 : ∀ (t : TypeId) (u : Value) (w : World), (binOp BinOp.neq 30 (.iface t u) .nilIface).run Tryd.prog w = .ok (.bool true) w := fun _ _ _ => by kernel_rfl
  go_enter Tryd.func35, Tryd.ntmps35
  go_wp2_with fail
  go_region_held3 (fun w' => w'.cell? ⟨1, 0, none⟩ = some (.iface t u))
    (first | exact h1 | exact (HV.out.2.2.cell (p := ⟨1, 0, none⟩) (Nat.lt_trans (by decide : 1 < 18) h18)).trans h1)
    (first
      | (go_at_call 47; (with_reducible refine (hs _).mono ?_); rintro e w9 ⟨g, h, rfl, HV⟩)
      | (go_at_call 36; (with_reducible refine (hq _ _ _ ?_).mono ?_); (exact Lib.hid ⟨HV.out.1, HV.out.2.1⟩); rintro e wz ⟨rfl, rfl⟩))
  have HB1 : Hid (Below w.heap.size w wz) := Lib.hid ((Below.refl w.heap.size w).drew.trans HV.out.2.2)
  clear HV hs hq h1
  have h8c : ¬ (c : Int) < 8 := by omega
  have h8l : (bs.take 8).length = 8 := by rw [List.length_take, HN.out]; rfl
  have hr8 := (HR.out.below HB1.out).more HB1.out.size
  have hd := F.decode_known E ⟨#[113]⟩ 8 c (some ad) (bs.take 8) wz (HE.out.below h18 HB1.out).errs (by have := HB1.out.size; omega) (by decide) (by decide) h8l (by decide) (by omega) (by rw [List.map_take]; exact hr8.take 8) (by decide)
  rw [show F.decS (⟨#[113]⟩ : ByteArray).data.toList (bs.take 8) = _ from dec_q _ h8l] at hd
  have h1 : wz.cell? ⟨1, 0, none⟩ = some (.iface t u) := (HE.out.below h18 HB1.out).er.proof
  clear hr8 h8l
  rw [if_pos hb] at hd
  have HD := Lib.hid hd
  clear hd hneq2 h1
  go_wp2_with fail
  with_reducible refine HD.out.mono ?_
  rintro e w2 ⟨v, rfl, hown, hb2⟩
  obtain ⟨g2, c2, rfl, hg2⟩ : ∃ g2 c2, v = .slice (some ⟨g2, 0, none⟩) 1 c2 ∧ w2.cell? ⟨g2, 0, none⟩ = some (.int .i64 (F.num (bs.take 8) : Int)) := by
    rcases hown.2 with ⟨_, h⟩ | ⟨g2, cap, cur, rfl, hx⟩
    · simp at h
    · refine ⟨g2, cap, rfl, ?_⟩
      have := hown.cellAt 0 (by simp)
      rw [this]
      rfl
  have HB2 := Lib.hid (HB1.out.trans (hb2.mono HB1.out.size))
  clear hown hb2 HD
  go_wp2_with fail
  go_ret
  exact ⟨rfl, HB2.out⟩
set_option maxRecDepth 100000 in
/-- What linkIn answers of 32 bytes. -/
theorem linkIn_great (E : Nat → Value) (er : Value) (t : TypeId) (u : Value) (A : Option Addr) (c : Nat) (bs : List UInt8) (w : World) (hE : Env w E er (.iface t u)) (hn : bs.length = 32) (hc : 32 ≤ c) (hcm : c ≤ 9223372036854775807) (hr : H.Rd w w.heap.size A (bs.map bv)) (hb : ¬ F.num (bs.take 8) ≤ 9223372036854775807) :
    Calls Tryd.prog 35 #[.slice A 32 c] w fun e w' => e = .panicked [{ v := .iface 81 (.agg #[.iface t u]), recovered := false }] ∧ Below w.heap.size w w' := by
  have h18 := hE.tab.1
  have h1 := hE.er.proof
  have hs := sizedB 32 32 32 32 rfl rfl
  have hq := fun g h => askB_size A 32 c 32 32 g h t u
  rw [decide_eq_true (by omega : (32 ≤ 32 ∧ 32 ≤ 32))] at hq
  simp only [asked, if_true] at hq
  obtain ⟨ad, rfl⟩ : ∃ ad, A = some ad := by
    rcases hr with h | ⟨ad, h, _⟩
    · rw [List.map_eq_nil_iff] at h; subst h; simp at hn
    · exact ⟨ad, h⟩
  have HE := Lib.hid hE
  have HR := Lib.hid hr
  have HN := Lib.hid hn
  clear hE hr hn
  have hneq : ∀ (w : World), (binOp BinOp.neq 30 .nilIface .nilIface).run Tryd.prog w = .ok (.bool false) w := fun _ => by kernel_rfl
  have hneq2 : ∀ (t : TypeId) (u : Value) (w : World), (binOp BinOp.neq 30 (.iface t u) .nilIface).run Tryd.prog w = .ok (.bool true) w := fun _ _ _ => by kernel_rfl
  go_enter Tryd.func35, Tryd.ntmps35
  go_wp2_with fail
  go_region_held3 (fun w' => w'.cell? ⟨1, 0, none⟩ = some (.iface t u))
    (first | exact h1 | exact (HV.out.2.2.cell (p := ⟨1, 0, none⟩) (Nat.lt_trans (by decide : 1 < 18) h18)).trans h1)
    (first
      | (go_at_call 47; (with_reducible refine (hs _).mono ?_); rintro e w9 ⟨g, h, rfl, HV⟩)
      | (go_at_call 36; (with_reducible refine (hq _ _ _ ?_).mono ?_); (exact Lib.hid ⟨HV.out.1, HV.out.2.1⟩); rintro e wz ⟨rfl, rfl⟩))
  have HB1 : Hid (Below w.heap.size w wz) := Lib.hid ((Below.refl w.heap.size w).drew.trans HV.out.2.2)
  clear HV hs hq h1
  have h8c : ¬ (c : Int) < 8 := by omega
  have h8l : (bs.take 8).length = 8 := by rw [List.length_take, HN.out]; rfl
  have hr8 := (HR.out.below HB1.out).more HB1.out.size
  have hd := F.decode_known E ⟨#[113]⟩ 8 c (some ad) (bs.take 8) wz (HE.out.below h18 HB1.out).errs (by have := HB1.out.size; omega) (by decide) (by decide) h8l (by decide) (by omega) (by rw [List.map_take]; exact hr8.take 8) (by decide)
  rw [show F.decS (⟨#[113]⟩ : ByteArray).data.toList (bs.take 8) = _ from dec_q _ h8l] at hd
  have h1 : wz.cell? ⟨1, 0, none⟩ = some (.iface t u) := (HE.out.below h18 HB1.out).er.proof
  clear hr8 h8l
  rw [if_neg hb] at hd
  obtain ⟨t3, u3, he3⟩ := HE.out.errs.some_ 3 (by decide)
  have HD : Hid (Calls Tryd.prog 57 #[.string ⟨#[113]⟩, .slice (some ad) 8 c] wz fun e w' => e = .returned (.tuple #[.slice none 0 0, .iface t3 u3]) ∧ Hid (Below wz.heap.size wz w')) := Lib.hid (hd.mono fun e w' ⟨h, hb⟩ => ⟨by rw [← he3]; exact h, Lib.hid hb⟩)
  clear hd hneq he3
  go_wp2_with fail
  with_reducible refine HD.out.mono ?_
  rintro e w2 ⟨rfl, hb2⟩
  have HB2 := Lib.hid (HB1.out.trans (hb2.out.mono HB1.out.size))
  have h2 : w2.cell? ⟨1, 0, none⟩ = some (.iface t u) := (HE.out.below h18 HB2.out).er.proof
  clear HD h1 hb2
  go_wp2_with fail
  refine (giveUp_any t u _).mono ?_
  rintro e w3 ⟨rfl, rfl⟩
  go_wp2_with fail
  exact ⟨rfl, rfl, HB2.out⟩
end Go.Proofs.YtchnbknbccpmcaaDoor

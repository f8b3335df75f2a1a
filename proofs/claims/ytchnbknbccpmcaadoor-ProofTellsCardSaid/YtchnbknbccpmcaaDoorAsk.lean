/- What package proof's askers answer: they give up by a panic whose value is a refusal, or do nothing. -/
import Derived.Test.YtchnbknbccpmcaaDoorMem
import Derived.Deep.RegionHeld3
import Derived.Test.YtchnbknbccpmcaaDoorGK
import Derived.Test.YtchnbknbccpmcaaDoorGB
import Derived.Test.YtchnbknbccpmcaaDoorLaid
namespace Go.Proofs.YtchnbknbccpmcaaDoor
open Go.RowKit
open Go.Proofs.YtchnbknbccpmcaaDoor.H

/-- A refusal, thrown. -/
def thrown (v : Value) : Ending := .panicked [{ v := .iface 81 (.agg #[v]), recovered := false }]

theorem giveUp_any (t : TypeId) (u : Value) (w : World) :
    Calls Tryd.prog 55 #[.iface t u] w fun e w' => e = .panicked [{ v := .iface 81 (.agg #[.iface t u]), recovered := false }] ∧ w' = w := by
  go_enter Tryd.func55, Tryd.ntmps55
  go_wp2_with fail
  exact ⟨rfl, rfl, rfl⟩

/-- What a size's question answers. -/
theorem askedB (A : Option Addr) (n c lo hi : Nat) (g h : Nat) (w : World) (h1 : w.cell? ⟨g, 0, none⟩ = some (.int .i64 (lo : Int))) (h2 : w.cell? ⟨h, 0, none⟩ = some (.int .i64 (hi : Int))) :
    Calls Tryd.prog 60 #[.slice A n c, .pointer (some ⟨g, 0, none⟩), .pointer (some ⟨h, 0, none⟩)] w fun e w' => e = .returned (.bool (decide (lo ≤ n ∧ n ≤ hi))) ∧ w' = w := by
  go_enter Tryd.func60, Tryd.ntmps60
  by_cases k1 : (lo : Int) ≤ (n : Int)
  · by_cases k2 : (n : Int) ≤ (hi : Int)
    · go_wp2_with fail
      go_ret
      exact ⟨H.ret_bool (by simp; omega), rfl⟩
    · go_wp2_with fail
      go_ret
      exact ⟨H.ret_bool (by simp; omega), rfl⟩
  · go_wp2_with fail
    go_ret
    exact ⟨H.ret_bool (by simp; omega), rfl⟩
theorem askedS (s : ByteArray) (lo hi : Nat) (g h : Nat) (w : World) (h1 : w.cell? ⟨g, 0, none⟩ = some (.int .i64 (lo : Int))) (h2 : w.cell? ⟨h, 0, none⟩ = some (.int .i64 (hi : Int))) :
    Calls Tryd.prog 66 #[.string s, .pointer (some ⟨g, 0, none⟩), .pointer (some ⟨h, 0, none⟩)] w fun e w' => e = .returned (.bool (decide (lo ≤ s.size ∧ s.size ≤ hi))) ∧ w' = w := by
  go_enter Tryd.func66, Tryd.ntmps66
  by_cases k1 : (lo : Int) ≤ (s.size : Int)
  · by_cases k2 : (s.size : Int) ≤ (hi : Int)
    · go_wp2_with fail
      go_ret
      exact ⟨H.ret_bool (by simp; omega), rfl⟩
    · go_wp2_with fail
      go_ret
      exact ⟨H.ret_bool (by simp; omega), rfl⟩
  · go_wp2_with fail
    go_ret
    exact ⟨H.ret_bool (by simp; omega), rfl⟩
theorem askedN (z : Int) (w : World) :
    Calls Tryd.prog 49 #[.int .i64 z] w fun e w' => e = .returned (.bool (decide (0 ≤ z ∧ z ≤ 1099511627776))) ∧ w' = w := by
  go_enter Tryd.func49, Tryd.ntmps49
  by_cases k1 : (0 : Int) ≤ z
  · by_cases k2 : z ≤ 1099511627776
    · go_wp2_with fail
      go_ret
      exact ⟨H.ret_bool (by simp; omega), rfl⟩
    · go_wp2_with fail
      go_ret
      exact ⟨H.ret_bool (by simp; omega), rfl⟩
  · go_wp2_with fail
    go_ret
    exact ⟨H.ret_bool (by simp; omega), rfl⟩
theorem cell_two (w : World) (u v : Value) (t : TypeId) : ((w.alloc (.cells #[u] t)).alloc (.cells #[v] t)).cell? ⟨w.heap.size, 0, none⟩ = some u ∧ ((w.alloc (.cells #[u] t)).alloc (.cells #[v] t)).cell? ⟨w.heap.size + 1, 0, none⟩ = some v := by
  have r1 : Row (w.alloc (.cells #[u] t)) w.heap.size t [u] := Row.new w [u] t
  have r2 : Row ((w.alloc (.cells #[u] t)).alloc (.cells #[v] t)) (w.heap.size + 1) t [v] := by
    have h := Row.new (w.alloc (.cells #[u] t)) [v] t
    rwa [World.size_alloc] at h
  have r3 : Row ((w.alloc (.cells #[u] t)).alloc (.cells #[v] t)) w.heap.size t [u] := H.Row.alloc r1 _
  exact ⟨r3.cell 0, r2.cell 0⟩
theorem below_two (w : World) (a b : Obj) : Below w.heap.size w ((w.alloc a).alloc b) := ((Below.refl _ _).alloc (Nat.le_refl _) a).alloc (by rw [World.size_alloc]; omega) b
theorem sizedB (lo hi : Nat) (zl zh : Int) (hl : zl = (lo : Int)) (hh : zh = (hi : Int)) (w : World) :
    Calls Tryd.prog 47 #[.int .i64 zl, .int .i64 zh] w fun e w' => ∃ g h, e = .returned (.func (.func 60) #[] #[.pointer (some ⟨g, 0, none⟩), .pointer (some ⟨h, 0, none⟩)]) ∧
      Hid (w'.cell? ⟨g, 0, none⟩ = some (.int .i64 (lo : Int)) ∧ w'.cell? ⟨h, 0, none⟩ = some (.int .i64 (hi : Int)) ∧ Below w.heap.size w w') := by
  subst hl hh
  have hmf : ∀ (fn : Fn) (first cap : Array Value) (w : World), (Instr.makeFunc fn first cap).run Tryd.prog w = .ok (.func fn first cap) w := fun _ _ _ _ => rfl
  go_enter Tryd.func47, Tryd.ntmps47
  go_wp2_with fail
  go_ret
  exact ⟨_, _, rfl, Lib.hid ⟨(cell_two w _ _ 3).1, (cell_two w _ _ 3).2, below_two w _ _⟩⟩
theorem sizedS (lo hi : Nat) (zl zh : Int) (hl : zl = (lo : Int)) (hh : zh = (hi : Int)) (w : World) :
    Calls Tryd.prog 53 #[.int .i64 zl, .int .i64 zh] w fun e w' => ∃ g h, e = .returned (.func (.func 66) #[] #[.pointer (some ⟨g, 0, none⟩), .pointer (some ⟨h, 0, none⟩)]) ∧
      Hid (w'.cell? ⟨g, 0, none⟩ = some (.int .i64 (lo : Int)) ∧ w'.cell? ⟨h, 0, none⟩ = some (.int .i64 (hi : Int)) ∧ Below w.heap.size w w') := by
  subst hl hh
  have hmf : ∀ (fn : Fn) (first cap : Array Value) (w : World), (Instr.makeFunc fn first cap).run Tryd.prog w = .ok (.func fn first cap) w := fun _ _ _ _ => rfl
  go_enter Tryd.func53, Tryd.ntmps53
  go_wp2_with fail
  go_ret
  exact ⟨_, _, rfl, Lib.hid ⟨(cell_two w _ _ 3).1, (cell_two w _ _ 3).2, below_two w _ _⟩⟩
/-- What an asker does. -/
def asked (ok : Bool) (v : Value) : Ending := if ok then .returned (.tuple #[]) else thrown v
set_option maxRecDepth 100000 in
theorem askB (f : FuncId) (cap : Array Value) (v : Value) (t : TypeId) (u : Value) (w : World) (R : Bool → World → Prop)
    (hc : ∀ (a : Array Value) (w : World), (callFunc f a).run Tryd.prog w = .ok (.enter f a) w)
    (hf : Calls Tryd.prog f (#[v] ++ cap) w fun e w' => ∃ b, e = .returned (.bool b) ∧ R b w') :
    Calls Tryd.prog 36 #[v, .func (.func f) #[] cap, .iface t u] w fun e w' => ∃ b, e = asked b (.iface t u) ∧ R b w' := by
  have hnot : ∀ (x : Bool) (w : World), (Op.unary .not (.bool x)).run Tryd.prog w = .ok (.bool (!x)) w := fun _ _ => rfl
  have HF := Lib.hid hf
  clear hf
  go_enter Tryd.func36, Tryd.ntmps36
  go_wp2_with fail
  refine HF.out.mono ?_
  rintro e w1 ⟨b, rfl, hr⟩
  have HR := Lib.hid hr
  clear hr
  cases b
  · go_wp2_with fail
    refine (giveUp_any t u _).mono ?_
    rintro e w2 ⟨rfl, rfl⟩
    go_wp2_with fail
    exact ⟨rfl, false, rfl, HR.out⟩
  · go_wp2_with fail
    go_end0
    exact ⟨true, rfl, HR.out⟩
set_option maxRecDepth 100000 in
theorem askS (f : FuncId) (cap : Array Value) (v : Value) (t : TypeId) (u : Value) (w : World) (R : Bool → World → Prop)
    (hc : ∀ (a : Array Value) (w : World), (callFunc f a).run Tryd.prog w = .ok (.enter f a) w)
    (hf : Calls Tryd.prog f (#[v] ++ cap) w fun e w' => ∃ b, e = .returned (.bool b) ∧ R b w') :
    Calls Tryd.prog 52 #[v, .func (.func f) #[] cap, .iface t u] w fun e w' => ∃ b, e = asked b (.iface t u) ∧ R b w' := by
  have hnot : ∀ (x : Bool) (w : World), (Op.unary .not (.bool x)).run Tryd.prog w = .ok (.bool (!x)) w := fun _ _ => rfl
  have HF := Lib.hid hf
  clear hf
  go_enter Tryd.func52, Tryd.ntmps52
  go_wp2_with fail
  refine HF.out.mono ?_
  rintro e w1 ⟨b, rfl, hr⟩
  have HR := Lib.hid hr
  clear hr
  cases b
  · go_wp2_with fail
    refine (giveUp_any t u _).mono ?_
    rintro e w2 ⟨rfl, rfl⟩
    go_wp2_with fail
    exact ⟨rfl, false, rfl, HR.out⟩
  · go_wp2_with fail
    go_end0
    exact ⟨true, rfl, HR.out⟩
set_option maxRecDepth 100000 in
theorem askN (f : FuncId) (cap : Array Value) (v : Value) (t : TypeId) (u : Value) (w : World) (R : Bool → World → Prop)
    (hc : ∀ (a : Array Value) (w : World), (callFunc f a).run Tryd.prog w = .ok (.enter f a) w)
    (hf : Calls Tryd.prog f (#[v] ++ cap) w fun e w' => ∃ b, e = .returned (.bool b) ∧ R b w') :
    Calls Tryd.prog 48 #[v, .func (.func f) #[] cap, .iface t u] w fun e w' => ∃ b, e = asked b (.iface t u) ∧ R b w' := by
  have hnot : ∀ (x : Bool) (w : World), (Op.unary .not (.bool x)).run Tryd.prog w = .ok (.bool (!x)) w := fun _ _ => rfl
  have HF := Lib.hid hf
  clear hf
  go_enter Tryd.func48, Tryd.ntmps48
  go_wp2_with fail
  refine HF.out.mono ?_
  rintro e w1 ⟨b, rfl, hr⟩
  have HR := Lib.hid hr
  clear hr
  cases b
  · go_wp2_with fail
    refine (giveUp_any t u _).mono ?_
    rintro e w2 ⟨rfl, rfl⟩
    go_wp2_with fail
    exact ⟨rfl, false, rfl, HR.out⟩
  · go_wp2_with fail
    go_end0
    exact ⟨true, rfl, HR.out⟩

theorem enter60 (a : Array Value) (w : World) : (callFunc 60 a).run Tryd.prog w = .ok (.enter 60 a) w := by kernel_rfl
theorem enter66 (a : Array Value) (w : World) : (callFunc 66 a).run Tryd.prog w = .ok (.enter 66 a) w := by kernel_rfl
theorem enter49 (a : Array Value) (w : World) : (callFunc 49 a).run Tryd.prog w = .ok (.enter 49 a) w := by kernel_rfl
/-- A question on a size, asked. -/
theorem askB_size (A : Option Addr) (n c lo hi g h : Nat) (t : TypeId) (u : Value) (w : World) (hh : Hid (w.cell? ⟨g, 0, none⟩ = some (.int .i64 (lo : Int)) ∧ w.cell? ⟨h, 0, none⟩ = some (.int .i64 (hi : Int)))) :
    Calls Tryd.prog 36 #[.slice A n c, .func (.func 60) #[] #[.pointer (some ⟨g, 0, none⟩), .pointer (some ⟨h, 0, none⟩)], .iface t u] w fun e w' => e = asked (decide (lo ≤ n ∧ n ≤ hi)) (.iface t u) ∧ w' = w := by
  refine (askB 60 _ (.slice A n c) t u w (fun b w' => b = decide (lo ≤ n ∧ n ≤ hi) ∧ w' = w) enter60 ?_).mono ?_
  · refine (askedB A n c lo hi g h w hh.out.1 hh.out.2).mono ?_
    rintro e w' ⟨rfl, rfl⟩
    exact ⟨_, rfl, rfl, rfl⟩
  · rintro e w' ⟨b, rfl, rfl, rfl⟩
    exact ⟨rfl, rfl⟩
theorem askS_size (s : ByteArray) (lo hi g h : Nat) (t : TypeId) (u : Value) (w : World) (hh : Hid (w.cell? ⟨g, 0, none⟩ = some (.int .i64 (lo : Int)) ∧ w.cell? ⟨h, 0, none⟩ = some (.int .i64 (hi : Int)))) :
    Calls Tryd.prog 52 #[.string s, .func (.func 66) #[] #[.pointer (some ⟨g, 0, none⟩), .pointer (some ⟨h, 0, none⟩)], .iface t u] w fun e w' => e = asked (decide (lo ≤ s.size ∧ s.size ≤ hi)) (.iface t u) ∧ w' = w := by
  refine (askS 66 _ (.string s) t u w (fun b w' => b = decide (lo ≤ s.size ∧ s.size ≤ hi) ∧ w' = w) enter66 ?_).mono ?_
  · refine (askedS s lo hi g h w hh.out.1 hh.out.2).mono ?_
    rintro e w' ⟨rfl, rfl⟩
    exact ⟨_, rfl, rfl, rfl⟩
  · rintro e w' ⟨b, rfl, rfl, rfl⟩
    exact ⟨rfl, rfl⟩
theorem askN_num (z : Int) (t : TypeId) (u : Value) (w : World) :
    Calls Tryd.prog 48 #[.int .i64 z, .func (.func 49) #[] #[], .iface t u] w fun e w' => e = asked (decide (0 ≤ z ∧ z ≤ 1099511627776)) (.iface t u) ∧ w' = w := by
  refine (askN 49 #[] (.int .i64 z) t u w (fun b w' => b = decide (0 ≤ z ∧ z ≤ 1099511627776) ∧ w' = w) enter49 ?_).mono ?_
  · refine (askedN z w).mono ?_
    rintro e w' ⟨rfl, rfl⟩
    exact ⟨_, rfl, rfl, rfl⟩
  · rintro e w' ⟨b, rfl, rfl, rfl⟩
    exact ⟨rfl, rfl⟩
/-- The variables of the errors: ErrRange (0) and ErrProof (1). -/
structure Er (w : World) (er ep : Value) : Prop where
  range : w.cell? ⟨0, 0, none⟩ = some er
  proof : w.cell? ⟨1, 0, none⟩ = some ep
  r_ : ∃ t v, er = .iface t v
  p_ : ∃ t v, ep = .iface t v
theorem Er.below {w w' : World} {er ep : Value} (h : Er w er ep) {B : Nat} (hB : 2 ≤ B) (hb : Below B w w') : Er w' er ep :=
  ⟨(hb.cell (p := ⟨0, 0, none⟩) (show 0 < B by omega)).trans h.range, (hb.cell (p := ⟨1, 0, none⟩) (show 1 < B by omega)).trans h.proof, h.r_, h.p_⟩

set_option maxRecDepth 100000 in
theorem askSecret_any (A : Option Addr) (n c : Nat) (er ep : Value) (w : World) (hE : Er w er ep) (hw : 2 ≤ w.heap.size) :
    Calls Tryd.prog 25 #[.slice A n c] w fun e w' => e = asked (decide (1 ≤ n ∧ n ≤ 64)) er ∧ Hid (Below w.heap.size w w') := by
  have h0 := hE.range
  obtain ⟨t, u, rfl⟩ := hE.r_
  have hs := sizedB 1 64 1 64 rfl rfl
  have hq := fun g h => askB_size A n c 1 64 g h t u
  clear hE
  generalize decide (1 ≤ n ∧ n ≤ 64) = b at *
  go_enter Tryd.func25, Tryd.ntmps25
  cases b
  · simp only [asked, Bool.false_eq_true, if_false, thrown] at hq
    refine wp_region_held_drew (S := (fun w' => w'.cell? ⟨0, 0, none⟩ = some (.iface t u))) (by kernel_rfl) h0 (fun hHeld => ?_)
    refine wpAnyH_take (i := 0) (v := .slice A n c) rfl (by kernel_rfl) (by kernel_rfl) (by kernel_rfl) (fun _ _ _ h => h) (Or.inl ⟨by kernel_rfl, ?_⟩) (by assumption) ?_
    · (intro w' hSw; (try dsimp only at hSw); go_simp)
    simp only [Act.put, List.setIfInBounds_toArray]
    refine wpAnyH_take (i := 2) (v := .iface t u) rfl (by kernel_rfl) (by kernel_rfl) (by kernel_rfl) (fun _ _ _ h => h) (Or.inl ⟨by kernel_rfl, ?_⟩) (by assumption) ?_
    · (intro w' hSw; (try dsimp only at hSw); go_simp)
    simp only [Act.put]
    refine wpAnyH_ready (rs := [1]) (by kernel_rfl) (by simp) ?_
    refine AllReadyH.cons rfl (fun K hK => ?_) AllReadyH.nil
    go_simp
    with_reducible refine (hs _).mono ?_
    rintro e w9 ⟨g, h, rfl, HV⟩
    refine hK.out _ _ ((HV.out.2.2.cell (p := ⟨0, 0, none⟩) (Nat.lt_of_lt_of_le (by decide : 0 < 2) hw)).trans h0) (fun hHeld => ?_)
    clear hK K
    (try simp only [Act.put, List.setIfInBounds_toArray, List.set_cons_zero, List.set_cons_succ])
    refine wpAnyH_ready (rs := [3]) (by kernel_rfl) (by simp) ?_
    refine AllReadyH.cons rfl (fun K hK => ?_) AllReadyH.nil
    go_simp
    with_reducible refine (hq _ _ _ (Lib.hid ⟨HV.out.1, HV.out.2.1⟩)).mono ?_
    rintro e wz ⟨rfl, rfl⟩
    exact ⟨rfl, rfl, Lib.hid ((Below.refl _ _).drew.trans HV.out.2.2)⟩
  · simp only [asked, if_true] at hq
    go_region_held3 (fun w' => w'.cell? ⟨0, 0, none⟩ = some (.iface t u))
      (first | exact h0 | exact (HV.out.2.2.cell (p := ⟨0, 0, none⟩) (Nat.lt_of_lt_of_le (by decide : 0 < 2) hw)).trans h0)
      (first
        | (go_at_call 47; (with_reducible refine (hs _).mono ?_); rintro e w9 ⟨g, h, rfl, HV⟩)
        | (go_at_call 36; (with_reducible refine (hq _ _ _ ?_).mono ?_); (exact Lib.hid ⟨HV.out.1, HV.out.2.1⟩); rintro e wz ⟨rfl, rfl⟩))
    go_end0
    exact ⟨rfl, Lib.hid ((Below.refl _ _).drew.trans HV.out.2.2)⟩
set_option maxRecDepth 100000 in
theorem askNonce_any (A : Option Addr) (n c : Nat) (er ep : Value) (w : World) (hE : Er w er ep) (hw : 2 ≤ w.heap.size) :
    Calls Tryd.prog 29 #[.slice A n c] w fun e w' => e = asked (decide (16 ≤ n ∧ n ≤ 16)) er ∧ Hid (Below w.heap.size w w') := by
  have h0 := hE.range
  obtain ⟨t, u, rfl⟩ := hE.r_
  have hs := sizedB 16 16 16 16 rfl rfl
  have hq := fun g h => askB_size A n c 16 16 g h t u
  clear hE
  generalize decide (16 ≤ n ∧ n ≤ 16) = b at *
  go_enter Tryd.func29, Tryd.ntmps29
  cases b
  · simp only [asked, Bool.false_eq_true, if_false, thrown] at hq
    refine wp_region_held_drew (S := (fun w' => w'.cell? ⟨0, 0, none⟩ = some (.iface t u))) (by kernel_rfl) h0 (fun hHeld => ?_)
    refine wpAnyH_take (i := 0) (v := .slice A n c) rfl (by kernel_rfl) (by kernel_rfl) (by kernel_rfl) (fun _ _ _ h => h) (Or.inl ⟨by kernel_rfl, ?_⟩) (by assumption) ?_
    · (intro w' hSw; (try dsimp only at hSw); go_simp)
    simp only [Act.put, List.setIfInBounds_toArray]
    refine wpAnyH_take (i := 2) (v := .iface t u) rfl (by kernel_rfl) (by kernel_rfl) (by kernel_rfl) (fun _ _ _ h => h) (Or.inl ⟨by kernel_rfl, ?_⟩) (by assumption) ?_
    · (intro w' hSw; (try dsimp only at hSw); go_simp)
    simp only [Act.put]
    refine wpAnyH_ready (rs := [1]) (by kernel_rfl) (by simp) ?_
    refine AllReadyH.cons rfl (fun K hK => ?_) AllReadyH.nil
    go_simp
    with_reducible refine (hs _).mono ?_
    rintro e w9 ⟨g, h, rfl, HV⟩
    refine hK.out _ _ ((HV.out.2.2.cell (p := ⟨0, 0, none⟩) (Nat.lt_of_lt_of_le (by decide : 0 < 2) hw)).trans h0) (fun hHeld => ?_)
    clear hK K
    (try simp only [Act.put, List.setIfInBounds_toArray, List.set_cons_zero, List.set_cons_succ])
    refine wpAnyH_ready (rs := [3]) (by kernel_rfl) (by simp) ?_
    refine AllReadyH.cons rfl (fun K hK => ?_) AllReadyH.nil
    go_simp
    with_reducible refine (hq _ _ _ (Lib.hid ⟨HV.out.1, HV.out.2.1⟩)).mono ?_
    rintro e wz ⟨rfl, rfl⟩
    exact ⟨rfl, rfl, Lib.hid ((Below.refl _ _).drew.trans HV.out.2.2)⟩
  · simp only [asked, if_true] at hq
    go_region_held3 (fun w' => w'.cell? ⟨0, 0, none⟩ = some (.iface t u))
      (first | exact h0 | exact (HV.out.2.2.cell (p := ⟨0, 0, none⟩) (Nat.lt_of_lt_of_le (by decide : 0 < 2) hw)).trans h0)
      (first
        | (go_at_call 47; (with_reducible refine (hs _).mono ?_); rintro e w9 ⟨g, h, rfl, HV⟩)
        | (go_at_call 36; (with_reducible refine (hq _ _ _ ?_).mono ?_); (exact Lib.hid ⟨HV.out.1, HV.out.2.1⟩); rintro e wz ⟨rfl, rfl⟩))
    go_end0
    exact ⟨rfl, Lib.hid ((Below.refl _ _).drew.trans HV.out.2.2)⟩
set_option maxRecDepth 100000 in
theorem askName_any (s : ByteArray) (er ep : Value) (w : World) (hE : Er w er ep) (hw : 2 ≤ w.heap.size) :
    Calls Tryd.prog 30 #[.string s] w fun e w' => e = asked (decide (1 ≤ s.size ∧ s.size ≤ 16)) er ∧ Hid (Below w.heap.size w w') := by
  have h0 := hE.range
  obtain ⟨t, u, rfl⟩ := hE.r_
  have hs := sizedS 1 16 1 16 rfl rfl
  have hq := fun g h => askS_size s 1 16 g h t u
  clear hE
  generalize decide (1 ≤ s.size ∧ s.size ≤ 16) = b at *
  go_enter Tryd.func30, Tryd.ntmps30
  cases b
  · simp only [asked, Bool.false_eq_true, if_false, thrown] at hq
    refine wp_region_held_drew (S := (fun w' => w'.cell? ⟨0, 0, none⟩ = some (.iface t u))) (by kernel_rfl) h0 (fun hHeld => ?_)
    refine wpAnyH_take (i := 0) (v := .string s) rfl (by kernel_rfl) (by kernel_rfl) (by kernel_rfl) (fun _ _ _ h => h) (Or.inl ⟨by kernel_rfl, ?_⟩) (by assumption) ?_
    · (intro w' hSw; (try dsimp only at hSw); go_simp)
    simp only [Act.put, List.setIfInBounds_toArray]
    refine wpAnyH_take (i := 2) (v := .iface t u) rfl (by kernel_rfl) (by kernel_rfl) (by kernel_rfl) (fun _ _ _ h => h) (Or.inl ⟨by kernel_rfl, ?_⟩) (by assumption) ?_
    · (intro w' hSw; (try dsimp only at hSw); go_simp)
    simp only [Act.put]
    refine wpAnyH_ready (rs := [1]) (by kernel_rfl) (by simp) ?_
    refine AllReadyH.cons rfl (fun K hK => ?_) AllReadyH.nil
    go_simp
    with_reducible refine (hs _).mono ?_
    rintro e w9 ⟨g, h, rfl, HV⟩
    refine hK.out _ _ ((HV.out.2.2.cell (p := ⟨0, 0, none⟩) (Nat.lt_of_lt_of_le (by decide : 0 < 2) hw)).trans h0) (fun hHeld => ?_)
    clear hK K
    (try simp only [Act.put, List.setIfInBounds_toArray, List.set_cons_zero, List.set_cons_succ])
    refine wpAnyH_ready (rs := [3]) (by kernel_rfl) (by simp) ?_
    refine AllReadyH.cons rfl (fun K hK => ?_) AllReadyH.nil
    go_simp
    with_reducible refine (hq _ _ _ (Lib.hid ⟨HV.out.1, HV.out.2.1⟩)).mono ?_
    rintro e wz ⟨rfl, rfl⟩
    exact ⟨rfl, rfl, Lib.hid ((Below.refl _ _).drew.trans HV.out.2.2)⟩
  · simp only [asked, if_true] at hq
    go_region_held3 (fun w' => w'.cell? ⟨0, 0, none⟩ = some (.iface t u))
      (first | exact h0 | exact (HV.out.2.2.cell (p := ⟨0, 0, none⟩) (Nat.lt_of_lt_of_le (by decide : 0 < 2) hw)).trans h0)
      (first
        | (go_at_call 53; (with_reducible refine (hs _).mono ?_); rintro e w9 ⟨g, h, rfl, HV⟩)
        | (go_at_call 52; (with_reducible refine (hq _ _ _ ?_).mono ?_); (exact Lib.hid ⟨HV.out.1, HV.out.2.1⟩); rintro e wz ⟨rfl, rfl⟩))
    go_end0
    exact ⟨rfl, Lib.hid ((Below.refl _ _).drew.trans HV.out.2.2)⟩
set_option maxRecDepth 100000 in
theorem askNumber_any (z : Int) (er ep : Value) (w : World) (hE : Er w er ep) :
    Calls Tryd.prog 26 #[.int .i64 z] w fun e w' => e = asked (decide (0 ≤ z ∧ z ≤ 1099511627776)) er ∧ w' = w := by
  have h0 := hE.range
  obtain ⟨t, u, rfl⟩ := hE.r_
  have hq := askN_num z t u
  clear hE
  generalize decide (0 ≤ z ∧ z ≤ 1099511627776) = b at *
  go_enter Tryd.func26, Tryd.ntmps26
  cases b
  · simp only [asked, Bool.false_eq_true, if_false, thrown] at hq
    go_wp2_with fail
    with_reducible refine (hq _).mono ?_
    rintro e wz ⟨rfl, rfl⟩
    go_wp2_with fail
    exact ⟨rfl, rfl, rfl⟩
  · simp only [asked, if_true] at hq
    go_wp2_with fail
    with_reducible refine (hq _).mono ?_
    rintro e wz ⟨rfl, rfl⟩
    go_wp2_with fail
    go_end0
    exact ⟨rfl, rfl⟩
end Go.Proofs.YtchnbknbccpmcaaDoor

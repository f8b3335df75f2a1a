/- What fields.Size answers. -/
import Derived.Test.YtlmdafldggbiaaaDoorFFsize
import Derived.Deep.RegionHeld3
namespace Go.Proofs.YtlmdafldggbiaaaDoor.F
open Go.RowKit

/-- 'the slice of cells with base A holds the cells cs, in a block below B'. -/
def Cs (w : World) (B : Nat) (A : Option Addr) (cs : List FC) : Prop :=
  cs = [] ∨ ∃ b o, A = some ⟨b, o, none⟩ ∧ b < B ∧ ∀ (k : Nat) (x : FC), cs[k]? = some x →
    w.cell? ⟨b, o + k * 3, none⟩ = some (.int .i64 x.n) ∧ w.cell? ⟨b, o + k * 3 + 1, none⟩ = some (.float .f64 x.f) ∧ w.cell? ⟨b, o + k * 3 + 2, none⟩ = some (.string x.s)

def FC.ok (x : FC) : Prop := -9223372036854775808 ≤ x.n ∧ x.n ≤ 9223372036854775807 ∧ x.f < 18446744073709551616 ∧ x.s.size ≤ maxLen

/-- The sum of the fields' sizes, or the first error. -/
def sumS : List UInt8 → List FC → Except Nat Nat
  | [], _ => .ok 0
  | _, [] => .ok 0
  | c :: l, x :: cs => match sizeS c.toNat x with
    | .error k => .error k
    | .ok n => match sumS l cs with
      | .error k => .error k
      | .ok m => .ok (n + m)
def sizesS (l : List UInt8) (cs : List FC) : Except Nat Nat := if kn l = true ∧ cs.length = l.length then sumS l cs else .error 2

theorem sumS_append {l1 l2 : List UInt8} {c1 c2 : List FC} (h : l1.length = c1.length) : sumS (l1 ++ l2) (c1 ++ c2) = match sumS l1 c1 with
    | .error k => .error k
    | .ok n => match sumS l2 c2 with
      | .error k => .error k
      | .ok m => .ok (n + m) := by
  induction l1 generalizing c1 with
  | nil =>
    have : c1 = [] := List.eq_nil_of_length_eq_zero h.symm
    subst this
    simp [sumS]
    cases sumS l2 c2 <;> rfl
  | cons a l1 ih =>
    match c1, h with
    | x :: c1, h =>
      simp only [List.cons_append, sumS]
      rw [ih (by simpa using h)]
      cases sizeS a.toNat x with
      | error k => rfl
      | ok n =>
        cases sumS l1 c1 with
        | error k => rfl
        | ok m => cases sumS l2 c2 <;> simp [Nat.add_assoc]
theorem sizeS_le {c : Nat} {x : FC} {n : Nat} (h : sizeS c x = .ok n) : n ≤ 65537 := by
  have h8 : hd c ≤ 8 := by unfold hd; repeat' split
                           all_goals omega
  unfold sizeS at h
  split at h
  · injection h with h; omega
  · split at h
    · rename_i ht
      split at h
      · cases h
      · injection h with h
        have := great_text ht
        have h2 : hd c ≤ 2 := by
          unfold isT at ht
          rcases of_decide_eq_true ht with rfl | rfl <;> decide
        omega
    · split at h
      · cases h
      · injection h with h; omega
theorem sumS_le {l : List UInt8} {cs : List FC} {m : Nat} (h : sumS l cs = .ok m) : m ≤ 65537 * l.length := by
  induction l generalizing cs m with
  | nil => simp only [sumS] at h; injection h with h; omega
  | cons a l ih =>
    match cs with
    | [] => simp only [sumS] at h; injection h with h; omega
    | x :: cs =>
      simp only [sumS] at h
      split at h
      · cases h
      · rename_i n hn
        split at h
        · cases h
        · rename_i m' hm
          injection h with h
          have := sizeS_le hn
          have := ih hm
          simp only [List.length_cons]
          omega
theorem sumS_one (c : UInt8) (x : FC) : sumS [c] [x] = sizeS c.toNat x := by
  simp only [sumS]
  cases sizeS c.toNat x <;> rfl
theorem sumS_step {l : List UInt8} {cs : List FC} {k m n : Nat} (hl : k < l.length) (hc : k < cs.length) (h : sumS (l.take k) (cs.take k) = .ok m) (hn : sizeS l[k].toNat cs[k] = .ok n) :
    sumS (l.take (k + 1)) (cs.take (k + 1)) = .ok (m + n) := by
  rw [List.take_succ_eq_append_getElem hl, List.take_succ_eq_append_getElem hc, sumS_append (by simp; omega), h, sumS_one, hn]
theorem sumS_stop {l : List UInt8} {cs : List FC} {k m e : Nat} (hl : k < l.length) (hc : k < cs.length) (h : sumS (l.take k) (cs.take k) = .ok m) (hn : sizeS l[k].toNat cs[k] = .error e) :
    sumS l cs = .error e := by
  have e1 : l = l.take k ++ l[k] :: l.drop (k + 1) := by simp
  have e2 : cs = cs.take k ++ cs[k] :: cs.drop (k + 1) := by simp
  rw [e1, e2, sumS_append (by simp; omega), h]
  simp only [sumS, hn]
theorem kn_get {s : ByteArray} (h : kn s.data.toList = true) {k : Nat} (hk : k < s.size) : hd s[k].toNat ≠ 0 := by
  unfold kn at h
  have := List.all_eq_true.1 h s[k] (by simp [ByteArray.getElem_eq_getElem_data])
  simpa using this

theorem Cs.keep {w w' : World} {B : Nat} {A : Option Addr} {cs : List FC} (h : Cs w B A cs) (hb : Below B w w') : Cs w' B A cs := by
  rcases h with rfl | ⟨b, o, h1, h2, h3⟩
  · exact .inl rfl
  · have hk : ∀ j, w'.cell? ⟨b, j, none⟩ = w.cell? ⟨b, j, none⟩ := fun j => hb.cell (p := ⟨b, j, none⟩) h2
    exact .inr ⟨b, o, h1, h2, fun k x hx => by rw [hk, hk, hk]; exact h3 k x hx⟩
theorem Cs.at_ {w : World} {B : Nat} {A : Option Addr} {cs : List FC} (h : Cs w B A cs) {k : Nat} (hk : k < cs.length) :
    ∃ b o, A = some ⟨b, o, none⟩ ∧ b < B ∧ w.cell? ⟨b, o + k * 3, none⟩ = some (.int .i64 cs[k].n) ∧ w.cell? ⟨b, o + k * 3 + 1, none⟩ = some (.float .f64 cs[k].f) ∧ w.cell? ⟨b, o + k * 3 + 2, none⟩ = some (.string cs[k].s) := by
  rcases h with rfl | ⟨b, o, h1, h2, h3⟩
  · simp at hk
  · exact ⟨b, o, h1, h2, h3 k _ (List.getElem?_eq_getElem hk)⟩

theorem fieldSize_ok (E : Nat → Value) (c n : Nat) (x : FC) (w : World) (hE : Errz w E) (h5 : 20 ≤ w.heap.size) (h0 : hd c ≠ 0) (hx : x.ok) (h : sizeS c x = .ok n) :
    Calls Tryd.prog 44 #[.int .u8 (c : Int), .agg #[.int .i64 x.n, .float .f64 x.f, .string x.s]] w fun e w' => e = .returned (.tuple #[.int .i64 (n : Int), .nilIface]) ∧ Below w.heap.size w w' :=
  (fieldSize_any E c x w hE h5 h0 hx.1 hx.2.1 hx.2.2.2).mono fun _ _ ⟨he, hb⟩ => ⟨by rw [he, h]; rfl, hb⟩
theorem fieldSize_err (E : Nat → Value) (c k : Nat) (x : FC) (w : World) (t : TypeId) (v : Value) (hE : Errz w E) (h5 : 20 ≤ w.heap.size) (h0 : hd c ≠ 0) (hx : x.ok) (h : sizeS c x = .error k) (hk : E k = .iface t v) :
    Calls Tryd.prog 44 #[.int .u8 (c : Int), .agg #[.int .i64 x.n, .float .f64 x.f, .string x.s]] w fun e w' => e = .returned (.tuple #[.int .i64 0, .iface t v]) ∧ Below w.heap.size w w' :=
  (fieldSize_any E c x w hE h5 h0 hx.1 hx.2.1 hx.2.2.2).mono fun _ _ ⟨he, hb⟩ => ⟨by rw [he, h, spanV, hk], hb⟩
theorem sizeS_err {c : Nat} {x : FC} {k : Nat} (h : sizeS c x = .error k) : k < 5 := by
  unfold sizeS at h
  repeat' split at h
  all_goals first | (injection h with h; omega) | cases h

set_option maxRecDepth 100000 in
theorem sizeS_err2 {c : Nat} {x : FC} {k : Nat} (h : sizeS c x = .error k) : 2 ≤ k := by
  unfold sizeS at h
  repeat' split at h
  all_goals first | (injection h with h; omega) | cases h

set_option maxRecDepth 100000 in

set_option maxHeartbeats 400000 in
theorem size_state (E : Nat → Value) (s : ByteArray) (n cap : Nat) (A : Option Addr) (w : World) (hE : Errz w E) (hs : s.size ≤ maxLen) (h : kn s.data.toList = false ∨ n ≠ s.size) :
    Calls Tryd.prog 27 #[.string s, .slice A n cap] w fun e w' => e = .returned (.tuple #[.int .i64 0, E 2]) ∧ ∃ m, w' = w.drewN m := by
  have hc2 : w.cell? ⟨16, 0, none⟩ = some (E 2) := hE.cell 2 (by omega) (by omega)
  clear hE
  generalize hK : kn s.data.toList = K at *
  have HK := Lib.hid hK
  clear hK
  go_enter Tryd.func27, Tryd.ntmps27
  go_wp2_with fail
  refine (known_any s _ hs).mono ?_
  rintro e w' ⟨rfl, rfl⟩
  rw [HK.out]
  cases K
  · go_wp2_with fail
    go_quiet (fail)
    go_wp2_with fail
    go_ret2
    exact ⟨rfl, _, rfl⟩
  · have hne : ((n : Int) == (s.size : Int)) = false := by simp; simp at h; omega
    go_wp2_with fail
    go_quiet (fail)
    go_wp2_with fail
    go_ret2
    exact ⟨rfl, _, rfl⟩

set_option maxRecDepth 100000 in
set_option maxHeartbeats 400000 in
theorem size_known (E : Nat → Value) (s : ByteArray) (cap : Nat) (A : Option Addr) (cs : List FC) (w : World) (hE : Errz w E) (h5 : 20 ≤ w.heap.size) (hs : s.size ≤ maxLen) (hk : kn s.data.toList = true) (hn : cs.length = s.size)
    (hcs : Cs w w.heap.size A cs) (hok : ∀ x ∈ cs, x.ok) (hbig : s.size ≤ 4398046511104) :
    Calls Tryd.prog 27 #[.string s, .slice A s.size cap] w fun e w' => e = .returned (spanV E (sumS s.data.toList cs)) ∧ Below w.heap.size w w' := by
  have HE := Lib.hid hE
  clear hE
  have HK := Lib.hid hk
  clear hk
  have HN := Lib.hid hn
  clear hn
  have HC := Lib.hid hcs
  clear hcs
  have HO := Lib.hid hok
  clear hok
  have hs' : s.size ≤ 9223372036854775807 := hs
  go_enter Tryd.func27, Tryd.ntmps27
  go_wp2_with fail
  refine (known_any s _ hs).mono ?_
  rintro e w' ⟨rfl, rfl⟩
  rw [HK.out]
  go_wp2_with fail
  go_loopw [6, 23] (fun t i W => ∃ k m : Nat, k ≤ s.size ∧ i = .int .i64 k ∧ t = .int .i64 m ∧ Hid (sumS (s.data.toList.take k) (cs.take k) = .ok m) ∧ m ≤ 65537 * k ∧ Hid (Below w.heap.size w W)) (fun _ i _ => s.size - (intOf i).toNat)
  case atStart => exact ⟨0, 0, Nat.zero_le _, rfl, rfl, Lib.hid rfl, Nat.le_refl _, Lib.hid (Below.refl _ _)⟩
  case round =>
    obtain ⟨k, m, hk, rfl, rfl, HS, hm, HB⟩ := hrel
    by_cases hlt : k < s.size
    · have hkc : k < cs.length := by rw [HN.out]; exact hlt
      obtain ⟨b, o, rfl, hbB, hc0, hc1, hc2⟩ := (HC.out.keep HB.out).at_ hkc
      generalize hX : cs[k] = x at *
      have HX := Lib.hid hX
      clear hX
      go_wp2_with fail
      have hkI : (0 : Int) ≤ (k : Int) := by omega
      have hkI2 : (k : Int) < (s.size : Int) := by omega
      have hbw : b < wr.heap.size := Nat.lt_of_lt_of_le hbB HB.out.size
      have h5w : 20 ≤ wr.heap.size := Nat.le_trans h5 HB.out.size
      have HXO : Hid x.ok := Lib.hid (by rw [← HX.out]; exact HO.out _ (List.getElem_mem hkc))
      have HZ := Lib.hid (kn_get HK.out hlt)
      generalize hC : s[k].toNat = c at *
      have HCC := Lib.hid hC
      clear hC
      cases hZS : sizeS c x with
      | error e =>
        obtain ⟨t, v, het⟩ := HE.out.some_ e (sizeS_err2 hZS) (sizeS_err hZS)
        have HZS := Lib.hid hZS
        have HET := Lib.hid het
        clear hZS het
        go_region_held3 (fun w' => w'.cell? ⟨b, o + k * 3, none⟩ = some (.int .i64 x.n) ∧ w'.cell? ⟨b, o + k * 3 + 1, none⟩ = some (.float .f64 x.f) ∧ w'.cell? ⟨b, o + k * 3 + 2, none⟩ = some (.string x.s)) (first | go_keep | exact ⟨(hb1.cell (p := ⟨b, _, none⟩) hbw).trans hc0, (hb1.cell (p := ⟨b, _, none⟩) hbw).trans hc1, (hb1.cell (p := ⟨b, _, none⟩) hbw).trans hc2⟩)
          (first
            | (rw [HCC.out]; go_at_call 44; refine (fieldSize_err E c e x _ t v (by exact (HE.out.below (Nat.le_refl 20) ((HB.out.mono h5).drew))) (by exact h5w) HZ.out HXO.out HZS.out HET.out).mono ?_; rintro e w' ⟨rfl, hb1⟩))
        have hz : sizeS (s.data.toList[k]'(by simpa using hlt)).toNat cs[k] = .error e := by
          rw [HX.out, show s.data.toList[k]'(by simpa using hlt) = s[k] from rfl, HCC.out]; exact HZS.out
        have HFIN := Lib.hid (sumS_stop (by simpa using hlt) hkc HS.out hz)
        clear hz
        go_wp2_with fail
        go_ret2
        exact ⟨by rw [HFIN.out, spanV, HET.out]; rfl, HB.out.drew.trans (hb1.mono HB.out.size)⟩
      | ok n =>
        have HZS := Lib.hid hZS
        have hnle := sizeS_le hZS
        clear hZS
        go_region_held3 (fun w' => w'.cell? ⟨b, o + k * 3, none⟩ = some (.int .i64 x.n) ∧ w'.cell? ⟨b, o + k * 3 + 1, none⟩ = some (.float .f64 x.f) ∧ w'.cell? ⟨b, o + k * 3 + 2, none⟩ = some (.string x.s)) (first | go_keep | exact ⟨(hb1.cell (p := ⟨b, _, none⟩) hbw).trans hc0, (hb1.cell (p := ⟨b, _, none⟩) hbw).trans hc1, (hb1.cell (p := ⟨b, _, none⟩) hbw).trans hc2⟩)
          (first
            | (rw [HCC.out]; go_at_call 44; refine (fieldSize_ok E c n x _ (by exact (HE.out.below (Nat.le_refl 20) ((HB.out.mono h5).drew))) (by exact h5w) HZ.out HXO.out HZS.out).mono ?_; rintro e w' ⟨rfl, hb1⟩))
        have hz : sizeS (s.data.toList[k]'(by simpa using hlt)).toNat cs[k] = .ok n := by
          rw [HX.out, show s.data.toList[k]'(by simpa using hlt) = s[k] from rfl, HCC.out]; exact HZS.out
        have HFIN := Lib.hid (sumS_step (by simpa using hlt) hkc HS.out hz)
        clear hz
        go_wp2_with fail
        refine ⟨⟨k + 1, m + n, by omega, by go_num, by go_num, HFIN, by omega, Lib.hid (HB.out.drew.trans (hb1.mono HB.out.size))⟩, by simp [intOf]; omega⟩
    · go_wp2_with fail
      go_ret2
      refine ⟨?_, HB.out⟩
      have h1 := HS.out
      rw [List.take_of_length_le (by simp; omega), List.take_of_length_le (by rw [HN.out]; omega)] at h1
      rw [h1]
      rfl
end Go.Proofs.YtlmdafldggbiaaaDoor.F

/- What fields.known, fields.span answer. -/
import Derived.Test.YtlmdafldggbiaaaDoorFNum
import Derived.Deep.QuietTactic
import Derived.BigQuiet
namespace Go.Proofs.YtlmdafldggbiaaaDoor.F
open Go.RowKit

def kn (l : List UInt8) : Bool := l.all fun c => decide (hd c.toNat ≠ 0)
theorem take_snoc (s : ByteArray) (k : Nat) (h : k < s.size) : s.data.toList.take (k + 1) = s.data.toList.take k ++ [s[k]] := by
  rw [List.take_succ_eq_append_getElem (by simpa using h)]; rfl
theorem kn_at (s : ByteArray) (k : Nat) (h : k < s.size) (h0 : hd s[k].toNat = 0) : kn s.data.toList = false := by
  unfold kn
  rw [List.all_eq_false]
  exact ⟨s[k], by simp [ByteArray.getElem_eq_getElem_data], by simp [h0]⟩

set_option maxRecDepth 100000 in
set_option maxHeartbeats 400000 in
theorem known_any (s : ByteArray) (w : World) (hs : s.size ≤ maxLen) :
    Calls Tryd.prog 43 #[.string s] w fun e w' => e = .returned (.bool (kn s.data.toList)) ∧ w = w' := by
  unfold maxLen at hs
  go_enter Tryd.func43, Tryd.ntmps43
  go_wp2
  go_loop [6] (fun i => ∃ k : Nat, k ≤ s.size ∧ i = .int .i64 k ∧ Hid (kn (s.data.toList.take k) = true)) (fun i => s.size - (intOf i).toNat)
  case atStart => exact ⟨0, Nat.zero_le _, rfl, rfl⟩
  case round =>
    obtain ⟨k, hk, rfl, hkn⟩ := hrel
    by_cases hlt : k < s.size
    · go_wp2_with (go_at_call 57; refine (headSize_any _ _).mono ?_; rintro e w' ⟨rfl, rfl⟩)
      · rename_i h0
        go_ret
        exact ⟨ret_bool (kn_at s k hlt (by simpa using h0)).symm, rfl⟩
      · rename_i h0
        refine ⟨⟨k + 1, by omega, by go_num, ?_⟩, by simp [intOf]; omega⟩
        have h1 := hkn.out
        show kn _ = true
        rw [take_snoc s k hlt]
        unfold kn at h1 ⊢
        rw [List.all_append, h1]
        simpa using h0
    · go_wp2
      go_ret
      refine ⟨ret_bool ?_, rfl⟩
      have h1 := hkn.out
      rw [List.take_of_length_le (by simp; omega)] at h1
      exact h1.symm

/-- What span says of a letter and the bytes behind it: how many bytes the field has, or which error (by its variable's number). -/
def spanS (c : Nat) (bs : List UInt8) : Except Nat Nat :=
  if bs.length < hd c then .error 1
  else if isT c = true then (if bs.length - hd c < num (bs.take (hd c)) then .error 1 else .ok (hd c + num (bs.take (hd c))))
  else if c ≠ 102 ∧ great (hd c) < num (bs.take (hd c)) then .error 3 else .ok (hd c)

theorem hd_cases {c : Nat} (h : hd c ≠ 0) : hd c = 1 ∨ hd c = 2 ∨ hd c = 4 ∨ hd c = 8 := by
  unfold hd at h ⊢
  repeat' split at h
  all_goals simp_all

/-- The five errors' variables hold values that are no nil. -/
def pos : Nat → Nat
  | 0 => 4
  | 1 => 2
  | 2 => 16
  | 3 => 1
  | _ => 3
theorem pos_lt (i : Nat) : pos i < 20 := by
  unfold pos
  split <;> omega
structure Errs (w : World) (E : Nat → Value) : Prop where
  cell : ∀ i, i < 5 → w.cell? ⟨pos i, 0, none⟩ = some (E i)
  some_ : ∀ i, i < 5 → ∃ t v, E i = .iface t v

/-- What span hands back, as a value. -/
def spanV (E : Nat → Value) : Except Nat Nat → Value
  | .ok n => .tuple #[.int .i64 (n : Int), .nilIface]
  | .error k => .tuple #[.int .i64 0, E k]

theorem map_take_bv (bs : List UInt8) (k : Nat) : (bs.map bv).take k = (bs.take k).map bv := by rw [List.map_take]
theorem spanS_short {c : Nat} {bs : List UInt8} (h : bs.length < hd c) : spanS c bs = .error 1 := by simp [spanS, h]
theorem spanS_long {c : Nat} {bs : List UInt8} (h : ¬ bs.length < hd c) (ht : isT c = true) (hm : bs.length - hd c < num (bs.take (hd c))) : spanS c bs = .error 1 := by simp [spanS, h, ht, hm]
theorem spanS_text {c : Nat} {bs : List UInt8} (h : ¬ bs.length < hd c) (ht : isT c = true) (hm : ¬ bs.length - hd c < num (bs.take (hd c))) : spanS c bs = .ok (hd c + num (bs.take (hd c))) := by simp [spanS, h, ht, hm]
theorem spanS_range {c : Nat} {bs : List UInt8} (h : ¬ bs.length < hd c) (ht : isT c = false) (hf : c ≠ 102) (hm : great (hd c) < num (bs.take (hd c))) : spanS c bs = .error 3 := by simp [spanS, h, ht, hf, hm]
theorem spanS_float {c : Nat} {bs : List UInt8} (h : ¬ bs.length < hd c) (ht : isT c = false) (hf : c = 102) : spanS c bs = .ok (hd c) := by
  subst hf; simp [spanS, h, ht]
theorem spanS_num {c : Nat} {bs : List UInt8} (h : ¬ bs.length < hd c) (ht : isT c = false) (hm : ¬ great (hd c) < num (bs.take (hd c))) : spanS c bs = .ok (hd c) := by
  simp [spanS, h, ht, hm]

set_option maxRecDepth 100000 in
set_option maxHeartbeats 400000 in
theorem span_any (E : Nat → Value) (c n cap B : Nat) (A : Option Addr) (bs : List UInt8) (w : World) (hE : Errs w E) (h0 : hd c ≠ 0) (hn : bs.length = n) (hmax : n ≤ maxLen) (hcap : n ≤ cap)
    (hr : Rd w B A (bs.map bv)) :
    Calls Tryd.prog 63 #[.int .u8 (c : Int), .slice A n cap] w fun e w' => e = .returned (spanV E (spanS c bs)) ∧ ∃ m, w' = w.drewN m := by
  have hc1 : w.cell? ⟨2, 0, none⟩ = some (E 1) := hE.cell 1 (by omega)
  have hc3 : w.cell? ⟨1, 0, none⟩ = some (E 3) := hE.cell 3 (by omega)
  clear hE
  have hmax' : n ≤ 9223372036854775807 := hmax
  clear hmax
  have hq := hd_cases h0
  have HR := Lib.hid hr
  clear hr
  generalize hS : spanS c bs = S
  have HS := Lib.hid hS
  clear hS
  have HL := Lib.hid hn
  clear hn
  generalize hH : hd c = h at *
  have HH := Lib.hid hH
  clear hH
  by_cases hlt : n < h
  · have e : S = .error 1 := by rw [← HS.out]; exact spanS_short (by rw [HL.out, HH.out]; exact hlt)
    subst e
    clear HS
    go_enter Tryd.func63, Tryd.ntmps63
    go_wp2_with fail
    refine (headSize_any _ _).mono ?_
    rintro e w' ⟨rfl, rfl⟩
    rw [HH.out]
    go_wp2_with fail
    go_quiet (fail)
    go_wp2
    go_ret2
    exact ⟨rfl, _, rfl⟩
  · have hN64 : num (bs.take h) < 18446744073709551616 := num_lt64 _ (by rw [List.length_take]; omega)
    generalize hN : num (bs.take h) = N at *
    have HN := Lib.hid hN
    clear hN
    go_enter Tryd.func63, Tryd.ntmps63
    go_wp2_with fail
    refine (headSize_any _ _).mono ?_
    rintro e w' ⟨rfl, rfl⟩
    rw [HH.out]
    go_wp2_with fail
    refine (number_any A h _ B (bs.take h) _ (by rw [← map_take_bv]; exact HR.out.take h) (by rw [List.length_take, HL.out]; omega) (by omega)).mono ?_
    rintro e w' ⟨rfl, rfl⟩
    rw [HN.out]
    go_wp2_with fail
    refine (isText_any _ _).mono ?_
    rintro e w' ⟨rfl, rfl⟩
    cases hT : isT c
    · have HT := Lib.hid hT
      clear hT
      by_cases hf : c = 102
      · have e : S = .ok h := by rw [← HS.out, spanS_float (by rw [HL.out, HH.out]; exact hlt) HT.out hf, HH.out]
        subst e
        clear HS
        have hf' : ((c : Int) == 102) = true := by simp [hf]
        go_wp2_with fail
        go_ret2
        exact ⟨rfl, 0, rfl⟩
      · have HG := Lib.hid (rfl : great h = great h)
        have hf' : ((c : Int) == 102) = false := by simp; omega
        go_wp2_with fail
        refine (greatest_any h _ hq).mono ?_
        rintro e w' ⟨rfl, rfl⟩
        by_cases hm : great h < N
        · have e : S = .error 3 := by rw [← HS.out, spanS_range (by rw [HL.out, HH.out]; exact hlt) HT.out hf (by rw [HH.out, HN.out]; exact hm)]
          subst e
          clear HS
          generalize great h = G at *
          go_wp2_with fail
          go_quiet (fail)
          go_wp2
          go_ret2
          exact ⟨rfl, _, rfl⟩
        · have e : S = .ok h := by rw [← HS.out, spanS_num (by rw [HL.out, HH.out]; exact hlt) HT.out (by rw [HH.out, HN.out]; exact hm), HH.out]
          subst e
          clear HS
          generalize great h = G at *
          go_wp2_with fail
          go_ret2
          exact ⟨rfl, 0, rfl⟩
    · have HT := Lib.hid hT
      clear hT
      by_cases hm : n - h < N
      · have e : S = .error 1 := by rw [← HS.out, spanS_long (by rw [HL.out, HH.out]; exact hlt) HT.out (by rw [HL.out, HH.out, HN.out]; exact hm)]
        subst e
        clear HS
        go_wp2_with fail
        go_quiet (fail)
        go_wp2
        go_ret2
        exact ⟨rfl, _, rfl⟩
      · have e : S = .ok (h + N) := by rw [← HS.out, spanS_text (by rw [HL.out, HH.out]; exact hlt) HT.out (by rw [HL.out, HH.out, HN.out]; exact hm), HH.out, HN.out]
        subst e
        clear HS
        go_wp2_with fail
        go_ret2
        exact ⟨rfl, 0, rfl⟩
end Go.Proofs.YtlmdafldggbiaaaDoor.F

/- Is a text a label: the project's and the document's. -/
import Derived.Test.YtooplfpffmnkfaaDoorMem
namespace Go.Proofs.YtooplfpffmnkfaaDoor
open Go.RowKit

theorem get_byte (s : ByteArray) (k : Nat) (h : k < s.size) : s.data.toList[k]? = some s[k] := by
  rw [List.getElem?_eq_getElem (by rw [size_bytes] at h; exact h)]
  rfl
theorem okB_iff {c : UInt8} : okB c = true ↔ ((97 ≤ (c.toNat : Int) ∧ (c.toNat : Int) ≤ 122) ∨ (48 ≤ (c.toNat : Int) ∧ (c.toNat : Int) ≤ 57) ∨ (c.toNat : Int) = 45) := by
  simp only [okB, Bool.or_eq_true, Bool.and_eq_true, decide_eq_true_eq, beq_iff_eq]
  omega
theorem is45 {c : UInt8} : c = 45 ↔ (c.toNat : Int) = 45 := by
  constructor
  · rintro rfl; rfl
  · intro h
    apply UInt8.toNat_inj.1
    show c.toNat = 45
    omega

set_option maxHeartbeats 1000000 in
theorem isLabel_any (s : ByteArray) (w : World) (hs : s.size ≤ 9223372036854775807) : Calls Tryd.prog 23 #[.string s] w fun e w' => e = .returned (.bool (labelB s.data.toList)) ∧ w = w' := by
  have hsz := size_bytes s
  by_cases h0 : s.size < 1
  · have HL : Hid (labelB s.data.toList = false) := Lib.hid (by rw [Bool.eq_false_iff]; intro h; have := (labelB_iff.1 h).1; omega)
    clear hsz
    go_enter Tryd.func23, Tryd.ntmps23
    go_wp2
    go_ret
    exact ⟨by rw [HL.out]; rfl, rfl⟩
  by_cases h16 : 16 < s.size
  · have HL : Hid (labelB s.data.toList = false) := Lib.hid (by rw [Bool.eq_false_iff]; intro h; have := (labelB_iff.1 h).2.1; omega)
    clear hsz
    go_enter Tryd.func23, Tryd.ntmps23
    go_wp2
    go_ret
    exact ⟨by rw [HL.out]; rfl, rfl⟩
  have hp : 0 < s.size := by omega
  have hp1 : s.size - 1 < s.size := by omega
  by_cases hf : (s[0].toNat : Int) = 45
  · have HL : Hid (labelB s.data.toList = false) := Lib.hid (by
      rw [Bool.eq_false_iff]; intro h; exact (labelB_iff.1 h).2.2.1 (by rw [get_byte s 0 hp, is45.2 hf]))
    clear hsz
    go_enter Tryd.func23, Tryd.ntmps23
    go_wp2
    go_ret
    exact ⟨by rw [HL.out]; rfl, rfl⟩
  by_cases hl : (s[s.size - 1].toNat : Int) = 45
  · have HL : Hid (labelB s.data.toList = false) := Lib.hid (by
      rw [Bool.eq_false_iff]; intro h; exact (labelB_iff.1 h).2.2.2.1 (by rw [← hsz, get_byte s _ hp1, is45.2 hl]))
    clear hsz
    go_enter Tryd.func23, Tryd.ntmps23
    go_wp2
    go_ret
    exact ⟨by rw [HL.out]; rfl, rfl⟩
  have HY : Hid ((∀ (k : Nat) c, s.data.toList[k]? = some c → okB c = true) → labelB s.data.toList = true) := Lib.hid (fun h =>
    labelB_yes (by omega) (by omega) (by rw [get_byte s 0 hp]; exact fun e => hf (is45.1 (Option.some.inj e))) (by rw [← hsz, get_byte s _ hp1]; exact fun e => hl (is45.1 (Option.some.inj e))) h)
  have HSZ := Lib.hid hsz
  have hf2 : ((s[0].toNat : Int) == 45) = false := by simpa using hf
  have hl2 : ((s[s.size - 1].toNat : Int) == 45) = false := by simpa using hl
  clear hsz hf hl
  go_enter Tryd.func23, Tryd.ntmps23
  go_wp2
  go_loop [28] (fun i => ∃ k : Nat, k ≤ s.size ∧ i = .int .i64 k ∧ Hid (∀ j, j < k → ∀ c, s.data.toList[j]? = some c → okB c = true)) (fun i => s.size - (intOf i).toNat)
  case atStart => exact ⟨0, Nat.zero_le _, rfl, Lib.hid (fun j hj => absurd hj (Nat.not_lt_zero _))⟩
  case round =>
    obtain ⟨k, hk, rfl, HA⟩ := hrel
    by_cases hlt : k < s.size
    · by_cases hok : okB s[k] = true
      · have HN : Hid (∀ j, j < k + 1 → ∀ c, s.data.toList[j]? = some c → okB c = true) := Lib.hid (fun j hj c hc => by
          by_cases e : j = k
          · subst e
            rw [get_byte s j hlt] at hc
            rw [← Option.some.inj hc]; exact hok
          · exact HA.out j (by omega) c hc)
        have hor2 := okB_iff.1 hok
        clear hok
        rcases hor2 with ⟨h1, h2⟩ | ⟨h1, h2⟩ | h1
        all_goals
          go_wp2
          all_goals
            go_round
            case rel => exact ⟨k + 1, by omega, by go_num, HN⟩
            case measure => simp [intOf]; omega
      · have HL : Hid (labelB s.data.toList = false) := Lib.hid (labelB_not (get_byte s k hlt) (by simpa using hok))
        have hor := mt okB_iff.2 hok
        have h1 : ¬ (97 ≤ (s[k].toNat : Int) ∧ (s[k].toNat : Int) ≤ 122) := fun h => hor (.inl h)
        have h2 : ¬ (48 ≤ (s[k].toNat : Int) ∧ (s[k].toNat : Int) ≤ 57) := fun h => hor (.inr (.inl h))
        have h3 : ((s[k].toNat : Int) == 45) = false := by simpa using (fun h => hor (.inr (.inr h)) : ¬ (s[k].toNat : Int) = 45)
        clear hor hok
        by_cases g1 : 97 ≤ (s[k].toNat : Int)
        · have g2 : ¬ (s[k].toNat : Int) ≤ 122 := fun h => h1 ⟨g1, h⟩
          have g3 : ¬ (s[k].toNat : Int) ≤ 57 := by omega
          have g4 : 48 ≤ (s[k].toNat : Int) := by omega
          clear h1 h2
          go_wp2
          go_ret
          exact ⟨by rw [HL.out]; rfl, rfl⟩
        · by_cases g4 : 48 ≤ (s[k].toNat : Int)
          · have g3 : ¬ (s[k].toNat : Int) ≤ 57 := fun h => h2 ⟨g4, h⟩
            clear h1 h2
            go_wp2
            go_ret
            exact ⟨by rw [HL.out]; rfl, rfl⟩
          · clear h1 h2
            go_wp2
            go_ret
            exact ⟨by rw [HL.out]; rfl, rfl⟩
    · have HL : Hid (labelB s.data.toList = true) := Lib.hid (HY.out (fun j c hc => HA.out j (by
        have := (List.getElem?_eq_some_iff.1 hc).1
        rw [← HSZ.out] at this
        omega) c hc))
      go_wp2
      go_ret
      exact ⟨by rw [HL.out]; rfl, rfl⟩
end Go.Proofs.YtooplfpffmnkfaaDoor

/- Is a text a label: the document's. -/
import Derived.Test.YtooplfpffmnkfaaDoorLeaf
namespace Go.Proofs.YtooplfpffmnkfaaDoor
open Go.RowKit

/-- No byte up to k speaks against a label. -/
def Good (s : ByteArray) (k : Nat) : Prop := ∀ j, j < k → ∀ c, s.data.toList[j]? = some c → okB c = true ∧ (c = 45 → 0 < j ∧ j + 1 < s.size)
theorem Good.next {s : ByteArray} {k : Nat} (h : Good s k) (hlt : k < s.size) (h1 : okB s[k] = true) (h2 : (s[k].toNat : Int) = 45 → 0 < k ∧ k + 1 < s.size) : Good s (k + 1) := fun j hj c hc => by
  by_cases e : j = k
  · subst e
    rw [get_byte s j hlt] at hc
    rw [← Option.some.inj hc]; exact ⟨h1, fun e => h2 (is45.1 e)⟩
  · exact h j (by omega) c hc
theorem good_end {s : ByteArray} (h : Good s s.size) : labelB s.data.toList = (decide (1 ≤ s.size) && decide (s.size ≤ 16)) := by
  have hsz := size_bytes s
  rw [Bool.eq_iff_iff]
  simp only [Bool.and_eq_true, decide_eq_true_eq]
  constructor
  · intro hl
    have := labelB_iff.1 hl
    omega
  · rintro ⟨h1, h2⟩
    refine labelB_yes (by omega) (by omega) (fun e => ?_) (fun e => ?_) (fun k c hk => (h k (by have := (List.getElem?_eq_some_iff.1 hk).1; omega) c hk).1)
    · have := ((h 0 (by omega) _ e).2 rfl).1
      omega
    · have := ((h _ (by omega) _ e).2 rfl).2
      omega
theorem bad_byte {s : ByteArray} {k : Nat} (hlt : k < s.size) (h : okB s[k] = false ∨ ((s[k].toNat : Int) = 45 ∧ ¬ (0 < k ∧ k + 1 < s.size))) : labelB s.data.toList = false := by
  have hsz := size_bytes s
  rcases h with h | ⟨h1, h2⟩
  · exact labelB_not (get_byte s k hlt) h
  · rw [Bool.eq_false_iff]
    intro hl
    have hl := labelB_iff.1 hl
    have e := get_byte s k hlt
    rw [is45.2 h1] at e
    by_cases h0 : k = 0
    · subst h0; exact hl.2.2.1 e
    · have : k = s.data.toList.length - 1 := by omega
      rw [this] at e
      exact hl.2.2.2.1 e

set_option maxHeartbeats 1000000 in
theorem refLabel_any (s : ByteArray) (w : World) (hs : s.size ≤ 9223372036854775807) : Calls Tryd.prog 24 #[.string s] w fun e w' => e = .returned (.bool (labelB s.data.toList)) ∧ w = w' := by
  go_enter Tryd.func24, Tryd.ntmps24
  go_wp2
  go_loop [3] (fun i => ∃ k : Nat, k ≤ s.size ∧ i = .int .i64 k ∧ Shut (Good s k)) (fun i => s.size - (intOf i).toNat)
  case atStart => exact ⟨0, Nat.zero_le _, rfl, ⟨fun j hj => absurd hj (Nat.not_lt_zero _)⟩⟩
  case round =>
    obtain ⟨k, hk, rfl, HG⟩ := hrel
    by_cases hlt : k < s.size
    · by_cases hin : 0 < k ∧ k + 1 < s.size
      · obtain ⟨hk0, hk1⟩ := hin
        have hk2 : (k : Int) < (s.size : Int) - 1 := by omega
        by_cases hok : okB s[k] = true
        · have HN : Shut (Good s (k + 1)) := ⟨HG.out.next hlt hok (fun _ => ⟨hk0, hk1⟩)⟩
          have hor2 := okB_iff.1 hok
          clear hok
          rcases hor2 with ⟨h1, h2⟩ | ⟨h1, h2⟩ | h1
          all_goals
            go_wp2
            all_goals
              go_round
              case rel => exact ⟨k + 1, by omega, by go_num, HN⟩
              case measure => simp [intOf]; omega
        · have HL : Hid (labelB s.data.toList = false) := Lib.hid (bad_byte hlt (.inl (by simpa using hok)))
          have hor := mt okB_iff.2 hok
          have h1 : ¬ (97 ≤ (s[k].toNat : Int) ∧ (s[k].toNat : Int) ≤ 122) := fun h => hor (.inl h)
          have h2 : ¬ (48 ≤ (s[k].toNat : Int) ∧ (s[k].toNat : Int) ≤ 57) := fun h => hor (.inr (.inl h))
          have h3 : ((s[k].toNat : Int) == 45) = false := by simpa using (fun h => hor (.inr (.inr h)) : ¬ (s[k].toNat : Int) = 45)
          clear hor hok
          by_cases g1 : 97 ≤ (s[k].toNat : Int)
          · have g2 : ¬ (s[k].toNat : Int) ≤ 122 := fun h => h1 ⟨g1, h⟩
            have g3 : ¬ (s[k].toNat : Int) ≤ 57 := by omega
            have g4 : 48 ≤ (s[k].toNat : Int) := by omega
            clear h1 h2
            go_wp2
            go_ret
            exact ⟨by rw [HL.out]; rfl, rfl⟩
          · by_cases g4 : 48 ≤ (s[k].toNat : Int)
            · have g3 : ¬ (s[k].toNat : Int) ≤ 57 := fun h => h2 ⟨g4, h⟩
              clear h1 h2
              go_wp2
              go_ret
              exact ⟨by rw [HL.out]; rfl, rfl⟩
            · clear h1 h2
              go_wp2
              go_ret
              exact ⟨by rw [HL.out]; rfl, rfl⟩
      · by_cases haz : (97 ≤ (s[k].toNat : Int) ∧ (s[k].toNat : Int) ≤ 122) ∨ (48 ≤ (s[k].toNat : Int) ∧ (s[k].toNat : Int) ≤ 57)
        · have HN : Shut (Good s (k + 1)) := ⟨HG.out.next hlt (okB_iff.2 (by omega)) (fun e => by omega)⟩
          rcases haz with ⟨h1, h2⟩ | ⟨h1, h2⟩
          all_goals
            by_cases hk0 : 0 < k
            all_goals
              go_wp2
              all_goals
                go_round
                case rel => exact ⟨k + 1, by omega, by go_num, HN⟩
                case measure => simp [intOf]; omega
        · have HL : Hid (labelB s.data.toList = false) := Lib.hid (bad_byte hlt (by
            by_cases h : (s[k].toNat : Int) = 45
            · exact .inr ⟨h, hin⟩
            · refine .inl ?_
              rw [Bool.eq_false_iff]
              intro h2
              have := okB_iff.1 h2
              omega))
          have h1 : ¬ (97 ≤ (s[k].toNat : Int) ∧ (s[k].toNat : Int) ≤ 122) := fun h => haz (.inl h)
          have h2 : ¬ (48 ≤ (s[k].toNat : Int) ∧ (s[k].toNat : Int) ≤ 57) := fun h => haz (.inr h)
          clear haz
          by_cases hk0 : 0 < k
          all_goals
            try have hk2 : ¬ (k : Int) < (s.size : Int) - 1 := by omega
            clear hin
            by_cases g1 : 97 ≤ (s[k].toNat : Int)
            · have g2 : ¬ (s[k].toNat : Int) ≤ 122 := fun h => h1 ⟨g1, h⟩
              have g3 : ¬ (s[k].toNat : Int) ≤ 57 := by omega
              have g4 : 48 ≤ (s[k].toNat : Int) := by omega
              clear h1 h2
              by_cases g5 : (s[k].toNat : Int) = 45
              · omega
              have h3 : ((s[k].toNat : Int) == 45) = false := by simpa using g5
              clear g5
              go_wp2
              go_ret
              exact ⟨by rw [HL.out]; rfl, rfl⟩
            · by_cases g4 : 48 ≤ (s[k].toNat : Int)
              · have g3 : ¬ (s[k].toNat : Int) ≤ 57 := fun h => h2 ⟨g4, h⟩
                by_cases g5 : (s[k].toNat : Int) = 45
                · omega
                have h3 : ((s[k].toNat : Int) == 45) = false := by simpa using g5
                clear h1 h2 g5
                go_wp2
                go_ret
                exact ⟨by rw [HL.out]; rfl, rfl⟩
              · clear h1 h2
                by_cases g5 : (s[k].toNat : Int) = 45
                · go_wp2
                  go_ret
                  exact ⟨by rw [HL.out]; rfl, rfl⟩
                · have h3 : ((s[k].toNat : Int) == 45) = false := by simpa using g5
                  clear g5
                  go_wp2
                  go_ret
                  exact ⟨by rw [HL.out]; rfl, rfl⟩
    · have he : k = s.size := by omega
      have HL : Hid (labelB s.data.toList = (decide (1 ≤ s.size) && decide (s.size ≤ 16))) := Lib.hid (good_end (by rw [← he]; exact HG.out))
      by_cases h1 : 1 ≤ s.size
      · by_cases h2 : s.size ≤ 16
        · have HM : Hid (labelB s.data.toList = true) := Lib.hid (by rw [HL.out]; simp [h1, h2])
          go_wp2
          go_ret
          exact ⟨by rw [HM.out]; exact ret_bool (by simp; omega), rfl⟩
        · have HM : Hid (labelB s.data.toList = false) := Lib.hid (by rw [HL.out]; simp [h2])
          go_wp2
          go_ret
          exact ⟨by rw [HM.out]; exact ret_bool (by simp; omega), rfl⟩
      · have HM : Hid (labelB s.data.toList = false) := Lib.hid (by rw [HL.out]; simp [h1])
        go_wp2
        go_ret
        exact ⟨by rw [HM.out]; rfl, rfl⟩
end Go.Proofs.YtooplfpffmnkfaaDoor

/- The reference's Words and New: the first words and those of the rounds. -/
import Derived.Test.YthfpkefieemiaaaDoorPrimes
namespace Go.Proofs.YthfpkefieemiaaaDoor
open Go.RowKit

theorem Rd.grown {w w' : World} {A : Option Addr} {xs : List Value} {r : Option Nat} (h : Rd w w.heap.size A xs) (hg : w.grownBy w' r) (hne : ∀ ad, A = some ad → some ad.block ≠ r) : Rd w' w'.heap.size A xs := by
  rcases h with h0 | ⟨ad, h1, h2, h3⟩
  · exact .inl h0
  · refine .inr ⟨ad, h1, Nat.lt_of_lt_of_le h2 hg.size, fun j u hj => ?_⟩
    rw [← h3 j u hj]
    have e : (ad.add j).block = ad.block := by unfold Addr.add; split <;> rfl
    unfold World.cell?
    rw [e, hg.block ad.block h2 (hne ad h1)]
theorem rootAt (l : List Nat) (two : Bool) (ws : List Wd) (h : l.map (fun p => rootS p two) = ws) (k : Nat) (hk : k < l.length) : ws.take (k + 1) = ws.take k ++ [rootS l[k] two] := by
  subst h
  rw [List.take_succ_eq_append_getElem (by simpa using hk)]
  simp

theorem primes_many : ∃ L : List Nat, L.length = 64 ∧ (∀ q ∈ L, 2 ≤ q ∧ q < 4294967296) ∧ L.map (fun p => rootS p false) = KT ∧ ∀ w, Calls Tryd.prog 32 #[.int .i64 64] w fun e w' => ∃ A c, e = .returned (.slice A 64 c) ∧ Hid (64 ≤ c ∧ c ≤ 9223372036854775807 ∧ Rd w' w'.heap.size A (L.map nv) ∧ Below w.heap.size w w' ∧ ∀ ad, A = some ad → w.heap.size ≤ ad.block) :=
  ⟨primesTo 310, many_primes.2, fun q hq => ⟨(primesTo_range 310 q hq).1, Nat.lt_trans (primesTo_range 310 q hq).2 (by decide)⟩, round_words, primes_64⟩

set_option maxHeartbeats 1000000 in
theorem words_any (w : World) : Calls Tryd.prog 26 #[] w fun e w' => ∃ A c B d, e = .returned (.tuple #[.slice A 8 c, .slice B 64 d]) ∧ Hid (8 ≤ c ∧ c ≤ 9223372036854775807 ∧ 64 ≤ d ∧ d ≤ 9223372036854775807 ∧ Rd w' w'.heap.size A (H0.list.map uv) ∧ Rd w' w'.heap.size B (KT.map uv) ∧ Below w.heap.size w w') := by
  have HB2 := Lib.hid ((below_alloc w (.cells #[] 43)).trans ((below_alloc (w.alloc (.cells #[] 43)) (.cells #[] 43)).mono (by simp)))
  have HOA := Lib.hid ((own_emptyN w w.heap.size 43 (Nat.le_refl _)).alloc (.cells #[] 43))
  have HRB : Hid (Row ((w.alloc (.cells #[] 43)).alloc (.cells #[] 43)) (w.heap.size + 1) 43 []) := Lib.hid (by
    have h1 := Row.new (w.alloc (.cells #[] 43)) [] 43
    simpa using h1)
  go_enter Tryd.func26, Tryd.ntmps26
  go_wp2_with fail
  with_reducible refine (primes_8 _).mono ?_
  rintro e w2 ⟨P, pc, rfl, HP⟩
  have hgb : w.heap.size + 1 < ((w.alloc (.cells #[] 43)).alloc (.cells #[] 43)).heap.size := by simp
  have HB3 := Lib.hid (HB2.out.trans (HP.out.2.2.2.1.mono (Nat.le_trans (by omega) (Nat.le_of_lt hgb))))
  have HOA3 := Lib.hid (own_below HOA.out HP.out.2.2.2.1)
  have HRB3 := Lib.hid (HRB.out.below HP.out.2.2.2.1 hgb)
  have HPR := Lib.hid HP.out.2.2.1
  have HPB : Hid (∀ ad, P = some ad → w.heap.size + 1 < ad.block) := Lib.hid (fun ad h => Nat.lt_of_lt_of_le hgb (HP.out.2.2.2.2 ad h))
  clear HB2 HOA HRB HP hgb
  generalize hgbe : w.heap.size + 1 = gb at *
  have hgb1 : w.heap.size < gb := by omega
  have HPL : Hid ((primesTo 18).length = 8) := Lib.hid few_primes.2
  clear hgbe
  go_wp2_with fail
  go_loopw [2, 12] (fun v i W => ∃ k : Nat, k ≤ 8 ∧ i = .int .i64 k ∧ Shut (W.ownsRow w.heap.size 43 1 v k ((H0.list.take k).map uv) ∧ some gb ≠ v.ownBlock ∧ Row W gb 43 [] ∧ Rd W W.heap.size P ((primesTo 18).map nv) ∧ (∀ ad, P = some ad → some ad.block ≠ v.ownBlock) ∧ Below w.heap.size w W)) (fun _ i _ => 8 - (intOf i).toNat)
  case atStart =>
    refine ⟨0, Nat.zero_le _, rfl, ⟨HOA3.out, ?_, HRB3.out, HPR.out, ?_, HB3.out⟩⟩
    · intro e; have e2 : gb = w.heap.size := Option.some.inj e; omega
    · intro ad had e
      have e2 : ad.block = w.heap.size := Option.some.inj e
      have := HPB.out ad had
      omega
  case round =>
    clear HOA3 HRB3 HPR HB3 HPB
    obtain ⟨k, hk, rfl, HI⟩ := hrel
    have hszr : w.heap.size ≤ wr.heap.size := HI.out.2.2.2.2.2.size
    by_cases hlt : k < 8
    · have hk2 : k < (primesTo 18).length := by rw [HPL.out]; exact hlt
      obtain ⟨ad, rfl, _, hcl⟩ := HI.out.2.2.2.1.cell (k := k) (u := nv (primesTo 18)[k]) (by simp [hk2])
      have hqr := primesTo_range 18 (primesTo 18)[k] (List.getElem_mem hk2)
      have hst := rootAt (primesTo 18) true H0.list first_words k hk2
      generalize (primesTo 18)[k] = q at *
      unfold nv at hcl
      have HST := Lib.hid hst
      clear hst
      go_wp2_with fail
      with_reducible refine (root_any q true 2 wr (by omega) rfl).mono ?_
      rintro e w' ⟨rfl, rfl⟩
      obtain ⟨x, HX⟩ : ∃ x, Shut (rootS q true = x) := ⟨_, ⟨rfl⟩⟩
      simp only [HX.out]
      have HB2 := Lib.hid (HI.out.2.2.2.2.2.alloc hszr (.cells #[.int .u32 (U x)] 43))
      have HW2 := Lib.hid (And.intro (HI.out.2.2.1.alloc (.cells #[.int .u32 (U x)] 43)) (Rd.grown HI.out.2.2.2.1 (grown_alloc wr (.cells #[.int .u32 (U x)] 43)) (fun ad h e => by cases e)))
      go_wp2_with (first
        | (refine wl_appendN rfl (.tmp 16) (.tmp 19) 52 43 (.int .u32 0) 4 (by decide) Tryd.underlying52 w32_info rfl rfl w.heap.size u2 k ((H0.list.take k).map uv) rfl (HI.out.1.alloc _) ⟨wr.heap.size, 0, none⟩ 1 1 [.int .u32 (U x)] rfl rfl (cells_new wr #[.int .u32 (U x)] 43) (by simp [Value.oneCell']) (by omega) HB2.out.size ?_
           intro v3 w3 HA3))
      refine ⟨⟨k + 1, by omega, by go_num, ⟨?_, ?_, ?_, ?_, ?_, ?_⟩⟩, by simp [intOf]; omega⟩
      · rw [HST.out, List.map_append, HX.out]; exact HA3.out.1
      · rcases HA3.out.2.2 with e | e
        · rw [e]; exact HI.out.2.1
        · rw [e]; intro e2; have e3 := Option.some.inj e2; have := HI.out.2.2.1.lt; simp at e3; omega
      · exact HW2.out.1.grown HA3.out.2.1 (fun e => HI.out.2.1 e.symm)
      · exact HW2.out.2.grown HA3.out.2.1 HI.out.2.2.2.2.1
      · intro ad2 had
        rcases HA3.out.2.2 with e | e
        · rw [e]; exact HI.out.2.2.2.2.1 ad2 had
        · rw [e]
          intro e2
          have e3 := Option.some.inj e2
          injection had with had
          subst had
          have h5 := lt_of_cell hcl
          have e4 : (ad.add k).block = ad.block := by unfold Addr.add; split <;> rfl
          rw [e4] at h5
          simp at e3
          omega
      · exact HB2.out.grown HA3.out.2.1 HB2.out.size (fun j hj => (HI.out.1.lt j hj).1)
    · have hown := HI.out.1
      have hk8 : k = 8 := by omega
      have HNE := Lib.hid HI.out.2.1
      obtain ⟨A, c, rfl, hl, hc, hcm, hrd, _⟩ := own_sliceN hown
      have HRA : Hid (Rd wr wr.heap.size A (H0.list.map uv)) := Lib.hid (by
        rwa [List.take_of_length_le (by rw [list_length]; omega)] at hrd)
      have HAG : Hid (∀ ad, A = some ad → some ad.block ≠ some gb) := Lib.hid (fun ad had e => by
        apply HNE.out
        rw [had]
        exact e.symm)
      have HRW := Lib.hid HI.out.2.2.1
      have HBR := Lib.hid HI.out.2.2.2.2.2
      have hc8 : 8 ≤ c := by omega
      clear hown hl hrd HI HNE hc
      obtain rfl := hk8
      go_wp2_with fail
      obtain ⟨L, hL1, hL2, hL3, hL4⟩ := primes_many
      have HL4 := Lib.hid hL4
      have HL3 : Shut (L.map (fun p => rootS p false) = KT) := ⟨hL3⟩
      have HL2 := Lib.hid hL2
      have HPL2 := Lib.hid hL1
      clear hL1 hL2 hL3 hL4
      with_reducible refine (HL4.out wr).mono ?_
      rintro e w4 ⟨P2, pc2, rfl, HP2⟩
      have HB4 := Lib.hid (HBR.out.trans (HP2.out.2.2.2.1.mono hszr))
      have HRA4 := Lib.hid ((HRA.out.below HP2.out.2.2.2.1).more HP2.out.2.2.2.1.size)
      have HRW4 := Lib.hid (HRW.out.below HP2.out.2.2.2.1 HRW.out.lt)
      have HPR2 := Lib.hid HP2.out.2.2.1
      have hgbw : gb < wr.heap.size := HRW.out.lt
      have HPB2 : Hid (∀ ad, P2 = some ad → gb < ad.block) := Lib.hid (fun ad h => Nat.lt_of_lt_of_le hgbw (HP2.out.2.2.2.2 ad h))
      have HOB4 : Hid (w4.ownsRow w.heap.size 43 1 (.slice (some ⟨gb, 0, none⟩) 0 0) 0 []) := Lib.hid ⟨rfl, .inr ⟨gb, 0, #[], rfl, by omega, HRW4.out, Nat.le_refl _, by decide, rfl, rfl⟩⟩
      clear HP2 HRW HRA HBR HRW4
      go_wp2_with fail
      go_loopw [3, 24] (fun v i W => ∃ k : Nat, k ≤ 64 ∧ i = .int .i64 k ∧ Shut (W.ownsRow w.heap.size 43 1 v k ((KT.take k).map uv) ∧ Rd W W.heap.size P2 (L.map nv) ∧ (∀ ad, P2 = some ad → some ad.block ≠ v.ownBlock) ∧ Rd W W.heap.size A (H0.list.map uv) ∧ (∀ ad, A = some ad → some ad.block ≠ v.ownBlock) ∧ Below w.heap.size w W)) (fun _ i _ => 64 - (intOf i).toNat)
      case atStart =>
        refine ⟨0, Nat.zero_le _, rfl, ⟨HOB4.out, HPR2.out, ?_, HRA4.out, HAG.out, HB4.out⟩⟩
        intro ad had e
        have e2 : ad.block = gb := Option.some.inj e
        have := HPB2.out ad had
        omega
      case round =>
        clear HOB4 HPR2 HPB2 HRA4 HB4 HAG
        obtain ⟨k, hk, rfl, HI⟩ := hrel
        have hszr : w.heap.size ≤ wr.heap.size := HI.out.2.2.2.2.2.size
        by_cases hlt : k < 64
        · have hk2 : k < L.length := by rw [HPL2.out]; exact hlt
          obtain ⟨ad, rfl, _, hcl⟩ := HI.out.2.1.cell (k := k) (u := nv L[k]) (by simp [hk2])
          have hqr := HL2.out L[k] (List.getElem_mem hk2)
          have hst := rootAt L false KT HL3.out k hk2
          generalize L[k] = q at *
          unfold nv at hcl
          have HST := Lib.hid hst
          clear hst
          go_wp2_with fail
          with_reducible refine (root_any q false 3 wr (by omega) rfl).mono ?_
          rintro e w' ⟨rfl, rfl⟩
          obtain ⟨x, HX⟩ : ∃ x, Shut (rootS q false = x) := ⟨_, ⟨rfl⟩⟩
          simp only [HX.out]
          have HB2 := Lib.hid (HI.out.2.2.2.2.2.alloc hszr (.cells #[.int .u32 (U x)] 43))
          have HW2 := Lib.hid (And.intro (Rd.grown HI.out.2.2.2.1 (grown_alloc wr (.cells #[.int .u32 (U x)] 43)) (fun ad h e => by cases e)) (Rd.grown HI.out.2.1 (grown_alloc wr (.cells #[.int .u32 (U x)] 43)) (fun ad h e => by cases e)))
          have HLT : Hid (∀ a2, A = some a2 → a2.block < wr.heap.size) := Lib.hid (fun a2 ha2 => by
            rcases HI.out.2.2.2.1 with h0 | ⟨a3, h1, h2, _⟩
            · simp [Regs.list] at h0
            · rw [ha2] at h1; injection h1 with h1; rw [h1]; exact h2)
          go_wp2_with (first
            | (refine wl_appendN rfl (.tmp 28) (.tmp 31) 52 43 (.int .u32 0) 4 (by decide) Tryd.underlying52 w32_info rfl rfl w.heap.size u3 k ((KT.take k).map uv) rfl (HI.out.1.alloc _) ⟨wr.heap.size, 0, none⟩ 1 1 [.int .u32 (U x)] rfl rfl (cells_new wr #[.int .u32 (U x)] 43) (by simp [Value.oneCell']) (by omega) HB2.out.size ?_
               intro v3 w3 HA3))
          refine ⟨⟨k + 1, by omega, by go_num, ⟨?_, ?_, ?_, ?_, ?_, ?_⟩⟩, by simp [intOf]; omega⟩
          · rw [HST.out, List.map_append, HX.out]; exact HA3.out.1
          · exact HW2.out.2.grown HA3.out.2.1 HI.out.2.2.1
          · intro ad2 had
            rcases HA3.out.2.2 with e | e
            · rw [e]; exact HI.out.2.2.1 ad2 had
            · rw [e]
              intro e2
              have e3 := Option.some.inj e2
              injection had with had
              subst had
              have h5 := lt_of_cell hcl
              have e4 : (ad.add k).block = ad.block := by unfold Addr.add; split <;> rfl
              rw [e4] at h5
              simp at e3
              omega
          · exact HW2.out.1.grown HA3.out.2.1 HI.out.2.2.2.2.1
          · intro ad2 had
            rcases HA3.out.2.2 with e | e
            · rw [e]; exact HI.out.2.2.2.2.1 ad2 had
            · rw [e]
              intro e2
              have e3 := Option.some.inj e2
              have := HLT.out ad2 had
              simp at e3
              omega
          · exact HB2.out.grown HA3.out.2.1 HB2.out.size (fun j hj => (HI.out.1.lt j hj).1)
        · have hown := HI.out.1
          have hk64 : k = 64 := by omega
          obtain ⟨B, d, rfl, hl, hd, hdm, hrd, _⟩ := own_sliceN hown
          have HRB : Hid (Rd wr wr.heap.size B (KT.map uv)) := Lib.hid (by
            rwa [List.take_of_length_le (by rw [KT_length]; omega)] at hrd)
          have HRA := Lib.hid HI.out.2.2.2.1
          have HBR := Lib.hid HI.out.2.2.2.2.2
          clear hown hl hrd HI
          obtain rfl := hk64
          go_wp2_with fail
          go_ret2
          exact ⟨A, c, B, d, rfl, Lib.hid ⟨hc8, hcm, hd, hdm, HRA.out, HRB.out, HBR.out⟩⟩
end Go.Proofs.YthfpkefieemiaaaDoor

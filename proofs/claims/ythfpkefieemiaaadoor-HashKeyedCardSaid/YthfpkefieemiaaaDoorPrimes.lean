/- The reference's primes, Words and New. -/
import Derived.Test.YthfpkefieemiaaaDoorWide
namespace Go.Proofs.YthfpkefieemiaaaDoor
open Go.RowKit

theorem u64_info : (Tryd.prog.info? 46).map (fun i => (i.zero, i.size, i.bytes)) = some (some (.int .u64 0), 1, 8) := by kernel_rfl
/-- One number appended to a row of our own. -/
theorem wl_appendN {w : World} {ops : Array Oper} {rest : List Oper} {o : Oper} {a : Act} {Q : Exit → Act → World → Prop} (hgd : o.guard = none) (t x : Operand) (T e : TypeId) (z : Value) (by_ : Nat) (hby : by_ ≤ 8)
    (hu : Tryd.prog.underlying T = some (.slice e)) (hinf : (Tryd.prog.info? e).map (fun i => (i.zero, i.size, i.bytes)) = some (some z, 1, by_)) (hzs : z.cells.size = 1)
    (ho : o.op = .call { callee := .builtin .append, args := #[t, x], argTypes := #[T, T] }) (base : Nat) (v : Value) (n : Nat) (xs : List Value) (hs : a.eval t = v) (hown : w.ownsRow base e 1 v n xs)
    (ad : Addr) (m c : Nat) (cs : List Value) (hx : a.eval x = .slice (some ad) m c) (hm : cs.length = m) (hc : ∀ (j : Nat) (u : Value), cs[j]? = some u → w.cell? (ad.add j) = some u) (h1 : ∀ u ∈ cs, u.oneCell' = true)
    (hb : n + m ≤ 1000000) (hbase : base ≤ w.heap.size)
    (h : ∀ v' w', Hid (w'.ownsRow base e 1 v' (n + m) (xs ++ cs) ∧ w.grownBy w' v.ownBlock ∧ (v'.ownBlock = v.ownBlock ∨ v'.ownBlock = some w.heap.size)) → wpList Tryd.prog ops Q rest (a.put o.dst v') w') : wpList Tryd.prog ops Q (o :: rest) a w := by
  refine wpList_plain hgd fun K hK => ?_
  obtain ⟨i0, hi0, hz0, hz1, hz2⟩ := info_parts' hinf
  obtain ⟨v', w', hrun, h2, h3, _, h5⟩ := run_append_own_at (P := Tryd.prog) w base T o.type e i0 _ 1 by_ hu hi0 hz0 hz1 hz2 hzs (by omega) v n xs hown ad m c cs (by omega) hc h1 (by simp only [maxLen]; omega) (Nat.le_trans (Nat.mul_le_mul hb hby) (by decide)) hbase
  unfold Oper.wp execOp
  simp only [ho, resolve, invoke, builtin, Sem.run_bind, Sem.run_pure, Result.andThen_ok, List.map_toArray, List.map_cons, List.map_nil, hs, hx, hrun]
  exact hK _ _ (h v' w' ⟨h2, h3, h5⟩)
theorem own_emptyN (w : World) (base : Nat) (e : TypeId) (h : base ≤ w.heap.size) : (w.alloc (.cells #[] e)).ownsRow base e 1 (.slice (some ⟨w.heap.size, 0, none⟩) 0 0) 0 [] :=
  ⟨rfl, .inr ⟨w.heap.size, 0, #[], rfl, h, heap_alloc_last w _, Nat.le_refl _, by decide, rfl, rfl⟩⟩
theorem own_sliceN {w : World} {base : Nat} {e : TypeId} {v : Value} {n : Nat} {cs : List Value} (h : w.ownsRow base e 1 v n cs) : ∃ A c, v = .slice A n c ∧ cs.length = n ∧ n ≤ c ∧ c ≤ 9223372036854775807 ∧ Rd w w.heap.size A cs ∧ ∀ ad, A = some ad → base ≤ ad.block := by
  have hl : cs.length = n := by simpa using h.1
  rcases h.2 with ⟨rfl, rfl⟩ | ⟨g, cap, cur, rfl, hbg, hg, hnc, hcm, _⟩
  · exact ⟨none, 0, rfl, hl, Nat.le_refl _, by decide, .inl (List.eq_nil_of_length_eq_zero hl), fun ad h => by cases h⟩
  · refine ⟨_, cap, rfl, hl, hnc, hcm, .inr ⟨⟨g, 0, none⟩, rfl, ?_, h.cells (g := g) rfl⟩, fun ad had => by injection had with had; rw [← had]; exact hbg⟩
    rcases Nat.lt_or_ge g w.heap.size with hlt | hge
    · exact hlt
    · rw [Array.getElem?_eq_none hge] at hg; cases hg

/-- A number of 64 bits as a cell. -/
def nv (p : Nat) : Value := .int .u64 (p : Int)
theorem primesTo_range (k : Nat) : ∀ q ∈ primesTo k, 2 ≤ q ∧ q < 2 + k := by
  induction k with
  | zero => simp [primesTo]
  | succ k ih =>
    intro q hq
    unfold primesTo at hq
    split at hq
    · rcases List.mem_append.1 hq with h | h
      · have := ih q h; omega
      · simp at h; omega
    · have := ih q hq; omega
theorem primesTo_length (k : Nat) : (primesTo k).length ≤ k := by
  induction k with
  | zero => simp [primesTo]
  | succ k ih =>
    unfold primesTo
    split
    · rw [List.length_append]; simp; omega
    · omega
theorem primesTo_yes (k : Nat) (h : ((primesTo k).all fun q => (2 + k) % q != 0) = true) : primesTo (k + 1) = primesTo k ++ [2 + k] := by rw [primesTo, if_pos h]
theorem primesTo_no (k : Nat) (h : ((primesTo k).all fun q => (2 + k) % q != 0) = false) : primesTo (k + 1) = primesTo k := by rw [primesTo, if_neg (by rw [h]; decide)]

set_option maxHeartbeats 1000000 in
theorem primes_any (n K : Nat) (w : World) (hn : n ≤ 1000) (hK : K ≤ 1000) (hB : ∀ k, k < K → (primesTo k).length < n) (hE : ¬ (primesTo K).length < n) (hL : (primesTo K).length = n) :
    Calls Tryd.prog 32 #[.int .i64 (n : Int)] w fun e w' => ∃ A c, e = .returned (.slice A n c) ∧ Hid (n ≤ c ∧ c ≤ 9223372036854775807 ∧ Rd w' w'.heap.size A ((primesTo K).map nv) ∧ Below w.heap.size w w' ∧ ∀ ad, A = some ad → w.heap.size ≤ ad.block) := by
  have HB := Lib.hid hB
  have HE := Lib.hid (And.intro hE hL)
  clear hB hE hL
  have HO0 := Lib.hid (own_emptyN w w.heap.size 46 (Nat.le_refl _))
  go_enter Tryd.func32, Tryd.ntmps32
  go_wp2_with fail
  go_loopw [3, 4] (fun v p W => ∃ (k l : Nat), k ≤ K ∧ p = .int .u64 ((2 + k : Nat) : Int) ∧ l ≤ k ∧ Shut ((primesTo k).length = l) ∧ Shut (W.ownsRow w.heap.size 46 1 v l ((primesTo k).map nv) ∧ Below w.heap.size w W)) (fun _ p _ => K + 2 - (intOf p).toNat)
  case atStart => exact ⟨0, 0, Nat.zero_le _, rfl, Nat.le_refl _, ⟨rfl⟩, ⟨HO0.out, below_alloc w _⟩⟩
  case round =>
    clear HO0
    obtain ⟨k, l, hk, rfl, hlk, HLN, HI⟩ := hrel
    obtain ⟨A, c, rfl, hl, hc, hcm, hrd, hbl⟩ := own_sliceN HI.out.1
    have HRD := Lib.hid hrd
    have HBL := Lib.hid hbl
    clear hrd hl hbl
    by_cases hlt : l < n
    · have hkK : k < K := by
        rcases Nat.lt_or_ge k K with h | h
        · exact h
        · exact absurd (show (primesTo K).length < n by rw [show K = k by omega, HLN.out]; exact hlt) HE.out.1
      go_wp2_with fail
      go_loop [5, 17] (fun b i => ∃ (j : Nat) (bb : Bool), j ≤ l ∧ i = .int .i64 j ∧ b = .bool bb ∧ Shut ((((primesTo k).take j).all fun q => (2 + k) % q != 0) = bb)) (fun _ i => l - (intOf i).toNat)
      case atStart => exact ⟨0, true, Nat.zero_le _, rfl, rfl, ⟨rfl⟩⟩
      case round =>
        obtain ⟨j, bb, hj, rfl, rfl, HBB⟩ := hrel
        by_cases hjl : j < l
        · have hj2 : j < (primesTo k).length := by rw [HLN.out]; exact hjl
          obtain ⟨ad, rfl, _, hcl⟩ := HRD.out.cell (k := j) (u := nv (primesTo k)[j]) (by simp [hj2])
          have hqr := primesTo_range k (primesTo k)[j] (List.getElem_mem hj2)
          have hst : (((primesTo k).take (j + 1)).all fun q => (2 + k) % q != 0) = (bb && ((2 + k) % (primesTo k)[j] != 0)) := by
            rw [List.take_succ_eq_append_getElem hj2, List.all_append, HBB.out]
            simp
          generalize (primesTo k)[j] = q at *
          unfold nv at hcl
          have HST := Lib.hid hst
          clear hst
          obtain ⟨rm, HRM⟩ : ∃ rm, Shut ((2 + k) % q = rm) := ⟨_, ⟨rfl⟩⟩
          have e1 : (((2 + k : Nat) : Int)).tmod (q : Int) = (rm : Int) := by rw [← HRM.out, Int.tmod_eq_emod_of_nonneg (by omega)]; rfl
          have e2 : (((2 + k : Nat) : Int)) % (q : Int) = (rm : Int) := by rw [← HRM.out]; rfl
          have e5 : Hid ((2 + (k : Int)) % (q : Int) = (rm : Int)) := Lib.hid (by rw [← HRM.out]; simp)
          have hq0 : ((q : Int) == 0) = false := by simp; omega
          have hq1 : (0 : Int) < (q : Int) := by omega
          cases bb with
          | false =>
            have HF : Shut ((((primesTo k).take (j + 1)).all fun q => (2 + k) % q != 0) = false) := ⟨by rw [HST.out]; rfl⟩
            clear HST
            go_wp2_with fail
            exact ⟨⟨j + 1, false, by omega, by go_num, rfl, HF⟩, by simp [intOf]; omega⟩
          | true =>
            by_cases hrm : rm = 0
            · have HF : Shut ((((primesTo k).take (j + 1)).all fun q => (2 + k) % q != 0) = false) := ⟨by rw [HST.out, HRM.out, hrm]; rfl⟩
              have e3 : ((rm : Int) != 0) = false := by simp; omega
              have e4 : ((rm : Int) == 0) = true := by simp; omega
              clear HST hrm
              go_wp2_with fail
              exact ⟨⟨j + 1, false, by omega, by go_num, by rw [e5.out, e3], HF⟩, by simp [intOf]; omega⟩
            · have HF : Shut ((((primesTo k).take (j + 1)).all fun q => (2 + k) % q != 0) = true) := ⟨by rw [HST.out, HRM.out]; simp [hrm]⟩
              have e3 : ((rm : Int) != 0) = true := by simp; omega
              have e4 : ((rm : Int) == 0) = false := by simp; omega
              clear HST hrm
              go_wp2_with fail
              exact ⟨⟨j + 1, true, by omega, by go_num, by rw [e5.out, e3], HF⟩, by simp [intOf]; omega⟩
        · have HAL : Shut (((primesTo k).all fun q => (2 + k) % q != 0) = bb) := ⟨by
            have h1 := HBB.out
            rwa [List.take_of_length_le (by rw [HLN.out]; omega)] at h1⟩
          have hszr : w.heap.size ≤ wr.heap.size := HI.out.2.size
          cases bb with
          | false =>
            have hno := primesTo_no k HAL.out
            have HN2 : Shut ((primesTo (k + 1)).length = l) := ⟨by rw [hno]; exact HLN.out⟩
            have HI2 : Shut (wr.ownsRow w.heap.size 46 1 (.slice A l c) l ((primesTo (k + 1)).map nv) ∧ Below w.heap.size w wr) := ⟨by rw [hno]; exact HI.out⟩
            clear hno
            go_wp2_with fail
            exact ⟨⟨k + 1, l, by omega, by rw [show 2 + (k + 1) = 2 + k + 1 by omega]; go_num, by omega, HN2, HI2⟩, by simp [intOf]; omega⟩
          | true =>
            have hyes := primesTo_yes k HAL.out
            have HN2 : Shut ((primesTo (k + 1)).length = l + 1) := ⟨by rw [hyes, List.length_append, HLN.out]; rfl⟩
            have HYES := Lib.hid hyes
            clear hyes
            have HB2 := Lib.hid (HI.out.2.alloc hszr (.cells #[.int .u64 ((2 + k : Nat) : Int)] 46))
            go_wp2_with (first
              | (refine wl_appendN rfl (.tmp 30) (.tmp 32) 63 46 (.int .u64 0) 8 (Nat.le_refl _) Tryd.underlying63 u64_info rfl rfl w.heap.size (.slice A l c) l ((primesTo k).map nv) rfl (HI.out.1.alloc _) ⟨wr.heap.size, 0, none⟩ 1 1 [.int .u64 ((2 + k : Nat) : Int)] rfl rfl (cells_new wr #[.int .u64 ((2 + k : Nat) : Int)] 46) (by simp [Value.oneCell']) (by omega) HB2.out.size ?_
                 intro v3 w3 HA3))
            have HI3 : Shut (w3.ownsRow w.heap.size 46 1 v3 (l + 1) ((primesTo (k + 1)).map nv) ∧ Below w.heap.size w w3) := ⟨by
              refine ⟨by rw [HYES.out, List.map_append]; exact HA3.out.1, HB2.out.grown HA3.out.2.1 HB2.out.size (fun j hj => (HI.out.1.lt j hj).1)⟩⟩
            exact ⟨⟨k + 1, l + 1, by omega, by rw [show 2 + (k + 1) = 2 + k + 1 by omega]; go_num, by omega, HN2, HI3⟩, by simp [intOf]; omega⟩
    · have hkK : Hid (k = K ∧ l = n) := Lib.hid (by
        have h1 : k = K := by
          rcases Nat.lt_or_ge k K with h | h
          · exact absurd (HB.out k h) (by rw [HLN.out]; exact hlt)
          · omega
        refine ⟨h1, ?_⟩
        rw [← HLN.out, h1]
        exact HE.out.2)
      have HBF := Lib.hid HI.out.2
      go_wp2_with fail
      go_ret
      refine ⟨A, c, by rw [hkK.out.2]; rfl, Lib.hid ⟨by have := hkK.out.2; omega, hcm, ?_, HBF.out, HBL.out⟩⟩
      rw [← hkK.out.1]
      exact HRD.out

theorem w32_info : (Tryd.prog.info? 43).map (fun i => (i.zero, i.size, i.bytes)) = some (some (.int .u32 0), 1, 4) := by kernel_rfl
set_option maxRecDepth 100000 in
theorem few_primes : (∀ k, k < 18 → (primesTo k).length < 8) ∧ (primesTo 18).length = 8 := by decide +kernel
set_option maxRecDepth 100000 in
theorem many_primes : (∀ k, k < 310 → (primesTo k).length < 64) ∧ (primesTo 310).length = 64 := by decide +kernel
theorem primes_8 (w : World) : Calls Tryd.prog 32 #[.int .i64 8] w fun e w' => ∃ A c, e = .returned (.slice A 8 c) ∧ Hid (8 ≤ c ∧ c ≤ 9223372036854775807 ∧ Rd w' w'.heap.size A ((primesTo 18).map nv) ∧ Below w.heap.size w w' ∧ ∀ ad, A = some ad → w.heap.size ≤ ad.block) :=
  primes_any 8 18 w (by decide) (by decide) few_primes.1 (by rw [few_primes.2]; decide) few_primes.2
theorem primes_64 (w : World) : Calls Tryd.prog 32 #[.int .i64 64] w fun e w' => ∃ A c, e = .returned (.slice A 64 c) ∧ Hid (64 ≤ c ∧ c ≤ 9223372036854775807 ∧ Rd w' w'.heap.size A ((primesTo 310).map nv) ∧ Below w.heap.size w w' ∧ ∀ ad, A = some ad → w.heap.size ≤ ad.block) :=
  primes_any 64 310 w (by decide) (by decide) many_primes.1 (by rw [many_primes.2]; decide) many_primes.2
end Go.Proofs.YthfpkefieemiaaaDoor

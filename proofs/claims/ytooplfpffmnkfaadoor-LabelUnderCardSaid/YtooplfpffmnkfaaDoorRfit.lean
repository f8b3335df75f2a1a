/- The document's Fits. -/
import Derived.Test.YtooplfpffmnkfaaDoorRname
namespace Go.Proofs.YtooplfpffmnkfaaDoor
open Go.RowKit

theorem tailR_short {a b : List (List UInt8)} (h : b.length ≤ a.length) : tailR a b = false := by
  simp [tailR]; omega
theorem tailR_bad {a b : List (List UInt8)} {k : Nat} (hk : k < a.length) (h : a[k]? ≠ b[b.length - a.length + k]?) : tailR a b = false := by
  rw [Bool.eq_false_iff]
  intro h2
  simp only [tailR, Bool.and_eq_true, decide_eq_true_eq, List.all_eq_true, List.mem_range, beq_iff_eq] at h2
  exact h (h2.2 k hk)
theorem tailR_good {a b : List (List UInt8)} (hl : a.length < b.length) (h : ∀ k, k < a.length → a[k]? = b[b.length - a.length + k]?) : tailR a b = true := by
  simp only [tailR, Bool.and_eq_true, decide_eq_true_eq, List.all_eq_true, List.mem_range, beq_iff_eq]
  exact ⟨hl, h⟩
theorem Rd.at_ {w : World} {A : Option Addr} {ss : List ByteArray} (h : Rd w w.heap.size A (sv ss)) (h0 : 0 < ss.length) : ∃ b o, A = some ⟨b, o, none⟩ ∧ b < w.heap.size ∧ ∀ k (hk : k < ss.length), w.cell? ⟨b, o + k, none⟩ = some (.string ss[k]) := by
  obtain ⟨ad, rfl, h1, h2⟩ := h.cell (sv_get h0)
  have hsp : ad.spot = none := by
    cases hs : ad.spot with
    | none => rfl
    | some k =>
      have e0 : ad.add 0 = ad := by simp [Addr.add]
      rw [e0] at h2
      unfold World.cell? at h2
      rw [hs] at h2
      revert h2
      split <;> simp
  obtain ⟨b, o, sp⟩ := ad
  simp at hsp
  subst hsp
  refine ⟨b, o, rfl, h1, fun k hk => ?_⟩
  obtain ⟨ad2, e, _, h3⟩ := h.cell (sv_get hk)
  injection e with e
  subst e
  have e : (⟨b, o, none⟩ : Addr).add k = ⟨b, o + k, none⟩ := by unfold Addr.add; split <;> simp_all
  rwa [e] at h3
theorem cell_below {w w' : World} (h : Below w.heap.size w w') {p : Addr} {v : Value} (hc : w.cell? p = some v) : w'.cell? p = some v := (h.cell (block_lt_of_cell hc)).trans hc

set_option maxHeartbeats 2000000 in
theorem refFits_any (p n : ByteArray) (w : World) (hp : p.size ≤ 4294967280) (hn : n.size ≤ 4294967280) : Calls Tryd.prog 17 #[.string p, .string n] w fun e w' => e = .returned (.bool (fitsR p.data.toList n.data.toList)) ∧ Hid (Below w.heap.size w w') := by
  have HPA := Lib.hid (pattern_any p w hp)
  cases h1 : (patR p.data.toList).2.2 with
  | false =>
    have HL : Hid (fitsR p.data.toList n.data.toList = false) := Lib.hid (by simp [fitsR, h1])
    rw [h1] at HPA
    clear h1
    go_enter Tryd.func17, Tryd.ntmps17
    go_wp2_with fail
    with_reducible refine HPA.out.mono ?_
    rintro e w1 ⟨t, rfl, HV⟩
    go_wp2_with fail
    go_ret
    exact ⟨by rw [HL.out]; rfl, Lib.hid HV.out.2.2⟩
  | true =>
    rw [h1] at HPA
    cases h2 : nameB n.data.toList with
    | false =>
      have HL : Hid (fitsR p.data.toList n.data.toList = false) := Lib.hid (by simp [fitsR, h2])
      have HN := fun W => Lib.hid (refName_any n W hn)
      rw [h2] at HN
      clear h1 h2
      go_enter Tryd.func17, Tryd.ntmps17
      go_wp2_with fail
      with_reducible refine HPA.out.mono ?_
      rintro e w1 ⟨t, rfl, HV⟩
      have HN1 := HN w1
      clear HN
      go_wp2_with fail
      with_reducible refine HN1.out.mono ?_
      rintro e w2 ⟨rfl, HB2⟩
      go_wp2_with fail
      go_ret
      exact ⟨by rw [HL.out]; rfl, Lib.hid (HV.out.2.2.trans (HB2.out.mono HV.out.2.2.size))⟩
    | true =>
      have HN := fun W => Lib.hid (refName_any n W hn)
      rw [h2] at HN
      cases h3 : (patR p.data.toList).2.1 with
      | false =>
        have HL : Hid (fitsR p.data.toList n.data.toList = (p.data.toList == n.data.toList)) := Lib.hid (by simp [fitsR, h1, h2, h3])
        rw [h3] at HPA
        clear h1 h2 h3
        go_enter Tryd.func17, Tryd.ntmps17
        go_wp2_with fail
        with_reducible refine HPA.out.mono ?_
        rintro e w1 ⟨t, rfl, HV⟩
        have HN1 := HN w1
        clear HN
        go_wp2_with fail
        with_reducible refine HN1.out.mono ?_
        rintro e w2 ⟨rfl, HB2⟩
        go_wp2_with fail
        go_ret
        exact ⟨by rw [HL.out, ← list_eq, ← list_eq]; rfl, Lib.hid (HV.out.2.2.trans (HB2.out.mono HV.out.2.2.size))⟩
      | true =>
        have HL : Hid (fitsR p.data.toList n.data.toList = tailR (cutD (patR p.data.toList).1) (cutD n.data.toList)) := Lib.hid (by simp [fitsR, h1, h2, h3])
        rw [h3] at HPA
        clear h1 h2 h3
        go_enter Tryd.func17, Tryd.ntmps17
        go_wp2_with fail
        with_reducible refine HPA.out.mono ?_
        rintro e w1 ⟨t, rfl, HV⟩
        have HN1 := HN w1
        have hts : t.size ≤ 4294967280 := by have := HV.out.2.1; omega
        have HB1 := Lib.hid HV.out.2.2
        have HT : Hid (fitsR p.data.toList n.data.toList = tailR (cutD t.data.toList) (cutD n.data.toList)) := Lib.hid (by rw [HL.out, HV.out.1])
        clear HN HV HL
        go_wp2_with fail
        with_reducible refine HN1.out.mono ?_
        rintro e w2 ⟨rfl, HB2⟩
        have HB2' := Lib.hid (HB1.out.trans (HB2.out.mono HB1.out.size))
        go_wp2_with fail
        with_reducible refine (refSplit_any t w2 hts).mono ?_
        rintro e w3 ⟨A, ca, xs, rfl, HV3⟩
        have HB3' := Lib.hid (HB2'.out.trans (HV3.out.2.2.2.2.mono HB2'.out.size))
        go_wp2_with fail
        with_reducible refine (refSplit_any n w3 hn).mono ?_
        rintro e w4 ⟨B, cb, ys, rfl, HV4⟩
        have HB4' := Lib.hid (HB3'.out.trans (HV4.out.2.2.2.2.mono HB3'.out.size))
        have HRA : Hid (Rd w4 w4.heap.size A (sv xs)) := Lib.hid ((HV3.out.2.2.2.1.below HV4.out.2.2.2.2).more HV4.out.2.2.2.2.size)
        have HRB : Hid (Rd w4 w4.heap.size B (sv ys)) := Lib.hid HV4.out.2.2.2.1
        have hca : xs.length ≤ ca := HV3.out.2.1
        have hcb : ys.length ≤ cb := HV4.out.2.1
        have hcam : ca ≤ 9223372036854775807 := HV3.out.2.2.1
        have hcbm : cb ≤ 9223372036854775807 := HV4.out.2.2.1
        have HX : Hid (bytesOf xs = cutD t.data.toList) := Lib.hid HV3.out.1
        have HY : Hid (bytesOf ys = cutD n.data.toList) := Lib.hid HV4.out.1
        rw [← HX.out, ← HY.out] at HT
        have hxp : 0 < xs.length := by
          have h := congrArg List.length HX.out
          rw [bytesOf_length] at h
          have := List.length_pos_iff.2 (cutD_ne t.data.toList)
          omega
        clear HV3 HV4 HX HY
        by_cases hsh : ys.length ≤ xs.length
        · have HM : Hid (fitsR p.data.toList n.data.toList = false) := Lib.hid (by rw [HT.out]; exact tailR_short (by rw [bytesOf_length, bytesOf_length]; exact hsh))
          go_wp2_with fail
          go_ret
          exact ⟨by rw [HM.out]; rfl, HB4'⟩
        obtain ⟨b1, o1, rfl, hb1, HA1⟩ := HRA.out.at_ hxp
        obtain ⟨b2, o2, rfl, hb2, HA2⟩ := HRB.out.at_ (by omega)
        have HC1 := Lib.hid HA1
        have HC2 := Lib.hid HA2
        clear HA1 HA2 HRA HRB hb1 hb2
        go_wp2_with fail
        go_loopw [40] (fun i W => ∃ k : Nat, k ≤ xs.length ∧ i = .int .i64 k ∧ Shut ((∀ j, j < k → (bytesOf xs)[j]? = (bytesOf ys)[ys.length - xs.length + j]?) ∧ Below w4.heap.size w4 W)) (fun i _ => xs.length - (intOf i).toNat)
        case atStart => exact ⟨0, Nat.zero_le _, rfl, ⟨fun j hj => absurd hj (Nat.not_lt_zero _), Below.refl _ _⟩⟩
        case round =>
          obtain ⟨k, hk, rfl, HI⟩ := hrel
          by_cases hlt : k < xs.length
          · obtain ⟨D, hD⟩ : ∃ D, ys.length = xs.length + D := ⟨ys.length - xs.length, by omega⟩
            have hk2 : D + k < ys.length := by omega
            have d1 : wr.cell? ⟨b1, o1 + k, none⟩ = some (.string xs[k]) := cell_below HI.out.2 (HC1.out k hlt)
            have d2 : wr.cell? ⟨b2, o2 + (D + k), none⟩ = some (.string ys[D + k]) := cell_below HI.out.2 (HC2.out (D + k) hk2)
            have eD : ys.length - xs.length + k = D + k := by omega
            have HB5 := Lib.hid (HB4'.out.trans (HI.out.2.mono HB4'.out.size))
            have hw1 : IntKind.i64.wrap ((ys.length : Int) - (xs.length : Int)) = (D : Int) := by rw [IntKind.wrap_i64]; omega
            have hw2 : IntKind.i64.wrap ((D : Int) + (k : Int)) = (D : Int) + (k : Int) := by rw [IntKind.wrap_i64]; omega
            have hi0 : (0 : Int) ≤ (D : Int) + (k : Int) := by omega
            have hi1 : (D : Int) + (k : Int) < (ys.length : Int) := by omega
            have hi2 : ((D : Int) + (k : Int)).toNat = D + k := by omega
            have hi3 : (k : Int) < (xs.length : Int) := by omega
            have hi4 : (0 : Int) ≤ (k : Int) := by omega
            by_cases heq : xs[k].data.toList = ys[D + k].data.toList
            · have t1 : (xs[k].toList == ys[D + k].toList) = true := by rw [list_eq, list_eq]; exact beq_iff_eq.2 heq
              have t2 : (xs[k].toList != ys[D + k].toList) = false := by rw [bne, t1]; rfl
              have HN : Shut (∀ j, j < k + 1 → (bytesOf xs)[j]? = (bytesOf ys)[ys.length - xs.length + j]?) := ⟨fun j hj => by
                by_cases e : j = k
                · subst e
                  rw [eD, bytesOf_get hlt, bytesOf_get hk2, heq]
                · exact HI.out.1 j (by omega)⟩
              have HBI := Lib.hid HI.out.2
              have HK := Lib.hid hk
              clear heq eD hD
              go_wp2_with fail
              go_quiet (fail)
              go_wp2_with fail
              go_round
              case rel => exact ⟨k + 1, by omega, by go_num, ⟨HN.out, below_drewN HBI.out _⟩⟩
              case measure => simp [intOf]; omega
            · have t1 : (xs[k].toList == ys[D + k].toList) = false := by rw [list_eq, list_eq]; exact beq_eq_false_iff_ne.2 heq
              have t2 : (xs[k].toList != ys[D + k].toList) = true := by rw [bne, t1]; rfl
              have HM : Hid (fitsR p.data.toList n.data.toList = false) := Lib.hid (by
                rw [HT.out]
                refine tailR_bad (k := k) (by rw [bytesOf_length]; exact hlt) ?_
                rw [bytesOf_length, bytesOf_length, eD, bytesOf_get hlt, bytesOf_get hk2]
                exact fun e => heq (Option.some.inj e))
              clear heq eD hD
              go_wp2_with fail
              go_quiet (fail)
              go_wp2_with fail
              go_ret
              exact ⟨by rw [HM.out]; rfl, Lib.hid (below_drewN HB5.out _)⟩
          · have HM : Hid (fitsR p.data.toList n.data.toList = true) := Lib.hid (by
              rw [HT.out]
              refine tailR_good (by rw [bytesOf_length, bytesOf_length]; omega) (fun j hj => ?_)
              rw [bytesOf_length] at hj
              rw [bytesOf_length, bytesOf_length]
              exact HI.out.1 j (by omega))
            have HB5 := Lib.hid (HB4'.out.trans (HI.out.2.mono HB4'.out.size))
            go_wp2_with fail
            go_ret
            exact ⟨by rw [HM.out]; rfl, HB5⟩
end Go.Proofs.YtooplfpffmnkfaaDoor

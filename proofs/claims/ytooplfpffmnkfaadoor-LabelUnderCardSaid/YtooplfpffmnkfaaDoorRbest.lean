/- The document's Best. -/
import Derived.Test.YtooplfpffmnkfaaDoorBest
namespace Go.Proofs.YtooplfpffmnkfaaDoor
open Go.RowKit

set_option maxHeartbeats 2000000 in
theorem refBest_any (A : Option Addr) (c S : Nat) (ss : List ByteArray) (n : ByteArray) (w : World) (hL : Lst w A ss S) (hS : S ≤ 4294967280) (hc : ss.length ≤ c) (hcm : c ≤ 9223372036854775807) (hn : n.size ≤ 4294967280) :
    Calls Tryd.prog 19 #[.slice A ss.length c, .string n] w fun e w' => e = .returned (.int .i64 (ov (bestL (bytesOf ss) n.data.toList ss.length))) ∧ Hid (Below w.heap.size w w') := by
  have HL := Lib.hid hL
  clear hL
  go_enter Tryd.func19, Tryd.ntmps19
  go_wp2_with fail
  go_loopw [12] (fun i W => ∃ k : Nat, k ≤ ss.length ∧ i = .int .i64 k ∧ Shut ((∀ j, j < k → hitL (bytesOf ss) n.data.toList j = false) ∧ Below w.heap.size w W)) (fun i _ => ss.length - (intOf i).toNat)
  case atStart => exact ⟨0, Nat.zero_le _, rfl, ⟨fun j hj => absurd hj (Nat.not_lt_zero _), Below.refl _ _⟩⟩
  case round =>
    obtain ⟨k, hk, rfl, HI⟩ := hrel
    by_cases hlt : k < ss.length
    · obtain ⟨b0, o0, hA, _, hcl⟩ := (HL.out.below HI.out.2).rd.at_ (by omega)
      subst hA
      have d1 : wr.cell? ⟨b0, o0 + k, none⟩ = some (.string ss[k]) := hcl k hlt
      clear hcl
      have hsz : ss[k].size ≤ 4294967280 := Nat.le_trans (HL.out.sz k hlt) hS
      have HF := Lib.hid (refFits_any ss[k] n wr hsz hn)
      rw [fitsR_eq] at HF
      have HNK : Hid (nth (bytesOf ss) k = ss[k].data.toList) := Lib.hid (nth_bytes hlt)
      by_cases heq : ss[k].data.toList = n.data.toList
      · have t1 : (ss[k].toList == n.toList) = true := by rw [list_eq, list_eq]; exact beq_iff_eq.2 heq
        cases hf : fitsB ss[k].data.toList n.data.toList with
        | true =>
          have HM : Hid (bestL (bytesOf ss) n.data.toList ss.length = some k) := Lib.hid (best_hit hlt (by rw [hitL, HNK.out, hf, heq]; simp) HI.out.1)
          rw [hf] at HF
          clear hf heq
          go_wp2_with fail
          with_reducible refine HF.out.mono ?_
          rintro e w1 ⟨rfl, HB1⟩
          go_wp2_with fail
          go_ret
          exact ⟨by rw [HM.out]; rfl, Lib.hid (HI.out.2.trans (HB1.out.mono HI.out.2.size))⟩
        | false =>
          have HN : Shut (∀ j, j < k + 1 → hitL (bytesOf ss) n.data.toList j = false) := ⟨fun j hj => by
            by_cases e : j = k
            · rw [e, hitL, HNK.out, hf]; simp
            · exact HI.out.1 j (by omega)⟩
          rw [hf] at HF
          clear hf heq
          go_wp2_with fail
          with_reducible refine HF.out.mono ?_
          rintro e w1 ⟨rfl, HB1⟩
          go_wp2_with fail
          go_round
          case rel => exact ⟨k + 1, by omega, by go_num, ⟨HN.out, HI.out.2.trans (HB1.out.mono HI.out.2.size)⟩⟩
          case measure => simp [intOf]; omega
      · have t1 : (ss[k].toList == n.toList) = false := by rw [list_eq, list_eq]; exact beq_eq_false_iff_ne.2 heq
        have HN : Shut (∀ j, j < k + 1 → hitL (bytesOf ss) n.data.toList j = false) := ⟨fun j hj => by
          by_cases e : j = k
          · rw [e, hitL, HNK.out, beq_eq_false_iff_ne.2 heq]; rfl
          · exact HI.out.1 j (by omega)⟩
        clear heq HF
        go_wp2_with fail
        go_round
        case rel => exact ⟨k + 1, by omega, by go_num, ⟨HN.out, HI.out.2⟩⟩
        case measure => simp [intOf]; omega
    · have he : k = ss.length := by omega
      subst he
      have HLL : Hid (bestL (bytesOf ss) n.data.toList ss.length = lenL (bytesOf ss) n.data.toList ss.length) := Lib.hid (best_len _ HI.out.1)
      have HB0 := Lib.hid HI.out.2
      clear HI hlt hk
      generalize wr = w5 at *
      go_wp2_with fail
      go_loopw [7, 29] (fun b i W => ∃ k : Nat, k ≤ ss.length ∧ i = .int .i64 k ∧ b = .int .i64 (ov (lenL (bytesOf ss) n.data.toList k)) ∧ Shut (Below w.heap.size w W)) (fun _ i _ => ss.length - (intOf i).toNat)
      case atStart => exact ⟨0, Nat.zero_le _, rfl, rfl, ⟨HB0.out⟩⟩
      case round =>
        obtain ⟨k, hk, rfl, rfl, HI⟩ := hrel
        by_cases hlt : k < ss.length
        · obtain ⟨b0, o0, hA, _, hcl⟩ := (HL.out.below HI.out).rd.at_ (by omega)
          subst hA
          have d1 : wr.cell? ⟨b0, o0 + k, none⟩ = some (.string ss[k]) := hcl k hlt
          have HCL := Lib.hid hcl
          clear hcl
          have hsz : ss[k].size ≤ 4294967280 := Nat.le_trans (HL.out.sz k hlt) hS
          have HF := Lib.hid (refFits_any ss[k] n wr hsz hn)
          rw [fitsR_eq] at HF
          have HNK : Hid (nth (bytesOf ss) k = ss[k].data.toList) := Lib.hid (nth_bytes hlt)
          cases hf : fitsB ss[k].data.toList n.data.toList with
          | false =>
            have HN : Hid (lenL (bytesOf ss) n.data.toList (k + 1) = lenL (bytesOf ss) n.data.toList k) := Lib.hid (by
              cases hb : lenL (bytesOf ss) n.data.toList k with
              | none => rw [lenL_none hb, HNK.out, hf]; rfl
              | some i => rw [lenL_some hb, HNK.out, hf]; rfl)
            rw [hf] at HF
            clear hf
            go_wp2_with fail
            with_reducible refine HF.out.mono ?_
            rintro e w1 ⟨rfl, HB1⟩
            go_wp2_with fail
            go_round
            case rel => exact ⟨k + 1, by omega, by go_num, by rw [HN.out], ⟨HI.out.trans (HB1.out.mono HI.out.size)⟩⟩
            case measure => simp [intOf]; omega
          | true =>
            rw [hf] at HF
            cases hb : lenL (bytesOf ss) n.data.toList k with
            | none =>
              have HN : Hid (lenL (bytesOf ss) n.data.toList (k + 1) = some k) := Lib.hid (by rw [lenL_none hb, HNK.out, hf]; rfl)
              have e1 : ov none = -1 := rfl
              rw [e1]
              clear hf hb e1
              go_wp2_with fail
              with_reducible refine HF.out.mono ?_
              rintro e w1 ⟨rfl, HB1⟩
              go_wp2_with fail
              go_round
              case rel => exact ⟨k + 1, by omega, by go_num, by rw [HN.out]; rfl, ⟨HI.out.trans (HB1.out.mono HI.out.size)⟩⟩
              case measure => simp [intOf]; omega
            | some i =>
              have hik : i < k := lenL_lt hb
              have hil : i < ss.length := by omega
              have HNI : Hid (nth (bytesOf ss) i = ss[i].data.toList) := Lib.hid (nth_bytes hil)
              have e1 : ov (some i) = (i : Int) := rfl
              rw [e1]
              have hs1 := size_bytes ss[k]
              have hs2 := size_bytes ss[i]
              by_cases ht : ss[i].size < ss[k].size
              · have HN : Hid (lenL (bytesOf ss) n.data.toList (k + 1) = some k) := Lib.hid (by rw [lenL_some hb, HNK.out, HNI.out, hf, ← hs1, ← hs2, decide_eq_true ht]; rfl)
                clear hf hb e1 hs1 hs2
                go_wp2_with fail
                with_reducible refine HF.out.mono ?_
                rintro e w1 ⟨rfl, HB1⟩
                have d2 : w1.cell? ⟨b0, o0 + i, none⟩ = some (.string ss[i]) := cell_below HB1.out (HCL.out i hil)
                go_wp2_with fail
                go_round
                case rel => exact ⟨k + 1, by omega, by go_num, by rw [HN.out]; rfl, ⟨HI.out.trans (HB1.out.mono HI.out.size)⟩⟩
                case measure => simp [intOf]; omega
              · have HN : Hid (lenL (bytesOf ss) n.data.toList (k + 1) = some i) := Lib.hid (by rw [lenL_some hb, HNK.out, HNI.out, hf, ← hs1, ← hs2, decide_eq_false ht]; rfl)
                clear hf hb e1 hs1 hs2
                go_wp2_with fail
                with_reducible refine HF.out.mono ?_
                rintro e w1 ⟨rfl, HB1⟩
                have d2 : w1.cell? ⟨b0, o0 + i, none⟩ = some (.string ss[i]) := cell_below HB1.out (HCL.out i hil)
                go_wp2_with fail
                go_round
                case rel => exact ⟨k + 1, by omega, by go_num, by rw [HN.out]; rfl, ⟨HI.out.trans (HB1.out.mono HI.out.size)⟩⟩
                case measure => simp [intOf]; omega
        · have he : k = ss.length := by omega
          subst he
          go_wp2_with fail
          go_ret
          exact ⟨by rw [HLL.out]; rfl, Lib.hid HI.out⟩
end Go.Proofs.YtooplfpffmnkfaaDoor

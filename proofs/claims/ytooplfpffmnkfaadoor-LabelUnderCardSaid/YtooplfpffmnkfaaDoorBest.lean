/- Best: the project's and the document's. -/
import Derived.Test.YtooplfpffmnkfaaDoorBma
import Derived.Test.YtooplfpffmnkfaaDoorFit
import Derived.Test.YtooplfpffmnkfaaDoorRfit
namespace Go.Proofs.YtooplfpffmnkfaaDoor
open Go.RowKit

theorem nth_bytes {ss : List ByteArray} {k : Nat} (h : k < ss.length) : nth (bytesOf ss) k = ss[k].data.toList := by
  unfold nth
  rw [bytesOf_get h]; rfl
theorem bestL_none {L : List (List UInt8)} {n : List UInt8} {k : Nat} (h : bestL L n k = none) : bestL L n (k + 1) = if fitsB (nth L k) n = true then some k else none := by
  rw [bestL, h]
theorem bestL_some {L : List (List UInt8)} {n : List UInt8} {k i : Nat} (h : bestL L n k = some i) : bestL L n (k + 1) = if (fitsB (nth L k) n && betterB (nth L k) (nth L i) n) = true then some k else some i := by
  rw [bestL, h]
theorem lenL_none {L : List (List UInt8)} {n : List UInt8} {k : Nat} (h : lenL L n k = none) : lenL L n (k + 1) = if fitsB (nth L k) n = true then some k else none := by
  rw [lenL, h]
theorem lenL_some {L : List (List UInt8)} {n : List UInt8} {k i : Nat} (h : lenL L n k = some i) : lenL L n (k + 1) = if (fitsB (nth L k) n && decide ((nth L i).length < (nth L k).length)) = true then some k else some i := by
  rw [lenL, h]
/-- A list of texts in memory, of sizes that a text may have. -/
structure Lst (w : World) (A : Option Addr) (ss : List ByteArray) (S : Nat) : Prop where
  rd : Rd w w.heap.size A (sv ss)
  sz : ∀ k (hk : k < ss.length), ss[k].size ≤ S
theorem Lst.below {w w' : World} {A : Option Addr} {ss : List ByteArray} {S : Nat} (h : Lst w A ss S) (hb : Below w.heap.size w w') : Lst w' A ss S := ⟨(h.rd.below hb).more hb.size, h.sz⟩

set_option maxHeartbeats 2000000 in
theorem best_any (A : Option Addr) (c S : Nat) (ss : List ByteArray) (n : ByteArray) (a : Addr) (m : Int) (w : World) (hE : Env w a m) (hL : Lst w A ss S) (hS : S ≤ 9223372036854775807) (hc : ss.length ≤ c) (hcm : c ≤ 9223372036854775807) (hn : n.size ≤ 9223372036854775807) :
    Calls Tryd.prog 18 #[.slice A ss.length c, .string n] w fun e w' => e = .returned (.int .i64 (ov (bestL (bytesOf ss) n.data.toList ss.length))) ∧ Hid (Below w.heap.size w w') := by
  have h2 := hE.lt
  have HE := Lib.hid hE
  have HL := Lib.hid hL
  clear hE hL
  go_enter Tryd.func18, Tryd.ntmps18
  go_wp2_with fail
  go_loopw [5, 10] (fun b i W => ∃ k : Nat, k ≤ ss.length ∧ i = .int .i64 k ∧ b = .int .i64 (ov (bestL (bytesOf ss) n.data.toList k)) ∧ Shut (Below w.heap.size w W)) (fun _ i _ => ss.length - (intOf i).toNat)
  case atStart => exact ⟨0, Nat.zero_le _, rfl, rfl, ⟨Below.refl _ _⟩⟩
  case round =>
    obtain ⟨k, hk, rfl, rfl, HI⟩ := hrel
    by_cases hlt : k < ss.length
    · obtain ⟨b0, o0, hA, _, hcl⟩ := (HL.out.below HI.out).rd.at_ (by omega)
      subst hA
      have d1 : wr.cell? ⟨b0, o0 + k, none⟩ = some (.string ss[k]) := hcl k hlt
      have HCL := Lib.hid hcl
      clear hcl
      have hsz : ss[k].size ≤ 9223372036854775807 := Nat.le_trans (HL.out.sz k hlt) hS
      have HF := Lib.hid (fits_any ss[k] n a m wr (HE.out.below h2 HI.out) hsz hn)
      have HNK : Hid (nth (bytesOf ss) k = ss[k].data.toList) := Lib.hid (nth_bytes hlt)
      cases hf : fitsB ss[k].data.toList n.data.toList with
      | false =>
        have HN : Hid (bestL (bytesOf ss) n.data.toList (k + 1) = bestL (bytesOf ss) n.data.toList k) := Lib.hid (by
          cases hb : bestL (bytesOf ss) n.data.toList k with
          | none => rw [bestL_none hb, HNK.out, hf]; rfl
          | some i => rw [bestL_some hb, HNK.out, hf]; rfl)
        rw [hf] at HF
        clear hf
        go_wp2_with fail
        with_reducible refine HF.out.mono ?_
        rintro e w1 ⟨rfl, HB1⟩
        go_wp2_with fail
        go_round
        case rel => exact ⟨k + 1, by omega, by go_num, by rw [HN.out], ⟨HI.out.trans (HB1.out.mono HI.out.size)⟩⟩
        case measure => simp [intOf]; omega
      | true =>
        rw [hf] at HF
        cases hb : bestL (bytesOf ss) n.data.toList k with
        | none =>
          have HN : Hid (bestL (bytesOf ss) n.data.toList (k + 1) = some k) := Lib.hid (by rw [bestL_none hb, HNK.out, hf]; rfl)
          have e1 : ov none = -1 := rfl
          rw [e1]
          clear hf hb e1
          go_wp2_with fail
          with_reducible refine HF.out.mono ?_
          rintro e w1 ⟨rfl, HB1⟩
          go_wp2_with fail
          go_round
          case rel => exact ⟨k + 1, by omega, by go_num, by rw [HN.out]; rfl, ⟨HI.out.trans (HB1.out.mono HI.out.size)⟩⟩
          case measure => simp [intOf]; omega
        | some i =>
          have hik : i < k := bestL_lt hb
          have hil : i < ss.length := by omega
          have HNI : Hid (nth (bytesOf ss) i = ss[i].data.toList) := Lib.hid (nth_bytes hil)
          have e1 : ov (some i) = (i : Int) := rfl
          rw [e1]
          cases ht : betterB ss[k].data.toList ss[i].data.toList n.data.toList with
          | true =>
            have HN : Hid (bestL (bytesOf ss) n.data.toList (k + 1) = some k) := Lib.hid (by rw [bestL_some hb, HNK.out, HNI.out, hf, ht]; rfl)
            have HT := fun W => Lib.hid (better_any ss[k] ss[i] n W)
            rw [ht] at HT
            clear hf hb e1 ht
            go_wp2_with fail
            with_reducible refine HF.out.mono ?_
            rintro e w1 ⟨rfl, HB1⟩
            have d2 : w1.cell? ⟨b0, o0 + i, none⟩ = some (.string ss[i]) := cell_below HB1.out (HCL.out i hil)
            go_wp2_with fail
            with_reducible refine (HT _).out.mono ?_
            rintro e _ ⟨rfl, rfl⟩
            go_wp2_with fail
            go_round
            case rel => exact ⟨k + 1, by omega, by go_num, by rw [HN.out]; rfl, ⟨HI.out.trans (HB1.out.mono HI.out.size)⟩⟩
            case measure => simp [intOf]; omega
          | false =>
            have HN : Hid (bestL (bytesOf ss) n.data.toList (k + 1) = some i) := Lib.hid (by rw [bestL_some hb, HNK.out, HNI.out, hf, ht]; rfl)
            have HT := fun W => Lib.hid (better_any ss[k] ss[i] n W)
            rw [ht] at HT
            clear hf hb e1 ht
            go_wp2_with fail
            with_reducible refine HF.out.mono ?_
            rintro e w1 ⟨rfl, HB1⟩
            have d2 : w1.cell? ⟨b0, o0 + i, none⟩ = some (.string ss[i]) := cell_below HB1.out (HCL.out i hil)
            go_wp2_with fail
            with_reducible refine (HT _).out.mono ?_
            rintro e _ ⟨rfl, rfl⟩
            go_wp2_with fail
            go_round
            case rel => exact ⟨k + 1, by omega, by go_num, by rw [HN.out]; rfl, ⟨HI.out.trans (HB1.out.mono HI.out.size)⟩⟩
            case measure => simp [intOf]; omega
    · have he : k = ss.length := by omega
      subst he
      go_wp2_with fail
      go_ret
      exact ⟨rfl, Lib.hid HI.out⟩
end Go.Proofs.YtooplfpffmnkfaaDoor

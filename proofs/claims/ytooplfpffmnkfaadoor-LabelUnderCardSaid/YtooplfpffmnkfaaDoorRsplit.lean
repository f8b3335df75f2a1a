/- The document's Split: a text cut at each dot. -/
import Derived.Test.YtooplfpffmnkfaaDoorOwn
import Derived.Test.YtooplfpffmnkfaaDoorLeaf
import Derived.RegionTactic
import Derived.ChangeAlike
namespace Go.Proofs.YtooplfpffmnkfaaDoor
open Go.RowKit

theorem sv_set (ss : List ByteArray) (i : Nat) (y : ByteArray) : (sv ss).set i (.string y) = sv (ss.set i y) := by simp [sv, List.map_set]
theorem below_grown {w W W' : World} (h : Below w.heap.size w W) {v : Value} (hg : W.grownBy W' v.ownBlock) (hv : ∀ k, v.ownBlock = some k → w.heap.size ≤ k) : Below w.heap.size w W' :=
  h.grown hg h.size (fun j hj => hv j hj)

set_option maxHeartbeats 1000000 in
theorem refSplit_any (s : ByteArray) (w : World) (hs : s.size ≤ 4294967280) : Calls Tryd.prog 15 #[.string s] w fun e w' => ∃ A c ss, e = .returned (.slice A ss.length c) ∧ Hid (bytesOf ss = cutD s.data.toList ∧ ss.length ≤ c ∧ c ≤ 9223372036854775807 ∧ Rd w' w'.heap.size A (sv ss) ∧ Below w.heap.size w w') := by
  go_enter Tryd.func15, Tryd.ntmps15
  go_wp2_with fail
  have HO := Lib.hid (own_new w w.heap.size [⟨#[]⟩] (Nat.le_refl _) (by decide))
  go_loopw [3, 4] (fun v i W => ∃ k : Nat, k ≤ s.size ∧ i = .int .i64 k ∧ ∃ ss g c, v = .slice (some ⟨g, 0, none⟩) (List.length ss) c ∧ Shut (W.ownsRow w.heap.size 9 1 (.slice (some ⟨g, 0, none⟩) (List.length ss) c) ss.length (sv ss) ∧ Cutk s k ss ∧ Below w.heap.size w W)) (fun _ i _ => s.size - (intOf i).toNat)
  case atStart => exact ⟨0, Nat.zero_le _, rfl, [⟨#[]⟩], _, _, rfl, ⟨HO.out, cutk_zero s, below_alloc w _⟩⟩
  case round =>
    obtain ⟨k, hk, rfl, ss, g, c, rfl, HI⟩ := hrel
    have hne := HI.out.2.1.ne
    have hlen := HI.out.2.1.length_le
    have hpos : 0 < ss.length := List.length_pos_iff.2 hne
    clear hne
    obtain ⟨g', c', e', hbg, hg, hnc, hcm, hcells⟩ := own_some HI.out.1 hpos
    obtain ⟨rfl, rfl⟩ : g' = g ∧ c' = c := by
      injection e' with e1 _ e3
      injection e1 with e1
      injection e1 with e1
      exact ⟨e1.symm, e3.symm⟩
    clear e'
    have HCE := Lib.hid hcells
    clear hcells
    by_cases hlt : k < s.size
    · by_cases hc : s[k] = 46
      · have HB := Lib.hid (HI.out.2.2.trans ((below_alloc wr (.cells #[.string ⟨#[]⟩] 9)).mono HI.out.2.2.size))
        have HR : Hid (Rd (wr.alloc (.cells #[.string ⟨#[]⟩] 9)) (wr.heap.size + 1) (some ⟨wr.heap.size, 0, none⟩) (sv [⟨#[]⟩])) := Lib.hid (.inr ⟨_, rfl, by simp, fun j u hj => by
          match j with
          | 0 => simp [sv] at hj; rw [← hj]; simp [Addr.add]
          | j + 1 => simp [sv] at hj⟩)
        have HOA : Hid ((wr.alloc (.cells #[.string ⟨#[]⟩] 9)).ownsRow w.heap.size 9 1 (.slice (some ⟨g', 0, none⟩) ss.length c') ss.length (sv ss)) := Lib.hid (HI.out.1.alloc _)
        have t1 : ((s[k].toNat : Int) == 46) = true := by rw [hc]; rfl
        have HN := Lib.hid (HI.out.2.1.dot hlt hc)
        clear hc
        go_wp2_with (refine wl_append rfl (.tmp 16) (.tmp 17) rfl w.heap.size (.slice (some ⟨g', 0, none⟩) ss.length c') ss.length (sv ss) rfl HOA.out _ _ 1 1 [⟨#[]⟩] rfl rfl HR.out (by omega) HB.out.size ?_
                     intro v4 w4 HA4
                     have HL4 : Hid ((ss ++ [(⟨#[]⟩ : ByteArray)]).length = ss.length + 1) := Lib.hid (by simp)
                     have HO4 := HA4.out.1
                     obtain ⟨g4, c4, rfl, _, _, hn4, hc4, _⟩ := own_some HO4 (by omega)
                     have HB4 := Lib.hid (below_grown HB.out HA4.out.2.1 (fun k e => by
                       have : g' = k := Option.some.inj e
                       omega)))
        go_round
        case rel => exact ⟨k + 1, by omega, by go_num, ss ++ [⟨#[]⟩], g4, c4, by rw [HL4.out], ⟨by rw [HL4.out]; simpa [sv] using HO4, HN.out, HB4.out⟩⟩
        case measure => simp [intOf]; omega
      · obtain ⟨x, HX⟩ : ∃ x, Shut (ss[ss.length - 1]? = some x) := ⟨_, ⟨List.getElem?_eq_getElem (by omega)⟩⟩
        have hcell : wr.cell? ⟨g', ss.length - 1, none⟩ = some (.string x) := HCE.out _ _ (by simp [sv, HX.out])
        have hfz : wr.frozen? ⟨g', ss.length - 1, none⟩ = false := own_unfrozen HI.out.1 _
        have hxs : x.size ≤ k := HI.out.2.1.size_le x (List.mem_of_getElem? HX.out)
        have hsum : x.size + (s.extract k (k + 1)).size ≤ 9223372036854775807 := by
          have : (s.extract k (k + 1)).size ≤ k + 1 := by simp [ByteArray.size_extract]; omega
          omega
        have t1 : ((s[k].toNat : Int) == 46) = false := by
          rw [beq_eq_false_iff_ne]
          intro e
          exact hc (UInt8.toNat_inj.1 (by show s[k].toNat = 46; omega))
        have HN := Lib.hid (HI.out.2.1.other hlt hc x HX.out)
        have HO4 := Lib.hid (own_set HI.out.1 (ss.length - 1) (.string (x ++ s.extract k (k + 1))))
        have HB4 := Lib.hid ((HI.out.2.2.setCell (p := ⟨g', ss.length - 1, none⟩) hbg (.string (x ++ s.extract k (k + 1)))).drew)
        rw [sv_set] at HO4
        have HL4 : Hid ((ss.set (ss.length - 1) (x ++ s.extract k (k + 1))).length = ss.length) := Lib.hid (by simp)
        clear hc
        go_wp2_with fail
        go_region
        go_wp2_with fail
        go_round
        case rel => exact ⟨k + 1, by omega, by go_num, ss.set (ss.length - 1) (x ++ s.extract k (k + 1)), g', c', by rw [HL4.out], ⟨by rw [HL4.out]; exact HO4.out, HN.out, HB4.out⟩⟩
        case measure => simp [intOf]; omega
    · have he : k = s.size := by omega
      have HF : Hid (bytesOf ss = cutD s.data.toList) := Lib.hid (by
        have h1 := HI.out.2.1
        unfold Cutk at h1
        rw [h1, List.take_of_length_le (by rw [← size_bytes]; omega)])
      have HRD := Lib.hid (own_read HI.out.1 hpos).2
      go_wp2_with fail
      go_ret
      obtain ⟨g5, c5, e5, hn5, hc5, hr5⟩ := HRD.out
      refine ⟨_, _, ss, rfl, Lib.hid ⟨HF.out, hnc, hcm, ?_, HI.out.2.2⟩⟩
      injection e5 with e6 _ _
      rw [e6]
      exact hr5
end Go.Proofs.YtooplfpffmnkfaaDoor

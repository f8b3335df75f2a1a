/- What hash.Digest and hash.Check answer of parts: the digest of all their bytes, and its first four. -/
import Derived.Test.YtlmdafldggbiaaaDoorHFinish
namespace Go.Proofs.YtlmdafldggbiaaaDoor.H
open Go.RowKit

theorem sumT_nil {w : World} {g : Nat} (h : Row w g 123 (sumCells H0 zeros64 0 0)) : SumT w g [] 0 := ⟨zeros64, rfl, rfl, h⟩
theorem digest_len (S : List UInt8) : ((digest S).map bv).length = 32 := by rw [List.length_map, digest_length]
theorem bytes_one (l : List UInt8) : ∀ v ∈ l.map bv, v.oneCell' = true := by intro v hv; obtain ⟨x, _, rfl⟩ := List.mem_map.1 hv; rfl

set_option maxRecDepth 100000 in
set_option maxHeartbeats 1000000 in
theorem digest_any (n c : Nat) (A : Option Addr) (ps : List Part) (w : World) (hK : Ktab w) (hn : ps.length = n) (hmax : n ≤ 9223372036854775807) (hT : (flat ps).length < 1152921504606846976) (hr : Parts w w.heap.size A ps) :
    Calls Tryd.prog 61 #[.slice A n c] w fun e w' => ∃ v, e = .returned v ∧ Hid (v = .agg ((digest (flat ps)).map bv).toArray ∧ Below w.heap.size w w') := by
  have h0 := hK.1
  have HK := Lib.hid hK
  have HN := Lib.hid hn
  have HR := Lib.hid hr
  have HT := Lib.hid hT
  clear hK hn hr hT
  go_enter Tryd.func61, Tryd.ntmps61
  go_wp2_with (first
    | (refine wl_alloc rfl 115 rfl _ _ info27 ?_
       intro w1 HA HB HZ))
  with_reducible refine (newSum_any w1).mono ?_
  rintro e w2 ⟨v, rfl, HV⟩
  obtain ⟨L, HL⟩ : ∃ L, Shut (L = sumCells H0 zeros64 0 0) := ⟨_, ⟨rfl⟩⟩
  have HZL : Shut (L.length = 74 ∧ (∀ v ∈ L, v.oneCell' = true) ∧ (Tryd.prog.info? 123).map (·.size) = some L.length) := ⟨by
    have h1 := len48 H0 0 0
    rw [HL.out]
    exact ⟨h1, sum_one _ _ _ _, by rw [h1]; exact info_size info48⟩⟩
  have HV1 : Hid (v = .agg L.toArray) := Lib.hid (by rw [HL.out]; exact HV.out.1)
  have HB2 := Lib.hid (HB.out.trans (HV.out.2.mono (by rw [HZ.out]; omega)))
  have HG0 := Lib.hid (HA.out.below HV.out.2 (by rw [HZ.out]; omega))
  clear HA HB HZ HV
  go_wp2_with (first
    | (refine wl_alloc rfl 123 rfl _ _ info48 ?_
       intro w3 HA3 HB3 HZ3)
    | (refine wl_store rfl 123 (.tmp 3) (.tmp 4) rfl w2.heap.size _ L rfl HV1.out rfl 123 _ HA3.out HZL.out.2.2 (by rw [HZL.out.1]; rfl) HZL.out.2.1 ?_
       intro w4 HR4 HS4 HZ4))
  have hs2 : w.heap.size ≤ w2.heap.size := HB2.out.size
  have hg0 : w.heap.size < w2.heap.size := HG0.out.lt
  generalize hg : w2.heap.size = g at *
  have HBW : Hid (Below w.heap.size w w4) := Lib.hid ((HB2.out.trans (HB3.out.mono hs2)).trans (HS4.out.below hs2 (by rw [HZ3.out]; omega)))
  have HG4 := Lib.hid (HS4.out.row (HG0.out.below HB3.out (by omega)) (by omega))
  have HSM : Shut (SumT w4 g [] 0) := ⟨sumT_nil (by rw [← HL.out]; exact HR4.out)⟩
  clear HA3 HB3 HZ3 HR4 HS4 HZ4 HB2 HG0 hg
  go_wp2_with fail
  with_reducible refine (addAll_any g w.heap.size [] 0 n c A ps w4 (HK.out.below h0 HBW.out) (by omega) (by omega) HBW.out.size HN.out hmax (by have := HT.out; omega) (HR.out.below HBW.out) HSM.out).mono ?_
  rintro e w5 ⟨rfl, HA5⟩
  have HS5 : Shut (SumT w5 g (flat ps) (flat ps).length) := ⟨by have h1 := HA5.out.1; rwa [List.nil_append, Nat.zero_add] at h1⟩
  have HG5 := Lib.hid (HA5.out.2.row HG4.out (by omega))
  have HB5 := Lib.hid (HBW.out.trans (HA5.out.2.below (by omega) HBW.out.size))
  clear HA5 HG4 HBW HSM
  go_wp2_with fail
  with_reducible refine (finish_any g (flat ps) w5 (HK.out.below h0 HB5.out) (by omega) HT.out HS5.out).mono ?_
  rintro e w6 ⟨vd, rfl, HA6⟩
  have HG6 := Lib.hid (HA6.out.2.row HG5.out (by omega))
  have HB6 := Lib.hid (HB5.out.trans (HA6.out.2.below (by omega) HB5.out.size))
  obtain ⟨D, HD⟩ : ∃ D, Shut (D = (digest (flat ps)).map bv) := ⟨_, ⟨rfl⟩⟩
  have HVD : Hid (vd = .agg D.toArray) := Lib.hid (by rw [HD.out]; exact HA6.out.1)
  have HLD : Shut ((Tryd.prog.info? 115).map (·.size) = some D.length ∧ (List.replicate 32 (Value.int .u8 0)).length = D.length ∧ D.length = 32 ∧ ∀ v ∈ D, v.oneCell' = true) := ⟨by
    have h1 : D.length = 32 := by rw [HD.out]; exact digest_len _
    exact ⟨by rw [h1]; exact info_size info27, by rw [h1]; exact List.length_replicate, h1, by rw [HD.out]; exact bytes_one _⟩⟩
  clear HA6 HG5 HB5 HS5
  go_wp2_with (first
    | (refine wl_store rfl 115 (.tmp 2) (.tmp 7) rfl w.heap.size _ D rfl HVD.out rfl 115 _ HG6.out HLD.out.1 HLD.out.2.1 HLD.out.2.2.2 ?_
       intro w7 HR7 HS7 HZ7))
  refine bodyPost_ret (v := .agg D.toArray) (results_cell_row Tryd.results61 _ w7 w.heap.size 115 _ (0, 0) _ rfl HR7.out under27 rfl (by simpa using HLD.out.1)) rfl ?_
  have hD : Value.agg D.toArray = .agg ((digest (flat ps)).map bv).toArray := by rw [HD.out]
  exact ⟨.agg D.toArray, rfl, Lib.hid (And.intro hD (HB6.out.trans (HS7.out.below (Nat.le_refl _) HB6.out.size)))⟩
end Go.Proofs.YtlmdafldggbiaaaDoor.H

/- The law HashLong: a long key counts as its digest, a short one as itself with bytes 0 behind. -/
import Derived.Test.YthfpkefieemiaaaDoorHexesw
import Derived.ChangeKeysEq
import Derived.Deep.RegionHeld3
namespace Go.Proofs.YthfpkefieemiaaaDoor
open Go.RowKit

theorem guard27 : Tryd.prog.eqGuardType Tryd.prog.depth 27 = false := by kernel_rfl
theorem guard29 : Tryd.prog.eqGuardType Tryd.prog.depth 29 = false := by kernel_rfl
theorem eq_byte (d : Nat) (b : UInt8) (w : World) : (Op.equalIn (d + 1) 5 (bv b) (bv b)).run Tryd.prog w = .ok true w := by
  simp [Op.equalIn, run_underlying Tryd.underlying5, bv]
theorem eq_items (l : List UInt8) (w : World) : ∀ is : List Nat, (∀ i ∈ is, i < l.length) → (Op.eqItems 9999 5 1 (l.map bv).toArray (l.map bv).toArray is).run Tryd.prog w = .ok true w := by
  intro is
  induction is with
  | nil => intro _; simp [Op.eqItems]
  | cons i is ih =>
    intro h
    have hi : i < l.length := h i (by simp)
    have hagg : (isAgg 5).run Tryd.prog w = .ok false w := by
      unfold isAgg
      rw [Sem.run_bind, run_underlying Tryd.underlying5 w]
      rfl
    have hp : (part 5 (l.map bv).toArray (i * 1)).run Tryd.prog w = .ok (bv l[i]) w := by
      simp [part, hagg, hi]
    have he : (Op.equalIn 9999 5 (bv l[i]) (bv l[i])).run Tryd.prog w = .ok true w := eq_byte 9998 _ w
    rw [Op.eqItems, Sem.run_bind, hp, Result.andThen_ok, Sem.run_bind, hp, Result.andThen_ok, Sem.run_bind, he, Result.andThen_ok]
    simpa using ih (fun j hj => h j (List.mem_cons_of_mem _ hj))
theorem eq_same (t : TypeId) (n : Nat) (hu : Tryd.prog.underlying t = some (.array n 5)) (l : List UInt8) (hl : l.length = n) (w : World) :
    (Op.equal t (.agg (l.map bv).toArray) (.agg (l.map bv).toArray)).run Tryd.prog w = .ok true w := by
  obtain ⟨i0, hi0, _⟩ := info_parts' u8_info
  have h1 := run_equalIn_array (P := Tryd.prog) w 9999 (l.map bv).toArray (l.map bv).toArray hu hi0
  rw [cells5, eq_items l w _ (fun i hi => by rw [hl]; simpa using hi)] at h1
  exact h1

theorem eq_in (t : TypeId) (n : Nat) (hu : Tryd.prog.underlying t = some (.array n 5)) (l : List UInt8) (hl : l.length = n) (w : World) :
    (Op.equalIn 10000 t (.agg (l.map bv).toArray) (.agg (l.map bv).toArray)).run Tryd.prog w = .ok true w := eq_same t n hu l hl w
theorem row_of_full {w : World} {base g n : Nat} {xs : List Value} (h : w.ownsRow base 5 1 (.slice (some ⟨g, 0, none⟩) n n) n xs) : Row w g 5 xs := by
  rcases h.2 with ⟨e, _⟩ | ⟨g', cap, cur, e, _, hg, _, _, hs, ht⟩
  · cases e
  · injection e with e1 _ e3
    injection e1 with e1
    injection e1 with e1 _ _
    subst e1 e3
    unfold Row
    rw [← ht, List.take_of_length_le (by simp; omega)]
    simpa using hg

theorem padK_long (key : List UInt8) (h : 64 < key.length) : padK (digest key) = padK key := by
  unfold padK
  rw [if_pos h, if_neg (by rw [digest_length]; decide), digest_length]
theorem padK_short (key : List UInt8) (h : key.length ≤ 64) : padK (key ++ List.replicate (64 - key.length) 0) = padK key := by
  have h1 : (key ++ List.replicate (64 - key.length) (0 : UInt8)).length = 64 := by simp; omega
  unfold padK
  rw [if_neg (by omega), if_neg (by omega), h1]
  simp
theorem keyed_long (key S : List UInt8) (h : 64 < key.length) : keyed (digest key) S = keyed key S := by unfold keyed; rw [padK_long key h]
theorem keyed_short (key S : List UInt8) (h : key.length ≤ 64) : keyed (key ++ List.replicate (64 - key.length) 0) S = keyed key S := by unfold keyed; rw [padK_short key h]

/-- Keyed of one part, in a world where its slice has just been laid. -/
theorem keyed_one (n c m d : Nat) (A B : Option Addr) (key bs : List UInt8) (w : World) (hK : Ktab w) (hn : key.length = n) (hc : n ≤ c) (hcm : c ≤ 9223372036854775807) (hkT : n < 1152921504606846976) (hr : Rd w w.heap.size A (key.map bv))
    (hm : bs.length = m) (hd : m ≤ d) (hdm : d ≤ 9223372036854775807) (hT : m < 1152921504606846000) (hr2 : Rd w w.heap.size B (bs.map bv)) :
    Calls Tryd.prog 19 #[.slice A n c, .slice (some ⟨w.heap.size, 0, none⟩) 1 1] (w.alloc (.cells #[.slice B m d] 25)) fun e w' => ∃ v, e = .returned v ∧ Hid (v = .agg ((keyed key bs).map bv).toArray ∧ Below w.heap.size w w') := by
  have hb := below_alloc w (.cells #[.slice B m d] 25)
  have h := keyed_any n c 1 1 A (some ⟨w.heap.size, 0, none⟩) key _ _ (hK.below hK.1 hb) hn hc hcm hkT ((hr.below hb).more hb.size) rfl (by decide) (by rw [flat_one, hm]; exact hT) (one_part w B m d bs hm hd hdm hr2)
  rw [flat_one] at h
  exact h.mono fun e w' ⟨v, he, hv⟩ => ⟨v, he, Lib.hid ⟨hv.out.1, hb.trans (hv.out.2.mono hb.size)⟩⟩
theorem digest_one (m d : Nat) (B : Option Addr) (bs : List UInt8) (w : World) (hK : Ktab w) (hm : bs.length = m) (hd : m ≤ d) (hdm : d ≤ 9223372036854775807) (hT : m < 1152921504606846976) (hr2 : Rd w w.heap.size B (bs.map bv)) :
    Calls Tryd.prog 13 #[.slice (some ⟨w.heap.size, 0, none⟩) 1 1] (w.alloc (.cells #[.slice B m d] 25)) fun e w' => ∃ v, e = .returned v ∧ Hid (v = .agg ((digest bs).map bv).toArray ∧ Below w.heap.size w w') := by
  have hb := below_alloc w (.cells #[.slice B m d] 25)
  have h := digest_any 1 1 (some ⟨w.heap.size, 0, none⟩) _ _ (hK.below hK.1 hb) rfl (by decide) (by rw [flat_one, hm]; exact hT) (one_part w B m d bs hm hd hdm hr2)
  rw [flat_one] at h
  exact h.mono fun e w' ⟨v, he, hv⟩ => ⟨v, he, Lib.hid ⟨hv.out.1, hb.trans (hv.out.2.mono hb.size)⟩⟩

theorem part_at (w : World) (a : Nat) (A : Option Addr) (n c : Nat) (bs : List UInt8) (hcell : w.cell? ⟨a, 0, none⟩ = some (.slice A n c)) (hn : bs.length = n) (hc : n ≤ c) (hm : c ≤ 9223372036854775807) (hr : Rd w w.heap.size A (bs.map bv)) :
    Parts w w.heap.size (some ⟨a, 0, none⟩) [⟨A, c, bs⟩] := by
  refine ⟨.inr ⟨_, rfl, lt_of_cell hcell, ?_⟩, ?_⟩
  · intro j u hj
    match j with
    | 0 =>
      simp [Part.v, hn] at hj
      rw [← hj]
      exact hcell
    | j + 1 => simp at hj
  · intro p hp
    simp at hp
    subst hp
    exact ⟨by show bs.length ≤ c; omega, hm, hr⟩
/-- Keyed of one part, wherever its slice lies. -/
theorem keyed_at (n c m d a : Nat) (A B : Option Addr) (key bs : List UInt8) (w : World) (hK : Ktab w) (hn : key.length = n) (hc : n ≤ c) (hcm : c ≤ 9223372036854775807) (hkT : n < 1152921504606846976) (hr : Rd w w.heap.size A (key.map bv))
    (hcell : w.cell? ⟨a, 0, none⟩ = some (.slice B m d)) (hm : bs.length = m) (hd : m ≤ d) (hdm : d ≤ 9223372036854775807) (hT : m < 1152921504606846000) (hr2 : Rd w w.heap.size B (bs.map bv)) :
    Calls Tryd.prog 19 #[.slice A n c, .slice (some ⟨a, 0, none⟩) 1 1] w fun e w' => ∃ v, e = .returned v ∧ Hid (v = .agg ((keyed key bs).map bv).toArray ∧ Below w.heap.size w w') := by
  have h := keyed_any n c 1 1 A (some ⟨a, 0, none⟩) key _ w hK hn hc hcm hkT hr rfl (by decide) (by rw [flat_one, hm]; exact hT) (part_at w a B m d bs hcell hm hd hdm hr2)
  rwa [flat_one] at h

set_option maxHeartbeats 1000000 in
theorem long_any (n c m d : Nat) (A B : Option Addr) (key bs : List UInt8) (w : World) (hK : Ktab w) (hn : key.length = n) (hm : bs.length = m) (hc : n ≤ c) (hcm : c ≤ 9223372036854775807) (hd : m ≤ d) (hdm : d ≤ 9223372036854775807) (hr : Rd w w.heap.size A (key.map bv)) (hr2 : Rd w w.heap.size B (bs.map bv)) :
    Calls Tryd.prog 7 #[.slice A n c, .slice B m d] w fun e w' => e = .returned (.bool true) ∧ Below w.heap.size w w' := by
  have h0 := hK.1
  have HK := Lib.hid hK
  have HN := Lib.hid hn
  have HM := Lib.hid hm
  have HR := Lib.hid hr
  have HR2 := Lib.hid hr2
  clear hK hn hm hr hr2
  go_enter Tryd.func7, Tryd.ntmps7
  go_wp2_with fail
  with_reducible refine (alive_any w HK.out).mono ?_
  rintro e w1 ⟨rfl, HB1⟩
  by_cases hbig : 5000 < n
  · go_wp2_with fail
    go_ret
    exact ⟨rfl, HB1.out⟩
  by_cases hbig2 : 5000 < m
  · go_wp2_with fail
    go_ret
    exact ⟨rfl, HB1.out⟩
  have hsz1 : w.heap.size ≤ w1.heap.size := HB1.out.size
  by_cases hlong : 64 < n
  · go_wp2_with fail
    with_reducible refine (digest_one n c A key w1 (HK.out.below h0 HB1.out) HN.out hc hcm (by omega) ((HR.out.below HB1.out).more hsz1)).mono ?_
    rintro e w2 ⟨v2, rfl, HV2⟩
    obtain ⟨D, HD, HLD⟩ := dig_facts key
    have HVD : Hid (v2 = .agg D.toArray) := Lib.hid (by rw [HD.out]; exact HV2.out.1)
    have HB2 := Lib.hid (HB1.out.trans (HV2.out.2.mono hsz1))
    clear HV2
    have hsl := fun w' : World => run_all w' 27 32 under27 w2.heap.size 0
    go_wp2_with (first
      | (refine wl_alloc rfl 27 rfl _ _ info27 ?_
         intro w3 HA3 HB3 HZ3)
      | (refine wl_store rfl 27 (.tmp 5) (.tmp 22) rfl w2.heap.size _ D rfl HVD.out rfl 27 _ HA3.out HLD.out.1 HLD.out.2.1 HLD.out.2.2.2 ?_
         intro w4 HR4 HS4 HZ4))
    have hz3 : w2.heap.size < w3.heap.size := by rw [HZ3.out]; omega
    have hz4 : w3.heap.size ≤ w4.heap.size := by rw [HZ4.out]; exact Nat.le_refl _
    have hsz2 : w.heap.size ≤ w2.heap.size := HB2.out.size
    have HB3' := Lib.hid (HB2.out.trans (HB3.out.mono hsz2))
    have HB4 := Lib.hid (HB3'.out.trans (HS4.out.below hsz2 (by omega)))
    have HRK := Lib.hid (keyed_facts key bs)
    generalize hgd : w2.heap.size = gd at *
    clear HA3 HB3 HZ3 HS4 HZ4 HB3' HB2 HVD hgd
    have hsz4 : w.heap.size ≤ w4.heap.size := HB4.out.size
    have HRD : Hid (Rd w4 w4.heap.size (some ⟨gd, 0, none⟩) ((digest key).map bv)) := Lib.hid (by rw [← HD.out]; exact HR4.out.rd _ (by omega))
    obtain ⟨E, HE, HLE⟩ := HRK.out
    have HEQ : Hid (∀ w' : World, (Op.equalIn 10000 27 (.agg E.toArray) (.agg E.toArray)).run Tryd.prog w' = .ok true w') := Lib.hid (fun w' => by rw [HE.out]; exact eq_in 27 32 under27 _ (digest_length _) w')
    have HKL : Hid (keyed (digest key) bs = keyed key bs) := Lib.hid (keyed_long key bs (by rw [HN.out]; exact hlong))
    have HCA : Hid (∀ (W : World) (a : Nat), Below w4.heap.size w4 W → W.cell? ⟨a, 0, none⟩ = some (.slice B m d) → Calls Tryd.prog 19 #[.slice A n c, .slice (some ⟨a, 0, none⟩) 1 1] W fun e w' => e = .returned (.agg E.toArray) ∧ Hid (Below W.heap.size W w')) := Lib.hid (fun W a hb5 hcl =>
      (keyed_at n c m d a A B key bs W (HK.out.below h0 (HB4.out.trans (hb5.mono hsz4))) HN.out hc hcm (by omega) ((((HR.out.below HB4.out).more hsz4).below hb5).more hb5.size) hcl HM.out hd hdm (by omega) ((((HR2.out.below HB4.out).more hsz4).below hb5).more hb5.size)).mono
        fun e w' ⟨v, he, hv⟩ => ⟨by rw [he, hv.out.1, HE.out], Lib.hid hv.out.2⟩)
    have HCB : Hid (∀ (W : World) (a : Nat), Below w4.heap.size w4 W → W.cell? ⟨a, 0, none⟩ = some (.slice B m d) → Calls Tryd.prog 19 #[.slice (some ⟨gd, 0, none⟩) 32 32, .slice (some ⟨a, 0, none⟩) 1 1] W fun e w' => e = .returned (.agg E.toArray) ∧ Hid (Below W.heap.size W w')) := Lib.hid (fun W a hb5 hcl =>
      (keyed_at 32 32 m d a (some ⟨gd, 0, none⟩) B (digest key) bs W (HK.out.below h0 (HB4.out.trans (hb5.mono hsz4))) (digest_length _) (by decide) (by decide) (by decide) ((HRD.out.below hb5).more hb5.size) hcl HM.out hd hdm (by omega) ((((HR2.out.below HB4.out).more hsz4).below hb5).more hb5.size)).mono
        fun e w' ⟨v, he, hv⟩ => ⟨by rw [he, hv.out.1, HKL.out, HE.out], Lib.hid hv.out.2⟩)
    have heq := HEQ.out
    have hg27 := guard27
    have hb1 : Below w4.heap.size w4 (w4.alloc (.cells #[.slice B m d] 25)).drew := (below_alloc w4 _).drew
    have hb2 : Below w4.heap.size w4 ((w4.alloc (.cells #[.slice B m d] 25)).alloc (.cells #[.slice B m d] 25)).drew := ((below_alloc w4 _).trans ((below_alloc _ _).mono (by simp))).drew
    have cl1 : (w4.alloc (.cells #[.slice B m d] 25)).drew.cell? ⟨w4.heap.size, 0, none⟩ = some (.slice B m d) := by simp
    have cl2 : ((w4.alloc (.cells #[.slice B m d] 25)).alloc (.cells #[.slice B m d] 25)).drew.cell? ⟨w4.heap.size, 0, none⟩ = some (.slice B m d) := by simp
    have cl3 : ((w4.alloc (.cells #[.slice B m d] 25)).alloc (.cells #[.slice B m d] 25)).drew.cell? ⟨w4.heap.size + 1, 0, none⟩ = some (.slice B m d) := by simp
    have HX1 := Lib.hid (HCA.out _ w4.heap.size hb1 cl1)
    have HX2 := Lib.hid (HCA.out _ w4.heap.size hb2 cl2)
    have HX3 := Lib.hid (HCA.out _ (w4.heap.size + 1) hb2 cl3)
    have HY1 : Hid (∀ w5, Below (w4.alloc (.cells #[.slice B m d] 25)).drew.heap.size (w4.alloc (.cells #[.slice B m d] 25)).drew w5 → Calls Tryd.prog 19 #[.slice (some ⟨gd, 0, none⟩) 32 32, .slice (some ⟨w5.heap.size, 0, none⟩) 1 1] (w5.alloc (.cells #[.slice B m d] 25)) fun e w' => e = .returned (.agg E.toArray) ∧ Hid (Below w4.heap.size w4 w')) := Lib.hid (fun w5 hb => by
      have h3 : Below w4.heap.size w4 w5 := hb1.trans (hb.mono hb1.size)
      have h4 := h3.trans ((below_alloc w5 (.cells #[.slice B m d] 25)).mono h3.size)
      exact (HCB.out _ w5.heap.size h4 (by simp)).mono fun e w' ⟨he, hv⟩ => ⟨he, Lib.hid (h4.trans (hv.out.mono h4.size))⟩)
    have HY2 : Hid (∀ w5, Below ((w4.alloc (.cells #[.slice B m d] 25)).alloc (.cells #[.slice B m d] 25)).drew.heap.size ((w4.alloc (.cells #[.slice B m d] 25)).alloc (.cells #[.slice B m d] 25)).drew w5 → Calls Tryd.prog 19 #[.slice (some ⟨gd, 0, none⟩) 32 32, .slice (some ⟨w4.heap.size + 1, 0, none⟩) 1 1] w5 fun e w' => e = .returned (.agg E.toArray) ∧ Hid (Below w4.heap.size w4 w')) := Lib.hid (fun w5 hb => by
      have h3 : Below w4.heap.size w4 w5 := hb2.trans (hb.mono hb2.size)
      exact (HCB.out _ _ h3 ((hb.cell (p := ⟨w4.heap.size + 1, 0, none⟩) (by simp)).trans cl3)).mono fun e w' ⟨he, hv⟩ => ⟨he, Lib.hid (h3.trans (hv.out.mono h3.size))⟩)
    have HY3 : Hid (∀ w5, Below ((w4.alloc (.cells #[.slice B m d] 25)).alloc (.cells #[.slice B m d] 25)).drew.heap.size ((w4.alloc (.cells #[.slice B m d] 25)).alloc (.cells #[.slice B m d] 25)).drew w5 → Calls Tryd.prog 19 #[.slice (some ⟨gd, 0, none⟩) 32 32, .slice (some ⟨w4.heap.size, 0, none⟩) 1 1] w5 fun e w' => e = .returned (.agg E.toArray) ∧ Hid (Below w4.heap.size w4 w')) := Lib.hid (fun w5 hb => by
      have h3 : Below w4.heap.size w4 w5 := hb2.trans (hb.mono hb2.size)
      exact (HCB.out _ _ h3 ((hb.cell (p := ⟨w4.heap.size, 0, none⟩) (by simp; omega)).trans cl2)).mono fun e w' ⟨he, hv⟩ => ⟨he, Lib.hid (h3.trans (hv.out.mono h3.size))⟩)
    clear hb1 hb2 cl1 cl2 cl3
    go_region_with (first
      | (go_at_call 19; (with_reducible refine HX1.out.mono ?_); rintro e w5 ⟨rfl, HV5⟩)
      | (go_at_call 19; (with_reducible refine HX2.out.mono ?_); rintro e w5 ⟨rfl, HV5⟩)
      | (go_at_call 19; (with_reducible refine HX3.out.mono ?_); rintro e w5 ⟨rfl, HV5⟩)
      | (go_at_call 19; (with_reducible refine (HY1.out w5 HV5.out).mono ?_); rintro e w6 ⟨rfl, HV6⟩)
      | (go_at_call 19; (with_reducible refine (HY2.out w5 HV5.out).mono ?_); rintro e w6 ⟨rfl, HV6⟩)
      | (go_at_call 19; (with_reducible refine (HY3.out w5 HV5.out).mono ?_); rintro e w6 ⟨rfl, HV6⟩))
    all_goals
      have HB6 := Lib.hid (HB4.out.trans (HV6.out.mono hsz4))
      go_wp2_with fail
      go_ret
      exact ⟨rfl, HB6.out⟩
  · obtain ⟨i0, hi0, hz0, hz1, hz2⟩ := info_parts' u8_info
    have HI := Lib.hid (And.intro hi0 (And.intro hz0 (And.intro hz1 hz2)))
    clear hi0 hz0 hz1 hz2
    have hkl : (key.map bv).length = Nat.min n 64 := by rw [List.length_map, HN.out]; exact (Nat.min_eq_left (by omega)).symm
    have HKL := Lib.hid hkl
    clear hkl
    go_wp2_with (first
      | (refine wpList_make_full _ rfl _ _ 25 rfl w.heap.size 5 i0 _ 1 Tryd.underlying25 HI.out.1 HI.out.2.1 HI.out.2.2.1 .i64 .i64 _ _ 64 rfl rfl rfl rfl (by rw [HI.out.2.2.2]; omega) (by simp only [maxLen]; omega) hsz1 ?_
         intro w2 hown2 hg2
         rw [made_zeros] at hown2
         have HRW2 := Lib.hid (row_of_full hown2)
         have HB2 := Lib.hid (HB1.out.grown hg2 hsz1 (fun k hk => by cases hk))
         have hsz2 : w.heap.size ≤ w2.heap.size := HB2.out.size
         have hsz12 : w1.heap.size ≤ w2.heap.size := hg2.size
         clear hown2 hg2)
      | (refine wl_copy rfl (.tmp 33) (.tmp 34) rfl w1.heap.size 0 64 64 A n c rfl rfl _ 5 HRW2.out (key.map bv) HKL.out ((HR.out.below HB2.out).more hsz2) (by rw [HKL.out]; show 0 + min n 64 ≤ _; simp; omega) (bytes_one _) ?_
         intro w3 HW3))
    obtain ⟨F, HF⟩ : ∃ F, Shut (F = key ++ List.replicate (64 - key.length) 0) := ⟨_, ⟨rfl⟩⟩
    have HFL : Hid (F.length = 64) := Lib.hid (by rw [HF.out, List.length_append, List.length_replicate, HN.out]; omega)
    have HR3 : Hid (Row w3 w1.heap.size 5 (F.map bv)) := Lib.hid (by
      have h1 := HW3.out.1
      have e1 : (List.replicate 64 (0 : UInt8)).map bv = List.replicate 64 (Value.int .u8 0) := by simp [bv]
      rw [e1, splice_zero _ _ (by rw [HN.out]; omega), ← HF.out] at h1
      exact h1)
    have HB3 := Lib.hid (HB2.out.trans (HW3.out.2.1.below hsz1 hsz2))
    have hsz3 : w.heap.size ≤ w3.heap.size := HB3.out.size
    generalize hgf : w1.heap.size = gf at *
    clear HW3 HRW2 HB2 hgf
    with_reducible refine (keyed_one n c m d A B key bs w3 (HK.out.below h0 HB3.out) HN.out hc hcm (by omega) ((HR.out.below HB3.out).more hsz3) HM.out hd hdm (by omega) ((HR2.out.below HB3.out).more hsz3)).mono ?_
    rintro e w4 ⟨v4, rfl, HV4⟩
    have HB4 := Lib.hid (HB3.out.trans (HV4.out.2.mono hsz3))
    have hsz4 : w.heap.size ≤ w4.heap.size := HB4.out.size
    have HR4 := Lib.hid (HR3.out.below HV4.out.2 HR3.out.lt)
    have HRF : Hid (Rd w4 w4.heap.size (some ⟨gf, 0, none⟩) (F.map bv)) := Lib.hid (HR4.out.rd _ HR4.out.lt)
    go_wp2_with fail
    with_reducible refine (keyed_one 64 64 m d _ B F bs w4 (HK.out.below h0 HB4.out) HFL.out (by decide) (by decide) (by decide) HRF.out HM.out hd hdm (by omega) ((HR2.out.below HB4.out).more hsz4)).mono ?_
    rintro e w5 ⟨v5, rfl, HV5⟩
    obtain ⟨E, HE, HLE⟩ := keyed_facts key bs
    have h4 : v4 = .agg E.toArray := by rw [HE.out]; exact HV4.out.1
    have h5 : v5 = .agg E.toArray := by
      have h6 := HV5.out.1
      rw [HF.out, keyed_short key bs (by rw [HN.out]; omega)] at h6
      rw [HE.out]
      exact h6
    subst h4 h5
    have heq : ∀ w' : World, (Op.equalIn 10000 27 (.agg E.toArray) (.agg E.toArray)).run Tryd.prog w' = .ok true w' := fun w' => by rw [HE.out]; exact eq_in 27 32 under27 _ (digest_length _) w'
    have hg27 := guard27
    have HB5 := Lib.hid (HB4.out.trans (HV5.out.2.mono hsz4))
    go_wp2_with fail
    go_ret
    exact ⟨rfl, HB5.out⟩
end Go.Proofs.YthfpkefieemiaaaDoor

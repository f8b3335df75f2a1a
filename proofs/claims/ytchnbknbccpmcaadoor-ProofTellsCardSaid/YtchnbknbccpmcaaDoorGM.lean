/- The document's keyed sum. -/
import Derived.Test.YtchnbknbccpmcaaDoorGH
import Derived.Test.YtchnbknbccpmcaaDoorGK
import Derived.Laws.MakeOwn
namespace Go.Proofs.YtchnbknbccpmcaaDoor.H
open Go.RowKit

theorem made_rep (m n : Nat) (hm : 0 < m) (z : Value) : madeCells (List.replicate m z).toArray n = (List.replicate n z).toArray := by
  apply Array.ext
  · simp [madeCells]
  · intro i h1 h2
    have hj : i % m < m := Nat.mod_lt _ hm
    simp [madeCells, hj]
theorem made64 : madeCells (Value.int .u8 0).cells 64 = ((List.replicate 64 (0 : UInt8)).map bv).toArray := by
  have h := made_rep 1 64 (by decide) (Value.int .u8 0)
  rw [List.map_replicate]
  exact h
theorem run_make64 (w : World) : (Instr.makeSlice 22 (.int .i64 64) (.int .i64 64)).run Tryd.prog w = .ok (.slice (some ⟨w.heap.size, 0, none⟩) 64 64) (w.alloc (.cells ((List.replicate 64 (0 : UInt8)).map bv).toArray 5)) := by
  obtain ⟨i0, hi0, hz0, hz1, hz2⟩ := info_parts' u8_info
  have hr := run_make (P := Tryd.prog) w 22 5 i0 _ Tryd.underlying22 hi0 hz0 .i64 .i64 64 64 (by omega) (Int.le_refl _) (by rw [hz2]; omega) (by omega)
  rw [show (64 : Int).toNat = 64 from rfl, hz1, Nat.mul_one, made64] at hr
  exact hr

/-- The first k bytes of X, zeros behind. -/
def fillL (X : List UInt8) (k : Nat) : List UInt8 := X.take k ++ List.replicate (64 - k) 0
theorem fillL_zero (X : List UInt8) : fillL X 0 = List.replicate 64 0 := by simp [fillL]
theorem fillL_all (X : List UInt8) (k : Nat) (h : X.length = 64) (hk : 64 ≤ k) : fillL X k = X := by
  unfold fillL
  rw [List.take_of_length_le (by omega), show 64 - k = 0 by omega]
  simp
theorem fillL_set (X : List UInt8) (k : Nat) (h : X.length = 64) (hk : k < 64) (b : UInt8) (hb : b = X[k]) : (fillL X k).set k b = fillL X (k + 1) := by
  unfold fillL
  have e1 : (X.take k).length = k := by simp; omega
  have e2 : 64 - k = (64 - (k + 1)) + 1 := by omega
  rw [List.set_append_right _ _ (by omega), e1, Nat.sub_self, e2, List.replicate_succ, List.set_cons_zero, List.take_succ_eq_append_getElem (show k < X.length by omega), hb, List.append_assoc]
  rfl
theorem fillL_length (X : List UInt8) (k : Nat) (h : X.length = 64) (hk : k ≤ 64) : (fillL X k).length = 64 := by
  unfold fillL
  simp
  omega
theorem padK_low (key : List UInt8) (h : key.length ≤ 64) (k : Nat) (hk : k < key.length) : (padK key)[k]? = key[k]? := by
  unfold padK
  rw [if_neg (by omega), List.getElem?_append_left hk]
theorem padK_high (key : List UInt8) (h : key.length ≤ 64) (k : Nat) (hk : key.length ≤ k) (h64 : k < 64) : (padK key)[k]? = some 0 := by
  unfold padK
  rw [if_neg (by omega), List.getElem?_append_right hk, List.getElem?_replicate, if_pos (by omega)]
theorem padK_dig (key : List UInt8) (h : 64 < key.length) : padK key = padK (digest key) := by
  unfold padK
  rw [if_pos h, if_neg (by rw [digest_length]; omega), digest_length]
theorem own_row {w : World} {g base n : Nat} {cs : List Value} (h : Row w g 5 cs) (hb : base ≤ g) (hn : cs.length = n) (hm : n ≤ maxLen) : w.ownsRow base 5 1 (.slice (some ⟨g, 0, none⟩) n n) n cs :=
  ⟨by simpa using hn, .inr ⟨g, n, cs.toArray, rfl, hb, h, Nat.le_refl _, hm, by simpa using hn, by rw [List.take_of_length_le (by simp [hn])]⟩⟩
theorem grown_row {w w' : World} {g : Nat} {t : TypeId} {cs : List Value} {r : Option Nat} (h : Row w g t cs) (hg : w.grownBy w' r) (hr : r ≠ some g) : Row w' g t cs := (hg.block g h.lt (fun e => hr e.symm)).trans h

set_option maxRecDepth 100000 in
set_option maxHeartbeats 4000000 in
theorem rkeyed_short (g n c m d : Nat) (A B : Option Addr) (key bs : List UInt8) (w : World) (hT : Tab w w.heap.size g) (hn : key.length = n) (hs : n ≤ 64) (_hnb : n ≤ 20000) (hr : Rd w w.heap.size A (key.map bv)) (hm : bs.length = m) (hmb : m ≤ 20000) (hr2 : Rd w w.heap.size B (bs.map bv)) :
    Calls Tryd.prog 41 #[.pointer (some ⟨g, 0, none⟩), .slice A n c, .slice B m d] w fun e w' => ∃ v, e = .returned v ∧ Hid (w'.ownsRow w.heap.size 5 1 v 32 ((keyed key bs).map bv) ∧ Below w.heap.size w w') := by
  have HT := Lib.hid hT
  have HN := Lib.hid hn
  have HM := Lib.hid hm
  have HR := Lib.hid hr
  have HR2 := Lib.hid hr2
  clear hT hn hm hr hr2
  have hx36 : ∀ b : UInt8, bits .xor .u8 (b.toNat : Int) 54 = ((b ^^^ 0x36).toNat : Int) := fun b => byte_xor b 0x36
  have hx5c : ∀ b : UInt8, bits .xor .u8 (b.toNat : Int) 92 = ((b ^^^ 0x5c).toNat : Int) := fun b => byte_xor b 0x5c
  have hmk := run_make64
  obtain ⟨Z, HZ⟩ : ∃ Z, Shut (Z = (List.replicate 64 (0 : UInt8)).map bv) := ⟨_, ⟨rfl⟩⟩
  rw [← HZ.out] at hmk
  go_enter Tryd.func41, Tryd.ntmps41
  go_wp2_with fail
  have HBB := Lib.hid (Below.refl w.heap.size w)
  have HPK : Shut (padK key = padK key) := ⟨rfl⟩
  obtain ⟨X1, HX1⟩ : ∃ X1, Shut (X1 = (padK key).map (· ^^^ 0x36)) := ⟨_, ⟨rfl⟩⟩
  obtain ⟨X2, HX2⟩ : ∃ X2, Shut (X2 = (padK key).map (· ^^^ 0x5c)) := ⟨_, ⟨rfl⟩⟩
  have HL1 : Hid (X1.length = 64) := Lib.hid (by rw [HX1.out, List.length_map, padK_length])
  have HL2 : Hid (X2.length = 64) := Lib.hid (by rw [HX2.out, List.length_map, padK_length])
  have HLOW : Shut (∀ k, ∀ hk : k < n, ∃ b : UInt8, key[k]? = some b ∧ X1[k]? = some (b ^^^ 0x36) ∧ X2[k]? = some (b ^^^ 0x5c)) := ⟨fun k hk => by
    have h1 : k < key.length := by rw [HN.out]; exact hk
    have h2 : (padK key)[k]? = key[k]? := by rw [← HPK.out]; exact padK_low _ (by rw [HN.out]; omega) k h1
    refine ⟨key[k], List.getElem?_eq_getElem h1, ?_, ?_⟩
    · rw [HX1.out, List.getElem?_map, h2, List.getElem?_eq_getElem h1]; rfl
    · rw [HX2.out, List.getElem?_map, h2, List.getElem?_eq_getElem h1]; rfl⟩
  have HHIGH : Shut (∀ k, n ≤ k → k < 64 → X1[k]? = some 0x36 ∧ X2[k]? = some 0x5c) := ⟨fun k hk h64 => by
    have h2 : (padK key)[k]? = some 0 := by rw [← HPK.out]; exact padK_high _ (by rw [HN.out]; omega) k (by rw [HN.out]; exact hk) h64
    exact ⟨by rw [HX1.out, List.getElem?_map, h2]; rfl, by rw [HX2.out, List.getElem?_map, h2]; rfl⟩⟩
  have HSET1 : Shut (∀ k b, k < 64 → X1[k]? = some b → (fillL X1 k).set k b = fillL X1 (k + 1)) := ⟨fun k b hk h => fillL_set X1 k HL1.out hk b (by
    rw [List.getElem?_eq_getElem (by rw [HL1.out]; exact hk)] at h
    exact (Option.some.inj h).symm)⟩
  have HSET2 : Shut (∀ k b, k < 64 → X2[k]? = some b → (fillL X2 k).set k b = fillL X2 (k + 1)) := ⟨fun k b hk h => fillL_set X2 k HL2.out hk b (by
    rw [List.getElem?_eq_getElem (by rw [HL2.out]; exact hk)] at h
    exact (Option.some.inj h).symm)⟩
  have HKEY : Shut ((padK key).map (· ^^^ 0x36) = X1 ∧ (padK key).map (· ^^^ 0x5c) = X2) := ⟨HX1.out.symm, HX2.out.symm⟩
  clear HX1 HX2 HPK
  go_region
  all_goals
    have HW1 : Shut (Row ((w.alloc (Obj.cells Z.toArray 5)).alloc (Obj.cells Z.toArray 5)).drew w.heap.size 5 ((fillL X1 0).map bv) ∧ Row ((w.alloc (Obj.cells Z.toArray 5)).alloc (Obj.cells Z.toArray 5)).drew (w.heap.size + 1) 5 ((fillL X1 0).map bv) ∧ Below w.heap.size w ((w.alloc (Obj.cells Z.toArray 5)).alloc (Obj.cells Z.toArray 5)).drew) := ⟨by
      have h1 := (Row.new w Z 5).alloc (Obj.cells Z.toArray 5)
      have h2 := Row.new (w.alloc (Obj.cells Z.toArray 5)) Z 5
      have h3 := ((below_alloc w (Obj.cells Z.toArray 5)).alloc (by simp) (Obj.cells Z.toArray 5)).drew
      have e : (w.alloc (Obj.cells Z.toArray 5)).heap.size = w.heap.size + 1 := by simp
      rw [e] at h2
      rw [fillL_zero, ← HZ.out]
      exact ⟨h1, h2, h3⟩⟩
    have HF2 : Shut (fillL X1 0 = fillL X2 0) := ⟨by rw [fillL_zero, fillL_zero]⟩
    generalize ((w.alloc (Obj.cells Z.toArray 5)).alloc (Obj.cells Z.toArray 5)).drew = w1 at *
  have HW2 : Shut (Row w1 w.heap.size 5 ((fillL X1 0).map bv) ∧ Row w1 (w.heap.size + 1) 5 ((fillL X2 0).map bv) ∧ Below w.heap.size w w1 ∧ w.heap.size ≠ w.heap.size + 1 ∧ w.heap.size ≤ w.heap.size ∧ w.heap.size ≤ w.heap.size + 1) := ⟨HW1.out.1, by rw [← HF2.out]; exact HW1.out.2.1, HW1.out.2.2, by omega, by omega, by omega⟩
  obtain ⟨go, hgo⟩ : ∃ go, w.heap.size + 1 = go := ⟨_, rfl⟩
  rw [hgo] at HW2 ⊢
  obtain ⟨gi, hgi⟩ : ∃ gi, w.heap.size = gi := ⟨_, rfl⟩
  have HW3 : Shut (Row w1 gi 5 ((fillL X1 0).map bv) ∧ Row w1 go 5 ((fillL X2 0).map bv) ∧ Below w.heap.size w w1 ∧ gi ≠ go ∧ w.heap.size ≤ gi ∧ w.heap.size ≤ go) := ⟨by rw [← hgi]; exact HW2.out⟩
  rw [hgi]
  rotate_left
  have HW2 : Shut (Row w1 (w.heap.size + 1) 5 ((fillL X1 0).map bv) ∧ Row w1 w.heap.size 5 ((fillL X2 0).map bv) ∧ Below w.heap.size w w1 ∧ w.heap.size + 1 ≠ w.heap.size ∧ w.heap.size ≤ w.heap.size + 1 ∧ w.heap.size ≤ w.heap.size) := ⟨HW1.out.2.1, by rw [← HF2.out]; exact HW1.out.1, HW1.out.2.2, by omega, by omega, by omega⟩
  obtain ⟨gi, hgi⟩ : ∃ gi, w.heap.size + 1 = gi := ⟨_, rfl⟩
  rw [hgi] at HW2 ⊢
  obtain ⟨go, hgo⟩ : ∃ go, w.heap.size = go := ⟨_, rfl⟩
  have HW3 : Shut (Row w1 gi 5 ((fillL X1 0).map bv) ∧ Row w1 go 5 ((fillL X2 0).map bv) ∧ Below w.heap.size w w1 ∧ gi ≠ go ∧ w.heap.size ≤ gi ∧ w.heap.size ≤ go) := ⟨by rw [← hgo]; exact HW2.out⟩
  rw [hgo]
  rotate_left
  all_goals
    clear hgi hgo HW1 HW2 HF2 hmk HZ
    have hne : gi ≠ go := HW3.out.2.2.2.1
    have hgi : w.heap.size ≤ gi := HW3.out.2.2.2.2.1
    have hgo : w.heap.size ≤ go := HW3.out.2.2.2.2.2
    go_wp2_with fail
    go_loopw [21] (fun i W => ∃ k : Nat, k ≤ 64 ∧ i = .int .i64 k ∧ Shut (Row W gi 5 ((fillL X1 k).map bv) ∧ Row W go 5 ((fillL X2 k).map bv) ∧ Below w.heap.size w W)) (fun i _ => 64 - (intOf i).toNat)
    case atStart => exact ⟨0, Nat.zero_le _, rfl, ⟨HW3.out.1, HW3.out.2.1, HW3.out.2.2.1⟩⟩
    case round =>
      clear HW3
      obtain ⟨k, hk, rfl, HI⟩ := hrel
      have fr1 : ∀ v, (wr.setCell ⟨gi, k, none⟩ v).frozen? ⟨go, k, none⟩ = false := fun v => (HI.out.2.1.setOther ⟨gi, k, none⟩ (fun e => hne e.symm) v).frozen k
      have fr2 : wr.frozen? ⟨gi, k, none⟩ = false := HI.out.1.frozen k
      have fr3 : wr.frozen? ⟨go, k, none⟩ = false := HI.out.2.1.frozen k
      by_cases hlt : k < 64
      · obtain ⟨x1, cx1⟩ : ∃ x, wr.cell? ⟨gi, k, none⟩ = some x := ⟨_, (HI.out.1.cell k).trans (List.getElem?_eq_getElem (by rw [List.length_map, fillL_length X1 k HL1.out hk]; exact hlt))⟩
        obtain ⟨x2, cx2⟩ : ∃ x, wr.cell? ⟨go, k, none⟩ = some x := ⟨_, (HI.out.2.1.cell k).trans (List.getElem?_eq_getElem (by rw [List.length_map, fillL_length X2 k HL2.out hk]; exact hlt))⟩
        by_cases hkn : k < n
        · obtain ⟨b, hb1, hb2, hb3⟩ := HLOW.out k hkn
          obtain ⟨ad, rfl, _, hcb⟩ := ((HR.out).below HI.out.2.2).cell (k := k) (u := bv b) (by rw [List.getElem?_map, hb1]; rfl)
          unfold bv at hcb
          have HX1 : Shut ((fillL X1 k).set k (b ^^^ 0x36) = fillL X1 (k + 1)) := ⟨HSET1.out k _ hlt hb2⟩
          have HX2 : Shut ((fillL X2 k).set k (b ^^^ 0x5c) = fillL X2 (k + 1)) := ⟨HSET2.out k _ hlt hb3⟩
          clear hb1 hb2 hb3
          go_wp2_with fail
          refine ⟨⟨k + 1, by omega, by go_num, ⟨?_, ?_, ?_⟩⟩, by simp [intOf]; omega⟩
          · have h1 := (HI.out.1.set k (bv (b ^^^ 0x36))).setOther ⟨go, k, none⟩ hne (bv (b ^^^ 0x5c))
            rw [← List.map_set, HX1.out] at h1
            exact h1
          · have h1 := (HI.out.2.1.setOther ⟨gi, k, none⟩ (fun e => hne e.symm) (bv (b ^^^ 0x36))).set k (bv (b ^^^ 0x5c))
            rw [← List.map_set, HX2.out] at h1
            exact h1
          · exact (HI.out.2.2.setCell (p := ⟨gi, k, none⟩) hgi _).setCell (p := ⟨go, k, none⟩) hgo _
        · have HX1 : Shut ((fillL X1 k).set k 0x36 = fillL X1 (k + 1)) := ⟨HSET1.out k _ hlt (HHIGH.out k (by omega) hlt).1⟩
          have HX2 : Shut ((fillL X2 k).set k 0x5c = fillL X2 (k + 1)) := ⟨HSET2.out k _ hlt (HHIGH.out k (by omega) hlt).2⟩
          go_wp2_with fail
          refine ⟨⟨k + 1, by omega, by go_num, ⟨?_, ?_, ?_⟩⟩, by simp [intOf]; omega⟩
          · have h1 := (HI.out.1.set k (bv 0x36)).setOther ⟨go, k, none⟩ hne (bv 0x5c)
            rw [← List.map_set, HX1.out] at h1
            exact h1
          · have h1 := (HI.out.2.1.setOther ⟨gi, k, none⟩ (fun e => hne e.symm) (bv 0x36)).set k (bv 0x5c)
            rw [← List.map_set, HX2.out] at h1
            exact h1
          · exact (HI.out.2.2.setCell (p := ⟨gi, k, none⟩) hgi _).setCell (p := ⟨go, k, none⟩) hgo _
      · have HJ : Shut (Row wr gi 5 (X1.map bv) ∧ Row wr go 5 (X2.map bv) ∧ Below w.heap.size w wr) := ⟨by
          have h1 := HI.out
          rw [fillL_all X1 k HL1.out (by omega), fillL_all X2 k HL2.out (by omega)] at h1
          exact h1⟩
        have HB1 := Lib.hid (HBB.out.trans (HJ.out.2.2.mono HBB.out.size))
        have HO1 := Lib.hid (own_row (base := w.heap.size) HJ.out.1 hgi (by rw [List.length_map, HL1.out]) (by decide))
        have hsz1 : w.heap.size ≤ wr.heap.size := HB1.out.size
        have hsz0 : w.heap.size ≤ wr.heap.size := HJ.out.2.2.size
        have hgol : go < wr.heap.size := HJ.out.2.1.lt
        clear HI fr1 fr2 fr3
        go_wp2_with (first
          | (refine wl_append rfl (.tmp 46) (.tmp 47) rfl w.heap.size (.slice (some ⟨gi, 0, none⟩) 64 64) 64 (X1.map bv) rfl HO1.out w.heap.size B m d bs rfl HM.out (HR2.out.below HB1.out) (by omega) hsz0 ?_
             intro v3 w3 HA3))
        have HS3 : Shut (w3.ownsRow w.heap.size 5 1 v3 (64 + m) ((X1 ++ bs).map bv) ∧ Row w3 go 5 (X2.map bv) ∧ Below w.heap.size w w3) := ⟨by
          have h1 := HA3.out.1
          rw [← List.map_append] at h1
          refine ⟨h1, grown_row HJ.out.2.1 HA3.out.2 (fun e => hne (Option.some.inj e)), ?_⟩
          exact HB1.out.grown HA3.out.2 HB1.out.size (fun j hj => by have e : gi = j := Option.some.inj hj; omega)⟩
        obtain ⟨A3, c3, rfl, hl3, _, _, hr3, _⟩ := own_slice HS3.out.1
        have HR3 := Lib.hid hr3
        have HL3 := Lib.hid hl3
        have hgo3 : go < w3.heap.size := HS3.out.2.1.lt
        clear HA3 hr3 hl3
        with_reducible refine (rdigest_any g (64 + m) c3 A3 (X1 ++ bs) w3 ((HT.out.below HS3.out.2.2).more HS3.out.2.2.size) HL3.out (by omega) HR3.out).mono ?_
        rintro e w4 ⟨v4, rfl, HV4⟩
        obtain ⟨A4, c4, rfl, hl4, _, _, hr4, _⟩ := own_slice HV4.out.1
        have HR4 := Lib.hid hr4
        have HL4 := Lib.hid hl4
        have HS4 : Shut (Row w4 go 5 (X2.map bv) ∧ Below w.heap.size w w4) := ⟨HS3.out.2.1.below HV4.out.2 hgo3, HS3.out.2.2.trans (HV4.out.2.mono HS3.out.2.2.size)⟩
        have hsz4 : w.heap.size ≤ w4.heap.size := HS4.out.2.size
        have hsz5 : w3.heap.size ≤ w4.heap.size := HV4.out.2.size
        have HO2 := Lib.hid (own_row (base := w.heap.size) HS4.out.1 hgo (by rw [List.length_map, HL2.out]) (by decide))
        clear hr4 hl4 HV4 HS3
        go_wp2_with (first
          | (refine wl_append rfl (.tmp 44) (.tmp 49) rfl w.heap.size (.slice (some ⟨go, 0, none⟩) 64 64) 64 (X2.map bv) rfl HO2.out w4.heap.size A4 32 c4 (digest (X1 ++ bs)) rfl HL4.out HR4.out (by omega) (by omega) ?_
             intro v5 w5 HA5))
        have HS5 : Shut (w5.ownsRow w.heap.size 5 1 v5 96 ((X2 ++ digest (X1 ++ bs)).map bv) ∧ Below w.heap.size w w5) := ⟨by
          have h1 := HA5.out.1
          rw [← List.map_append] at h1
          exact ⟨h1, HS4.out.2.grown HA5.out.2 hsz4 (fun j hj => by have e : go = j := Option.some.inj hj; omega)⟩⟩
        obtain ⟨A5, c5, rfl, hl5, _, _, hr5, _⟩ := own_slice HS5.out.1
        have HR5 := Lib.hid hr5
        have HL5 := Lib.hid hl5
        clear HA5 hr5 hl5
        with_reducible refine (rdigest_any g 96 c5 A5 (X2 ++ digest (X1 ++ bs)) w5 ((HT.out.below HS5.out.2).more HS5.out.2.size) HL5.out (by omega) HR5.out).mono ?_
        rintro e w6 ⟨v6, rfl, HV6⟩
        go_wp2_with fail
        go_ret
        refine ⟨_, rfl, Lib.hid ⟨?_, HS5.out.2.trans (HV6.out.2.mono HS5.out.2.size)⟩⟩
        unfold keyed
        rw [HKEY.out.1, HKEY.out.2]
        exact own_base HV6.out.1 HS5.out.2.size

set_option maxRecDepth 100000 in
set_option maxHeartbeats 4000000 in
theorem rkeyed_long (g n c m d : Nat) (A B : Option Addr) (key bs : List UInt8) (w : World) (hT : Tab w w.heap.size g) (hn : key.length = n) (hs : 64 < n) (hnb : n ≤ 20000) (hr : Rd w w.heap.size A (key.map bv)) (hm : bs.length = m) (hmb : m ≤ 20000) (hr2 : Rd w w.heap.size B (bs.map bv)) :
    Calls Tryd.prog 41 #[.pointer (some ⟨g, 0, none⟩), .slice A n c, .slice B m d] w fun e w' => ∃ v, e = .returned v ∧ Hid (w'.ownsRow w.heap.size 5 1 v 32 ((keyed key bs).map bv) ∧ Below w.heap.size w w') := by
  have HT := Lib.hid hT
  have HN := Lib.hid hn
  have HM := Lib.hid hm
  have HR := Lib.hid hr
  have HR2 := Lib.hid hr2
  clear hT hn hm hr hr2
  have hx36 : ∀ b : UInt8, bits .xor .u8 (b.toNat : Int) 54 = ((b ^^^ 0x36).toNat : Int) := fun b => byte_xor b 0x36
  have hx5c : ∀ b : UInt8, bits .xor .u8 (b.toNat : Int) 92 = ((b ^^^ 0x5c).toNat : Int) := fun b => byte_xor b 0x5c
  have hmk := run_make64
  obtain ⟨Z, HZ⟩ : ∃ Z, Shut (Z = (List.replicate 64 (0 : UInt8)).map bv) := ⟨_, ⟨rfl⟩⟩
  rw [← HZ.out] at hmk
  go_enter Tryd.func41, Tryd.ntmps41
  go_wp2_with fail
  with_reducible refine (rdigest_any g n c A key w HT.out HN.out (by omega) HR.out).mono ?_
  rintro e w0 ⟨v0, rfl, HV0⟩
  obtain ⟨A', c', rfl, _, _, _, hr', _⟩ := own_slice HV0.out.1
  have HBB := Lib.hid HV0.out.2
  have HK := Lib.hid hr'
  have HKL : Hid ((digest key).length = 32) := Lib.hid (digest_length key)
  obtain ⟨Ky, HKy⟩ : ∃ Ky, Shut (Ky = digest key) := ⟨_, ⟨rfl⟩⟩
  have HPK : Shut (padK Ky = padK key) := ⟨by rw [HKy.out]; exact (padK_dig key (by have := HN.out; omega)).symm⟩
  rw [← HKy.out] at HK HKL
  have hs0 : w.heap.size ≤ w0.heap.size := HBB.out.size
  clear HV0 hr' HKy
  obtain ⟨n', hn'⟩ : ∃ n' : Nat, n' = 32 := ⟨_, rfl⟩
  have hn64 : n' ≤ 64 := by omega
  have HKL2 : Hid (Ky.length = n') := Lib.hid (by rw [HKL.out, hn'])
  go_wp2_with fail
  obtain ⟨X1, HX1⟩ : ∃ X1, Shut (X1 = (padK key).map (· ^^^ 0x36)) := ⟨_, ⟨rfl⟩⟩
  obtain ⟨X2, HX2⟩ : ∃ X2, Shut (X2 = (padK key).map (· ^^^ 0x5c)) := ⟨_, ⟨rfl⟩⟩
  have HL1 : Hid (X1.length = 64) := Lib.hid (by rw [HX1.out, List.length_map, padK_length])
  have HL2 : Hid (X2.length = 64) := Lib.hid (by rw [HX2.out, List.length_map, padK_length])
  have HLOW : Shut (∀ k, ∀ hk : k < 32, ∃ b : UInt8, Ky[k]? = some b ∧ X1[k]? = some (b ^^^ 0x36) ∧ X2[k]? = some (b ^^^ 0x5c)) := ⟨fun k hk => by
    have h1 : k < Ky.length := by rw [HKL.out]; exact hk
    have h2 : (padK key)[k]? = Ky[k]? := by rw [← HPK.out]; exact padK_low _ (by rw [HKL.out]; omega) k h1
    refine ⟨Ky[k], List.getElem?_eq_getElem h1, ?_, ?_⟩
    · rw [HX1.out, List.getElem?_map, h2, List.getElem?_eq_getElem h1]; rfl
    · rw [HX2.out, List.getElem?_map, h2, List.getElem?_eq_getElem h1]; rfl⟩
  have HHIGH : Shut (∀ k, 32 ≤ k → k < 64 → X1[k]? = some 0x36 ∧ X2[k]? = some 0x5c) := ⟨fun k hk h64 => by
    have h2 : (padK key)[k]? = some 0 := by rw [← HPK.out]; exact padK_high _ (by rw [HKL.out]; omega) k (by rw [HKL.out]; exact hk) h64
    exact ⟨by rw [HX1.out, List.getElem?_map, h2]; rfl, by rw [HX2.out, List.getElem?_map, h2]; rfl⟩⟩
  have HSET1 : Shut (∀ k b, k < 64 → X1[k]? = some b → (fillL X1 k).set k b = fillL X1 (k + 1)) := ⟨fun k b hk h => fillL_set X1 k HL1.out hk b (by
    rw [List.getElem?_eq_getElem (by rw [HL1.out]; exact hk)] at h
    exact (Option.some.inj h).symm)⟩
  have HSET2 : Shut (∀ k b, k < 64 → X2[k]? = some b → (fillL X2 k).set k b = fillL X2 (k + 1)) := ⟨fun k b hk h => fillL_set X2 k HL2.out hk b (by
    rw [List.getElem?_eq_getElem (by rw [HL2.out]; exact hk)] at h
    exact (Option.some.inj h).symm)⟩
  have HKEY : Shut ((padK key).map (· ^^^ 0x36) = X1 ∧ (padK key).map (· ^^^ 0x5c) = X2) := ⟨HX1.out.symm, HX2.out.symm⟩
  clear HX1 HX2 HPK
  go_region
  all_goals
    have HW1 : Shut (Row ((w0.alloc (Obj.cells Z.toArray 5)).alloc (Obj.cells Z.toArray 5)).drew w0.heap.size 5 ((fillL X1 0).map bv) ∧ Row ((w0.alloc (Obj.cells Z.toArray 5)).alloc (Obj.cells Z.toArray 5)).drew (w0.heap.size + 1) 5 ((fillL X1 0).map bv) ∧ Below w0.heap.size w0 ((w0.alloc (Obj.cells Z.toArray 5)).alloc (Obj.cells Z.toArray 5)).drew) := ⟨by
      have h1 := (Row.new w0 Z 5).alloc (Obj.cells Z.toArray 5)
      have h2 := Row.new (w0.alloc (Obj.cells Z.toArray 5)) Z 5
      have h3 := ((below_alloc w0 (Obj.cells Z.toArray 5)).alloc (by simp) (Obj.cells Z.toArray 5)).drew
      have e : (w0.alloc (Obj.cells Z.toArray 5)).heap.size = w0.heap.size + 1 := by simp
      rw [e] at h2
      rw [fillL_zero, ← HZ.out]
      exact ⟨h1, h2, h3⟩⟩
    have HF2 : Shut (fillL X1 0 = fillL X2 0) := ⟨by rw [fillL_zero, fillL_zero]⟩
    generalize ((w0.alloc (Obj.cells Z.toArray 5)).alloc (Obj.cells Z.toArray 5)).drew = w1 at *
  have HW2 : Shut (Row w1 w0.heap.size 5 ((fillL X1 0).map bv) ∧ Row w1 (w0.heap.size + 1) 5 ((fillL X2 0).map bv) ∧ Below w0.heap.size w0 w1 ∧ w0.heap.size ≠ w0.heap.size + 1 ∧ w0.heap.size ≤ w0.heap.size ∧ w0.heap.size ≤ w0.heap.size + 1) := ⟨HW1.out.1, by rw [← HF2.out]; exact HW1.out.2.1, HW1.out.2.2, by omega, by omega, by omega⟩
  obtain ⟨go, hgo⟩ : ∃ go, w0.heap.size + 1 = go := ⟨_, rfl⟩
  rw [hgo] at HW2 ⊢
  obtain ⟨gi, hgi⟩ : ∃ gi, w0.heap.size = gi := ⟨_, rfl⟩
  have HW3 : Shut (Row w1 gi 5 ((fillL X1 0).map bv) ∧ Row w1 go 5 ((fillL X2 0).map bv) ∧ Below w0.heap.size w0 w1 ∧ gi ≠ go ∧ w0.heap.size ≤ gi ∧ w0.heap.size ≤ go) := ⟨by rw [← hgi]; exact HW2.out⟩
  rw [hgi]
  rotate_left
  have HW2 : Shut (Row w1 (w0.heap.size + 1) 5 ((fillL X1 0).map bv) ∧ Row w1 w0.heap.size 5 ((fillL X2 0).map bv) ∧ Below w0.heap.size w0 w1 ∧ w0.heap.size + 1 ≠ w0.heap.size ∧ w0.heap.size ≤ w0.heap.size + 1 ∧ w0.heap.size ≤ w0.heap.size) := ⟨HW1.out.2.1, by rw [← HF2.out]; exact HW1.out.1, HW1.out.2.2, by omega, by omega, by omega⟩
  obtain ⟨gi, hgi⟩ : ∃ gi, w0.heap.size + 1 = gi := ⟨_, rfl⟩
  rw [hgi] at HW2 ⊢
  obtain ⟨go, hgo⟩ : ∃ go, w0.heap.size = go := ⟨_, rfl⟩
  have HW3 : Shut (Row w1 gi 5 ((fillL X1 0).map bv) ∧ Row w1 go 5 ((fillL X2 0).map bv) ∧ Below w0.heap.size w0 w1 ∧ gi ≠ go ∧ w0.heap.size ≤ gi ∧ w0.heap.size ≤ go) := ⟨by rw [← hgo]; exact HW2.out⟩
  rw [hgo]
  rotate_left
  all_goals
    clear hgi hgo HW1 HW2 HF2 hmk HZ
    have hne : gi ≠ go := HW3.out.2.2.2.1
    have hgi : w0.heap.size ≤ gi := HW3.out.2.2.2.2.1
    have hgo : w0.heap.size ≤ go := HW3.out.2.2.2.2.2
    go_wp2_with fail
    go_loopw [21] (fun i W => ∃ k : Nat, k ≤ 64 ∧ i = .int .i64 k ∧ Shut (Row W gi 5 ((fillL X1 k).map bv) ∧ Row W go 5 ((fillL X2 k).map bv) ∧ Below w0.heap.size w0 W)) (fun i _ => 64 - (intOf i).toNat)
    case atStart => exact ⟨0, Nat.zero_le _, rfl, ⟨HW3.out.1, HW3.out.2.1, HW3.out.2.2.1⟩⟩
    case round =>
      clear HW3
      obtain ⟨k, hk, rfl, HI⟩ := hrel
      have fr1 : ∀ v, (wr.setCell ⟨gi, k, none⟩ v).frozen? ⟨go, k, none⟩ = false := fun v => (HI.out.2.1.setOther ⟨gi, k, none⟩ (fun e => hne e.symm) v).frozen k
      have fr2 : wr.frozen? ⟨gi, k, none⟩ = false := HI.out.1.frozen k
      have fr3 : wr.frozen? ⟨go, k, none⟩ = false := HI.out.2.1.frozen k
      by_cases hlt : k < 64
      · obtain ⟨x1, cx1⟩ : ∃ x, wr.cell? ⟨gi, k, none⟩ = some x := ⟨_, (HI.out.1.cell k).trans (List.getElem?_eq_getElem (by rw [List.length_map, fillL_length X1 k HL1.out hk]; exact hlt))⟩
        obtain ⟨x2, cx2⟩ : ∃ x, wr.cell? ⟨go, k, none⟩ = some x := ⟨_, (HI.out.2.1.cell k).trans (List.getElem?_eq_getElem (by rw [List.length_map, fillL_length X2 k HL2.out hk]; exact hlt))⟩
        by_cases hkn : k < 32
        · obtain ⟨b, hb1, hb2, hb3⟩ := HLOW.out k hkn
          obtain ⟨ad, rfl, _, hcb⟩ := ((HK.out).below HI.out.2.2).cell (k := k) (u := bv b) (by rw [List.getElem?_map, hb1]; rfl)
          unfold bv at hcb
          have HX1 : Shut ((fillL X1 k).set k (b ^^^ 0x36) = fillL X1 (k + 1)) := ⟨HSET1.out k _ hlt hb2⟩
          have HX2 : Shut ((fillL X2 k).set k (b ^^^ 0x5c) = fillL X2 (k + 1)) := ⟨HSET2.out k _ hlt hb3⟩
          clear hb1 hb2 hb3
          go_wp2_with fail
          refine ⟨⟨k + 1, by omega, by go_num, ⟨?_, ?_, ?_⟩⟩, by simp [intOf]; omega⟩
          · have h1 := (HI.out.1.set k (bv (b ^^^ 0x36))).setOther ⟨go, k, none⟩ hne (bv (b ^^^ 0x5c))
            rw [← List.map_set, HX1.out] at h1
            exact h1
          · have h1 := (HI.out.2.1.setOther ⟨gi, k, none⟩ (fun e => hne e.symm) (bv (b ^^^ 0x36))).set k (bv (b ^^^ 0x5c))
            rw [← List.map_set, HX2.out] at h1
            exact h1
          · exact (HI.out.2.2.setCell (p := ⟨gi, k, none⟩) hgi _).setCell (p := ⟨go, k, none⟩) hgo _
        · have HX1 : Shut ((fillL X1 k).set k 0x36 = fillL X1 (k + 1)) := ⟨HSET1.out k _ hlt (HHIGH.out k (by omega) hlt).1⟩
          have HX2 : Shut ((fillL X2 k).set k 0x5c = fillL X2 (k + 1)) := ⟨HSET2.out k _ hlt (HHIGH.out k (by omega) hlt).2⟩
          go_wp2_with fail
          refine ⟨⟨k + 1, by omega, by go_num, ⟨?_, ?_, ?_⟩⟩, by simp [intOf]; omega⟩
          · have h1 := (HI.out.1.set k (bv 0x36)).setOther ⟨go, k, none⟩ hne (bv 0x5c)
            rw [← List.map_set, HX1.out] at h1
            exact h1
          · have h1 := (HI.out.2.1.setOther ⟨gi, k, none⟩ (fun e => hne e.symm) (bv 0x36)).set k (bv 0x5c)
            rw [← List.map_set, HX2.out] at h1
            exact h1
          · exact (HI.out.2.2.setCell (p := ⟨gi, k, none⟩) hgi _).setCell (p := ⟨go, k, none⟩) hgo _
      · have HJ : Shut (Row wr gi 5 (X1.map bv) ∧ Row wr go 5 (X2.map bv) ∧ Below w0.heap.size w0 wr) := ⟨by
          have h1 := HI.out
          rw [fillL_all X1 k HL1.out (by omega), fillL_all X2 k HL2.out (by omega)] at h1
          exact h1⟩
        have HB1 := Lib.hid (HBB.out.trans (HJ.out.2.2.mono HBB.out.size))
        have HO1 := Lib.hid (own_row (base := w0.heap.size) HJ.out.1 hgi (by rw [List.length_map, HL1.out]) (by decide))
        have hsz1 : w.heap.size ≤ wr.heap.size := HB1.out.size
        have hsz0 : w0.heap.size ≤ wr.heap.size := HJ.out.2.2.size
        have hgol : go < wr.heap.size := HJ.out.2.1.lt
        clear HI fr1 fr2 fr3
        go_wp2_with (first
          | (refine wl_append rfl (.tmp 46) (.tmp 47) rfl w0.heap.size (.slice (some ⟨gi, 0, none⟩) 64 64) 64 (X1.map bv) rfl HO1.out w.heap.size B m d bs rfl HM.out (HR2.out.below HB1.out) (by omega) hsz0 ?_
             intro v3 w3 HA3))
        have HS3 : Shut (w3.ownsRow w0.heap.size 5 1 v3 (64 + m) ((X1 ++ bs).map bv) ∧ Row w3 go 5 (X2.map bv) ∧ Below w.heap.size w w3) := ⟨by
          have h1 := HA3.out.1
          rw [← List.map_append] at h1
          refine ⟨h1, grown_row HJ.out.2.1 HA3.out.2 (fun e => hne (Option.some.inj e)), ?_⟩
          exact HB1.out.grown HA3.out.2 HB1.out.size (fun j hj => by have e : gi = j := Option.some.inj hj; omega)⟩
        obtain ⟨A3, c3, rfl, hl3, _, _, hr3, _⟩ := own_slice HS3.out.1
        have HR3 := Lib.hid hr3
        have HL3 := Lib.hid hl3
        have hgo3 : go < w3.heap.size := HS3.out.2.1.lt
        clear HA3 hr3 hl3
        with_reducible refine (rdigest_any g (64 + m) c3 A3 (X1 ++ bs) w3 ((HT.out.below HS3.out.2.2).more HS3.out.2.2.size) HL3.out (by omega) HR3.out).mono ?_
        rintro e w4 ⟨v4, rfl, HV4⟩
        obtain ⟨A4, c4, rfl, hl4, _, _, hr4, _⟩ := own_slice HV4.out.1
        have HR4 := Lib.hid hr4
        have HL4 := Lib.hid hl4
        have HS4 : Shut (Row w4 go 5 (X2.map bv) ∧ Below w.heap.size w w4) := ⟨HS3.out.2.1.below HV4.out.2 hgo3, HS3.out.2.2.trans (HV4.out.2.mono HS3.out.2.2.size)⟩
        have hsz4 : w.heap.size ≤ w4.heap.size := HS4.out.2.size
        have hsz5 : w3.heap.size ≤ w4.heap.size := HV4.out.2.size
        have HO2 := Lib.hid (own_row (base := w0.heap.size) HS4.out.1 hgo (by rw [List.length_map, HL2.out]) (by decide))
        clear hr4 hl4 HV4 HS3
        go_wp2_with (first
          | (refine wl_append rfl (.tmp 44) (.tmp 49) rfl w0.heap.size (.slice (some ⟨go, 0, none⟩) 64 64) 64 (X2.map bv) rfl HO2.out w4.heap.size A4 32 c4 (digest (X1 ++ bs)) rfl HL4.out HR4.out (by omega) (by omega) ?_
             intro v5 w5 HA5))
        have HS5 : Shut (w5.ownsRow w0.heap.size 5 1 v5 96 ((X2 ++ digest (X1 ++ bs)).map bv) ∧ Below w.heap.size w w5) := ⟨by
          have h1 := HA5.out.1
          rw [← List.map_append] at h1
          exact ⟨h1, HS4.out.2.grown HA5.out.2 hsz4 (fun j hj => by have e : go = j := Option.some.inj hj; omega)⟩⟩
        obtain ⟨A5, c5, rfl, hl5, _, _, hr5, _⟩ := own_slice HS5.out.1
        have HR5 := Lib.hid hr5
        have HL5 := Lib.hid hl5
        clear HA5 hr5 hl5
        with_reducible refine (rdigest_any g 96 c5 A5 (X2 ++ digest (X1 ++ bs)) w5 ((HT.out.below HS5.out.2).more HS5.out.2.size) HL5.out (by omega) HR5.out).mono ?_
        rintro e w6 ⟨v6, rfl, HV6⟩
        go_wp2_with fail
        go_ret
        refine ⟨_, rfl, Lib.hid ⟨?_, HS5.out.2.trans (HV6.out.2.mono HS5.out.2.size)⟩⟩
        unfold keyed
        rw [HKEY.out.1, HKEY.out.2]
        exact own_base HV6.out.1 HS5.out.2.size

theorem rkeyed_any (g n c m d : Nat) (A B : Option Addr) (key bs : List UInt8) (w : World) (hT : Tab w w.heap.size g) (hn : key.length = n) (hnb : n ≤ 20000) (hr : Rd w w.heap.size A (key.map bv)) (hm : bs.length = m) (hmb : m ≤ 20000) (hr2 : Rd w w.heap.size B (bs.map bv)) :
    Calls Tryd.prog 41 #[.pointer (some ⟨g, 0, none⟩), .slice A n c, .slice B m d] w fun e w' => ∃ v, e = .returned v ∧ Hid (w'.ownsRow w.heap.size 5 1 v 32 ((keyed key bs).map bv) ∧ Below w.heap.size w w') := by
  by_cases h : 64 < n
  · exact rkeyed_long g n c m d A B key bs w hT hn h hnb hr hm hmb hr2
  · exact rkeyed_short g n c m d A B key bs w hT hn (by omega) hnb hr hm hmb hr2
end Go.Proofs.YtchnbknbccpmcaaDoor.H

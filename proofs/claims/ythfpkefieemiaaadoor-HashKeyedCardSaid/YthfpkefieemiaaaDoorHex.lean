/- What hash.Hex and hash.Alike answer. -/
import Derived.Test.YthfpkefieemiaaaDoorKeyed
namespace Go.Proofs.YthfpkefieemiaaaDoor
open Go.RowKit

theorem step_append_at {ops : Array Oper} {o : Oper} {a : Act} {w : World} {K : Act → World → Prop} {Q : Exit → Act → World → Prop} {E : Prop} (hgd : o.guard = none) (t x : Operand)
    (ho : o.op = .call { callee := .builtin .append, args := #[t, x], argTypes := #[25, 25] }) (base : Nat) (v : Value) (n : Nat) (xs : List Value) (hs : a.eval t = v) (hown : w.ownsRow base 5 1 v n xs)
    (ad : Addr) (m c : Nat) (cs : List Value) (hx : a.eval x = .slice (some ad) m c) (hm : cs.length = m) (hc : ∀ (j : Nat) (u : Value), cs[j]? = some u → w.cell? (ad.add j) = some u) (h1 : ∀ u ∈ cs, u.oneCell' = true)
    (hb : n + m ≤ 140737488355328) (hbase : base ≤ w.heap.size)
    (h : ∀ v' w', Hid (w'.ownsRow base 5 1 v' (n + m) (xs ++ cs) ∧ w.grownBy w' v.ownBlock) → K (a.put o.dst v') w') :
    if Region.wanted o (yielded ops a.tmps) = true then Oper.wp Tryd.prog o a w K Q else E := by
  have hw : Region.wanted o (yielded ops a.tmps) = true := by simp [Region.wanted, hgd]
  rw [if_pos hw]
  obtain ⟨i0, hi0, hz0, hz1, hz2⟩ := info_parts' u8_info
  obtain ⟨v', w', hrun, h2, h3, _, _⟩ := run_append_own_at (P := Tryd.prog) w base 25 o.type 5 i0 _ 1 1 Tryd.underlying25 hi0 hz0 hz1 hz2 rfl (by omega) v n xs hown ad m c cs (by omega) hc h1 (by simp only [maxLen]; omega) (by omega) hbase
  unfold Oper.wp execOp
  simp only [ho, resolve, invoke, builtin, Sem.run_bind, Sem.run_pure, Result.andThen_ok, List.map_toArray, List.map_cons, List.map_nil, hs, hx, hrun]
  exact h v' w' ⟨h2, h3⟩

def digL : List UInt8 := [48, 49, 50, 51, 52, 53, 54, 55, 56, 57, 97, 98, 99, 100, 101, 102]
def hexOf (b : UInt8) : List UInt8 := [digL.getD (b.toNat / 16) 0, digL.getD (b.toNat % 16) 0]
def hexS (bs : List UInt8) : List UInt8 := bs.flatMap hexOf
theorem hexS_length (bs : List UInt8) : (hexS bs).length = 2 * bs.length := by
  induction bs with
  | nil => rfl
  | cons b bs ih => show (hexOf b ++ hexS bs).length = _; rw [List.length_append, ih]; show 2 + _ = _; rw [List.length_cons]; omega
theorem hexS_append (a b : List UInt8) : hexS (a ++ b) = hexS a ++ hexS b := by simp [hexS]
theorem hexS_take (bs : List UInt8) (k : Nat) (h : k < bs.length) : hexS (bs.take (k + 1)) = hexS (bs.take k) ++ hexOf bs[k] := by
  rw [List.take_succ_eq_append_getElem h, hexS_append]
  simp [hexS]
theorem nib (b : UInt8) : bits .and .u8 (b.toNat : Int) 15 = (b.toNat : Int) % 16 := by
  rw [show (15 : Int) = ((15 : Nat) : Int) from rfl, u8_and_nat _ _ b.toNat_lt (by decide), show (15 : Nat) = 2 ^ 4 - 1 from rfl, Nat.and_two_pow_sub_one_eq_mod]
  omega
theorem digit_at (i : Nat) (h : i < 16) (pf : i < (ByteArray.mk #[48, 49, 50, 51, 52, 53, 54, 55, 56, 57, 97, 98, 99, 100, 101, 102]).size) : (ByteArray.mk #[48, 49, 50, 51, 52, 53, 54, 55, 56, 57, 97, 98, 99, 100, 101, 102])[i] = digL.getD i 0 := by
  have key : ∀ j : _root_.Fin 16, (ByteArray.mk #[48, 49, 50, 51, 52, 53, 54, 55, 56, 57, 97, 98, 99, 100, 101, 102])[j.val]'(by have := j.isLt; exact this) = digL.getD j.val 0 := by decide
  exact key ⟨i, h⟩
theorem digit_hi (b : UInt8) (pf : ((b.toNat : Int) / 16).toNat < (ByteArray.mk #[48, 49, 50, 51, 52, 53, 54, 55, 56, 57, 97, 98, 99, 100, 101, 102]).size) :
    Value.int .u8 (((ByteArray.mk #[48, 49, 50, 51, 52, 53, 54, 55, 56, 57, 97, 98, 99, 100, 101, 102])[((b.toNat : Int) / 16).toNat]'pf).toNat : Int) = bv (digL.getD (b.toNat / 16) 0) := by
  have hb := b.toNat_lt
  have e : ((b.toNat : Int) / 16).toNat = b.toNat / 16 := by omega
  unfold bv
  congr 2
  rw [digit_at _ (by omega), e]
theorem digit_lo (b : UInt8) (pf : ((b.toNat : Int) % 16).toNat < (ByteArray.mk #[48, 49, 50, 51, 52, 53, 54, 55, 56, 57, 97, 98, 99, 100, 101, 102]).size) :
    Value.int .u8 (((ByteArray.mk #[48, 49, 50, 51, 52, 53, 54, 55, 56, 57, 97, 98, 99, 100, 101, 102])[((b.toNat : Int) % 16).toNat]'pf).toNat : Int) = bv (digL.getD (b.toNat % 16) 0) := by
  have hb := b.toNat_lt
  have e : ((b.toNat : Int) % 16).toNat = b.toNat % 16 := by omega
  unfold bv
  congr 2
  rw [digit_at _ (by omega), e]

set_option maxHeartbeats 400000 in
theorem hex_any (n c : Nat) (A : Option Addr) (bs : List UInt8) (w : World) (hn : bs.length = n) (hbig : n ≤ 70368744177664) (hr : Rd w w.heap.size A (bs.map bv)) :
    Calls Tryd.prog 22 #[.slice A n c] w fun e w' => e = .returned (.string ⟨(hexS bs).toArray⟩) ∧ Hid (Below w.heap.size w w') := by
  obtain ⟨i0, hi0, hz0, hz1, hz2⟩ := info_parts' u8_info
  have HI := Lib.hid (And.intro hi0 (And.intro hz0 (And.intro hz1 hz2)))
  clear hi0 hz0 hz1 hz2
  have HN := Lib.hid hn
  have HR := Lib.hid hr
  clear hn hr
  go_enter Tryd.func22, Tryd.ntmps22
  go_wp2_with (first
    | (refine wpList_make_own _ rfl _ _ 25 rfl w.heap.size 5 i0 _ 1 Tryd.underlying25 HI.out.1 HI.out.2.1 HI.out.2.2.1 .i64 .i64 _ (2 * n) rfl rfl (by omega) (by rw [HI.out.2.2.2]; omega) (by simp only [maxLen]; omega) (Nat.le_refl _) ?_
       intro w2 hown2 hg2
       have HO2 := Lib.hid hown2
       have HB2 := Lib.hid (below_none hg2)
       clear hown2 hg2))
  go_loopw [3, 12] (fun v i W => ∃ k : Nat, k ≤ n ∧ i = .int .i64 k ∧ Shut (W.ownsRow w.heap.size 5 1 v (2 * k) ((hexS (bs.take k)).map bv) ∧ Below w.heap.size w W)) (fun _ i _ => n - (intOf i).toNat)
  case atStart => exact ⟨0, Nat.zero_le _, rfl, ⟨HO2.out, HB2.out⟩⟩
  case round =>
    obtain ⟨k, hk, rfl, HS⟩ := hrel
    by_cases hlt : k < n
    · have hk2 : k < bs.length := by rw [HN.out]; exact hlt
      obtain ⟨ad, rfl, _, hcl⟩ := (HR.out.below HS.out.2).cell (k := k) (u := bv bs[k]) (by simp [hk2])
      have htk := hexS_take bs k hk2
      generalize bs[k] = b at *
      unfold bv at hcl
      have HTK := Lib.hid htk
      clear htk
      have hb := b.toNat_lt
      have hnb := nib b
      have p1 : (0 : Int) ≤ (b.toNat : Int) / 16 := by omega
      have p2 : (b.toNat : Int) / 16 < 16 := by omega
      have p3 : (0 : Int) ≤ (b.toNat : Int) % 16 := by omega
      have p4 : (b.toNat : Int) % 16 < 16 := by omega
      have hszW : w.heap.size ≤ wr.heap.size := HS.out.2.size
      go_wp2_with fail
      have HOD : Hid (wr.drew.ownsRow w.heap.size 5 1 u3 (2 * k) ((hexS (bs.take k)).map bv)) := Lib.hid HS.out.1.drew
      go_region_law (refine step_append_at rfl (.tmp 16) (.tmp 23) rfl w.heap.size u3 (2 * k) ((hexS (bs.take k)).map bv) rfl (HOD.out.alloc _) ⟨wr.heap.size, 0, none⟩ 2 2 [_, _] rfl rfl (cells_new wr.drew _ 5) (by simp [Value.oneCell']) (by omega) (by simp; omega) ?_; intro v3 w3 HA3)
      all_goals
        have HA4 : Shut (w3.ownsRow w.heap.size 5 1 v3 (2 * (k + 1)) ((hexS (bs.take (k + 1))).map bv) ∧ Below w.heap.size w w3) := ⟨by
          have h1 := HA3.out.1
          rw [digit_hi, digit_lo] at h1
          refine ⟨by rw [HTK.out, List.map_append]; exact h1, ?_⟩
          have hb1 := HS.out.2.drew.alloc (by exact hszW) (.cells #[bv (digL.getD (b.toNat / 16) 0), bv (digL.getD (b.toNat % 16) 0)] 5)
          have h2 := HA3.out.2
          simp only [digit_hi, digit_lo] at h2
          exact hb1.grown h2 (Nat.le_trans hszW (by simp)) (fun j hj => (HS.out.1.lt j hj).1)⟩
        clear HA3 HOD
        go_wp2_with fail
        exact ⟨⟨k + 1, by omega, by go_num, HA4⟩, by simp [intOf]; omega⟩
    · have hown := HS.out.1
      rw [List.take_of_length_le (by rw [HN.out]; omega)] at hown
      obtain ⟨A9, c9, rfl, hl9, _, _, hr9, _⟩ := own_slice hown
      have hst := hr9.toStr (2 * k) c9 hl9
      have HB := Lib.hid HS.out.2
      clear hown hl9 hr9 HS
      go_wp2_with fail
      go_ret
      exact ⟨rfl, HB⟩

theorem or_zero (x y : UInt8) : x ||| y = 0 ↔ x = 0 ∧ y = 0 := by
  constructor
  · intro h
    have h1 : x.toNat ||| y.toNat = 0 := by rw [← UInt8.toNat_or, h]; rfl
    have h2 := Nat.or_eq_zero_iff.1 h1
    exact ⟨UInt8.toNat_inj.1 h2.1, UInt8.toNat_inj.1 h2.2⟩
  · rintro ⟨rfl, rfl⟩; rfl
theorem xor_zero (x y : UInt8) : x ^^^ y = 0 ↔ x = y := by
  constructor
  · intro h
    have h1 : (x ^^^ y) ^^^ y = x := by rw [UInt8.xor_assoc, UInt8.xor_self, UInt8.xor_zero]
    rw [h, UInt8.zero_xor] at h1
    exact h1.symm
  · rintro rfl; simp
theorem byte_or (b m : UInt8) : bits .or .u8 (b.toNat : Int) (m.toNat : Int) = ((b ||| m).toNat : Int) := by
  rw [u8_or_nat _ _ b.toNat_lt m.toNat_lt, UInt8.toNat_or]
theorem take_eq_succ (a b : List UInt8) (k : Nat) (ha : k < a.length) (hb : k < b.length) : a.take (k + 1) = b.take (k + 1) ↔ a.take k = b.take k ∧ a[k] = b[k] := by
  rw [List.take_succ_eq_append_getElem ha, List.take_succ_eq_append_getElem hb]
  constructor
  · intro h
    have h1 := List.append_inj h (by simp; omega)
    exact ⟨h1.1, by simpa using h1.2⟩
  · rintro ⟨h1, h2⟩; rw [h1, h2]
/-- Are the bytes the same? -/
def sameB (a b : List UInt8) : Bool := decide (a = b)

set_option maxHeartbeats 400000 in
theorem alike_any (n m c d : Nat) (A B : Option Addr) (xs ys : List UInt8) (w : World) (hn : xs.length = n) (hm : ys.length = m) (hnm : n ≤ 9223372036854775807) (hr : Rd w w.heap.size A (xs.map bv)) (hr2 : Rd w w.heap.size B (ys.map bv)) :
    Calls Tryd.prog 21 #[.slice A n c, .slice B m d] w fun e w' => e = .returned (.bool (sameB xs ys)) ∧ ∃ q, w' = w.drewN q := by
  have HN := Lib.hid hn
  have HM := Lib.hid hm
  have HR := Lib.hid hr
  have HR2 := Lib.hid hr2
  clear hn hm hr hr2
  have hor := byte_or
  have hxo := byte_xor
  go_enter Tryd.func21, Tryd.ntmps21
  by_cases hne : n = m
  · subst hne
    go_wp2_with fail
    go_loopw [5, 14] (fun v i W => ∃ (k : Nat) (x : UInt8), k ≤ n ∧ i = .int .i64 k ∧ v = .int .u8 (x.toNat : Int) ∧ Shut ((x = 0 ↔ xs.take k = ys.take k) ∧ ∃ q, W = w.drewN q)) (fun _ i _ => n - (intOf i).toNat)
    case atStart => exact ⟨0, 0, Nat.zero_le _, rfl, rfl, ⟨by simp, 0, rfl⟩⟩
    case round =>
      obtain ⟨k, x, hk, rfl, rfl, HS⟩ := hrel
      by_cases hlt : k < n
      · have h1 : k < xs.length := by rw [HN.out]; exact hlt
        have h2 : k < ys.length := by rw [HM.out]; exact hlt
        obtain ⟨ad, rfl, _, hc1⟩ := HR.out.cell (k := k) (u := bv xs[k]) (by simp [h1])
        obtain ⟨ae, rfl, _, hc2⟩ := HR2.out.cell (k := k) (u := bv ys[k]) (by simp [h2])
        have hts := take_eq_succ xs ys k h1 h2
        generalize xs[k] = a at *
        generalize ys[k] = b at *
        unfold bv at hc1 hc2
        have hd1 : wr.cell? (ad.add k) = some (.int .u8 (a.toNat : Int)) := by obtain ⟨q, hq⟩ := HS.out.2; rw [hq]; exact hc1
        have hd2 : wr.cell? (ae.add k) = some (.int .u8 (b.toNat : Int)) := by obtain ⟨q, hq⟩ := HS.out.2; rw [hq]; exact hc2
        have HTS := Lib.hid hts
        have hki : (k : Int) < (n : Int) := by omega
        clear hts hc1 hc2
        go_wp2_with fail
        go_quiet (fail)
        go_wp2_with fail
        refine ⟨⟨k + 1, x ||| (a ^^^ b), by omega, by go_num, by rw [← UInt8.toNat_xor, byte_or], ⟨?_, ?_⟩⟩, by simp [intOf]; omega⟩
        · rw [or_zero, xor_zero, HTS.out, HS.out.1]
        · obtain ⟨q, hq⟩ := HS.out.2
          exact ⟨q + nq, by rw [hq]; simp [World.drewN, Nat.add_assoc]⟩
      · have hx : (x = 0 ↔ xs = ys) := by
          have h1 := HS.out.1
          rwa [List.take_of_length_le (by rw [HN.out]; omega), List.take_of_length_le (by rw [HM.out]; omega)] at h1
        have HQ := Lib.hid HS.out.2
        by_cases heq : xs = ys
        · have h0 : x = 0 := hx.2 heq
          subst h0
          have hsb : Hid (sameB xs ys = true) := Lib.hid (by simp [sameB, heq])
          clear hx heq HS
          go_wp2_with fail
          go_ret
          exact ⟨ret_bool (by rw [hsb.out]), HQ.out⟩
        · have h0 : x ≠ 0 := fun e => heq (hx.1 e)
          have h1 : ((x.toNat : Int) == 0) = false := by
            have : x.toNat ≠ 0 := fun e => h0 (UInt8.toNat_inj.1 e)
            simp; omega
          have hsb : Hid (sameB xs ys = false) := Lib.hid (by simp [sameB, heq])
          clear hx heq HS h0
          go_wp2_with fail
          go_ret
          exact ⟨ret_bool (by rw [hsb.out]), HQ.out⟩
  · have hsb : Hid (sameB xs ys = false) := Lib.hid (by
      unfold sameB
      rw [decide_eq_false_iff_not]
      intro e
      rw [e] at HN
      exact hne (HN.out.symm.trans HM.out))
    have h1 : ((n : Int) == (m : Int)) = false := by simp; omega
    have h2 : ((n : Int) != (m : Int)) = true := by simp; omega
    go_wp2_with fail
    go_ret
    exact ⟨ret_bool (by rw [hsb.out]), 0, rfl⟩
end Go.Proofs.YthfpkefieemiaaaDoor

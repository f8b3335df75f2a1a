/- bytes.Equal; frame.sealed of bytes without room behind them. -/
import Derived.Test.YtlmdafldggbiaaaDoorAlive
import Derived.Room.Entries
namespace Go.Proofs.YtlmdafldggbiaaaDoor
open Go.RowKit
open Go.Proofs.YtlmdafldggbiaaaDoor.H

theorem bytes_eq (a b : List UInt8) : (ByteArray.mk a.toArray = ByteArray.mk b.toArray) ↔ a = b := by
  constructor
  · intro h
    injection h with h
    simpa using congrArg Array.toList h
  · rintro rfl; rfl
set_option maxRecDepth 100000 in
theorem equal_same (n c d : Nat) (A B : Option Addr) (bs : List UInt8) (w : World) (hn : bs.length = n) (hr : Rd w w.heap.size A (bs.map bv)) (hr2 : Rd w w.heap.size B (bs.map bv)) :
    Calls Tryd.prog 37 #[.slice A n c, .slice B n d] w fun e w' => e = .returned (.bool true) ∧ w = w' := by
  have h1 := Rd.toStr hr n c hn
  have h2 := Rd.toStr hr2 n d hn
  generalize ByteArray.mk bs.toArray = s at *
  go_enter Tryd.func37, Tryd.ntmps37
  go_wp2_with fail
  go_ret
  exact ⟨rfl, rfl⟩
set_option maxRecDepth 100000 in
theorem equal_other (n m c d : Nat) (A B : Option Addr) (bs cs : List UInt8) (w : World) (hn : bs.length = n) (hm : cs.length = m) (hr : Rd w w.heap.size A (bs.map bv)) (hr2 : Rd w w.heap.size B (cs.map bv)) (hne : bs ≠ cs) :
    Calls Tryd.prog 37 #[.slice A n c, .slice B m d] w fun e w' => e = .returned (.bool false) ∧ w = w' := by
  have h1 := Rd.toStr hr n c hn
  have h2 := Rd.toStr hr2 m d hm
  go_enter Tryd.func37, Tryd.ntmps37
  go_wp2_with fail
  go_ret
  exact ⟨ret_bool (by simp [hne]), rfl⟩

theorem add_block (ad : Addr) (j : Nat) : (ad.add j).block = ad.block := by unfold Addr.add; split <;> rfl
set_option maxRecDepth 100000 in
/-- Bytes appended to a slice with no room behind: a new row. -/
theorem wl_fresh {w : World} {ops : Array Oper} {rest : List Oper} {o : Oper} {a : Act} {Q : Exit → Act → World → Prop} (hgd : o.guard = none) (t x : Operand)
    (ho : o.op = .call { callee := .builtin .append, args := #[t, x], argTypes := #[23, 23] }) (b : Addr) (n : Nat) (olds : List UInt8) (hs : a.eval t = .slice (some b) n n) (hl : olds.length = n) (holds : ∀ (j : Nat) (u : Value), (olds.map bv)[j]? = some u → w.cell? (b.add j) = some u)
    (ad : Addr) (m c : Nat) (news : List UInt8) (hx : a.eval x = .slice (some ad) m c) (hm : news.length = m) (hnews : ∀ (j : Nat) (u : Value), (news.map bv)[j]? = some u → w.cell? (ad.add j) = some u) (hm0 : 0 < m) (hb : n + m ≤ 1000000)
    (h : ∀ c' w', Hid (n + m ≤ c' ∧ c' ≤ 9223372036854775807 ∧ w'.ownsRow w.heap.size 5 1 (.slice (some ⟨w.heap.size, 0, none⟩) (n + m) c') (n + m) ((olds ++ news).map bv) ∧ Below w.heap.size w w') → wpList Tryd.prog ops Q rest (a.put o.dst (.slice (some ⟨w.heap.size, 0, none⟩) (n + m) c')) w') : wpList Tryd.prog ops Q (o :: rest) a w := by
  refine wpList_plain hgd fun K hK => ?_
  obtain ⟨i0, hi0, hz0, hz1, hz2⟩ := info_parts' u8_info
  have hcap := Go.Room.nextslicecap_le' (need := n + m) (old := n) (by omega)
  have hr := run_append_grow (P := Tryd.prog) w 23 o.type 5 i0 _ Tryd.underlying23 hi0 hz0 b n n (olds.map bv) (by rw [hz1]; simpa using hl) holds ad m c (news.map bv) (by rw [hz1]; simpa using hm) hnews (by omega) (by omega) (by rw [hz2]; omega)
  have hgc : n + m ≤ grownCap w (n + m) n 5 ∧ grownCap w (n + m) n 5 ≤ 9223372036854775807 := ⟨grownCap_ge w _ _ _, grownCap_le_maxLen w _ _ _ (by have e : maxLen = 9223372036854775807 := rfl; rw [e]; omega)⟩
  unfold Oper.wp execOp
  simp only [ho, resolve, invoke, builtin, Sem.run_bind, Sem.run_pure, Result.andThen_ok, List.map_toArray, List.map_cons, List.map_nil, hs, hx, hr]
  refine hK _ _ (h _ _ (Lib.hid ⟨hgc.1, hgc.2, ?_, (Below.refl _ _).drew.alloc (Nat.le_refl _) _⟩))
  refine ⟨by simp [hl, hm], .inr ⟨w.heap.size, _, _, rfl, Nat.le_refl _, heap_alloc_last w.drew _, hgc.1, hgc.2, ?_, ?_⟩⟩
  · rw [Array.size_append, Array.size_append, size_zeroCells]
    simp [hl, hm, Value.cells]
    omega
  · rw [Nat.mul_one]
    simp only [Array.toList_append]
    rw [← List.map_append, List.take_append_of_le_length (by simp [hl, hm]), List.take_of_length_le (by simp [hl, hm])]

set_option maxRecDepth 100000 in
set_option maxHeartbeats 1000000 in
theorem sealed_new (n : Nat) (b : Addr) (bs : List UInt8) (w : World) (hK : Ktab w) (hn : bs.length = n) (hs : n ≤ 900000) (hr : Rd w w.heap.size (some b) (bs.map bv)) (hc : ∀ (j : Nat) (u : Value), (bs.map bv)[j]? = some u → w.cell? (b.add j) = some u) :
    Calls Tryd.prog 29 #[.slice (some b) n n] w fun e w' => ∃ A c, e = .returned (.slice A (n + 4) c) ∧ Hid (Rd w' w'.heap.size A ((bs ++ (digest bs).take 4).map bv) ∧ Below w.heap.size w w') := by
  have h0 := hK.1
  have HK := Lib.hid hK
  have HN := Lib.hid hn
  have HR := Lib.hid hr
  have HC := Lib.hid hc
  clear hK hn hr hc
  go_enter Tryd.func29, Tryd.ntmps29
  go_wp2_with fail
  have HP := Lib.hid (one_part w (some b) n n bs HN.out (Nat.le_refl _) (by omega) HR.out)
  have hb1 := below_alloc w (.cells #[.slice (some b) n n] 23)
  generalize w.alloc (.cells #[.slice (some b) n n] 23) = w1 at *
  have hz1 : w.heap.size ≤ w1.heap.size := hb1.size
  with_reducible refine (check_any 1 1 (some ⟨w.heap.size, 0, none⟩) _ w1 (HK.out.below h0 hb1) rfl (by decide) (by rw [flat_one, HN.out]; omega) HP.out).mono ?_
  rintro e w2 ⟨v2, rfl, HV2⟩
  obtain ⟨D, HD, HLD⟩ := four_facts bs
  have HVD : Hid (v2 = .agg D.toArray) := Lib.hid (by rw [HD.out]; have := HV2.out.1; rwa [flat_one] at this)
  have HB2 := Lib.hid (hb1.trans (HV2.out.2.mono hz1))
  have hz2 : w.heap.size ≤ w2.heap.size := HB2.out.size
  clear HV2 HP hb1
  have hsl := fun w' : World => run_all w' 94 4 under29 w2.heap.size 0
  go_wp2_with (first
    | (refine wl_alloc rfl 94 rfl _ _ info29 ?_
       intro w3 HA3 HB3 HZ3)
    | (refine wl_store rfl 94 (.tmp 3) (.tmp 6) rfl w2.heap.size _ D rfl HVD.out rfl 94 _ HA3.out HLD.out.1 HLD.out.2.1 HLD.out.2.2.2 ?_
       intro w4 HR4 HS4 HZ4
       have hz3 : w2.heap.size < w3.heap.size := by rw [HZ3.out]; omega
       have hz4 : w3.heap.size ≤ w4.heap.size := by rw [HZ4.out]; exact Nat.le_refl _
       have hb24 : Below w2.heap.size w2 w4 := HB3.out.trans (HS4.out.below (Nat.le_refl _) (by omega))
       have HB4 := Lib.hid (HB2.out.trans (hb24.mono hz2))
       have HL4 : Hid (((digest bs).take 4).length = 4) := Lib.hid (by rw [List.length_take, digest_length]; rfl)
       have HC4 : Hid (∀ (j : Nat) (u : Value), (bs.map bv)[j]? = some u → w4.cell? (b.add j) = some u) := Lib.hid (fun j u hj => by
         rcases HR.out with he | ⟨ad, he, hbk, _⟩
         · rw [he] at hj; simp at hj
         · injection he with he
           subst he
           rw [HB4.out.cell (by rw [add_block]; exact hbk)]
           exact HC.out j u hj)
       have HD4 : Hid (∀ (j : Nat) (u : Value), (((digest bs).take 4).map bv)[j]? = some u → w4.cell? ((⟨w2.heap.size, 0, none⟩ : Addr).add j) = some u) := Lib.hid (fun j u hj => by
         rw [← HD.out] at hj
         obtain ⟨ad, he, _, hcc⟩ := (HR4.out.rd w4.heap.size (by omega)).cell hj
         injection he with he
         rw [he]
         exact hcc))
    | (refine wl_fresh rfl (.tmp 7) (.tmp 8) rfl b n bs rfl HN.out HC4.out ⟨w2.heap.size, 0, none⟩ 4 4 ((digest bs).take 4) rfl HL4.out HD4.out (by decide) (by omega) ?_
       intro c5 w5 HA5))
  go_ret
  refine ⟨_, c5, rfl, Lib.hid ⟨?_, HB4.out.trans (HA5.out.2.2.2.mono HB4.out.size)⟩⟩
  obtain ⟨A', c', e', _, _, _, hr', _⟩ := own_slice HA5.out.2.2.1
  injection e' with e1 _ _
  rw [e1]
  exact hr'
end Go.Proofs.YtlmdafldggbiaaaDoor

/- What (*sum).add does: the sum of a stream becomes that of the stream with the bytes behind it. -/
import Derived.Test.YtlmdafldggbiaaaDoorHMix
import Derived.Deep.RegionLaw
namespace Go.Proofs.YtlmdafldggbiaaaDoor.H
open Go.RowKit

theorem step_copy_sole {ops : Array Oper} {o : Oper} {a : Act} {w : World} {K : Act → World → Prop} {Q : Exit → Act → World → Prop} {E : Prop} (hgd : o.guard = none) (d s : Operand)
    (ho : o.op = .call { callee := .builtin .copy, args := #[d, s], argTypes := #[23, 23] })
    (g off dLen dCap : Nat) (ad : Addr) (sLen sCap : Nat) (hd : a.eval d = .slice (some ⟨g, off, none⟩) dLen dCap) (hs : a.eval s = .slice (some ad) sLen sCap)
    (cur : List Value) (t : TypeId) (hg : Row w g t cur) (cs : List Value) (hn : cs.length = Nat.min sLen dLen)
    (hsrc : ∀ j v, cs[j]? = some v → w.cell? (ad.add j) = some v) (hfit : off + cs.length ≤ cur.length) (h1 : ∀ v ∈ cs, v.oneCell' = true)
    (h : ∀ w', Hid (Row w' g t (splice cur off cs) ∧ Sole g w w' ∧ w'.heap.size = w.heap.size) → K (a.put o.dst (goInt cs.length)) w') :
    if Region.wanted o (yielded ops a.tmps) = true then Oper.wp Tryd.prog o a w K Q else E := by
  have hw : Region.wanted o (yielded ops a.tmps) = true := by simp [Region.wanted, hgd]
  rw [if_pos hw]
  obtain ⟨i0, hi0, _, hz1, _⟩ := info_parts' u8_info
  have hrun := run_copy_row (P := Tryd.prog) w 23 23 o.type 5 g off dLen dCap ad sLen sCap cur.toArray t cs Tryd.underlying23 (by simp [hi0, hz1]) hg hn hsrc (by simpa using hfit) h1
  unfold Oper.wp
  simp [execOp, ho, resolve, invoke, builtin, hd, hs, hrun, Result.andThen]
  refine h _ ⟨?_, (Sole.refl g w).setRow _, by simp [World.setRow]⟩
  have := hg.setRow (splice cur off cs)
  simpa [splice] using this

/-- Bytes that lie elsewhere than in block g. -/
structure Src (w : World) (g : Nat) (A : Option Addr) (bs : List UInt8) : Prop where
  rd : Rd w w.heap.size A (bs.map bv)
  ne : bs ≠ [] → ∀ ad, A = some ad → ad.block ≠ g
theorem Src.sole {w w' : World} {g : Nat} {A : Option Addr} {bs : List UInt8} (h : Src w g A bs) (hs : Sole g w w') : Src w' g A bs := by
  refine ⟨?_, h.ne⟩
  rcases h.rd with h0 | ⟨ad, h1, h2, h3⟩
  · exact .inl h0
  · by_cases hb : bs = []
    · exact .inl (by simp [hb])
    · refine .inr ⟨ad, h1, Nat.lt_of_lt_of_le h2 hs.size, fun j u hj => ?_⟩
      have e : (ad.add j).block = ad.block := by unfold Addr.add; split <;> rfl
      rw [hs.cell (by rw [e]; exact h2) (by rw [e]; exact h.ne hb ad h1)]
      exact h3 j u hj
theorem Src.drop {w : World} {g : Nat} {A : Option Addr} {bs : List UInt8} (h : Src w g A bs) {k cap : Nat} (hk : k ≤ bs.length) (hc : bs.length ≤ cap) : Src w g (if cap = k then A else A.map (·.add k)) (bs.drop k) := by
  refine ⟨by rw [List.map_drop]; exact h.rd.drop (by simpa using hk) (by simpa using hc), fun hne ad had => ?_⟩
  have hb : bs ≠ [] := fun e => hne (by simp [e])
  split at had
  · exact h.ne hb ad had
  · cases A with
    | none => simp at had
    | some a0 =>
      simp at had
      rw [← had]
      have e : (a0.add k).block = a0.block := by unfold Addr.add; split <;> rfl
      rw [e]
      exact h.ne hb a0 rfl

/-- Block g is the sum of the stream S, T bytes counted. -/
def SumT (w : World) (g : Nat) (S : List UInt8) (T : Nat) : Prop :=
  ∃ blk : List UInt8, blk.length = 64 ∧ blk.take (S.length % 64) = waits S ∧ Row w g 123 (sumCells (regsOf S) blk (S.length % 64) T)

theorem splice_sum (r : Regs) (blk : List UInt8) (h T : Nat) (cs : List UInt8) (hb : blk.length = 64) (hf : h + cs.length ≤ 64) :
    splice (sumCells r blk h T) (8 + h) (cs.map bv) = sumCells r (splice blk h cs) h T := by
  unfold splice sumCells
  have e1 : (r.list.map uv).length = 8 := by simp [list_length]
  rw [List.append_assoc, List.take_append, List.drop_append, e1]
  rw [List.take_of_length_le (by omega), List.drop_eq_nil_of_le (by omega), show 8 + h - 8 = h by omega, List.length_map, show 8 + h + cs.length - 8 = h + cs.length by omega]
  rw [List.take_append_of_le_length (by simp; omega), List.drop_append_of_le_length (by simp; omega)]
  simp [List.map_append, List.map_take, List.map_drop, List.append_assoc]
theorem splice_take (blk : List UInt8) (h : Nat) (cs : List UInt8) (hb : h ≤ blk.length) : (splice blk h cs).take (h + cs.length) = blk.take h ++ cs := by
  unfold splice
  rw [← List.append_assoc, List.take_append_of_le_length (by simp; omega), List.take_of_length_le (by simp; omega)]
theorem sumCells_held (r : Regs) (blk : List UInt8) (h T h' : Nat) (hb : blk.length = 64) : (sumCells r blk h T).set 72 (.int .i64 (h' : Int)) = sumCells r blk h' T := by
  unfold sumCells
  rw [List.set_append_right _ _ (by simp [list_length, hb])]
  simp [list_length, hb]
theorem sumCells_total (r : Regs) (blk : List UInt8) (h T T' : Nat) (hb : blk.length = 64) : (sumCells r blk h T).set 73 (.int .u64 (T' : Int)) = sumCells r blk h T' := by
  unfold sumCells
  rw [List.set_append_right _ _ (by simp [list_length, hb])]
  simp [list_length, hb]
theorem sumCells_held_at (r : Regs) (blk : List UInt8) (h T : Nat) (hb : blk.length = 64) : (sumCells r blk h T)[72]? = some (.int .i64 (h : Int)) := by
  unfold sumCells
  rw [List.getElem?_append_right (by simp [list_length, hb])]
  simp [list_length, hb]
theorem sumCells_total_at (r : Regs) (blk : List UInt8) (h T : Nat) (hb : blk.length = 64) : (sumCells r blk h T)[73]? = some (.int .u64 (T : Int)) := by
  unfold sumCells
  rw [List.getElem?_append_right (by simp [list_length, hb])]
  simp [list_length, hb]

theorem splice_length (blk : List UInt8) (h : Nat) (cs : List UInt8) (hb : blk.length = 64) (hf : h + cs.length ≤ 64) : (splice blk h cs).length = 64 := by rw [length_splice _ _ _ (by omega), hb]
theorem sumT_more {w : World} {g : Nat} {S cs : List UInt8} {T : Nat} {blk : List UInt8} {h : Nat} (hh : h = S.length % 64) (hb : blk.length = 64) (ht : blk.take h = waits S) (hx : h + cs.length < 64)
    (hr : Row w g 123 (sumCells (regsOf S) (splice blk h cs) (h + cs.length) T)) : SumT w g (S ++ cs) T := by
  have e : (S ++ cs).length % 64 = h + cs.length := by rw [List.length_append]; omega
  refine ⟨splice blk h cs, splice_length _ _ _ hb (by omega), ?_, ?_⟩
  · rw [e, splice_take _ _ _ (by omega), ht, waits_more _ _ (by omega)]
  · rw [e, regsOf_more _ _ (by omega)]; exact hr
theorem sumT_full {w : World} {g : Nat} {S cs : List UInt8} {T : Nat} {blk : List UInt8} {h : Nat} (hh : h = S.length % 64) (hb : blk.length = 64) (ht : blk.take h = waits S) (hx : h + cs.length = 64)
    (hr : Row w g 123 (sumCells (comp (regsOf S) (splice blk h cs)) (splice blk h cs) 0 T)) : SumT w g (S ++ cs) T := by
  have e : (S ++ cs).length % 64 = 0 := by rw [List.length_append]; omega
  have e2 : splice blk h cs = waits S ++ cs := by
    have h1 := splice_take blk h cs (by omega)
    rw [List.take_of_length_le (by rw [splice_length _ _ _ hb (by omega)]; omega), ht] at h1
    exact h1
  refine ⟨splice blk h cs, splice_length _ _ _ hb (by omega), ?_, ?_⟩
  · rw [e, waits_full _ _ (by omega)]; rfl
  · rw [e, regsOf_full _ _ (by omega)]
    have e3 : S.drop (64 * (S.length / 64)) ++ cs = splice blk h cs := by rw [e2]; rfl
    rw [e3]
    exact hr
theorem take_more (bs : List UInt8) (k x : Nat) : bs.take (k + x) = bs.take k ++ (bs.drop k).take x := by
  rw [List.take_add]
theorem Sole.of_drew {g : Nat} {w w' : World} (h : Sole g w.drew w') : Sole g w w' := ⟨h.os, h.tape, h.output, h.size, h.block⟩

set_option maxRecDepth 100000 in
set_option maxHeartbeats 1000000 in
theorem add_any (g : Nat) (S : List UInt8) (T n c : Nat) (A : Option Addr) (bs : List UInt8) (w : World) (hK : Ktab w) (hg0 : 19 < g) (hn : bs.length = n) (hcap : n ≤ c) (hmax : c ≤ 9223372036854775807) (hT : T + n < 18446744073709551616) (hr : Src w g A bs) (hs : SumT w g S T) :
    Calls Tryd.prog 70 #[.pointer (some ⟨g, 0, none⟩), .slice A n c] w fun e w' => e = .returned (.tuple #[]) ∧ Hid (SumT w' g (S ++ bs) (T + n) ∧ Sole g w w') := by
  have hc' : c ≤ 9223372036854775807 := hmax
  obtain ⟨blk0, hb0, ht0, hrow0⟩ := hs
  have HK := Lib.hid hK
  have HN := Lib.hid hn
  have HR := Lib.hid hr
  have cT : w.cell? ⟨g, 73, none⟩ = some (.int .u64 (T : Int)) := by rw [hrow0.cell, sumCells_total_at _ _ _ _ hb0]
  have fT : w.frozen? ⟨g, 73, none⟩ = false := hrow0.frozen 73
  have HS0 := Lib.hid (And.intro hb0 (And.intro ht0 hrow0))
  have hw1 : IntKind.u64.wrap ((n : Nat) : Int) = (n : Int) := by rw [IntKind.wrap_u64]; omega
  clear hK hn hr hb0 ht0 hrow0 hmax
  go_enter Tryd.func70, Tryd.ntmps70
  go_wp2_with fail
  have HS1 : Shut (SumT (w.setCell ⟨g, 73, none⟩ (.int .u64 ((T : Int) + (n : Int)))) g (S ++ bs.take 0) (T + n) ∧ Sole g w (w.setCell ⟨g, 73, none⟩ (.int .u64 ((T : Int) + (n : Int))))) := ⟨by
    refine ⟨⟨blk0, HS0.out.1, ?_, ?_⟩, (Sole.refl g w).setCell 73 _⟩
    · rw [List.take_zero, List.append_nil]; exact HS0.out.2.1
    · have h1 := HS0.out.2.2.set 73 (.int .u64 ((T + n : Nat) : Int))
      rw [sumCells_total _ _ _ _ _ HS0.out.1] at h1
      rw [List.take_zero, List.append_nil]
      simpa using h1⟩
  clear cT fT HS0
  generalize w.setCell ⟨g, 73, none⟩ (.int .u64 ((T : Int) + (n : Int))) = w1 at *
  go_loopw [1] (fun v W => ∃ (k m c' : Nat) (A' : Option Addr), v = .slice A' m c' ∧ m ≤ c' ∧ c' ≤ 9223372036854775807 ∧ Shut (k + m = n) ∧ Shut (Src W g A' (bs.drop k) ∧ SumT W g (S ++ bs.take k) (T + n) ∧ Sole g w W)) (fun v _ => (match v with | .slice _ m _ => m | _ => 0))
  case atStart => exact ⟨0, n, c, A, rfl, hcap, hc', ⟨Nat.zero_add n⟩, ⟨by rw [List.drop_zero]; exact HR.out.sole HS1.out.2, HS1.out.1, HS1.out.2⟩⟩
  case round =>
    clear HS1 HR
    obtain ⟨k, m, c', A', rfl, hm, hc2, HKM, HI⟩ := hrel
    by_cases h0 : m = 0
    · subst h0
      go_wp2_with fail
      go_end0
      have hk : k = n := HKM.out
      refine ⟨rfl, Lib.hid ⟨?_, HI.out.2.2⟩⟩
      have h1 := HI.out.2.1
      rwa [List.take_of_length_le (by rw [HN.out]; omega)] at h1
    · have hpos : 0 < m := by omega
      obtain ⟨blk, hb, htk, hrow⟩ := HI.out.2.1
      obtain ⟨h, HH⟩ : ∃ h, Shut (h = (S ++ bs.take k).length % 64) := ⟨_, ⟨rfl⟩⟩
      obtain ⟨x, HX⟩ : ∃ x, Shut (x = Nat.min m (64 - h)) := ⟨_, ⟨rfl⟩⟩
      have hh : h < 64 := by rw [HH.out]; omega
      have hx0 : 0 < x := by rw [HX.out]; show 0 < min m (64 - h); omega
      have hx1 : x ≤ m := by rw [HX.out]; show min m (64 - h) ≤ m; omega
      have hx2 : h + x ≤ 64 := by rw [HX.out]; show h + min m (64 - h) ≤ 64; omega
      rw [← HH.out] at htk hrow
      have hlen : ((bs.drop k).take x).length = x := by rw [List.length_take, List.length_drop, HN.out]; have := HKM.out; omega
      obtain ⟨cs, HCS⟩ : ∃ cs, Shut (cs = (bs.drop k).take x) := ⟨_, ⟨rfl⟩⟩
      rw [← HCS.out] at hlen
      have hA : ∃ ad, A' = some ad ∧ ∀ j v, (cs.map bv)[j]? = some v → wr.cell? (ad.add j) = some v := by
        have h1 := HI.out.1.rd.take x
        rw [← List.map_take, ← HCS.out] at h1
        rcases h1 with h2 | ⟨ad, h2, _, h3⟩
        · simp at h2; subst h2; simp at hlen; omega
        · exact ⟨ad, h2, h3⟩
      obtain ⟨ad, rfl, hsrc⟩ := hA
      have ch : wr.cell? ⟨g, 72, none⟩ = some (.int .i64 (h : Int)) := by rw [hrow.cell, sumCells_held_at _ _ _ _ hb]
      have hsl := run_tail wr.drew 121 64 under45 g 8 h (h : Int) rfl hh
      have hrow' : Row wr.drew g 123 (sumCells (regsOf (S ++ bs.take k)) blk h (T + n)) := hrow
      have hsrc' : ∀ j v, (cs.map bv)[j]? = some v → wr.drew.cell? (ad.add j) = some v := hsrc
      have HRW := Lib.hid (And.intro hb (And.intro htk hrow'))
      have HLN := Lib.hid hlen
      have HSR := Lib.hid hsrc'
      clear hb htk hrow hlen hsrc hrow' hsrc'
      go_wp2_with fail
      go_region_law (refine step_copy_sole rfl (.tmp 25) (.tmp 26) rfl g (8 + h) (64 - h) (64 - h) ad m c' rfl rfl _ 123 HRW.out.2.2 (cs.map bv) (by rw [List.length_map, HLN.out, HX.out]) HSR.out (by rw [List.length_map, HLN.out, sumCells_length _ _ _ _ HRW.out.1]; omega) (by intro v hv; obtain ⟨y, _, rfl⟩ := List.mem_map.1 hv; rfl) ?_; intro w2 HW2)
      rw [HLN.out]
      have HR2 : Shut (Row w2 g 123 (sumCells (regsOf (S ++ bs.take k)) (splice blk h cs) h (T + n))) := ⟨by
        have h1 := HW2.out.1
        rwa [splice_sum _ _ _ _ _ HRW.out.1 (by rw [HLN.out]; exact hx2)] at h1⟩
      have HBL : Shut ((splice blk h cs).length = 64) := ⟨splice_length _ _ _ HRW.out.1 (by rw [HLN.out]; exact hx2)⟩
      have HS2 : Shut (Sole g wr w2) := ⟨HW2.out.2.1.of_drew⟩
      have ch2 : w2.cell? ⟨g, 72, none⟩ = some (.int .i64 (h : Int)) := by rw [HR2.out.cell, sumCells_held_at _ _ _ _ HBL.out]
      have fh2 : w2.frozen? ⟨g, 72, none⟩ = false := HR2.out.frozen 72
      have HSC : Shut (Src w2 g (if c' = x then some ad else (some ad).map (·.add x)) (bs.drop (k + x))) := ⟨by
        have h1 := (HI.out.1.sole HS2.out).drop (k := x) (cap := c') (by rw [List.length_drop, HN.out]; have := HKM.out; omega) (by rw [List.length_drop, HN.out]; have := HKM.out; omega)
        rwa [List.drop_drop] at h1⟩
      have HR3 : Shut (Row (w2.setCell ⟨g, 72, none⟩ (.int .i64 ((h : Int) + (x : Int)))) g 123 (sumCells (regsOf (S ++ bs.take k)) (splice blk h cs) (h + x) (T + n))) := ⟨by
        have h1 := HR2.out.set 72 (.int .i64 ((h + x : Nat) : Int))
        rw [sumCells_held _ _ _ _ _ HBL.out] at h1
        simpa using h1⟩
      have HS3 : Shut (Sole g w (w2.setCell ⟨g, 72, none⟩ (.int .i64 ((h : Int) + (x : Int))))) := ⟨(HI.out.2.2.trans HS2.out).setCell 72 _⟩
      have HSC3 : Shut (Src (w2.setCell ⟨g, 72, none⟩ (.int .i64 ((h : Int) + (x : Int)))) g (if c' = x then some ad else (some ad).map (·.add x)) (bs.drop (k + x))) := ⟨HSC.out.sole ((Sole.refl g w2).setCell 72 _)⟩
      have HKM2 : Shut (k + x + (m - x) = n) := ⟨by have := HKM.out; omega⟩
      have HT2 : Shut (S ++ bs.take (k + x) = S ++ bs.take k ++ cs) := ⟨by rw [HCS.out, List.take_add, List.append_assoc]⟩
      clear hsl ch HW2 HSC HR2 HS2
      by_cases h64 : h + x = 64
      · have t64 : (((h : Int) + (x : Int)) == 64) = true := by simp; omega
        by_cases hcm : c' = x
        · rw [if_pos hcm] at HSC3
          go_wp2_with fail
          with_reducible refine (mix_any g (regsOf (S ++ bs.take k)) (splice blk h cs) (h + x) (T + n) _ (HK.out.sole hg0 HS3.out) hg0 HBL.out HR3.out).mono ?_
          rintro e w3 ⟨rfl, HM⟩
          have c3 : w3.cell? ⟨g, 72, none⟩ = some (.int .i64 ((h + x : Nat) : Int)) := by rw [HM.out.1.cell, sumCells_held_at _ _ _ _ HBL.out]
          have f3 : w3.frozen? ⟨g, 72, none⟩ = false := HM.out.1.frozen 72
          have HM2 : Shut (Row (w3.setCell ⟨g, 72, none⟩ (.int .i64 0)) g 123 (sumCells (comp (regsOf (S ++ bs.take k)) (splice blk h cs)) (splice blk h cs) 0 (T + n))) := ⟨by
            have h1 := HM.out.1.set 72 (.int .i64 ((0 : Nat) : Int))
            rwa [sumCells_held _ _ _ _ _ HBL.out] at h1⟩
          go_wp2_with fail
          refine ⟨⟨k + x, m - x, _, _, rfl, by omega, by omega, HKM2, ⟨HSC3.out.sole (HM.out.2.setCell 72 _), ?_, (HS3.out.trans HM.out.2).setCell 72 _⟩⟩, by simp; omega⟩
          rw [HT2.out]
          exact sumT_full HH.out HRW.out.1 HRW.out.2.1 (by rw [HLN.out]; exact h64) HM2.out
        · rw [if_neg hcm, Option.map_some] at HSC3
          go_wp2_with fail
          with_reducible refine (mix_any g (regsOf (S ++ bs.take k)) (splice blk h cs) (h + x) (T + n) _ (HK.out.sole hg0 HS3.out) hg0 HBL.out HR3.out).mono ?_
          rintro e w3 ⟨rfl, HM⟩
          have c3 : w3.cell? ⟨g, 72, none⟩ = some (.int .i64 ((h + x : Nat) : Int)) := by rw [HM.out.1.cell, sumCells_held_at _ _ _ _ HBL.out]
          have f3 : w3.frozen? ⟨g, 72, none⟩ = false := HM.out.1.frozen 72
          have HM2 : Shut (Row (w3.setCell ⟨g, 72, none⟩ (.int .i64 0)) g 123 (sumCells (comp (regsOf (S ++ bs.take k)) (splice blk h cs)) (splice blk h cs) 0 (T + n))) := ⟨by
            have h1 := HM.out.1.set 72 (.int .i64 ((0 : Nat) : Int))
            rwa [sumCells_held _ _ _ _ _ HBL.out] at h1⟩
          go_wp2_with fail
          refine ⟨⟨k + x, m - x, _, _, rfl, by omega, by omega, HKM2, ⟨HSC3.out.sole (HM.out.2.setCell 72 _), ?_, (HS3.out.trans HM.out.2).setCell 72 _⟩⟩, by simp; omega⟩
          rw [HT2.out]
          exact sumT_full HH.out HRW.out.1 HRW.out.2.1 (by rw [HLN.out]; exact h64) HM2.out
      · have t64 : (((h : Int) + (x : Int)) == 64) = false := by simp; omega
        by_cases hcm : c' = x
        · rw [if_pos hcm] at HSC3
          go_wp2_with fail
          refine ⟨⟨k + x, m - x, _, _, rfl, by omega, by omega, HKM2, ⟨HSC3.out, ?_, HS3.out⟩⟩, by simp; omega⟩
          rw [HT2.out]
          refine sumT_more HH.out HRW.out.1 HRW.out.2.1 (by rw [HLN.out]; omega) ?_
          rw [HLN.out]
          exact HR3.out
        · rw [if_neg hcm, Option.map_some] at HSC3
          go_wp2_with fail
          refine ⟨⟨k + x, m - x, _, _, rfl, by omega, by omega, HKM2, ⟨HSC3.out, ?_, HS3.out⟩⟩, by simp; omega⟩
          rw [HT2.out]
          refine sumT_more HH.out HRW.out.1 HRW.out.2.1 (by rw [HLN.out]; omega) ?_
          rw [HLN.out]
          exact HR3.out
end Go.Proofs.YtlmdafldggbiaaaDoor.H

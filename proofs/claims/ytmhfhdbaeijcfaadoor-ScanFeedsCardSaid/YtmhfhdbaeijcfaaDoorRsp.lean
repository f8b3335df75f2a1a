/- The document's Split: what it answers. -/
import Derived.Test.YtmhfhdbaeijcfaaDoorGJ
import Derived.Test.YtmhfhdbaeijcfaaDoorRget
namespace Go.Proofs.YtmhfhdbaeijcfaaDoor
open Go.RowKit
open Go.Proofs.YtmhfhdbaeijcfaaDoor.H
/-- Bytes between two places. -/
theorem cut_bytes (w : World) (A : Option Addr) (n cap l z : Nat) (h : l + z ≤ cap) :
    (Instr.slice 23 (.slice A n cap) (some (.int .i64 (l : Int))) (some (.int .i64 ((l : Int) + (z : Int)))) none).run Tryd.prog w = .ok (.slice (if cap = l then A else A.map (·.add l)) z (cap - l)) w := by
  obtain ⟨i0, hi0, _, hz1, _⟩ := info_parts' u8_info
  have h := run_slice_lh (P := Tryd.prog) w 23 A n cap (by rw [show Tryd.prog.elem 23 = 5 by kernel_rfl]; exact Tryd.underlying23) .i64 .i64 (l : Int) ((l : Int) + (z : Int)) (by omega) (by omega) (by omega)
  have e1 : ((l : Int) + (z : Int)).toNat = l + z := by omega
  rw [h, show Tryd.prog.elem 23 = 5 by kernel_rfl, e1]
  simp [sizeOf, typeInfo, hi0, hz1, sliced]
theorem iwrap_of (n : Int) (h0 : -9223372036854775808 ≤ n) (h1 : n ≤ 9223372036854775807) : IntKind.i64.wrap n = n := by rw [IntKind.wrap_i64]; omega
theorem split_facts {p n x y : Nat} (hp : p + 2 ≤ n) (hn : n ≤ 40000) (hx : x < 256) (hy : y < 256) : IntKind.i64.wrap ((p : Int) + 1) = (p : Int) + 1 ∧ IntKind.i64.wrap (x : Int) = (x : Int) ∧ IntKind.i64.wrap (y : Int) = (y : Int) ∧ IntKind.i64.wrap (256 * (x : Int)) = 256 * (x : Int) ∧ IntKind.i64.wrap (256 * (x : Int) + (y : Int)) = 256 * (x : Int) + (y : Int) ∧ IntKind.i64.wrap (256 * (x : Int) + (y : Int) + 6) = 256 * (x : Int) + (y : Int) + 6 :=
  ⟨iwrap_of _ (by omega) (by omega), iwrap_of _ (by omega) (by omega), iwrap_of _ (by omega) (by omega), iwrap_of _ (by omega) (by omega), iwrap_of _ (by omega) (by omega), iwrap_of _ (by omega) (by omega)⟩
/-- The number of the error of a stream that is broken. -/
def badN (bad : Bool) : Int := if bad then 7 else 0
/-- The first two bytes, and what comes of them. -/
theorem cut_heads {s : List UInt8} (h : 2 ≤ s.length) : ∃ (x y : Nat), x < 256 ∧ y < 256 ∧ sizeH s = 256 * x + y + 6 ∧ s[0]? = some (UInt8.ofNat x) ∧ s[1]? = some (UInt8.ofNat y) ∧ (UInt8.ofNat x).toNat = x ∧ (UInt8.ofNat y).toNat = y := by
  match s, h with
  | a :: b :: l, _ => exact ⟨a.toNat, b.toNat, a.toNat_lt, b.toNat_lt, by unfold sizeH; rw [told_two], by simp, by simp, by simp, by simp⟩
theorem Yg.new {w w' : World} {f : Fr} {B : Nat} (h : Yg w f) (hok : f.ok w' B) : f.bs ≠ [] → ∃ q, f.ba = some ⟨q, 0, none⟩ ∧ w.heap.size ≤ q := fun hb => by
  rcases h with h | h
  · rcases hok.rd with h1 | ⟨ad, h1, _⟩
    · exact absurd (by simpa using h1) hb
    · rw [h] at h1; cases h1
  · exact h
theorem cut_frame2 {s r : List UInt8} {fs : List Fr} {b : Bool} {f : Fr} (h2 : 2 ≤ s.length) (hb : ¬ badSize s) (h : sizeH s ≤ s.length) (hg : getB (s.take (sizeH s)) = some f) (k : Cut s fs r b) : ∃ fs', fs = f :: fs' ∧ Cut (s.drop (sizeH s)) fs' r b := by
  cases k with
  | short _ h0 => omega
  | part _ h2' hs' h' => omega
  | size _ h2' hs' => exact absurd hs' hb
  | wrong _ h2' hs' h' hg' => rw [hg] at hg'; cases hg'
  | frame _ f' fs' _ _ h2' hs' h' hg' hr' =>
    rw [hg] at hg'
    injection hg' with hg'
    subst hg'
    exact ⟨fs', rfl, hr'⟩
set_option maxRecDepth 100000 in
set_option maxHeartbeats 4000000 in
theorem rsplit_any (g n c : Nat) (A : Option Addr) (bs : List UInt8) (w : World) (hT : Tab w w.heap.size g) (hn : bs.length = n) (hc : n ≤ c) (hcm : c ≤ 9223372036854775807) (hbig : n ≤ 40000) (hr : Rd w w.heap.size A (bs.map bv)) (fs : List Fr) (r : List UInt8) (bad : Bool) (hcut : Cut bs fs r bad) :
    Calls Tryd.prog 34 #[.pointer (some ⟨g, 0, none⟩), .slice A n c] w fun e w' => ∃ (gs : List Fr) (q ng co : Nat), e = .returned (.tuple #[.slice (some ⟨q, 0, none⟩) ng co, .int .i64 (bytesOf fs : Int), .int .i64 (badN bad)]) ∧ Hid (gs.length = ng ∧ Fnd w' w.heap.size none (.slice (some ⟨q, 0, none⟩) ng co) gs ∧ gs.map Fr.pl = fs ∧ Below w.heap.size w w') := by
  have HT := Lib.hid hT
  have HN := Lib.hid hn
  have HR := Lib.hid hr
  have HCU := Lib.hid hcut
  have HC := Lib.hid hc
  have HCM := Lib.hid hcm
  have HLE : Hid (bytesOf fs ≤ n ∧ 7 * fs.length ≤ n) := Lib.hid (by rw [← hn]; exact hcut.sum_le)
  clear hT hn hr hcut
  go_enter Tryd.func34, Tryd.ntmps34
  go_wp2_with fail
  go_loopw [7, 8] (fun vo va W => ∃ (p ng q co : Nat) (gs fs2 : List Fr), vo = .slice (some ⟨q, 0, none⟩) ng co ∧ va = .int .i64 (p : Int) ∧ p ≤ n ∧ H.Shut (gs.length = ng ∧ fs = gs.map Fr.pl ++ fs2 ∧ bytesOf (gs.map Fr.pl) = p ∧ Cut (bs.drop p) fs2 r bad ∧ Fnd W w.heap.size none (.slice (some ⟨q, 0, none⟩) ng co) gs ∧ Below w.heap.size w W)) (fun _ va _ => n - (intOf va).toNat)
  case atStart => exact ⟨0, 0, _, _, [], fs, rfl, rfl, Nat.zero_le _, ⟨rfl, rfl, rfl, HCU.out, ⟨own_emptyF w _ (Nat.le_refl _), (fun f hf => by cases hf), (fun f hf => by cases hf), (fun q _ e => by cases e)⟩, below_alloc w _⟩⟩
  case round =>
    obtain ⟨p, ng, q, co, gs, fs2, rfl, rfl, hpn, HI⟩ := hrel
    have HBr := Lib.hid HI.out.2.2.2.2.2
    have hszr : w.heap.size ≤ wr.heap.size := HBr.out.size
    have HLD : Hid ((bs.drop p).length = n - p) := Lib.hid (by rw [List.length_drop, HN.out])
    have HNG : Hid (7 * ng ≤ n) := Lib.hid (by
      have h1 := HLE.out.2
      rw [HI.out.2.1, List.length_append, List.length_map, HI.out.1] at h1
      omega)
    by_cases h2 : p + 2 ≤ n
    · obtain ⟨x, y, hx, hy, hz, h0, h1, hxx, hyy⟩ := cut_heads (s := bs.drop p) (by rw [HLD.out]; omega)
      have HZ := Lib.hid hz
      have HRr := Lib.hid ((HR.out.below HBr.out).more hszr)
      obtain ⟨b, rfl, _, c0⟩ := HRr.out.cell (k := p) (u := bv (UInt8.ofNat x)) (by rw [List.getElem?_map]; rw [List.getElem?_drop, Nat.add_zero] at h0; rw [h0]; rfl)
      obtain ⟨b', e', _, c1⟩ := HRr.out.cell (k := p + 1) (u := bv (UInt8.ofNat y)) (by rw [List.getElem?_map]; rw [List.getElem?_drop] at h1; rw [h1]; rfl)
      injection e' with e'
      subst e'
      unfold bv at c0 c1
      rw [hxx] at c0
      rw [hyy] at c1
      have c1' : wr.cell? ⟨b.block, b.off + (p + 1), none⟩ = some (.int .u8 (y : Int)) := by simpa [Addr.add] using c1
      have hl2 : (2 : Int) ≤ (n : Int) - (p : Int) := by omega
      have hp0 : (p : Int) < (n : Int) := by omega
      have hp1 : (p : Int) + 1 < (n : Int) := by omega
      have HI0 := Lib.hid (And.intro HI.out.1 (And.intro HI.out.2.1 (And.intro HI.out.2.2.1 HI.out.2.2.2.1)))
      have HF := Lib.hid HI.out.2.2.2.2.1
      obtain ⟨z, HZ2⟩ : ∃ z : Nat, H.Shut (256 * x + y + 6 = z) := ⟨_, ⟨rfl⟩⟩
      have HZI : Hid (256 * (x : Int) + (y : Int) + 6 = (z : Int)) := Lib.hid (by rw [← HZ2.out]; omega)
      have HSZ : Hid (sizeH (bs.drop p) = z) := Lib.hid (hz.trans HZ2.out)
      have hzb : z < 66000 := by rw [← HZ2.out]; omega
      obtain ⟨e1, e2, e3, e4, e5, e6⟩ := split_facts h2 hbig hx hy
      have e7 : (0 : Int) ≤ (p : Int) + 1 := by omega
      have e8 : ((p : Int) + 1).toNat = p + 1 := by omega
      have e9 : p + 1 < n := by omega
      clear h0 h1 hz hxx hyy HI
      go_wp2_with fail
      go_quiet (fail)
      clear e1 e2 e3 e4 e5 e6 e7 e8 e9
      rw [HZI.out]
      have HBq : Hid (Below wr.heap.size wr (wr.drewN nq)) := Lib.hid (below_drewN (Below.refl _ _) nq)
      clear c0 c1 c1'
      generalize wr.drewN nq = w1 at *
      have hz1 : wr.heap.size ≤ w1.heap.size := HBq.out.size
      have HB1 := Lib.hid (HBr.out.trans (HBq.out.mono hszr))
      have HF1 := Lib.hid (HF.out.below HBq.out)
      by_cases hbs : z < 7 ∨ 1024 < z
      · obtain ⟨e1, e2, e3⟩ := HI0.out.2.2.2.det (.size _ (by rw [HLD.out]; omega) (by unfold badSize; rw [HSZ.out]; exact hbs))
        have HEN : Hid (fs2 = [] ∧ bad = true) := Lib.hid ⟨e1, e3⟩
        clear e1 e2 e3
        rcases hbs with hbs | hbs
        · have hI : (z : Int) < 7 := by omega
          go_wp2_with fail
          go_ret3
          have e4 : fs = gs.map Fr.pl := by rw [HI0.out.2.1, HEN.out.1, List.append_nil]
          exact ⟨gs, q, ng, co, by rw [e4, HI0.out.2.2.1, HEN.out.2]; rfl, Lib.hid ⟨HI0.out.1, HF1.out, e4.symm, HB1.out⟩⟩
        · have hI : ¬ (z : Int) < 7 := by omega
          have hI2 : (z : Int) > 1024 := by omega
          go_wp2_with fail
          go_ret3
          have e4 : fs = gs.map Fr.pl := by rw [HI0.out.2.1, HEN.out.1, List.append_nil]
          exact ⟨gs, q, ng, co, by rw [e4, HI0.out.2.2.1, HEN.out.2]; rfl, Lib.hid ⟨HI0.out.1, HF1.out, e4.symm, HB1.out⟩⟩
      · have hI : ¬ (z : Int) < 7 := by omega
        have hI2 : ¬ (z : Int) > 1024 := by omega
        have HNB : Hid (¬ badSize (bs.drop p)) := Lib.hid (by unfold badSize; rw [HSZ.out]; exact hbs)
        have hz7 : 7 ≤ z ∧ z ≤ 1024 := by omega
        clear hbs
        by_cases hlt : n - p < z
        · have hI3 : (n : Int) - (p : Int) < (z : Int) := by omega
          obtain ⟨e1, e2, e3⟩ := HI0.out.2.2.2.inc (.inr ⟨HNB.out, by rw [HSZ.out, HLD.out]; exact hlt⟩)
          have HEN : Hid (fs2 = [] ∧ bad = false) := Lib.hid ⟨e1, e3⟩
          clear e1 e2 e3
          go_wp2_with fail
          go_ret3
          have e4 : fs = gs.map Fr.pl := by rw [HI0.out.2.1, HEN.out.1, List.append_nil]
          exact ⟨gs, q, ng, co, by rw [e4, HI0.out.2.2.1, HEN.out.2]; rfl, Lib.hid ⟨HI0.out.1, HF1.out, e4.symm, HB1.out⟩⟩
        · have hI3 : ¬ (n : Int) - (p : Int) < (z : Int) := by omega
          have hpz : p + z ≤ n := by omega
          have hpc : p + z ≤ c := Nat.le_trans hpz HC.out
          have hcp : ¬ c = p := by omega
          have hsl := fun w => cut_bytes w (some b) n c p z hpc
          rw [if_neg hcp] at hsl
          have HRg : Hid (Rd w1 w1.heap.size (some (b.add p)) (((bs.drop p).take z).map bv)) := Lib.hid (by
            have h := ((HRr.out.below HBq.out).more hz1).drop (k := p) (cap := c) (by rw [List.length_map, HN.out]; exact hpn) (by rw [List.length_map, HN.out]; exact HC.out)
            rw [if_neg hcp] at h
            have h := h.take z
            rwa [← List.map_drop, ← List.map_take] at h)
          have HLT : Hid (((bs.drop p).take z).length = z) := Lib.hid (by rw [List.length_take, HLD.out]; omega)
          have HT1 := Lib.hid ((HT.out.below HB1.out).more HB1.out.size)
          have hcpz : z ≤ c - p := by omega
          have hcm2 : c - p ≤ 9223372036854775807 := by have := HCM.out; omega
          have HCL := Lib.hid (rgety_any g z (c - p) (some (b.add p)) ((bs.drop p).take z) w1 HT1.out HLT.out hcpz hcm2 HRg.out)
          clear hcpz hcm2 HRg HT1
          go_wp2_with fail
          with_reducible refine HCL.out.mono ?_
          rintro e w2 ⟨G, rfl, HV2⟩
          obtain ⟨gv, HGV⟩ : ∃ gv, H.Shut (G.v = gv) := ⟨_, ⟨rfl⟩⟩
          rw [HGV.out]
          obtain ⟨n9, HN9⟩ : ∃ n9, H.Shut (G.bs.length = n9) := ⟨_, ⟨rfl⟩⟩
          have HVF : Hid (gv = .agg (G.cells n9).toArray) := Lib.hid (by rw [← HGV.out, ← HN9.out]; rfl)
          have HLG : Hid ((Tryd.prog.info? 25).map (·.size) = some (G.cells n9).length) := Lib.hid size25
          have hz2 : w1.heap.size ≤ w2.heap.size := HV2.out.1.size
          have HB2 := Lib.hid (HB1.out.trans (HV2.out.1.mono HB1.out.size))
          have HF2 := Lib.hid (HF1.out.below HV2.out.1)
          cases hgb : getB ((bs.drop p).take z) with
          | none =>
            obtain ⟨e1, e2, e3⟩ := HI0.out.2.2.2.det (.wrong _ (by rw [HLD.out]; omega) HNB.out (by rw [HSZ.out, HLD.out]; omega) (by rw [HSZ.out]; exact hgb))
            have HEN : Hid (fs2 = [] ∧ bad = true) := Lib.hid ⟨e1, e3⟩
            clear e1 e2 e3 hgb HV2 HCL hsl
            rw [Option.isSome_none]
            go_wp2_with (first
              | (refine H.wl_allocAt rfl 25 rfl 10 rfl _ _ info25' ?_
                 intro w3 HA3 HB3 HZ3)
              | (refine wl_store rfl 25 (.tmp 10) (.tmp 55) rfl w2.heap.size _ (G.cells n9) rfl HVF.out rfl 25 _ HA3.out HLG.out rfl (cells_ok G n9) ?_
                 intro w4 HR4 HS4 HZ4
                 have hz3 : w2.heap.size < w3.heap.size := by rw [HZ3.out]; omega
                 have HB24 : Hid (Below w2.heap.size w2 w4) := Lib.hid (HB3.out.trans (HS4.out.below (Nat.le_refl _) (by omega)))))
            go_ret3
            have e4 : fs = gs.map Fr.pl := by rw [HI0.out.2.1, HEN.out.1, List.append_nil]
            exact ⟨gs, q, ng, co, by rw [e4, HI0.out.2.2.1, HEN.out.2]; rfl, Lib.hid ⟨HI0.out.1, HF2.out.below HB24.out, e4.symm, HB2.out.trans (HB24.out.mono HB2.out.size)⟩⟩
          | some f0 =>
            have HPL : Hid (G.pl = f0) := Lib.hid (by
              rcases HV2.out.2.2.1 with ⟨h1, _⟩ | h1
              · rw [hgb] at h1; cases h1
              · rw [hgb] at h1; exact (Option.some.inj h1).symm)
            obtain ⟨fs3, HF3⟩ : ∃ fs3, H.Shut (fs2 = f0 :: fs3 ∧ Cut (bs.drop (p + z)) fs3 r bad) := by
              obtain ⟨fs3, a1, a2⟩ := cut_frame2 (by rw [HLD.out]; omega) HNB.out (by rw [HSZ.out, HLD.out]; omega) (by rw [HSZ.out]; exact hgb) HI0.out.2.2.2
              rw [HSZ.out, List.drop_drop] at a2
              exact ⟨fs3, ⟨a1, a2⟩⟩
            have HPB : Hid ((putB f0).length = z) := Lib.hid (by rw [getB_len hgb, HLT.out])
            have HGO : Hid (G.ok w2 w2.heap.size) := Lib.hid HV2.out.2.1
            have HGN : Hid (G.bs ≠ [] → ∃ q, G.ba = some ⟨q, 0, none⟩ ∧ w1.heap.size ≤ q) := Lib.hid (HV2.out.2.2.2.new HV2.out.2.1)
            have hng : ng + 1 ≤ 1000000000 := by have := HNG.out; omega
            clear hgb HV2 HCL hsl
            rw [Option.isSome_some]
            go_wp2_with (first
              | (refine H.wl_allocAt rfl 25 rfl 10 rfl _ _ info25' ?_
                 intro w3 HA3 HB3 HZ3)
              | (refine wl_store rfl 25 (.tmp 10) (.tmp 55) rfl w2.heap.size _ (G.cells n9) rfl HVF.out rfl 25 _ HA3.out HLG.out rfl (cells_ok G n9) ?_
                 intro w4 HR4 HS4 HZ4
                 have hz3 : w2.heap.size < w3.heap.size := by rw [HZ3.out]; omega
                 have HB24 : Hid (Below w2.heap.size w2 w4) := Lib.hid (HB3.out.trans (HS4.out.below (Nat.le_refl _) (by omega))))
              | (refine wl_load rfl 25 (.tmp 10) rfl w2.heap.size rfl 25 _ _ HR4.out under25.choose_spec rfl size25 ?_
                 intro vq HVQ
                 obtain rfl : vq = .agg #[.int .i64 G.kind, .int .i64 G.seq, .int .i64 G.got, .int .i64 G.stream, .int .i64 G.amount, .int .i64 G.code, .string G.who, .string G.name, .float .f64 G.weight, .slice G.ba n9 G.bc] := HVQ.out
                 have HF4 := Lib.hid (HF2.out.below HB24.out)
                 have HFA := Lib.hid (HF4.out.below (below_alloc w4 (.cells (G.cells n9).toArray 25)))
                 have HRQ : Hid (Row (w4.alloc (.cells (G.cells n9).toArray 25)) w4.heap.size 25 (G.cells n9)) := Lib.hid (Row.new w4 (G.cells n9) 25)
                 have hsz4 : w.heap.size ≤ (w4.alloc (.cells (G.cells n9).toArray 25)).heap.size := by have := HB24.out.size; have := HB2.out.size; simp; omega
                 have HOW : Hid ((w4.alloc (.cells (G.cells n9).toArray 25)).ownsRow w.heap.size 25 10 (.slice (some ⟨q, 0, none⟩) ng co) ng (flatF gs)) := Lib.hid (by have h := HFA.out.own; rw [HI0.out.1] at h; exact h))
              | (refine wl_frame rfl (.tmp 61) (.tmp 63) rfl w.heap.size ng (.slice (some ⟨q, 0, none⟩) ng co) (flatF gs) G n9 w4.heap.size rfl rfl HRQ.out HOW.out hng hsz4 ?_
                 intro v5 w5 HA5))
            have HBA : Hid (Below w2.heap.size w2 (w4.alloc (.cells (G.cells n9).toArray 25))) := Lib.hid (HB24.out.alloc HB24.out.size _)
            replace HA5 : Hid (w5.ownsRow w.heap.size 25 10 v5 (ng + 1) (flatF gs ++ G.cells n9) ∧ (w4.alloc (.cells (G.cells n9).toArray 25)).grownBy w5 (Value.slice (some ⟨q, 0, none⟩) ng co).ownBlock ∧ (v5.ownBlock = (Value.slice (some ⟨q, 0, none⟩) ng co).ownBlock ∨ v5.ownBlock = some (w4.alloc (.cells (G.cells n9).toArray 25)).heap.size)) := HA5
            generalize w4.alloc (.cells (G.cells n9).toArray 25) = wa at *
            obtain ⟨q5, h5⟩ := own_next rfl HA5.out.2.2
            have HOW5 := Lib.hid HA5.out.1
            obtain ⟨c5, rfl, hc5, hcm5, _, _⟩ := own_some HA5.out.1 h5
            have hqq : w.heap.size ≤ q ∧ q < w1.heap.size := HF1.out.own.lt q rfl
            have HYG : Hid (G.bs ≠ [] → ∃ q', G.ba = some ⟨q', 0, none⟩ ∧ w.heap.size ≤ q' ∧ (none : Option Nat) ≠ some q' ∧ (Value.slice (some ⟨q, 0, none⟩) ng co).ownBlock ≠ some q') := Lib.hid (fun hb => by
              obtain ⟨q', e1, e2⟩ := HGN.out hb
              exact ⟨q', e1, by omega, (fun e => by cases e), ob_ne (by omega)⟩)
            have HF5 := Lib.hid (HFA.out.snoc HI0.out.1 HN9.out ((HGO.out.below HBA.out).more HBA.out.size) HYG.out HA5.out.1 HA5.out.2.1 HA5.out.2.2 (fun q e => by cases e))
            have HB5 : Hid (Below w.heap.size w w5) := Lib.hid ((HB2.out.trans (HBA.out.mono HB2.out.size)).grown HA5.out.2.1 (HB2.out.trans (HBA.out.mono HB2.out.size)).size (fun k hk => by have : q = k := Option.some.inj hk; omega))
            clear HFA HRQ HOW HBA HYG HVQ HR4 HS4 HZ4 HA3 HB3 HZ3 HB24 HF4 h5 HOW5
            have hzz : p + z ≤ 40000 := by omega
            refine ⟨⟨p + z, ng + 1, q5, c5, gs ++ [G], fs3, rfl, by go_num, hpz, ⟨by rw [List.length_append, HI0.out.1]; rfl, ?_, ?_, HF3.out.2, HF5.out, HB5.out⟩⟩, by simp [intOf]; omega⟩
            · rw [HI0.out.2.1, HF3.out.1, List.map_append, List.map_cons, List.map_nil, HPL.out]; simp
            · rw [List.map_append, List.map_cons, List.map_nil, bytesOf_snoc, HPL.out, HPB.out, HI0.out.2.2.1]
    · have hI : ¬ (2 : Int) ≤ (n : Int) - (p : Int) := by omega
      obtain ⟨e1, e2, e3⟩ := HI.out.2.2.2.1.inc (.inl (by rw [HLD.out]; omega))
      have HEN : Hid (fs2 = [] ∧ bad = false) := Lib.hid ⟨e1, e3⟩
      clear e1 e2 e3
      go_wp2_with fail
      go_ret3
      have e4 : fs = gs.map Fr.pl := by rw [HI.out.2.1, HEN.out.1, List.append_nil]
      exact ⟨gs, q, ng, co, by rw [e4, HI.out.2.2.1, HEN.out.2]; rfl, Lib.hid ⟨HI.out.1, HI.out.2.2.2.2.1, e4.symm, HBr.out⟩⟩
end Go.Proofs.YtmhfhdbaeijcfaaDoor

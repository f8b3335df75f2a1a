/- The reference's Digest. -/
import Derived.Test.YthfpkefieemiaaaDoorRb5
import Derived.Test.YthfpkefieemiaaaDoorRb16
import Derived.Test.YthfpkefieemiaaaDoorNew
import Derived.Test.YthfpkefieemiaaaDoorPart4
import Derived.Laws.OwnMore
namespace Go.Proofs.YthfpkefieemiaaaDoor
open Go.RowKit

/-- One byte appended to a row of our own. -/
theorem wl_byte {w : World} {ops : Array Oper} {rest : List Oper} {o : Oper} {a : Act} {Q : Exit → Act → World → Prop} (hgd : o.guard = none) (t x : Operand)
    (ho : o.op = .call { callee := .builtin .append, args := #[t, x], argTypes := #[25, 25] }) (base : Nat) (v : Value) (n : Nat) (bs : List UInt8) (b : UInt8) (hs : a.eval t = v) (hown : w.ownsRow base 5 1 v n (bs.map bv)) (g : Nat)
    (hx : a.eval x = .slice (some ⟨g, 0, none⟩) 1 1) (hc : w.cell? ⟨g, 0, none⟩ = some (bv b)) (hg : g < w.heap.size) (hb : n + 1 ≤ 140737488355328) (hbase : base ≤ w.heap.size)
    (h : ∀ v' w', Hid (w'.ownsRow base 5 1 v' (n + 1) ((bs ++ [b]).map bv) ∧ w.grownBy w' v.ownBlock) → wpList Tryd.prog ops Q rest (a.put o.dst v') w') : wpList Tryd.prog ops Q (o :: rest) a w := by
  refine wl_append hgd t x ho base v n (bs.map bv) hs hown w.heap.size (some ⟨g, 0, none⟩) 1 1 [b] hx rfl (.inr ⟨_, rfl, hg, ?_⟩) hb hbase ?_
  · intro j u hj
    match j with
    | 0 => simp at hj; rw [← hj]; exact hc
    | j + 1 => simp at hj
  · intro v' w' hh
    refine h v' w' (Lib.hid ⟨?_, hh.out.2⟩)
    rw [List.map_append]
    exact hh.out.1

/-- The bytes of the count, from the greatest on. -/
theorem be8_list (n : Nat) (h : n < 18446744073709551616) : be8 n = (List.range 8).map fun j => UInt8.ofNat (n / 2 ^ (8 * (7 - j))) := by
  unfold be8 wordBytes
  simp only [BitVec.toNat_ofNat, List.range, List.range.loop, List.map, List.cons_append, List.nil_append]
  have e : ∀ x y : Nat, x % 256 = y % 256 → UInt8.ofNat x = UInt8.ofNat y := fun x y h => by
    apply UInt8.toNat_inj.1
    simpa using h
  refine List.cons_eq_cons.2 ⟨e _ _ (by omega), List.cons_eq_cons.2 ⟨e _ _ (by omega), List.cons_eq_cons.2 ⟨e _ _ (by omega), List.cons_eq_cons.2 ⟨e _ _ (by omega), List.cons_eq_cons.2 ⟨e _ _ (by omega), List.cons_eq_cons.2 ⟨e _ _ (by omega), List.cons_eq_cons.2 ⟨e _ _ (by omega), List.cons_eq_cons.2 ⟨e _ _ (by omega), rfl⟩⟩⟩⟩⟩⟩⟩⟩

theorem count_byte (n j : Nat) : Value.int .u8 ((n : Int) * 8 / 2 ^ (8 * (7 - j)) % 256) = bv (UInt8.ofNat (8 * n / 2 ^ (8 * (7 - j)))) := by
  unfold bv
  congr 1
  rw [UInt8.toNat_ofNat']
  have e : (n : Int) * 8 = ((8 * n : Nat) : Int) := by omega
  rw [e]
  simp

def lenOf : Value → Nat
  | .slice _ m _ => m
  | _ => 0
theorem rd_drop {w : World} {B : Nat} {ad : Addr} {L : List UInt8} (h : Rd w B (some ad) (L.map bv)) (k : Nat) (hk : 0 < k) : Rd w B (some (ad.add k)) ((L.drop k).map bv) := by
  rcases h with h | ⟨ad', he, hb, hc⟩
  · left
    have : L = [] := by simpa using h
    simp [this]
  · right
    injection he with he
    subst he
    refine ⟨_, rfl, by rw [add_block]; exact hb, fun j u hj => ?_⟩
    have e : (ad.add k).add j = ad.add (k + j) := by
      unfold Addr.add
      by_cases h0 : j = 0
      · simp [h0]
      · simp [h0, show k ≠ 0 by omega, Nat.add_assoc]
    rw [e]
    refine hc _ _ ?_
    rw [List.getElem?_map] at hj ⊢
    rw [List.getElem?_drop] at hj
    exact hj
set_option maxRecDepth 100000 in
set_option maxHeartbeats 4000000 in
theorem rdigest_any (g n c : Nat) (A : Option Addr) (bs : List UInt8) (w : World) (hT : Tab w w.heap.size g) (hn : bs.length = n) (hbig : n ≤ 100000) (hr : Rd w w.heap.size A (bs.map bv)) :
    Calls Tryd.prog 16 #[.pointer (some ⟨g, 0, none⟩), .slice A n c] w fun e w' => ∃ v, e = .returned v ∧ Hid (w'.ownsRow w.heap.size 5 1 v 32 ((digest bs).map bv) ∧ Below w.heap.size w w') := by
  have HT := Lib.hid hT
  have HN := Lib.hid hn
  have HR := Lib.hid hr
  clear hT hn hr
  have HB1 := Lib.hid (below_alloc w (.cells #[] 5))
  go_enter Tryd.func16, Tryd.ntmps16
  go_wp2_with (first
    | (refine wl_append rfl (.tmp 32) (.tmp 33) rfl w.heap.size (.slice (some ⟨w.heap.size, 0, none⟩) 0 0) 0 [] rfl (own_empty w w.heap.size (Nat.le_refl _)) w.heap.size A n c bs rfl HN.out (HR.out.below HB1.out) (by omega) (by simp) ?_
       intro v1 w1 HA1
       have HB2 := Lib.hid (HB1.out.grown HA1.out.2 HB1.out.size (fun j hj => by have e : w.heap.size = j := Option.some.inj hj; omega)))
    | (refine wl_byte rfl (.tmp 34) (.tmp 35) rfl w.heap.size v1 (0 + n) bs 0x80 rfl (HA1.out.1.alloc _) w1.heap.size rfl (by simp [bv]) (by simp) (by omega) (Nat.le_trans HB2.out.size (by simp)) ?_
       intro v2 w2 HA2
       have HB3 := Lib.hid ((HB2.out.alloc HB2.out.size (.cells #[.int .u8 128] 5)).grown HA2.out.2 (Nat.le_trans HB2.out.size (by simp)) (fun j hj => (HA1.out.1.lt j hj).1))))
  have HS2 : Shut (w2.ownsRow w.heap.size 5 1 v2 (n + 1 + 0) ((bs ++ [0x80] ++ List.replicate 0 0).map bv) ∧ Below w.heap.size w w2) := ⟨by
    have h1 := HA2.out.1
    rw [Nat.zero_add] at h1
    exact ⟨by rw [List.replicate_zero, List.append_nil, Nat.add_zero]; exact h1, HB3.out⟩⟩
  clear HA1 HA2 HB1 HB2 HB3
  go_loopw [5] (fun v W => ∃ k : Nat, k ≤ zerosN n ∧ Shut (W.ownsRow w.heap.size 5 1 v (n + 1 + k) ((bs ++ [0x80] ++ List.replicate k 0).map bv) ∧ Below w.heap.size w W)) (fun v _ => zerosN n + n + 1 - (match v with | .slice _ m _ => m | _ => 0))
  case atStart => exact ⟨0, Nat.zero_le _, HS2⟩
  case round =>
    clear HS2
    obtain ⟨k, hk, HI⟩ := hrel
    obtain ⟨A5, c5, rfl, _, hc5, hm5, _⟩ := own_slice HI.out.1
    have hszr : w.heap.size ≤ wr.heap.size := HI.out.2.size
    have hz64 : zerosN n < 64 := by unfold zerosN; omega
    by_cases hlt : (n + 1 + k) % 64 = 56
    · have hkz : k = zerosN n := by unfold zerosN at hk ⊢; omega
      have HX : Shut (wr.ownsRow w.heap.size 5 1 (.slice A5 (n + 1 + k) c5) (n + 1 + k) ((bs ++ [0x80] ++ List.replicate (zerosN n) 0).map bv) ∧ Below w.heap.size w wr) := ⟨by rw [← hkz]; exact HI.out⟩
      obtain ⟨X, HXX⟩ : ∃ X, Shut (X = bs ++ [0x80] ++ List.replicate (zerosN n) 0) := ⟨_, ⟨rfl⟩⟩
      rw [← HXX.out] at HX
      have HKZ := Lib.hid hkz
      clear hkz HI hk
      have t56 : (((n : Int) + 1 + (k : Int)) % 64 == 56) = true := by simp; omega
      have t57 : (((n : Int) + 1 + (k : Int)) % 64 != 56) = false := by simp; omega
      have hk63 : k < 64 := by rw [HKZ.out]; exact hz64
      go_wp2_with fail
      go_loopw [5, 7] (fun v i W => ∃ j : Nat, j ≤ 8 ∧ i = .int .i64 (7 - (j : Int)) ∧ Shut (W.ownsRow w.heap.size 5 1 v (n + 1 + k + j) ((X ++ (be8 (8 * n)).take j).map bv) ∧ Below w.heap.size w W)) (fun _ i _ => ((intOf i) + 1).toNat)
      case atStart => exact ⟨0, Nat.zero_le _, rfl, ⟨by rw [List.take_zero, List.append_nil, Nat.add_zero]; exact HX.out.1, HX.out.2⟩⟩
      case round =>
        clear HX
        obtain ⟨j, hj, rfl, HI⟩ := hrel
        have hszr : w.heap.size ≤ wr.heap.size := HI.out.2.size
        by_cases hjl : j < 8
        · have g0 : (0 : Int) ≤ 7 - (j : Int) := by omega
          have e1 : IntKind.u64.wrap (8 * (7 - (j : Int))) = ((8 * (7 - j) : Nat) : Int) := by rw [IntKind.wrap_u64]; omega
          have hb8 : Shut ((be8 (8 * n)).take (j + 1) = (be8 (8 * n)).take j ++ [UInt8.ofNat (8 * n / 2 ^ (8 * (7 - j)))]) := ⟨by
            rw [be8_list (8 * n) (by omega), List.take_succ_eq_append_getElem (by simpa using hjl)]
            simp⟩
          go_wp2_with (first
            | (refine wl_byte rfl (.tmp 52) (.tmp 59) rfl w.heap.size u5 (n + 1 + k + j) (X ++ (be8 (8 * n)).take j) (UInt8.ofNat (8 * n / 2 ^ (8 * (7 - j)))) rfl (HI.out.1.alloc _) wr.heap.size rfl ?hcell (by simp) (by omega) (Nat.le_trans hszr (by simp)) ?_
               case hcell => rw [count_byte]; simp
               intro v2 w2 HA2
               have HB3 := Lib.hid ((HI.out.2.alloc hszr (.cells #[_] 5)).grown HA2.out.2 (Nat.le_trans hszr (by simp)) (fun j hj => (HI.out.1.lt j hj).1))))
          refine ⟨⟨j + 1, by omega, by go_num, ⟨?_, HB3.out⟩⟩, by simp [intOf]; omega⟩
          rw [hb8.out, ← List.append_assoc, ← Nat.add_assoc]
          exact HA2.out.1
        · have hj8 : j = 8 := by omega
          obtain ⟨P, HP⟩ : ∃ P, Shut (P = padded bs) := ⟨_, ⟨rfl⟩⟩
          obtain ⟨N, hNe⟩ : ∃ N, N = n + 1 + k + 8 := ⟨_, rfl⟩
          have hN64 : N % 64 = 0 := by omega
          have hNm : N ≤ 200000 := by omega
          have HI2 : Shut (wr.ownsRow w.heap.size 5 1 u5 N (P.map bv) ∧ Below w.heap.size w wr) := ⟨by
            have h1 := HI.out
            rw [hj8, List.take_of_length_le (by rw [be8_length]; exact Nat.le_refl _), ← hNe] at h1
            have h2 : X ++ be8 (8 * n) = P := by rw [HP.out, HXX.out, padded, HN.out]
            rw [h2] at h1
            exact h1⟩
          have g0 : ¬ (0 : Int) ≤ 7 - (j : Int) := by omega
          clear HI hNe hj8 hj hlt t56 t57 HXX HKZ hk63 hc5 hm5
          obtain ⟨A2, c2, rfl, hPN, hc, hcm, HRP, _⟩ := own_slice HI2.out.1
          have HPN := Lib.hid hPN
          have HRP := Lib.hid HRP
          have HBP := Lib.hid HI2.out.2
          clear hPN HI2
          obtain ⟨FA, fc, KA, kc, hgB, hF, hK, hfc, hfm, hkc, hkm, hRF, hRK⟩ := HT.out
          obtain ⟨fa, rfl, hfb, hfx⟩ : ∃ fa, FA = some fa ∧ fa.block < w.heap.size ∧ ∀ (j : Nat) (u : Value), (H0.list.map uv)[j]? = some u → w.cell? (fa.add j) = some u := by
            rcases hRF with h0 | h0
            · have := congrArg List.length h0
              simp [list_length] at this
            · exact h0
          obtain ⟨ka, rfl, hkb, hkx⟩ : ∃ fa, KA = some fa ∧ fa.block < w.heap.size ∧ ∀ (j : Nat) (u : Value), (KT.map uv)[j]? = some u → w.cell? (fa.add j) = some u := by
            rcases hRK with h0 | h0
            · have := congrArg List.length h0
              rw [List.length_map, KT_length] at this
              cases this
            · exact h0
          have HFX := Lib.hid (And.intro hfb hfx)
          have HKX := Lib.hid (And.intro hkb hkx)
          have HTC := Lib.hid (And.intro hF hK)
          clear hfb hfx hkb hkx hF hK hRF hRK
          have hcF : wr.cell? ⟨g, 0, none⟩ = some (.slice (some fa) 8 fc) := (HBP.out.cell (p := ⟨g, 0, none⟩) hgB).trans HTC.out.1
          have hgr : g < wr.heap.size := Nat.lt_of_lt_of_le hgB hszr
          have HBA := Lib.hid (HBP.out.alloc hszr (.cells #[] 43))
          go_wp2_with (first
            | (refine wl_appendN rfl (.tmp 61) (.tmp 65) 52 43 (.int .u32 0) 4 (by decide) Tryd.underlying52 w32_info rfl rfl wr.heap.size (.slice (some ⟨wr.heap.size, 0, none⟩) 0 0) 0 [] rfl (own_emptyN wr wr.heap.size 43 (Nat.le_refl _)) fa 8 fc (H0.list.map uv) rfl rfl ?hfcell (uv_one _) (by omega) (by simp) ?_
               case hfcell =>
                 intro j u hj
                 refine (HBA.out.cell (p := fa.add j) ?_).trans (HFX.out.2 j u hj)
                 have e4 : (fa.add j).block = fa.block := by unfold Addr.add; split <;> rfl
                 rw [e4]
                 exact HFX.out.1
               intro v8 w8 HA8
               have HB8 := Lib.hid ((below_alloc wr (.cells #[] 43)).grown HA8.out.2.1 (by simp) (fun j hj => by have e : wr.heap.size = j := Option.some.inj hj; omega))))
          obtain ⟨gv, c8, rfl, hgv, hgvs, hc8, hc8m⟩ := own_some (n := 8) HA8.out.1 (by decide)
          have HO8 : Shut (w8.ownsRow wr.heap.size 43 1 (.slice (some ⟨gv, 0, none⟩) 8 c8) 8 (H0.list.map uv) ∧ Below wr.heap.size wr w8) := ⟨HA8.out.1, HB8.out⟩
          clear HA8 HB8 HBA hcF hgr
          generalize wr = wp at *
          obtain ⟨B, hB⟩ : ∃ B, B = wp.heap.size := ⟨_, rfl⟩
          rw [← hB] at HO8 HRP hgv hszr
          have HBB := Lib.hid hB
          clear hB
          go_loopw [5] (fun s W => ∃ (q : Nat) (A' : Option Addr) (c' : Nat), s = .slice A' (N - 64 * q) c' ∧ 64 * q ≤ N ∧ N - 64 * q ≤ c' ∧ c' ≤ 9223372036854775807 ∧ Shut (Rd wp B A' ((P.drop (64 * q)).map bv) ∧ W.ownsRow B 43 1 (.slice (some ⟨gv, 0, none⟩) 8 c8) 8 ((absorb q H0 P).list.map uv) ∧ Below B wp W)) (fun s _ => lenOf s)
          case atStart => exact ⟨0, A2, c2, rfl, Nat.zero_le _, hc, hcm, ⟨HRP.out, HO8.out⟩⟩
          case round =>
            clear HRP HO8 hc hcm
            obtain ⟨q, A', c', rfl, hq, hc', hcm', HI⟩ := hrel
            by_cases hlt : 64 * q < N
            · obtain ⟨ad, rfl, hadb, hadx⟩ : ∃ ad, A' = some ad ∧ ad.block < B ∧ ∀ (j : Nat) (u : Value), ((P.drop (64 * q)).map bv)[j]? = some u → wp.cell? (ad.add j) = some u := by
                rcases HI.out.1 with h0 | h0
                · have := congrArg List.length h0
                  rw [List.length_map, List.length_drop, HPN.out] at this
                  simp at this
                  omega
                · exact h0
              obtain ⟨blk, HBK⟩ : ∃ b, Shut (b = (P.drop (64 * q)).take 64) := ⟨_, ⟨rfl⟩⟩
              have hbx : ∀ j, j < 64 → wp.cell? (ad.add j) = some (.int .u8 ((blk.getD j 0).toNat : Int)) := by
                intro j hj
                have hjl : 64 * q + j < P.length := by rw [HPN.out]; omega
                rw [hadx j (bv P[64 * q + j]) (by rw [List.getElem?_map, List.getElem?_drop, List.getElem?_eq_getElem hjl]; rfl)]
                rw [HBK.out]
                simp [List.getD, hj, List.getElem?_drop, List.getElem?_eq_getElem hjl, bv]
              have HBX := Lib.hid hbx
              clear hadx hbx
              have hM64 : 64 ≤ N - 64 * q := by omega
              have hgB' : g < B := Nat.lt_of_lt_of_le hgB hszr
              have hwB : w.heap.size ≤ B := hszr
              go_upto_block 5 with (fail)
              refine b5_any wp wr B g gv c8 (N - 64 * q) c' kc ad ka blk (absorb q H0 P) hM64 hc' hcm' (by omega) hc8 hc8m hgv (by rw [HBB.out]; exact Nat.le_refl _) hgB' hadb HBX.out hkc hkm (Nat.lt_of_lt_of_le HKX.out.1 hwB) ((HBP.out.cell (p := ⟨g, 1, none⟩) hgB).trans HTC.out.2) (fun t ht => (HBP.out.cell (p := ka.add t) (by rw [add_block]; exact HKX.out.1)).trans (HKX.out.2 t _ (by
                rw [List.getElem?_map, List.getElem?_eq_getElem (by rw [KT_length]; exact ht)]
                simp [uv, List.getD, List.getElem?_eq_getElem (show t < KT.length by rw [KT_length]; exact ht)]))) ⟨HI.out.2.1, HI.out.2.2⟩ _ _ _ _ _ _ _ _ _ _ _ _ _ _ _ _ _ _ _ _ _ _ _ _ _ _ _ _ _ _ _ _ _ _ _ _ _ _ _ _ _ _ _ _ _ _ _ _ _ _ _ _ _ _ _ _ _ _ _ _ _ _ _ _ _ _ _ _ _ _ _ _ _ _ _ _ _ _ _ _ _ _ _ _ _ _ _ _ _ _ _ _ _ _ _ _ _ _ _ _ _ _ _ _ _ _ _ _ _ _ _ _ _ _ _ _ _ _ _ _ _ _ _ _ _ _ _ _ _ _ _ _ _ _ _ _ _ _ _ _ _ _ _ _ _ _ _ _ _ _ _ _ _ _ _ _ _ _ _ _ _ _ _ _ _ _ _ _ _ _ _ _ _ _ _ _ _ _ _ _ _ _ _ _ _ _ _ _ _ _ _ _ _ _ _ _ _ _ _ _ _ _ _ _ _ _ _ _ _ _ _ _ _ _ _ _ _ _ _ _ _ _ _ _ _ _ _ _ _ _ _ _ _ _ _ _ _ _ _ _ _ _ _ _ _ _ _ _ _ _ _ _ _ _ _ _ _ _ _ _ _ _ _ _ _ _ _ _ _ _ _ _ _ _ _ _ _ _ _ _ _ _ _ _ _ _ _ _ _ _ _ _ _ _ _ ?_
              intro f5 w5 H5
              dsimp only [fr5]
              have HN5 : Shut (Rd wp B (some (ad.add 64)) ((P.drop (64 * (q + 1))).map bv) ∧ w5.ownsRow B 43 1 (.slice (some ⟨gv, 0, none⟩) 8 c8) 8 ((absorb (q + 1) H0 P).list.map uv) ∧ Below B wp w5) := ⟨by
                rw [absorb_succ, ← HBK.out]
                refine ⟨?_, H5.out⟩
                have h1 := rd_drop HI.out.1 64 (by decide)
                rw [List.drop_drop] at h1
                exact h1⟩
              clear HI H5 HBX
              by_cases hcc : c' = 64
              · go_wp2_with fail
                refine ⟨⟨q + 1, some ad, 0, ?_, by omega, by omega, by omega, ⟨.inl ?_, HN5.out.2⟩⟩, ?_⟩
                · rw [show N - 64 * (q + 1) = N - 64 * q - 64 by omega]
                · rw [List.map_eq_nil_iff, List.drop_eq_nil_iff, HPN.out]
                  omega
                · show N - 64 * q - 64 < N - 64 * q
                  omega
              · go_wp2_with fail
                refine ⟨⟨q + 1, some (ad.add 64), c' - 64, ?_, by omega, by omega, by omega, HN5⟩, ?_⟩
                · rw [show N - 64 * (q + 1) = N - 64 * q - 64 by omega]
                  rfl
                · show N - 64 * q - 64 < N - 64 * q
                  omega
            · have hq0 : N - 64 * q = 0 := by omega
              have e64 : Shut (regsOf P = absorb q H0 P) := ⟨by unfold regsOf; rw [HPN.out, show N / 64 = q by omega]⟩
              obtain ⟨R, HRR⟩ : ∃ R, Shut (R = regsOf P) := ⟨_, ⟨rfl⟩⟩
              have HV : Shut (wr.ownsRow B 43 1 (.slice (some ⟨gv, 0, none⟩) 8 c8) 8 (R.list.map uv) ∧ Below w.heap.size w wr) := ⟨by rw [HRR.out, e64.out]; exact HI.out.2.1, HBP.out.trans (HI.out.2.2.mono hszr)⟩
              clear HI e64
              have hgvr : gv < wr.heap.size := (HV.out.1.lt gv rfl).2
              have hU : ∀ x, 0 ≤ U x := U_nn
              clear hU
              go_upto_block 16 with (fail)
              refine b16_any wr gv c8 R hc8 hc8m hgvr (fun j hj => own_cell HV.out.1 (by rw [list_length]; exact hj)) _ _ _ _ _ _ _ _ _ _ _ _ _ _ _ _ _ _ _ _ _ _ _ _ _ _ _ _ _ _ _ _ _ _ _ _ _ _ _ _ _ _ _ _ _ _ _ _ _ _ _ _ _ _ _ _ _ _ _ _ _ _ _ _ _ _ _ _ _ _ _ _ _ _ _ _ _ _ _ _ _ _ _ _ _ _ _ _ _ _ _ _ _ _ _ _ _ _ _ _ _ _ _ _ _ _ _ _ _ _ _ _ _ _ _ _ _ _ _ _ _ _ _ _ _ _ _ _ _ _ _ _ _ _ _ _ _ _ _ _ _ _ _ _ _ _ _ _ _ _ _ _ _ _ _ _ _ _ _ _ _ _ _ _ _ _ _ _ _ _ _ _ _ _ _ _ _ _ _ _ _ _ _ _ _ _ _ _ _ _ _ _ _ _ _ _ _ _ _ _ _ _ _ _ _ _ _ _ _ _ _ _ _ _ _ _ _ _ _ _ _ _ _ _ _ _ _ _ _ _ _ _ _ _ _ _ _ _ _ _ _ _ _ _ _ _ _ _ _ _ _ _ _ _ _ _ _ _ _ _ _ _ _ _ _ _ _ _ _ _ _ _ _ _ _ _ _ _ _ _ _ _ _ _ _ _ _ _ _ _ _ _ _ _ ?_
              intro f16 w16 H16
              have HE : Shut (w16.ownsRow w.heap.size 5 1 (f16 29) 32 ((digest bs).map bv) ∧ Below w.heap.size w w16) := ⟨by
                have h1 := H16.out.1
                have e1 : R.list.flatMap wordBytes = digest bs := by
                  rw [digest, ← HP.out, ← HRR.out]
                  rfl
                rw [e1] at h1
                exact own_base h1 HV.out.2.size, HV.out.2.trans (H16.out.2.mono HV.out.2.size)⟩
              clear H16 HV
              dsimp only [fr16]
              go_wp2_with fail
              go_ret
              exact ⟨f16 29, rfl, Lib.hid HE.out⟩
    · have hkz : k < zerosN n := by unfold zerosN at hk ⊢; omega
      have t56 : (((n : Int) + 1 + (k : Int)) % 64 == 56) = false := by simp; omega
      have t57 : (((n : Int) + 1 + (k : Int)) % 64 != 56) = true := by simp; omega
      go_wp2_with (first
        | (refine wl_byte rfl (.tmp 41) (.tmp 42) rfl w.heap.size (.slice A5 (n + 1 + k) c5) (n + 1 + k) (bs ++ [0x80] ++ List.replicate k 0) 0 rfl (HI.out.1.alloc _) wr.heap.size rfl (by simp [bv]) (by simp) (by omega) (Nat.le_trans hszr (by simp)) ?_
           intro v2 w2 HA2
           have HB3 := Lib.hid ((HI.out.2.alloc hszr (.cells #[.int .u8 0] 5)).grown HA2.out.2 (Nat.le_trans hszr (by simp)) (fun j hj => (HI.out.1.lt j hj).1))))
      obtain ⟨A6, c6, rfl, _⟩ := own_slice HA2.out.1
      refine ⟨⟨k + 1, by omega, ⟨?_, HB3.out⟩⟩, ?_⟩
      · have h1 := HA2.out.1
        rw [List.append_assoc (bs ++ [0x80])] at h1
        have e1 : List.replicate k (0 : UInt8) ++ [0] = List.replicate (k + 1) 0 := by rw [List.replicate_succ']
        rw [e1] at h1
        exact h1
      · simp
        omega
end Go.Proofs.YthfpkefieemiaaaDoor

/- What the reference's Encode answers. -/
import Derived.Test.YtcphfgiegpnpeaaDoorPlain
namespace Go.Proofs.YtcphfgiegpnpeaaDoor
open Go.RowKit

theorem fitsB_iff {n : Int} {h : Nat} (hh : h = 1 ∨ h = 2 ∨ h = 4 ∨ h = 8) (hhi : n ≤ 9223372036854775807) : fitsB n h = true ↔ 0 ≤ n ∧ n ≤ (great h : Int) := by
  unfold fitsB
  rw [decide_eq_true_iff]
  rcases hh with rfl | rfl | rfl | rfl <;> simp only [great] <;> simp <;> omega
/-- What the reference's Encode hands back. -/
def RefR (w : World) (r : Except Nat (List UInt8)) (X : Option Addr) (n c : Nat) (j : Int) : Prop :=
  match r with
  | .error k => X = none ∧ n = 0 ∧ c = 0 ∧ k < 5 ∧ j = (numOf k : Int)
  | .ok x => j = 0 ∧ n = x.length ∧ n ≤ c ∧ c ≤ maxLen ∧ n ≤ 68721573888 ∧ Rd w w.heap.size X (x.map bv)
theorem step_append_rd (w : World) {ops : Array Oper} {o : Oper} {a : Act} {K : Act → World → Prop} {Q : Exit → Act → World → Prop} {E : Prop} (hgd : o.guard = none) (t x : Operand)
    (ho : o.op = .call { callee := .builtin .append, args := #[t, x], argTypes := #[24, 24] }) (base : Nat) (v : Value) (n : Nat) (xs : List Value) (hs : a.eval t = v) (hown : w.ownsRow base 5 1 v n xs) (B : Nat) (A : Option Addr) (m c : Nat) (bs : List UInt8)
    (hx : a.eval x = .slice A m c) (hm : bs.length = m) (hr : Rd w B A (bs.map bv)) (hb : n + m ≤ 140737488355328) (hbase : base ≤ w.heap.size)
    (h : ∀ v' w', w'.ownsRow base 5 1 v' (n + m) (xs ++ bs.map bv) → w.grownBy w' v.ownBlock → (v'.ownBlock = v.ownBlock ∨ v'.ownBlock = some w.heap.size) → K (a.put o.dst v') w') :
    if Region.wanted o (yielded ops a.tmps) = true then Oper.wp Tryd.prog o a w K Q else E := by
  have hw : Region.wanted o (yielded ops a.tmps) = true := by simp [Region.wanted, hgd]
  rw [if_pos hw]
  obtain ⟨v', w', hr2, h2, h3, h4⟩ := run_append_rd w base v n xs hown B A m c bs hm hr hb hbase o.type
  unfold Oper.wp execOp
  simp only [ho, resolve, invoke, builtin, Sem.run_bind, Sem.run_pure, Result.andThen_ok, List.map_toArray, List.map_cons, List.map_nil, hs, hx, hr2]
  exact h v' w' h2 h3 h4

theorem rd_of_own {w : World} {base : Nat} {A : Option Addr} {n c : Nat} {bs : List UInt8} (h : w.ownsRow base 5 1 (.slice A n c) n (bs.map bv)) : Rd w w.heap.size A (bs.map bv) := by
  obtain ⟨A', c', e, _, _, _, h⟩ := own_slice h
  injection e with e _ _
  rw [e]
  exact h
theorem ne_own {B : Nat} {v v' : Value} {W : World} (h : some B ≠ v.ownBlock) (hat : v'.ownBlock = v.ownBlock ∨ v'.ownBlock = some W.heap.size) (hB : B < W.heap.size) : some B ≠ v'.ownBlock := by
  rcases hat with e | e
  · rw [e]; exact h
  · rw [e]; intro h; injection h with h; omega

set_option maxHeartbeats 400000 in
theorem rencode_state (s : ByteArray) (n cap : Nat) (A : Option Addr) (w : World) (hs : s.size ≤ maxLen) (h : ¬ (kn s.data.toList = true ∧ n = s.size)) :
    Calls Tryd.prog 14 #[.string s, .slice A n cap] w fun e w' => e = .returned (.tuple #[.slice none 0 0, .int .i64 17]) ∧ w = w' := by
  have hs' : s.size ≤ 9223372036854775807 := hs
  go_enter Tryd.func14, Tryd.ntmps14
  go_wp2_with fail
  with_reducible refine (rknown_any s w hs).mono ?_
  rintro e w1 ⟨rfl, rfl⟩
  cases hk : kn s.data.toList
  · have HK := Lib.hid hk
    clear hk h
    go_wp2_with fail
    go_ret2
    exact ⟨rfl, rfl⟩
  · have hne : n ≠ s.size := fun e => h ⟨hk, e⟩
    have hne' : ((s.size : Int) == (n : Int)) = false := by simp; omega
    have HK := Lib.hid hk
    clear hk h
    go_wp2_with fail
    go_ret2
    exact ⟨rfl, rfl⟩


def RencP (w w' : World) (r : Except Nat Nat) (x : List UInt8) (v : Value) (j : Int) : Prop := match r with
  | .error k => v = .slice none 0 0 ∧ j = (numOf k : Int)
  | .ok _ => j = 0 ∧ w'.ownsRow w.heap.size 5 1 v x.length (x.map bv)
set_option maxHeartbeats 400000 in
theorem rencode_known (s : ByteArray) (cap : Nat) (A : Option Addr) (cs : List FC) (w : World) (hk : kn s.data.toList = true) (hn : cs.length = s.size) (hcs : CsR w w.heap.size A cs) (hok : ∀ x ∈ cs, x.ok) (hbig : s.size ≤ 1048576) :
    Calls Tryd.prog 14 #[.string s, .slice A s.size cap] w fun e w' => ∃ v j, e = .returned (.tuple #[v, .int .i64 j]) ∧ Hid (RencP w w' (sumS s.data.toList cs) (encB s.data.toList cs) v j ∧ Below w.heap.size w w') := by
  have HK := Lib.hid hk
  have HN := Lib.hid hn
  have HC := Lib.hid hcs
  have HO := Lib.hid hok
  clear hk hn hcs hok
  go_enter Tryd.func14, Tryd.ntmps14
  go_wp2_with fail
  with_reducible refine (rknown_any s w (by simp only [maxLen]; omega)).mono ?_
  rintro e w1 ⟨rfl, rfl⟩
  rw [HK.out]
  go_wp2_with fail
  go_loopw [6, 24] (fun v i W => ∃ k : Nat, k ≤ s.size ∧ i = .int .i64 k ∧ Hid ((∃ m, sumS (s.data.toList.take k) (cs.take k) = .ok m) ∧ W.ownsRow w.heap.size 5 1 v (encB (s.data.toList.take k) (cs.take k)).length ((encB (s.data.toList.take k) (cs.take k)).map bv) ∧ Below w.heap.size w W)) (fun _ i _ => s.size - (intOf i).toNat)
  case atStart => exact ⟨0, Nat.zero_le _, rfl, Lib.hid ⟨⟨0, by simp [sumS]⟩, by simpa [encB] using own_empty w w.heap.size (Nat.le_refl _), (Below.refl _ _).alloc (Nat.le_refl _) _⟩⟩
  case round =>
    obtain ⟨k, hk, rfl, HR⟩ := hrel
    by_cases hlt : k < s.size
    · have hkc : k < cs.length := by rw [HN.out]; exact hlt
      obtain ⟨b, o, rfl, hbB, hc0, hc1, hc2⟩ := (HC.out.keep HR.out.2.2).at_ hkc
      have hle : (encB (s.data.toList.take k) (cs.take k)).length ≤ 68721573888 := by
        obtain ⟨m, hm⟩ := HR.out.1
        have h1 := encB_length hm
        have h2 := sumS_le hm
        rw [List.length_take] at h2
        omega
      have HST := Lib.hid (encB_step (l := s.data.toList) (cs := cs) (k := k) (by simpa using hlt) hkc)
      have hgo : ∀ n, sizeS s[k].toNat cs[k] = .ok n → ∃ m, sumS (s.data.toList.take (k + 1)) (cs.take (k + 1)) = .ok m := by
        intro n hz
        obtain ⟨m, hm⟩ := HR.out.1
        exact ⟨_, sumS_step (by simpa using hlt) hkc hm hz⟩
      have hstop : ∀ e, sizeS s[k].toNat cs[k] = .error e → sumS s.data.toList cs = .error e := by
        intro e hz
        obtain ⟨m, hm⟩ := HR.out.1
        exact sumS_stop (by simpa using hlt) hkc hm hz
      have e1 : s.data.toList[k]'(by simpa using hlt) = s[k] := rfl
      rw [e1] at HST
      clear e1
      have HXO : Hid cs[k].ok := Lib.hid (HO.out _ (List.getElem_mem hkc))
      have HZ := Lib.hid (kn_get HK.out hlt)
      generalize cs[k] = x at *
      have hx1 : -9223372036854775808 ≤ x.n := HXO.out.1
      have hx2 : x.n ≤ 9223372036854775807 := HXO.out.2.1
      have hx3 : x.f < 18446744073709551616 := HXO.out.2.2.1
      have hx4 : x.s.size ≤ 9223372036854775807 := HXO.out.2.2.2
      generalize hC : s[k].toNat = c at *
      have HCC := Lib.hid hC
      clear hC
      have HGO := Lib.hid hgo
      have HSTOP := Lib.hid hstop
      clear hgo hstop
      generalize hEB : encB (s.data.toList.take k) (cs.take k) = eb at *
      have HEB := Lib.hid hEB
      clear hEB
      have hbw : b < wr.heap.size := Nat.lt_of_lt_of_le hbB HR.out.2.2.size
      have hszW : w.heap.size ≤ wr.heap.size := HR.out.2.2.size
      have hkI : (0 : Int) ≤ (k : Int) := by omega
      have hkI2 : (k : Int) < (s.size : Int) := by omega
      go_wp2_with fail
      rw [HCC.out]
      with_reducible refine (letter_any c _).mono ?_
      rintro e w1 ⟨rfl, rfl⟩
      have HOW := Lib.hid (HR.out.2.1.alloc (.cells #[.int .i64 x.n, .int .u64 (x.f : Int), .string x.s] 65))
      have HBW := Lib.hid (HR.out.2.2.alloc hszW (.cells #[.int .i64 x.n, .int .u64 (x.f : Int), .string x.s] 65))
      have hd0 : (wr.alloc (.cells #[.int .i64 x.n, .int .u64 (x.f : Int), .string x.s] 65)).cell? ⟨wr.heap.size, 0, none⟩ = some (.int .i64 x.n) := by simp
      have hd1 : (wr.alloc (.cells #[.int .i64 x.n, .int .u64 (x.f : Int), .string x.s] 65)).cell? ⟨wr.heap.size, 1, none⟩ = some (.int .u64 (x.f : Int)) := by simp
      have hd2 : (wr.alloc (.cells #[.int .i64 x.n, .int .u64 (x.f : Int), .string x.s] 65)).cell? ⟨wr.heap.size, 2, none⟩ = some (.string x.s) := by simp
      have hHW : wr.heap.size < (wr.alloc (.cells #[.int .i64 x.n, .int .u64 (x.f : Int), .string x.s] 65)).heap.size := by simp
      have hne : some wr.heap.size ≠ u6.ownBlock := by
        intro e
        have := HR.out.2.1.lt _ e.symm
        omega
      generalize wr.alloc (.cells #[.int .i64 x.n, .int .u64 (x.f : Int), .string x.s] 65) = W at *
      generalize wr.heap.size = B at *
      have hszW2 : w.heap.size ≤ W.heap.size := HBW.out.size
      have hq := hd_cases HZ.out
      by_cases hf : c = 102
      · have hf' : ((s[k].toNat : Int) == 102) = true := by rw [HCC.out]; simp [hf]
        have HF : Hid (fieldB c x = be 8 x.f ∧ sizeS c x = .ok 8) := Lib.hid (by subst hf; exact ⟨rfl, rfl⟩)
        go_wp2_with fail
        refine (rnumber_any x.f 8 W (by omega) hx3).mono ?_
        rintro e w2 ⟨rfl, HN2⟩
        have HR2 : Hid (Rd w2 w2.heap.size (some ⟨W.heap.size, 0, none⟩) ((be 8 x.f).map bv)) := Lib.hid (rd_of_own HN2.out.1)
        have HO2 := Lib.hid (own_below HOW.out HN2.out.2)
        have HB2 := Lib.hid (HBW.out.trans (HN2.out.2.mono hszW2))
        go_wp2_with (first
          | (at_builtin
             refine wpList_append_rd _ rfl (.tmp 53) (.tmp 56) rfl w.heap.size _ _ _ rfl HO2.out w2.heap.size _ 8 8 (be 8 x.f) rfl (be_length _ _) HR2.out (by omega) HB2.out.size ?_
             intro v3 w3 hown3 hg3 hat3))
        refine ⟨⟨k + 1, by omega, by go_num, Lib.hid ⟨HGO.out _ HF.out.2, ?_, HB2.out.grown hg3 HB2.out.size (fun j hj => (HO2.out.lt j hj).1)⟩⟩, by simp [intOf]; omega⟩
        rw [HST.out, HF.out.1, List.length_append, List.map_append, be_length]
        exact hown3
      · have hf' : ((s[k].toNat : Int) == 102) = false := by rw [HCC.out]; simp; omega
        cases hT : isT c
        · have HT := Lib.hid hT
          clear hT
          have HFI := Lib.hid (fitsB_iff hq hx2)
          cases hB : fitsB x.n (hd c)
          · have HBF := Lib.hid hB
            clear hB
            have HE : Hid (sizeS c x = .error 3) := Lib.hid (by
              have h1 : ¬ (0 ≤ x.n ∧ x.n ≤ (great (hd c) : Int)) := fun h => by rw [HFI.out.2 h] at HBF; cases HBF.out
              unfold sizeS
              rw [if_neg hf, HT.out, if_neg (by simp), if_pos (by omega)])
            go_wp2_with fail
            with_reducible refine (fits_any x.n (hd c) _ (by omega) hx1 hx2).mono ?_
            rintro e w2 ⟨rfl, rfl⟩
            rw [HBF.out]
            go_wp2_with fail
            go_ret2
            refine ⟨_, 1, rfl, Lib.hid ⟨?_, HBW.out⟩⟩
            rw [HSTOP.out _ HE.out]
            exact ⟨rfl, by decide⟩
          · have HBF := Lib.hid hB
            clear hB
            have hx0 := HFI.out.1 HBF.out
            have HE : Hid (sizeS c x = .ok (hd c)) := Lib.hid (by
              unfold sizeS
              rw [if_neg hf, HT.out, if_neg (by simp), if_neg (by omega)])
            obtain ⟨N, hN⟩ := Int.eq_ofNat_of_zero_le hx0.1
            have HFB : Hid (fieldB c x = be (hd c) N) := Lib.hid (by
              unfold fieldB
              rw [if_neg hf, HT.out, if_neg (by simp), hN]
              rfl)
            clear hx0
            have hw := u64_in (a := (N : Int)) (by omega) (by omega)
            rw [hN] at hd0
            have HFA : ∀ W, Hid (Calls Tryd.prog 32 #[.int .i64 (N : Int), .int .i64 (hd c : Int)] W fun e w' => e = .returned (.bool true) ∧ W = w') := fun W => Lib.hid (by
              have := fits_any x.n (hd c) W (by omega) hx1 hx2
              rw [HBF.out, hN] at this
              exact this)
            go_wp2_with fail
            with_reducible refine (HFA _).out.mono ?_
            rintro e w2 ⟨rfl, rfl⟩
            go_wp2_with fail
            with_reducible refine (rnumber_any N (hd c) W (by omega) (by omega)).mono ?_
            rintro e w2 ⟨rfl, HN2⟩
            have HR2 : Hid (Rd w2 w2.heap.size (some ⟨W.heap.size, 0, none⟩) ((be (hd c) N).map bv)) := Lib.hid (rd_of_own HN2.out.1)
            have HO2 := Lib.hid (own_below HOW.out HN2.out.2)
            have HB2 := Lib.hid (HBW.out.trans (HN2.out.2.mono hszW2))
            go_wp2_with (first
              | (at_builtin
                 refine wpList_append_rd _ rfl (.tmp 41) (.tmp 46) rfl w.heap.size _ _ _ rfl HO2.out w2.heap.size _ (hd c) (hd c) (be (hd c) N) rfl (be_length _ _) HR2.out (by omega) HB2.out.size ?_
                 intro v3 w3 hown3 hg3 hat3))
            refine ⟨⟨k + 1, by omega, by go_num, Lib.hid ⟨HGO.out _ HE.out, ?_, HB2.out.grown hg3 HB2.out.size (fun j hj => (HO2.out.lt j hj).1)⟩⟩, by simp [intOf]; omega⟩
            rw [HST.out, HFB.out, List.length_append, List.map_append, be_length]
            exact hown3
        · have HT := Lib.hid hT
          clear hT
          have HFI := Lib.hid (fitsB_iff (n := (x.s.size : Int)) hq (by omega))
          cases hB : fitsB (x.s.size : Int) (hd c)
          · have HBF := Lib.hid hB
            clear hB
            have HE : Hid (sizeS c x = .error 4) := Lib.hid (by
              have h1 : ¬ (0 ≤ (x.s.size : Int) ∧ (x.s.size : Int) ≤ (great (hd c) : Int)) := fun h => by rw [HFI.out.2 h] at HBF; cases HBF.out
              unfold sizeS
              rw [if_neg hf, if_pos HT.out, if_pos (by omega)])
            go_wp2_with fail
            with_reducible refine (fits_any (x.s.size : Int) (hd c) _ (by omega) (by omega) (by omega)).mono ?_
            rintro e w2 ⟨rfl, rfl⟩
            rw [HBF.out]
            go_wp2_with fail
            go_ret2
            refine ⟨_, 3, rfl, Lib.hid ⟨?_, HBW.out⟩⟩
            rw [HSTOP.out _ HE.out]
            exact ⟨rfl, by decide⟩
          · have HBF := Lib.hid hB
            clear hB
            have hx0 := HFI.out.1 HBF.out
            have HE : Hid (sizeS c x = .ok (hd c + x.s.size)) := Lib.hid (by
              unfold sizeS
              rw [if_neg hf, if_pos HT.out, if_neg (by omega)])
            have hsl := sizeS_text HE.out HT.out
            have HFB : Hid (fieldB c x = be (hd c) x.s.size ++ x.s.data.toList) := Lib.hid (by
              unfold fieldB
              rw [if_neg hf, if_pos HT.out])
            clear hx0
            have hw := u64_in (a := (x.s.size : Int)) (by omega) (by omega)
            go_wp2_with fail
            with_reducible refine (fits_any (x.s.size : Int) (hd c) _ (by omega) (by omega) (by omega)).mono ?_
            rintro e w2 ⟨rfl, rfl⟩
            rw [HBF.out]
            go_wp2_with fail
            have HCON : Hid (Calls Tryd.prog 31 #[.int .u64 (x.s.size : Int), .int .i64 (hd c : Int)] W.drew fun e w' => e = .returned (.slice (some ⟨W.heap.size, 0, none⟩) (hd c) (hd c)) ∧ Hid (w'.ownsRow W.heap.size 5 1 (.slice (some ⟨W.heap.size, 0, none⟩) (hd c) (hd c)) (hd c) ((be (hd c) x.s.size).map bv) ∧ Below W.heap.size W w')) := Lib.hid (by
              refine (rnumber_any x.s.size (hd c) W.drew (by omega) (by omega)).mono fun e w' ⟨he, hh⟩ => ⟨he, Lib.hid ⟨hh.out.1, ?_⟩⟩
              exact (Below.refl W.heap.size W).drew.trans hh.out.2)
            go_region_held3 (fun w' => w'.cell? ⟨B, 2, none⟩ = some (.string x.s))
              (first | go_keep
                     | exact (HN2.out.2.cell (p := ⟨B, 2, none⟩) hHW).trans hd2
                     | exact hg3.cell ((HN2.out.2.cell (p := ⟨B, 2, none⟩) hHW).trans hd2) hne
                     | exact hg4.cell (hg3.cell ((HN2.out.2.cell (p := ⟨B, 2, none⟩) hHW).trans hd2) hne) (ne_own hne hat3 (Nat.lt_of_lt_of_le hHW HN2.out.2.size)))
              (first
                | (go_at_call 31; (with_reducible refine HCON.out.mono ?_); rintro e w2 ⟨rfl, HN2⟩)
                | (refine step_append_rd _ ?_ (.tmp 66) (.tmp 72) ?_ w.heap.size u6 eb.length (eb.map bv) ?_ ?_ w2.heap.size (some ⟨W.heap.size, 0, none⟩) (hd c) (hd c) (be (hd c) x.s.size) ?_ ?_ ?_ ?_ ?_ ?_; exact rfl; exact rfl; exact rfl; exact own_below HOW.out HN2.out.2; exact rfl; exact be_length _ _; exact rd_of_own HN2.out.1; omega; exact Nat.le_trans hszW2 HN2.out.2.size; intro v3 w3 hown3 hg3 hat3)
                | (refine step_append_str _ ?_ (.tmp 73) (.tmp 75) ?_ w.heap.size v3 (eb.length + hd c) (eb.map bv ++ (be (hd c) x.s.size).map bv) x.s ?_ ?_ ?_ ?_ ?_ ?_ ?_; exact rfl; exact rfl; exact rfl; exact rfl; exact hown3; omega; omega; exact Nat.le_trans (Nat.le_trans hszW2 HN2.out.2.size) hg3.size; intro v4 w4 hown4 hg4 hat4))
            have HO2 := Lib.hid (own_below HOW.out HN2.out.2)
            have HB2 := Lib.hid (HBW.out.trans (HN2.out.2.mono hszW2))
            have HB3 := Lib.hid (HB2.out.grown hg3 HB2.out.size (fun j hj => (HO2.out.lt j hj).1))
            have HB4 := Lib.hid (HB3.out.grown hg4 HB3.out.size (fun j hj => (hown3.lt j hj).1))
            have HO4 := Lib.hid hown4
            clear hown4 hg4 hat4 hown3 hg3 hat3 HN2 HCON
            go_wp2_with fail
            refine ⟨⟨k + 1, by omega, by go_num, Lib.hid ⟨HGO.out _ HE.out, ?_, HB4.out⟩⟩, by simp [intOf]; omega⟩
            rw [HST.out, HFB.out]
            have h4 := HO4.out
            rw [List.append_assoc, ← List.map_append, ← List.map_append] at h4
            have e : (eb ++ (be (hd c) x.s.size ++ x.s.data.toList)).length = eb.length + hd c + x.s.size := by
              rw [List.length_append, List.length_append, be_length]
              simp
              omega
            rw [e]
            exact h4
    · go_wp2_with fail
      go_ret2
      refine ⟨_, 0, rfl, Lib.hid ⟨?_, HR.out.2.2⟩⟩
      have h1 := HR.out
      show RencP _ _ _ _ u6 0
      rw [List.take_of_length_le (by simp; omega), List.take_of_length_le (by rw [HN.out]; omega)] at h1
      obtain ⟨⟨m, hm⟩, h2, _⟩ := h1
      rw [hm]
      exact ⟨rfl, h2⟩
end Go.Proofs.YtcphfgiegpnpeaaDoor

/- The document's pair: Write, Shut, Carry, Take. -/
import Derived.Test.YtlceemaannndbaaDoorRefd
namespace Go.Proofs.YtlceemaannndbaaDoor
open Go.RowKit

theorem RefV.drewN {w : World} {B : Nat} {F : Nat → Prop} {g : Nat} {P : Rp} {v : Nat → Value} (h : RefV w B F g P v) (n : Nat) : RefV (w.drewN n) B F g P v := h.keep (Nat.le_refl _) (fun _ _ => rfl)
def Rp.setShut (P : Rp) (i : Nat) : Rp := P.put i { P.ws i with shut := true }
theorem rput_ok {P : Rp} (h : P.ok) (i : Nat) (W : Ry) (h1 : W.rd ≤ W.car) (h2 : W.car ≤ W.all.length) (h3 : W.all.length ≤ W.rd + P.room) (h4 : W.all.length ≤ 70368744177664) : (P.put i W).ok := by
  refine ⟨h.room, fun j => ?_, fun j => ?_, fun j => ?_, fun j => ?_⟩ <;> by_cases e : j = i
  · subst e; rw [Rp.put_same]; exact h1
  · rw [Rp.put_other _ _ e]; exact h.rd j
  · subst e; rw [Rp.put_same]; exact h2
  · rw [Rp.put_other _ _ e]; exact h.car j
  · subst e; rw [Rp.put_same]; exact h3
  · rw [Rp.put_other _ _ e]; exact h.left j
  · subst e; rw [Rp.put_same]; exact h4
  · rw [Rp.put_other _ _ e]; exact h.big j
set_option maxHeartbeats 1000000 in
theorem rshut_ok {B : Nat} {F : Nat → Prop} {P : Rp} (g i : Nat) (w : World) (h : RefAt w B F g P) (hi : i < 2) (hc : P.cut = false) :
    Calls Tryd.prog 16 #[.pointer (some ⟨g, 0, none⟩), .int .i64 (i : Int)] w fun x w' => x = .returned (.int .i64 0) ∧ Hid (RefAt w' B F g (P.setShut i) ∧ Turn F w w') := by
  obtain ⟨v, h, hok⟩ := h
  obtain ⟨A, cap, _, h1, h2, c0, c1, c2, c3⟩ := h.at hi
  have cc := h.cut
  rw [hc] at cc
  have f3 := h.row.frozen (1 + i * 4 + 3)
  have HV := Lib.hid h
  have HK := Lib.hid hok
  clear h hc hok
  go_enter Tryd.func16, Tryd.ntmps16
  go_wp2_with (first
    | (go_at_call 33; (with_reducible refine (rend_true _ hi _).mono ?_); rintro x w' ⟨rfl, rfl⟩))
  go_ret
  exact ⟨rfl, Lib.hid ⟨⟨v, HV.out.setShut hi true, rput_ok HK.out i _ (HK.out.rd i) (HK.out.car i) (HK.out.left i) (HK.out.big i)⟩, HV.out.turn_set _ _⟩⟩
theorem rshut_cut {B : Nat} {F : Nat → Prop} {P : Rp} (g i : Nat) (w : World) (h : RefAt w B F g P) (hi : i < 2) (hc : P.cut = true) :
    Calls Tryd.prog 16 #[.pointer (some ⟨g, 0, none⟩), .int .i64 (i : Int)] w fun x w' => x = .returned (.int .i64 5) ∧ w = w' := by
  obtain ⟨v, h, hok⟩ := h
  have cc := h.cut
  rw [hc] at cc
  clear h hc hok
  go_enter Tryd.func16, Tryd.ntmps16
  go_wp2_with (first
    | (go_at_call 33; (with_reducible refine (rend_true _ hi _).mono ?_); rintro x w' ⟨rfl, rfl⟩))
  go_ret
  exact ⟨rfl, rfl⟩
theorem rshut_bad (a : Addr) (e : Int) (w : World) (h : endB e = false) :
    Calls Tryd.prog 16 #[.pointer (some a), .int .i64 e] w fun x w' => x = .returned (.int .i64 1) ∧ w = w' := by
  have HE := Lib.hid h
  clear h
  go_enter Tryd.func16, Tryd.ntmps16
  go_wp2_with (first
    | (go_at_call 33; (with_reducible refine (rend_false _ HE.out _).mono ?_); rintro x w' ⟨rfl, rfl⟩))
  go_ret
  exact ⟨rfl, rfl⟩

def Rp.moved (P : Rp) (i n : Nat) : Nat := min n ((P.ws i).all.length - (P.ws i).car)
def Rp.carry (P : Rp) (i n : Nat) : Rp := P.put i { P.ws i with car := (P.ws i).car + P.moved i n }
theorem rcarry_is_ok {P : Rp} (h : P.ok) (i n : Nat) : (P.carry i n).ok := by
  have k1 := h.rd i
  have k2 := h.car i
  refine rput_ok h i _ ?_ ?_ (h.left i) (h.big i)
  · show (P.ws i).rd ≤ (P.ws i).car + P.moved i n
    omega
  · show (P.ws i).car + P.moved i n ≤ (P.ws i).all.length
    rw [Rp.moved]; omega
set_option maxHeartbeats 1000000 in
theorem rcarry_ok {B : Nat} {F : Nat → Prop} {P : Rp} (g i n : Nat) (w : World) (h : RefAt w B F g P) (hi : i < 2) (hc : P.cut = false) (hn : n ≤ 9223372036854775807) :
    Calls Tryd.prog 18 #[.pointer (some ⟨g, 0, none⟩), .int .i64 (i : Int), .int .i64 (n : Int)] w fun x w' => x = .returned (.tuple #[.int .i64 (P.moved i n : Int), .int .i64 0]) ∧ Hid (RefAt w' B F g (P.carry i n) ∧ Turn F w w') := by
  obtain ⟨v, h, hok⟩ := h
  obtain ⟨A, cap, _, h1, h2, c0, c1, c2, c3⟩ := h.at hi
  have cc := h.cut
  rw [hc] at cc
  have f1 := h.row.frozen (1 + i * 4 + 1)
  have k1 := hok.rd i
  have k2 := hok.car i
  have k5 := hok.big i
  have HV := Lib.hid h
  have HCA := Lib.hid (rcarry_is_ok hok i n)
  have HM : Hid (P.moved i n = min n ((P.ws i).all.length - (P.ws i).car)) := Lib.hid rfl
  clear h hc hok
  have hneg : ¬ (n : Int) < 0 := by omega
  rcases Nat.lt_or_ge ((P.ws i).all.length - (P.ws i).car) n with hge | hlt
  · have hge' : (((P.ws i).all.length : Int) - ((P.ws i).car : Int)) < (n : Int) := by omega
    have HM2 : Hid (P.moved i n = (P.ws i).all.length - (P.ws i).car) := Lib.hid (by rw [HM.out]; omega)
    have HP : Hid (P.carry i n = P.put i { P.ws i with car := (P.ws i).all.length }) := Lib.hid (by rw [Rp.carry, HM2.out, Nat.add_sub_cancel' k2])
    go_enter Tryd.func18, Tryd.ntmps18
    go_wp2_with (first
      | (go_at_call 33; (with_reducible refine (rend_true _ hi _).mono ?_); rintro x w' ⟨rfl, rfl⟩))
    go_quiet (fail)
    go_wp2_with fail
    go_quiet (fail)
    go_wp2_with fail
    go_ret2
    refine ⟨ret_two (by rw [HM2.out]; omega), Lib.hid ⟨⟨v, ?_, HCA.out⟩, ?_⟩⟩
    · rw [HP.out]
      exact (HV.out.drewN _).setCar hi _ _ (by omega)
    · exact ((Stay.drewN w _).turn F).setCell _ (fun _ => HV.out.self) _
  · have hge' : ¬ (((P.ws i).all.length : Int) - ((P.ws i).car : Int)) < (n : Int) := by omega
    have HM2 : Hid (P.moved i n = n) := Lib.hid (by rw [HM.out]; omega)
    have HP : Hid (P.carry i n = P.put i { P.ws i with car := (P.ws i).car + n }) := Lib.hid (by rw [Rp.carry, HM2.out])
    go_enter Tryd.func18, Tryd.ntmps18
    go_wp2_with (first
      | (go_at_call 33; (with_reducible refine (rend_true _ hi _).mono ?_); rintro x w' ⟨rfl, rfl⟩))
    go_quiet (fail)
    go_wp2_with fail
    go_ret2
    refine ⟨ret_two (by rw [HM2.out]), Lib.hid ⟨⟨v, ?_, HCA.out⟩, ?_⟩⟩
    · rw [HP.out]
      exact (HV.out.drewN _).setCar hi _ _ (by omega)
    · exact ((Stay.drewN w _).turn F).setCell _ (fun _ => HV.out.self) _
theorem rcarry_cut {B : Nat} {F : Nat → Prop} {P : Rp} (g i n : Nat) (w : World) (h : RefAt w B F g P) (hi : i < 2) (hc : P.cut = true) :
    Calls Tryd.prog 18 #[.pointer (some ⟨g, 0, none⟩), .int .i64 (i : Int), .int .i64 (n : Int)] w fun x w' => x = .returned (.tuple #[.int .i64 0, .int .i64 5]) ∧ w = w' := by
  obtain ⟨v, h, hok⟩ := h
  have cc := h.cut
  rw [hc] at cc
  clear h hc hok
  have hneg : ¬ (n : Int) < 0 := by omega
  go_enter Tryd.func18, Tryd.ntmps18
  go_wp2_with (first
    | (go_at_call 33; (with_reducible refine (rend_true _ hi _).mono ?_); rintro x w' ⟨rfl, rfl⟩))
  go_ret2
  exact ⟨rfl, rfl⟩
theorem rcarry_bad (a : Addr) (e n : Int) (w : World) (h : (endB e && decide (0 ≤ n)) = false) :
    Calls Tryd.prog 18 #[.pointer (some a), .int .i64 e, .int .i64 n] w fun x w' => x = .returned (.tuple #[.int .i64 0, .int .i64 1]) ∧ w = w' := by
  cases he : endB e
  · have HE := Lib.hid he
    clear he h
    go_enter Tryd.func18, Tryd.ntmps18
    go_wp2_with (first
      | (go_at_call 33; (with_reducible refine (rend_false _ HE.out _).mono ?_); rintro x w' ⟨rfl, rfl⟩))
    go_ret2
    exact ⟨rfl, rfl⟩
  · have hneg : n < 0 := by rw [he] at h; simp at h; exact h
    have HE := Lib.hid he
    clear he h
    go_enter Tryd.func18, Tryd.ntmps18
    go_wp2_with (first
      | (go_at_call 33; (with_reducible refine (rend_any _ _).mono ?_); rintro x w' ⟨rfl, rfl⟩; rw [HE.out]))
    go_ret2
    exact ⟨rfl, rfl⟩

def Rp.puts (P : Rp) (i n : Nat) : Nat := min n (P.free i)
def Rp.wrote (P : Rp) (i : Nat) (bs : List UInt8) : Rp := P.put i { P.ws i with all := (P.ws i).all ++ bs.take (P.puts i bs.length) }
theorem rfree_le (P : Rp) (i : Nat) : P.free i ≤ P.room - ((P.ws i).all.length - (P.ws i).rd) := by unfold Rp.free; split <;> omega
theorem rwrote_is_ok {P : Rp} (h : P.ok) (i : Nat) (bs : List UInt8) (hb : (P.ws i).all.length ≤ 70368744111616) : (P.wrote i bs).ok := by
  have k1 := h.rd i
  have k2 := h.car i
  have k3 := h.left i
  have k4 := h.room
  have k5 := rfree_le P i
  refine rput_ok h i _ (h.rd i) ?_ ?_ ?_
  · show (P.ws i).car ≤ ((P.ws i).all ++ bs.take (P.puts i bs.length)).length
    rw [List.length_append]; omega
  · show ((P.ws i).all ++ bs.take (P.puts i bs.length)).length ≤ (P.ws i).rd + P.room
    rw [List.length_append, List.length_take, Rp.puts]; omega
  · show ((P.ws i).all ++ bs.take (P.puts i bs.length)).length ≤ 70368744177664
    rw [List.length_append, List.length_take, Rp.puts]; omega
def RefTo (w w' : World) (B : Nat) (F : Nat → Prop) (g : Nat) (P : Rp) : Prop := ∃ F' : Nat → Prop, RefAt w' B F' g P ∧ ∀ k, F' k → F k ∨ w.heap.size ≤ k
theorem rwrote_at {w w1 w2 : World} {B : Nat} {F : Nat → Prop} {g i : Nat} {P : Rp} {v : Nat → Value} (h : RefV w B F g P v) (hi : i < 2) (bs : List UInt8) (hok : (P.wrote i bs).ok) (hst : Stay w w1) (v' : Value) (A : Value) (hA : v i = A)
    (H : Span w2 v' ((P.ws i).all ++ bs.take (P.puts i bs.length)) ∧ Turn (fun k => A.ownBlock = some k) w1 w2 ∧ (v'.ownBlock = A.ownBlock ∨ ∃ k, v'.ownBlock = some k ∧ w1.heap.size ≤ k)) :
    RefTo w (w2.setCell ⟨g, 1 + i * 4, none⟩ v') B F g (P.wrote i bs) ∧ Turn F w (w2.setCell ⟨g, 1 + i * 4, none⟩ v') := by
  subst hA
  obtain ⟨h1, h2, h3⟩ := H
  have hz : w1.heap.size = w.heap.size := by rw [hst.heap]
  have hsz : w.heap.size ≤ w2.heap.size := by rw [← hz]; exact h2.size
  have hkeep : ∀ k, k < w.heap.size → (v i).ownBlock ≠ some k → w2.heap[k]? = w.heap[k]? := fun k hk hne => (h2.block k (by omega) hne).trans (by rw [hst.heap])
  have hg : w2.heap[g]? = w.heap[g]? := hkeep g (h.lt g h.self) (h.ne i hi)
  have hlt' : ∀ k, v'.ownBlock = some k → k < w2.heap.size := h1.lt
  have hne' : v'.ownBlock ≠ some g := by
    rcases h3 with e | ⟨k, e, hk⟩
    · rw [e]; exact h.ne i hi
    · rw [e]; intro hh; injection hh with hh; have := h.lt g h.self; omega
  have hoth : ∀ j, j < 2 → j ≠ i → ∀ k, (v j).ownBlock = some k → k < w.heap.size ∧ v'.ownBlock ≠ some k ∧ (v i).ownBlock ≠ some k := fun j hj hne k hk => by
    have hkl := h.lt k (h.foot j hj k hk)
    have hap : (v i).ownBlock ≠ some k := by
      rcases (by omega : i = 0 ∨ i = 1) with rfl | rfl
      · obtain rfl : j = 1 := by omega
        intro e; exact h.apart k e hk
      · obtain rfl : j = 0 := by omega
        exact h.apart k hk
    refine ⟨hkl, ?_, hap⟩
    rcases h3 with e | ⟨k', e, hk'⟩
    · rw [e]; exact hap
    · rw [e]; intro hh; injection hh with hh; omega
  refine ⟨⟨fun k => F k ∨ v'.ownBlock = some k, ⟨upd v i v', ⟨?_, ?_, ?_, ?_, .inl h.self, ?_, ?_, ?_⟩, hok⟩, ?_⟩, ?_⟩
  · have e : cellsR (P.wrote i bs) (upd v i v') = (cellsR P v).set (1 + i * 4) v' := (rset_all P v hi v' _).symm
    rw [e]
    exact Row.set (show Row w2 g 35 (cellsR P v) from hg.trans h.row) _ _
  · intro j hj
    have hz2 : (w2.setCell ⟨g, 1 + i * 4, none⟩ v').heap.size = w2.heap.size := by simp [World.setCell]
    by_cases e : j = i
    · subst e
      rw [upd_same, Rp.wrote, Rp.put_same]
      exact h1.keep (by rw [hz2]; exact Nat.le_refl _) (fun k hk => Below.heap_setCell _ _ _ _ (fun e => hne' (by rw [hk]; exact congrArg some e)))
    · rw [upd_other v _ e, Rp.wrote, Rp.put_other P _ e]
      refine (h.span j hj).keep (by rw [hz2]; exact hsz) (fun k hk => ?_)
      obtain ⟨a1, a2, a3⟩ := hoth j hj e k hk
      exact (Below.heap_setCell _ _ _ _ (fun e => h.ne j hj (by rw [hk]; exact congrArg some e))).trans (hkeep k a1 a3)
  · intro j hj
    by_cases e : j = i
    · subst e; rw [upd_same]; exact hne'
    · rw [upd_other v _ e]; exact h.ne j hj
  · intro k hk
    rcases (by omega : i = 0 ∨ i = 1) with rfl | rfl
    · rw [upd_same] at hk
      rw [upd_other v _ (by omega)]
      intro e
      exact (hoth 1 (by omega) (by omega) k e).2.1 hk
    · rw [upd_same]
      rw [upd_other v _ (by omega)] at hk
      exact (hoth 0 (by omega) (by omega) k hk).2.1
  · intro j hj k hk
    by_cases e : j = i
    · subst e; rw [upd_same] at hk; exact .inr hk
    · rw [upd_other v _ e] at hk; exact .inl (h.foot j hj k hk)
  · intro k hk
    have hz2 : (w2.setCell ⟨g, 1 + i * 4, none⟩ v').heap.size = w2.heap.size := by simp [World.setCell]
    rw [hz2]
    rcases hk with hk | hk
    · exact Nat.lt_of_lt_of_le (h.lt k hk) hsz
    · exact hlt' k hk
  · intro k hk
    rcases hk with hk | hk
    · exact h.lo k hk
    · rcases h3 with e | ⟨k', e, hk'⟩
      · exact h.lo k (h.foot i hi k (by rw [← e]; exact hk))
      · have hB := h.lo g h.self
        have := h.lt g h.self
        rw [e] at hk
        injection hk with hk
        omega
  · intro k hk
    rcases hk with hk | hk
    · exact .inl hk
    · rcases h3 with e | ⟨k', e, hk'⟩
      · exact .inl (h.foot i hi k (by rw [← e]; exact hk))
      · rw [e] at hk
        injection hk with hk
        exact .inr (by omega)
  · refine Turn.setCell ((hst.turn F).trans h2 (fun k _ hk => h.foot i hi k hk)) _ (fun _ => h.self) _

set_option maxHeartbeats 1000000 in
theorem rwrite_ok {B : Nat} {F : Nat → Prop} {P : Rp} (g i : Nat) (A : Option Addr) (L c : Nat) (bs : List UInt8) (w : World) (h : RefAt w B F g P) (hi : i < 2) (hc : P.cut = false) (hs : (P.ws i).shut = false) (hbg : (P.ws i).all.length ≤ 70368744111616)
    (hL : bs.length = L) (hLc : L ≤ c) (hcm : c ≤ 9223372036854775807) (hr : Rd w w.heap.size A (bs.map bv)) :
    Calls Tryd.prog 12 #[.pointer (some ⟨g, 0, none⟩), .int .i64 (i : Int), .slice A L c] w fun x w' => x = .returned (.tuple #[.int .i64 (P.puts i L : Int), .int .i64 0]) ∧ Hid (RefTo w w' B F g (P.wrote i bs) ∧ Turn F w w') := by
  have H := Lib.hid h
  obtain ⟨v, h, hok⟩ := h
  obtain ⟨A0, cap, hv, h1, h2, c0, c1, c2, c3⟩ := h.at hi
  have cc := h.cut
  rw [hc] at cc
  rw [hs] at c3
  have f0 := h.row.frozen (1 + i * 4)
  have k3 := hok.room
  have k5 := hok.big i
  have kf : P.free i ≤ 65536 := by have := rfree_le P i; omega
  have HK := Lib.hid (rwrote_is_ok hok i bs hbg)
  have HV := Lib.hid h
  have HVI := Lib.hid hv
  have HR := Lib.hid hr
  have HL := Lib.hid hL
  clear h hok hv hc hs hr hL
  have HS : Hid (∀ w', Stay w w' → Span w' (.slice A0 (P.ws i).all.length cap) (P.ws i).all) := Lib.hid (fun w' hst => by
    have := HV.out.span i hi
    rw [HVI.out] at this
    exact this.keep (by rw [hst.heap]; exact Nat.le_refl _) (fun k _ => by rw [hst.heap]))
  have HRR : Hid (∀ n w', Stay w w' → Rd w' w.heap.size A ((bs.take n).map bv)) := Lib.hid (fun n w' hst => by
    rw [List.map_take]
    exact (HR.out.take n).keep (fun p _ => hst.cell p))
  have HG : Hid (∀ w1 w2, Turn (fun k => (Value.slice A0 (P.ws i).all.length cap).ownBlock = some k) w1 w2 → Stay w w1 → w2.cell? ⟨g, 1 + i * 4, none⟩ = some (.slice A0 (P.ws i).all.length cap) ∧ w2.frozen? ⟨g, 1 + i * 4, none⟩ = false) := Lib.hid (fun w1 w2 ht hst => by
    have hb : w2.heap[g]? = w.heap[g]? := by
      rw [ht.block g (by rw [hst.heap]; exact HV.out.lt g HV.out.self) (by rw [← HVI.out]; exact HV.out.ne i hi), hst.heap]
    exact ⟨(cell_block (p := ⟨g, 1 + i * 4, none⟩) hb).trans c0, (frozen_block (p := ⟨g, 1 + i * 4, none⟩) hb).trans f0⟩)
  have hiI : (i : Int) < 2 := by omega
  rcases Nat.lt_or_ge L (P.free i) with hlt | hge
  · have HP : Hid (P.puts i L = L) := Lib.hid (by rw [Rp.puts]; omega)
    have HN : Hid ((bs.take L).length = L) := Lib.hid (by rw [List.length_take, HL.out]; omega)
    go_enter Tryd.func12, Tryd.ntmps12
    go_wp2_with (first
      | (go_at_call 33; (with_reducible refine (rend_true _ hi _).mono ?_); rintro x w' ⟨rfl, rfl⟩)
      | (go_at_call 24; (with_reducible refine (rfree_any _ _ _ H.out hi).mono ?_); rintro x w' ⟨rfl, nn, rfl⟩))
    go_region_law (refine step_append_span rfl (.tmp 40) (.tmp 43) rfl (.slice A0 (P.ws i).all.length cap) (P.ws i).all (by simp [Act.eval, Act.put]) (HS.out _ ⟨rfl, rfl, rfl, rfl⟩) w.heap.size A L c (bs.take L) (by simp [Act.eval, Act.put]) HN.out (HRR.out _ _ ⟨rfl, rfl, rfl, rfl⟩) (by omega) ?_; intro v1 w1 H1; have g0 := (HG.out _ w1 H1.out.2.1 ⟨rfl, rfl, rfl, rfl⟩).1; have g1 := (HG.out _ w1 H1.out.2.1 ⟨rfl, rfl, rfl, rfl⟩).2; obtain ⟨A1, L1, cap1, ev⟩ := H1.out.1.form; subst ev)
    go_wp2_with fail
    go_ret2
    refine ⟨ret_two (by rw [HP.out]), Lib.hid (rwrote_at (w1 := w.drewN (nn + 1)) HV.out hi bs HK.out ⟨rfl, rfl, rfl, rfl⟩ _ _ HVI.out ?_)⟩
    rw [HL.out, HP.out]
    exact H1.out
  · have hge' : ¬ L < P.free i := by omega
    have hfc : P.free i ≤ c := by omega
    have HP : Hid (P.puts i L = P.free i) := Lib.hid (by rw [Rp.puts]; omega)
    have HN : Hid ((bs.take (P.free i)).length = P.free i) := Lib.hid (by rw [List.length_take, HL.out]; omega)
    go_enter Tryd.func12, Tryd.ntmps12
    go_wp2_with (first
      | (go_at_call 33; (with_reducible refine (rend_true _ hi _).mono ?_); rintro x w' ⟨rfl, rfl⟩)
      | (go_at_call 24; (with_reducible refine (rfree_any _ _ _ H.out hi).mono ?_); rintro x w' ⟨rfl, nn, rfl⟩))
    go_region_law (refine step_append_span rfl (.tmp 40) (.tmp 43) rfl (.slice A0 (P.ws i).all.length cap) (P.ws i).all (by simp [Act.eval, Act.put]) (HS.out _ ⟨rfl, rfl, rfl, rfl⟩) w.heap.size A (P.free i) c (bs.take (P.free i)) (by simp [Act.eval, Act.put]) HN.out (HRR.out _ _ ⟨rfl, rfl, rfl, rfl⟩) (by omega) ?_; intro v1 w1 H1; have g0 := (HG.out _ w1 H1.out.2.1 ⟨rfl, rfl, rfl, rfl⟩).1; have g1 := (HG.out _ w1 H1.out.2.1 ⟨rfl, rfl, rfl, rfl⟩).2; obtain ⟨A1, L1, cap1, ev⟩ := H1.out.1.form; subst ev)
    go_wp2_with fail
    go_ret2
    refine ⟨ret_two (by rw [HP.out]), Lib.hid (rwrote_at (w1 := w.drewN (nn + 1)) HV.out hi bs HK.out ⟨rfl, rfl, rfl, rfl⟩ _ _ HVI.out ?_)⟩
    rw [HL.out, HP.out]
    exact H1.out
theorem rwrite_cut {B : Nat} {F : Nat → Prop} {P : Rp} (g i : Nat) (y : Value) (w : World) (h : RefAt w B F g P) (hi : i < 2) (hc : P.cut = true) :
    Calls Tryd.prog 12 #[.pointer (some ⟨g, 0, none⟩), .int .i64 (i : Int), y] w fun x w' => x = .returned (.tuple #[.int .i64 0, .int .i64 5]) ∧ w = w' := by
  obtain ⟨v, h, hok⟩ := h
  have cc := h.cut
  rw [hc] at cc
  clear h hc hok
  go_enter Tryd.func12, Tryd.ntmps12
  go_wp2_with (first
    | (go_at_call 33; (with_reducible refine (rend_true _ hi _).mono ?_); rintro x w' ⟨rfl, rfl⟩))
  go_ret2
  exact ⟨rfl, rfl⟩
theorem rwrite_shut {B : Nat} {F : Nat → Prop} {P : Rp} (g i : Nat) (y : Value) (w : World) (h : RefAt w B F g P) (hi : i < 2) (hc : P.cut = false) (hs : (P.ws i).shut = true) :
    Calls Tryd.prog 12 #[.pointer (some ⟨g, 0, none⟩), .int .i64 (i : Int), y] w fun x w' => x = .returned (.tuple #[.int .i64 0, .int .i64 17]) ∧ w = w' := by
  obtain ⟨v, h, hok⟩ := h
  obtain ⟨A, cap, _, h1, h2, c0, c1, c2, c3⟩ := h.at hi
  have cc := h.cut
  rw [hc] at cc
  rw [hs] at c3
  clear h hc hok hs
  go_enter Tryd.func12, Tryd.ntmps12
  go_wp2_with (first
    | (go_at_call 33; (with_reducible refine (rend_true _ hi _).mono ?_); rintro x w' ⟨rfl, rfl⟩))
  go_ret2
  exact ⟨rfl, rfl⟩
theorem rwrite_bad (a : Addr) (e : Int) (y : Value) (w : World) (h : endB e = false) :
    Calls Tryd.prog 12 #[.pointer (some a), .int .i64 e, y] w fun x w' => x = .returned (.tuple #[.int .i64 0, .int .i64 1]) ∧ w = w' := by
  have HE := Lib.hid h
  clear h
  go_enter Tryd.func12, Tryd.ntmps12
  go_wp2_with (first
    | (go_at_call 33; (with_reducible refine (rend_false _ HE.out _).mono ?_); rintro x w' ⟨rfl, rfl⟩))
  go_ret2
  exact ⟨rfl, rfl⟩
end Go.Proofs.YtlceemaannndbaaDoor

/- What sock.Write does. -/
import Derived.Test.YtlceemaannndbaaDoorCut
import Derived.Deep.RegionLaw
namespace Go.Proofs.YtlceemaannndbaaDoor
open Go.RowKit

/-- Pairs whose blocks are now those of F and some new ones. -/
def PairTo (w w' : World) (B : Nat) (F : Nat → Prop) (g : Nat) (P : Pr) : Prop := ∃ F' : Nat → Prop, PairAt w' B F' g P ∧ ∀ k, F' k → F k ∨ w.heap.size ≤ k
/-- How many bytes Write takes, and the pair behind it. -/
def Pr.puts (P : Pr) (i n : Nat) : Nat := min n (P.free i)
def Pr.wrote (P : Pr) (i : Nat) (bs : List UInt8) : Pr := P.put i { P.ws i with row := (P.ws i).row ++ bs.take (P.puts i bs.length) }
theorem wrote_is_ok {P : Pr} (h : P.ok) (i : Nat) (bs : List UInt8) : (P.wrote i bs).ok := by
  have hc := h.car i
  have hr := h.row i
  have hf : P.free i ≤ P.room - (P.ws i).row.length := by unfold Pr.free; split <;> omega
  refine ⟨h.room, fun j => ?_, fun j => ?_⟩ <;> by_cases e : j = i
  · subst e; rw [Pr.wrote, Pr.put_same]; show ((P.ws j).row ++ bs.take (P.puts j bs.length)).length ≤ P.room; rw [List.length_append, List.length_take, Pr.puts]; omega
  · rw [Pr.wrote, Pr.put_other _ _ e]; exact h.row j
  · subst e; rw [Pr.wrote, Pr.put_same]; show (P.ws j).car ≤ ((P.ws j).row ++ bs.take (P.puts j bs.length)).length; rw [List.length_append]; omega
  · rw [Pr.wrote, Pr.put_other _ _ e]; exact h.car j

theorem step_append_span {ops : Array Oper} {o : Oper} {a : Act} {w : World} {K : Act → World → Prop} {Q : Exit → Act → World → Prop} {E : Prop} (hg : o.guard = none) (t x : Operand)
    (ho : o.op = .call { callee := .builtin .append, args := #[t, x], argTypes := #[30, 30] }) (v : Value) (bs : List UInt8) (hs : a.eval t = v) (hsp : Span w v bs) (B : Nat) (A : Option Addr) (m c : Nat) (xs : List UInt8) (hx : a.eval x = .slice A m c) (hm : xs.length = m)
    (hr : Rd w B A (xs.map bv)) (hb : bs.length + m ≤ 140737488355328)
    (h : ∀ v' w', Hid (Span w' v' (bs ++ xs) ∧ Turn (fun k => v.ownBlock = some k) w w' ∧ (v'.ownBlock = v.ownBlock ∨ ∃ k, v'.ownBlock = some k ∧ w.heap.size ≤ k)) → K (a.put o.dst v') w') : if Region.wanted o (yielded ops a.tmps) = true then Oper.wp Tryd.prog o a w K Q else E := by
  have hw : Region.wanted o (yielded ops a.tmps) = true := by simp [Region.wanted, hg]
  rw [if_pos hw]
  obtain ⟨v', w', hr2, h2⟩ := run_append_span w v bs hsp B A m c xs hm hr hb o.type
  unfold Oper.wp
  simp only [execOp, ho, resolve, invoke, builtin, Sem.run_bind, Sem.run_pure, Result.andThen_ok, List.map_toArray, List.map_cons, List.map_nil, hs, hx, hr2]
  exact h v' w' h2
theorem Span.form {w : World} {v : Value} {bs : List UInt8} (h : Span w v bs) : ∃ A L cap, v = .slice A L cap := by
  obtain ⟨A, cap, e, _⟩ := h.slice
  exact ⟨A, _, cap, e⟩
/-- The pair behind Write's append. -/
theorem wrote_at {w w1 w2 : World} {B : Nat} {F : Nat → Prop} {g i : Nat} {P : Pr} {v : Nat → Value} (h : PairV w B F g P v) (hi : i < 2) (bs : List UInt8) (hok : (P.wrote i bs).ok) (hst : Stay w w1) (v' : Value) (A : Value) (hA : v i = A)
    (H : Span w2 v' ((P.ws i).row ++ bs.take (P.puts i bs.length)) ∧ Turn (fun k => A.ownBlock = some k) w1 w2 ∧ (v'.ownBlock = A.ownBlock ∨ ∃ k, v'.ownBlock = some k ∧ w1.heap.size ≤ k)) :
    PairTo w (w2.setCell ⟨g, 1 + i * 4, none⟩ v') B F g (P.wrote i bs) ∧ Turn F w (w2.setCell ⟨g, 1 + i * 4, none⟩ v') := by
  subst hA
  obtain ⟨h1, h2, h3⟩ := H
  have hz : w1.heap.size = w.heap.size := by rw [hst.heap]
  have hsz : w.heap.size ≤ w2.heap.size := by rw [← hz]; exact h2.size
  have hkeep : ∀ k, k < w.heap.size → (v i).ownBlock ≠ some k → w2.heap[k]? = w.heap[k]? := fun k hk hne => (h2.block k (by omega) hne).trans (by rw [hst.heap])
  have hg : w2.heap[g]? = w.heap[g]? := hkeep g (h.lt g h.self) (h.ne i hi)
  have hlt' : ∀ k, v'.ownBlock = some k → k < w2.heap.size := h1.lt
  have hne' : v'.ownBlock ≠ some g := by
    rcases h3 with e | ⟨k, e, hk⟩
    · rw [e]; exact h.ne i hi
    · rw [e]; intro hh; injection hh with hh; have := h.lt g h.self; omega
  have hoth : ∀ j, j < 2 → j ≠ i → ∀ k, (v j).ownBlock = some k → k < w.heap.size ∧ v'.ownBlock ≠ some k ∧ (v i).ownBlock ≠ some k := fun j hj hne k hk => by
    have hkl := h.lt k (h.foot j hj k hk)
    have hap : (v i).ownBlock ≠ some k := by
      rcases (by omega : i = 0 ∨ i = 1) with rfl | rfl
      · obtain rfl : j = 1 := by omega
        intro e; exact h.apart k e hk
      · obtain rfl : j = 0 := by omega
        exact h.apart k hk
    refine ⟨hkl, ?_, hap⟩
    rcases h3 with e | ⟨k', e, hk'⟩
    · rw [e]; exact hap
    · rw [e]; intro hh; injection hh with hh; omega
  refine ⟨⟨fun k => F k ∨ v'.ownBlock = some k, ⟨upd v i v', ⟨?_, ?_, ?_, ?_, .inl h.self, ?_, ?_, ?_⟩, hok⟩, ?_⟩, ?_⟩
  · have e : cellsP (P.wrote i bs) (upd v i v') = (cellsP P v).set (1 + i * 4) v' := (set_row P v hi v' _).symm
    rw [e]
    exact Row.set (show Row w2 g 64 (cellsP P v) from hg.trans h.row) _ _
  · intro j hj
    have hz2 : (w2.setCell ⟨g, 1 + i * 4, none⟩ v').heap.size = w2.heap.size := by simp [World.setCell]
    by_cases e : j = i
    · subst e
      rw [upd_same, Pr.wrote, Pr.put_same]
      exact h1.keep (by rw [hz2]; exact Nat.le_refl _) (fun k hk => Below.heap_setCell _ _ _ _ (fun e => hne' (by rw [hk]; exact congrArg some e)))
    · rw [upd_other v _ e, Pr.wrote, Pr.put_other P _ e]
      refine (h.span j hj).keep (by rw [hz2]; exact hsz) (fun k hk => ?_)
      obtain ⟨a1, a2, a3⟩ := hoth j hj e k hk
      exact (Below.heap_setCell _ _ _ _ (fun e => h.ne j hj (by rw [hk]; exact congrArg some e))).trans (hkeep k a1 a3)
  · intro j hj
    by_cases e : j = i
    · subst e; rw [upd_same]; exact hne'
    · rw [upd_other v _ e]; exact h.ne j hj
  · intro k hk
    rcases (by omega : i = 0 ∨ i = 1) with rfl | rfl
    · rw [upd_same] at hk
      rw [upd_other v _ (by omega)]
      intro e
      exact (hoth 1 (by omega) (by omega) k e).2.1 hk
    · rw [upd_same]
      rw [upd_other v _ (by omega)] at hk
      exact (hoth 0 (by omega) (by omega) k hk).2.1
  · intro j hj k hk
    by_cases e : j = i
    · subst e; rw [upd_same] at hk; exact .inr hk
    · rw [upd_other v _ e] at hk; exact .inl (h.foot j hj k hk)
  · intro k hk
    have hz2 : (w2.setCell ⟨g, 1 + i * 4, none⟩ v').heap.size = w2.heap.size := by simp [World.setCell]
    rw [hz2]
    rcases hk with hk | hk
    · exact Nat.lt_of_lt_of_le (h.lt k hk) hsz
    · exact hlt' k hk
  · intro k hk
    rcases hk with hk | hk
    · exact h.lo k hk
    · rcases h3 with e | ⟨k', e, hk'⟩
      · exact h.lo k (h.foot i hi k (by rw [← e]; exact hk))
      · have hB := h.lo g h.self
        have := h.lt g h.self
        rw [e] at hk
        injection hk with hk
        omega
  · intro k hk
    rcases hk with hk | hk
    · exact .inl hk
    · rcases h3 with e | ⟨k', e, hk'⟩
      · exact .inl (h.foot i hi k (by rw [← e]; exact hk))
      · rw [e] at hk
        injection hk with hk
        exact .inr (by omega)
  · refine Turn.setCell ((hst.turn F).trans h2 (fun k _ hk => h.foot i hi k hk)) _ (fun _ => h.self) _

set_option maxHeartbeats 1000000 in
theorem write_ok {B : Nat} {F : Nat → Prop} {P : Pr} (g i : Nat) (A : Option Addr) (L c : Nat) (bs : List UInt8) (w : World) (h : PairAt w B F g P) (hi : i < 2) (hc : P.cut = false) (hs : (P.ws i).shut = false)
    (hL : bs.length = L) (hLc : L ≤ c) (hcm : c ≤ 9223372036854775807) (hr : Rd w w.heap.size A (bs.map bv)) :
    Calls Tryd.prog 11 #[.pointer (some ⟨g, 0, none⟩), .int .i64 (i : Int), .slice A L c] w fun x w' => x = .returned (.tuple #[.int .i64 (P.puts i L : Int), .nilIface]) ∧ Hid (PairTo w w' B F g (P.wrote i bs) ∧ Turn F w w') := by
  have H := Lib.hid h
  have HC := Lib.hid hc
  obtain ⟨v, h, hok⟩ := h
  obtain ⟨A0, cap, hv, h1, h2, c0, c1, c2, c3⟩ := h.at hi
  rw [hs] at c2
  have f0 := h.row.frozen (1 + i * 4)
  have k2 := hok.row i
  have k3 := hok.room
  have HF : Hid (P.free i = P.room - (P.ws i).row.length) := Lib.hid (by simp [Pr.free, hc, hs])
  have kf : P.free i ≤ 65536 := by rw [HF.out]; omega
  have HK := Lib.hid (wrote_is_ok hok i bs)
  have HV := Lib.hid h
  have HVI := Lib.hid hv
  have HR := Lib.hid hr
  have HL := Lib.hid hL
  clear h hok hv hc hs hr hL
  have HS : Hid (∀ w', Stay w w' → Span w' (.slice A0 (P.ws i).row.length cap) (P.ws i).row) := Lib.hid (fun w' hst => by
    have := HV.out.span i hi
    rw [HVI.out] at this
    exact this.keep (by rw [hst.heap]; exact Nat.le_refl _) (fun k _ => by rw [hst.heap]))
  have HRR : Hid (∀ n w', Stay w w' → Rd w' w.heap.size A ((bs.take n).map bv)) := Lib.hid (fun n w' hst => by
    rw [List.map_take]
    exact (HR.out.take n).keep (fun p _ => hst.cell p))
  have HG : Hid (∀ w1 w2, Turn (fun k => (Value.slice A0 (P.ws i).row.length cap).ownBlock = some k) w1 w2 → Stay w w1 → w2.cell? ⟨g, 1 + i * 4, none⟩ = some (.slice A0 (P.ws i).row.length cap) ∧ w2.frozen? ⟨g, 1 + i * 4, none⟩ = false) := Lib.hid (fun w1 w2 ht hst => by
    have hb : w2.heap[g]? = w.heap[g]? := by
      rw [ht.block g (by rw [hst.heap]; exact HV.out.lt g HV.out.self) (by rw [← HVI.out]; exact HV.out.ne i hi), hst.heap]
    exact ⟨(cell_block (p := ⟨g, 1 + i * 4, none⟩) hb).trans c0, (frozen_block (p := ⟨g, 1 + i * 4, none⟩) hb).trans f0⟩)
  rcases Nat.lt_or_ge (P.free i) L with hlt | hge
  · have hnl : ¬ L ≤ P.free i := by omega
    have hfc : P.free i ≤ c := by omega
    have HP : Hid (P.puts i L = P.free i) := Lib.hid (by rw [Pr.puts]; omega)
    have HN : Hid ((bs.take (P.free i)).length = P.free i) := Lib.hid (by rw [List.length_take, HL.out]; omega)
    go_enter Tryd.func11, Tryd.ntmps11
    go_wp2_with (first
      | (go_at_call 31; (with_reducible refine (refusal_none _ _ _ _ H.out hi (by omega) HC.out).mono ?_); rintro x w' ⟨rfl, rfl⟩)
      | (go_at_call 32; (with_reducible refine (out_any _ _ _ hi).mono ?_); rintro x w' ⟨rfl, rfl⟩)
      | (go_at_call 23; (with_reducible refine (room_any _ _ _ H.out hi).mono ?_); rintro x w' ⟨rfl, nn, rfl⟩))
    go_region_law (refine step_append_span rfl (.tmp 35) (.tmp 38) rfl (.slice A0 (P.ws i).row.length cap) (P.ws i).row (by simp [Act.eval, Act.put]) (HS.out _ ⟨rfl, rfl, rfl, rfl⟩) w.heap.size A (P.free i) c (bs.take (P.free i)) (by simp [Act.eval, Act.put]) HN.out (HRR.out _ _ ⟨rfl, rfl, rfl, rfl⟩) (by omega) ?_; intro v1 w1 H1; have g0 := (HG.out _ w1 H1.out.2.1 ⟨rfl, rfl, rfl, rfl⟩).1; have g1 := (HG.out _ w1 H1.out.2.1 ⟨rfl, rfl, rfl, rfl⟩).2; obtain ⟨A1, L1, cap1, ev⟩ := H1.out.1.form; subst ev)
    go_wp2_with fail
    go_ret2
    refine ⟨ret_two (by rw [HP.out]), Lib.hid (wrote_at (w1 := w.drewN (nn + 1)) HV.out hi bs HK.out ⟨rfl, rfl, rfl, rfl⟩ _ _ HVI.out ?_)⟩
    rw [HL.out, HP.out]
    exact H1.out
  · have hlc : L ≤ P.free i := by omega
    have HP : Hid (P.puts i L = L) := Lib.hid (by rw [Pr.puts]; omega)
    have HN : Hid ((bs.take L).length = L) := Lib.hid (by rw [List.length_take, HL.out]; omega)
    go_enter Tryd.func11, Tryd.ntmps11
    go_wp2_with (first
      | (go_at_call 31; (with_reducible refine (refusal_none _ _ _ _ H.out hi (by omega) HC.out).mono ?_); rintro x w' ⟨rfl, rfl⟩)
      | (go_at_call 32; (with_reducible refine (out_any _ _ _ hi).mono ?_); rintro x w' ⟨rfl, rfl⟩)
      | (go_at_call 23; (with_reducible refine (room_any _ _ _ H.out hi).mono ?_); rintro x w' ⟨rfl, nn, rfl⟩))
    go_region_law (refine step_append_span rfl (.tmp 35) (.tmp 38) rfl (.slice A0 (P.ws i).row.length cap) (P.ws i).row (by simp [Act.eval, Act.put]) (HS.out _ ⟨rfl, rfl, rfl, rfl⟩) w.heap.size A L c (bs.take L) (by simp [Act.eval, Act.put]) HN.out (HRR.out _ _ ⟨rfl, rfl, rfl, rfl⟩) (by omega) ?_; intro v1 w1 H1; have g0 := (HG.out _ w1 H1.out.2.1 ⟨rfl, rfl, rfl, rfl⟩).1; have g1 := (HG.out _ w1 H1.out.2.1 ⟨rfl, rfl, rfl, rfl⟩).2; obtain ⟨A1, L1, cap1, ev⟩ := H1.out.1.form; subst ev)
    go_wp2_with fail
    go_ret2
    refine ⟨ret_two (by rw [HP.out]), Lib.hid (wrote_at (w1 := w.drewN (nn + 1)) HV.out hi bs HK.out ⟨rfl, rfl, rfl, rfl⟩ _ _ HVI.out ?_)⟩
    rw [HL.out, HP.out]
    exact H1.out
theorem write_bad (ad : Nat → Addr) (a : Addr) (e : Int) (x : Value) (w : World) (hE : Errs w ad) (h : endB e = false) :
    Calls Tryd.prog 11 #[.pointer (some a), .int .i64 e, x] w fun x w' => x = .returned (.tuple #[.int .i64 0, .iface 73 (.pointer (some (ad 0)))]) ∧ w = w' := by
  have HE := Lib.hid hE
  have HB : Hid ((endB e && decide ((0 : Int) ≤ 0)) = false) := Lib.hid (by rw [h]; rfl)
  clear hE h
  go_enter Tryd.func11, Tryd.ntmps11
  go_wp2_with (first
    | (go_at_call 31; (with_reducible refine (refusal_bad ad _ _ _ _ HE.out HB.out).mono ?_); rintro x w' ⟨rfl, rfl⟩))
  go_ret2
  exact ⟨rfl, rfl⟩
theorem write_cut {B : Nat} {F : Nat → Prop} {P : Pr} (ad : Nat → Addr) (g i : Nat) (x : Value) (w : World) (hE : Errs w ad) (h : PairAt w B F g P) (hi : i < 2) (hc : P.cut = true) :
    Calls Tryd.prog 11 #[.pointer (some ⟨g, 0, none⟩), .int .i64 (i : Int), x] w fun x w' => x = .returned (.tuple #[.int .i64 0, .iface 73 (.pointer (some (ad 1)))]) ∧ w = w' := by
  have H := Lib.hid h
  have HC := Lib.hid hc
  have HE := Lib.hid hE
  clear hc h hE
  go_enter Tryd.func11, Tryd.ntmps11
  go_wp2_with (first
    | (go_at_call 31; (with_reducible refine (refusal_cut ad _ _ _ _ HE.out H.out hi (by omega) HC.out).mono ?_); rintro x w' ⟨rfl, rfl⟩))
  go_ret2
  exact ⟨rfl, rfl⟩
theorem write_shut {B : Nat} {F : Nat → Prop} {P : Pr} (ad : Nat → Addr) (g i : Nat) (x : Value) (w : World) (hE : Errs w ad) (h : PairAt w B F g P) (hi : i < 2) (hc : P.cut = false) (hs : (P.ws i).shut = true) :
    Calls Tryd.prog 11 #[.pointer (some ⟨g, 0, none⟩), .int .i64 (i : Int), x] w fun x w' => x = .returned (.tuple #[.int .i64 0, .iface 73 (.pointer (some (ad 2)))]) ∧ ∃ n, w' = w.drewN n := by
  have H := Lib.hid h
  have HC := Lib.hid hc
  have e2 := hE.cell 2 (by omega)
  obtain ⟨v, h, hok⟩ := h
  obtain ⟨A0, cap, hv, h1, h2, c0, c1, c2, c3⟩ := h.at hi
  rw [hs] at c2
  clear hc h hE hok hv hs
  go_enter Tryd.func11, Tryd.ntmps11
  go_wp2_with (first
    | (go_at_call 31; (with_reducible refine (refusal_none _ _ _ _ H.out hi (by omega) HC.out).mono ?_); rintro x w' ⟨rfl, rfl⟩)
    | (go_at_call 32; (with_reducible refine (out_any _ _ _ hi).mono ?_); rintro x w' ⟨rfl, rfl⟩))
  go_quiet (fail)
  go_wp2_with fail
  go_ret2
  exact ⟨rfl, _, rfl⟩
end Go.Proofs.YtlceemaannndbaaDoor

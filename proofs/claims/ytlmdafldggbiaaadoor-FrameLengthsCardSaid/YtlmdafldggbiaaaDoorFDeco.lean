/- What fields.Decode answers, for every layout (of bounded length) and all bytes. -/
import Derived.Test.YtlmdafldggbiaaaDoorFDec
namespace Go.Proofs.YtlmdafldggbiaaaDoor.F
open Go.RowKit

/-- The cells of a row of fields, one behind the other. -/
def flat (cs : List FC) : List Value := cs.flatMap fun x => [.int .i64 x.n, .float .f64 x.f, .string x.s]
theorem flat_length (cs : List FC) : (flat cs).length = cs.length * 3 := by
  induction cs with
  | nil => rfl
  | cons x cs ih => simp only [flat, List.flatMap_cons, List.length_append] at ih ⊢; simp only [List.length_cons, List.length_nil]; omega
theorem flat_snoc (cs : List FC) (x : FC) : flat (cs ++ [x]) = flat cs ++ [.int .i64 x.n, .float .f64 x.f, .string x.s] := by simp [flat]

/-- The fields of bytes, or the error. -/
def decS : List UInt8 → List UInt8 → Except Nat (List FC)
  | [], bs => if bs = [] then .ok [] else .error 0
  | c :: l, bs => match spanS c.toNat bs with
    | .error k => .error k
    | .ok n => match decS l (bs.drop n) with
      | .error k => .error k
      | .ok r => .ok (cellS c.toNat (bs.take n) :: r)
def thenD (acc : List FC) : Except Nat (List FC) → Except Nat (List FC)
  | .error k => .error k
  | .ok r => .ok (acc ++ r)
theorem thenD_nil (r : Except Nat (List FC)) : thenD [] r = r := by cases r <;> rfl
theorem decS_err {c : UInt8} {l bs : List UInt8} {e : Nat} (h : spanS c.toNat bs = .error e) : decS (c :: l) bs = .error e := by rw [decS, h]
theorem decS_ok {c : UInt8} {l bs : List UInt8} {n : Nat} (acc : List FC) (h : spanS c.toNat bs = .ok n) : thenD acc (decS (c :: l) bs) = thenD (acc ++ [cellS c.toNat (bs.take n)]) (decS l (bs.drop n)) := by
  rw [decS, h]
  cases hd : decS l (bs.drop n) <;> simp [thenD, hd]
def decF (l bs : List UInt8) : Except Nat (List FC) := if kn l = true then decS l bs else .error 2

/-- What Decode leaves. -/
def DecPost (E : Nat → Value) (w : World) (r : Except Nat (List FC)) (e : Ending) (w' : World) : Prop :=
  match r with
  | .error k => e = .returned (.tuple #[.slice none 0 0, E k]) ∧ Below w.heap.size w w'
  | .ok cs => ∃ v, e = .returned (.tuple #[v, .nilIface]) ∧ w'.ownsRow w.heap.size 60 3 v cs.length (flat cs) ∧ Below w.heap.size w w'

theorem cell_info : (Tryd.prog.info? 60).map (fun i => (i.zero, i.size, i.bytes)) = some (some (.agg #[.int .i64 0, .float .f64 0, .string ⟨#[]⟩]), 3, 32) := by kernel_rfl

theorem step_append_cell (w : World) {ops : Array Oper} {o : Oper} {a : Act} {K : Act → World → Prop} {Q : Exit → Act → World → Prop} {E : Prop} (hgd : o.guard = none) (t x : Operand)
    (ho : o.op = .call { callee := .builtin .append, args := #[t, x], argTypes := #[61, 61] }) (base n : Nat) (xs : List Value) (c : FC) (hx : ∃ H, a.eval x = .slice (some ⟨H, 0, none⟩) 1 1 ∧ w.cell? ⟨H, 0, none⟩ = some (.int .i64 c.n) ∧ w.cell? ⟨H, 1, none⟩ = some (.float .f64 c.f) ∧ w.cell? ⟨H, 2, none⟩ = some (.string c.s))
    (hown : w.ownsRow base 60 3 (a.eval t) n xs) (hb : n + 1 ≤ 4398046511104) (hbase : base ≤ w.heap.size)
    (h : ∀ v' w', w'.ownsRow base 60 3 v' (n + 1) (xs ++ [.int .i64 c.n, .float .f64 c.f, .string c.s]) → w.grownBy w' (a.eval t).ownBlock → K (a.put o.dst v') w') :
    if Region.wanted o (yielded ops a.tmps) = true then Oper.wp Tryd.prog o a w K Q else E := by
  have hw : Region.wanted o (yielded ops a.tmps) = true := by simp [Region.wanted, hgd]
  rw [if_pos hw]
  obtain ⟨H, hx, h0, h1, h2⟩ := hx
  obtain ⟨i0, hi0, hz0, hz1, hz2⟩ := info_parts cell_info
  obtain ⟨v', w', hr, hh2, hh3, _⟩ := run_append_own_at (P := Tryd.prog) w base 61 o.type 60 i0 _ 3 32 Tryd.underlying61 hi0 hz0 hz1 hz2 rfl (by omega) (a.eval t) n xs hown ⟨H, 0, none⟩ 1 1 [.int .i64 c.n, .float .f64 c.f, .string c.s] rfl
    (by
      intro j u hj
      match j with
      | 0 => simp at hj; rw [← hj]; exact h0
      | 1 => simp at hj; rw [← hj]; simpa [Addr.add] using h1
      | 2 => simp at hj; rw [← hj]; simpa [Addr.add] using h2
      | j + 3 => simp at hj)
    (by intro u hu; simp at hu; rcases hu with rfl | rfl | rfl <;> rfl) (by simp only [maxLen]; omega) (by omega) hbase
  unfold Oper.wp execOp
  simp only [ho, resolve, invoke, builtin, Sem.run_bind, Sem.run_pure, Result.andThen_ok, List.map_toArray, List.map_cons, List.map_nil, hx, hr]
  exact h v' w' hh2 hh3

set_option maxRecDepth 100000 in
set_option maxHeartbeats 400000 in
theorem decode_state (E : Nat → Value) (s : ByteArray) (n cap : Nat) (A : Option Addr) (w : World) (hE : Errs w E) (hs : s.size ≤ maxLen) (h : kn s.data.toList = false) :
    Calls Tryd.prog 53 #[.string s, .slice A n cap] w fun e w' => e = .returned (.tuple #[.slice none 0 0, E 2]) ∧ ∃ m, w' = w.drewN m := by
  have hc2 : w.cell? ⟨16, 0, none⟩ = some (E 2) := hE.cell 2 (by omega)
  clear hE
  have HK := Lib.hid h
  clear h
  go_enter Tryd.func53, Tryd.ntmps53
  go_wp2_with fail
  refine (known_any s _ hs).mono ?_
  rintro e w' ⟨rfl, rfl⟩
  rw [HK.out]
  go_wp2_with fail
  go_quiet (fail)
  go_wp2_with fail
  go_ret2
  exact ⟨rfl, _, rfl⟩

theorem spanS_num_le {c : Nat} {bs : List UInt8} {m : Nat} (h0 : hd c ≠ 0) (h : spanS c bs = .ok m) (ht : isT c = false) (hf : c ≠ 102) : num ((bs.take m).take (hd c)) ≤ 9223372036854775807 := by
  have hle := spanS_le h
  have hg := great_le (hd_cases h0)
  rw [List.take_take, Nat.min_eq_left hle.2]
  unfold spanS at h
  split at h
  · cases h
  · rw [ht] at h
    simp only [Bool.false_eq_true, if_false] at h
    split at h
    · cases h
    · rename_i hh
      have : ¬ great (hd c) < num (bs.take (hd c)) := fun e => hh ⟨hf, e⟩
      omega
theorem own_below {w w' : World} {base : Nat} {e : TypeId} {size : Nat} {v : Value} {n : Nat} {xs : List Value} (h : w.ownsRow base e size v n xs) (hb : Below w.heap.size w w') : w'.ownsRow base e size v n xs :=
  h.kept (row := none) ⟨hb.os, hb.tape, hb.output, hb.size, fun k hk _ => hb.block k hk⟩ (by cases v.ownBlock <;> simp)

theorem cellOf_agg (c n cap : Nat) (A : Option Addr) (bs : List UInt8) (x : FC) (w : World) (hn : bs.length = n) (hmax : n ≤ maxLen) (hcap : n ≤ cap)
    (hr : Rd w w.heap.size A (bs.map bv)) (h0 : hd c ≠ 0) (hge : hd c ≤ n) (hok : isT c = false → c ≠ 102 → num (bs.take (hd c)) ≤ 9223372036854775807) (hx : cellS c bs = x) :
    Calls Tryd.prog 64 #[.int .u8 (c : Int), .slice A n cap] w fun e w' => e = .returned (.agg #[.int .i64 x.n, .float .f64 x.f, .string x.s]) ∧ Below w.heap.size w w' :=
  (cellOf_any c n cap A bs w hn hmax hcap hr h0 hge hok).mono fun _ _ ⟨he, hb⟩ => ⟨by rw [he, hx]; rfl, hb⟩

set_option maxRecDepth 100000 in
set_option maxHeartbeats 400000 in
theorem decode_known (E : Nat → Value) (s : ByteArray) (n cap : Nat) (A : Option Addr) (bs : List UInt8) (w : World) (hE : Errs w E) (h5 : 20 ≤ w.heap.size) (hs : s.size ≤ maxLen) (hbig : s.size ≤ 4398046511104) (hn : bs.length = n) (hmax : n ≤ maxLen) (hcap : n ≤ cap)
    (hr : Rd w w.heap.size A (bs.map bv)) (h : kn s.data.toList = true) :
    Calls Tryd.prog 53 #[.string s, .slice A n cap] w (DecPost E w (decS s.data.toList bs)) := by
  obtain ⟨i0, hi0, hz0, hz1, hz2⟩ := info_parts cell_info
  have HI := Lib.hid (And.intro hi0 (And.intro hz0 (And.intro hz1 hz2)))
  clear hi0 hz0 hz1 hz2
  have HE := Lib.hid hE
  have HN := Lib.hid hn
  have HR := Lib.hid hr
  have HK := Lib.hid h
  clear hE hn hr h
  have hs' : s.size ≤ 9223372036854775807 := hs
  have hmax' : n ≤ 9223372036854775807 := hmax
  clear hmax
  go_enter Tryd.func53, Tryd.ntmps53
  go_wp2_with fail
  refine (known_any s _ hs).mono ?_
  rintro e w' ⟨rfl, rfl⟩
  rw [HK.out]
  clear hs
  by_cases hmn : n < s.size
  all_goals
    go_wp2_with (first
    | (refine wpList_make_own _ rfl _ _ 61 rfl w.heap.size 60 i0 _ 3 Tryd.underlying61 HI.out.1 HI.out.2.1 HI.out.2.2.1 .i64 .i64 _ n rfl rfl rfl (by rw [HI.out.2.2.2]; omega) (by simp only [maxLen]; omega) (Nat.le_refl _) ?_
       intro w2 hown2 hg2)
    | (refine wpList_make_own _ rfl _ _ 61 rfl w.heap.size 60 i0 _ 3 Tryd.underlying61 HI.out.1 HI.out.2.1 HI.out.2.2.1 .i64 .i64 _ s.size rfl rfl rfl (by rw [HI.out.2.2.2]; omega) (by simp only [maxLen]; omega) (Nat.le_refl _) ?_
       intro w2 hown2 hg2))
  all_goals
    go_loopw [6, 7, 23] (fun v a i W => ∃ (k at_ : Nat) (acc : List FC), k ≤ s.size ∧ at_ ≤ n ∧ i = .int .i64 k ∧ a = .int .i64 at_ ∧ Hid (decS s.data.toList bs = thenD acc (decS (s.data.toList.drop k) (bs.drop at_)) ∧ acc.length = k ∧ W.ownsRow w.heap.size 60 3 v k (flat acc) ∧ Below w.heap.size w W)) (fun _ _ i _ => s.size - (intOf i).toNat)
    case atStart => exact ⟨0, 0, [], Nat.zero_le _, Nat.zero_le _, rfl, rfl, Lib.hid ⟨(thenD_nil _).symm, rfl, hown2, (Below.refl _ _).grown hg2 (Nat.le_refl _) (fun k hk => by cases hk)⟩⟩
    case round =>
      obtain ⟨k, at_, acc, hk, hat, rfl, rfl, HS⟩ := hrel
      by_cases hlt : k < s.size
      · have HD := Lib.hid (List.drop_eq_getElem_cons (l := s.data.toList) (i := k) (by simpa using hlt))
        have e1 : s.data.toList[k]'(by simpa using hlt) = s[k] := rfl
        rw [e1] at HD
        clear e1
        have HZ := Lib.hid (kn_get HK.out hlt)
        have HE' := Lib.hid (HE.out.below (Nat.le_refl 20) (HS.out.2.2.2.mono h5))
        have HR' := Lib.hid ((HR.out.below HS.out.2.2.2).drop (k := at_) (cap := cap) (by simp; rw [HN.out]; omega) (by simp; rw [HN.out]; omega))
        have hBw := HS.out.2.2.2.size
        cases hsp : spanS s[k].toNat (bs.drop at_) with
        | error e =>
          have HF : Hid (decS s.data.toList bs = .error e) := Lib.hid (by rw [HS.out.1, HD.out, decS_err hsp]; rfl)
          obtain ⟨t, v, het⟩ := HE.out.some_ e (spanS_err hsp)
          generalize hC : s[k].toNat = c at *
          have HCC := Lib.hid hC
          have HSP := Lib.hid hsp
          have HET := Lib.hid het
          clear hsp het hC
          by_cases hca : cap = at_
          · have HR2 := HR'
            rw [if_pos hca] at HR2
            obtain rfl : n = at_ := by omega
            obtain rfl : cap = n := by omega
            go_wp2_with fail
            go_quiet ((rw [HCC.out]; go_at_call 63; exact Calls.quiet_of (span_err E c 0 0 w.heap.size e _ (bs.drop cap) _ t v (HE'.out.drewN _) HZ.out (by rw [List.length_drop, HN.out]; omega) (by simp only [maxLen]; omega) (by omega) (by rw [List.map_drop]; exact HR2.out.drewN _) HSP.out HET.out)))
            go_wp2_with fail
            go_ret2
            show DecPost E w (decS s.data.toList bs) _ _
            rw [HF.out]
            exact ⟨by rw [HET.out]; rfl, below_drewN HS.out.2.2.2 _⟩
          · have HR2 := HR'
            rw [if_neg hca] at HR2
            go_wp2_with fail
            go_quiet ((rw [HCC.out]; go_at_call 63; exact Calls.quiet_of (span_err E c _ _ w.heap.size e _ (bs.drop at_) _ t v (HE'.out.drewN _) HZ.out (by rw [List.length_drop, HN.out]) (by simp only [maxLen]; omega) (by omega) (by rw [List.map_drop]; exact HR2.out.drewN _) HSP.out HET.out)))
            go_wp2_with fail
            go_ret2
            show DecPost E w (decS s.data.toList bs) _ _
            rw [HF.out]
            exact ⟨by rw [HET.out]; rfl, below_drewN HS.out.2.2.2 _⟩
        | ok m =>
          have hle := spanS_le hsp
          generalize hX : cellS s[k].toNat ((bs.drop at_).take m) = x
          have HX := Lib.hid hX
          have HF : Hid (decS s.data.toList bs = thenD (acc ++ [x]) (decS (s.data.toList.drop (k + 1)) (bs.drop (at_ + m)))) := Lib.hid (by rw [HS.out.1, HD.out, decS_ok acc hsp, List.drop_drop, hX])
          clear hX
          generalize hC : s[k].toNat = c at *
          have HCC := Lib.hid hC
          have HSP := Lib.hid hsp
          have hle1 : m ≤ n - at_ := by have := hle.1; rwa [List.length_drop, HN.out] at this
          have hle2 : hd c ≤ m := hle.2
          have hle3 : 1 ≤ m := by have := HZ.out; omega
          clear hsp hC hle
          have hca : ¬ cap = at_ := by omega
          have HR2 := HR'
          rw [if_neg hca] at HR2
          clear HR'
          go_wp2_with fail
          go_quiet ((rw [HCC.out]; go_at_call 63; exact Calls.quiet_of (span_ok E c _ _ w.heap.size m _ (bs.drop at_) _ (HE'.out.drewN _) HZ.out (by rw [List.length_drop, HN.out]) (by simp only [maxLen]; omega) (by omega) (by rw [List.map_drop]; exact HR2.out.drewN _) HSP.out)))
          go_wp2_with fail
          have HOW : Hid ((wr.drewN nq).ownsRow w.heap.size 60 3 u6 k (flat acc)) := Lib.hid HS.out.2.2.1
          have HBW : Hid (Below w.heap.size w (wr.drewN nq)) := Lib.hid (below_drewN HS.out.2.2.2 _)
          have HRW : Hid (Rd (wr.drewN nq) (wr.drewN nq).heap.size (Option.map (fun x => x.add at_) A) (((bs.drop at_).take m).map bv)) := Lib.hid (by
            have h1 := (HR2.out.take m).more hBw
            rw [← List.map_drop, ← List.map_take] at h1
            exact h1.drewN nq)
          have hszW : w.heap.size ≤ (wr.drewN nq).heap.size := hBw
          generalize wr.drewN nq = W at *
          have hI1 : (0 : Int) ≤ (at_ : Int) := by omega
          have hI2 : (at_ : Int) ≤ (at_ : Int) + (m : Int) := by omega
          have hI3 : (at_ : Int) + (m : Int) ≤ (cap : Int) := by omega
          have hI4 : IntKind.i64.wrap ((at_ : Int) + (m : Int)) = (at_ : Int) + (m : Int) := by rw [IntKind.wrap_i64]; omega
          have hkI : (0 : Int) ≤ (k : Int) := by omega
          have hkI2 : (k : Int) < (s.size : Int) := by omega
          have HCON := Lib.hid (cellOf_agg c (((at_ : Int) + (m : Int)).toNat - at_) (cap - at_) (Option.map (fun x => x.add at_) A) ((bs.drop at_).take m) x W.drew (by rw [List.length_take, List.length_drop, HN.out]; omega) (by simp only [maxLen]; omega) (by omega) (by exact HRW.out) HZ.out (by omega) (spanS_num_le HZ.out HSP.out) HX.out)
          have HOD : Hid (W.drew.ownsRow w.heap.size 60 3 u6 k (flat acc)) := Lib.hid HOW.out.drew
          go_region_held3 (fun _ => True) (trivial)
            (first
              | (rw [HCC.out]; go_at_call 64; (with_reducible refine HCON.out.mono ?_); rintro e w1 ⟨rfl, hb1⟩)
              | (refine step_append_cell _ ?_ (.tmp 39) (.tmp 50) ?_ w.heap.size k (flat acc) x ?_ ?_ ?_ ?_ ?_; exact rfl; exact rfl; exact ⟨w1.heap.size, rfl, by simp, by simp, by simp⟩; exact (own_below HOD.out hb1).alloc _; omega; exact Nat.le_trans hszW (Nat.le_trans hb1.size (by simp)); intro v3 w3 hown3 hg3))
          clear HCON hI4
          go_wp2_with fail
          have hbb := (HBW.out.drew).trans (hb1.mono hszW)
          refine ⟨⟨k + 1, at_ + m, acc ++ [x], by omega, by omega, by go_num, by go_num, Lib.hid ⟨HF.out, by rw [List.length_append, HS.out.2.1]; rfl, by rw [flat_snoc]; exact hown3, ?_⟩⟩, by simp [intOf]; omega⟩
          exact (hbb.alloc hbb.size _).grown hg3 (Nat.le_trans hbb.size (by simp)) (fun j hj => (HOW.out.lt j hj).1)
      · have hdk : s.data.toList.drop k = [] := List.drop_eq_nil_of_le (by simp; omega)
        by_cases hend : at_ < n
        · have HF : Hid (decS s.data.toList bs = .error 0) := Lib.hid (by
            rw [HS.out.1, hdk, decS, if_neg (by intro e; rw [List.drop_eq_nil_iff, HN.out] at e; omega)]; rfl)
          have hc0 : wr.cell? ⟨4, 0, none⟩ = some (E 0) := ((HE.out.below (Nat.le_refl 20) (HS.out.2.2.2.mono h5)).cell 0 (by omega))
          clear hdk
          go_wp2_with fail
          go_quiet (fail)
          go_wp2_with fail
          go_ret2
          show DecPost E w (decS s.data.toList bs) _ _
          rw [HF.out]
          exact ⟨rfl, below_drewN HS.out.2.2.2 _⟩
        · have HF : Hid (decS s.data.toList bs = .ok acc) := Lib.hid (by
            rw [HS.out.1, hdk, decS, if_pos (by rw [List.drop_eq_nil_iff, HN.out]; omega)]; simp [thenD])
          clear hdk
          go_wp2_with fail
          go_ret2
          show DecPost E w (decS s.data.toList bs) _ _
          rw [HF.out]
          exact ⟨_, rfl, by have := HS.out.2.2.1; rwa [← HS.out.2.1] at this, HS.out.2.2.2⟩
end Go.Proofs.YtlmdafldggbiaaaDoor.F

/- What the reference's small functions answer: letter, Known, fits, Number. Tools for the reference of layer 1. What jackfieldlaw01.plain answers: the cells as the reference has them. What the reference's Encode answers. What the reference's field answers. What the reference's Some answers. What the reference's Decode answers. -/
import Derived.Test.YtmhfhdbaeijcfaaDoorGB
namespace Go.Proofs.YtmhfhdbaeijcfaaDoor.F
open Go.RowKit
def order18 : List Nat := [3, 1, 4, 0, 5, 6, 7, 8, 9, 10, 11, 12, 13, 14, 15, 16, 2, 17]
def numOf (k : Nat) : Nat := order18.idxOf k + 1

theorem ret_two {k : IntKind} {a a' : Int} {b b' : Bool} (h1 : a = a') (h2 : b = b') : Ending.returned (.tuple #[.int k a, .bool b]) = .returned (.tuple #[.int k a', .bool b']) := by rw [h1, h2]

set_option maxRecDepth 100000 in
set_option maxHeartbeats 400000 in
theorem letter_any (c : Nat) (w : World) :
    Calls Tryd.prog 61 #[.int .u8 (c : Int)] w fun e w' => e = .returned (.tuple #[.int .i64 (hd c : Int), .bool (isT c)]) ∧ w = w' := by
  go_enter Tryd.func61, Tryd.ntmps61
  go_wp2
  all_goals
    go_ret2
    refine ⟨ret_two ?_ ?_, rfl⟩
    all_goals simp only [beq_iff_eq, beq_eq_false_iff_ne] at *
    · unfold hd
      repeat' split
      all_goals omega
    · unfold isT
      rw [Bool.eq_iff_iff]
      simp
      omega

set_option maxRecDepth 100000 in
set_option maxHeartbeats 400000 in
theorem rknown_any (s : ByteArray) (w : World) (hs : s.size ≤ maxLen) :
    Calls Tryd.prog 60 #[.string s] w fun e w' => e = .returned (.bool (kn s.data.toList)) ∧ w = w' := by
  unfold maxLen at hs
  go_enter Tryd.func60, Tryd.ntmps60
  go_wp2_with fail
  go_loop [3] (fun i => ∃ k : Nat, k ≤ s.size ∧ i = .int .i64 k ∧ Hid (kn (s.data.toList.take k) = true)) (fun i => s.size - (intOf i).toNat)
  case atStart => exact ⟨0, Nat.zero_le _, rfl, rfl⟩
  case round =>
    obtain ⟨k, hk, rfl, hkn⟩ := hrel
    by_cases hlt : k < s.size
    · go_wp2_with (go_at_call 61; refine (letter_any _ _).mono ?_; rintro e w' ⟨rfl, rfl⟩)
      · rename_i h0
        go_ret
        exact ⟨ret_bool (kn_at s k hlt (by simpa using h0)).symm, rfl⟩
      · rename_i h0
        refine ⟨⟨k + 1, by omega, by go_num, ?_⟩, by simp [intOf]; omega⟩
        have h1 := hkn.out
        show kn _ = true
        rw [take_snoc s k hlt]
        unfold kn at h1 ⊢
        rw [List.all_append, h1]
        simpa using h0
    · go_wp2_with fail
      go_ret
      refine ⟨ret_bool ?_, rfl⟩
      have h1 := hkn.out
      rw [List.take_of_length_le (by simp; omega)] at h1
      exact h1.symm

def fitsB (n : Int) (h : Nat) : Bool := decide (0 ≤ n ∧ (n < 256 ^ h ∨ h = 8))

set_option maxRecDepth 100000 in
set_option maxHeartbeats 400000 in
theorem fits_any (n : Int) (h : Nat) (w : World) (hh : h ≤ 8) (hlo : -9223372036854775808 ≤ n) (hhi : n ≤ 9223372036854775807) :
    Calls Tryd.prog 62 #[.int .i64 n, .int .i64 (h : Int)] w fun e w' => e = .returned (.bool (fitsB n h)) ∧ w = w' := by
  by_cases hneg : n < 0
  · go_enter Tryd.func62, Tryd.ntmps62
    go_wp2_with fail
    go_ret
    refine ⟨ret_bool ?_, rfl⟩
    unfold fitsB
    symm
    simp
    omega
  · obtain ⟨N, rfl⟩ := Int.eq_ofNat_of_zero_le (show 0 ≤ n by omega)
    go_enter Tryd.func62, Tryd.ntmps62
    go_wp2_with fail
    go_loop [0, 5] (fun v i => ∃ k : Nat, k ≤ h ∧ i = .int .i64 k ∧ v = .int .i64 ((N / 256 ^ k : Nat) : Int)) (fun _ i => h - (intOf i).toNat)
    case atStart => exact ⟨0, Nat.zero_le _, rfl, by simp⟩
    case round =>
      obtain ⟨k, hk, rfl, rfl⟩ := hrel
      have hb : N / 256 ^ k ≤ 9223372036854775807 := by
        have := Nat.div_le_self N (256 ^ k)
        omega
      have HS : Hid (N / 256 ^ (k + 1) = N / 256 ^ k / 256) := Lib.hid (by rw [Nat.pow_succ, Nat.div_div_eq_div_mul])
      generalize hq : N / 256 ^ k = q at *
      have HQ := Lib.hid hq
      clear hq
      by_cases hlt : k < h
      · go_wp2_with fail
        exact ⟨⟨k + 1, by omega, by go_num, by rw [HS.out]; rfl⟩, by simp [intOf]; omega⟩
      · have hkh : k = h := by omega
        subst hkh
        have hz : (q = 0) ↔ N < 256 ^ k := by
          rw [← HQ.out]
          exact Nat.div_eq_zero_iff_lt (Nat.pow_pos (by omega))
        have HZ := Lib.hid hz
        clear hz
        go_wp2_with fail
        · rename_i h0 _
          go_ret
          refine ⟨ret_bool ?_, rfl⟩
          have h1 := HZ.out.1 h0
          unfold fitsB
          symm
          rw [decide_eq_true_iff]
          refine ⟨by omega, .inl ?_⟩
          have e : ((256 ^ k : Nat) : Int) = (256 : Int) ^ k := by simp
          rw [← e]
          omega
        · rename_i h0 _
          go_ret
          refine ⟨ret_bool ?_, rfl⟩
          have h1 : ¬ N < 256 ^ k := fun e => h0 (HZ.out.2 e)
          have e : ((256 ^ k : Nat) : Int) = (256 : Int) ^ k := by simp
          have h2 : ¬ (N : Int) < (256 : Int) ^ k := by rw [← e]; omega
          unfold fitsB
          rw [Bool.eq_iff_iff]
          simp only [Bool.or_eq_true, beq_iff_eq, decide_eq_true_iff]
          constructor
          · intro hh2
            exact ⟨by omega, .inr (by omega)⟩
          · rintro ⟨_, h3 | h3⟩
            · exact absurd h3 h2
            · right; omega

theorem be_cons (j n : Nat) : be (j + 1) n = UInt8.ofNat (n / 256 ^ j % 256) :: be j n := by
  induction j generalizing n with
  | zero => simp [be]
  | succ j ih =>
    rw [be, ih]
    conv => rhs; rw [be]
    rw [List.cons_append, Nat.pow_succ, Nat.div_div_eq_div_mul, Nat.mul_comm 256]
theorem made_zero (n : Nat) : (madeCells (Value.int .u8 0).cells (n * 1)).toList = (List.replicate n (0 : UInt8)).map bv := by
  apply List.ext_getElem
  · simp [size_madeCells]
  · intro i h1 h2
    simp [madeCells, Value.cells, bv, Nat.mod_one]
theorem set_last (j : Nat) (b : UInt8) (r : List UInt8) : ((List.replicate (j + 1) (0 : UInt8) ++ r).map bv).set j (bv b) = (List.replicate j (0 : UInt8) ++ b :: r).map bv := by
  rw [List.replicate_succ', List.append_assoc, List.map_append, List.set_append_right _ _ (by simp)]
  simp

set_option maxRecDepth 100000 in
set_option maxHeartbeats 400000 in
theorem rnumber_any (N size : Nat) (w : World) (h8 : size ≤ 8) (hN : N < 18446744073709551616) :
    Calls Tryd.prog 44 #[.int .u64 (N : Int), .int .i64 (size : Int)] w fun e w' => e = .returned (.slice (some ⟨w.heap.size, 0, none⟩) size size) ∧ Hid (w'.ownsRow w.heap.size 5 1 (.slice (some ⟨w.heap.size, 0, none⟩) size size) size ((be size N).map bv) ∧ Below w.heap.size w w') := by
  obtain ⟨i0, hi0, hz0, hz1, hz2⟩ := info_parts u8_info
  have HI := Lib.hid (And.intro hi0 (And.intro hz0 (And.intro hz1 hz2)))
  clear hi0 hz0 hz1 hz2
  go_enter Tryd.func44, Tryd.ntmps44
  go_wp2_with (first
    | (refine wpList_make_full _ rfl _ _ 23 rfl w.heap.size 5 i0 _ 1 Tryd.underlying23 HI.out.1 HI.out.2.1 HI.out.2.2.1 .i64 .i64 _ _ size rfl rfl rfl rfl (by rw [HI.out.2.2.2]; omega) (by simp only [maxLen]; omega) (Nat.le_refl _) ?_
       intro w2 hown2 hg2))
  go_loopw [0, 6] (fun u i W => ∃ j : Nat, j ≤ size ∧ i = .int .i64 j ∧ u = .int .u64 ((N / 256 ^ (size - j) : Nat) : Int) ∧ Hid (W.ownsRow w.heap.size 5 1 (.slice (some ⟨w.heap.size, 0, none⟩) size size) size ((List.replicate j (0 : UInt8) ++ be (size - j) N).map bv) ∧ Below w.heap.size w W)) (fun _ i _ => (intOf i).toNat)
  case atStart =>
    refine ⟨size, Nat.le_refl _, rfl, by simp, Lib.hid ⟨?_, (Below.refl _ _).grown hg2 (Nat.le_refl _) (fun k hk => by cases hk)⟩⟩
    rw [made_zero] at hown2
    simpa [be] using hown2
  case round =>
    obtain ⟨j, hj, rfl, rfl, HR⟩ := hrel
    by_cases hlt : 0 < j
    · obtain ⟨i, rfl⟩ : ∃ i, j = i + 1 := ⟨j - 1, by omega⟩
      have hb : N / 256 ^ (size - (i + 1)) < 18446744073709551616 := Nat.lt_of_le_of_lt (Nat.div_le_self _ _) hN
      have HS : Hid (N / 256 ^ (size - i) = N / 256 ^ (size - (i + 1)) / 256) := Lib.hid (by rw [show size - i = size - (i + 1) + 1 by omega, Nat.pow_succ, Nat.div_div_eq_div_mul])
      have HBC : Hid (be (size - i) N = UInt8.ofNat (N / 256 ^ (size - (i + 1)) % 256) :: be (size - (i + 1)) N) := Lib.hid (by rw [show size - i = size - (i + 1) + 1 by omega]; exact be_cons _ _)
      have hcl := HR.out.1.cellAt i (by omega)
      obtain ⟨u0, hu0⟩ : ∃ u0, ((List.replicate (i + 1) (0 : UInt8) ++ be (size - (i + 1)) N).map bv)[i]? = some u0 := ⟨_, List.getElem?_eq_getElem (by simp; omega)⟩
      rw [hu0] at hcl
      have hfz := HR.out.1.frozenAt i
      clear hu0
      generalize hq : N / 256 ^ (size - (i + 1)) = q at *
      have HQ := Lib.hid hq
      clear hq
      go_wp2_with fail
      have hst := HR.out.1.stored i (bv (UInt8.ofNat (q % 256)))
      have hbv : bv (UInt8.ofNat (q % 256)) = .int .u8 ((q : Int) % 256) := by
        unfold bv
        congr 1
        rw [UInt8.toNat_ofNat', Nat.mod_eq_of_lt (by omega)]
        omega
      rw [set_last, hbv] at hst
      refine ⟨⟨i, by omega, rfl, by rw [HS.out]; rfl, Lib.hid ⟨by rw [HBC.out]; exact hst.1, HR.out.2.setCell (Nat.le_refl _) _⟩⟩, by simp [intOf]⟩
    · have hj0 : j = 0 := by omega
      subst hj0
      go_wp2_with fail
      go_ret
      exact ⟨rfl, Lib.hid ⟨by simpa using HR.out.1, HR.out.2⟩⟩
end Go.Proofs.YtmhfhdbaeijcfaaDoor.F
namespace Go.Proofs.YtmhfhdbaeijcfaaDoor.F
open Go.RowKit

set_option maxRecDepth 100000 in
/-- Bytes, wherever they lie, nil too, appended to a row of our own. -/
theorem run_append_rd (w : World) (base : Nat) (v : Value) (n : Nat) (xs : List Value) (hown : w.ownsRow base 5 1 v n xs) (B : Nat) (A : Option Addr) (m c : Nat) (bs : List UInt8) (hm : bs.length = m) (hr : Rd w B A (bs.map bv))
    (hb : n + m ≤ 140737488355328) (hbase : base ≤ w.heap.size) (ty : TypeId) :
    ∃ v' w', (Builtin.append_ #[23, 23] ty #[v, .slice A m c]).run Tryd.prog w = .ok v' w' ∧ w'.ownsRow base 5 1 v' (n + m) (xs ++ bs.map bv) ∧ w.grownBy w' v.ownBlock ∧
      (v'.ownBlock = v.ownBlock ∨ v'.ownBlock = some w.heap.size) := by
  obtain ⟨i0, hi0, hz0, hz1, hz2⟩ := info_parts u8_info
  subst hm
  rcases A with _ | ad
  · have hbs : bs = [] := by
      rcases hr with h | ⟨ad, h, _⟩
      · simpa using h
      · cases h
    subst hbs
    refine ⟨v, w, ?_, by simpa using hown, World.grownBy.refl _ _, .inl rfl⟩
    rcases hown.2 with ⟨rfl, rfl⟩ | ⟨g, cap, cur, rfl, _, _, hnc, _⟩
    · simp [Builtin.append_, run_underlying Tryd.underlying23, sizeOf, typeInfo, hi0, Builtin.lenOf, Builtin.firstCells]
    · simp [Builtin.append_, run_underlying Tryd.underlying23, sizeOf, typeInfo, hi0, Builtin.lenOf, Builtin.firstCells, hnc, storeCells]
  · have hnews : ∀ (j : Nat) (u : Value), (bs.map bv)[j]? = some u → w.cell? (ad.add j) = some u := by
      intro j u hj
      obtain ⟨ad', h1, _, h2⟩ := hr.cell hj
      injection h1 with h1
      subst h1
      exact h2
    obtain ⟨v', w', hrun, h2, h3, _, h5⟩ := run_append_own_at (P := Tryd.prog) w base 23 ty 5 i0 _ 1 1 Tryd.underlying23 hi0 hz0 hz1 hz2 rfl (by omega) v n xs hown ad bs.length c (bs.map bv) (by simp) hnews
      (by intro u hu; simp at hu; obtain ⟨b, _, rfl⟩ := hu; rfl) (by simp only [maxLen]; omega) (by omega) hbase
    exact ⟨v', w', hrun, h2, h3, h5⟩

theorem wpList_append_rd (w : World) {ops : Array Oper} {rest : List Oper} {o : Oper} {a : Act} {Q : Exit → Act → World → Prop} (hgd : o.guard = none) (t x : Operand)
    (ho : o.op = .call { callee := .builtin .append, args := #[t, x], argTypes := #[23, 23] }) (base : Nat) (v : Value) (n : Nat) (xs : List Value) (hs : a.eval t = v) (hown : w.ownsRow base 5 1 v n xs) (B : Nat) (A : Option Addr) (m c : Nat) (bs : List UInt8)
    (hx : a.eval x = .slice A m c) (hm : bs.length = m) (hr : Rd w B A (bs.map bv)) (hb : n + m ≤ 140737488355328) (hbase : base ≤ w.heap.size)
    (h : ∀ v' w', w'.ownsRow base 5 1 v' (n + m) (xs ++ bs.map bv) → w.grownBy w' v.ownBlock → (v'.ownBlock = v.ownBlock ∨ v'.ownBlock = some w.heap.size) → wpList Tryd.prog ops Q rest (a.put o.dst v') w') : wpList Tryd.prog ops Q (o :: rest) a w := by
  refine wpList_plain hgd fun K hK => ?_
  obtain ⟨v', w', hr2, h2, h3, h4⟩ := run_append_rd w base v n xs hown B A m c bs hm hr hb hbase o.type
  unfold Oper.wp execOp
  simp only [ho, resolve, invoke, builtin, Sem.run_bind, Sem.run_pure, Result.andThen_ok, List.map_toArray, List.map_cons, List.map_nil, hs, hx, hr2]
  exact hK _ _ (h v' w' h2 h3 h4)

theorem own_slice {w : World} {base : Nat} {v : Value} {n : Nat} {bs : List UInt8} (h : w.ownsRow base 5 1 v n (bs.map bv)) : ∃ A c, v = .slice A n c ∧ bs.length = n ∧ n ≤ c ∧ c ≤ maxLen ∧ Rd w w.heap.size A (bs.map bv) := by
  have hl : bs.length = n := by simpa using h.1
  rcases h.2 with ⟨rfl, rfl⟩ | ⟨g, cap, cur, rfl, _, hg, hnc, hcm, _⟩
  · exact ⟨none, 0, rfl, hl, Nat.le_refl _, by decide, .inl (by simpa using hl)⟩
  · refine ⟨_, cap, rfl, hl, hnc, hcm, ?_⟩
    refine .inr ⟨⟨g, 0, none⟩, rfl, ?_, h.cells (g := g) rfl⟩
    rcases Nat.lt_or_ge g w.heap.size with hlt | hge
    · exact hlt
    · rw [Array.getElem?_eq_none hge] at hg; cases hg

theorem own_empty (w : World) (base : Nat) (h : base ≤ w.heap.size) : (w.alloc (.cells #[] 5)).ownsRow base 5 1 (.slice (some ⟨w.heap.size, 0, none⟩) 0 0) 0 [] :=
  ⟨rfl, .inr ⟨w.heap.size, 0, #[], rfl, h, heap_alloc_new w _, Nat.le_refl _, by decide, rfl, rfl⟩⟩
end Go.Proofs.YtmhfhdbaeijcfaaDoor.F
namespace Go.Proofs.YtmhfhdbaeijcfaaDoor.F
open Go.RowKit

def flatR (cs : List FC) : List Value := cs.flatMap fun x => [.int .i64 x.n, .int .u64 (x.f : Int), .string x.s]
theorem flatR_length (cs : List FC) : (flatR cs).length = cs.length * 3 := by
  induction cs with
  | nil => rfl
  | cons x cs ih => simp only [flatR, List.flatMap_cons, List.length_append] at ih ⊢; simp only [List.length_cons, List.length_nil]; omega
theorem flatR_snoc (cs : List FC) (x : FC) : flatR (cs ++ [x]) = flatR cs ++ [.int .i64 x.n, .int .u64 (x.f : Int), .string x.s] := by simp [flatR]
theorem flatR_at {cs : List FC} {k : Nat} {x : FC} (h : cs[k]? = some x) : (flatR cs)[k * 3]? = some (.int .i64 x.n) ∧ (flatR cs)[k * 3 + 1]? = some (.int .u64 (x.f : Int)) ∧ (flatR cs)[k * 3 + 2]? = some (.string x.s) := by
  induction cs generalizing k with
  | nil => simp at h
  | cons y cs ih =>
    have e : flatR (y :: cs) = [.int .i64 y.n, .int .u64 (y.f : Int), .string y.s] ++ flatR cs := by simp [flatR]
    match k with
    | 0 => simp at h; subst h; simp [e]
    | k + 1 =>
      simp at h
      obtain ⟨g0, g1, g2⟩ := ih h
      rw [e]
      have s0 : ((k + 1) * 3) = k * 3 + 3 := by omega
      rw [s0]
      refine ⟨?_, ?_, ?_⟩
      · rw [List.getElem?_append_right (by simp)]; simpa using g0
      · rw [List.getElem?_append_right (by simp)]; simpa [Nat.add_right_comm] using g1
      · rw [List.getElem?_append_right (by simp)]; simpa [Nat.add_right_comm] using g2

/-- A slice of the reference's cells. -/
def CsR (w : World) (B : Nat) (A : Option Addr) (cs : List FC) : Prop :=
  cs = [] ∨ ∃ b o, A = some ⟨b, o, none⟩ ∧ b < B ∧ ∀ (k : Nat) (x : FC), cs[k]? = some x →
    w.cell? ⟨b, o + k * 3, none⟩ = some (.int .i64 x.n) ∧ w.cell? ⟨b, o + k * 3 + 1, none⟩ = some (.int .u64 (x.f : Int)) ∧ w.cell? ⟨b, o + k * 3 + 2, none⟩ = some (.string x.s)
theorem CsR.keep {w w' : World} {B : Nat} {A : Option Addr} {cs : List FC} (h : CsR w B A cs) (hb : Below B w w') : CsR w' B A cs := by
  rcases h with rfl | ⟨b, o, h1, h2, h3⟩
  · exact .inl rfl
  · have hk : ∀ j, w'.cell? ⟨b, j, none⟩ = w.cell? ⟨b, j, none⟩ := fun j => hb.cell (p := ⟨b, j, none⟩) h2
    exact .inr ⟨b, o, h1, h2, fun k x hx => by rw [hk, hk, hk]; exact h3 k x hx⟩
theorem CsR.at_ {w : World} {B : Nat} {A : Option Addr} {cs : List FC} (h : CsR w B A cs) {k : Nat} (hk : k < cs.length) :
    ∃ b o, A = some ⟨b, o, none⟩ ∧ b < B ∧ w.cell? ⟨b, o + k * 3, none⟩ = some (.int .i64 cs[k].n) ∧ w.cell? ⟨b, o + k * 3 + 1, none⟩ = some (.int .u64 (cs[k].f : Int)) ∧ w.cell? ⟨b, o + k * 3 + 2, none⟩ = some (.string cs[k].s) := by
  rcases h with rfl | ⟨b, o, h1, h2, h3⟩
  · simp at hk
  · exact ⟨b, o, h1, h2, h3 k _ (List.getElem?_eq_getElem hk)⟩
theorem own_rcells {w : World} {base : Nat} {v : Value} {n : Nat} {cs : List FC} (h : w.ownsRow base 89 3 v n (flatR cs)) : ∃ A c, v = .slice A n c ∧ cs.length = n ∧ n ≤ c ∧ CsR w w.heap.size A cs := by
  have hl : cs.length = n := by have := h.1; rw [flatR_length] at this; omega
  rcases h.2 with ⟨rfl, rfl⟩ | ⟨g, cap, cur, rfl, _, hg, hnc, hcm, hsz, htk⟩
  · exact ⟨none, 0, rfl, hl, Nat.le_refl _, .inl (List.eq_nil_of_length_eq_zero hl)⟩
  · refine ⟨_, cap, rfl, hl, hnc, .inr ⟨g, 0, rfl, ?_, fun k x hx => ?_⟩⟩
    · rcases Nat.lt_or_ge g w.heap.size with hlt | hge
      · exact hlt
      · rw [Array.getElem?_eq_none hge] at hg; cases hg
    · have hk : k < n := by rw [← hl]; exact (List.getElem?_eq_some_iff.1 hx).1
      obtain ⟨g0, g1, g2⟩ := flatR_at hx
      have c0 := h.cellAt (k * 3) (by omega)
      have c1 := h.cellAt (k * 3 + 1) (by omega)
      have c2 := h.cellAt (k * 3 + 2) (by omega)
      rw [Nat.zero_add]
      exact ⟨c0.trans g0, c1.trans g1, c2.trans g2⟩
theorem rcell_info : (Tryd.prog.info? 89).map (fun i => (i.zero, i.size, i.bytes)) = some (some (.agg #[.int .i64 0, .int .u64 0, .string ⟨#[]⟩]), 3, 32) := by kernel_rfl
theorem own_empty65 (w : World) (base : Nat) (h : base ≤ w.heap.size) : (w.alloc (.cells #[] 89)).ownsRow base 89 3 (.slice (some ⟨w.heap.size, 0, none⟩) 0 0) 0 [] :=
  ⟨rfl, .inr ⟨w.heap.size, 0, #[], rfl, h, heap_alloc_new w _, Nat.le_refl _, by decide, rfl, rfl⟩⟩
set_option maxRecDepth 100000 in
theorem run_store_f64' (P : Program) (w : World) (a : Addr) (m : Mode) (k : FloatKind) (b : Nat) : (store a (.float k b) m).run P w = stored P w a (.float k b) m := run_store P w a _ m rfl
attribute [local go_sem] run_store_f64'

end Go.Proofs.YtmhfhdbaeijcfaaDoor.F
namespace Go.Proofs.YtmhfhdbaeijcfaaDoor.F
open Go.RowKit

theorem fitsB_iff {n : Int} {h : Nat} (hh : h = 1 ∨ h = 2 ∨ h = 4 ∨ h = 8) (hhi : n ≤ 9223372036854775807) : fitsB n h = true ↔ 0 ≤ n ∧ n ≤ (great h : Int) := by
  unfold fitsB
  rw [decide_eq_true_iff]
  rcases hh with rfl | rfl | rfl | rfl <;> simp only [great] <;> simp <;> omega
theorem step_append_rd (w : World) {ops : Array Oper} {o : Oper} {a : Act} {K : Act → World → Prop} {Q : Exit → Act → World → Prop} {E : Prop} (hgd : o.guard = none) (t x : Operand)
    (ho : o.op = .call { callee := .builtin .append, args := #[t, x], argTypes := #[23, 23] }) (base : Nat) (v : Value) (n : Nat) (xs : List Value) (hs : a.eval t = v) (hown : w.ownsRow base 5 1 v n xs) (B : Nat) (A : Option Addr) (m c : Nat) (bs : List UInt8)
    (hx : a.eval x = .slice A m c) (hm : bs.length = m) (hr : Rd w B A (bs.map bv)) (hb : n + m ≤ 140737488355328) (hbase : base ≤ w.heap.size)
    (h : ∀ v' w', w'.ownsRow base 5 1 v' (n + m) (xs ++ bs.map bv) → w.grownBy w' v.ownBlock → (v'.ownBlock = v.ownBlock ∨ v'.ownBlock = some w.heap.size) → K (a.put o.dst v') w') :
    if Region.wanted o (yielded ops a.tmps) = true then Oper.wp Tryd.prog o a w K Q else E := by
  have hw : Region.wanted o (yielded ops a.tmps) = true := by simp [Region.wanted, hgd]
  rw [if_pos hw]
  obtain ⟨v', w', hr2, h2, h3, h4⟩ := run_append_rd w base v n xs hown B A m c bs hm hr hb hbase o.type
  unfold Oper.wp execOp
  simp only [ho, resolve, invoke, builtin, Sem.run_bind, Sem.run_pure, Result.andThen_ok, List.map_toArray, List.map_cons, List.map_nil, hs, hx, hr2]
  exact h v' w' h2 h3 h4

theorem rd_of_own {w : World} {base : Nat} {A : Option Addr} {n c : Nat} {bs : List UInt8} (h : w.ownsRow base 5 1 (.slice A n c) n (bs.map bv)) : Rd w w.heap.size A (bs.map bv) := by
  obtain ⟨A', c', e, _, _, _, h⟩ := own_slice h
  injection e with e _ _
  rw [e]
  exact h
theorem ne_own {B : Nat} {v v' : Value} {W : World} (h : some B ≠ v.ownBlock) (hat : v'.ownBlock = v.ownBlock ∨ v'.ownBlock = some W.heap.size) (hB : B < W.heap.size) : some B ≠ v'.ownBlock := by
  rcases hat with e | e
  · rw [e]; exact h
  · rw [e]; intro h; injection h with h; omega

def RencP (w w' : World) (r : Except Nat Nat) (x : List UInt8) (v : Value) (j : Int) : Prop := match r with
  | .error k => v = .slice none 0 0 ∧ j = (numOf k : Int)
  | .ok _ => j = 0 ∧ w'.ownsRow w.heap.size 5 1 v x.length (x.map bv)
set_option maxRecDepth 100000 in
set_option maxHeartbeats 400000 in
theorem rencode_known (s : ByteArray) (cap : Nat) (A : Option Addr) (cs : List FC) (w : World) (hk : kn s.data.toList = true) (hn : cs.length = s.size) (hcs : CsR w w.heap.size A cs) (hok : ∀ x ∈ cs, x.ok) (hbig : s.size ≤ 1048576) :
    Calls Tryd.prog 43 #[.string s, .slice A s.size cap] w fun e w' => ∃ v j, e = .returned (.tuple #[v, .int .i64 j]) ∧ Hid (RencP w w' (sumS s.data.toList cs) (encB s.data.toList cs) v j ∧ Below w.heap.size w w') := by
  have HK := Lib.hid hk
  have HN := Lib.hid hn
  have HC := Lib.hid hcs
  have HO := Lib.hid hok
  clear hk hn hcs hok
  go_enter Tryd.func43, Tryd.ntmps43
  go_wp2_with fail
  with_reducible refine (rknown_any s w (by simp only [maxLen]; omega)).mono ?_
  rintro e w1 ⟨rfl, rfl⟩
  rw [HK.out]
  go_wp2_with fail
  go_loopw [6, 24] (fun v i W => ∃ k : Nat, k ≤ s.size ∧ i = .int .i64 k ∧ Hid ((∃ m, sumS (s.data.toList.take k) (cs.take k) = .ok m) ∧ W.ownsRow w.heap.size 5 1 v (encB (s.data.toList.take k) (cs.take k)).length ((encB (s.data.toList.take k) (cs.take k)).map bv) ∧ Below w.heap.size w W)) (fun _ i _ => s.size - (intOf i).toNat)
  case atStart => exact ⟨0, Nat.zero_le _, rfl, Lib.hid ⟨⟨0, by simp [sumS]⟩, by simpa [encB] using own_empty w w.heap.size (Nat.le_refl _), (Below.refl _ _).alloc (Nat.le_refl _) _⟩⟩
  case round =>
    obtain ⟨k, hk, rfl, HR⟩ := hrel
    by_cases hlt : k < s.size
    · have hkc : k < cs.length := by rw [HN.out]; exact hlt
      obtain ⟨b, o, rfl, hbB, hc0, hc1, hc2⟩ := (HC.out.keep HR.out.2.2).at_ hkc
      have hle : (encB (s.data.toList.take k) (cs.take k)).length ≤ 68721573888 := by
        obtain ⟨m, hm⟩ := HR.out.1
        have h1 := encB_length hm
        have h2 := sumS_le hm
        rw [List.length_take] at h2
        omega
      have HST := Lib.hid (encB_step (l := s.data.toList) (cs := cs) (k := k) (by simpa using hlt) hkc)
      have hgo : ∀ n, sizeS s[k].toNat cs[k] = .ok n → ∃ m, sumS (s.data.toList.take (k + 1)) (cs.take (k + 1)) = .ok m := by
        intro n hz
        obtain ⟨m, hm⟩ := HR.out.1
        exact ⟨_, sumS_step (by simpa using hlt) hkc hm hz⟩
      have hstop : ∀ e, sizeS s[k].toNat cs[k] = .error e → sumS s.data.toList cs = .error e := by
        intro e hz
        obtain ⟨m, hm⟩ := HR.out.1
        exact sumS_stop (by simpa using hlt) hkc hm hz
      have e1 : s.data.toList[k]'(by simpa using hlt) = s[k] := rfl
      rw [e1] at HST
      clear e1
      have HXO : Hid cs[k].ok := Lib.hid (HO.out _ (List.getElem_mem hkc))
      have HZ := Lib.hid (kn_get HK.out hlt)
      generalize cs[k] = x at *
      have hx1 : -9223372036854775808 ≤ x.n := HXO.out.1
      have hx2 : x.n ≤ 9223372036854775807 := HXO.out.2.1
      have hx3 : x.f < 18446744073709551616 := HXO.out.2.2.1
      have hx4 : x.s.size ≤ 9223372036854775807 := HXO.out.2.2.2
      generalize hC : s[k].toNat = c at *
      have HCC := Lib.hid hC
      clear hC
      have HGO := Lib.hid hgo
      have HSTOP := Lib.hid hstop
      clear hgo hstop
      generalize hEB : encB (s.data.toList.take k) (cs.take k) = eb at *
      have HEB := Lib.hid hEB
      clear hEB
      have hbw : b < wr.heap.size := Nat.lt_of_lt_of_le hbB HR.out.2.2.size
      have hszW : w.heap.size ≤ wr.heap.size := HR.out.2.2.size
      have hkI : (0 : Int) ≤ (k : Int) := by omega
      have hkI2 : (k : Int) < (s.size : Int) := by omega
      go_wp2_with fail
      rw [HCC.out]
      with_reducible refine (letter_any c _).mono ?_
      rintro e w1 ⟨rfl, rfl⟩
      have HOW := Lib.hid (HR.out.2.1.alloc (.cells #[.int .i64 x.n, .int .u64 (x.f : Int), .string x.s] 89))
      have HBW := Lib.hid (HR.out.2.2.alloc hszW (.cells #[.int .i64 x.n, .int .u64 (x.f : Int), .string x.s] 89))
      have hd0 : (wr.alloc (.cells #[.int .i64 x.n, .int .u64 (x.f : Int), .string x.s] 89)).cell? ⟨wr.heap.size, 0, none⟩ = some (.int .i64 x.n) := by simp
      have hd1 : (wr.alloc (.cells #[.int .i64 x.n, .int .u64 (x.f : Int), .string x.s] 89)).cell? ⟨wr.heap.size, 1, none⟩ = some (.int .u64 (x.f : Int)) := by simp
      have hd2 : (wr.alloc (.cells #[.int .i64 x.n, .int .u64 (x.f : Int), .string x.s] 89)).cell? ⟨wr.heap.size, 2, none⟩ = some (.string x.s) := by simp
      have hHW : wr.heap.size < (wr.alloc (.cells #[.int .i64 x.n, .int .u64 (x.f : Int), .string x.s] 89)).heap.size := by simp
      have hne : some wr.heap.size ≠ u6.ownBlock := by
        intro e
        have := HR.out.2.1.lt _ e.symm
        omega
      generalize wr.alloc (.cells #[.int .i64 x.n, .int .u64 (x.f : Int), .string x.s] 89) = W at *
      generalize wr.heap.size = B at *
      have hszW2 : w.heap.size ≤ W.heap.size := HBW.out.size
      have hq := hd_cases HZ.out
      by_cases hf : c = 102
      · have hf' : ((s[k].toNat : Int) == 102) = true := by rw [HCC.out]; simp [hf]
        have HF : Hid (fieldB c x = be 8 x.f ∧ sizeS c x = .ok 8) := Lib.hid (by subst hf; exact ⟨rfl, rfl⟩)
        go_wp2_with fail
        refine (rnumber_any x.f 8 W (by omega) hx3).mono ?_
        rintro e w2 ⟨rfl, HN2⟩
        have HR2 : Hid (Rd w2 w2.heap.size (some ⟨W.heap.size, 0, none⟩) ((be 8 x.f).map bv)) := Lib.hid (rd_of_own HN2.out.1)
        have HO2 := Lib.hid (own_below HOW.out HN2.out.2)
        have HB2 := Lib.hid (HBW.out.trans (HN2.out.2.mono hszW2))
        go_wp2_with (first
          | (at_builtin
             refine wpList_append_rd _ rfl (.tmp 53) (.tmp 56) rfl w.heap.size _ _ _ rfl HO2.out w2.heap.size _ 8 8 (be 8 x.f) rfl (be_length _ _) HR2.out (by omega) HB2.out.size ?_
             intro v3 w3 hown3 hg3 hat3))
        refine ⟨⟨k + 1, by omega, by go_num, Lib.hid ⟨HGO.out _ HF.out.2, ?_, HB2.out.grown hg3 HB2.out.size (fun j hj => (HO2.out.lt j hj).1)⟩⟩, by simp [intOf]; omega⟩
        rw [HST.out, HF.out.1, List.length_append, List.map_append, be_length]
        exact hown3
      · have hf' : ((s[k].toNat : Int) == 102) = false := by rw [HCC.out]; simp; omega
        cases hT : isT c
        · have HT := Lib.hid hT
          clear hT
          have HFI := Lib.hid (fitsB_iff hq hx2)
          cases hB : fitsB x.n (hd c)
          · have HBF := Lib.hid hB
            clear hB
            have HE : Hid (sizeS c x = .error 3) := Lib.hid (by
              have h1 : ¬ (0 ≤ x.n ∧ x.n ≤ (great (hd c) : Int)) := fun h => by rw [HFI.out.2 h] at HBF; cases HBF.out
              unfold sizeS
              rw [if_neg hf, HT.out, if_neg (by simp), if_pos (by omega)])
            go_wp2_with fail
            with_reducible refine (fits_any x.n (hd c) _ (by omega) hx1 hx2).mono ?_
            rintro e w2 ⟨rfl, rfl⟩
            rw [HBF.out]
            go_wp2_with fail
            go_ret2
            refine ⟨_, 1, rfl, Lib.hid ⟨?_, HBW.out⟩⟩
            rw [HSTOP.out _ HE.out]
            exact ⟨rfl, by decide⟩
          · have HBF := Lib.hid hB
            clear hB
            have hx0 := HFI.out.1 HBF.out
            have HE : Hid (sizeS c x = .ok (hd c)) := Lib.hid (by
              unfold sizeS
              rw [if_neg hf, HT.out, if_neg (by simp), if_neg (by omega)])
            obtain ⟨N, hN⟩ := Int.eq_ofNat_of_zero_le hx0.1
            have HFB : Hid (fieldB c x = be (hd c) N) := Lib.hid (by
              unfold fieldB
              rw [if_neg hf, HT.out, if_neg (by simp), hN]
              rfl)
            clear hx0
            have hw := u64_in (a := (N : Int)) (by omega) (by omega)
            rw [hN] at hd0
            have HFA : ∀ W, Hid (Calls Tryd.prog 62 #[.int .i64 (N : Int), .int .i64 (hd c : Int)] W fun e w' => e = .returned (.bool true) ∧ W = w') := fun W => Lib.hid (by
              have := fits_any x.n (hd c) W (by omega) hx1 hx2
              rw [HBF.out, hN] at this
              exact this)
            go_wp2_with fail
            with_reducible refine (HFA _).out.mono ?_
            rintro e w2 ⟨rfl, rfl⟩
            go_wp2_with fail
            with_reducible refine (rnumber_any N (hd c) W (by omega) (by omega)).mono ?_
            rintro e w2 ⟨rfl, HN2⟩
            have HR2 : Hid (Rd w2 w2.heap.size (some ⟨W.heap.size, 0, none⟩) ((be (hd c) N).map bv)) := Lib.hid (rd_of_own HN2.out.1)
            have HO2 := Lib.hid (own_below HOW.out HN2.out.2)
            have HB2 := Lib.hid (HBW.out.trans (HN2.out.2.mono hszW2))
            go_wp2_with (first
              | (at_builtin
                 refine wpList_append_rd _ rfl (.tmp 41) (.tmp 46) rfl w.heap.size _ _ _ rfl HO2.out w2.heap.size _ (hd c) (hd c) (be (hd c) N) rfl (be_length _ _) HR2.out (by omega) HB2.out.size ?_
                 intro v3 w3 hown3 hg3 hat3))
            refine ⟨⟨k + 1, by omega, by go_num, Lib.hid ⟨HGO.out _ HE.out, ?_, HB2.out.grown hg3 HB2.out.size (fun j hj => (HO2.out.lt j hj).1)⟩⟩, by simp [intOf]; omega⟩
            rw [HST.out, HFB.out, List.length_append, List.map_append, be_length]
            exact hown3
        · have HT := Lib.hid hT
          clear hT
          have HFI := Lib.hid (fitsB_iff (n := (x.s.size : Int)) hq (by omega))
          cases hB : fitsB (x.s.size : Int) (hd c)
          · have HBF := Lib.hid hB
            clear hB
            have HE : Hid (sizeS c x = .error 4) := Lib.hid (by
              have h1 : ¬ (0 ≤ (x.s.size : Int) ∧ (x.s.size : Int) ≤ (great (hd c) : Int)) := fun h => by rw [HFI.out.2 h] at HBF; cases HBF.out
              unfold sizeS
              rw [if_neg hf, if_pos HT.out, if_pos (by omega)])
            go_wp2_with fail
            with_reducible refine (fits_any (x.s.size : Int) (hd c) _ (by omega) (by omega) (by omega)).mono ?_
            rintro e w2 ⟨rfl, rfl⟩
            rw [HBF.out]
            go_wp2_with fail
            go_ret2
            refine ⟨_, 3, rfl, Lib.hid ⟨?_, HBW.out⟩⟩
            rw [HSTOP.out _ HE.out]
            exact ⟨rfl, by decide⟩
          · have HBF := Lib.hid hB
            clear hB
            have hx0 := HFI.out.1 HBF.out
            have HE : Hid (sizeS c x = .ok (hd c + x.s.size)) := Lib.hid (by
              unfold sizeS
              rw [if_neg hf, if_pos HT.out, if_neg (by omega)])
            have hsl := sizeS_text HE.out HT.out
            have HFB : Hid (fieldB c x = be (hd c) x.s.size ++ x.s.data.toList) := Lib.hid (by
              unfold fieldB
              rw [if_neg hf, if_pos HT.out])
            clear hx0
            have hw := u64_in (a := (x.s.size : Int)) (by omega) (by omega)
            go_wp2_with fail
            with_reducible refine (fits_any (x.s.size : Int) (hd c) _ (by omega) (by omega) (by omega)).mono ?_
            rintro e w2 ⟨rfl, rfl⟩
            rw [HBF.out]
            go_wp2_with fail
            have HCON : Hid (Calls Tryd.prog 44 #[.int .u64 (x.s.size : Int), .int .i64 (hd c : Int)] W.drew fun e w' => e = .returned (.slice (some ⟨W.heap.size, 0, none⟩) (hd c) (hd c)) ∧ Hid (w'.ownsRow W.heap.size 5 1 (.slice (some ⟨W.heap.size, 0, none⟩) (hd c) (hd c)) (hd c) ((be (hd c) x.s.size).map bv) ∧ Below W.heap.size W w')) := Lib.hid (by
              refine (rnumber_any x.s.size (hd c) W.drew (by omega) (by omega)).mono fun e w' ⟨he, hh⟩ => ⟨he, Lib.hid ⟨hh.out.1, ?_⟩⟩
              exact (Below.refl W.heap.size W).drew.trans hh.out.2)
            go_region_held3 (fun w' => w'.cell? ⟨B, 2, none⟩ = some (.string x.s))
              (first | go_keep
                     | exact (HN2.out.2.cell (p := ⟨B, 2, none⟩) hHW).trans hd2
                     | exact hg3.cell ((HN2.out.2.cell (p := ⟨B, 2, none⟩) hHW).trans hd2) hne
                     | exact hg4.cell (hg3.cell ((HN2.out.2.cell (p := ⟨B, 2, none⟩) hHW).trans hd2) hne) (ne_own hne hat3 (Nat.lt_of_lt_of_le hHW HN2.out.2.size)))
              (first
                | (go_at_call 44; (with_reducible refine HCON.out.mono ?_); rintro e w2 ⟨rfl, HN2⟩)
                | (refine step_append_rd _ ?_ (.tmp 66) (.tmp 72) ?_ w.heap.size u6 eb.length (eb.map bv) ?_ ?_ w2.heap.size (some ⟨W.heap.size, 0, none⟩) (hd c) (hd c) (be (hd c) x.s.size) ?_ ?_ ?_ ?_ ?_ ?_; exact rfl; exact rfl; exact rfl; exact own_below HOW.out HN2.out.2; exact rfl; exact be_length _ _; exact rd_of_own HN2.out.1; omega; exact Nat.le_trans hszW2 HN2.out.2.size; intro v3 w3 hown3 hg3 hat3)
                | (refine step_append_str _ ?_ (.tmp 73) (.tmp 75) ?_ w.heap.size v3 (eb.length + hd c) (eb.map bv ++ (be (hd c) x.s.size).map bv) x.s ?_ ?_ ?_ ?_ ?_ ?_ ?_; exact rfl; exact rfl; exact rfl; exact rfl; exact hown3; omega; omega; exact Nat.le_trans (Nat.le_trans hszW2 HN2.out.2.size) hg3.size; intro v4 w4 hown4 hg4 hat4))
            have HO2 := Lib.hid (own_below HOW.out HN2.out.2)
            have HB2 := Lib.hid (HBW.out.trans (HN2.out.2.mono hszW2))
            have HB3 := Lib.hid (HB2.out.grown hg3 HB2.out.size (fun j hj => (HO2.out.lt j hj).1))
            have HB4 := Lib.hid (HB3.out.grown hg4 HB3.out.size (fun j hj => (hown3.lt j hj).1))
            have HO4 := Lib.hid hown4
            clear hown4 hg4 hat4 hown3 hg3 hat3 HN2 HCON
            go_wp2_with fail
            refine ⟨⟨k + 1, by omega, by go_num, Lib.hid ⟨HGO.out _ HE.out, ?_, HB4.out⟩⟩, by simp [intOf]; omega⟩
            rw [HST.out, HFB.out]
            have h4 := HO4.out
            rw [List.append_assoc, ← List.map_append, ← List.map_append] at h4
            have e : (eb ++ (be (hd c) x.s.size ++ x.s.data.toList)).length = eb.length + hd c + x.s.size := by
              rw [List.length_append, List.length_append, be_length]
              simp
              omega
            rw [e]
            exact h4
    · go_wp2_with fail
      go_ret2
      refine ⟨_, 0, rfl, Lib.hid ⟨?_, HR.out.2.2⟩⟩
      have h1 := HR.out
      show RencP _ _ _ _ u6 0
      rw [List.take_of_length_le (by simp; omega), List.take_of_length_le (by rw [HN.out]; omega)] at h1
      obtain ⟨⟨m, hm⟩, h2, _⟩ := h1
      rw [hm]
      exact ⟨rfl, h2⟩
end Go.Proofs.YtmhfhdbaeijcfaaDoor.F
namespace Go.Proofs.YtmhfhdbaeijcfaaDoor.F
open Go.RowKit

/-- What the reference's field hands back. -/
def fieldV (c : Nat) (bs : List UInt8) : Value := match spanS c bs with
  | .error k => .tuple #[.agg #[.int .i64 0, .int .u64 0, .string ⟨#[]⟩], .int .i64 0, .int .i64 (numOf k : Int)]
  | .ok m => .tuple #[.agg #[.int .i64 (cellS c (bs.take m)).n, .int .u64 ((cellS c (bs.take m)).f : Int), .string (cellS c (bs.take m)).s], .int .i64 (m : Int), .int .i64 0]
set_option maxRecDepth 100000 in
set_option maxHeartbeats 400000 in
theorem rfield_any (c n cap : Nat) (A : Option Addr) (bs : List UInt8) (w : World) (h0 : hd c ≠ 0) (hn : bs.length = n) (hmax : n ≤ maxLen) (hcap : n ≤ cap)
    (hr : Rd w w.heap.size A (bs.map bv)) :
    Calls Tryd.prog 68 #[.slice A n cap, .int .u8 (c : Int)] w fun e w' => e = .returned (fieldV c bs) ∧ Below w.heap.size w w' := by
  have HR := Lib.hid hr
  have HN := Lib.hid hn
  clear hr hn
  have hmax' : n ≤ 9223372036854775807 := hmax
  clear hmax
  have hq := hd_cases h0
  have hN64 : num (bs.take (hd c)) < 18446744073709551616 := num_lt64 _ (by rw [List.length_take]; omega)
  generalize hV : fieldV c bs = V
  have HV := Lib.hid hV
  clear hV
  generalize hH : hd c = h at *
  have HH := Lib.hid hH
  clear hH
  go_enter Tryd.func68, Tryd.ntmps68
  go_wp2_with fail
  with_reducible refine (letter_any c _).mono ?_
  rintro e w1 ⟨rfl, rfl⟩
  rw [HH.out]
  by_cases hsh : n < h
  · have e : V = .tuple #[.agg #[.int .i64 0, .int .u64 0, .string ⟨#[]⟩], .int .i64 0, .int .i64 2] := by
      rw [← HV.out, fieldV, spanS_short (by rw [HN.out, HH.out]; exact hsh)]
      rfl
    subst e
    clear HV
    go_wp2_with fail
    exact bodyPost_ret (v := .tuple #[.agg #[.int .i64 0, .int .u64 0, .string ⟨#[]⟩], .int .i64 0, .int .i64 2]) (by simp [results, Tryd.results68, go_sem]) rfl ⟨rfl, (Below.refl _ _).alloc (Nat.le_refl _) _⟩
  · go_wp2_with fail
    go_loop [9, 10] (fun u i => ∃ k : Nat, k ≤ h ∧ i = .int .i64 k ∧ u = .int .u64 (num (bs.take k) : Int)) (fun _ i => h - (intOf i).toNat)
    case atStart => exact ⟨0, Nat.zero_le _, rfl, rfl⟩
    case round =>
      obtain ⟨k, hk, rfl, rfl⟩ := hrel
      by_cases hlt : k < h
      · have hkb : k < bs.length := by rw [HN.out]; omega
        obtain ⟨ad, rfl, hadB, hcell⟩ := HR.out.cell (k := k) (u := bv bs[k]) (by rw [List.getElem?_map, List.getElem?_eq_getElem hkb]; rfl)
        have HNT := Lib.hid (num_take bs k hkb)
        have hb1 := bs[k].toNat_lt
        have hsm : num (bs.take k) < 72057594037927936 := by
          have := num_lt8 (bs.take (h)) k (by rw [List.length_take]; omega) (by rw [List.length_take]; omega)
          rwa [List.take_take, Nat.min_eq_left (by omega)] at this
        have hcell' := ((Below.refl w.heap.size w).alloc (Nat.le_refl _) (.cells #[.int .i64 0, .int .u64 0, .string ⟨#[]⟩] 89)).cell (p := ad.add k) (by unfold Addr.add; split <;> exact hadB) |>.trans hcell
        unfold bv at hcell'
        generalize bs[k].toNat = bk at *
        generalize num (bs.take k) = u at *
        clear hcell
        go_wp2_with fail
        refine ⟨⟨k + 1, by omega, by go_num, ?_⟩, by simp [intOf]; omega⟩
        rw [HNT.out]
        go_num
      · obtain rfl : h = k := by omega
        generalize hNN : num (bs.take (h)) = N at *
        have HNN := Lib.hid hNN
        clear hNN
        by_cases hf : c = 102
        · have hf' : ((c : Int) == 102) = true := by simp [hf]
          have e : V = .tuple #[.agg #[.int .i64 0, .int .u64 (N : Int), .string ⟨#[]⟩], .int .i64 (h : Int), .int .i64 0] := by
            have ht : isT c = false := by rw [hf]; rfl
            rw [← HV.out, fieldV, spanS_float (by rw [HN.out, HH.out]; omega) ht hf]
            simp only [cellS, if_pos hf, HH.out, List.take_take, Nat.min_self, HNN.out]
          subst e
          clear HV hf
          go_wp2_with fail
          exact bodyPost_ret (v := .tuple #[.agg #[.int .i64 0, .int .u64 (N : Int), .string ⟨#[]⟩], .int .i64 (h : Int), .int .i64 0]) (by simp [results, Tryd.results68, go_sem]) rfl ⟨rfl, (Below.refl _ _).alloc (Nat.le_refl _) _⟩
        · have hf' : ((c : Int) == 102) = false := by simp; omega
          cases hT : isT c
          · have HT := Lib.hid hT
            clear hT
            have hg : great (h) < N ↔ 9223372036854775807 < N := by
              have hlt2 := num_lt (bs.take (h))
              rw [List.length_take, HN.out, Nat.min_eq_left (by omega), HNN.out] at hlt2
              rcases hq with rfl | rfl | rfl | rfl <;> simp only [great] <;> simp at hlt2 ⊢ <;> omega
            by_cases hbigN : 9223372036854775807 < N
            · have e : V = .tuple #[.agg #[.int .i64 0, .int .u64 0, .string ⟨#[]⟩], .int .i64 0, .int .i64 1] := by
                rw [← HV.out, fieldV, spanS_range (by rw [HN.out, HH.out]; omega) HT.out hf (by rw [HH.out, HNN.out]; exact hg.2 hbigN)]
                rfl
              subst e
              clear HV hg
              go_wp2_with fail
              exact bodyPost_ret (v := .tuple #[.agg #[.int .i64 0, .int .u64 0, .string ⟨#[]⟩], .int .i64 0, .int .i64 1]) (by simp [results, Tryd.results68, go_sem]) rfl ⟨rfl, (Below.refl _ _).alloc (Nat.le_refl _) _⟩
            · have e : V = .tuple #[.agg #[.int .i64 (N : Int), .int .u64 0, .string ⟨#[]⟩], .int .i64 (h : Int), .int .i64 0] := by
                rw [← HV.out, fieldV, spanS_num (by rw [HN.out, HH.out]; omega) HT.out (by rw [HH.out, HNN.out]; exact fun h => hbigN (hg.1 h))]
                simp only [cellS, if_neg hf, HT.out, HH.out, List.take_take, Nat.min_self, HNN.out]
                rfl
              subst e
              clear HV hg
              go_wp2_with fail
              exact bodyPost_ret (v := .tuple #[.agg #[.int .i64 (N : Int), .int .u64 0, .string ⟨#[]⟩], .int .i64 (h : Int), .int .i64 0]) (by simp [results, Tryd.results68, go_sem]) rfl ⟨rfl, (Below.refl _ _).alloc (Nat.le_refl _) _⟩
          · have HT := Lib.hid hT
            clear hT
            have hw := u64_in (a := (n : Int) - (h : Int)) (by omega) (by omega)
            by_cases hlg : n - h < N
            · have e : V = .tuple #[.agg #[.int .i64 0, .int .u64 0, .string ⟨#[]⟩], .int .i64 0, .int .i64 2] := by
                rw [← HV.out, fieldV, spanS_long (by rw [HN.out, HH.out]; omega) HT.out (by rw [HH.out, HNN.out, HN.out]; exact hlg)]
                rfl
              subst e
              clear HV
              go_wp2_with fail
              exact bodyPost_ret (v := .tuple #[.agg #[.int .i64 0, .int .u64 0, .string ⟨#[]⟩], .int .i64 0, .int .i64 2]) (by simp [results, Tryd.results68, go_sem]) rfl ⟨rfl, (Below.refl _ _).alloc (Nat.le_refl _) _⟩
            · have e : V = .tuple #[.agg #[.int .i64 0, .int .u64 0, .string ⟨((bs.drop (h)).take N).toArray⟩], .int .i64 ((h : Int) + (N : Int)), .int .i64 0] := by
                rw [← HV.out, fieldV, spanS_text (by rw [HN.out, HH.out]; omega) HT.out (by rw [HH.out, HNN.out, HN.out]; exact hlg)]
                simp only [cellS, if_neg hf, HT.out, HH.out, HNN.out, List.drop_take]
                simp
              subst e
              clear HV
              have hst := fun o : Obj => ((HR.out.drop (k := h) (cap := cap) (by simp; rw [HN.out]; omega) (by simp; rw [HN.out]; omega)).take N).below ((Below.refl _ _).alloc (Nat.le_refl _) o)
              have hst2 := fun o : Obj => Rd.toStr (bs := (bs.drop (h)).take N) (by rw [List.map_take, List.map_drop]; exact hst o) N (cap - h) (by rw [List.length_take, List.length_drop, HN.out]; omega)
              clear hst
              have hI4 : IntKind.i64.wrap ((h : Int) + (N : Int)) = (h : Int) + (N : Int) := by rw [IntKind.wrap_i64]; omega
              have hI5 : IntKind.i64.wrap (N : Int) = (N : Int) := by rw [IntKind.wrap_i64]; omega
              by_cases hch : cap = h
              · simp only [if_pos hch] at hst2
                obtain rfl : n = h := by omega
                obtain rfl : cap = n := by omega
                rw [Nat.sub_self] at hst2
                go_wp2_with fail
                exact bodyPost_ret (v := .tuple #[.agg #[.int .i64 0, .int .u64 0, .string ⟨((bs.drop cap).take N).toArray⟩], .int .i64 ((cap : Int) + (N : Int)), .int .i64 0]) (by simp [results, Tryd.results68, go_sem]) rfl ⟨rfl, (Below.refl _ _).alloc (Nat.le_refl _) _⟩
              · simp only [if_neg hch] at hst2
                go_wp2_with fail
                exact bodyPost_ret (v := .tuple #[.agg #[.int .i64 0, .int .u64 0, .string ⟨((bs.drop h).take N).toArray⟩], .int .i64 ((h : Int) + (N : Int)), .int .i64 0]) (by simp [results, Tryd.results68, go_sem]) rfl ⟨rfl, (Below.refl _ _).alloc (Nat.le_refl _) _⟩
end Go.Proofs.YtmhfhdbaeijcfaaDoor.F
namespace Go.Proofs.YtmhfhdbaeijcfaaDoor.F
open Go.RowKit

theorem rfield_ok (c n cap m : Nat) (A : Option Addr) (bs : List UInt8) (x : FC) (w : World) (h0 : hd c ≠ 0) (hn : bs.length = n) (hmax : n ≤ maxLen) (hcap : n ≤ cap)
    (hr : Rd w w.heap.size A (bs.map bv)) (h : spanS c bs = .ok m) (hx : cellS c (bs.take m) = x) :
    Calls Tryd.prog 68 #[.slice A n cap, .int .u8 (c : Int)] w fun e w' => e = .returned (.tuple #[.agg #[.int .i64 x.n, .int .u64 (x.f : Int), .string x.s], .int .i64 (m : Int), .int .i64 0]) ∧ Below w.heap.size w w' :=
  (rfield_any c n cap A bs w h0 hn hmax hcap hr).mono fun _ _ ⟨he, hb⟩ => ⟨by rw [he, fieldV, h, ← hx], hb⟩
theorem rfield_err (c n cap k : Nat) (A : Option Addr) (bs : List UInt8) (w : World) (h0 : hd c ≠ 0) (hn : bs.length = n) (hmax : n ≤ maxLen) (hcap : n ≤ cap)
    (hr : Rd w w.heap.size A (bs.map bv)) (h : spanS c bs = .error k) :
    Calls Tryd.prog 68 #[.slice A n cap, .int .u8 (c : Int)] w fun e w' => e = .returned (.tuple #[.agg #[.int .i64 0, .int .u64 0, .string ⟨#[]⟩], .int .i64 0, .int .i64 (numOf k : Int)]) ∧ Below w.heap.size w w' :=
  (rfield_any c n cap A bs w h0 hn hmax hcap hr).mono fun _ _ ⟨he, hb⟩ => ⟨by rw [he, fieldV, h], hb⟩
theorem numOf_ne (k : Nat) : ((numOf k : Int) == 0) = false := by simp [numOf]; omega
end Go.Proofs.YtmhfhdbaeijcfaaDoor.F
namespace Go.Proofs.YtmhfhdbaeijcfaaDoor.F
open Go.RowKit

theorem wpList_append_rcell (w : World) {ops : Array Oper} {rest : List Oper} {o : Oper} {a : Act} {Q : Exit → Act → World → Prop} (hgd : o.guard = none) (t x : Operand)
    (ho : o.op = .call { callee := .builtin .append, args := #[t, x], argTypes := #[35, 35] }) (base n : Nat) (xs : List Value) (c : FC) (H : Nat) (hx : a.eval x = .slice (some ⟨H, 0, none⟩) 1 1) (h0 : w.cell? ⟨H, 0, none⟩ = some (.int .i64 c.n)) (h1 : w.cell? ⟨H, 1, none⟩ = some (.int .u64 (c.f : Int))) (h2 : w.cell? ⟨H, 2, none⟩ = some (.string c.s))
    (v : Value) (hs : a.eval t = v) (hown : w.ownsRow base 89 3 v n xs) (hb : n + 1 ≤ 4398046511104) (hbase : base ≤ w.heap.size)
    (h : ∀ v' w', w'.ownsRow base 89 3 v' (n + 1) (xs ++ [.int .i64 c.n, .int .u64 (c.f : Int), .string c.s]) → w.grownBy w' v.ownBlock → wpList Tryd.prog ops Q rest (a.put o.dst v') w') : wpList Tryd.prog ops Q (o :: rest) a w := by
  refine wpList_plain hgd fun K hK => ?_
  obtain ⟨i0, hi0, hz0, hz1, hz2⟩ := info_parts rcell_info
  obtain ⟨v', w', hr, hh2, hh3, _⟩ := run_append_own_at (P := Tryd.prog) w base 35 o.type 89 i0 _ 3 32 Tryd.underlying35 hi0 hz0 hz1 hz2 rfl (by omega) v n xs hown ⟨H, 0, none⟩ 1 1 [.int .i64 c.n, .int .u64 (c.f : Int), .string c.s] rfl
    (by
      intro j u hj
      match j with
      | 0 => simp at hj; rw [← hj]; exact h0
      | 1 => simp at hj; rw [← hj]; simpa [Addr.add] using h1
      | 2 => simp at hj; rw [← hj]; simpa [Addr.add] using h2
      | j + 3 => simp at hj)
    (by intro u hu; simp at hu; rcases hu with rfl | rfl | rfl <;> rfl) (by simp only [maxLen]; omega) (by omega) hbase
  unfold Oper.wp execOp
  simp only [ho, resolve, invoke, builtin, Sem.run_bind, Sem.run_pure, Result.andThen_ok, List.map_toArray, List.map_cons, List.map_nil, hs, hx, hr]
  exact hK _ _ (h v' w' hh2 hh3)

def RdP (w w' : World) (r : Except Nat (List FC)) (v : Value) (j : Int) : Prop := match r with
  | .error k => v = .slice none 0 0 ∧ j = (numOf k : Int)
  | .ok cs => j = 0 ∧ w'.ownsRow w.heap.size 89 3 v cs.length (flatR cs)

set_option maxRecDepth 100000 in
set_option maxHeartbeats 400000 in
theorem rdecode_known (s : ByteArray) (n cap : Nat) (A : Option Addr) (bs : List UInt8) (w : World) (hs : s.size ≤ 1048576) (hn : bs.length = n) (hmax : n ≤ maxLen) (hcap : n ≤ cap)
    (hr : Rd w w.heap.size A (bs.map bv)) (hk : kn s.data.toList = true) :
    Calls Tryd.prog 51 #[.string s, .slice A n cap] w fun e w' => ∃ v j, e = .returned (.tuple #[v, .int .i64 j]) ∧ Hid (RdP w w' (decS s.data.toList bs) v j ∧ Below w.heap.size w w') := by
  have HN := Lib.hid hn
  have HR := Lib.hid hr
  have HK := Lib.hid hk
  clear hn hr hk
  have hmax' : n ≤ 9223372036854775807 := hmax
  clear hmax
  go_enter Tryd.func51, Tryd.ntmps51
  go_wp2_with fail
  with_reducible refine (rknown_any s w (by simp only [maxLen]; omega)).mono ?_
  rintro e w1 ⟨rfl, rfl⟩
  rw [HK.out]
  go_wp2_with fail
  go_loopw [1, 6, 7] (fun v u i W => ∃ (k L C : Nat) (D : Option Addr) (ds : List UInt8) (acc : List FC), k ≤ s.size ∧ L ≤ C ∧ L ≤ 9223372036854775807 ∧ i = .int .i64 k ∧ v = .slice D L C ∧ Hid (ds.length = L ∧ acc.length = k ∧ decS s.data.toList bs = thenD acc (decS (s.data.toList.drop k) ds) ∧ Rd W w.heap.size D (ds.map bv) ∧ W.ownsRow w.heap.size 89 3 u k (flatR acc) ∧ Below w.heap.size w W)) (fun _ _ i _ => s.size - (intOf i).toNat)
  case atStart => exact ⟨0, n, cap, A, bs, [], Nat.zero_le _, hcap, hmax', rfl, rfl, Lib.hid ⟨HN.out, rfl, by rw [thenD_nil]; rfl, HR.out.below ((Below.refl _ _).alloc (Nat.le_refl _) _), by simpa [flatR] using own_empty65 w w.heap.size (Nat.le_refl _), (Below.refl _ _).alloc (Nat.le_refl _) _⟩⟩
  case round =>
    obtain ⟨k, L, C, D, ds, acc, hk, hLC, hL, rfl, rfl, H⟩ := hrel
    have hszW : w.heap.size ≤ wr.heap.size := H.out.2.2.2.2.2.size
    by_cases hlt : k < s.size
    · have HD := Lib.hid (List.drop_eq_getElem_cons (l := s.data.toList) (i := k) (by simpa using hlt))
      have e1 : s.data.toList[k]'(by simpa using hlt) = s[k] := rfl
      rw [e1] at HD
      clear e1
      have hkI : (0 : Int) ≤ (k : Int) := by omega
      have hkI2 : (k : Int) < (s.size : Int) := by omega
      have HZ := Lib.hid (kn_get HK.out hlt)
      have HRW := Lib.hid (H.out.2.2.2.1.more hszW)
      cases hsp : spanS s[k].toNat ds with
      | error e =>
        have HF : Hid (decS s.data.toList bs = .error e) := Lib.hid (by rw [H.out.2.2.1, HD.out, decS_err hsp]; rfl)
        have hne := numOf_ne e
        generalize hC : s[k].toNat = c at *
        have HCC := Lib.hid hC
        have HSP := Lib.hid hsp
        clear hsp hC
        go_wp2_with fail
        rw [HCC.out]
        with_reducible refine (rfield_err c L C e D ds wr HZ.out H.out.1 (by simp only [maxLen]; omega) hLC HRW.out HSP.out).mono ?_
        rintro e w2 ⟨rfl, hb2⟩
        have HB2 := Lib.hid (H.out.2.2.2.2.2.trans (hb2.mono hszW))
        clear hb2
        go_wp2_with fail
        go_ret2
        refine ⟨_, _, rfl, Lib.hid ⟨?_, HB2.out.alloc HB2.out.size _⟩⟩
        rw [HF.out]
        exact ⟨rfl, rfl⟩
      | ok m =>
        have hle := spanS_le hsp
        generalize hX : cellS s[k].toNat (ds.take m) = x
        have HF : Hid (decS s.data.toList bs = thenD (acc ++ [x]) (decS (s.data.toList.drop (k + 1)) (ds.drop m))) := Lib.hid (by rw [H.out.2.2.1, HD.out, decS_ok acc hsp, hX])
        have HX := Lib.hid hX
        clear hX
        have hle1 : m ≤ L := by have := hle.1; rwa [H.out.1] at this
        have hle2 : 1 ≤ m := by have := HZ.out; omega
        generalize hC : s[k].toNat = c at *
        have HCC := Lib.hid hC
        have HSP := Lib.hid hsp
        clear hsp hC hle
        go_wp2_with fail
        rw [HCC.out]
        with_reducible refine (rfield_ok c L C m D ds x wr HZ.out H.out.1 (by simp only [maxLen]; omega) hLC HRW.out HSP.out HX.out).mono ?_
        rintro e w2 ⟨rfl, hb2⟩
        have HB2 := Lib.hid (H.out.2.2.2.2.2.trans (hb2.mono hszW))
        have HR2 := Lib.hid (H.out.2.2.2.1.below (hb2.mono hszW))
        have HO2 := Lib.hid (own_below H.out.2.2.2.2.1 hb2)
        clear hb2
        have hsz2 : w.heap.size ≤ w2.heap.size := HB2.out.size
        have HRD := Lib.hid (HR2.out.drop (k := m) (cap := C) (by simp; rw [H.out.1]; omega) (by simp; rw [H.out.1]; omega))
        by_cases hCm : C = m
        · rw [if_pos hCm] at HRD
          subst hCm
          obtain rfl : L = C := by omega
          go_wp2_with (first
            | (at_builtin
               refine wpList_append_rcell _ rfl (.tmp 33) (.tmp 35) rfl w.heap.size k (flatR acc) x _ rfl (by simp) (by simp) (by simp) _ rfl ((HO2.out.alloc _).alloc _) (by omega) (by simp; omega) ?_
               intro v3 w3 hown3 hg3))
          have hbb := (((Below.refl w.heap.size w2).alloc hsz2 _).alloc (by simp; omega) _).grown hg3 (by simp; omega) (fun j hj => (HO2.out.lt j hj).1)
          refine ⟨⟨k + 1, 0, 0, _, ds.drop L, acc ++ [x], by omega, by omega, by omega, by go_num, rfl, Lib.hid ⟨by rw [List.length_drop, H.out.1]; omega, by rw [List.length_append, H.out.2.1]; rfl, HF.out, ?_, by rw [flatR_snoc]; exact hown3, HB2.out.trans hbb⟩⟩, by simp [intOf]; omega⟩
          rw [List.map_drop]
          exact HRD.out.below hbb
        · rw [if_neg hCm] at HRD
          go_wp2_with (first
            | (at_builtin
               refine wpList_append_rcell _ rfl (.tmp 33) (.tmp 35) rfl w.heap.size k (flatR acc) x _ rfl (by simp) (by simp) (by simp) _ rfl ((HO2.out.alloc _).alloc _) (by omega) (by simp; omega) ?_
               intro v3 w3 hown3 hg3))
          have hbb := (((Below.refl w.heap.size w2).alloc hsz2 _).alloc (by simp; omega) _).grown hg3 (by simp; omega) (fun j hj => (HO2.out.lt j hj).1)
          refine ⟨⟨k + 1, L - m, C - m, _, ds.drop m, acc ++ [x], by omega, by omega, by omega, by go_num, rfl, Lib.hid ⟨by rw [List.length_drop, H.out.1], by rw [List.length_append, H.out.2.1]; rfl, HF.out, ?_, by rw [flatR_snoc]; exact hown3, HB2.out.trans hbb⟩⟩, by simp [intOf]; omega⟩
          rw [List.map_drop]
          exact HRD.out.below hbb
    · have hdk : s.data.toList.drop k = [] := List.drop_eq_nil_of_le (by simp; omega)
      by_cases hend : 0 < L
      · have HF : Hid (decS s.data.toList bs = .error 0) := Lib.hid (by
          rw [H.out.2.2.1, hdk, decS, if_neg (by intro e; have := H.out.1; rw [e] at this; simp at this; omega)]; rfl)
        clear hdk
        go_wp2_with fail
        go_ret2
        refine ⟨_, _, rfl, Lib.hid ⟨?_, H.out.2.2.2.2.2⟩⟩
        rw [HF.out]
        exact ⟨rfl, by decide⟩
      · have HF : Hid (decS s.data.toList bs = .ok acc) := Lib.hid (by
          rw [H.out.2.2.1, hdk, decS, if_pos (List.eq_nil_of_length_eq_zero (by have := H.out.1; omega))]; simp [thenD])
        clear hdk
        go_wp2_with fail
        go_ret2
        refine ⟨_, 0, rfl, Lib.hid ⟨?_, H.out.2.2.2.2.2⟩⟩
        rw [HF.out]
        exact ⟨rfl, by have := H.out.2.2.2.2.1; rwa [← H.out.2.1] at this⟩
end Go.Proofs.YtmhfhdbaeijcfaaDoor.F

/- What jackfieldlaw01.plain answers: the cells as the reference has them. -/
import Derived.Test.YtcphfgiegpnpeaaDoorNumc
namespace Go.Proofs.YtcphfgiegpnpeaaDoor
open Go.RowKit

def flatR (cs : List FC) : List Value := cs.flatMap fun x => [.int .i64 x.n, .int .u64 (x.f : Int), .string x.s]
theorem flatR_length (cs : List FC) : (flatR cs).length = cs.length * 3 := by
  induction cs with
  | nil => rfl
  | cons x cs ih => simp only [flatR, List.flatMap_cons, List.length_append] at ih ⊢; simp only [List.length_cons, List.length_nil]; omega
theorem flatR_snoc (cs : List FC) (x : FC) : flatR (cs ++ [x]) = flatR cs ++ [.int .i64 x.n, .int .u64 (x.f : Int), .string x.s] := by simp [flatR]
theorem flatR_at {cs : List FC} {k : Nat} {x : FC} (h : cs[k]? = some x) : (flatR cs)[k * 3]? = some (.int .i64 x.n) ∧ (flatR cs)[k * 3 + 1]? = some (.int .u64 (x.f : Int)) ∧ (flatR cs)[k * 3 + 2]? = some (.string x.s) := by
  induction cs generalizing k with
  | nil => simp at h
  | cons y cs ih =>
    have e : flatR (y :: cs) = [.int .i64 y.n, .int .u64 (y.f : Int), .string y.s] ++ flatR cs := by simp [flatR]
    match k with
    | 0 => simp at h; subst h; simp [e]
    | k + 1 =>
      simp at h
      obtain ⟨g0, g1, g2⟩ := ih h
      rw [e]
      have s0 : ((k + 1) * 3) = k * 3 + 3 := by omega
      rw [s0]
      refine ⟨?_, ?_, ?_⟩
      · rw [List.getElem?_append_right (by simp)]; simpa using g0
      · rw [List.getElem?_append_right (by simp)]; simpa [Nat.add_right_comm] using g1
      · rw [List.getElem?_append_right (by simp)]; simpa [Nat.add_right_comm] using g2

/-- A slice of the reference's cells. -/
def CsR (w : World) (B : Nat) (A : Option Addr) (cs : List FC) : Prop :=
  cs = [] ∨ ∃ b o, A = some ⟨b, o, none⟩ ∧ b < B ∧ ∀ (k : Nat) (x : FC), cs[k]? = some x →
    w.cell? ⟨b, o + k * 3, none⟩ = some (.int .i64 x.n) ∧ w.cell? ⟨b, o + k * 3 + 1, none⟩ = some (.int .u64 (x.f : Int)) ∧ w.cell? ⟨b, o + k * 3 + 2, none⟩ = some (.string x.s)
theorem CsR.keep {w w' : World} {B : Nat} {A : Option Addr} {cs : List FC} (h : CsR w B A cs) (hb : Below B w w') : CsR w' B A cs := by
  rcases h with rfl | ⟨b, o, h1, h2, h3⟩
  · exact .inl rfl
  · have hk : ∀ j, w'.cell? ⟨b, j, none⟩ = w.cell? ⟨b, j, none⟩ := fun j => hb.cell (p := ⟨b, j, none⟩) h2
    exact .inr ⟨b, o, h1, h2, fun k x hx => by rw [hk, hk, hk]; exact h3 k x hx⟩
theorem CsR.at_ {w : World} {B : Nat} {A : Option Addr} {cs : List FC} (h : CsR w B A cs) {k : Nat} (hk : k < cs.length) :
    ∃ b o, A = some ⟨b, o, none⟩ ∧ b < B ∧ w.cell? ⟨b, o + k * 3, none⟩ = some (.int .i64 cs[k].n) ∧ w.cell? ⟨b, o + k * 3 + 1, none⟩ = some (.int .u64 (cs[k].f : Int)) ∧ w.cell? ⟨b, o + k * 3 + 2, none⟩ = some (.string cs[k].s) := by
  rcases h with rfl | ⟨b, o, h1, h2, h3⟩
  · simp at hk
  · exact ⟨b, o, h1, h2, h3 k _ (List.getElem?_eq_getElem hk)⟩
theorem own_rcells {w : World} {base : Nat} {v : Value} {n : Nat} {cs : List FC} (h : w.ownsRow base 65 3 v n (flatR cs)) : ∃ A c, v = .slice A n c ∧ cs.length = n ∧ n ≤ c ∧ CsR w w.heap.size A cs := by
  have hl : cs.length = n := by have := h.1; rw [flatR_length] at this; omega
  rcases h.2 with ⟨rfl, rfl⟩ | ⟨g, cap, cur, rfl, _, hg, hnc, hcm, hsz, htk⟩
  · exact ⟨none, 0, rfl, hl, Nat.le_refl _, .inl (List.eq_nil_of_length_eq_zero hl)⟩
  · refine ⟨_, cap, rfl, hl, hnc, .inr ⟨g, 0, rfl, ?_, fun k x hx => ?_⟩⟩
    · rcases Nat.lt_or_ge g w.heap.size with hlt | hge
      · exact hlt
      · rw [Array.getElem?_eq_none hge] at hg; cases hg
    · have hk : k < n := by rw [← hl]; exact (List.getElem?_eq_some_iff.1 hx).1
      obtain ⟨g0, g1, g2⟩ := flatR_at hx
      have c0 := h.cellAt (k * 3) (by omega)
      have c1 := h.cellAt (k * 3 + 1) (by omega)
      have c2 := h.cellAt (k * 3 + 2) (by omega)
      rw [Nat.zero_add]
      exact ⟨c0.trans g0, c1.trans g1, c2.trans g2⟩
theorem rcell_info : (Tryd.prog.info? 65).map (fun i => (i.zero, i.size, i.bytes)) = some (some (.agg #[.int .i64 0, .int .u64 0, .string ⟨#[]⟩]), 3, 32) := by kernel_rfl
theorem step_append_rcell (w : World) {ops : Array Oper} {o : Oper} {a : Act} {K : Act → World → Prop} {Q : Exit → Act → World → Prop} {E : Prop} (hgd : o.guard = none) (t x : Operand)
    (ho : o.op = .call { callee := .builtin .append, args := #[t, x], argTypes := #[33, 33] }) (base n : Nat) (xs : List Value) (c : FC) (hx : ∃ H, a.eval x = .slice (some ⟨H, 0, none⟩) 1 1 ∧ w.cell? ⟨H, 0, none⟩ = some (.int .i64 c.n) ∧ w.cell? ⟨H, 1, none⟩ = some (.int .u64 (c.f : Int)) ∧ w.cell? ⟨H, 2, none⟩ = some (.string c.s))
    (hown : w.ownsRow base 65 3 (a.eval t) n xs) (hb : n + 1 ≤ 4398046511104) (hbase : base ≤ w.heap.size)
    (h : ∀ v' w', w'.ownsRow base 65 3 v' (n + 1) (xs ++ [.int .i64 c.n, .int .u64 (c.f : Int), .string c.s]) → w.grownBy w' (a.eval t).ownBlock → K (a.put o.dst v') w') :
    if Region.wanted o (yielded ops a.tmps) = true then Oper.wp Tryd.prog o a w K Q else E := by
  have hw : Region.wanted o (yielded ops a.tmps) = true := by simp [Region.wanted, hgd]
  rw [if_pos hw]
  obtain ⟨H, hx, h0, h1, h2⟩ := hx
  obtain ⟨i0, hi0, hz0, hz1, hz2⟩ := info_parts rcell_info
  obtain ⟨v', w', hr, hh2, hh3, _⟩ := run_append_own_at (P := Tryd.prog) w base 33 o.type 65 i0 _ 3 32 Tryd.underlying33 hi0 hz0 hz1 hz2 rfl (by omega) (a.eval t) n xs hown ⟨H, 0, none⟩ 1 1 [.int .i64 c.n, .int .u64 (c.f : Int), .string c.s] rfl
    (by
      intro j u hj
      match j with
      | 0 => simp at hj; rw [← hj]; exact h0
      | 1 => simp at hj; rw [← hj]; simpa [Addr.add] using h1
      | 2 => simp at hj; rw [← hj]; simpa [Addr.add] using h2
      | j + 3 => simp at hj)
    (by intro u hu; simp at hu; rcases hu with rfl | rfl | rfl <;> rfl) (by simp only [maxLen]; omega) (by omega) hbase
  unfold Oper.wp execOp
  simp only [ho, resolve, invoke, builtin, Sem.run_bind, Sem.run_pure, Result.andThen_ok, List.map_toArray, List.map_cons, List.map_nil, hx, hr]
  exact h v' w' hh2 hh3
theorem own_empty65 (w : World) (base : Nat) (h : base ≤ w.heap.size) : (w.alloc (.cells #[] 65)).ownsRow base 65 3 (.slice (some ⟨w.heap.size, 0, none⟩) 0 0) 0 [] :=
  ⟨rfl, .inr ⟨w.heap.size, 0, #[], rfl, h, heap_alloc_new w _, Nat.le_refl _, by decide, rfl, rfl⟩⟩
theorem run_store_f64' (P : Program) (w : World) (a : Addr) (m : Mode) (k : FloatKind) (b : Nat) : (store a (.float k b) m).run P w = stored P w a (.float k b) m := run_store P w a _ m rfl
attribute [local go_sem] run_store_f64'

set_option maxHeartbeats 400000 in
theorem plain_any (n cap : Nat) (A : Option Addr) (cs : List FC) (w : World) (hn : cs.length = n) (hcs : Cs w w.heap.size A cs) (hbig : n ≤ 4398046511104) :
    Calls Tryd.prog 15 #[.slice A n cap] w fun e w' => ∃ v, e = .returned v ∧ Hid (w'.ownsRow w.heap.size 65 3 v n (flatR cs) ∧ Below w.heap.size w w') := by
  have HN := Lib.hid hn
  have HC := Lib.hid hcs
  clear hn hcs
  have hbt := run_bits
  go_enter Tryd.func15, Tryd.ntmps15
  go_wp2_with fail
  go_loopw [3, 9] (fun v i W => ∃ k : Nat, k ≤ n ∧ i = .int .i64 k ∧ Hid (W.ownsRow w.heap.size 65 3 v k (flatR (cs.take k)) ∧ Below w.heap.size w W)) (fun _ i _ => n - (intOf i).toNat)
  case atStart => exact ⟨0, Nat.zero_le _, rfl, Lib.hid ⟨by simpa [flatR] using own_empty65 w w.heap.size (Nat.le_refl _), (Below.refl _ _).alloc (Nat.le_refl _) _⟩⟩
  case round =>
    obtain ⟨k, hk, rfl, HR⟩ := hrel
    by_cases hlt : k < n
    · have hkc : k < cs.length := by rw [HN.out]; exact hlt
      obtain ⟨b, o, rfl, hbB, hc0, hc1, hc2⟩ := (HC.out.keep HR.out.2).at_ hkc
      have HST : Hid (flatR (cs.take (k + 1)) = flatR (cs.take k) ++ [.int .i64 cs[k].n, .int .u64 (cs[k].f : Int), .string cs[k].s]) := Lib.hid (by rw [List.take_succ_eq_append_getElem hkc, flatR_snoc])
      generalize cs[k] = x at *
      have hbw : b < wr.heap.size := Nat.lt_of_lt_of_le hbB HR.out.2.size
      have hszW : w.heap.size ≤ wr.heap.size := HR.out.2.size
      have hkI : (0 : Int) ≤ (k : Int) := by omega
      have hkI2 : (k : Int) < (n : Int) := by omega
      go_wp2_with fail
      have HOW := Lib.hid (HR.out.1.alloc (.cells #[.int .i64 x.n, .float .f64 x.f, .string x.s] 49))
      have HBW := Lib.hid (HR.out.2.alloc hszW (.cells #[.int .i64 x.n, .float .f64 x.f, .string x.s] 49))
      have hd0 : (wr.alloc (.cells #[.int .i64 x.n, .float .f64 x.f, .string x.s] 49)).cell? ⟨wr.heap.size, 0, none⟩ = some (.int .i64 x.n) := by simp
      have hd1 : (wr.alloc (.cells #[.int .i64 x.n, .float .f64 x.f, .string x.s] 49)).cell? ⟨wr.heap.size, 1, none⟩ = some (.float .f64 x.f) := by simp
      have hd2 : (wr.alloc (.cells #[.int .i64 x.n, .float .f64 x.f, .string x.s] 49)).cell? ⟨wr.heap.size, 2, none⟩ = some (.string x.s) := by simp
      have hHW : wr.heap.size < (wr.alloc (.cells #[.int .i64 x.n, .float .f64 x.f, .string x.s] 49)).heap.size := by simp
      have hne : some wr.heap.size ≠ u3.ownBlock := by
        intro e
        have := HR.out.1.lt _ e.symm
        omega
      generalize wr.alloc (.cells #[.int .i64 x.n, .float .f64 x.f, .string x.s] 49) = W at *
      generalize wr.heap.size = B at *
      have hszW2 : w.heap.size ≤ W.heap.size := HBW.out.size
      have HOD : Hid (W.drew.ownsRow w.heap.size 65 3 u3 k (flatR (cs.take k))) := Lib.hid HOW.out.drew
      have HOA : Hid ((W.alloc (.cells #[.int .i64 x.n, .int .u64 (x.f : Int), .string x.s] 65)).drew.ownsRow w.heap.size 65 3 u3 k (flatR (cs.take k))) := Lib.hid (HOW.out.alloc _).drew
      have hbA := (Below.refl W.heap.size W).alloc (Nat.le_refl _) (.cells #[.int .i64 x.n, .int .u64 (x.f : Int), .string x.s] 65)
      have hd0' := (hbA.drew.cell (p := ⟨B, 0, none⟩) hHW).trans hd0
      have hd1' := (hbA.drew.cell (p := ⟨B, 1, none⟩) hHW).trans hd1
      have hd2' := (hbA.drew.cell (p := ⟨B, 2, none⟩) hHW).trans hd2
      have HBA := Lib.hid (HBW.out.alloc hszW2 (.cells #[.int .i64 x.n, .int .u64 (x.f : Int), .string x.s] 65)).drew
      clear hbA
      go_region_held3 (fun w' => w'.cell? ⟨B, 0, none⟩ = some (.int .i64 x.n) ∧ w'.cell? ⟨B, 1, none⟩ = some (.float .f64 x.f) ∧ w'.cell? ⟨B, 2, none⟩ = some (.string x.s))
        (first | go_keep | exact ⟨hg3.cell hd0' hne, hg3.cell hd1' hne, hg3.cell hd2' hne⟩)
        (first
          | (refine step_append_rcell _ ?_ (.tmp 13) (.tmp 22) ?_ w.heap.size k (flatR (cs.take k)) x ?_ ?_ ?_ ?_ ?_; exact rfl; exact rfl; exact ⟨W.heap.size, rfl, by simp, by simp, by simp⟩; exact HOA.out; omega; exact HBA.out.size; intro v3 w3 hown3 hg3))
      go_wp2_with fail
      refine ⟨⟨k + 1, by omega, by go_num, Lib.hid ⟨by rw [HST.out]; exact hown3, HBA.out.grown hg3 HBA.out.size (fun j hj => (HOA.out.lt j hj).1)⟩⟩, by simp [intOf]; omega⟩
    · go_wp2_with fail
      go_ret
      refine ⟨_, rfl, Lib.hid ⟨?_, HR.out.2⟩⟩
      have h1 := HR.out.1
      have hkn : k = n := by omega
      rw [List.take_of_length_le (by rw [HN.out]; omega)] at h1
      rw [hkn] at h1
      exact h1
end Go.Proofs.YtcphfgiegpnpeaaDoor

/- The document's drum (jackfieldref04): where it lies, what its calls answer. -/
import Derived.Test.YtadhgdjgpanddaaDoorEq
namespace Go.Proofs.YtadhgdjgpanddaaDoor
open Go.RowKit

def leftR (D : Dm) : Int := if D.armed then (D.left : Int) else -1
def cellsR (D : Dm) (rh N : Nat) : List Value := [.slice (some ⟨rh, 0, none⟩) N N, .bool D.off, .int .i64 (leftR D), .int .i64 (D.writes : Int)]
structure RefAt (w : World) (rg rh N : Nat) (D : Dm) : Prop where
  row : Row w rg 41 (cellsR D rh N)
  blk : Row w rh 5 (D.all.map bv)
  ne : rg ≠ rh
  n : N = D.n * 64
  ok : D.ok
theorem RefAt.keep {w w' : World} {g h N : Nat} {D : Dm} (H : RefAt w g h N D) (hg : w'.heap[g]? = w.heap[g]?) (hh : w'.heap[h]? = w.heap[h]?) : RefAt w' g h N D := ⟨hg.trans H.row, hh.trans H.blk, H.ne, H.n, H.ok⟩
theorem RefAt.stay {w w' : World} {g h N : Nat} {D : Dm} (H : RefAt w g h N D) (hs : Stay w w') : RefAt w' g h N D := H.keep (by rw [hs.heap]) (by rw [hs.heap])
theorem RefAt.under {w w' : World} {g h N : Nat} {D : Dm} (H : RefAt w g h N D) (hb : Below w.heap.size w w') : RefAt w' g h N D := H.keep (hb.block g H.row.lt) (hb.block h H.blk.lt)
theorem RefAt.turn {w w' : World} {g h N : Nat} {D : Dm} {F : Nat → Prop} (H : RefAt w g h N D) (ht : Turn F w w') (hg : ¬ F g) (hh : ¬ F h) : RefAt w' g h N D := H.keep (ht.block g H.row.lt hg) (ht.block h H.blk.lt hh)
theorem RefAt.c0 {w : World} {g h N : Nat} {D : Dm} (H : RefAt w g h N D) : w.cell? ⟨g, 0, none⟩ = some (.slice (some ⟨h, 0, none⟩) N N) := H.row.cell 0
theorem RefAt.c1 {w : World} {g h N : Nat} {D : Dm} (H : RefAt w g h N D) : w.cell? ⟨g, 1, none⟩ = some (.bool D.off) := H.row.cell 1
theorem RefAt.c2 {w : World} {g h N : Nat} {D : Dm} (H : RefAt w g h N D) : w.cell? ⟨g, 2, none⟩ = some (.int .i64 (leftR D)) := H.row.cell 2
theorem RefAt.c3 {w : World} {g h N : Nat} {D : Dm} (H : RefAt w g h N D) : w.cell? ⟨g, 3, none⟩ = some (.int .i64 (D.writes : Int)) := H.row.cell 3
theorem RefAt.set {w : World} {g h N : Nat} {D D' : Dm} (H : RefAt w g h N D) (k : Nat) (x : Value) (hc : (cellsR D h N).set k x = cellsR D' h N) (ha : D'.all = D.all) (hn : D'.n = D.n) (hk : D'.ok) : RefAt (w.setCell ⟨g, k, none⟩ x) g h N D' :=
  ⟨by rw [← hc]; exact H.row.set k x, by rw [ha]; exact (Below.heap_setCell _ _ _ _ (fun e => H.ne e.symm)).trans H.blk, H.ne, by rw [hn]; exact H.n, hk⟩
theorem RefAt.len {w : World} {g h N : Nat} {D : Dm} (H : RefAt w g h N D) : D.all.length = N := by rw [H.n, H.ok.len]
theorem RefAt.nlt {w : World} {g h N : Nat} {D : Dm} (H : RefAt w g h N D) : N ≤ 262144 ∧ 64 ≤ N := by have h1 := H.ok.hi; have h2 := H.ok.lo; have h3 := H.n; omega
theorem RefAt.quo {w : World} {g h N : Nat} {D : Dm} (H : RefAt w g h N D) : (N : Int).tdiv 64 = (D.n : Int) ∧ (N : Int) / 64 = (D.n : Int) := by
  have h3 := H.n
  have h4 := H.nlt
  exact ⟨by rw [div_nat _ (by omega)]; omega, by omega⟩

theorem ask_off {h N : Nat} {D : Dm} (g : Nat) (z : Int) (w : World) (H : RefAt w g h N D) (ho : D.off = true) : Calls Tryd.prog 29 #[.pointer (some ⟨g, 0, none⟩), .int .i64 z] w fun x w' => x = .returned (.int .i64 6) ∧ w = w' := by
  have c1 := H.c1
  rw [ho] at c1
  clear H ho
  go_enter Tryd.func29, Tryd.ntmps29
  go_wp2_with fail
  go_ret
  exact ⟨rfl, rfl⟩
theorem ask_range {h N : Nat} {D : Dm} (g : Nat) (z : Int) (w : World) (H : RefAt w g h N D) (ho : D.off = false) (hz : z < 0 ∨ (D.n : Int) ≤ z) : Calls Tryd.prog 29 #[.pointer (some ⟨g, 0, none⟩), .int .i64 z] w fun x w' => x = .returned (.int .i64 1) ∧ w = w' := by
  have c0 := H.c0
  have c1 := H.c1
  have hq1 := H.quo.1
  have hq2 := H.quo.2
  have hN := H.nlt.1
  rw [ho] at c1
  clear H ho
  rcases Int.lt_or_le z 0 with hz0 | hz0
  · have hd : decide (z < 0) = true := by simpa using hz0
    go_enter Tryd.func29, Tryd.ntmps29
    go_wp2_with fail
    go_ret
    exact ⟨rfl, rfl⟩
  · have hn : (D.n : Int) ≤ z := by omega
    have hd : decide (z < 0) = false := by simpa using hz0
    go_enter Tryd.func29, Tryd.ntmps29
    go_wp2_with fail
    go_ret
    exact ⟨rfl, rfl⟩
theorem ask_ok {h N : Nat} {D : Dm} (g i : Nat) (w : World) (H : RefAt w g h N D) (ho : D.off = false) (hi : i < D.n) : Calls Tryd.prog 29 #[.pointer (some ⟨g, 0, none⟩), .int .i64 (i : Int)] w fun x w' => x = .returned (.int .i64 0) ∧ w = w' := by
  have c0 := H.c0
  have c1 := H.c1
  have hq1 := H.quo.1
  have hq2 := H.quo.2
  have hN := H.nlt.1
  rw [ho] at c1
  clear H ho
  have hd : decide ((i : Int) < 0) = false := by simp
  go_enter Tryd.func29, Tryd.ntmps29
  go_wp2_with fail
  go_ret
  exact ⟨rfl, rfl⟩
theorem rarm_any {h N : Nat} {D : Dm} (g : Nat) (z : Int) (w : World) (H : RefAt w g h N D) (hz : z ≤ 9223372036854775807) :
    Calls Tryd.prog 22 #[.pointer (some ⟨g, 0, none⟩), .int .i64 z] w fun x w' => x = .returned (.tuple #[]) ∧ Hid (RefAt w' g h N (D.arm z) ∧ Turn (Two g h) w w') := by
  have c2 := H.c2
  have f2 := H.row.frozen 2
  have hk : (D.arm z).ok := ⟨H.ok.lo, H.ok.hi, H.ok.len, by show z.toNat ≤ _; omega, H.ok.writes⟩
  by_cases h0 : 0 ≤ z
  · have HR : Hid (RefAt (w.setCell ⟨g, 2, none⟩ (.int .i64 z)) g h N (D.arm z)) := Lib.hid (H.set 2 _ (by simp [cellsR, leftR, Dm.arm, h0]; omega) rfl rfl hk)
    have hd : decide (z < 0) = false := by simpa using h0
    clear H hk
    go_enter Tryd.func22, Tryd.ntmps22
    go_wp2_with fail
    go_end0
    exact ⟨rfl, Lib.hid ⟨HR.out, DrumAt.turn_set 2 _⟩⟩
  · have HR : Hid (RefAt ((w.setCell ⟨g, 2, none⟩ (.int .i64 z)).setCell ⟨g, 2, none⟩ (.int .i64 (-1))) g h N (D.arm z)) := Lib.hid (by
      have h1 : Row ((w.setCell ⟨g, 2, none⟩ (.int .i64 z)).setCell ⟨g, 2, none⟩ (.int .i64 (-1))) g 41 (cellsR (D.arm z) h N) := by
        have := (H.row.set 2 (.int .i64 z)).set 2 (.int .i64 (-1))
        have e : ((cellsR D h N).set 2 (.int .i64 z)).set 2 (.int .i64 (-1)) = cellsR (D.arm z) h N := by simp [cellsR, leftR, Dm.arm, h0]
        rwa [e] at this
      exact ⟨h1, (Below.heap_setCell _ _ _ _ (fun e => H.ne e.symm)).trans ((Below.heap_setCell _ _ _ _ (fun e => H.ne e.symm)).trans H.blk), H.ne, H.n, hk⟩)
    have hd : decide (z < 0) = true := by simp; omega
    have h1 : z < 0 := by omega
    clear H hk
    go_enter Tryd.func22, Tryd.ntmps22
    go_wp2_with fail
    go_end0
    exact ⟨rfl, Lib.hid ⟨HR.out, (DrumAt.turn_set 2 _).trans (DrumAt.turn_set 2 _) (fun _ _ h => h)⟩⟩
theorem ron_any {h N : Nat} {D : Dm} (g : Nat) (w : World) (H : RefAt w g h N D) :
    Calls Tryd.prog 24 #[.pointer (some ⟨g, 0, none⟩)] w fun x w' => x = .returned (.tuple #[]) ∧ Hid (RefAt w' g h N D.on ∧ Turn (Two g h) w w') := by
  have c1 := H.c1
  have c2 := H.c2
  have f1 := H.row.frozen 1
  have f2 := H.row.frozen 2
  have hk : D.on.ok := ⟨H.ok.lo, H.ok.hi, H.ok.len, by show 0 ≤ _; omega, H.ok.writes⟩
  have HR : Hid (RefAt ((w.setCell ⟨g, 1, none⟩ (.bool false)).setCell ⟨g, 2, none⟩ (.int .i64 (-1))) g h N D.on) := Lib.hid (by
    have h1 := (H.row.set 1 (.bool false)).set 2 (.int .i64 (-1))
    exact ⟨h1, (Below.heap_setCell _ _ _ _ (fun e => H.ne e.symm)).trans ((Below.heap_setCell _ _ _ _ (fun e => H.ne e.symm)).trans H.blk), H.ne, H.n, hk⟩)
  clear H hk
  go_enter Tryd.func24, Tryd.ntmps24
  go_wp2_with fail
  go_end0
  exact ⟨rfl, Lib.hid ⟨HR.out, (DrumAt.turn_set 1 _).trans (DrumAt.turn_set 2 _) (fun _ _ h => h)⟩⟩
/-- A new slice of bytes 0. -/
theorem wl_makeb {w : World} {ops : Array Oper} {rest : List Oper} {o : Oper} {a : Act} {Q : Exit → Act → World → Prop} (hgd : o.guard = none) (l c : Operand) (ho : o.op = Op.makeSlice 22 l c)
    (z : Int) (n : Nat) (hl : a.eval l = .int .i64 z) (hc : a.eval c = .int .i64 z) (hz : z = (n : Int)) (hn : n ≤ 262144)
    (h : ∀ w', Hid (Row w' w.heap.size 5 ((List.replicate n (0 : UInt8)).map bv) ∧ Below w.heap.size w w' ∧ w'.heap.size = w.heap.size + 1) → wpList Tryd.prog ops Q rest (a.put o.dst (.slice (some ⟨w.heap.size, 0, none⟩) n n)) w') :
    wpList Tryd.prog ops Q (o :: rest) a w := by
  refine wpList_plain hgd fun K hK => ?_
  subst hz
  obtain ⟨i0, hi0, hz0, hz1, hz2⟩ := info_parts' u8_info
  have hr := run_make (P := Tryd.prog) w 22 5 i0 _ Tryd.underlying22 hi0 hz0 .i64 .i64 n n (by omega) (Int.le_refl _) (by rw [hz2]; omega) (by omega)
  have hm : madeCells (Value.int .u8 0).cells n = ((List.replicate n (0 : UInt8)).map bv).toArray := by
    have h := made_rep 1 n (by decide) (Value.int .u8 0)
    rw [List.map_replicate]
    exact h
  rw [Int.toNat_natCast, hz1, Nat.mul_one, hm] at hr
  unfold Oper.wp
  simp only [execOp, ho, hl, hc, Sem.run_bind, hr, Result.andThen_ok]
  exact hK _ _ (h _ (Lib.hid ⟨Row.new w _ 5, (Below.refl _ _).alloc (Nat.le_refl _) _, by simp⟩))
set_option maxHeartbeats 1000000 in
theorem rnew_ok (n N : Nat) (w : World) (h1 : 1 ≤ n) (h2 : n ≤ 4096) (hN : N = n * 64) : Calls Tryd.prog 14 #[.int .i64 (n : Int)] w fun x w' => x = .returned (.pointer (some ⟨w.heap.size + 1, 0, none⟩)) ∧ Hid (RefAt w' (w.heap.size + 1) w.heap.size N (fresh n) ∧ Below w.heap.size w w') := by
  have HN := Lib.hid hN
  have hN2 : N ≤ 262144 := by omega
  have HM : Hid (64 * (n : Int) = (N : Int)) := Lib.hid (by omega)
  clear hN
  go_enter Tryd.func14, Tryd.ntmps14
  go_wp2_with (first
    | (refine wl_makeb rfl (.tmp 4) (.tmp 4) rfl _ N rfl rfl HM.out hN2 ?_
       intro w1 H1))
  go_ret
  have hsz : w1.heap.size = w.heap.size + 1 := H1.out.2.2
  refine ⟨by rw [← hsz]; rfl, Lib.hid ⟨?_, H1.out.2.1.alloc (by omega) _⟩⟩
  rw [← hsz]
  refine ⟨Row.new w1 (cellsR (fresh n) w.heap.size N) 41, ?_, by omega, HN.out, fresh_ok h1 h2⟩
  show Row _ _ 5 ((List.replicate (n * 64) (0 : UInt8)).map bv)
  rw [← HN.out]
  exact H1.out.1.keep (Below.heap_alloc _ _ _ (by omega))

/-- Bytes copied into a row, the two slices at any spelling. -/
theorem step_copy' {ops : Array Oper} {o : Oper} {a : Act} {w : World} {K : Act → World → Prop} {Q : Exit → Act → World → Prop} {E : Prop} (hgd : o.guard = none) (d s : Operand)
    (ho : o.op = .call { callee := .builtin .copy, args := #[d, s], argTypes := #[22, 22] })
    (A B : Option Addr) (dLen dCap sLen sCap : Nat) (hd : a.eval d = .slice A dLen dCap) (hs : a.eval s = .slice B sLen sCap)
    (g off : Nat) (ad : Addr) (hA : A = some ⟨g, off, none⟩) (hB : B = some ad)
    (cur : List Value) (t : TypeId) (hg : Row w g t cur) (cs : List Value) (hn : cs.length = Nat.min sLen dLen)
    (hsrc : ∀ j v, cs[j]? = some v → w.cell? (ad.add j) = some v) (hfit : off + cs.length ≤ cur.length) (h1 : ∀ v ∈ cs, v.oneCell' = true)
    (h : ∀ w', Hid (Row w' g t (splice cur off cs) ∧ Turn (fun k => k = g) w w' ∧ w'.heap.size = w.heap.size) → K (a.put o.dst (goInt cs.length)) w') :
    if Region.wanted o (yielded ops a.tmps) = true then Oper.wp Tryd.prog o a w K Q else E := by
  subst hA hB
  exact step_copy hgd d s ho g off dLen dCap ad sLen sCap hd hs cur t hg cs hn hsrc hfit h1 h
theorem cut_addr (N i h : Nat) (hN : i * 64 + 64 ≤ N) : (if N = (64 * (i : Int)).toNat then some (⟨h, 0, none⟩ : Addr) else some ⟨h, (64 * (i : Int)).toNat, none⟩) = some ⟨h, i * 64, none⟩ := by
  have e : (64 * (i : Int)).toNat = i * 64 := by omega
  rw [if_neg (by omega), e]
theorem cut_min (i L : Nat) (h : L = 64) : L = Nat.min 64 ((64 * (i : Int) + 64).toNat - (64 * (i : Int)).toNat) := by
  have e : (64 * (i : Int) + 64).toNat - (64 * (i : Int)).toNat = 64 := by omega
  rw [e, h]; rfl
/-! Write. -/
theorem spent_leftR (D : Dm) : leftR D.spent = if D.armed then ((D.left - 1 : Nat) : Int) else -1 := by
  unfold leftR Dm.spent
  cases D.armed <;> rfl
theorem spent_ok {D : Dm} (hk : D.ok) : D.spent.ok := ⟨hk.lo, hk.hi, hk.len, by have := hk.left; show (if D.armed then D.left - 1 else D.left) ≤ _; split <;> omega, hk.writes⟩
/-- The document's drum behind the copy and the count. -/
theorem rwrote_at {w w1 w2 : World} {g h N : Nat} {D : Dm} (hk : D.ok) (H : RefAt w1 g h N D.spent) (ht1 : Turn (Two g h) w w1) {i : Nat} (hi : i < D.n) {b : List UInt8} (hb : b.length = 64) (hw : D.writes < 1000000)
    (H2 : Row w2 h 5 (splice (D.all.map bv) (i * 64) (b.map bv)) ∧ Turn (fun k => k = h) w1.drew w2) (z : Int) (hz : z = ((D.writes + 1 : Nat) : Int)) :
    RefAt (w2.setCell ⟨g, 3, none⟩ (.int .i64 z)) g h N (D.wrote i b) ∧ Turn (Two g h) w (w2.setCell ⟨g, 3, none⟩ (.int .i64 z)) := by
  subst hz
  have hst : Stay w1 w1.drew := ⟨rfl, rfl, rfl, rfl⟩
  have hrow : Row w2 g 41 (cellsR D.spent h N) := H2.2.row (H.stay hst).row (fun e => H.ne e)
  refine ⟨⟨?_, ?_, H.ne, H.n, wrote_ok hk hi hb hw⟩, ?_⟩
  · exact hrow.set 3 _
  · have h3 := H2.1
    rw [splice_map] at h3
    exact (Below.heap_setCell _ _ _ _ (fun e => H.ne e.symm)).trans h3
  · exact (((ht1.stay hst).trans H2.2 (fun k _ e => .inr e))).trans (DrumAt.turn_set 3 _) (fun _ _ h => h)
set_option maxHeartbeats 1000000 in
theorem rwrite_ok {h N : Nat} {D : Dm} (g i : Nat) (A : Array Value) (b : List UInt8) (w : World) (H : RefAt w g h N D) (hA : A = (b.map bv).toArray) (hb : b.length = 64) (ho : D.off = false) (hi : i < D.n) (ha : D.armed = true → 0 < D.left) (hw : D.writes < 1000000) :
    Calls Tryd.prog 18 #[.pointer (some ⟨g, 0, none⟩), .int .i64 (i : Int), .agg A] w fun x w' => x = .returned (.int .i64 0) ∧ Hid (RefAt w' g h N (D.wrote i b) ∧ Turn (Two g h) w w') := by
  obtain ⟨L, HL⟩ : ∃ L, Shut (L = b.map bv) := ⟨_, ⟨rfl⟩⟩
  obtain rfl : A = L.toArray := by rw [hA, HL.out]
  have HLL : Shut (L.length = 64 ∧ (∀ v ∈ L, v.oneCell' = true)) := ⟨by rw [HL.out, List.length_map, hb]; exact ⟨rfl, bytes_one b⟩⟩
  have HB0 := Lib.hid ((Below.refl w.heap.size w).alloc (Nat.le_refl _) (.cells L.toArray 47))
  have HLT := Lib.hid (And.intro H.row.lt H.blk.lt)
  have H1 := Lib.hid (H.under HB0.out)
  have HT0 : Hid (Turn (Two g h) w (w.alloc (.cells L.toArray 47))) := Lib.hid ((Turn.refl _ w).alloc _)
  have HK := Lib.hid H.ok
  have HO := Lib.hid ho
  have HB := Lib.hid hb
  have HR0 := Lib.hid (Row.new w L 47)
  have hNlt := H.nlt.1
  have hNn : N = D.n * 64 := H.n
  have hfit : i * 64 + 64 ≤ N := by omega
  have HN := Lib.hid hNn
  have hl63 := H.ok.left
  have hsz0 : (w.alloc (.cells L.toArray 47)).heap.size = w.heap.size + 1 := by simp
  have HSZ := Lib.hid hsz0
  clear hA H ho hb hNn hsz0
  generalize hW : w.alloc (.cells L.toArray 47) = W at *
  cases hc : D.armed
  · have c2 : W.cell? ⟨g, 2, none⟩ = some (.int .i64 (-1)) := by have := H1.out.c2; rwa [leftR, hc] at this
    have HSP : Hid (D.spent = D) := Lib.hid (by cases D; simp at hc; subst hc; rfl)
    have HS : Hid (RefAt W g h N D.spent ∧ Turn (Two g h) w W) := Lib.hid ⟨by rw [HSP.out]; exact H1.out, HT0.out⟩
    have HRW : Hid (Row W w.heap.size 47 L) := HR0
    clear hc ha HSP
    go_enter Tryd.func18, Tryd.ntmps18
    subst hW
    go_wp2_with (first
      | (go_at_call 29; (with_reducible refine (ask_ok g i _ H1.out HO.out hi).mono ?_); rintro x w' ⟨rfl, rfl⟩))
    generalize (w.alloc (.cells L.toArray 47)) = W2 at HS HRW ⊢
    have c0 := HS.out.1.c0
    have c3 : W2.cell? ⟨g, 3, none⟩ = some (.int .i64 (D.writes : Int)) := HS.out.1.c3
    have f3 := HS.out.1.row.frozen 3
    have HBK : Hid (Row W2.drew h 5 (D.all.map bv)) := Lib.hid HS.out.1.blk
    have HSR : Hid (∀ j v, L[j]? = some v → W2.drew.cell? ((⟨w.heap.size, 0, none⟩ : Addr).add j) = some v) := Lib.hid (fun j v hj => by rw [Addr.add_mid, Nat.zero_add]; exact (HRW.out.cell j).trans hj)
    have HAL : Hid ((D.all.map bv).length = N) := Lib.hid (by rw [List.length_map]; exact HS.out.1.len)
    have hI0 : (0 : Int) ≤ 64 * (i : Int) := by omega
    have hI1 : IntKind.i64.wrap (64 * (i : Int)) = 64 * (i : Int) := by rw [IntKind.wrap_i64]; omega
    have hI2 : IntKind.i64.wrap (64 * (i : Int) + 64) = 64 * (i : Int) + 64 := by rw [IntKind.wrap_i64]; omega
    have hI3 : 64 * (i : Int) + 64 ≤ (N : Int) := by omega
    have hI4 : 64 * (i : Int) ≤ 64 * (i : Int) + 64 := by omega
    have hI5 : ¬ N = 64 * i := by omega
    have hsl1 := fun w' : World => run_all w' 47 64 under47 w.heap.size 0
    go_region_law (refine step_copy' rfl (.tmp 43) (.tmp 44) rfl _ _ _ _ _ _ rfl rfl h (i * 64) ⟨w.heap.size, 0, none⟩ (cut_addr N i h hfit) rfl _ 5 HBK.out L (cut_min i _ HLL.out.1) HSR.out (by rw [HLL.out.1, HAL.out]; omega) HLL.out.2 ?_; intro w7 HW7)
    clear hI0 hI1 hI2 hI3 hI4 hI5 hsl1 c0
    have HG7 : Hid (Row w7 g 41 (cellsR D.spent h N)) := Lib.hid (HW7.out.2.1.row (HS.out.1.stay ⟨rfl, rfl, rfl, rfl⟩).row (fun e => HS.out.1.ne e))
    have c3' : w7.cell? ⟨g, 3, none⟩ = some (.int .i64 (D.writes : Int)) := HG7.out.cell 3
    have f3' := HG7.out.frozen 3
    clear c3 f3
    go_wp2_with fail
    go_ret
    exact ⟨rfl, Lib.hid (rwrote_at HK.out HS.out.1 HS.out.2 hi HB.out hw ⟨by rw [← HL.out]; exact HW7.out.1, HW7.out.2.1⟩ _ (by omega))⟩
  · have hl := ha hc
    have c2 : W.cell? ⟨g, 2, none⟩ = some (.int .i64 (D.left : Int)) := by have := H1.out.c2; rwa [leftR, hc] at this
    have f2 := H1.out.row.frozen 2
    have HS : Hid (RefAt (W.setCell ⟨g, 2, none⟩ (.int .i64 ((D.left : Int) - 1))) g h N D.spent ∧ Turn (Two g h) w (W.setCell ⟨g, 2, none⟩ (.int .i64 ((D.left : Int) - 1)))) := Lib.hid ⟨H1.out.set (D' := D.spent) 2 _ (by
      have e : leftR D.spent = (D.left : Int) - 1 := by rw [spent_leftR, hc]; simp; omega
      unfold cellsR; rw [e]; rfl) rfl rfl (spent_ok HK.out), HT0.out.trans (DrumAt.turn_set 2 _) (fun _ _ h => h)⟩
    have HRW : Hid (Row (W.setCell ⟨g, 2, none⟩ (.int .i64 ((D.left : Int) - 1))) w.heap.size 47 L) := Lib.hid ((Below.heap_setCell _ _ _ _ (by have := HLT.out.1; show w.heap.size ≠ g; omega)).trans HR0.out)
    have hlI : (0 : Int) < (D.left : Int) := by omega
    have hle : ¬ D.left = 0 := by omega
    clear hc ha
    go_enter Tryd.func18, Tryd.ntmps18
    subst hW
    go_wp2_with (first
      | (go_at_call 29; (with_reducible refine (ask_ok g i _ H1.out HO.out hi).mono ?_); rintro x w' ⟨rfl, rfl⟩))
    generalize ((w.alloc (.cells L.toArray 47)).setCell ⟨g, 2, none⟩ (.int .i64 ((D.left : Int) - 1))) = W2 at HS HRW ⊢
    have c0 := HS.out.1.c0
    have c3 : W2.cell? ⟨g, 3, none⟩ = some (.int .i64 (D.writes : Int)) := HS.out.1.c3
    have f3 := HS.out.1.row.frozen 3
    have HBK : Hid (Row W2.drew h 5 (D.all.map bv)) := Lib.hid HS.out.1.blk
    have HSR : Hid (∀ j v, L[j]? = some v → W2.drew.cell? ((⟨w.heap.size, 0, none⟩ : Addr).add j) = some v) := Lib.hid (fun j v hj => by rw [Addr.add_mid, Nat.zero_add]; exact (HRW.out.cell j).trans hj)
    have HAL : Hid ((D.all.map bv).length = N) := Lib.hid (by rw [List.length_map]; exact HS.out.1.len)
    have hI0 : (0 : Int) ≤ 64 * (i : Int) := by omega
    have hI1 : IntKind.i64.wrap (64 * (i : Int)) = 64 * (i : Int) := by rw [IntKind.wrap_i64]; omega
    have hI2 : IntKind.i64.wrap (64 * (i : Int) + 64) = 64 * (i : Int) + 64 := by rw [IntKind.wrap_i64]; omega
    have hI3 : 64 * (i : Int) + 64 ≤ (N : Int) := by omega
    have hI4 : 64 * (i : Int) ≤ 64 * (i : Int) + 64 := by omega
    have hI5 : ¬ N = 64 * i := by omega
    have hsl1 := fun w' : World => run_all w' 47 64 under47 w.heap.size 0
    go_region_law (refine step_copy' rfl (.tmp 43) (.tmp 44) rfl _ _ _ _ _ _ rfl rfl h (i * 64) ⟨w.heap.size, 0, none⟩ (cut_addr N i h hfit) rfl _ 5 HBK.out L (cut_min i _ HLL.out.1) HSR.out (by rw [HLL.out.1, HAL.out]; omega) HLL.out.2 ?_; intro w7 HW7)
    clear hI0 hI1 hI2 hI3 hI4 hI5 hsl1 c0
    have HG7 : Hid (Row w7 g 41 (cellsR D.spent h N)) := Lib.hid (HW7.out.2.1.row (HS.out.1.stay ⟨rfl, rfl, rfl, rfl⟩).row (fun e => HS.out.1.ne e))
    have c3' : w7.cell? ⟨g, 3, none⟩ = some (.int .i64 (D.writes : Int)) := HG7.out.cell 3
    have f3' := HG7.out.frozen 3
    clear c3 f3
    go_wp2_with fail
    go_ret
    exact ⟨rfl, Lib.hid (rwrote_at HK.out HS.out.1 HS.out.2 hi HB.out hw ⟨by rw [← HL.out]; exact HW7.out.1, HW7.out.2.1⟩ _ (by omega))⟩
end Go.Proofs.YtadhgdjgpanddaaDoor

/- What frame.sealed answers for bytes of our own: the bytes and their check. What frame.Put answers: a valid frame's bytes, else ErrFrame. The walks of frame.Put. What the listed errors' variables hold when a call begins: each a pointer of its own, none nil. The laws' alive: the chapter's examples. bytes.Equal; frame.sealed of bytes without room behind them. -/
import Derived.Test.YtmhfhdbaeijcfaaDoorGC
import Derived.Test.YtmhfhdbaeijcfaaDoorRows
import Derived.LaidEql
import Derived.Below
import Derived.ProofKit
import Derived.LaidMore
import Derived.OpenShut
import Derived.LaidLaws
import Derived.Stop.Joined
import Derived.Stop.LaidErr
import Derived.Room.Entries
namespace Go.Proofs.YtmhfhdbaeijcfaaDoor
open Go.RowKit
open Go.Proofs.YtmhfhdbaeijcfaaDoor.H

set_option maxRecDepth 100000 in
/-- Bytes, wherever they lie, nil too, appended to a row of our own. -/
theorem run_append_rd (w : World) (base : Nat) (v : Value) (n : Nat) (xs : List Value) (hown : w.ownsRow base 5 1 v n xs) (B : Nat) (A : Option Addr) (m c : Nat) (bs : List UInt8) (hm : bs.length = m) (hr : Rd w B A (bs.map bv))
    (hb : n + m ≤ 140737488355328) (hbase : base ≤ w.heap.size) (ty : TypeId) :
    ∃ v' w', (Builtin.append_ #[23, 23] ty #[v, .slice A m c]).run Tryd.prog w = .ok v' w' ∧ w'.ownsRow base 5 1 v' (n + m) (xs ++ bs.map bv) ∧ w.grownBy w' v.ownBlock := by
  obtain ⟨i0, hi0, hz0, hz1, hz2⟩ := info_parts' u8_info
  subst hm
  rcases A with _ | ad
  · have hbs : bs = [] := by
      rcases hr with h | ⟨ad, h, _⟩
      · simpa using h
      · cases h
    subst hbs
    refine ⟨v, w, ?_, by simpa using hown, World.grownBy.refl _ _⟩
    rcases hown.2 with ⟨rfl, rfl⟩ | ⟨g, cap, cur, rfl, _, _, hnc, _⟩
    · simp [Builtin.append_, run_underlying Tryd.underlying23, sizeOf, typeInfo, hi0, Builtin.lenOf, Builtin.firstCells]
    · simp [Builtin.append_, run_underlying Tryd.underlying23, sizeOf, typeInfo, hi0, Builtin.lenOf, Builtin.firstCells, hnc, storeCells]
  · have hnews : ∀ (j : Nat) (u : Value), (bs.map bv)[j]? = some u → w.cell? (ad.add j) = some u := by
      intro j u hj
      obtain ⟨ad', h1, _, h2⟩ := hr.cell hj
      injection h1 with h1
      subst h1
      exact h2
    obtain ⟨v', w', hrun, h2, h3, _, _⟩ := run_append_own_at (P := Tryd.prog) w base 23 ty 5 i0 _ 1 1 Tryd.underlying23 hi0 hz0 hz1 hz2 rfl (by omega) v n xs hown ad bs.length c (bs.map bv) (by simp) hnews
      (by intro u hu; simp at hu; obtain ⟨b, _, rfl⟩ := hu; rfl) (by simp only [maxLen]; omega) (by omega) hbase
    exact ⟨v', w', hrun, h2, h3⟩
theorem wl_append {w : World} {ops : Array Oper} {rest : List Oper} {o : Oper} {a : Act} {Q : Exit → Act → World → Prop} (hgd : o.guard = none) (t x : Operand)
    (ho : o.op = .call { callee := .builtin .append, args := #[t, x], argTypes := #[23, 23] }) (base : Nat) (v : Value) (n : Nat) (xs : List Value) (hs : a.eval t = v) (hown : w.ownsRow base 5 1 v n xs) (B : Nat) (A : Option Addr) (m c : Nat) (bs : List UInt8)
    (hx : a.eval x = .slice A m c) (hm : bs.length = m) (hr : Rd w B A (bs.map bv)) (hb : n + m ≤ 140737488355328) (hbase : base ≤ w.heap.size)
    (h : ∀ v' w', Hid (w'.ownsRow base 5 1 v' (n + m) (xs ++ bs.map bv) ∧ w.grownBy w' v.ownBlock) → wpList Tryd.prog ops Q rest (a.put o.dst v') w') : wpList Tryd.prog ops Q (o :: rest) a w := by
  refine wpList_plain hgd fun K hK => ?_
  obtain ⟨v', w', hr2, h2, h3⟩ := run_append_rd w base v n xs hown B A m c bs hm hr hb hbase o.type
  unfold Oper.wp execOp
  simp only [ho, resolve, invoke, builtin, Sem.run_bind, Sem.run_pure, Result.andThen_ok, List.map_toArray, List.map_cons, List.map_nil, hs, hx, hr2]
  exact hK _ _ (h v' w' ⟨h2, h3⟩)

/-- What a value of 4 bytes needs to be stored. -/
theorem four_facts (S : List UInt8) : ∃ D, H.Shut (D = ((digest S).take 4).map bv) ∧ H.Shut ((Tryd.prog.info? 113).map (·.size) = some D.length ∧ (List.replicate 4 (Value.int .u8 0)).length = D.length ∧ D.length = 4 ∧ ∀ v ∈ D, v.oneCell' = true) := by
  refine ⟨_, ⟨rfl⟩, ⟨?_⟩⟩
  have h1 : (((digest S).take 4).map bv).length = 4 := by rw [List.length_map, List.length_take, digest_length]; rfl
  exact ⟨by rw [h1]; exact info_size info29, by rw [h1]; exact List.length_replicate, h1, fun v hv => by obtain ⟨b, _, rfl⟩ := List.mem_map.1 hv; rfl⟩

set_option maxRecDepth 100000 in
set_option maxHeartbeats 1000000 in
theorem sealed_own (base n c : Nat) (A : Option Addr) (bs : List UInt8) (w : World) (hK : Ktab w) (hn : bs.length = n) (hs : n ≤ 1000000) (hbase : base ≤ w.heap.size) (hown : w.ownsRow base 5 1 (.slice A n c) n (bs.map bv)) :
    Calls Tryd.prog 41 #[.slice A n c] w fun e w' => ∃ v, e = .returned v ∧ Hid (w'.ownsRow base 5 1 v (n + 4) ((bs ++ (digest bs).take 4).map bv) ∧ Below base w w') := by
  have h0 := hK.1
  have HK := Lib.hid hK
  have HN := Lib.hid hn
  have HO := Lib.hid hown
  obtain ⟨A', c', e', _, hc, hcm, hr, _⟩ := own_slice hown
  injection e' with e1 e2 e3
  subst e1 e3
  have HR := Lib.hid hr
  have hcm' : c ≤ 9223372036854775807 := hcm
  clear hK hn hown hr hcm e2
  go_enter Tryd.func41, Tryd.ntmps41
  go_wp2_with fail
  have HP := Lib.hid (one_part w A n c bs HN.out hc hcm' HR.out)
  have hb1 := below_alloc w (.cells #[.slice A n c] 23)
  generalize w.alloc (.cells #[.slice A n c] 23) = w1 at *
  have hz1 : w.heap.size ≤ w1.heap.size := hb1.size
  with_reducible refine (check_any 1 1 (some ⟨w.heap.size, 0, none⟩) _ w1 (HK.out.below h0 hb1) rfl (by decide) (by rw [flat_one, HN.out]; omega) HP.out).mono ?_
  rintro e w2 ⟨v2, rfl, HV2⟩
  obtain ⟨D, HD, HLD⟩ := four_facts bs
  have HVD : Hid (v2 = .agg D.toArray) := Lib.hid (by rw [HD.out]; have := HV2.out.1; rwa [flat_one] at this)
  have HB2 := Lib.hid (hb1.trans (HV2.out.2.mono hz1))
  have hz2 : w.heap.size ≤ w2.heap.size := HB2.out.size
  clear HV2 HP hb1
  have hsl := fun w' : World => run_all w' 113 4 under29 w2.heap.size 0
  go_wp2_with (first
    | (refine wl_alloc rfl 113 rfl _ _ info29 ?_
       intro w3 HA3 HB3 HZ3)
    | (refine wl_store rfl 113 (.tmp 3) (.tmp 6) rfl w2.heap.size _ D rfl HVD.out rfl 113 _ HA3.out HLD.out.1 HLD.out.2.1 HLD.out.2.2.2 ?_
       intro w4 HR4 HS4 HZ4
       have hz3 : w2.heap.size < w3.heap.size := by rw [HZ3.out]; omega
       have hz4 : w3.heap.size ≤ w4.heap.size := by rw [HZ4.out]; exact Nat.le_refl _
       have hb24 : Below w2.heap.size w2 w4 := HB3.out.trans (HS4.out.below (Nat.le_refl _) (by omega))
       have HB4 := Lib.hid (HB2.out.trans (hb24.mono hz2))
       have HO4 := Lib.hid (own_below HO.out HB4.out)
       have HR5 : Hid (Rd w4 w4.heap.size (some ⟨w2.heap.size, 0, none⟩) (((digest bs).take 4).map bv)) := Lib.hid (by rw [← HD.out]; exact HR4.out.rd _ (by omega))
       have HL4 : Hid (((digest bs).take 4).length = 4) := Lib.hid (by rw [List.length_take, digest_length]; rfl))
    | (refine wl_append rfl (.tmp 7) (.tmp 8) rfl base (.slice A n c) n (bs.map bv) rfl HO4.out w4.heap.size (some ⟨w2.heap.size, 0, none⟩) 4 4 ((digest bs).take 4) rfl HL4.out HR5.out (by omega) (by omega) ?_
       intro v5 w5 HA5))
  go_ret
  refine ⟨v5, rfl, Lib.hid ⟨by rw [List.map_append]; exact HA5.out.1, ?_⟩⟩
  exact (HB4.out.mono hbase).grown HA5.out.2 (by omega) (fun j hj => (HO4.out.lt j hj).1)
end Go.Proofs.YtmhfhdbaeijcfaaDoor
namespace Go.Proofs.YtmhfhdbaeijcfaaDoor
open Go.RowKit
open Go.Proofs.YtmhfhdbaeijcfaaDoor.H

/-- The listed variables: the errors of package fields, ErrFrame, the table of words. -/
structure Env (w : World) (E : Nat → Value) (te : TypeId) (pe : Value) : Prop where
  errs : F.Errz w E
  ef : w.cell? ⟨0, 0, none⟩ = some (.iface te pe)
  kt : Ktab w
  size : 20 ≤ w.heap.size
theorem Env.below {w w' : World} {E : Nat → Value} {te : TypeId} {pe : Value} (h : Env w E te pe) {B : Nat} (hB : 20 ≤ B) (hb : Below B w w') : Env w' E te pe :=
  ⟨h.errs.below hB hb, (hb.cell (p := ⟨0, 0, none⟩) (show 0 < B by omega)).trans h.ef, h.kt.below (by omega) hb, Nat.le_trans h.size hb.size⟩

theorem grown_row' {w w' : World} {g : Nat} {t : TypeId} {cs : List Value} {r : Option Nat} (h : Row w g t cs) (hg : w.grownBy w' r) (hr : r ≠ some g) : Row w' g t cs := (hg.block g h.lt (fun e => hr e.symm)).trans h
/-- A cell appended to a row of cells of our own. -/
theorem wl_cell {w : World} {ops : Array Oper} {rest : List Oper} {o : Oper} {a : Act} {Q : Exit → Act → World → Prop} (hgd : o.guard = none) (t x : Operand)
    (ho : o.op = .call { callee := .builtin .append, args := #[t, x], argTypes := #[77, 77] }) (base n : Nat) (v : Value) (cs : List F.FC) (c : F.FC) (g : Nat) (hs : a.eval t = v) (hx : a.eval x = .slice (some ⟨g, 0, none⟩) 1 1)
    (h0 : w.cell? ⟨g, 0, none⟩ = some (.int .i64 c.n)) (h1 : w.cell? ⟨g, 1, none⟩ = some (.float .f64 c.f)) (h2 : w.cell? ⟨g, 2, none⟩ = some (.string c.s))
    (hown : w.ownsRow base 76 3 v n (F.flat cs)) (hb : n + 1 ≤ 4398046511104) (hbase : base ≤ w.heap.size)
    (h : ∀ v' w', Hid (w'.ownsRow base 76 3 v' (n + 1) (F.flat (cs ++ [c])) ∧ w.grownBy w' v.ownBlock ∧ (v'.ownBlock = v.ownBlock ∨ v'.ownBlock = some w.heap.size)) → wpList Tryd.prog ops Q rest (a.put o.dst v') w') : wpList Tryd.prog ops Q (o :: rest) a w := by
  refine wpList_plain hgd fun K hK => ?_
  obtain ⟨i0, hi0, hz0, hz1, hz2⟩ := info_parts' F.cell_info
  obtain ⟨v', w', hr, hh2, hh3, _, hh5⟩ := run_append_own_at (P := Tryd.prog) w base 77 o.type 76 i0 _ 3 32 Tryd.underlying77 hi0 hz0 hz1 hz2 rfl (by omega) v n (F.flat cs) hown ⟨g, 0, none⟩ 1 1 [.int .i64 c.n, .float .f64 c.f, .string c.s] rfl
    (by
      intro j u hj
      match j with
      | 0 => simp at hj; rw [← hj]; exact h0
      | 1 => simp at hj; rw [← hj]; simpa [Addr.add] using h1
      | 2 => simp at hj; rw [← hj]; simpa [Addr.add] using h2
      | j + 3 => simp at hj)
    (by intro u hu; simp at hu; rcases hu with rfl | rfl | rfl <;> rfl) (by simp only [maxLen]; omega) (by omega) hbase
  unfold Oper.wp execOp
  simp only [ho, resolve, invoke, builtin, Sem.run_bind, Sem.run_pure, Result.andThen_ok, List.map_toArray, List.map_cons, List.map_nil, hs, hx, hr]
  exact hK _ _ (h v' w' ⟨by rw [F.flat_snoc]; exact hh2, hh3, hh5⟩)
theorem flat_at (cs : List F.FC) (k : Nat) (x : F.FC) (h : cs[k]? = some x) : (F.flat cs)[k * 3]? = some (.int .i64 x.n) ∧ (F.flat cs)[k * 3 + 1]? = some (.float .f64 x.f) ∧ (F.flat cs)[k * 3 + 2]? = some (.string x.s) := by
  induction cs generalizing k with
  | nil => simp at h
  | cons y cs ih =>
    match k with
    | 0 =>
      have e : y = x := by simpa using h
      subst e
      exact ⟨rfl, rfl, rfl⟩
    | k + 1 =>
      have h' := ih k (by simpa using h)
      have e : F.flat (y :: cs) = [.int .i64 y.n, .float .f64 y.f, .string y.s] ++ F.flat cs := rfl
      rw [e]
      refine ⟨?_, ?_, ?_⟩
      · rw [List.getElem?_append_right (by simp; omega)]
        have : (k + 1) * 3 - [Value.int .i64 y.n, .float .f64 y.f, .string y.s].length = k * 3 := by simp; omega
        rw [this]; exact h'.1
      · rw [List.getElem?_append_right (by simp; omega)]
        have : (k + 1) * 3 + 1 - [Value.int .i64 y.n, .float .f64 y.f, .string y.s].length = k * 3 + 1 := by simp; omega
        rw [this]; exact h'.2.1
      · rw [List.getElem?_append_right (by simp; omega)]
        have : (k + 1) * 3 + 2 - [Value.int .i64 y.n, .float .f64 y.f, .string y.s].length = k * 3 + 2 := by simp; omega
        rw [this]; exact h'.2.2
/-- A row of cells of our own, as the contracts of package fields take it. -/
theorem own_cells {w : World} {base : Nat} {v : Value} {n : Nat} {cs : List F.FC} (h : w.ownsRow base 76 3 v n (F.flat cs)) (hn : 0 < n) : ∃ g c, v = .slice (some ⟨g, 0, none⟩) n c ∧ cs.length = n ∧ n ≤ c ∧ c ≤ 9223372036854775807 ∧ base ≤ g ∧ g < w.heap.size ∧ F.Cs w w.heap.size (some ⟨g, 0, none⟩) cs := by
  have hl : cs.length = n := by
    have := h.1
    rw [F.flat_length] at this
    omega
  rcases h.2 with ⟨_, h0⟩ | ⟨g, cap, cur, rfl, hb, hg, hnc, hcm, _⟩
  · omega
  · have hgl : g < w.heap.size := by
      rcases Nat.lt_or_ge g w.heap.size with hlt | hge
      · exact hlt
      · rw [Array.getElem?_eq_none hge] at hg; cases hg
    refine ⟨g, cap, rfl, hl, hnc, hcm, hb, hgl, .inr ⟨g, 0, rfl, hgl, fun k x hk => ?_⟩⟩
    obtain ⟨a1, a2, a3⟩ := flat_at cs k x hk
    have hc := h.cells (g := g) rfl
    have e : ∀ j, (⟨g, 0, none⟩ : Addr).add j = ⟨g, j, none⟩ := fun j => by simp [Addr.add]; omega
    have b1 := hc _ _ a1
    have b2 := hc _ _ a2
    have b3 := hc _ _ a3
    rw [e] at b1 b2 b3
    simp only [Nat.zero_add]
    exact ⟨b1, b2, b3⟩
/-- The first cell's number set. -/
theorem own_first {w : World} {base g n c : Nat} {y : F.FC} {cs : List F.FC} (z : Int) (h : w.ownsRow base 76 3 (.slice (some ⟨g, 0, none⟩) n c) n (F.flat (y :: cs))) :
    (w.setCell ⟨g, 0, none⟩ (.int .i64 z)).ownsRow base 76 3 (.slice (some ⟨g, 0, none⟩) n c) n (F.flat ({ y with n := z } :: cs)) := by
  refine ⟨by have := h.1; rw [F.flat_length] at this ⊢; exact this, ?_⟩
  rcases h.2 with ⟨e, _⟩ | ⟨g', cap, cur, e, hb, hg, hnc, hcm, hsz, hx⟩
  · cases e
  · injection e with e1 _ e3
    injection e1 with e1
    injection e1 with e1 _ _
    subst e1 e3
    refine .inr ⟨g, c, cur.set! 0 (.int .i64 z), rfl, hb, ?_, hnc, hcm, by simpa using hsz, ?_⟩
    · simp only [World.setCell, Array.getElem?_modify, hg]
      simp
    · have hn : (F.flat (y :: cs)).length = n * 3 := by rw [h.1]
      have e : F.flat (y :: cs) = .int .i64 y.n :: .float .f64 y.f :: .string y.s :: F.flat cs := rfl
      have e2 : F.flat ({ y with n := z } :: cs) = .int .i64 z :: .float .f64 y.f :: .string y.s :: F.flat cs := rfl
      rw [e2]
      rw [e] at hx
      have h3 : (cur.set! 0 (Value.int .i64 z)).toList = cur.toList.set 0 (.int .i64 z) := by simp
      rw [h3, List.take_set, hx]
      rfl
theorem own_base {w : World} {base b2 : Nat} {e : TypeId} {size : Nat} {v : Value} {n : Nat} {cs : List Value} (h : w.ownsRow base e size v n cs) (hb : b2 ≤ base) : w.ownsRow b2 e size v n cs := by
  refine ⟨h.1, ?_⟩
  rcases h.2 with h0 | ⟨g, cap, cur, h1, hbg, h2⟩
  · exact .inl h0
  · exact .inr ⟨g, cap, cur, h1, Nat.le_trans hb hbg, h2⟩
theorem own_frozen {w : World} {base g n c : Nat} {e : TypeId} {size : Nat} {xs : List Value} (h : w.ownsRow base e size (.slice (some ⟨g, 0, none⟩) n c) n xs) (k : Nat) : w.frozen? ⟨g, k, none⟩ = false := by
  rcases h.2 with ⟨e, _⟩ | ⟨g', cap, cur, e, _, hg, _⟩
  · cases e
  · injection e with e1 _ _
    injection e1 with e1
    injection e1 with e1 _ _
    subst e1
    simp [World.frozen?, hg]
theorem cellF_ok (f : Fr) (w : World) (B : Nat) (h : f.ok w B) (x : Nat) : (cellF f x).ok := by
  have hb : (f.bs.length : Int) ≤ 9223372036854775807 := by have := h.cap; have := h.max; omega
  have z : F.FC.ok {} := ⟨by decide, by decide, by decide, by show (0 : Nat) ≤ _; exact Nat.zero_le _⟩
  unfold cellF
  split
  · exact ⟨z.1, z.2.1, z.2.2.1, h.who⟩
  split
  · exact ⟨z.1, z.2.1, z.2.2.1, h.name⟩
  split
  · exact ⟨z.1, z.2.1, h.weight, z.2.2.2⟩
  split
  · exact ⟨z.1, z.2.1, z.2.2.1, by show f.bs.toArray.size ≤ maxLen; have e : maxLen = 9223372036854775807 := rfl; rw [e]; simp; omega⟩
  · have he : i64ok (ext f x) := by
      unfold ext
      split
      · exact h.seq
      split
      · exact h.got
      split
      · exact h.stream
      split
      · exact h.amount
      split
      · exact h.code
      · exact ⟨by omega, hb⟩
    exact ⟨he.1, he.2, z.2.2.1, z.2.2.2⟩
theorem cellsP_ok (f : Fr) (w : World) (B : Nat) (h : f.ok w B) (t : Int) (h0 : 0 ≤ t) (h1 : t ≤ 65535) : ∀ x ∈ cellsP f t, x.ok := by
  intro x hx
  have z : F.FC.ok {} := ⟨by decide, by decide, by decide, by show (0 : Nat) ≤ _; exact Nat.zero_le _⟩
  unfold cellsP at hx
  rcases List.mem_append.1 hx with hx | hx
  · simp at hx
    rcases hx with rfl | rfl
    · exact ⟨by show _ ≤ t; omega, by show t ≤ _; omega, z.2.2.1, z.2.2.2⟩
    · exact ⟨h.kind.1, h.kind.2, z.2.2.1, z.2.2.2⟩
  · obtain ⟨y, _, rfl⟩ := List.mem_map.1 hx
    exact cellF_ok f w B h y
theorem cellsP_length (f : Fr) (t : Int) : (cellsP f t).length = 2 + (used f.kind).length := by
  unfold cellsP
  rw [List.length_append, List.length_map]
  rfl
theorem layS_length (k : Int) : (layS k).length = 2 + (used k).length := by
  unfold layS layL
  rw [List.length_append, List.length_map]
  rfl
theorem encode_len (E : Nat → Value) (s : ByteArray) (n cap : Nat) (A : Option Addr) (cs : List F.FC) (w : World) (hE : F.Errz w E) (h5 : 20 ≤ w.heap.size) (hs : s.size = n) (hn : cs.length = n) (hb : n ≤ 4398046511104)
    (hcs : F.Cs w w.heap.size A cs) (hok : ∀ x ∈ cs, x.ok) (total : Nat) (hk : F.kn s.data.toList = true) (h : F.sumS s.data.toList cs = .ok total) (ht : total ≤ 100000000000000) :
    Calls Tryd.prog 40 #[.string s, .slice A n cap] w fun e w' => ∃ A' c', e = .returned (.tuple #[.slice A' total c', .nilIface]) ∧ Hid (w'.ownsRow w.heap.size 5 1 (.slice A' total c') total ((F.encB s.data.toList cs).map bv) ∧ Below w.heap.size w w') := by
  subst hs
  have hm : s.size ≤ maxLen := by have e : maxLen = 9223372036854775807 := rfl; rw [e]; omega
  refine (F.encode_ok E s cap A cs w hE h5 hm hn hcs hok hb total hk h ht).mono fun e w' ⟨v, he, hv⟩ => ?_
  have hl := F.encB_length h
  have h1 := hv.out.1
  rw [hl] at h1
  obtain ⟨A', c', rfl, _⟩ := own_slice h1
  exact ⟨A', c', he, Lib.hid ⟨h1, hv.out.2⟩⟩
end Go.Proofs.YtmhfhdbaeijcfaaDoor
namespace Go.Proofs.YtmhfhdbaeijcfaaDoor
open Go.RowKit
open Go.Proofs.YtmhfhdbaeijcfaaDoor.H

set_option maxRecDepth 100000 in
set_option maxHeartbeats 2000000 in
theorem put_bad (f : Fr) (v : Value) (E : Nat → Value) (te : TypeId) (pe : Value) (w : World) (hv : Hid (v = f.v)) (hE : Env w E te pe) (hf : f.ok w w.heap.size) (hb : valid f = false) :
    Calls Tryd.prog 13 #[v] w fun e w' => e = .returned (.tuple #[.slice none 0 0, .iface te pe]) ∧ Hid (Below w.heap.size w w') := by
  have HF := Lib.hid hf
  have HE := Lib.hid hE
  have h20 := hE.size
  have HBD := Lib.hid hb
  clear hf hE hb
  obtain ⟨n, HN⟩ : ∃ n, Hid (f.bs.length = n) := ⟨_, rfl⟩
  have HV : Hid (v = .agg (f.cells n).toArray) := Lib.hid (by rw [hv.out, ← HN.out]; rfl)
  clear hv
  go_enter Tryd.func13, Tryd.ntmps13
  go_wp2_with (first
    | (refine wl_box rfl 25 (.tmp 0) rfl (f.cells n) HV.out ?_
       intro w1 HA1 HB1 HZ1
       have hz1 : w.heap.size < w1.heap.size := by rw [HZ1.out]; omega)
    | (refine wl_load rfl 25 (.tmp 1) rfl w.heap.size rfl 25 _ _ HA1.out under25.choose_spec rfl size25 ?_
       intro vp HVP))
  have HVP2 : Hid (vp = f.v) := Lib.hid (by rw [HVP.out]; unfold Fr.v; rw [HN.out])
  have HFO := Lib.hid ((HF.out.below HB1.out).more (Nat.le_of_lt hz1))
  have HE1 := Lib.hid (HE.out.below h20 HB1.out)
  with_reducible refine (check_frame f vp (.iface te pe) w1 HVP2 HE1.out.ef HE1.out.size HFO.out).mono ?_
  rintro e w2 ⟨rfl, HV2⟩
  rw [HBD.out, if_neg (by decide)]
  have HB2 := Lib.hid (HB1.out.trans (HV2.out.mono (Nat.le_of_lt hz1)))
  have he2 : w2.cell? ⟨0, 0, none⟩ = some (.iface te pe) := (HE.out.below h20 HB2.out).ef
  go_wp2_with fail
  go_quiet (fail)
  go_wp2_with fail
  go_ret2
  exact ⟨rfl, Lib.hid (below_drewN HB2.out _)⟩

theorem cells_new60 (w : World) (k : Int) : (w.alloc (.cells #[.int .i64 0, .float .f64 0, .string ⟨#[]⟩, .int .i64 k, .float .f64 0, .string ⟨#[]⟩] 76)).ownsRow w.heap.size 76 3 (.slice (some ⟨w.heap.size, 0, none⟩) 2 2) 2 (F.flat [{ n := 0 }, { n := k }]) :=
  ⟨rfl, .inr ⟨w.heap.size, 2, _, rfl, Nat.le_refl _, heap_alloc_last w _, Nat.le_refl _, by decide, rfl, rfl⟩⟩
/-- A number below B, as a predicate: the row's own block is the first one, or a later one. -/
def OwnAt (v : Value) (gb C : Nat) : Prop := ∀ k, v.ownBlock = some k → k = gb ∨ C ≤ k
/-- The cells of a frame as Put gathers them: the first j fields of L. -/
structure Gath (f : Fr) (L : List Nat) (A : Option Addr) (n gb C : Nat) (w w3 W : World) (v : Value) (j : Nat) : Prop where
  own : W.ownsRow gb 76 3 v (2 + j) (F.flat ([{ n := 0 }, { n := f.kind }] ++ (L.take j).map (cellF f)))
  at_ : OwnAt v gb C
  low : C ≤ W.heap.size
  rd : Rd W C A (L.map nv)
  fr : Row W w.heap.size 25 (f.cells n)
  below : Below gb w3 W
theorem rd_apart {w w' : World} {C gb : Nat} {A : Option Addr} {xs : List Value} {r : Option Nat} (h : Rd w C A xs) (hlo : ∀ ad, A = some ad → gb < ad.block) (hC : C ≤ w.heap.size) (hg : w.grownBy w' r) (hr : ∀ k, r = some k → k = gb ∨ C ≤ k) : Rd w' C A xs := by
  rcases h with h | ⟨ad, h1, h2, h3⟩
  · exact .inl h
  · refine .inr ⟨ad, h1, h2, fun j u hj => ?_⟩
    have hb : (ad.add j).block = ad.block := by unfold Addr.add; split <;> rfl
    have hne : some (ad.add j).block ≠ r := fun e => by
      have h4 := hlo ad h1
      rcases hr _ e.symm with h5 | h5 <;> omega
    rw [World.cell?_of_block (hg.block _ (by rw [hb]; omega) hne)]
    exact h3 j u hj

set_option maxRecDepth 100000 in
set_option maxHeartbeats 4000000 in
theorem put_ok (f : Fr) (v : Value) (E : Nat → Value) (te : TypeId) (pe : Value) (w : World) (hv : Hid (v = f.v)) (hE : Env w E te pe) (hf : f.ok w w.heap.size) (hb : valid f = true) :
    Calls Tryd.prog 13 #[v] w fun e w' => ∃ x, e = .returned (.tuple #[x, .nilIface]) ∧ Hid (w'.ownsRow w.heap.size 5 1 x (total f + 4) ((putB f).map bv) ∧ Below w.heap.size w w') := by
  have HF := Lib.hid hf
  have HE := Lib.hid hE
  have h20 := hE.size
  have HBD := Lib.hid hb
  clear hf hE hb
  obtain ⟨n, HN⟩ : ∃ n, Hid (f.bs.length = n) := ⟨_, rfl⟩
  have HV : Hid (v = .agg (f.cells n).toArray) := Lib.hid (by rw [hv.out, ← HN.out]; rfl)
  clear hv
  go_enter Tryd.func13, Tryd.ntmps13
  go_wp2_with (first
    | (refine wl_box rfl 25 (.tmp 0) rfl (f.cells n) HV.out ?_
       intro w1 HA1 HB1 HZ1
       have hz1 : w.heap.size < w1.heap.size := by rw [HZ1.out]; omega)
    | (refine wl_load rfl 25 (.tmp 1) rfl w.heap.size rfl 25 _ _ HA1.out under25.choose_spec rfl size25 ?_
       intro vp HVP))
  have HVP2 : Hid (vp = f.v) := Lib.hid (by rw [HVP.out]; unfold Fr.v; rw [HN.out])
  have HFO := Lib.hid ((HF.out.below HB1.out).more (Nat.le_of_lt hz1))
  have HE1 := Lib.hid (HE.out.below h20 HB1.out)
  with_reducible refine (check_frame f vp (.iface te pe) w1 HVP2 HE1.out.ef HE1.out.size HFO.out).mono ?_
  rintro e w2 ⟨rfl, HV2⟩
  rw [HBD.out, if_pos rfl]
  have HB2 := Lib.hid (HB1.out.trans (HV2.out.mono (Nat.le_of_lt hz1)))
  have HA2 := Lib.hid (HA1.out.below HV2.out hz1)
  have hz2 : w1.heap.size ≤ w2.heap.size := HV2.out.size
  have c0 : w2.cell? ⟨w.heap.size, 0, none⟩ = some (.int .i64 f.kind) := HA2.out.cell 0
  clear HVP HVP2 HFO HE1 HV2 HA1 HB1 HZ1
  go_wp2_with fail
  with_reducible refine (layout_any f.kind w2).mono ?_
  rintro e w3 ⟨rfl, HV3⟩
  obtain ⟨t, HT⟩ : ∃ t, H.Shut (t = ByteArray.mk (layL f.kind).toArray) := ⟨_, ⟨rfl⟩⟩
  rw [← HT.out]
  have hts : t.size ≤ 9 := by
    rw [HT.out]
    show (layL f.kind).toArray.size ≤ 9
    unfold layL
    simp
    exact used_len f.kind
  have hnl : ¬ 9223372036854775807 < 2 + t.size := by omega
  have HB3 := Lib.hid (HB2.out.trans (HV3.out.mono (by omega)))
  have HA3 := Lib.hid (HA2.out.below HV3.out (by omega))
  have hz3 : w2.heap.size ≤ w3.heap.size := HV3.out.size
  have c3 : w3.cell? ⟨w.heap.size, 0, none⟩ = some (.int .i64 f.kind) := HA3.out.cell 0
  have c4 : ∀ o : Obj, (w3.alloc o).cell? ⟨w.heap.size, 0, none⟩ = some (.int .i64 f.kind) := fun o => (HA3.out.alloc o).cell 0
  clear HV3 c0 HA2 HB2
  go_wp2_with fail
  obtain ⟨w4, HW4⟩ : ∃ w4, H.Shut (w4 = w3.alloc (.cells #[.int .i64 0, .float .f64 0, .string ⟨#[]⟩, .int .i64 f.kind, .float .f64 0, .string ⟨#[]⟩] 76)) := ⟨_, ⟨rfl⟩⟩
  rw [← HW4.out]
  have HO4 : H.Shut (w4.ownsRow w3.heap.size 76 3 (.slice (some ⟨w3.heap.size, 0, none⟩) 2 2) 2 (F.flat [{ n := 0 }, { n := f.kind }])) := ⟨by rw [HW4.out]; exact cells_new60 w3 f.kind⟩
  have HB34 : Hid (Below w3.heap.size w3 w4) := Lib.hid (by rw [HW4.out]; exact below_alloc _ _)
  have hz4 : w3.heap.size < w4.heap.size := by rw [HW4.out]; simp
  clear c3 c4 HW4
  with_reducible refine (fieldsOf_any f.kind w4).mono ?_
  rintro e w5 ⟨A, rfl, HV5⟩
  obtain ⟨L, HL⟩ : ∃ L, H.Shut (used f.kind = L) := ⟨_, ⟨rfl⟩⟩
  obtain ⟨m, HM⟩ : ∃ m, Hid (L.length = m) := ⟨_, rfl⟩
  have hm9 : m ≤ 9 := by
    have h := used_len f.kind
    rw [HL.out, HM.out] at h
    exact h
  rw [HL.out, HM.out]
  have hz5 : w4.heap.size ≤ w5.heap.size := HV5.out.2.1.size
  have HG5 : H.Shut (Gath f L A n w3.heap.size w5.heap.size w w3 w5 (.slice (some ⟨w3.heap.size, 0, none⟩) 2 2) 0) := ⟨by
    have hb45 := HV5.out.2.1
    refine ⟨?_, ?_, Nat.le_refl _, by rw [← HL.out]; exact HV5.out.1, (HA3.out.below HB34.out (by omega)).below hb45 (by omega), HB34.out.trans (hb45.mono (by omega))⟩
    · exact own_below HO4.out hb45
    · intro k hk
      exact .inl (Option.some.inj hk).symm⟩
  have HAL : H.Shut (∀ ad, A = some ad → w3.heap.size < ad.block) := ⟨fun ad h => by have := HV5.out.2.2 ad h; omega⟩
  have HLX : H.Shut (∀ x ∈ L, x < 9) := ⟨by rw [← HL.out]; exact used_lt f.kind⟩
  clear HV5 HO4 HB34 HA3
  generalize hC : w5.heap.size = C at *
  have hz5' : w3.heap.size < C := by omega
  clear hC
  go_wp2_with fail
  go_loopw [5, 28] (fun v i W => ∃ j : Nat, j ≤ m ∧ i = .int .i64 j ∧ H.Shut (Gath f L A n w3.heap.size C w w3 W v j)) (fun _ i _ => m - (intOf i).toNat)
  case atStart => exact ⟨0, Nat.zero_le _, rfl, HG5⟩
  case round =>
    clear HG5
    obtain ⟨j, hj, rfl, HI⟩ := hrel
    by_cases hlt : j < m
    · have hj2 : j < L.length := by rw [HM.out]; exact hlt
      obtain ⟨ad, rfl, _, hcx⟩ := Rd.cell (k := j) (u := nv L[j]) HI.out.rd (by simp [hj2])
      have hx9 : L[j] < 9 := HLX.out _ (List.getElem_mem hj2)
      have htk : L.take (j + 1) = L.take j ++ [L[j]] := List.take_succ_eq_append_getElem hj2
      generalize L[j] = x at *
      unfold nv at hcx
      have HTK := Lib.hid htk
      clear htk
      have HFR := Lib.hid HI.out.fr
      have hszr : w3.heap.size ≤ wr.heap.size := HI.out.below.size
      have hwr : w.heap.size < wr.heap.size := HFR.out.lt
      have HBW := Lib.hid (HB3.out.trans (HI.out.below.mono HB3.out.size))
      have HFO := Lib.hid ((HF.out.below HBW.out).more HBW.out.size)
      go_wp2_with (first
        | (refine wl_load rfl 25 (.tmp 1) rfl w.heap.size rfl 25 _ _ HFR.out under25.choose_spec rfl size25 ?_
           intro vp2 HVQ))
      have HVQ2 : Hid (vp2 = f.v) := Lib.hid (by rw [HVQ.out]; unfold Fr.v; rw [HN.out])
      with_reducible refine (cellOf_any f vp2 x wr HVQ2 HFO.out hx9).mono ?_
      rintro e w6 ⟨rfl, HV6⟩
      obtain ⟨q, HQ⟩ : ∃ q, H.Shut (cellF f x = q) := ⟨_, ⟨rfl⟩⟩
      rw [HQ.out]
      obtain ⟨qn, qf, qs⟩ := q
      have hz6 : wr.heap.size ≤ w6.heap.size := HV6.out.size
      have HO6 := Lib.hid (own_below HI.out.own HV6.out)
      unfold F.FC.v
      dsimp only
      go_wp2_with (first
        | (refine wl_cell rfl (.tmp 32) (.tmp 36) rfl w3.heap.size (2 + j) u5 _ ⟨qn, qf, qs⟩ w6.heap.size rfl rfl (by simp) (by simp) (by simp) (HO6.out.alloc _) (by omega) (by simp; omega) ?_
           intro v7 w7 HA7))
      refine ⟨⟨j + 1, by omega, by go_num, ⟨?_⟩⟩, by simp [intOf]; omega⟩
      have hb6 := below_alloc w6 (.cells #[.int .i64 qn, .float .f64 qf, .string qs] 76)
      have hlow := HI.out.low
      have hbr : Below wr.heap.size wr (w6.alloc (.cells #[.int .i64 qn, .float .f64 qf, .string qs] 76)) := HV6.out.trans (hb6.mono hz6)
      have hown6 := HO6.out.alloc (.cells #[.int .i64 qn, .float .f64 qf, .string qs] 76)
      have hlt6 := hown6.lt
      refine ⟨?_, ?_, ?_, ?_, ?_, ?_⟩
      · rw [HTK.out, List.map_append, ← List.append_assoc, show 2 + (j + 1) = 2 + j + 1 by omega]
        have h1 := HA7.out.1
        rw [← HQ.out] at h1
        exact h1
      · intro k hk
        rcases HA7.out.2.2 with h | h
        · exact HI.out.at_ k (by rw [← h]; exact hk)
        · rw [h] at hk
          have := Option.some.inj hk
          right
          simp at this
          omega
      · have := HA7.out.2.1.size
        have := hbr.size
        omega
      · exact rd_apart ((HI.out.rd.below (hbr.mono hlow))) HAL.out (Nat.le_trans hlow hbr.size) HA7.out.2.1 HI.out.at_
      · refine grown_row' (HI.out.fr.below hbr hwr) HA7.out.2.1 (fun e => ?_)
        have := (hlt6 _ e).1
        omega
      · exact ((HI.out.below.trans (hbr.mono hszr))).grown HA7.out.2.1 (Nat.le_trans hszr hbr.size) (fun k hk => (hlt6 k hk).1)
    · have hjm : j = m := by omega
      subst hjm
      have HO : H.Shut (wr.ownsRow w3.heap.size 76 3 u5 (2 + j) (F.flat (cellsP f 0))) := ⟨by
        have h := HI.out.own
        rw [List.take_of_length_le (by rw [HM.out]; exact Nat.le_refl _), ← HL.out] at h
        exact h⟩
      obtain ⟨g, c, rfl, hcl, hc1, hc2, hg1, hg2, hcs⟩ := own_cells HO.out (by omega)
      have HCS := Lib.hid hcs
      have HCL := Lib.hid hcl
      obtain ⟨s, HS⟩ : ∃ s, H.Shut (ByteArray.mk #[104, 98] ++ t = s) := ⟨_, ⟨rfl⟩⟩
      have HSD : H.Shut (s.data.toList = layS f.kind) := ⟨by rw [← HS.out, HT.out, bytes_cat [104, 98] (layL f.kind)]; rfl⟩
      have HSS : Hid (s.size = 2 + j) := Lib.hid (by
        have h1 : s.size = s.data.toList.length := by simp
        rw [h1, HSD.out, layS_length, HL.out, HM.out])
      rw [HS.out]
      have hszr : w3.heap.size ≤ wr.heap.size := HI.out.below.size
      have HBW := Lib.hid (HB3.out.trans (HI.out.below.mono HB3.out.size))
      have HER := Lib.hid (HE.out.below h20 HBW.out)
      have HFO := Lib.hid ((HF.out.below HBW.out).more HBW.out.size)
      have hT2 := total_le f HBD.out
      obtain ⟨T, HTT⟩ : ∃ T, H.Shut (total f = T) := ⟨_, ⟨rfl⟩⟩
      have hT3 : 3 ≤ T ∧ T ≤ 4629 := by rw [← HTT.out]; exact hT2
      have HSZ : Hid (F.sizesS s.data.toList (cellsP f 0) = .ok T) := Lib.hid (by
        unfold F.sizesS
        rw [HSD.out, if_pos ⟨kn_layS _, by rw [cellsP_length, layS_length]⟩, ← HTT.out]
        exact sumS_frame f 0 HBD.out (by omega) (by omega))
      have HMX : Hid (s.size ≤ maxLen) := Lib.hid (by have e : maxLen = 9223372036854775807 := rfl; rw [e, HSS.out]; omega)
      have HCK := Lib.hid (cellsP_ok f _ _ HFO.out 0 (by omega) (by omega))
      clear hcs hcl HI HAL HLX hT2 HS hnl hts
      go_wp2_with fail
      with_reducible refine (F.size_any E s (2 + j) c (some ⟨g, 0, none⟩) (cellsP f 0) wr HER.out.errs HER.out.size HMX.out HCL.out HCS.out HCK.out (by omega)).mono ?_
      rintro e w6 ⟨rfl, hb6⟩
      rw [HSZ.out]
      dsimp only [F.spanV]
      have hz6 : wr.heap.size ≤ w6.heap.size := hb6.size
      have HO6 : H.Shut (w6.ownsRow w3.heap.size 76 3 (.slice (some ⟨g, 0, none⟩) (2 + j) c) (2 + j) (F.flat (cellsP f 0))) := ⟨own_below HO.out hb6⟩
      have HB6 := Lib.hid (HBW.out.trans (hb6.mono HBW.out.size))
      have fz : w6.frozen? ⟨g, 0, none⟩ = false := own_frozen HO6.out 0
      obtain ⟨y, cy⟩ : ∃ y, w6.cell? ⟨g, 0, none⟩ = some y := by
        obtain ⟨g', c', e', _, _, _, _, _, hcs'⟩ := own_cells HO6.out (by omega)
        injection e' with e1 _ _
        injection e1 with e1
        injection e1 with e1 _ _
        subst e1
        obtain ⟨b, o, hb1, _, hb2, _⟩ := F.Cs.at_ (k := 0) hcs' (by rw [cellsP_length]; omega)
        injection hb1 with hb1
        injection hb1 with hb1 hb3 _
        subst hb1 hb3
        exact ⟨_, by simpa using hb2⟩
      have hwT : IntKind.i64.wrap ((T : Int) - 2) = (T : Int) - 2 := by rw [IntKind.wrap_i64]; omega
      clear HO hb6 HSZ HCS HCK
      go_wp2_with fail
      have HO7 : H.Shut ((w6.setCell ⟨g, 0, none⟩ (.int .i64 ((T : Int) - 2))).ownsRow w3.heap.size 76 3 (.slice (some ⟨g, 0, none⟩) (2 + j) c) (2 + j) (F.flat (cellsP f ((T : Int) - 2)))) := ⟨own_first ((T : Int) - 2) HO6.out⟩
      have HB7 := Lib.hid (HB6.out.setCell (p := ⟨g, 0, none⟩) (show w.heap.size ≤ g by have := HB3.out.size; omega) (.int .i64 ((T : Int) - 2)))
      generalize w6.setCell ⟨g, 0, none⟩ (.int .i64 ((T : Int) - 2)) = w7 at *
      clear fz cy HO6 HB6
      have HC7 : Hid (F.Cs w7 w7.heap.size (some ⟨g, 0, none⟩) (cellsP f ((T : Int) - 2))) := Lib.hid (by
        obtain ⟨g', c', e', _, _, _, _, _, hcs'⟩ := own_cells HO7.out (by omega)
        injection e' with e1 _ _
        rw [e1]
        exact hcs')
      have HE7 := Lib.hid (HE.out.below h20 HB7.out)
      have HCL7 : Hid ((cellsP f ((T : Int) - 2)).length = 2 + j) := Lib.hid (by rw [cellsP_length, HL.out, HM.out])
      have HCK7 := Lib.hid (cellsP_ok f _ _ HFO.out ((T : Int) - 2) (by omega) (by omega))
      have HSM7 : Hid (F.sumS s.data.toList (cellsP f ((T : Int) - 2)) = .ok T) := Lib.hid (by
        rw [HSD.out, ← HTT.out]
        exact sumS_frame f _ HBD.out (by rw [HTT.out]; omega) (by rw [HTT.out]; omega))
      have HKN : Hid (F.kn s.data.toList = true) := Lib.hid (by rw [HSD.out]; exact kn_layS _)
      with_reducible refine (encode_len E s (2 + j) c (some ⟨g, 0, none⟩) (cellsP f ((T : Int) - 2)) w7 HE7.out.errs HE7.out.size HSS.out HCL7.out (by omega) HC7.out HCK7.out T HKN.out HSM7.out (by omega)).mono ?_
      rintro e w8 ⟨A8, c8, rfl, HV8⟩
      have HCV : H.Shut (F.encB s.data.toList (cellsP f ((T : Int) - 2)) = cov f) := ⟨by unfold cov; rw [HSD.out, HTT.out]⟩
      have HO8 : H.Shut (w8.ownsRow w.heap.size 5 1 (.slice A8 T c8) T ((cov f).map bv)) := ⟨by rw [← HCV.out]; exact own_base HV8.out.1 HB7.out.size⟩
      have HB8 := Lib.hid (HB7.out.trans (HV8.out.2.mono HB7.out.size))
      have HE8 := Lib.hid (HE.out.below h20 HB8.out)
      have HCLN : Hid ((cov f).length = T) := Lib.hid (by rw [cov_length f HBD.out, HTT.out])
      clear HV8 HC7 HO7
      go_wp2_with fail
      with_reducible refine (sealed_own w.heap.size T c8 A8 (cov f) w8 HE8.out.kt HCLN.out (by omega) HB8.out.size HO8.out).mono ?_
      rintro e w9 ⟨v9, rfl, HV9⟩
      go_wp2_with fail
      go_ret2
      refine ⟨v9, rfl, Lib.hid ⟨?_, HB8.out.trans HV9.out.2⟩⟩
      rw [HTT.out]
      exact HV9.out.1
end Go.Proofs.YtmhfhdbaeijcfaaDoor
namespace Go.Proofs.YtmhfhdbaeijcfaaDoor
open Go.ChangeShapes Go.WideShapes Go.ChangeAt Go.WideMaps Go.WideElems Go.RowKit

theorem compErr : (Tryd.prog.info? 159).map (·.comparable) = some true := by kernel_rfl
theorem sizeErr : (Tryd.prog.info? 175).map (·.size) = some 1 := by kernel_rfl
/-- An error against itself. -/
theorem err_same (a : Addr) (W : World) : (binOp .eql 28 (.iface 159 (.pointer (some a))) (.iface 159 (.pointer (some a)))).run Tryd.prog W = .ok (.bool true) W := by
  obtain ⟨i, hi, hcmp⟩ := Option.map_eq_some_iff.1 compErr
  obtain ⟨j, hj, _⟩ := Option.map_eq_some_iff.1 sizeErr
  exact run_eql_iface_ptr_same W a Tryd.underlying28 Tryd.underlying159 hi hcmp hj
/-- Two errors that are not one. -/
theorem err_other {W : World} {a b : Addr} {ca cb : Array Value} {ta tb : TypeId} (hne : a ≠ b) (ha : W.heap[a.block]? = some (.cells ca ta (0, 0))) (hb : W.heap[b.block]? = some (.cells cb tb (0, 0))) :
    (binOp .eql 28 (.iface 159 (.pointer (some a))) (.iface 159 (.pointer (some b)))).run Tryd.prog W = .ok (.bool false) W := by
  obtain ⟨i, hi, hcmp⟩ := Option.map_eq_some_iff.1 compErr
  obtain ⟨j, hj, hsz⟩ := Option.map_eq_some_iff.1 sizeErr
  exact run_eql_iface_ptr_other W Tryd.underlying28 Tryd.underlying159 hi hcmp hj (by omega) hne ha hb

theorem own : ownKnob Tryd.prog.godebug = none := by kernel_rfl
theorem cellsErr : Tryd.prog.cellsOf 175 = 1 := by kernel_rfl
theorem cellsStr : Tryd.prog.cellsOf 9 = 1 := by kernel_rfl
theorem rowErr : ∀ u, Tryd.prog.typeName? 3 u = some "*errors.errorString" → u = 159 := fun u hu =>
  typeName_ptr_named (nm := "errors.errorString") (tp := 159) (by kernel_rfl) (by kernel_rfl) (by decide) u hu

def isSent (d : DataW Unit) : Prop := ∃ text, d = .iface "*errors.errorString" (.ptr (.agg [.lit (.string text)]))

set_option maxRecDepth 100000 in
theorem sent_list {W : World} : ∀ (l : List (String × DataW Unit)) (ps : List MemPlace), DataW.LaidVars Tryd.prog W l ps → ps.Nodup →
    (∀ b off, MemPlace.cell b off ∈ ps → (∃ c t, W.heap[b]? = some (.cells c t (0, 0))) ∧ ∀ u v, W.cell? ⟨b, off, none⟩ = some (.iface u v) → Value.okWide Tryd.prog W .any 0 u v) →
    (∀ x ∈ l, isSent x.2) → (∀ x ∈ l, ∀ g, Tryd.prog.globalNamed x.1 = some g → (Tryd.prog.globals[g]?).map (·.type) = some 28) →
    ∃ ads : List Addr, ads.length = l.length ∧ ads.Nodup ∧ (∀ a ∈ ads, MemPlace.cell a.block a.off ∈ ps) ∧
      ∀ (i : Nat) (x : String × DataW Unit) (a : Addr), l[i]? = some x → ads[i]? = some a → ∃ g, Tryd.prog.globalNamed x.1 = some g ∧ W.cell? ⟨g, 0, none⟩ = some (.iface 159 (.pointer (some a))) ∧ ∃ c t, W.heap[a.block]? = some (.cells c t (0, 0)) := by
  intro l
  induction l with
  | nil => intro ps _ _ _ _ _; exact ⟨[], rfl, List.nodup_nil, by simp, by simp⟩
  | cons x l ih =>
    intro ps hv hnd hrows hs ht
    obtain ⟨n, d⟩ := x
    obtain ⟨g, t, cs, fuel, p, q, hg, htt, hvar, hd, hq, rfl⟩ := hv
    obtain rfl : t = 28 := by
      have := ht (n, d) (by simp) g hg
      rw [htt] at this
      exact Option.some.inj this
    obtain ⟨text, rfl⟩ := hs (n, d) (by simp)
    obtain ⟨l0⟩ := cs
    have ok0 : ∀ u v, l0 = [.iface u v] → Value.okWide Tryd.prog W .any 0 u v := fun u v e => by
      subst e
      exact (hrows g 0 (by simp [MemPlace.row])).2 u v (by simpa using World.var?_cell hg hvar 0)
    obtain ⟨a0, s0, rfl, hc0, hs0, hz0, rfl⟩ := errorString_of_trod Tryd.underlying28 rowErr Tryd.underlying159 Tryd.underlying175 rfl rfl Tryd.underlying9 cellsErr cellsStr hd ok0
    rw [List.nodup_append] at hnd
    obtain ⟨hn1, hn2, hn3⟩ := hnd
    obtain ⟨ads, hl, hnda, hin, hall⟩ := ih q hq hn2 (fun b off hm => hrows b off (List.mem_append_right _ hm)) (fun x hx => hs x (List.mem_cons_of_mem _ hx)) (fun x hx => ht x (List.mem_cons_of_mem _ hx))
    have hspot : a0.spot = none := by
      unfold World.cell? at hc0
      cases hsp : a0.spot with
      | none => rfl
      | some k => rw [hsp] at hc0; revert hc0; split <;> simp
    have hmem : MemPlace.cell a0.block a0.off ∈ MemPlace.row a0 1 := by simp [MemPlace.row]
    refine ⟨a0 :: ads, by simp [hl], ?_, ?_, ?_⟩
    · rw [List.nodup_cons]
      exact ⟨fun hm => hn3 _ (List.mem_append_right _ hmem) _ (hin a0 hm) rfl, hnda⟩
    · intro a ha
      rcases List.mem_cons.1 ha with rfl | ha
      · exact List.mem_append_left _ (List.mem_append_right _ hmem)
      · exact List.mem_append_right _ (hin a ha)
    · intro i x a hx ha
      match i with
      | 0 =>
        simp only [List.getElem?_cons_zero, Option.some.injEq] at hx ha
        subst hx ha
        exact ⟨g, hg, by simpa using World.var?_cell hg hvar 0, (hrows _ _ (List.mem_append_left _ (List.mem_append_right _ hmem))).1⟩
      | i + 1 => exact hall i x a (by simpa using hx) (by simpa using ha)

/-- 'the variables with the numbers idx hold errors, each one of its own'. -/
structure Sents (W : World) (E : Nat → Value) (idx : List Nat) : Prop where
  at_ : ∀ g ∈ idx, ∃ a c t, E g = .iface 159 (.pointer (some a)) ∧ W.cell? ⟨g, 0, none⟩ = some (E g) ∧ W.heap[a.block]? = some (.cells c t (0, 0))
  ne : ∀ g ∈ idx, ∀ h ∈ idx, g ≠ h → E g ≠ E h

theorem sents_of_laid {W : World} (l : List (String × DataW Unit)) (idx : List Nat) (h : laidMet Tryd.prog l W) (hs : ∀ x ∈ l, isSent x.2) (hidx : l.map (fun x => Tryd.prog.globalNamed x.1) = idx.map some)
    (ht : ∀ g ∈ idx, (Tryd.prog.globals[g]?).map (·.type) = some 28) : ∃ E, Sents W E idx := by
  obtain ⟨ps, hv, hnd, hrows⟩ := h
  have hmem : ∀ x ∈ l, ∀ g, Tryd.prog.globalNamed x.1 = some g → g ∈ idx := by
    intro x hx g hg
    have : some g ∈ idx.map some := by rw [← hidx, List.mem_map]; exact ⟨x, hx, hg⟩
    simpa using this
  obtain ⟨ads, hl, hnda, _, hall⟩ := sent_list l ps hv hnd hrows hs (fun x hx g hg => ht g (hmem x hx g hg))
  have hlen : idx.length = l.length := by have := congrArg List.length hidx; simpa using this.symm
  have key : ∀ g ∈ idx, ∃ x a, l[idx.idxOf g]? = some x ∧ ads[idx.idxOf g]? = some a ∧ Tryd.prog.globalNamed x.1 = some g := by
    intro g hg
    have hi : idx.idxOf g < idx.length := List.idxOf_lt_length_iff.2 hg
    refine ⟨l[idx.idxOf g]'(by omega), ads[idx.idxOf g]'(by omega), List.getElem?_eq_getElem _, List.getElem?_eq_getElem _, ?_⟩
    have h1 : (l.map (fun x => Tryd.prog.globalNamed x.1))[idx.idxOf g]? = (idx.map some)[idx.idxOf g]? := by rw [hidx]
    rw [List.getElem?_map, List.getElem?_map, List.getElem?_eq_getElem (by omega), List.getElem?_eq_getElem hi] at h1
    simp only [Option.map_some, Option.some.injEq] at h1
    rw [h1, List.getElem_idxOf]
  refine ⟨fun g => .iface 159 (.pointer ads[idx.idxOf g]?), ?_, ?_⟩
  · intro g hg
    obtain ⟨x, a, hx, ha, hgx⟩ := key g hg
    obtain ⟨g', hg', hc, c, t, hh⟩ := hall _ x a hx ha
    rw [hgx] at hg'
    obtain rfl := Option.some.inj hg'
    exact ⟨a, c, t, by rw [ha], by rw [ha]; exact hc, hh⟩
  · intro g hg h hh hne he
    obtain ⟨x, a, hx, ha, hgx⟩ := key g hg
    obtain ⟨y, b, hy, hb, hgy⟩ := key h hh
    have e : a = b := by
      simp only [ha, hb] at he
      injection he with _ he
      injection he with he
      exact Option.some.inj he
    subst e
    have hi := (List.getElem?_eq_some_iff.1 ha)
    have hj := (List.getElem?_eq_some_iff.1 hb)
    obtain ⟨hi1, hi2⟩ := hi
    obtain ⟨hj1, hj2⟩ := hj
    have : idx.idxOf g = idx.idxOf h := (List.getElem_inj hnda).1 (hi2.trans hj2.symm)
    rw [this, hy] at hx
    obtain rfl := Option.some.inj hx
    rw [hgy] at hgx
    exact hne (Option.some.inj hgx).symm

/-- An error's own address. -/
def adOf : Value → Addr
  | .iface _ (.pointer (some a)) => a
  | _ => ⟨0, 0, none⟩
theorem Sents.val {W : World} {E : Nat → Value} {idx : List Nat} (h : Sents W E idx) {g : Nat} (hg : g ∈ idx) : E g = .iface 159 (.pointer (some (adOf (E g)))) := by
  obtain ⟨a, _, _, he, _⟩ := h.at_ g hg
  rw [he]; rfl
theorem Sents.cell {W : World} {E : Nat → Value} {idx : List Nat} (h : Sents W E idx) {g : Nat} (hg : g ∈ idx) : W.cell? ⟨g, 0, none⟩ = some (.iface 159 (.pointer (some (adOf (E g))))) := by
  obtain ⟨a, _, _, he, hc, _⟩ := h.at_ g hg
  rw [hc, he]; rfl
theorem Sents.adrow {W : World} {E : Nat → Value} {idx : List Nat} (h : Sents W E idx) {g : Nat} (hg : g ∈ idx) : ∃ c t, W.heap[(adOf (E g)).block]? = some (.cells c t (0, 0)) := by
  obtain ⟨a, c, t, he, _, hr⟩ := h.at_ g hg
  exact ⟨c, t, by rw [he]; exact hr⟩
theorem Sents.adne {W : World} {E : Nat → Value} {idx : List Nat} (h : Sents W E idx) {g k : Nat} (hg : g ∈ idx) (hk : k ∈ idx) (hne : g ≠ k) : adOf (E g) ≠ adOf (E k) := fun e => h.ne g hg k hk hne (by rw [h.val hg, h.val hk, e])
theorem Sents.size {W : World} {E : Nat → Value} {idx : List Nat} (h : Sents W E idx) {g : Nat} (hg : g ∈ idx) : g < W.heap.size := by
  obtain ⟨_, _, _, _, hc, _⟩ := h.at_ g hg
  rcases Nat.lt_or_ge g W.heap.size with hlt | hge
  · exact hlt
  · unfold World.cell? at hc
    rw [Array.getElem?_eq_none (by simpa using hge)] at hc
    cases hc
end Go.Proofs.YtmhfhdbaeijcfaaDoor
namespace Go.Proofs.YtmhfhdbaeijcfaaDoor
open Go.RowKit
open Go.Proofs.YtmhfhdbaeijcfaaDoor.H

/-- FAck with Got 7; FData without Bytes. -/
def fAck : Fr := ⟨6, 0, 7, 0, 0, 0, ⟨#[]⟩, ⟨#[]⟩, 0, none, 0, []⟩
def fData : Fr := ⟨9, 1, 0, 1, 0, 0, ⟨#[]⟩, ⟨#[]⟩, 0, none, 0, []⟩
theorem fAck_ok (w : World) (B : Nat) : fAck.ok w B := ⟨⟨by decide, by decide⟩, ⟨by decide, by decide⟩, ⟨by decide, by decide⟩, ⟨by decide, by decide⟩, ⟨by decide, by decide⟩, ⟨by decide, by decide⟩, Nat.zero_le _, Nat.zero_le _, by decide, Nat.zero_le _, by decide, .inl rfl⟩
theorem fData_ok (w : World) (B : Nat) : fData.ok w B := ⟨⟨by decide, by decide⟩, ⟨by decide, by decide⟩, ⟨by decide, by decide⟩, ⟨by decide, by decide⟩, ⟨by decide, by decide⟩, ⟨by decide, by decide⟩, Nat.zero_le _, Nat.zero_le _, by decide, Nat.zero_le _, by decide, .inl rfl⟩
theorem fAck_valid : valid fAck = true := by kernel_rfl
theorem fData_valid : valid fData = false := by kernel_rfl
theorem fAck_total : total fAck = 11 := by kernel_rfl
theorem fAck_cov : cov fAck = [0, 9, 6, 0, 0, 0, 0, 0, 0, 0, 7] := by kernel_rfl

set_option maxRecDepth 100000 in
set_option maxHeartbeats 2000000 in
theorem alive_any (E : Nat → Value) (a : Addr) (w : World) (hE : Env w E 159 (.pointer (some a))) : Calls Tryd.prog 12 #[] w fun e w' => e = .returned (.bool true) ∧ Hid (Below w.heap.size w w') := by
  have HE := Lib.hid hE
  have h20 := hE.size
  have hes := fun W : World => err_same a W
  clear hE
  go_enter Tryd.func12, Tryd.ntmps12
  go_wp2_with fail
  with_reducible refine (put_ok fAck (.agg #[.int .i64 6, .int .i64 0, .int .i64 7, .int .i64 0, .int .i64 0, .int .i64 0, .string ⟨#[]⟩, .string ⟨#[]⟩, .float .f64 0, .slice none 0 0]) E 159 (.pointer (some a)) w (Lib.hid rfl) HE.out (fAck_ok _ _) fAck_valid).mono ?_
  rintro e w1 ⟨x, rfl, HV1⟩
  have HO1 : Hid (w1.ownsRow w.heap.size 5 1 x 15 ((putB fAck).map bv)) := Lib.hid (by have h := HV1.out.1; rw [fAck_total] at h; exact h)
  have HB1 := Lib.hid HV1.out.2
  have hz1 : w.heap.size ≤ w1.heap.size := HB1.out.size
  have HE1 := Lib.hid (HE.out.below h20 HB1.out)
  clear HV1
  obtain ⟨X, c, rfl, _, hc, hcm, hrx, _⟩ := own_slice HO1.out
  have HRX := Lib.hid hrx
  have hcm' : c ≤ 9223372036854775807 := hcm
  clear hrx hcm
  go_wp2_with fail
  with_reducible refine (put_bad fData (.agg #[.int .i64 9, .int .i64 1, .int .i64 0, .int .i64 1, .int .i64 0, .int .i64 0, .string ⟨#[]⟩, .string ⟨#[]⟩, .float .f64 0, .slice none 0 0]) E 159 (.pointer (some a)) w1 (Lib.hid rfl) HE1.out (fData_ok _ _) fData_valid).mono ?_
  rintro e w2 ⟨rfl, HV2⟩
  have HB2 := Lib.hid (HB1.out.trans (HV2.out.mono hz1))
  have hz2 : w1.heap.size ≤ w2.heap.size := HV2.out.size
  have ce : w2.cell? ⟨0, 0, none⟩ = some (.iface 159 (.pointer (some a))) := (HE1.out.below HE1.out.size HV2.out).ef
  have hst : (convert 23 9 (.slice X 11 c)).run Tryd.prog w2 = .ok (.string ⟨#[0, 9, 6, 0, 0, 0, 0, 0, 0, 0, 7]⟩) w2 := by
    have h1 := (HRX.out.below HV2.out).take 11
    rw [← List.map_take] at h1
    have h2 : (putB fAck).take 11 = [0, 9, 6, 0, 0, 0, 0, 0, 0, 0, 7] := by
      unfold putB
      rw [fAck_cov]
      rfl
    rw [h2] at h1
    exact Rd.toStr h1 11 c rfl
  clear HV2
  go_wp2_with fail
  go_ret
  exact ⟨rfl, HB2⟩
end Go.Proofs.YtmhfhdbaeijcfaaDoor
namespace Go.Proofs.YtmhfhdbaeijcfaaDoor
open Go.RowKit
open Go.Proofs.YtmhfhdbaeijcfaaDoor.H

theorem bytes_eq (a b : List UInt8) : (ByteArray.mk a.toArray = ByteArray.mk b.toArray) ↔ a = b := by
  constructor
  · intro h
    injection h with h
    simpa using congrArg Array.toList h
  · rintro rfl; rfl
set_option maxRecDepth 100000 in
theorem equal_same (n c d : Nat) (A B : Option Addr) (bs : List UInt8) (w : World) (hn : bs.length = n) (hr : Rd w w.heap.size A (bs.map bv)) (hr2 : Rd w w.heap.size B (bs.map bv)) :
    Calls Tryd.prog 49 #[.slice A n c, .slice B n d] w fun e w' => e = .returned (.bool true) ∧ w = w' := by
  have h1 := Rd.toStr hr n c hn
  have h2 := Rd.toStr hr2 n d hn
  generalize ByteArray.mk bs.toArray = s at *
  go_enter Tryd.func49, Tryd.ntmps49
  go_wp2_with fail
  go_ret
  exact ⟨rfl, rfl⟩
set_option maxRecDepth 100000 in
theorem equal_other (n m c d : Nat) (A B : Option Addr) (bs cs : List UInt8) (w : World) (hn : bs.length = n) (hm : cs.length = m) (hr : Rd w w.heap.size A (bs.map bv)) (hr2 : Rd w w.heap.size B (cs.map bv)) (hne : bs ≠ cs) :
    Calls Tryd.prog 49 #[.slice A n c, .slice B m d] w fun e w' => e = .returned (.bool false) ∧ w = w' := by
  have h1 := Rd.toStr hr n c hn
  have h2 := Rd.toStr hr2 m d hm
  go_enter Tryd.func49, Tryd.ntmps49
  go_wp2_with fail
  go_ret
  exact ⟨ret_bool (by simp [hne]), rfl⟩

theorem add_block (ad : Addr) (j : Nat) : (ad.add j).block = ad.block := by unfold Addr.add; split <;> rfl
set_option maxRecDepth 100000 in
/-- Bytes appended to a slice with no room behind: a new row. -/
theorem wl_fresh {w : World} {ops : Array Oper} {rest : List Oper} {o : Oper} {a : Act} {Q : Exit → Act → World → Prop} (hgd : o.guard = none) (t x : Operand)
    (ho : o.op = .call { callee := .builtin .append, args := #[t, x], argTypes := #[23, 23] }) (b : Addr) (n : Nat) (olds : List UInt8) (hs : a.eval t = .slice (some b) n n) (hl : olds.length = n) (holds : ∀ (j : Nat) (u : Value), (olds.map bv)[j]? = some u → w.cell? (b.add j) = some u)
    (ad : Addr) (m c : Nat) (news : List UInt8) (hx : a.eval x = .slice (some ad) m c) (hm : news.length = m) (hnews : ∀ (j : Nat) (u : Value), (news.map bv)[j]? = some u → w.cell? (ad.add j) = some u) (hm0 : 0 < m) (hb : n + m ≤ 1000000)
    (h : ∀ c' w', Hid (n + m ≤ c' ∧ c' ≤ 9223372036854775807 ∧ w'.ownsRow w.heap.size 5 1 (.slice (some ⟨w.heap.size, 0, none⟩) (n + m) c') (n + m) ((olds ++ news).map bv) ∧ Below w.heap.size w w') → wpList Tryd.prog ops Q rest (a.put o.dst (.slice (some ⟨w.heap.size, 0, none⟩) (n + m) c')) w') : wpList Tryd.prog ops Q (o :: rest) a w := by
  refine wpList_plain hgd fun K hK => ?_
  obtain ⟨i0, hi0, hz0, hz1, hz2⟩ := info_parts' u8_info
  have hcap := Go.Room.nextslicecap_le' (need := n + m) (old := n) (by omega)
  have hr := run_append_grow (P := Tryd.prog) w 23 o.type 5 i0 _ Tryd.underlying23 hi0 hz0 b n n (olds.map bv) (by rw [hz1]; simpa using hl) holds ad m c (news.map bv) (by rw [hz1]; simpa using hm) hnews (by omega) (by omega) (by rw [hz2]; omega)
  have hgc : n + m ≤ grownCap w (n + m) n 5 ∧ grownCap w (n + m) n 5 ≤ 9223372036854775807 := ⟨grownCap_ge w _ _ _, grownCap_le_maxLen w _ _ _ (by have e : maxLen = 9223372036854775807 := rfl; rw [e]; omega)⟩
  unfold Oper.wp execOp
  simp only [ho, resolve, invoke, builtin, Sem.run_bind, Sem.run_pure, Result.andThen_ok, List.map_toArray, List.map_cons, List.map_nil, hs, hx, hr]
  refine hK _ _ (h _ _ (Lib.hid ⟨hgc.1, hgc.2, ?_, (Below.refl _ _).drew.alloc (Nat.le_refl _) _⟩))
  refine ⟨by simp [hl, hm], .inr ⟨w.heap.size, _, _, rfl, Nat.le_refl _, heap_alloc_last w.drew _, hgc.1, hgc.2, ?_, ?_⟩⟩
  · rw [Array.size_append, Array.size_append, size_zeroCells]
    simp [hl, hm, Value.cells]
    omega
  · rw [Nat.mul_one]
    simp only [Array.toList_append]
    rw [← List.map_append, List.take_append_of_le_length (by simp [hl, hm]), List.take_of_length_le (by simp [hl, hm])]

set_option maxRecDepth 100000 in
set_option maxHeartbeats 1000000 in
theorem sealed_new (n : Nat) (b : Addr) (bs : List UInt8) (w : World) (hK : Ktab w) (hn : bs.length = n) (hs : n ≤ 900000) (hr : Rd w w.heap.size (some b) (bs.map bv)) (hc : ∀ (j : Nat) (u : Value), (bs.map bv)[j]? = some u → w.cell? (b.add j) = some u) :
    Calls Tryd.prog 41 #[.slice (some b) n n] w fun e w' => ∃ A c, e = .returned (.slice A (n + 4) c) ∧ Hid (Rd w' w'.heap.size A ((bs ++ (digest bs).take 4).map bv) ∧ Below w.heap.size w w') := by
  have h0 := hK.1
  have HK := Lib.hid hK
  have HN := Lib.hid hn
  have HR := Lib.hid hr
  have HC := Lib.hid hc
  clear hK hn hr hc
  go_enter Tryd.func41, Tryd.ntmps41
  go_wp2_with fail
  have HP := Lib.hid (one_part w (some b) n n bs HN.out (Nat.le_refl _) (by omega) HR.out)
  have hb1 := below_alloc w (.cells #[.slice (some b) n n] 23)
  generalize w.alloc (.cells #[.slice (some b) n n] 23) = w1 at *
  have hz1 : w.heap.size ≤ w1.heap.size := hb1.size
  with_reducible refine (check_any 1 1 (some ⟨w.heap.size, 0, none⟩) _ w1 (HK.out.below h0 hb1) rfl (by decide) (by rw [flat_one, HN.out]; omega) HP.out).mono ?_
  rintro e w2 ⟨v2, rfl, HV2⟩
  obtain ⟨D, HD, HLD⟩ := four_facts bs
  have HVD : Hid (v2 = .agg D.toArray) := Lib.hid (by rw [HD.out]; have := HV2.out.1; rwa [flat_one] at this)
  have HB2 := Lib.hid (hb1.trans (HV2.out.2.mono hz1))
  have hz2 : w.heap.size ≤ w2.heap.size := HB2.out.size
  clear HV2 HP hb1
  have hsl := fun w' : World => run_all w' 113 4 under29 w2.heap.size 0
  go_wp2_with (first
    | (refine wl_alloc rfl 113 rfl _ _ info29 ?_
       intro w3 HA3 HB3 HZ3)
    | (refine wl_store rfl 113 (.tmp 3) (.tmp 6) rfl w2.heap.size _ D rfl HVD.out rfl 113 _ HA3.out HLD.out.1 HLD.out.2.1 HLD.out.2.2.2 ?_
       intro w4 HR4 HS4 HZ4
       have hz3 : w2.heap.size < w3.heap.size := by rw [HZ3.out]; omega
       have hz4 : w3.heap.size ≤ w4.heap.size := by rw [HZ4.out]; exact Nat.le_refl _
       have hb24 : Below w2.heap.size w2 w4 := HB3.out.trans (HS4.out.below (Nat.le_refl _) (by omega))
       have HB4 := Lib.hid (HB2.out.trans (hb24.mono hz2))
       have HL4 : Hid (((digest bs).take 4).length = 4) := Lib.hid (by rw [List.length_take, digest_length]; rfl)
       have HC4 : Hid (∀ (j : Nat) (u : Value), (bs.map bv)[j]? = some u → w4.cell? (b.add j) = some u) := Lib.hid (fun j u hj => by
         rcases HR.out with he | ⟨ad, he, hbk, _⟩
         · rw [he] at hj; simp at hj
         · injection he with he
           subst he
           rw [HB4.out.cell (by rw [add_block]; exact hbk)]
           exact HC.out j u hj)
       have HD4 : Hid (∀ (j : Nat) (u : Value), (((digest bs).take 4).map bv)[j]? = some u → w4.cell? ((⟨w2.heap.size, 0, none⟩ : Addr).add j) = some u) := Lib.hid (fun j u hj => by
         rw [← HD.out] at hj
         obtain ⟨ad, he, _, hcc⟩ := (HR4.out.rd w4.heap.size (by omega)).cell hj
         injection he with he
         rw [he]
         exact hcc))
    | (refine wl_fresh rfl (.tmp 7) (.tmp 8) rfl b n bs rfl HN.out HC4.out ⟨w2.heap.size, 0, none⟩ 4 4 ((digest bs).take 4) rfl HL4.out HD4.out (by decide) (by omega) ?_
       intro c5 w5 HA5))
  go_ret
  refine ⟨_, c5, rfl, Lib.hid ⟨?_, HB4.out.trans (HA5.out.2.2.2.mono HB4.out.size)⟩⟩
  obtain ⟨A', c', e', _, _, _, hr', _⟩ := own_slice HA5.out.2.2.1
  injection e' with e1 _ _
  rw [e1]
  exact hr'
end Go.Proofs.YtmhfhdbaeijcfaaDoor

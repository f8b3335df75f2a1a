/- What the listed errors' variables hold when a call begins; how a script of calls reads. -/
import Derived.Test.YtlceemaannndbaaDoorArgs
import Derived.Test.YtlceemaannndbaaDoorAlive
namespace Go.Proofs.YtlceemaannndbaaDoor
open Go.ChangeShapes Go.WideShapes Go.ChangeAt Go.WideMaps Go.WideElems Go.RowKit Go.Deep

def laid3 : List (String × DataW Unit) := [("jackfield/api.ErrRange", Rows.laid_jackfield_api_ErrRange), ("jackfield/api.ErrBroken", Rows.laid_jackfield_api_ErrBroken), ("jackfield/api.ErrState", Rows.laid_jackfield_api_ErrState)]
def idx3 : List Nat := [0, 1, 2]
theorem sents3 {W : World} (h : laidMetH Tryd.prog laid3 W) : ∃ E, Sents W E idx3 := by
  rw [MakeChecks.laidMetH_plain _ _ _ (by kernel_rfl)] at h
  refine sents_of_laid laid3 idx3 h ?_ (by kernel_rfl) ?_
  · intro x hx
    simp only [laid3, List.mem_cons, List.not_mem_nil, or_false] at hx
    rcases hx with rfl | rfl | rfl <;> exact ⟨_, rfl⟩
  · have hall : (idx3.all fun g => (Tryd.prog.globals[g]?).map (·.type) == some 26) = true := by kernel_rfl
    intro g hg
    have := List.all_eq_true.1 hall g hg
    simpa using this
theorem door_met3 (os : Os) (args : Array Value) : laidMetH Tryd.prog laid3 ((World.doorLaid Tryd.prog 400 os).forCall (fun _ _ => 0) ⟨#[], args, []⟩).memory :=
  laidMetH_of_parts3 (fuel := 8) (laidMet_of_run' 8 (by kernel_rfl) (by kernel_rfl)) (by kernel_rfl) (by kernel_rfl)
theorem errs3 {W : World} (h : laidMetH Tryd.prog laid3 W) : ∃ ad, Errs W ad ∧ 3 ≤ W.heap.size := by
  obtain ⟨E, hE⟩ := sents3 h
  have h3 : ∀ k, k < 3 → k ∈ idx3 := by decide
  exact ⟨fun g => adOf (E g), ⟨fun k hk => hE.cell (h3 k hk)⟩, hE.size (g := 2) (by decide)⟩

/-- One call of a script. -/
structure OpV where
  kind : Int
  end_ : Int
  n : Int
  A : Option Addr
  cap : Nat
  bytes : List UInt8
structure OpV.ok (W : World) (B : Nat) (o : OpV) : Prop where
  k1 : -9223372036854775808 ≤ o.kind
  k2 : o.kind ≤ 9223372036854775807
  e1 : -9223372036854775808 ≤ o.end_
  e2 : o.end_ ≤ 9223372036854775807
  n1 : -9223372036854775808 ≤ o.n
  n2 : o.n ≤ 9223372036854775807
  len : o.bytes.length ≤ o.cap
  cap : o.cap ≤ maxLen
  rd : Rd W B o.A (o.bytes.map bv)
/-- 'the slice with base A holds the calls os, in a block below B'. -/
def OpsAt (W : World) (B : Nat) (A : Option Addr) (os : List OpV) : Prop :=
  os = [] ∨ ∃ b off, A = some ⟨b, off, none⟩ ∧ b < B ∧ ∀ (k : Nat) (o : OpV), os[k]? = some o → o.ok W B ∧
    W.cell? ⟨b, off + k * 4, none⟩ = some (.int .i64 o.kind) ∧ W.cell? ⟨b, off + k * 4 + 1, none⟩ = some (.int .i64 o.end_) ∧ W.cell? ⟨b, off + k * 4 + 2, none⟩ = some (.int .i64 o.n) ∧ W.cell? ⟨b, off + k * 4 + 3, none⟩ = some (.slice o.A o.bytes.length o.cap)
section
variable {H : Type} {enc : TypeId × Value → H} {W : World}
theorem cells37 : Tryd.prog.cellsOf 37 = 4 := by kernel_rfl
theorem open_op {base : Nat} {sp : Nat → Bool} {held : Bool} {n : Nat} {a : Addr} {cs : List Value} {x : DataW H × List MemPlace} (hc : W.cells? base a 4 = some cs) (h : DataW.trod enc Tryd.prog W 0 sp held n 37 cs = some x) :
    ∃ o : OpV, o.ok W W.heap.size ∧ W.cell? (a.add 0) = some (.int .i64 o.kind) ∧ W.cell? (a.add 1) = some (.int .i64 o.end_) ∧ W.cell? (a.add 2) = some (.int .i64 o.n) ∧ W.cell? (a.add 3) = some (.slice o.A o.bytes.length o.cap) := by
  obtain ⟨_, hlen, hat⟩ := World.cells?_some hc
  obtain ⟨ys, m, _, _, _, _, hf⟩ := DataW.trod_struct Tryd.underlying37 h
  match cs, hlen with
  | [c0, c1, c2, c3], _ =>
    have k3 : Tryd.prog.cellsOf 3 = 1 := by kernel_rfl
    have k30 : Tryd.prog.cellsOf 30 = 1 := by kernel_rfl
    have h0 : DataW.trod enc Tryd.prog W 0 sp held m 3 (List.take (Tryd.prog.cellsOf 3) [c0, c1, c2, c3]) = ys[0]? := hf 0 _ rfl
    have h1 : DataW.trod enc Tryd.prog W 0 sp held m 3 (List.take (Tryd.prog.cellsOf 3) [c1, c2, c3]) = ys[1]? := hf 1 _ rfl
    have h2 : DataW.trod enc Tryd.prog W 0 sp held m 3 (List.take (Tryd.prog.cellsOf 3) [c2, c3]) = ys[2]? := hf 2 _ rfl
    have h3 : DataW.trod enc Tryd.prog W 0 sp held m 30 (List.take (Tryd.prog.cellsOf 30) [c3]) = ys[3]? := hf 3 _ rfl
    rw [k3] at h0 h1 h2
    rw [k30] at h3
    have hl : ys.length = 4 := by assumption
    obtain ⟨i0, e0, _, w0⟩ := DataW.trod_int Tryd.underlying3 (h0.trans (List.getElem?_eq_getElem (by omega)))
    obtain ⟨i1, e1, _, w1⟩ := DataW.trod_int Tryd.underlying3 (h1.trans (List.getElem?_eq_getElem (by omega)))
    obtain ⟨i2, e2, _, w2⟩ := DataW.trod_int Tryd.underlying3 (h2.trans (List.getElem?_eq_getElem (by omega)))
    obtain ⟨A, n, cap, bs, e3, hn, hcap, hm, hr, _⟩ := open_bytes (h3.trans (List.getElem?_eq_getElem (by omega)))
    have b0 := bounds_i64 w0
    have b1 := bounds_i64 w1
    have b2 := bounds_i64 w2
    subst hn
    refine ⟨⟨i0, i1, i2, A, cap, bs⟩, ⟨by show _ ≤ i0; omega, by show i0 ≤ _; omega, by show _ ≤ i1; omega, by show i1 ≤ _; omega, by show _ ≤ i2; omega, by show i2 ≤ _; omega, hcap, hm, hr⟩, ?_, ?_, ?_, ?_⟩
    · rw [hat 0 (by omega)]; injection e0 with e0; simp [e0]
    · rw [hat 1 (by omega)]; injection e1 with e1; simp [e1]
    · rw [hat 2 (by omega)]; injection e2 with e2; simp [e2]
    · rw [hat 3 (by omega)]; injection e3 with e3; simp [e3]
theorem choose_list {α : Type} {P : Nat → α → Prop} : ∀ n : Nat, (∀ i, i < n → ∃ y, P i y) → ∃ cs : List α, cs.length = n ∧ ∀ i y, cs[i]? = some y → P i y
  | 0, _ => ⟨[], rfl, fun i y h => by simp at h⟩
  | n + 1, h => by
    obtain ⟨cs, hl, hc⟩ := choose_list n (fun i hi => h i (by omega))
    obtain ⟨y, hy⟩ := h n (by omega)
    refine ⟨cs ++ [y], by simp [hl], fun i z hz => ?_⟩
    rcases Nat.lt_or_ge i cs.length with hlt | hge
    · rw [List.getElem?_append_left hlt] at hz
      exact hc i z hz
    · rw [List.getElem?_append_right hge] at hz
      have : i - cs.length = 0 := by
        rcases Nat.eq_zero_or_pos (i - cs.length) with h0 | h0
        · exact h0
        · rw [List.getElem?_eq_none (by simp; omega)] at hz; cases hz
      rw [this] at hz
      simp at hz
      subst hz
      have : i = n := by omega
      subst this
      exact hy
theorem open_ops {fuel : Nat} {vs : List Value} {x : DataW H × List MemPlace} (h : DataW.trod enc Tryd.prog W 0 (fun _ => true) true fuel 22 vs = some x) :
    ∃ (A : Option Addr) (n cap : Nat) (os : List OpV), vs = [.slice A n cap] ∧ os.length = n ∧ n ≤ cap ∧ cap ≤ maxLen ∧ OpsAt W W.heap.size A os := by
  rcases open_slice Tryd.underlying22 h with ⟨rfl, rfl⟩ | ⟨a, len, cap, m, n, D, Pl, rfl, _, hl, hm, hmm, rfl, hi⟩
  · exact ⟨none, 0, 0, [], rfl, rfl, Nat.le_refl _, by decide, .inl rfl⟩
  · have hm' : len ≤ m := by rw [hmm]; split <;> omega
    rw [cells37] at hi
    obtain ⟨cs, hcl, hcs⟩ := choose_list (P := fun i (o : OpV) => o.ok W W.heap.size ∧ W.cell? ((a.add (i * 4)).add 0) = some (.int .i64 o.kind) ∧ W.cell? ((a.add (i * 4)).add 1) = some (.int .i64 o.end_) ∧ W.cell? ((a.add (i * 4)).add 2) = some (.int .i64 o.n) ∧ W.cell? ((a.add (i * 4)).add 3) = some (.slice o.A o.bytes.length o.cap)) len (fun i hi' => by
      obtain ⟨vs, hv, ht⟩ := hi i (by omega)
      exact open_op hv ht)
    refine ⟨some a, len, cap, cs, rfl, hcl, hl, hm, ?_⟩
    rcases Nat.eq_zero_or_pos len with h0 | h0
    · exact .inl (List.eq_nil_of_length_eq_zero (by omega))
    · have hfirst := (hcs 0 (cs[0]'(by omega)) (List.getElem?_eq_getElem (by omega))).2.1
      have e0 : (a.add (0 * 4)).add 0 = a := by simp [Addr.add]
      rw [e0] at hfirst
      obtain ⟨b, o, spt⟩ := a
      obtain rfl : spt = none := addr_split hfirst
      refine .inr ⟨b, o, rfl, lt_of_cell hfirst, fun k y hy => ?_⟩
      obtain ⟨gk, g0, g1, g2, g3⟩ := hcs k y hy
      rw [addr_plain, addr_plain] at g0 g1 g2 g3
      exact ⟨gk, g0, g1, g2, g3⟩
end
theorem OpsAt.below {W W' : World} {B : Nat} {A : Option Addr} {os : List OpV} (h : OpsAt W B A os) (hb : Below B W W') : OpsAt W' B A os := by
  rcases h with h | ⟨b, off, h1, h2, h3⟩
  · exact .inl h
  · refine .inr ⟨b, off, h1, h2, fun k o hk => ?_⟩
    obtain ⟨g, g0, g1, g2, g3⟩ := h3 k o hk
    exact ⟨⟨g.k1, g.k2, g.e1, g.e2, g.n1, g.n2, g.len, g.cap, g.rd.below hb⟩, (hb.cell (p := ⟨b, _, none⟩) h2).trans g0, (hb.cell (p := ⟨b, _, none⟩) h2).trans g1, (hb.cell (p := ⟨b, _, none⟩) h2).trans g2, (hb.cell (p := ⟨b, _, none⟩) h2).trans g3⟩
theorem readOps : Tryd.prog.readableRec 22 = true := by kernel_rfl
theorem rowOps : 22 < Tryd.prog.types.size := of_decide_eq_true (by kernel_rfl)
end Go.Proofs.YtlceemaannndbaaDoor

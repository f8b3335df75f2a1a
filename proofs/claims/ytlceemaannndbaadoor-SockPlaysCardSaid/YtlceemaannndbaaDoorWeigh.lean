/- How a script of calls reads, and what its bytes weigh. -/
import Derived.Test.YtlceemaannndbaaDoorAny
namespace Go.Proofs.YtlceemaannndbaaDoor
open Go.ChangeShapes Go.WideShapes Go.ChangeAt Go.WideMaps Go.WideElems Go.RowKit Go.Deep

section
variable {H : Type} {enc : TypeId × Value → H} {W : World}
theorem mem_weightsAll {P : Program} {e : TypeId} {n : Nat} : ∀ {ds : List (DataW H)} {i : Nat} {d : DataW H}, ds[i]? = some d → n ∈ d.weights P e → n ∈ DataW.weightsAll P e ds
  | [], i, d, h, _ => by simp at h
  | x :: r, 0, d, h, hn => by
    simp at h
    subst h
    unfold DataW.weightsAll
    exact List.mem_append_left _ hn
  | x :: r, i + 1, d, h, hn => by
    unfold DataW.weightsAll
    exact List.mem_append_right _ (mem_weightsAll (i := i) (by simpa using h) hn)
theorem open_op2 {base : Nat} {sp : Nat → Bool} {held : Bool} {n : Nat} {a : Addr} {cs : List Value} {x : DataW H × List MemPlace} (hc : W.cells? base a 4 = some cs) (h : DataW.trod enc Tryd.prog W 0 sp held n 37 cs = some x) :
    ∃ o : OpV, (o.ok W W.heap.size ∧ W.cell? (a.add 0) = some (.int .i64 o.kind) ∧ W.cell? (a.add 1) = some (.int .i64 o.end_) ∧ W.cell? (a.add 2) = some (.int .i64 o.n) ∧ W.cell? (a.add 3) = some (.slice o.A o.bytes.length o.cap)) ∧
      ((∀ m ∈ x.1.weights Tryd.prog 37, m ≤ reachBytes) → o.bytes.length ≤ reachBytes) := by
  obtain ⟨_, hlen, hat⟩ := World.cells?_some hc
  obtain ⟨ys, m, _, hx, _, _, hf⟩ := DataW.trod_struct Tryd.underlying37 h
  match cs, hlen with
  | [c0, c1, c2, c3], _ =>
    have k3 : Tryd.prog.cellsOf 3 = 1 := by kernel_rfl
    have k30 : Tryd.prog.cellsOf 30 = 1 := by kernel_rfl
    have h0 : DataW.trod enc Tryd.prog W 0 sp held m 3 (List.take (Tryd.prog.cellsOf 3) [c0, c1, c2, c3]) = ys[0]? := hf 0 _ rfl
    have h1 : DataW.trod enc Tryd.prog W 0 sp held m 3 (List.take (Tryd.prog.cellsOf 3) [c1, c2, c3]) = ys[1]? := hf 1 _ rfl
    have h2 : DataW.trod enc Tryd.prog W 0 sp held m 3 (List.take (Tryd.prog.cellsOf 3) [c2, c3]) = ys[2]? := hf 2 _ rfl
    have h3 : DataW.trod enc Tryd.prog W 0 sp held m 30 (List.take (Tryd.prog.cellsOf 30) [c3]) = ys[3]? := hf 3 _ rfl
    rw [k3] at h0 h1 h2
    rw [k30] at h3
    have hl : ys.length = 4 := by assumption
    match ys, hl with
    | [y0, y1, y2, y3], _ =>
      obtain ⟨i0, e0, _, w0⟩ := DataW.trod_int Tryd.underlying3 h0
      obtain ⟨i1, e1, _, w1⟩ := DataW.trod_int Tryd.underlying3 h1
      obtain ⟨i2, e2, _, w2⟩ := DataW.trod_int Tryd.underlying3 h2
      obtain ⟨A, n, cap, bs, e3, hn, hcap, hm, hr, hd⟩ := open_bytes h3
      have b0 := bounds_i64 w0
      have b1 := bounds_i64 w1
      have b2 := bounds_i64 w2
      subst hn
      refine ⟨⟨i0, i1, i2, A, cap, bs⟩, ⟨⟨by show _ ≤ i0; omega, by show i0 ≤ _; omega, by show _ ≤ i1; omega, by show i1 ≤ _; omega, by show _ ≤ i2; omega, by show i2 ≤ _; omega, hcap, hm, hr⟩, ?_, ?_, ?_, ?_⟩, fun hw => ?_⟩
      · rw [hat 0 (by omega)]; injection e0 with e0; simp [e0]
      · rw [hat 1 (by omega)]; injection e1 with e1; simp [e1]
      · rw [hat 2 (by omega)]; injection e2 with e2; simp [e2]
      · rw [hat 3 (by omega)]; injection e3 with e3; simp [e3]
      · show bs.length ≤ reachBytes
        rcases hd with hd | ⟨el, sp', hd, hel⟩
        · rw [hd]; exact Nat.zero_le _
        · refine Nat.le_trans ?_ (hw ((el.length + sp'.length) * Tryd.prog.bytesOf 5) ?_)
          · rw [show Tryd.prog.bytesOf 5 = 1 by kernel_rfl, hel]; omega
          · rw [hx]
            unfold DataW.weights
            rw [Tryd.underlying37]
            simp only [List.map_cons, List.map_nil, DataW.weightsEach]
            refine List.mem_append_right _ (List.mem_append_right _ (List.mem_append_right _ (List.mem_append_left _ ?_)))
            rw [hd]
            unfold DataW.weights
            rw [Tryd.underlying30]
            exact List.mem_cons_self
theorem open_ops2 {fuel : Nat} {vs : List Value} {x : DataW H × List MemPlace} (h : DataW.trod enc Tryd.prog W 0 (fun _ => true) true fuel 22 vs = some x) :
    ∃ (A : Option Addr) (n cap : Nat) (os : List OpV), vs = [.slice A n cap] ∧ os.length = n ∧ n ≤ cap ∧ cap ≤ maxLen ∧ OpsAt W W.heap.size A os ∧ ((∀ m ∈ x.1.weights Tryd.prog 22, m ≤ reachBytes) → ∀ o ∈ os, o.bytes.length ≤ reachBytes) := by
  rcases open_slice Tryd.underlying22 h with ⟨rfl, rfl⟩ | ⟨a, len, cap, m, n, D, Pl, rfl, _, hl, hm, hmm, rfl, hi⟩
  · exact ⟨none, 0, 0, [], rfl, rfl, Nat.le_refl _, by decide, .inl rfl, by simp⟩
  · have hm' : len ≤ m := by rw [hmm]; split <;> omega
    rw [cells37] at hi
    obtain ⟨cs, hcl, hcs⟩ := choose_list (P := fun i (o : OpV) => (o.ok W W.heap.size ∧ W.cell? ((a.add (i * 4)).add 0) = some (.int .i64 o.kind) ∧ W.cell? ((a.add (i * 4)).add 1) = some (.int .i64 o.end_) ∧ W.cell? ((a.add (i * 4)).add 2) = some (.int .i64 o.n) ∧ W.cell? ((a.add (i * 4)).add 3) = some (.slice o.A o.bytes.length o.cap)) ∧ ((∀ m ∈ (D i).weights Tryd.prog 37, m ≤ reachBytes) → o.bytes.length ≤ reachBytes)) len (fun i hi' => by
      obtain ⟨vs, hv, ht⟩ := hi i (by omega)
      exact open_op2 hv ht)
    refine ⟨some a, len, cap, cs, rfl, hcl, hl, hm, ?_, fun hw o ho => ?_⟩
    · rcases Nat.eq_zero_or_pos len with h0 | h0
      · exact .inl (List.eq_nil_of_length_eq_zero (by omega))
      · have hfirst := (hcs 0 (cs[0]'(by omega)) (List.getElem?_eq_getElem (by omega))).1.2.1
        have e0 : (a.add (0 * 4)).add 0 = a := by simp [Addr.add]
        rw [e0] at hfirst
        obtain ⟨b, o, spt⟩ := a
        obtain rfl : spt = none := addr_split hfirst
        refine .inr ⟨b, o, rfl, lt_of_cell hfirst, fun k y hy => ?_⟩
        obtain ⟨⟨gk, g0, g1, g2, g3⟩, _⟩ := hcs k y hy
        rw [addr_plain, addr_plain] at g0 g1 g2 g3
        exact ⟨gk, g0, g1, g2, g3⟩
    · obtain ⟨i, hi', rfl⟩ := List.getElem_of_mem ho
      refine (hcs i _ (List.getElem?_eq_getElem hi')).2 (fun q hq => hw q ?_)
      unfold DataW.weights
      rw [Tryd.underlying22]
      refine List.mem_cons_of_mem _ (List.mem_append_left _ (mem_weightsAll (i := i) ?_ hq))
      rw [List.getElem?_map, List.getElem?_range (by omega)]
      rfl
end
end Go.Proofs.YtlceemaannndbaaDoor

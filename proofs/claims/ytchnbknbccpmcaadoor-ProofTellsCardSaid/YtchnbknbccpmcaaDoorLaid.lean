/- What the listed errors' variables hold when a call begins: each a pointer of its own, none nil. -/
import Derived.Test.YtchnbknbccpmcaaDoorRows
import Derived.LaidEql
import Derived.Below
import Derived.ProofKit
import Derived.LaidMore
import Derived.OpenShut
import Derived.LaidLaws
import Derived.Stop.Joined
import Derived.Stop.LaidErr
namespace Go.Proofs.YtchnbknbccpmcaaDoor
open Go.ChangeShapes Go.WideShapes Go.ChangeAt Go.WideMaps Go.WideElems Go.RowKit

theorem compErr : (Tryd.prog.info? 127).map (·.comparable) = some true := by kernel_rfl
theorem sizeErr : (Tryd.prog.info? 143).map (·.size) = some 1 := by kernel_rfl
set_option maxRecDepth 100000 in
/-- An error against itself. -/
theorem err_same (a : Addr) (W : World) : (binOp .eql 30 (.iface 127 (.pointer (some a))) (.iface 127 (.pointer (some a)))).run Tryd.prog W = .ok (.bool true) W := by
  obtain ⟨i, hi, hcmp⟩ := Option.map_eq_some_iff.1 compErr
  obtain ⟨j, hj, _⟩ := Option.map_eq_some_iff.1 sizeErr
  exact run_eql_iface_ptr_same W a Tryd.underlying30 Tryd.underlying127 hi hcmp hj
set_option maxRecDepth 100000 in
/-- Two errors that are not one. -/
theorem err_other {W : World} {a b : Addr} {ca cb : Array Value} {ta tb : TypeId} (hne : a ≠ b) (ha : W.heap[a.block]? = some (.cells ca ta (0, 0))) (hb : W.heap[b.block]? = some (.cells cb tb (0, 0))) :
    (binOp .eql 30 (.iface 127 (.pointer (some a))) (.iface 127 (.pointer (some b)))).run Tryd.prog W = .ok (.bool false) W := by
  obtain ⟨i, hi, hcmp⟩ := Option.map_eq_some_iff.1 compErr
  obtain ⟨j, hj, hsz⟩ := Option.map_eq_some_iff.1 sizeErr
  exact run_eql_iface_ptr_other W Tryd.underlying30 Tryd.underlying127 hi hcmp hj (by omega) hne ha hb

theorem own : ownKnob Tryd.prog.godebug = none := by kernel_rfl
theorem cellsErr : Tryd.prog.cellsOf 143 = 1 := by kernel_rfl
theorem cellsStr : Tryd.prog.cellsOf 9 = 1 := by kernel_rfl
theorem rowErr : ∀ u, Tryd.prog.typeName? 3 u = some "*errors.errorString" → u = 127 := fun u hu =>
  typeName_ptr_named (nm := "errors.errorString") (tp := 127) (by kernel_rfl) (by kernel_rfl) (by decide) u hu

def isSent (d : DataW Unit) : Prop := ∃ text, d = .iface "*errors.errorString" (.ptr (.agg [.lit (.string text)]))

set_option maxRecDepth 100000 in
theorem sent_list {W : World} : ∀ (l : List (String × DataW Unit)) (ps : List MemPlace), DataW.LaidVars Tryd.prog W l ps → ps.Nodup →
    (∀ b off, MemPlace.cell b off ∈ ps → (∃ c t, W.heap[b]? = some (.cells c t (0, 0))) ∧ ∀ u v, W.cell? ⟨b, off, none⟩ = some (.iface u v) → Value.okWide Tryd.prog W .any 0 u v) →
    (∀ x ∈ l, isSent x.2) → (∀ x ∈ l, ∀ g, Tryd.prog.globalNamed x.1 = some g → (Tryd.prog.globals[g]?).map (·.type) = some 30) →
    ∃ ads : List Addr, ads.length = l.length ∧ ads.Nodup ∧ (∀ a ∈ ads, MemPlace.cell a.block a.off ∈ ps) ∧
      ∀ (i : Nat) (x : String × DataW Unit) (a : Addr), l[i]? = some x → ads[i]? = some a → ∃ g, Tryd.prog.globalNamed x.1 = some g ∧ W.cell? ⟨g, 0, none⟩ = some (.iface 127 (.pointer (some a))) ∧ ∃ c t, W.heap[a.block]? = some (.cells c t (0, 0)) := by
  intro l
  induction l with
  | nil => intro ps _ _ _ _ _; exact ⟨[], rfl, List.nodup_nil, by simp, by simp⟩
  | cons x l ih =>
    intro ps hv hnd hrows hs ht
    obtain ⟨n, d⟩ := x
    obtain ⟨g, t, cs, fuel, p, q, hg, htt, hvar, hd, hq, rfl⟩ := hv
    obtain rfl : t = 30 := by
      have := ht (n, d) (by simp) g hg
      rw [htt] at this
      exact Option.some.inj this
    obtain ⟨text, rfl⟩ := hs (n, d) (by simp)
    obtain ⟨l0⟩ := cs
    have ok0 : ∀ u v, l0 = [.iface u v] → Value.okWide Tryd.prog W .any 0 u v := fun u v e => by
      subst e
      exact (hrows g 0 (by simp [MemPlace.row])).2 u v (by simpa using World.var?_cell hg hvar 0)
    obtain ⟨a0, s0, rfl, hc0, hs0, hz0, rfl⟩ := errorString_of_trod Tryd.underlying30 rowErr Tryd.underlying127 Tryd.underlying143 rfl rfl Tryd.underlying9 cellsErr cellsStr hd ok0
    rw [List.nodup_append] at hnd
    obtain ⟨hn1, hn2, hn3⟩ := hnd
    obtain ⟨ads, hl, hnda, hin, hall⟩ := ih q hq hn2 (fun b off hm => hrows b off (List.mem_append_right _ hm)) (fun x hx => hs x (List.mem_cons_of_mem _ hx)) (fun x hx => ht x (List.mem_cons_of_mem _ hx))
    have hspot : a0.spot = none := by
      unfold World.cell? at hc0
      cases hsp : a0.spot with
      | none => rfl
      | some k => rw [hsp] at hc0; revert hc0; split <;> simp
    have hmem : MemPlace.cell a0.block a0.off ∈ MemPlace.row a0 1 := by simp [MemPlace.row]
    refine ⟨a0 :: ads, by simp [hl], ?_, ?_, ?_⟩
    · rw [List.nodup_cons]
      exact ⟨fun hm => hn3 _ (List.mem_append_right _ hmem) _ (hin a0 hm) rfl, hnda⟩
    · intro a ha
      rcases List.mem_cons.1 ha with rfl | ha
      · exact List.mem_append_left _ (List.mem_append_right _ hmem)
      · exact List.mem_append_right _ (hin a ha)
    · intro i x a hx ha
      match i with
      | 0 =>
        simp only [List.getElem?_cons_zero, Option.some.injEq] at hx ha
        subst hx ha
        exact ⟨g, hg, by simpa using World.var?_cell hg hvar 0, (hrows _ _ (List.mem_append_left _ (List.mem_append_right _ hmem))).1⟩
      | i + 1 => exact hall i x a (by simpa using hx) (by simpa using ha)

/-- 'the variables with the numbers idx hold errors, each one of its own'. -/
structure Sents (W : World) (E : Nat → Value) (idx : List Nat) : Prop where
  at_ : ∀ g ∈ idx, ∃ a c t, E g = .iface 127 (.pointer (some a)) ∧ W.cell? ⟨g, 0, none⟩ = some (E g) ∧ W.heap[a.block]? = some (.cells c t (0, 0))
  ne : ∀ g ∈ idx, ∀ h ∈ idx, g ≠ h → E g ≠ E h

set_option maxRecDepth 100000 in
theorem sents_of_laid {W : World} (l : List (String × DataW Unit)) (idx : List Nat) (h : laidMet Tryd.prog l W) (hs : ∀ x ∈ l, isSent x.2) (hidx : l.map (fun x => Tryd.prog.globalNamed x.1) = idx.map some)
    (ht : ∀ g ∈ idx, (Tryd.prog.globals[g]?).map (·.type) = some 30) : ∃ E, Sents W E idx := by
  obtain ⟨ps, hv, hnd, hrows⟩ := h
  have hmem : ∀ x ∈ l, ∀ g, Tryd.prog.globalNamed x.1 = some g → g ∈ idx := by
    intro x hx g hg
    have : some g ∈ idx.map some := by rw [← hidx, List.mem_map]; exact ⟨x, hx, hg⟩
    simpa using this
  obtain ⟨ads, hl, hnda, _, hall⟩ := sent_list l ps hv hnd hrows hs (fun x hx g hg => ht g (hmem x hx g hg))
  have hlen : idx.length = l.length := by have := congrArg List.length hidx; simpa using this.symm
  have key : ∀ g ∈ idx, ∃ x a, l[idx.idxOf g]? = some x ∧ ads[idx.idxOf g]? = some a ∧ Tryd.prog.globalNamed x.1 = some g := by
    intro g hg
    have hi : idx.idxOf g < idx.length := List.idxOf_lt_length_iff.2 hg
    refine ⟨l[idx.idxOf g]'(by omega), ads[idx.idxOf g]'(by omega), List.getElem?_eq_getElem _, List.getElem?_eq_getElem _, ?_⟩
    have h1 : (l.map (fun x => Tryd.prog.globalNamed x.1))[idx.idxOf g]? = (idx.map some)[idx.idxOf g]? := by rw [hidx]
    rw [List.getElem?_map, List.getElem?_map, List.getElem?_eq_getElem (by omega), List.getElem?_eq_getElem hi] at h1
    simp only [Option.map_some, Option.some.injEq] at h1
    rw [h1, List.getElem_idxOf]
  refine ⟨fun g => .iface 127 (.pointer ads[idx.idxOf g]?), ?_, ?_⟩
  · intro g hg
    obtain ⟨x, a, hx, ha, hgx⟩ := key g hg
    obtain ⟨g', hg', hc, c, t, hh⟩ := hall _ x a hx ha
    rw [hgx] at hg'
    obtain rfl := Option.some.inj hg'
    exact ⟨a, c, t, by rw [ha], by rw [ha]; exact hc, hh⟩
  · intro g hg h hh hne he
    obtain ⟨x, a, hx, ha, hgx⟩ := key g hg
    obtain ⟨y, b, hy, hb, hgy⟩ := key h hh
    have e : a = b := by
      simp only [ha, hb] at he
      injection he with _ he
      injection he with he
      exact Option.some.inj he
    subst e
    have hi := (List.getElem?_eq_some_iff.1 ha)
    have hj := (List.getElem?_eq_some_iff.1 hb)
    obtain ⟨hi1, hi2⟩ := hi
    obtain ⟨hj1, hj2⟩ := hj
    have : idx.idxOf g = idx.idxOf h := (List.getElem_inj hnda).1 (hi2.trans hj2.symm)
    rw [this, hy] at hx
    obtain rfl := Option.some.inj hx
    rw [hgy] at hgx
    exact hne (Option.some.inj hgx).symm

/-- An error's own address. -/
def adOf : Value → Addr
  | .iface _ (.pointer (some a)) => a
  | _ => ⟨0, 0, none⟩
theorem Sents.val {W : World} {E : Nat → Value} {idx : List Nat} (h : Sents W E idx) {g : Nat} (hg : g ∈ idx) : E g = .iface 127 (.pointer (some (adOf (E g)))) := by
  obtain ⟨a, _, _, he, _⟩ := h.at_ g hg
  rw [he]; rfl
theorem Sents.cell {W : World} {E : Nat → Value} {idx : List Nat} (h : Sents W E idx) {g : Nat} (hg : g ∈ idx) : W.cell? ⟨g, 0, none⟩ = some (.iface 127 (.pointer (some (adOf (E g))))) := by
  obtain ⟨a, _, _, he, hc, _⟩ := h.at_ g hg
  rw [hc, he]; rfl
theorem Sents.adrow {W : World} {E : Nat → Value} {idx : List Nat} (h : Sents W E idx) {g : Nat} (hg : g ∈ idx) : ∃ c t, W.heap[(adOf (E g)).block]? = some (.cells c t (0, 0)) := by
  obtain ⟨a, c, t, he, _, hr⟩ := h.at_ g hg
  exact ⟨c, t, by rw [he]; exact hr⟩
theorem Sents.adne {W : World} {E : Nat → Value} {idx : List Nat} (h : Sents W E idx) {g k : Nat} (hg : g ∈ idx) (hk : k ∈ idx) (hne : g ≠ k) : adOf (E g) ≠ adOf (E k) := fun e => h.ne g hg k hk hne (by rw [h.val hg, h.val hk, e])
set_option maxRecDepth 100000 in
theorem Sents.size {W : World} {E : Nat → Value} {idx : List Nat} (h : Sents W E idx) {g : Nat} (hg : g ∈ idx) : g < W.heap.size := by
  obtain ⟨_, _, _, _, hc, _⟩ := h.at_ g hg
  rcases Nat.lt_or_ge g W.heap.size with hlt | hge
  · exact hlt
  · unfold World.cell? at hc
    rw [Array.getElem?_eq_none (by simpa using hge)] at hc
    cases hc
end Go.Proofs.YtchnbknbccpmcaaDoor

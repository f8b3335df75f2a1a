/- How a case reads; the listed variables. -/
import Derived.Test.YtchnbknbccpmcaaDoorAlv
import Derived.Test.YtchnbknbccpmcaaDoorArgs
import Derived.Lib.LaidTab
import Derived.Deep.Slices
import Derived.Deep.Fields
import Derived.SizedLaws
import Derived.Carry
import Derived.Lib.SmallJoins
namespace Go.Proofs.YtchnbknbccpmcaaDoor
open Go.ChangeShapes Go.WideShapes Go.ChangeAt Go.WideMaps Go.WideElems Go.RowKit
open Go.Deep
open Go.Proofs.YtchnbknbccpmcaaDoor.H
theorem read24 : Tryd.prog.readableRec 24 = true := by kernel_rfl
theorem row24 : 24 < Tryd.prog.types.size := of_decide_eq_true (by kernel_rfl)
theorem cells24 : Tryd.prog.cellsOf 24 = 5 := by kernel_rfl
theorem cells3 : Tryd.prog.cellsOf 3 = 1 := by kernel_rfl
theorem cells9 : Tryd.prog.cellsOf 9 = 1 := by kernel_rfl
theorem cells22 : Tryd.prog.cellsOf 22 = 1 := by kernel_rfl
theorem cells78 : Tryd.prog.cellsOf 78 = 1 := by kernel_rfl
theorem cells122 : Tryd.prog.cellsOf 122 = 64 := by kernel_rfl
theorem list5 {α : Type} {l : List α} (h : l.length = 5) : ∃ c0 c1 c2 c3 c4, l = [c0, c1, c2, c3, c4] := by
  match l, h with
  | [c0, c1, c2, c3, c4], _ => exact ⟨c0, c1, c2, c3, c4, rfl⟩
section
variable {H : Type} {enc : TypeId × Value → H} {W : World}
theorem trod_i64 {base : Nat} {sp : Nat → Bool} {held : Bool} {fuel : Nat} {c : Value} {x : DataW H × List MemPlace} (h : DataW.trod enc Tryd.prog W base sp held fuel 3 [c] = some x) : ∃ z, c = .int .i64 z ∧ -9223372036854775808 ≤ z ∧ z ≤ 9223372036854775807 := by
  obtain ⟨k, e, _, wk⟩ := DataW.trod_int Tryd.underlying3 h
  injection e with e
  have bd := bounds_i64 wk
  exact ⟨k, e, by omega, by omega⟩
theorem trod_str {base : Nat} {sp : Nat → Bool} {held : Bool} {fuel : Nat} {c : Value} {x : DataW H × List MemPlace} (h : DataW.trod enc Tryd.prog W base sp held fuel 9 [c] = some x) : ∃ s, c = .string s ∧ s.size ≤ maxLen := by
  obtain ⟨s, e, _, ws⟩ := DataW.trod_string Tryd.underlying9 h
  injection e with e
  exact ⟨s, e, ws⟩
set_option maxRecDepth 100000 in
/-- A case that reads. -/
theorem open_case {r : Reach} {b0 : Nat} {v : Value} {d : DataW H} {p : List MemPlace} (hv : Value.okWide Tryd.prog W r b0 24 v) (h : DataW.Trod enc Tryd.prog W 0 (fun _ => true) true 24 v d p) :
    ∃ (K : Option Addr) (kn kc : Nat) (key : List UInt8) (M : Option Addr) (nn nc : Nat) (nonce : List UInt8) (who : ByteArray) (z : Int) (T : Option Addr) (n c : Nat) (bs : List UInt8),
      v = .agg #[.slice K kn kc, .slice M nn nc, .string who, .int .i64 z, .slice T n c] ∧ (key.length = kn ∧ kn ≤ kc ∧ kc ≤ maxLen ∧ Rd W W.heap.size K (key.map bv)) ∧ (nonce.length = nn ∧ nn ≤ nc ∧ nc ≤ maxLen ∧ Rd W W.heap.size M (nonce.map bv)) ∧
      (bs.length = n ∧ n ≤ c ∧ c ≤ maxLen ∧ Rd W W.heap.size T (bs.map bv)) ∧ who.size ≤ maxLen ∧ -9223372036854775808 ≤ z ∧ z ≤ 9223372036854775807 := by
  obtain ⟨cs, rfl, hsz⟩ := okWide_struct Tryd.underlying24 hv
  obtain ⟨fuel, hf⟩ := h
  have hl : cs.toList.length = 5 := by simpa using hsz.trans cells24
  have hf2 : DataW.trod enc Tryd.prog W 0 (fun _ => true) true fuel 24 cs.toList = some (d, p) := by simpa [Value.cells] using hf
  obtain ⟨ys, m, _, _, _, _, hff⟩ := DataW.trod_struct Tryd.underlying24 hf2
  obtain ⟨c0, c1, c2, c3, c4, hc⟩ := list5 hl
  rw [hc] at hff
  have hy : ys.length = 5 := by assumption
  have h0 : DataW.trod enc Tryd.prog W 0 (fun _ => true) true m 22 (List.take (Tryd.prog.cellsOf 22) [c0, c1, c2, c3, c4]) = ys[0]? := hff 0 _ rfl
  have h1 : DataW.trod enc Tryd.prog W 0 (fun _ => true) true m 22 (List.take (Tryd.prog.cellsOf 22) [c1, c2, c3, c4]) = ys[1]? := hff 1 _ rfl
  have h2 : DataW.trod enc Tryd.prog W 0 (fun _ => true) true m 9 (List.take (Tryd.prog.cellsOf 9) [c2, c3, c4]) = ys[2]? := hff 2 _ rfl
  have h3 : DataW.trod enc Tryd.prog W 0 (fun _ => true) true m 3 (List.take (Tryd.prog.cellsOf 3) [c3, c4]) = ys[3]? := hff 3 _ rfl
  have h4 : DataW.trod enc Tryd.prog W 0 (fun _ => true) true m 22 (List.take (Tryd.prog.cellsOf 22) [c4]) = ys[4]? := hff 4 _ rfl
  rw [cells22] at h0 h1 h4
  rw [cells9] at h2
  rw [cells3] at h3
  obtain ⟨K, kn, kc, key, e0, k1, k2, k3, k4, _⟩ := open_bytes (h0.trans (List.getElem?_eq_getElem (by omega)))
  obtain ⟨M, nn, nc, nonce, e1, m1, m2, m3, m4, _⟩ := open_bytes (h1.trans (List.getElem?_eq_getElem (by omega)))
  obtain ⟨s, rfl, hs⟩ := trod_str (h2.trans (List.getElem?_eq_getElem (by omega)))
  obtain ⟨z, rfl, hz⟩ := trod_i64 (h3.trans (List.getElem?_eq_getElem (by omega)))
  obtain ⟨T, n, c, bs, e4, t1, t2, t3, t4, _⟩ := open_bytes (h4.trans (List.getElem?_eq_getElem (by omega)))
  have e0' : c0 = .slice K kn kc := by injection e0
  have e1' : c1 = .slice M nn nc := by injection e1
  have e4' : c4 = .slice T n c := by injection e4
  subst e0' e1' e4'
  refine ⟨K, kn, kc, key, M, nn, nc, nonce, s, z, T, n, c, bs, ?_, ⟨k1, k2, k3, k4⟩, ⟨m1, m2, m3, m4⟩, ⟨t1, t2, t3, t4⟩, hs, hz.1, hz.2⟩
  congr 1
  exact Array.toList_inj.1 hc
end

theorem laid_tab : (Rows.laid_jackfield_hash_roundWords : DataW Unit) = Lib.tabData .u32 (KT.map U) := by
  unfold Rows.laid_jackfield_hash_roundWords Lib.tabData
  rw [List.map_map]
  rfl
/-- The table of words ahead, the rest behind. -/
theorem laid_split {W : World} {l : List (String × DataW Unit)} (h : laidMet Tryd.prog (("jackfield/hash.roundWords", Rows.laid_jackfield_hash_roundWords) :: l) W) : Ktab W ∧ laidMet Tryd.prog l W := by
  obtain ⟨ps, hv, hnd, hrows⟩ := h
  obtain ⟨g, t, cs, fuel, p, q, hg, htt, hvar, hd, hq, rfl⟩ := hv
  refine ⟨?_, ⟨q, hq, (List.nodup_append.1 hnd).2.1, fun b off hm => hrows b off (List.mem_append_right _ hm)⟩⟩
  obtain rfl : g = 18 := Option.some.inj ((show Tryd.prog.globalNamed "jackfield/hash.roundWords" = some 18 by kernel_rfl).symm.trans hg) |>.symm
  obtain rfl : t = 122 := Option.some.inj (htt.symm.trans (show (Tryd.prog.globals[18]?).map (·.type) = some 122 by kernel_rfl))
  have hcs := Lib.cells_of_tab (k := .u32) (zs := KT.map U) under67 Tryd.underlying78 cells78 cells122 (by rw [← laid_tab]; exact hd)
  have hc : ∀ i, i < 64 → W.cell? ⟨18, i, none⟩ = some (.int .u32 (U (KT.getD i 0))) := fun i hi => by
    rw [World.var?_cell hg hvar i, ← Array.getElem?_toList, hcs]
    have hk : i < KT.length := hi
    simp [hk]
  exact ⟨lt_of_cell (hc 0 (by decide)), hc⟩
theorem env_of {W : World} {E : Nat → Value} {idx : List Nat} (hK : Ktab W) (hS : Sents W E idx) (hp : ∀ i, i < 5 → F.pos i ∈ idx) (h0 : 0 ∈ idx) (h1 : 1 ∈ idx) : Env W (fun i => E (F.pos i)) (.iface 127 (.pointer (some (adOf (E 0))))) (.iface 127 (.pointer (some (adOf (E 1))))) := by
  refine ⟨hK, ⟨fun i hi => ?_, fun i hi => ?_⟩, ⟨hS.cell h0, hS.cell h1, ⟨_, _, rfl⟩, ⟨_, _, rfl⟩⟩⟩
  · obtain ⟨_, _, _, _, hc, _⟩ := hS.at_ _ (hp i hi)
    exact hc
  · exact ⟨_, _, hS.val (hp i hi)⟩
/-- The variables that three laws list. -/
def laidS : List (String × DataW Unit) := [("jackfield/hash.roundWords", Rows.laid_jackfield_hash_roundWords), ("jackfield/api.ErrRange", Rows.laid_jackfield_api_ErrRange), ("jackfield/api.ErrShort", Rows.laid_jackfield_api_ErrShort), ("jackfield/api.ErrLong", Rows.laid_jackfield_api_ErrLong), ("jackfield/api.ErrTail", Rows.laid_jackfield_api_ErrTail), ("jackfield/api.ErrProof", Rows.laid_jackfield_api_ErrProof), ("jackfield/api.ErrState", Rows.laid_jackfield_api_ErrState)]
def idxS : List Nat := [0, 2, 3, 4, 1, 16]
theorem env_s {W : World} (h : laidMetH Tryd.prog laidS W) : ∃ E a b, Env W E (.iface 127 (.pointer (some a))) (.iface 127 (.pointer (some b))) := by
  rw [MakeChecks.laidMetH_plain _ _ _ (by kernel_rfl)] at h
  obtain ⟨hK, hl⟩ := laid_split h
  obtain ⟨E, hS⟩ := sents_of_laid _ idxS hl (by
    intro x hx
    simp at hx
    rcases hx with rfl | rfl | rfl | rfl | rfl | rfl <;> exact ⟨_, rfl⟩) (by kernel_rfl) (by
    intro g hg
    simp [idxS] at hg
    rcases hg with rfl | rfl | rfl | rfl | rfl | rfl <;> kernel_rfl)
  exact ⟨_, _, _, env_of hK hS (by
    intro i hi
    have : i = 0 ∨ i = 1 ∨ i = 2 ∨ i = 3 ∨ i = 4 := by omega
    rcases this with rfl | rfl | rfl | rfl | rfl <;> decide) (by decide) (by decide)⟩
theorem door_metS (os : Os) (args : Array Value) : laidMetH Tryd.prog laidS ((World.doorLaid Tryd.prog 400 os).forCall (fun _ _ => 0) ⟨#[], args, []⟩).memory :=
  laidMetH_of_parts3 (fuel := 8) (laidMet_of_run' 8 (by kernel_rfl) (by kernel_rfl)) (by kernel_rfl) (by kernel_rfl)
end Go.Proofs.YtchnbknbccpmcaaDoor

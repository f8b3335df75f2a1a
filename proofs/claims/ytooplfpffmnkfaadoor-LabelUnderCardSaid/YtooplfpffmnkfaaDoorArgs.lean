/- How the laws' arguments read: lists of texts; what the listed variables hold. -/
import Derived.Test.YtooplfpffmnkfaaDoorLaid
import Derived.Test.YtooplfpffmnkfaaDoorBest
import Derived.Deep.Slices
import Derived.Deep.Strs
import Derived.Deep.Fields
import Derived.SizedLaws
import Derived.Carry
import Derived.Lay
import Derived.Deep.DeepHandedRow
namespace Go.Proofs.YtooplfpffmnkfaaDoor
open Go.ChangeShapes Go.WideShapes Go.ChangeAt Go.WideMaps Go.WideElems Go.RowKit Go.Deep

theorem laidOut : laidOutB Tryd.prog = true := by kernel_rfl
theorem readTexts : Tryd.prog.readableRec 28 = true := by kernel_rfl
theorem rowTexts : 28 < Tryd.prog.types.size := of_decide_eq_true (by kernel_rfl)
section
variable {H : Type} {enc : TypeId × Value → H} {W : World}
/-- A list of texts that reads. -/
theorem open_texts {sp : Nat → Bool} {held : Bool} {fuel : Nat} {vs : List Value} {x : DataW H × List MemPlace} (h : DataW.trod enc Tryd.prog W 0 sp held fuel 28 vs = some x) :
    ∃ (A : Option Addr) (n cap : Nat) (ss : List ByteArray), vs = [.slice A n cap] ∧ ss.length = n ∧ n ≤ cap ∧ cap ≤ maxLen ∧ Lst W A ss maxLen := by
  rcases open_strs Tryd.underlying28 Tryd.underlying9 cellsStr h with ⟨rfl, rfl⟩ | ⟨a, len, cap, m, Sx, rfl, _, hl, hm, hmm, rfl, hi⟩
  · exact ⟨none, 0, 0, [], rfl, rfl, Nat.le_refl _, by decide, ⟨.inl rfl, fun k hk => absurd hk (by simp)⟩⟩
  · have hm' : len ≤ m := by rw [hmm]; split <;> omega
    refine ⟨some a, len, cap, (List.range len).map Sx, rfl, by simp, hl, hm, ?_, fun k hk => ?_⟩
    · rcases Nat.eq_zero_or_pos len with h0 | h0
      · subst h0; exact .inl rfl
      · refine .inr ⟨a, rfl, ?_, fun j u hj => ?_⟩
        · have := (hi 0 (by omega)).1
          rw [show a.add 0 = a by simp [Addr.add]] at this
          exact block_lt_of_cell this
        · have hjl : j < len := by
            rcases Nat.lt_or_ge j len with hlt | hge
            · exact hlt
            · rw [List.getElem?_eq_none (by simp [sv]; omega)] at hj; cases hj
          simp [sv, hjl] at hj
          subst hj
          exact (hi j (by omega)).1
    · have hk' : k < len := by simpa using hk
      simpa using (hi k (by omega)).2
end
def laid3 : List (String × DataW Unit) := [("unicode/utf8.acceptRanges", Rows.laid_unicode_utf8_acceptRanges), ("jackfield/api.ErrName", Rows.laid_jackfield_api_ErrName), ("unicode/utf8.first", Rows.laid_unicode_utf8_first)]
theorem laid_tail {W : World} {x : String × DataW Unit} {l : List (String × DataW Unit)} (h : laidMet Tryd.prog (x :: l) W) : laidMet Tryd.prog l W := by
  obtain ⟨ps, hv, hnd, hrows⟩ := h
  obtain ⟨n, d⟩ := x
  obtain ⟨g, t, cs, fuel, p, q, hg, htt, hvar, hd, hq, rfl⟩ := hv
  exact ⟨q, hq, (List.nodup_append.1 hnd).2.1, fun b off hm => hrows b off (List.mem_append_right _ hm)⟩
theorem laid_one {W : World} {x : String × DataW Unit} {l : List (String × DataW Unit)} (h : laidMet Tryd.prog (x :: l) W) : laidMet Tryd.prog [x] W := by
  obtain ⟨ps, hv, hnd, hrows⟩ := h
  obtain ⟨n, d⟩ := x
  obtain ⟨g, t, cs, fuel, p, q, hg, htt, hvar, hd, hq, rfl⟩ := hv
  refine ⟨MemPlace.row ⟨g, 0, none⟩ cs.size ++ p ++ [], ⟨g, t, cs, fuel, p, [], hg, htt, hvar, hd, rfl, rfl⟩, ?_, fun b off hm => hrows b off ?_⟩
  · rw [List.append_nil]; exact (List.nodup_append.1 hnd).1
  · rw [List.append_nil] at hm; exact List.mem_append_left _ hm
theorem env3 {W : World} (h : laidMetH Tryd.prog laid3 W) (hsh : W.ShapedOpen Tryd.prog) : ∃ a m, Env W a m := by
  rw [MakeChecks.laidMetH_plain _ _ _ (by kernel_rfl)] at h
  obtain ⟨E, hS⟩ := sents_of_laid _ [0] (laid_one (laid_tail h)) (by
    intro x hx
    simp at hx
    subst hx
    exact ⟨_, rfl⟩) (by kernel_rfl) (by
    intro g hg
    simp at hg
    subst hg
    kernel_rfl)
  obtain ⟨m, hm⟩ := cell_of_shapedOpen_int (P := Tryd.prog) (w := W) (g := 1) (t := 3) (zero := #[.int .i64 0]) (k := .i64) hsh (of_decide_eq_true (by kernel_rfl)) (by kernel_rfl) rfl (by kernel_rfl) (by kernel_rfl) Tryd.underlying3
  exact ⟨_, m, hS.cell (by decide), hm, by have := block_lt_of_cell hm; exact this⟩
theorem door_met3 (os : Os) (args : Array Value) : laidMetH Tryd.prog laid3 ((World.laidAll Tryd.prog os laid3).forCall (fun _ _ => 0) ⟨#[], args, []⟩).memory := by
  rw [MakeChecks.laidMetH_plain _ _ _ (by kernel_rfl)]
  exact laidMet_laidAll _ (by kernel_rfl) (by kernel_rfl)
/-- There is an input that fits: the listed variables laid into a start. -/
theorem witness3 {H : Type} {enc : TypeId × Value → H} {os : Os} {f : FuncId} {fn : Func} {s : OpenSpec} {conds : List PathCond} (args : Array Value)
    (hsh : ((World.laidAll Tryd.prog os laid3).forCall (fun _ _ => 0) ⟨#[], args, []⟩).Shaped Tryd.prog)
    (hok : Input.okWideB Tryd.prog ((World.laidAll Tryd.prog os laid3).forCall (fun _ _ => 0) ⟨#[], args, []⟩) f ⟨#[], args, []⟩ = true)
    (hrow : s.preRow enc Tryd.prog fn conds false laid3 ((World.laidAll Tryd.prog os laid3).forCall (fun _ _ => 0) ⟨#[], args, []⟩).memory args) :
    ∃ (w : World) (tape : Tape) (i : Input), w.os = os ∧ (w.forCall tape i).Shaped Tryd.prog ∧ i.vars = [] ∧ Input.okWide Tryd.prog (w.forCall tape i) .any w.heap.size f i ∧
      s.preRow enc Tryd.prog fn conds false laid3 (w.forCall tape i).memory i.args ∧ ({} : Assume).holds Tryd.prog (lone (Frame.enter Tryd.prog f i.args .normal) [] (w.forCall tape i)) :=
  ⟨World.laidAll Tryd.prog os laid3, fun _ _ => 0, ⟨#[], args, []⟩, World.laidAll_os _ _ _, hsh, (Input.okWide_of_okWideB (base := 0) hok).1, (Input.okWide_of_okWideB hok).2, hrow, by
    simp only [Assume.holds]
    exact ⟨by simp, by simp, fun _ => Modest.zero, by simp, by simp⟩⟩

section
variable {H : Type}
theorem bulk_of_mem {d : DataW H} {l : List (DataW H)} (h : d ∈ l) : Rows.uptoBulk d ≤ Rows.uptoBulkAll l := by
  induction l with
  | nil => cases h
  | cons x l ih =>
    show _ ≤ Rows.uptoBulk x + Rows.uptoBulkAll l
    rcases List.mem_cons.1 h with rfl | h
    · omega
    · have := ih h; omega
theorem str_small {l : List (DataW H)} (h : Rows.uptoSmall H l = true) {s : ByteArray} (hm : DataW.lit (.string s.data.toList) ∈ l) : s.size ≤ 1048576 := by
  have h0 : Rows.uptoBulkAll l ≤ 1048576 := of_decide_eq_true h
  have h1 := bulk_of_mem hm
  have h2 : Rows.uptoBulk (DataW.lit (H := H) (.string s.data.toList)) = s.data.toList.length + 1 := by simp only [Rows.uptoBulk]
  have h3 : s.data.toList.length = s.size := by simp
  omega
end
end Go.Proofs.YtooplfpffmnkfaaDoor

/- What jackfieldnum.Num answers: an error's number. -/
import Derived.Test.YtchnbknbccpmcaaDoorLaid
import Derived.Test.YtchnbknbccpmcaaDoorMem
import Derived.LoopTactic
import Derived.Deep.QuietTactic
namespace Go.Proofs.YtchnbknbccpmcaaDoor
open Go.RowKit

def order18 : List Nat := [0, 2, 3, 4, 5, 6, 7, 8, 9, 10, 11, 12, 13, 1, 14, 15, 16, 17]
/-- An error's number, by its variable's. -/
def numOf (k : Nat) : Nat := order18.idxOf k + 1

/-- 'the eighteen errors' variables hold pointers of their own'. -/
structure Eighteen (w : World) (ad : Nat → Addr) : Prop where
  cell : ∀ g ∈ order18, w.cell? ⟨g, 0, none⟩ = some (.iface 127 (.pointer (some (ad g))))
  row : ∀ g ∈ order18, ∃ c t, w.heap[(ad g).block]? = some (.cells c t (0, 0))
  ne : ∀ g ∈ order18, ∀ h ∈ order18, g ≠ h → ad g ≠ ad h
theorem eighteen_of {w : World} {E : Nat → Value} (h : Sents w E order18) : Eighteen w (fun g => adOf (E g)) :=
  ⟨fun _ hg => h.cell hg, fun _ hg => h.adrow hg, fun _ hg _ hk hne => h.adne hg hk hne⟩
theorem Eighteen.below {w w' : World} {ad : Nat → Addr} (h : Eighteen w ad) {B : Nat} (hB : ∀ g ∈ order18, g < B ∧ (ad g).block < B) (hb : Below B w w') : Eighteen w' ad := by
  refine ⟨?_, ?_, h.ne⟩
  · intro g hg
    rw [hb.cell (p := ⟨g, 0, none⟩) (hB g hg).1]
    exact h.cell g hg
  · intro g hg
    obtain ⟨c, t, hr⟩ := h.row g hg
    exact ⟨c, t, (hb.block _ (hB g hg).2).trans hr⟩
theorem Eighteen.lt {w : World} {ad : Nat → Addr} (h : Eighteen w ad) : ∀ g ∈ order18, g < w.heap.size ∧ (ad g).block < w.heap.size := by
  intro g hg
  obtain ⟨c, t, hr⟩ := h.row g hg
  refine ⟨?_, (Array.getElem?_eq_some_iff.1 hr).1⟩
  have hc := h.cell g hg
  rcases Nat.lt_or_ge g w.heap.size with hlt | hge
  · exact hlt
  · unfold World.cell? at hc
    rw [Array.getElem?_eq_none (by simpa using hge)] at hc
    cases hc

set_option maxHeartbeats 400000 in
theorem num_none (w : World) : Calls Tryd.prog 20 #[.nilIface] w fun e w' => e = .returned (.int .i64 0) ∧ w = w' := by
  go_enter Tryd.func20, Tryd.ntmps20
  go_wp2_with fail
  go_ret
  exact ⟨rfl, rfl⟩

set_option maxHeartbeats 400000 in
theorem num_err (ad : Nat → Addr) (k : Nat) (w : World) (h : Eighteen w ad) (hk : k ∈ order18) :
    Calls Tryd.prog 20 #[.iface 127 (.pointer (some (ad k)))] w fun e w' => e = .returned (.int .i64 (numOf k : Int)) ∧ Below w.heap.size w w' := by
  have H := Lib.hid h
  have hp0 : order18.idxOf k < order18.length := List.idxOf_lt_length_iff.2 hk
  have HP : Hid (order18[order18.idxOf k]? = some k) := Lib.hid (by rw [List.getElem?_eq_getElem hp0, List.getElem_idxOf])
  have hp : order18.idxOf k < 18 := hp0
  clear hp0
  have HNO : Hid (numOf k = order18.idxOf k + 1) := Lib.hid rfl
  have HK := Lib.hid hk
  have c0 := h.cell 0 (by decide)
  have c1 := h.cell 2 (by decide)
  have c2 := h.cell 3 (by decide)
  have c3 := h.cell 4 (by decide)
  have c4 := h.cell 5 (by decide)
  have c5 := h.cell 6 (by decide)
  have c6 := h.cell 7 (by decide)
  have c7 := h.cell 8 (by decide)
  have c8 := h.cell 9 (by decide)
  have c9 := h.cell 10 (by decide)
  have c10 := h.cell 11 (by decide)
  have c11 := h.cell 12 (by decide)
  have c12 := h.cell 13 (by decide)
  have c13 := h.cell 1 (by decide)
  have c14 := h.cell 14 (by decide)
  have c15 := h.cell 15 (by decide)
  have c16 := h.cell 16 (by decide)
  have c17 := h.cell 17 (by decide)
  clear h hk
  generalize hpp : order18.idxOf k = p at *
  clear hpp
  go_enter Tryd.func20, Tryd.ntmps20
  have HCEL : Hid (∀ (j : Nat) (g : Nat), order18[j]? = some g → (w.alloc (.cells #[.iface 127 (.pointer (some (ad 0))), .iface 127 (.pointer (some (ad 2))), .iface 127 (.pointer (some (ad 3))), .iface 127 (.pointer (some (ad 4))), .iface 127 (.pointer (some (ad 5))), .iface 127 (.pointer (some (ad 6))), .iface 127 (.pointer (some (ad 7))), .iface 127 (.pointer (some (ad 8))), .iface 127 (.pointer (some (ad 9))), .iface 127 (.pointer (some (ad 10))), .iface 127 (.pointer (some (ad 11))), .iface 127 (.pointer (some (ad 12))), .iface 127 (.pointer (some (ad 13))), .iface 127 (.pointer (some (ad 1))), .iface 127 (.pointer (some (ad 14))), .iface 127 (.pointer (some (ad 15))), .iface 127 (.pointer (some (ad 16))), .iface 127 (.pointer (some (ad 17)))] 30)).cell? ⟨w.heap.size, j, none⟩ = some (.iface 127 (.pointer (some (ad g))))) := Lib.hid (by
    intro j g hj
    have e : ∀ C : Array Value, (w.alloc (.cells C 30)).cell? ⟨w.heap.size, j, none⟩ = C[j]? := fun C => World.cell?_alloc_mark w C 30 (0, 0) j
    rw [e]
    have hj2 : (order18.map fun g => Value.iface 127 (.pointer (some (ad g))))[j]? = some (.iface 127 (.pointer (some (ad g)))) := by rw [List.getElem?_map, hj]; rfl
    rw [← hj2]
    simp [order18])
  go_wp2_with fail
  generalize hWW : w.alloc (.cells #[.iface 127 (.pointer (some (ad 0))), .iface 127 (.pointer (some (ad 2))), .iface 127 (.pointer (some (ad 3))), .iface 127 (.pointer (some (ad 4))), .iface 127 (.pointer (some (ad 5))), .iface 127 (.pointer (some (ad 6))), .iface 127 (.pointer (some (ad 7))), .iface 127 (.pointer (some (ad 8))), .iface 127 (.pointer (some (ad 9))), .iface 127 (.pointer (some (ad 10))), .iface 127 (.pointer (some (ad 11))), .iface 127 (.pointer (some (ad 12))), .iface 127 (.pointer (some (ad 13))), .iface 127 (.pointer (some (ad 1))), .iface 127 (.pointer (some (ad 14))), .iface 127 (.pointer (some (ad 15))), .iface 127 (.pointer (some (ad 16))), .iface 127 (.pointer (some (ad 17)))] 30) = WW at *
  have HBW : Hid (Below w.heap.size w WW) := Lib.hid (by rw [← hWW]; exact (Below.refl _ _).alloc (Nat.le_refl _) _)
  clear hWW c0 c1 c2 c3 c4 c5 c6 c7 c8 c9 c10 c11 c12 c13 c14 c15 c16 c17
  have H2 := Lib.hid (H.out.below H.out.lt HBW.out)
  go_loop [29] (fun i => ∃ j : Nat, j ≤ p ∧ i = .int .i64 j) (fun i => 18 - (intOf i).toNat)
  case atStart => exact ⟨0, Nat.zero_le _, rfl⟩
  case round =>
    obtain ⟨j, hj, rfl⟩ := hrel
    obtain ⟨g, hg⟩ : ∃ g, order18[j]? = some g := ⟨_, List.getElem?_eq_getElem (show j < order18.length by show j < 18; omega)⟩
    have hgm : g ∈ order18 := List.mem_of_getElem? hg
    have hcj := HCEL.out j g hg
    have hjI : (j : Int) < 18 := by omega
    by_cases hjp : j = p
    · subst hjp
      have hgk : g = k := by have h1 := HP.out; rw [hg] at h1; exact Option.some.inj h1
      subst hgk
      have hq := err_same (ad g)
      clear hg
      go_wp2_with fail
      go_ret
      exact ⟨ret_int (by rw [HNO.out]; simp), HBW.out⟩
    · have hgk : k ≠ g := by
        rintro rfl
        have h1 := HP.out
        have hnd : order18.Nodup := by decide
        have h2 := (List.getElem?_eq_some_iff.1 hg)
        have h3 := (List.getElem?_eq_some_iff.1 h1)
        obtain ⟨x1, x2⟩ := h2
        obtain ⟨y1, y2⟩ := h3
        exact hjp ((List.getElem_inj hnd).1 (x2.trans y2.symm))
      obtain ⟨ca, ta, hra⟩ := H2.out.row k HK.out
      obtain ⟨cb, tb, hrb⟩ := H2.out.row g hgm
      have hq := err_other (H2.out.ne k HK.out g hgm hgk) hra hrb
      clear hra hrb hg
      go_wp2_with fail
      exact ⟨⟨j + 1, by omega, by go_num⟩, by simp [intOf]; omega⟩
def laid18 : List (String × DataW Unit) := [("jackfield/api.ErrRange", Rows.laid_jackfield_api_ErrRange), ("jackfield/api.ErrShort", Rows.laid_jackfield_api_ErrShort), ("jackfield/api.ErrLong", Rows.laid_jackfield_api_ErrLong), ("jackfield/api.ErrTail", Rows.laid_jackfield_api_ErrTail), ("jackfield/api.ErrBroken", Rows.laid_jackfield_api_ErrBroken), ("jackfield/api.ErrPower", Rows.laid_jackfield_api_ErrPower), ("jackfield/api.ErrFrame", Rows.laid_jackfield_api_ErrFrame), ("jackfield/api.ErrFull", Rows.laid_jackfield_api_ErrFull), ("jackfield/api.ErrGap", Rows.laid_jackfield_api_ErrGap), ("jackfield/api.ErrName", Rows.laid_jackfield_api_ErrName), ("jackfield/api.ErrTaken", Rows.laid_jackfield_api_ErrTaken), ("jackfield/api.ErrNone", Rows.laid_jackfield_api_ErrNone), ("jackfield/api.ErrOwner", Rows.laid_jackfield_api_ErrOwner), ("jackfield/api.ErrProof", Rows.laid_jackfield_api_ErrProof), ("jackfield/api.ErrWindow", Rows.laid_jackfield_api_ErrWindow), ("jackfield/api.ErrStream", Rows.laid_jackfield_api_ErrStream), ("jackfield/api.ErrState", Rows.laid_jackfield_api_ErrState), ("jackfield/api.ErrBusy", Rows.laid_jackfield_api_ErrBusy)]
theorem sents18 {W : World} (h : laidMetH Tryd.prog laid18 W) : ∃ E, Sents W E order18 := by
  rw [MakeChecks.laidMetH_plain _ _ _ (by kernel_rfl)] at h
  refine sents_of_laid laid18 order18 h ?_ (by kernel_rfl) ?_
  · intro x hx
    simp only [laid18, List.mem_cons, List.not_mem_nil, or_false] at hx
    rcases hx with rfl | rfl | rfl | rfl | rfl | rfl | rfl | rfl | rfl | rfl | rfl | rfl | rfl | rfl | rfl | rfl | rfl | rfl <;> exact ⟨_, rfl⟩
  · have hall : (order18.all fun g => (Tryd.prog.globals[g]?).map (·.type) == some 30) = true := by kernel_rfl
    intro g hg
    have := List.all_eq_true.1 hall g hg
    simpa using this
theorem door_met18 (os : Os) (args : Array Value) : laidMetH Tryd.prog laid18 ((World.doorLaid Tryd.prog 400 os).forCall (fun _ _ => 0) ⟨#[], args, []⟩).memory :=
  laidMetH_of_parts3 (fuel := 8) (laidMet_of_run' 8 (by kernel_rfl) (by kernel_rfl)) (by kernel_rfl) (by kernel_rfl)
end Go.Proofs.YtchnbknbccpmcaaDoor

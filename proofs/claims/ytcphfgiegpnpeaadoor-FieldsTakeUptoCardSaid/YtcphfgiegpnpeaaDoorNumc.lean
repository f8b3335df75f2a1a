/- What jackfieldnum.Num answers: an error's number. -/
import Derived.Test.YtcphfgiegpnpeaaDoorRefa
import Derived.Test.YtcphfgiegpnpeaaDoorLaid
namespace Go.Proofs.YtcphfgiegpnpeaaDoor
open Go.RowKit

def order18 : List Nat := [3, 1, 4, 0, 5, 6, 7, 8, 9, 10, 11, 12, 13, 14, 15, 16, 2, 17]
/-- An error's number, by its variable's. -/
def numOf (k : Nat) : Nat := order18.idxOf k + 1

/-- 'the eighteen errors' variables hold pointers of their own'. -/
structure Eighteen (w : World) (E : Nat → Value) (ad : Nat → Addr) : Prop where
  val : ∀ g ∈ order18, E g = .iface 79 (.pointer (some (ad g)))
  cell : ∀ g ∈ order18, w.cell? ⟨g, 0, none⟩ = some (.iface 79 (.pointer (some (ad g))))
  row : ∀ g ∈ order18, ∃ c t, w.heap[(ad g).block]? = some (.cells c t (0, 0))
  ne : ∀ g ∈ order18, ∀ h ∈ order18, g ≠ h → ad g ≠ ad h
def adOf (v : Value) : Addr := match v with
  | .iface _ (.pointer (some a)) => a
  | _ => default
theorem eighteen_of {w : World} {E : Nat → Value} (h : Sents w E order18) : ∃ ad, Eighteen w E ad := by
  have hv : ∀ g ∈ order18, E g = .iface 79 (.pointer (some (adOf (E g)))) := by
    intro g hg
    obtain ⟨a, c, t, he, _⟩ := h.at_ g hg
    rw [he]
    rfl
  refine ⟨fun g => adOf (E g), hv, ?_, ?_, ?_⟩
  · intro g hg
    obtain ⟨a, c, t, he, hc, _⟩ := h.at_ g hg
    rw [hc, ← hv g hg]
  · intro g hg
    obtain ⟨a, c, t, he, _, hr⟩ := h.at_ g hg
    exact ⟨c, t, by rw [he]; exact hr⟩
  · intro g hg k hk hne e
    apply h.ne g hg k hk hne
    rw [hv g hg, hv k hk]
    have e' : adOf (E g) = adOf (E k) := e
    rw [e']
theorem Eighteen.below {w w' : World} {E : Nat → Value} {ad : Nat → Addr} (h : Eighteen w E ad) (h18 : 18 ≤ w.heap.size) (hb : Below w.heap.size w w') : Eighteen w' E ad := by
  refine ⟨h.val, ?_, ?_, h.ne⟩
  · intro g hg
    have hlt : g < 18 := by
      have : ∀ g ∈ order18, g < 18 := by decide
      exact this g hg
    rw [hb.cell (p := ⟨g, 0, none⟩) (show g < w.heap.size by omega)]
    exact h.cell g hg
  · intro g hg
    obtain ⟨c, t, hr⟩ := h.row g hg
    have hlt : (ad g).block < w.heap.size := (Array.getElem?_eq_some_iff.1 hr).1
    exact ⟨c, t, (hb.block _ hlt).trans hr⟩

/-- Two errors that are not one. -/
theorem eql_other {W : World} {a b : Addr} {ca cb : Array Value} {ta tb : TypeId} (hne : a ≠ b) (ha : W.heap[a.block]? = some (.cells ca ta (0, 0))) (hb : W.heap[b.block]? = some (.cells cb tb (0, 0))) :
    (binOp .eql 26 (.iface 79 (.pointer (some a))) (.iface 79 (.pointer (some b)))).run Tryd.prog W = .ok (.bool false) W := by
  obtain ⟨i, hi, hcmp⟩ := Option.map_eq_some_iff.1 comp79
  obtain ⟨j, hj, hsz⟩ := Option.map_eq_some_iff.1 size97
  exact run_eql_iface_ptr_other W Tryd.underlying26 Tryd.underlying79 hi hcmp hj (by omega) hne ha hb

set_option maxHeartbeats 400000 in
theorem num_none (w : World) : Calls Tryd.prog 16 #[.nilIface] w fun e w' => e = .returned (.int .i64 0) ∧ w = w' := by
  go_enter Tryd.func16, Tryd.ntmps16
  go_wp2_with fail
  go_ret
  exact ⟨rfl, rfl⟩

set_option maxHeartbeats 400000 in
theorem num_err (E : Nat → Value) (ad : Nat → Addr) (k : Nat) (w : World) (h : Eighteen w E ad) (h18 : 18 ≤ w.heap.size) (hk : k ∈ order18) :
    Calls Tryd.prog 16 #[.iface 79 (.pointer (some (ad k)))] w fun e w' => e = .returned (.int .i64 (numOf k : Int)) ∧ Below w.heap.size w w' := by
  have H := Lib.hid h
  have hp0 : order18.idxOf k < order18.length := List.idxOf_lt_length_iff.2 hk
  have HP : Hid (order18[order18.idxOf k]? = some k) := Lib.hid (by rw [List.getElem?_eq_getElem hp0, List.getElem_idxOf])
  have hp : order18.idxOf k < 18 := hp0
  clear hp0
  have HNO : Hid (numOf k = order18.idxOf k + 1) := Lib.hid rfl
  have HK := Lib.hid hk
  have c0 := h.cell 0 (by decide)
  have c1 := h.cell 1 (by decide)
  have c2 := h.cell 2 (by decide)
  have c3 := h.cell 3 (by decide)
  have c4 := h.cell 4 (by decide)
  have c5 := h.cell 5 (by decide)
  have c6 := h.cell 6 (by decide)
  have c7 := h.cell 7 (by decide)
  have c8 := h.cell 8 (by decide)
  have c9 := h.cell 9 (by decide)
  have c10 := h.cell 10 (by decide)
  have c11 := h.cell 11 (by decide)
  have c12 := h.cell 12 (by decide)
  have c13 := h.cell 13 (by decide)
  have c14 := h.cell 14 (by decide)
  have c15 := h.cell 15 (by decide)
  have c16 := h.cell 16 (by decide)
  have c17 := h.cell 17 (by decide)
  clear h hk
  generalize hpp : order18.idxOf k = p at *
  clear hpp
  go_enter Tryd.func16, Tryd.ntmps16
  have HCEL : Hid (∀ (j : Nat) (g : Nat), order18[j]? = some g → (w.alloc (.cells #[.iface 79 (.pointer (some (ad 3))), .iface 79 (.pointer (some (ad 1))), .iface 79 (.pointer (some (ad 4))), .iface 79 (.pointer (some (ad 0))), .iface 79 (.pointer (some (ad 5))), .iface 79 (.pointer (some (ad 6))), .iface 79 (.pointer (some (ad 7))), .iface 79 (.pointer (some (ad 8))), .iface 79 (.pointer (some (ad 9))), .iface 79 (.pointer (some (ad 10))), .iface 79 (.pointer (some (ad 11))), .iface 79 (.pointer (some (ad 12))), .iface 79 (.pointer (some (ad 13))), .iface 79 (.pointer (some (ad 14))), .iface 79 (.pointer (some (ad 15))), .iface 79 (.pointer (some (ad 16))), .iface 79 (.pointer (some (ad 2))), .iface 79 (.pointer (some (ad 17)))] 26)).cell? ⟨w.heap.size, j, none⟩ = some (.iface 79 (.pointer (some (ad g))))) := Lib.hid (by
    intro j g hj
    have e : ∀ C : Array Value, (w.alloc (.cells C 26)).cell? ⟨w.heap.size, j, none⟩ = C[j]? := fun C => World.cell?_alloc_mark w C 26 (0, 0) j
    rw [e]
    have hj2 : (order18.map fun g => Value.iface 79 (.pointer (some (ad g))))[j]? = some (.iface 79 (.pointer (some (ad g)))) := by rw [List.getElem?_map, hj]; rfl
    rw [← hj2]
    simp [order18])
  go_wp2_with fail
  generalize hWW : w.alloc (.cells #[.iface 79 (.pointer (some (ad 3))), .iface 79 (.pointer (some (ad 1))), .iface 79 (.pointer (some (ad 4))), .iface 79 (.pointer (some (ad 0))), .iface 79 (.pointer (some (ad 5))), .iface 79 (.pointer (some (ad 6))), .iface 79 (.pointer (some (ad 7))), .iface 79 (.pointer (some (ad 8))), .iface 79 (.pointer (some (ad 9))), .iface 79 (.pointer (some (ad 10))), .iface 79 (.pointer (some (ad 11))), .iface 79 (.pointer (some (ad 12))), .iface 79 (.pointer (some (ad 13))), .iface 79 (.pointer (some (ad 14))), .iface 79 (.pointer (some (ad 15))), .iface 79 (.pointer (some (ad 16))), .iface 79 (.pointer (some (ad 2))), .iface 79 (.pointer (some (ad 17)))] 26) = WW at *
  have HBW : Hid (Below w.heap.size w WW) := Lib.hid (by rw [← hWW]; exact (Below.refl _ _).alloc (Nat.le_refl _) _)
  clear hWW c0 c1 c2 c3 c4 c5 c6 c7 c8 c9 c10 c11 c12 c13 c14 c15 c16 c17
  have H2 := Lib.hid (H.out.below h18 HBW.out)
  go_loop [29] (fun i => ∃ j : Nat, j ≤ p ∧ i = .int .i64 j) (fun i => 18 - (intOf i).toNat)
  case atStart => exact ⟨0, Nat.zero_le _, rfl⟩
  case round =>
    obtain ⟨j, hj, rfl⟩ := hrel
    obtain ⟨g, hg⟩ : ∃ g, order18[j]? = some g := ⟨_, List.getElem?_eq_getElem (show j < order18.length by show j < 18; omega)⟩
    have hgm : g ∈ order18 := List.mem_of_getElem? hg
    have hcj := HCEL.out j g hg
    have hjI : (j : Int) < 18 := by omega
    by_cases hjp : j = p
    · subst hjp
      have hgk : g = k := by have h1 := HP.out; rw [hg] at h1; exact Option.some.inj h1
      subst hgk
      have hq := eql_same (ad g)
      clear hg
      go_wp2_with fail
      go_ret
      exact ⟨ret_int (by rw [HNO.out]; simp), HBW.out⟩
    · have hgk : k ≠ g := by
        rintro rfl
        have h1 := HP.out
        have hnd : order18.Nodup := by decide
        have h2 := (List.getElem?_eq_some_iff.1 hg)
        have h3 := (List.getElem?_eq_some_iff.1 h1)
        obtain ⟨x1, x2⟩ := h2
        obtain ⟨y1, y2⟩ := h3
        exact hjp ((List.getElem_inj hnd).1 (x2.trans y2.symm))
      obtain ⟨ca, ta, hra⟩ := H2.out.row k HK.out
      obtain ⟨cb, tb, hrb⟩ := H2.out.row g hgm
      have hq := eql_other (H2.out.ne k HK.out g hgm hgk) hra hrb
      clear hra hrb hg
      go_wp2_with fail
      exact ⟨⟨j + 1, by omega, by go_num⟩, by simp [intOf]; omega⟩
end Go.Proofs.YtcphfgiegpnpeaaDoor

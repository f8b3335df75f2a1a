/- The document's pair: Take. -/
import Derived.Test.YtlceemaannndbaaDoorRefc
namespace Go.Proofs.YtlceemaannndbaaDoor
open Go.RowKit

def Rp.takes (P : Rp) (i n : Nat) : Nat := min n ((P.ws i).car - (P.ws i).rd)
def Rp.took (P : Rp) (i n : Nat) : Rp := P.put i { P.ws i with rd := (P.ws i).rd + P.takes i n }
theorem rtook_is_ok {P : Rp} (h : P.ok) (i n : Nat) : (P.took i n).ok := by
  have k1 := h.rd i
  have k2 := h.car i
  have k3 := h.left i
  refine rput_ok h i _ ?_ (h.car i) ?_ (h.big i)
  · show (P.ws i).rd + P.takes i n ≤ (P.ws i).car
    rw [Rp.takes]; omega
  · show (P.ws i).all.length ≤ (P.ws i).rd + P.takes i n + P.room
    omega
theorem sub_nat {a b t : Nat} (h : b ≤ a) (e : a - b = t) : (a : Int) - (b : Int) = (t : Int) := by omega
/-- A slice's middle. -/
theorem run_mid (w : World) (A : Option Addr) (L cap a b : Nat) (ha : a ≤ b) (hb : b ≤ cap) (y z : Int) (hy : y = (a : Int)) (hz : z = (b : Int)) :
    (Instr.slice 30 (.slice A L cap) (some (.int .i64 y)) (some (.int .i64 z)) none).run Tryd.prog w = .ok (.slice (if cap = a then A else A.map (·.add a)) (b - a) (cap - a)) w := by
  subst hy hz
  obtain ⟨i0, hi0, _, hz1, _⟩ := info_parts' u8_info
  have h := run_slice_lh (P := Tryd.prog) w 30 A L cap (by rw [show Tryd.prog.elem 30 = 5 by kernel_rfl]; exact Tryd.underlying30) .i64 .i64 (a : Int) (b : Int) (by omega) (by omega) (by omega)
  rw [h, show Tryd.prog.elem 30 = 5 by kernel_rfl]
  simp [sizeOf, typeInfo, hi0, hz1, sliced]

set_option maxHeartbeats 4000000 in
theorem rtake_ok {B : Nat} {F : Nat → Prop} {P : Rp} (g i j n : Nat) (w : World) (h : RefAt w B F g P) (hi : i < 2) (hj : j = 1 - i) (hn : n ≤ 9223372036854775807) (hc : P.cut = true → (P.ws j).rd ≠ (P.ws j).car) :
    Calls Tryd.prog 20 #[.pointer (some ⟨g, 0, none⟩), .int .i64 (i : Int), .int .i64 (n : Int)] w fun x w' => ∃ A m c, x = .returned (.tuple #[.slice A m c, .int .i64 0]) ∧
      Hid (((P.ws j).all.drop (P.ws j).rd |>.take (P.takes j n)).length = m ∧ Rd w' w'.heap.size A (((P.ws j).all.drop (P.ws j).rd |>.take (P.takes j n)).map bv) ∧ RefAt w' B F g (P.took j n) ∧ Turn F w w') := by
  obtain ⟨v, h, hok⟩ := h
  obtain ⟨A, cap, hv, h1, h2, c0, c1, c2, c3⟩ := h.at (i := j) (by omega)
  have cc := h.cut
  have f2 := h.row.frozen (1 + j * 4 + 2)
  have k1 := hok.rd j
  have k2 := hok.car j
  have k5 := hok.big j
  have HV := Lib.hid h
  have HVI := Lib.hid hv
  have HTO := Lib.hid (rtook_is_ok hok j n)
  clear h hok hv
  obtain ⟨t, HT⟩ : ∃ t, Hid (P.takes j n = t) := ⟨_, Lib.hid rfl⟩
  have htm : t = min n ((P.ws j).car - (P.ws j).rd) := HT.out.symm
  have ht : (¬ (((P.ws j).car : Int) - ((P.ws j).rd : Int)) < (n : Int) ∧ n = t) ∨ ((((P.ws j).car : Int) - ((P.ws j).rd : Int)) < (n : Int) ∧ (P.ws j).car - (P.ws j).rd = t) := by omega
  have htc : (P.ws j).rd + t ≤ (P.ws j).car := by omega
  clear htm
  obtain ⟨X, HX⟩ : ∃ X : Option Addr, Shut (X = (if cap = (P.ws j).rd then A else A.map (·.add (P.ws j).rd))) := ⟨_, ⟨rfl⟩⟩
  have hsl : ∀ w', (Instr.slice 30 (.slice A (P.ws j).all.length cap) (some (.int .i64 ((P.ws j).rd : Int))) (some (.int .i64 (((P.ws j).rd : Int) + (t : Int)))) none).run Tryd.prog w' = .ok (.slice X t (cap - (P.ws j).rd)) w' := fun w' => by
    rw [HX.out]
    have := run_mid w' A (P.ws j).all.length cap (P.ws j).rd ((P.ws j).rd + t) (by omega) (by omega) _ _ rfl rfl
    rw [Nat.add_sub_cancel_left] at this
    rw [← this]
    rfl
  have HRD : Hid (∀ w' : World, w.heap.size ≤ w'.heap.size → (∀ k, (v j).ownBlock = some k → w'.heap[k]? = w.heap[k]?) → Rd w' w'.heap.size X (((P.ws j).all.drop (P.ws j).rd |>.take t).map bv)) := Lib.hid (fun w' hs hk => by
    have hsp := (HV.out.span j (by omega)).keep hs hk
    rw [HVI.out] at hsp
    have hd := hsp.drop (P.ws j).rd (by omega)
    obtain ⟨A', cap', e, _, _, hr⟩ := hd.slice
    injection e with e1 e2 e3
    rw [HX.out, e1, List.map_take]
    exact hr.take t)
  have HLEN : Hid (((P.ws j).all.drop (P.ws j).rd |>.take t).length = t) := Lib.hid (by rw [List.length_take, List.length_drop]; omega)
  have HP : Hid (P.took j n = P.put j { P.ws j with rd := (P.ws j).rd + t }) := Lib.hid (by rw [Rp.took, HT.out])
  have hneg : ¬ (n : Int) < 0 := by omega
  have hw1 : IntKind.i64.wrap (((P.ws j).rd : Int) + (t : Int) - (t : Int)) = ((P.ws j).rd : Int) := by rw [IntKind.wrap_i64]; omega
  have hw2 : IntKind.i64.wrap ((P.ws j).rd : Int) = ((P.ws j).rd : Int) := by rw [IntKind.wrap_i64]; omega
  have HFIN : Hid (∀ nn mm, Rd ((w.drewN nn).setCell ⟨g, 1 + j * 4 + 2, none⟩ (.int .i64 (((P.ws j).rd : Int) + (t : Int))) |>.drewN mm) ((w.drewN nn).setCell ⟨g, 1 + j * 4 + 2, none⟩ (.int .i64 (((P.ws j).rd : Int) + (t : Int))) |>.drewN mm).heap.size X (((P.ws j).all.drop (P.ws j).rd |>.take t).map bv) ∧
      RefAt ((w.drewN nn).setCell ⟨g, 1 + j * 4 + 2, none⟩ (.int .i64 (((P.ws j).rd : Int) + (t : Int))) |>.drewN mm) B F g (P.took j n) ∧ Turn F w ((w.drewN nn).setCell ⟨g, 1 + j * 4 + 2, none⟩ (.int .i64 (((P.ws j).rd : Int) + (t : Int))) |>.drewN mm)) := Lib.hid (fun nn mm => by
    refine ⟨HRD.out _ (by simp [World.setCell, World.drewN]) (fun k hk => ?_), ⟨v, ?_, HTO.out⟩, ?_⟩
    · exact Below.heap_setCell _ _ _ _ (fun e => HV.out.ne j (by omega) (by rw [hk]; exact congrArg some e))
    · rw [HP.out]
      exact ((HV.out.drewN nn).setRd (by omega) _ _ (by omega)).drewN mm
    · exact (((Stay.drewN w nn).turn F).setCell _ (fun _ => HV.out.self) _).stay (Stay.drewN _ mm))
  have HC := Lib.hid hc
  clear hc
  have hcc : P.cut = false ∨ (P.cut = true ∧ (((P.ws j).rd : Int) == ((P.ws j).car : Int)) = false) := by
    cases hcc : P.cut
    · exact .inl rfl
    · have := HC.out hcc
      exact .inr ⟨rfl, by simp; omega⟩
  rcases (by omega : i = 0 ∧ j = 1 ∨ i = 1 ∧ j = 0) with ⟨rfl, rfl⟩ | ⟨rfl, rfl⟩
  all_goals
    clear hj
    rcases hcc with hcc | ⟨hcc, hne⟩
    all_goals
      rw [hcc] at cc
      clear hcc
      rcases ht with ⟨ht, rfl⟩ | ⟨ht, hte⟩
      · go_enter Tryd.func20, Tryd.ntmps20
        go_wp2_with (first
          | (go_at_call 33; (with_reducible refine (rend_any _ _).mono ?_); rintro x w' ⟨rfl, rfl⟩))
        go_quiet (fail)
        go_wp2_with fail
        go_quiet (fail)
        go_wp2_with fail
        go_quiet (fail)
        go_wp2_with fail
        go_ret2
        exact ⟨_, _, _, rfl, Lib.hid (by rw [HT.out]; exact ⟨HLEN.out, HFIN.out _ _⟩)⟩
      · have HKE := Lib.hid (sub_nat k1 hte)
        clear hte
        go_enter Tryd.func20, Tryd.ntmps20
        go_wp2_with (first
          | (go_at_call 33; (with_reducible refine (rend_any _ _).mono ?_); rintro x w' ⟨rfl, rfl⟩))
        go_quiet (fail)
        go_wp2_with fail
        go_quiet (fail)
        go_wp2_with fail
        go_quiet (fail)
        rw [HKE.out]
        go_wp2_with fail
        go_quiet (fail)
        go_wp2_with fail
        go_ret2
        exact ⟨_, _, _, rfl, Lib.hid (by rw [HT.out]; exact ⟨HLEN.out, HFIN.out _ _⟩)⟩
theorem rtake_cut {B : Nat} {F : Nat → Prop} {P : Rp} (g i j n : Nat) (w : World) (h : RefAt w B F g P) (hi : i < 2) (hj : j = 1 - i) (hc : P.cut = true) (h0 : (P.ws j).rd = (P.ws j).car) :
    Calls Tryd.prog 20 #[.pointer (some ⟨g, 0, none⟩), .int .i64 (i : Int), .int .i64 (n : Int)] w fun x w' => x = .returned (.tuple #[.slice none 0 0, .int .i64 5]) ∧ ∃ m, w' = w.drewN m := by
  obtain ⟨v, h, hok⟩ := h
  obtain ⟨A, cap, hv, h1, h2, c0, c1, c2, c3⟩ := h.at (i := j) (by omega)
  have cc := h.cut
  rw [hc] at cc
  have he : (((P.ws j).rd : Int) == ((P.ws j).car : Int)) = true := by rw [h0]; simp
  have hneg : ¬ (n : Int) < 0 := by omega
  clear h hok hc h0 hv
  rcases (by omega : i = 0 ∧ j = 1 ∨ i = 1 ∧ j = 0) with ⟨rfl, rfl⟩ | ⟨rfl, rfl⟩
  all_goals
    clear hj
    go_enter Tryd.func20, Tryd.ntmps20
    go_wp2_with (first
      | (go_at_call 33; (with_reducible refine (rend_any _ _).mono ?_); rintro x w' ⟨rfl, rfl⟩))
    go_quiet (fail)
    go_wp2_with fail
    go_ret2
    exact ⟨rfl, _, rfl⟩
theorem rtake_bad (a : Addr) (e n : Int) (w : World) (h : (endB e && decide (0 ≤ n)) = false) :
    Calls Tryd.prog 20 #[.pointer (some a), .int .i64 e, .int .i64 n] w fun x w' => x = .returned (.tuple #[.slice none 0 0, .int .i64 1]) ∧ w = w' := by
  cases he : endB e
  · have HE := Lib.hid he
    clear he h
    go_enter Tryd.func20, Tryd.ntmps20
    go_wp2_with (first
      | (go_at_call 33; (with_reducible refine (rend_false _ HE.out _).mono ?_); rintro x w' ⟨rfl, rfl⟩))
    go_ret2
    exact ⟨rfl, rfl⟩
  · have hneg : n < 0 := by rw [he] at h; simp at h; exact h
    have HE := Lib.hid he
    clear he h
    go_enter Tryd.func20, Tryd.ntmps20
    go_wp2_with (first
      | (go_at_call 33; (with_reducible refine (rend_any _ _).mono ?_); rintro x w' ⟨rfl, rfl⟩; rw [HE.out]))
    go_ret2
    exact ⟨rfl, rfl⟩
end Go.Proofs.YtlceemaannndbaaDoor

/- What Read answers. -/
import Derived.Test.YtadhgdjgpanddaaDoorWrite
import Derived.Laws.ResultCell
import Derived.Laws.Rows
namespace Go.Proofs.YtadhgdjgpanddaaDoor
open Go.RowKit

theorem results_cell_two {fn : Func} {p u : Tmp} {ty : TypeId} (h : fn.results = #[.cell p ty, .tmp u]) (tmps : Array Value) (w : World) (g : Nat) (t : TypeId) (cs : List Value) (d : TypeDesc) (v : Value)
    (hp : tmps.getD p undef = .pointer (some ⟨g, 0, none⟩)) (hv : tmps.getD u undef = v) (hr : Row w g t cs) (hu : Tryd.prog.underlying ty = some d) (hd : d.isRow = true) (hi : (Tryd.prog.info? ty).map (·.size) = some cs.length) :
    (results fn tmps).run Tryd.prog w = .ok (.tuple #[.agg cs.toArray, v]) w := by
  rw [results_cell_tmp h, hp, hv]
  have h1 := run_loadVar_mid (P := Tryd.prog) w g 0 ty cs d (hr.range (es := []) (by simp)) hu hd hi
  simp [asAddr, h1]
/-- A block's bytes. -/
def Dm.block (D : Dm) (i : Nat) : List UInt8 := (D.all.drop (i * 64)).take 64
theorem block_length {D : Dm} (hk : D.ok) {i : Nat} (hi : i < D.n) : (D.block i).length = 64 := by
  have := block_fits hk hi
  simp [Dm.block]
  omega
def zeros64 : List UInt8 := List.replicate 64 0
theorem zeros_cells : (List.replicate 64 (Value.int .u8 0)) = zeros64.map bv := by simp [zeros64, bv]

set_option maxHeartbeats 1000000 in
theorem read_ok {h : Nat} {D : Dm} (g i : Nat) (w : World) (H : DrumAt w g h D) (ho : D.off = false) (hi : i < D.n) :
    Calls Tryd.prog 19 #[.pointer (some ⟨g, 0, none⟩), .int .i64 (i : Int)] w fun x w' => ∃ A, x = .returned (.tuple #[.agg A, .nilIface]) ∧ Hid (A = ((D.block i).map bv).toArray ∧ Below w.heap.size w w') := by
  obtain ⟨L, HL⟩ : ∃ L, Shut (L = (D.block i).map bv) := ⟨_, ⟨rfl⟩⟩
  have HLL : Shut (L.length = 64 ∧ (∀ v ∈ L, v.oneCell' = true) ∧ (Tryd.prog.info? 47).map (·.size) = some L.length) := ⟨by
    have h1 : L.length = 64 := by rw [HL.out, List.length_map, block_length H.ok hi]
    exact ⟨h1, by rw [HL.out]; exact bytes_one _, by rw [h1]; exact size47⟩⟩
  have HR : Hid (∀ w', Below w.heap.size w w' → w'.rangeAt h (i * 64) L) := Lib.hid (fun w' hb => by
    rw [HL.out]
    refine (H.under hb).blk.range (es := ((D.all.drop (i * 64)).drop 64).map bv) ?_
    rw [← List.map_drop, ← List.map_append]
    unfold Dm.block
    rw [List.take_append_drop])
  have HH := Lib.hid H
  have HO := Lib.hid ho
  have hii : (i : Int) < (D.n : Int) := by omega
  clear H ho
  go_enter Tryd.func19, Tryd.ntmps19
  go_wp2_with (first
    | (refine wl_alloc rfl 47 rfl 4 rfl _ _ info47 ?_
       intro w1 H1
       have H1D := Lib.hid (HH.out.under H1.out.2.1)
       have c3 := H1D.out.c3)
    | (go_at_call 27; (with_reducible refine (refusal_ok g i _ H1D.out HO.out hi).mono ?_); rintro x w' ⟨rfl, rfl⟩)
    | (refine wl_load rfl 47 (.tmp 19) rfl h (i * 64) rfl L _ (HR.out _ H1.out.2.1) under47 rfl HLL.out.2.2 ?_
       intro v2 HV2)
    | (refine wl_store rfl 47 (.tmp 4) (.tmp 20) rfl w.heap.size 0 _ L rfl rfl HV2.out 47 _ H1.out.1 HLL.out.2.2 (by rw [HLL.out.1]; simp) HLL.out.2.1 ?_
       intro w3 H3))
  refine bodyPost_ret (v := .tuple #[.agg L.toArray, .nilIface]) (results_cell_two Tryd.results19 _ w3 w.heap.size 47 L _ _ rfl rfl ?_ under47 rfl HLL.out.2.2) rfl ?_
  · have := H3.out.1
    have e : splice (List.replicate 64 (Value.int .u8 0)) 0 L = L := by simp [splice, HLL.out.1]
    rwa [e] at this
  · refine ⟨L.toArray, rfl, Lib.hid ⟨by rw [HL.out], H1.out.2.1.trans (H3.out.2.1.below (fun k hk => by omega) H1.out.2.1.size)⟩⟩
/-- What Read answers beside an error: a block of bytes 0. -/
theorem read_bad {h : Nat} {D : Dm} (e : Value) (g : Nat) (z : Int) (w : World) (H : DrumAt w g h D)
    (hf : ∀ w', Below w.heap.size w w' → Calls Tryd.prog 27 #[.pointer (some ⟨g, 0, none⟩), .int .i64 z] w' fun x w'' => x = .returned (.iface 67 e) ∧ w' = w'') :
    Calls Tryd.prog 19 #[.pointer (some ⟨g, 0, none⟩), .int .i64 z] w fun x w' => ∃ A, x = .returned (.tuple #[.agg A, .iface 67 e]) ∧ Hid (A = (zeros64.map bv).toArray ∧ Below w.heap.size w w') := by
  obtain ⟨L, HL⟩ : ∃ L, Shut (L = zeros64.map bv) := ⟨_, ⟨rfl⟩⟩
  have HLL : Shut (L.length = 64 ∧ (∀ v ∈ L, v.oneCell' = true) ∧ (Tryd.prog.info? 47).map (·.size) = some L.length) := ⟨by
    have h1 : L.length = 64 := by rw [HL.out]; simp [zeros64]
    exact ⟨h1, by rw [HL.out]; exact bytes_one _, by rw [h1]; exact size47⟩⟩
  have HF := Lib.hid hf
  have HZ : Shut (∀ v, v = Value.agg (List.replicate 64 (Value.int .u8 0)).toArray → v = .agg L.toArray) := ⟨fun v hv => by rw [hv, zeros_cells, HL.out]⟩
  clear H hf
  go_enter Tryd.func19, Tryd.ntmps19
  go_wp2_with (first
    | (refine wl_alloc rfl 47 rfl 4 rfl _ _ info47 ?_
       intro w1 H1)
    | (go_at_call 27; (with_reducible refine (HF.out _ H1.out.2.1).mono ?_); rintro x w' ⟨rfl, rfl⟩)
    | (refine wl_store rfl 47 (.tmp 4) (.tmp 12) rfl w.heap.size 0 _ L rfl rfl (HZ.out _ rfl) 47 _ H1.out.1 HLL.out.2.2 (by rw [HLL.out.1]; simp) HLL.out.2.1 ?_
       intro w3 H3))
  refine bodyPost_ret (v := .tuple #[.agg L.toArray, .iface 67 e]) (results_cell_two Tryd.results19 _ w3 w.heap.size 47 L _ _ rfl rfl ?_ under47 rfl HLL.out.2.2) rfl ?_
  · have := H3.out.1
    have e : splice (List.replicate 64 (Value.int .u8 0)) 0 L = L := by simp [splice, HLL.out.1]
    rwa [e] at this
  · refine ⟨L.toArray, rfl, Lib.hid ⟨by rw [HL.out], H1.out.2.1.trans (H3.out.2.1.below (fun k hk => by omega) H1.out.2.1.size)⟩⟩
theorem read_off {h : Nat} {D : Dm} (ad : Nat → Addr) (g : Nat) (z : Int) (w : World) (hE : Errs w ad) (h2 : 2 ≤ w.heap.size) (H : DrumAt w g h D) (ho : D.off = true) :
    Calls Tryd.prog 19 #[.pointer (some ⟨g, 0, none⟩), .int .i64 z] w fun x w' => ∃ A, x = .returned (.tuple #[.agg A, .iface 67 (.pointer (some (ad 1)))]) ∧ Hid (A = (zeros64.map bv).toArray ∧ Below w.heap.size w w') :=
  read_bad _ g z w H (fun w' hb => refusal_off ad g z w' (hE.below h2 hb) (H.under hb) ho)
theorem read_range {h : Nat} {D : Dm} (ad : Nat → Addr) (g : Nat) (z : Int) (w : World) (hE : Errs w ad) (h2 : 2 ≤ w.heap.size) (H : DrumAt w g h D) (ho : D.off = false) (hz : z < 0 ∨ (D.n : Int) ≤ z) :
    Calls Tryd.prog 19 #[.pointer (some ⟨g, 0, none⟩), .int .i64 z] w fun x w' => ∃ A, x = .returned (.tuple #[.agg A, .iface 67 (.pointer (some (ad 0)))]) ∧ Hid (A = (zeros64.map bv).toArray ∧ Below w.heap.size w w') :=
  read_bad _ g z w H (fun w' hb => refusal_range ad g z w' (hE.below h2 hb) (H.under hb) ho hz)
end Go.Proofs.YtadhgdjgpanddaaDoor

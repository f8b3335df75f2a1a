/- frame.Same and the document's Same. -/
import Derived.Test.YtmhfhdbaeijcfaaDoorGD
import Derived.Test.YtmhfhdbaeijcfaaDoorGE
import Derived.BigQuiet
namespace Go.Proofs.YtmhfhdbaeijcfaaDoor
open Go.RowKit
open Go.Proofs.YtmhfhdbaeijcfaaDoor.H
set_option maxRecDepth 100000 in
theorem bits_any (x : Nat) (w : World) : Calls Tryd.prog 46 #[.float .f64 x] w fun e w' => e = .returned (.int .u64 (x : Int)) ∧ w = w' := by
  have hbt := F.run_bits
  go_enter Tryd.func46, Tryd.ntmps46
  go_wp2_with fail
  go_ret
  exact ⟨rfl, rfl⟩

set_option maxRecDepth 100000 in
set_option maxHeartbeats 2000000 in
theorem rsame_true (f g : Fr) (v u : Value) (w : World) (hv : v = f.v) (hu : u = g.v) (hf : f.ok w w.heap.size) (hg : g.ok w w.heap.size) (he : f.pl = g.pl) :
    Calls Tryd.prog 22 #[v, u] w fun e w' => e = .returned (.bool true) ∧ Hid (Below w.heap.size w w') := by
  obtain ⟨gk, gs, gg, gst, ga, gc, gwh, gn, gw, gba, gbc, gbs⟩ := g
  unfold Fr.pl at he
  injection he with h0 h1 h2 h3 h4 h5 h6 h7 h8 h9 h10 h11
  simp only at h0 h1 h2 h3 h4 h5 h6 h7 h8 h11
  subst h0 h1 h2 h3 h4 h5 h6 h7 h8 h11
  clear h9 h10
  have HF := Lib.hid hf.rd
  have HG : Hid (Rd w w.heap.size gba (f.bs.map bv)) := Lib.hid hg.rd
  obtain ⟨n, HN⟩ : ∃ n, Hid (f.bs.length = n) := ⟨_, rfl⟩
  have HV : Hid (v = .agg (f.cells n).toArray) := Lib.hid (by rw [hv, ← HN.out]; rfl)
  have HU : Hid (u = .agg [.int .i64 f.kind, .int .i64 f.seq, .int .i64 f.got, .int .i64 f.stream, .int .i64 f.amount, .int .i64 f.code, .string f.who, .string f.name, .float .f64 f.weight, .slice gba n gbc].toArray) := Lib.hid (by rw [hu, ← HN.out]; rfl)
  obtain ⟨s, HS⟩ : ∃ s, H.Shut (ByteArray.mk f.bs.toArray = s) := ⟨_, ⟨rfl⟩⟩
  clear hv hu hf hg
  have hbt := F.run_bits
  go_enter Tryd.func22, Tryd.ntmps22
  go_wp2_with (first
    | (refine wl_box (o := ⟨some 2, _, _, _, _, _⟩) rfl 25 (.tmp 0) rfl _ HV.out ?_
       intro w1 HA1 HB1 HZ1
       have hz1 : w.heap.size < w1.heap.size := by rw [HZ1.out]; omega)
    | (refine wl_box (o := ⟨some 3, _, _, _, _, _⟩) rfl 25 (.tmp 1) rfl _ HU.out ?_
       intro w2 HA2 HB2 HZ2
       have HA3 := Lib.hid (HA1.out.below HB2.out hz1)
       have HBW := Lib.hid (HB1.out.trans (HB2.out.mono (Nat.le_of_lt hz1)))
       have c0 : w2.cell? ⟨w.heap.size, 0, none⟩ = some (.int .i64 f.kind) := HA3.out.cell 0
       have c1 : w2.cell? ⟨w.heap.size, 1, none⟩ = some (.int .i64 f.seq) := HA3.out.cell 1
       have c2 : w2.cell? ⟨w.heap.size, 2, none⟩ = some (.int .i64 f.got) := HA3.out.cell 2
       have c3 : w2.cell? ⟨w.heap.size, 3, none⟩ = some (.int .i64 f.stream) := HA3.out.cell 3
       have c4 : w2.cell? ⟨w.heap.size, 4, none⟩ = some (.int .i64 f.amount) := HA3.out.cell 4
       have c5 : w2.cell? ⟨w.heap.size, 5, none⟩ = some (.int .i64 f.code) := HA3.out.cell 5
       have c6 : w2.cell? ⟨w.heap.size, 6, none⟩ = some (.string f.who) := HA3.out.cell 6
       have c7 : w2.cell? ⟨w.heap.size, 7, none⟩ = some (.string f.name) := HA3.out.cell 7
       have c8 : w2.cell? ⟨w.heap.size, 8, none⟩ = some (.float .f64 f.weight) := HA3.out.cell 8
       have c9 : w2.cell? ⟨w.heap.size, 9, none⟩ = some (.slice f.ba n f.bc) := HA3.out.cell 9
       have d0 : w2.cell? ⟨w1.heap.size, 0, none⟩ = some (.int .i64 f.kind) := HA2.out.cell 0
       have d1 : w2.cell? ⟨w1.heap.size, 1, none⟩ = some (.int .i64 f.seq) := HA2.out.cell 1
       have d2 : w2.cell? ⟨w1.heap.size, 2, none⟩ = some (.int .i64 f.got) := HA2.out.cell 2
       have d3 : w2.cell? ⟨w1.heap.size, 3, none⟩ = some (.int .i64 f.stream) := HA2.out.cell 3
       have d4 : w2.cell? ⟨w1.heap.size, 4, none⟩ = some (.int .i64 f.amount) := HA2.out.cell 4
       have d5 : w2.cell? ⟨w1.heap.size, 5, none⟩ = some (.int .i64 f.code) := HA2.out.cell 5
       have d6 : w2.cell? ⟨w1.heap.size, 6, none⟩ = some (.string f.who) := HA2.out.cell 6
       have d7 : w2.cell? ⟨w1.heap.size, 7, none⟩ = some (.string f.name) := HA2.out.cell 7
       have d8 : w2.cell? ⟨w1.heap.size, 8, none⟩ = some (.float .f64 f.weight) := HA2.out.cell 8
       have d9 : w2.cell? ⟨w1.heap.size, 9, none⟩ = some (.slice gba n gbc) := HA2.out.cell 9
       have t1 : ∀ q, (convert 23 9 (.slice f.ba n f.bc)).run Tryd.prog (w2.drewN q) = .ok (.string s) (w2.drewN q) := fun q => by rw [← HS.out]; exact Rd.toStr ((HF.out.below HBW.out).drewN q) n f.bc HN.out
       have t2 : ∀ q, (convert 23 9 (.slice gba n gbc)).run Tryd.prog (w2.drewN q) = .ok (.string s) (w2.drewN q) := fun q => by rw [← HS.out]; exact Rd.toStr ((HG.out.below HBW.out).drewN q) n gbc HN.out
       clear HA1 HB1 HZ1 HA2 HB2 HZ2 HA3)    )
  go_quiet ((go_at_call 46; with_reducible exact quietL (bits_any _ _)))
  go_wp2_with fail
  go_ret
  exact ⟨rfl, Lib.hid (below_drewN HBW.out _)⟩
end Go.Proofs.YtmhfhdbaeijcfaaDoor

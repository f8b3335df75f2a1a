/- The document's Same, whole. -/
import Derived.Test.YtmhfhdbaeijcfaaDoorSam
import Derived.Test.YtmhfhdbaeijcfaaDoorDfb0
import Derived.Test.YtmhfhdbaeijcfaaDoorDfb1
import Derived.Test.YtmhfhdbaeijcfaaDoorDfb2
import Derived.Test.YtmhfhdbaeijcfaaDoorDfb3
import Derived.Test.YtmhfhdbaeijcfaaDoorDfb4
import Derived.Test.YtmhfhdbaeijcfaaDoorDfb5
import Derived.Test.YtmhfhdbaeijcfaaDoorDfb6
import Derived.Test.YtmhfhdbaeijcfaaDoorDfb7
import Derived.Test.YtmhfhdbaeijcfaaDoorDfb8
import Derived.Test.YtmhfhdbaeijcfaaDoorDfb9
namespace Go.Proofs.YtmhfhdbaeijcfaaDoor
open Go.RowKit
open Go.Proofs.YtmhfhdbaeijcfaaDoor.H

/-- The document's Same of two frames that are not the same. -/
theorem rsame_false (f g : Fr) (v u : Value) (w : World) (hv : v = f.v) (hu : u = g.v) (hf : f.ok w w.heap.size) (hg : g.ok w w.heap.size) (he : f.pl ≠ g.pl) :
    Calls Tryd.prog 22 #[v, u] w fun e w' => e = .returned (.bool false) ∧ Hid (Below w.heap.size w w') := by
  obtain ⟨fk, fs, fg, fst, fa, fc, fwh, fn, fw, fba, fbc, fbs⟩ := f
  obtain ⟨gk, gs, gg, gst, ga, gc, gwh, gn, gw, gba, gbc, gbs⟩ := g
  have HV : Hid (v = .agg [.int .i64 fk, .int .i64 fs, .int .i64 fg, .int .i64 fst, .int .i64 fa, .int .i64 fc, .string fwh, .string fn, .float .f64 fw, .slice fba fbs.length fbc].toArray) := Lib.hid hv
  have HU : Hid (u = .agg [.int .i64 gk, .int .i64 gs, .int .i64 gg, .int .i64 gst, .int .i64 ga, .int .i64 gc, .string gwh, .string gn, .float .f64 gw, .slice gba gbs.length gbc].toArray) := Lib.hid hu
  have hrf : Rd w w.heap.size fba (fbs.map bv) := hf.rd
  have hrg : Rd w w.heap.size gba (gbs.map bv) := hg.rd
  by_cases h0 : fk = gk
  rotate_left
  · exact differ22_0 fk gk h0 _ _ _ _ _ _ _ _ _ _ _ _ _ _ _ _ _ _ v u w HV HU
  subst h0
  by_cases h1 : fs = gs
  rotate_left
  · exact differ22_1 fk fs gs h1 _ _ _ _ _ _ _ _ _ _ _ _ _ _ _ _ v u w HV HU
  subst h1
  by_cases h2 : fg = gg
  rotate_left
  · exact differ22_2 fk fs fg gg h2 _ _ _ _ _ _ _ _ _ _ _ _ _ _ v u w HV HU
  subst h2
  by_cases h3 : fst = gst
  rotate_left
  · exact differ22_3 fk fs fg fst gst h3 _ _ _ _ _ _ _ _ _ _ _ _ v u w HV HU
  subst h3
  by_cases h4 : fa = ga
  rotate_left
  · exact differ22_4 fk fs fg fst fa ga h4 _ _ _ _ _ _ _ _ _ _ v u w HV HU
  subst h4
  by_cases h5 : fc = gc
  rotate_left
  · exact differ22_5 fk fs fg fst fa fc gc h5 _ _ _ _ _ _ _ _ v u w HV HU
  subst h5
  by_cases h6 : fwh = gwh
  rotate_left
  · exact differ22_6 fk fs fg fst fa fc fwh gwh h6 _ _ _ _ _ _ v u w HV HU
  subst h6
  by_cases h7 : fn = gn
  rotate_left
  · exact differ22_7 fk fs fg fst fa fc fwh fn gn h7 _ _ _ _ v u w HV HU
  subst h7
  by_cases h8 : fw = gw
  rotate_left
  · exact differ22_8 fk fs fg fst fa fc fwh fn fw gw h8 _ _ v u w HV HU
  subst h8
  by_cases h9 : fbs = gbs
  · exact absurd (by rw [h9]; rfl) he
  · exact differ22_9 fk fs fg fst fa fc fwh fn fw _ _ _ _ _ _ fbs gbs h9 rfl rfl v u w hrf hrg HV HU
/-- Whether two frames are the same, wherever their bytes lie. -/
def sameB (f g : Fr) : Bool := decide (f.kind = g.kind) && decide (f.seq = g.seq) && decide (f.got = g.got) && decide (f.stream = g.stream) && decide (f.amount = g.amount) && decide (f.code = g.code) && decide (f.who = g.who) && decide (f.name = g.name) && decide (f.weight = g.weight) && decide (f.bs = g.bs)
theorem sameB_iff (f g : Fr) : sameB f g = true ↔ f.pl = g.pl := by
  obtain ⟨fk, fs, fg, fst, fa, fc, fwh, fn, fw, fba, fbc, fbs⟩ := f
  obtain ⟨gk, gs, gg, gst, ga, gc, gwh, gn, gw, gba, gbc, gbs⟩ := g
  unfold sameB Fr.pl
  simp [and_assoc]
theorem rsame_any (f g : Fr) (v u : Value) (w : World) (hv : v = f.v) (hu : u = g.v) (hf : f.ok w w.heap.size) (hg : g.ok w w.heap.size) :
    Calls Tryd.prog 22 #[v, u] w fun e w' => e = .returned (.bool (sameB f g)) ∧ Hid (Below w.heap.size w w') := by
  cases hb : sameB f g with
  | true => exact rsame_true f g v u w hv hu hf hg ((sameB_iff f g).1 hb)
  | false => exact rsame_false f g v u w hv hu hf hg (fun e => by rw [(sameB_iff f g).2 e] at hb; cases hb)
end Go.Proofs.YtmhfhdbaeijcfaaDoor

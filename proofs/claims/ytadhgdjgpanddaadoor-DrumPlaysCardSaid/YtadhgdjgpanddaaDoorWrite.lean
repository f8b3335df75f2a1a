/- What Write does. -/
import Derived.Test.YtadhgdjgpanddaaDoorSmall
import Derived.Deep.RegionHeld3
namespace Go.Proofs.YtadhgdjgpanddaaDoor
open Go.RowKit

theorem Errs.turn {w w' : World} {ad : Nat → Addr} (h : Errs w ad) {F : Nat → Prop} (ht : Turn F w w') (hF : ∀ k, F k → 2 ≤ k) : Errs w' ad := by
  refine ⟨fun k hk => (cell_block (p := ⟨k, 0, none⟩) (ht.block k ?_ (fun hf => by have := hF k hf; omega))).trans (h.cell k hk)⟩
  have := h.cell k hk
  rcases Nat.lt_or_ge k w.heap.size with hlt | hge
  · exact hlt
  · unfold World.cell? at this
    rw [Array.getElem?_eq_none (by simpa using hge)] at this
    cases this
theorem two_ge {g h : Nat} (hgh : 2 ≤ g ∧ 2 ≤ h) : ∀ k, Two g h k → 2 ≤ k := by
  rintro k (rfl | rfl)
  · exact hgh.1
  · exact hgh.2
theorem not_two {g h k : Nat} (a : k ≠ g) (b : k ≠ h) : ¬ Two g h k := fun h => h.elim a b
/-- A write spends one of those that are armed. -/
def Dm.spent (D : Dm) : Dm := { D with left := if D.armed then D.left - 1 else D.left }
theorem spend_any {h : Nat} {D : Dm} (g : Nat) (w : World) (H : DrumAt w g h D) (ha : D.armed = true → 0 < D.left) :
    Calls Tryd.prog 28 #[.pointer (some ⟨g, 0, none⟩)] w fun x w' => x = .returned (.bool true) ∧ Hid (DrumAt w' g h D.spent ∧ Turn (Two g h) w w') := by
  cases hc : D.armed
  · refine (spend_free g w H hc).mono fun x w' ⟨h1, h2⟩ => ⟨h1, Lib.hid ?_⟩
    subst h2
    have e : D.spent = D := by cases D; simp at hc; subst hc; rfl
    rw [e]
    exact ⟨H, Turn.refl _ _⟩
  · refine (spend_one g w H hc (ha hc)).mono fun x w' ⟨h1, h2⟩ => ⟨h1, Lib.hid ?_⟩
    have e : D.spent = { D with left := D.left - 1 } := by cases D; simp at hc; subst hc; rfl
    rw [e]
    exact h2.out
/-- A block written. -/
def Dm.wrote (D : Dm) (i : Nat) (b : List UInt8) : Dm := { D.spent with all := splice D.all (i * 64) b, writes := D.writes + 1 }
theorem block_fits {D : Dm} (hk : D.ok) {i : Nat} (hi : i < D.n) : i * 64 + 64 ≤ D.all.length := by rw [hk.len]; omega
theorem wrote_ok {D : Dm} (hk : D.ok) {i : Nat} (hi : i < D.n) {b : List UInt8} (hb : b.length = 64) (hw : D.writes < 1000000) : (D.wrote i b).ok := by
  refine ⟨hk.lo, hk.hi, ?_, ?_, by show D.writes + 1 ≤ _; omega⟩
  · show (splice D.all (i * 64) b).length = D.n * 64
    rw [splice_length _ _ _ (by rw [hb]; exact block_fits hk hi), hk.len]
  · have := hk.left
    show (if D.armed then D.left - 1 else D.left) ≤ _
    split <;> omega
theorem frozen_w {w : World} {g h : Nat} {D : Dm} (H : DrumAt w g h D) : w.frozen? ⟨g, 4, none⟩ = false := H.row.frozen 4

/-- The drum behind the block's store and the count's. -/
theorem wrote_at {w : World} {g h : Nat} {D : Dm} (H : DrumAt w g h D.spent) (hk : D.ok) {i : Nat} (hi : i < D.n) {b : List UInt8} (hb : b.length = 64) (hw : D.writes < 1000000) :
    DrumAt ((w.drew.setCells h (i * 64) (b.map bv)).setCell ⟨g, 4, none⟩ (.int .i64 ((D.writes : Int) + 1))) g h (D.wrote i b) ∧ Turn (Two g h) w ((w.drew.setCells h (i * 64) (b.map bv)).setCell ⟨g, 4, none⟩ (.int .i64 ((D.writes : Int) + 1))) := by
  have h0 : DrumAt w.drew g h D.spent := H.stay ⟨rfl, rfl, rfl, rfl⟩
  have hbf := block_fits hk hi
  have h1 : DrumAt (w.drew.setCells h (i * 64) (b.map bv)) g h { D.spent with all := splice D.all (i * 64) b } := by
    refine ⟨(heap_setCells _ _ _ _ _ H.ne).trans h0.row, ?_, H.ne, ⟨hk.lo, hk.hi, ?_, H.ok.left, hk.writes⟩⟩
    · have := Row.setCells (b.map bv) (i * 64) w.drew _ h0.blk (by simp only [List.length_map]; show _ ≤ D.all.length; omega)
      rw [splice_map] at this
      exact this
    · show (splice D.all (i * 64) b).length = D.n * 64
      rw [splice_length _ _ _ (by rw [hb]; exact hbf), hk.len]
  refine ⟨h1.set 4 _ rfl rfl (wrote_ok hk hi hb hw), ?_⟩
  exact (((⟨rfl, rfl, rfl, rfl⟩ : Stay w w.drew).turn _).trans (Turn.setCells (F := Two g h) _ h _ _ (.inr rfl)) (fun _ _ h => h)).trans (DrumAt.turn_set 4 _) (fun _ _ h => h)

set_option maxHeartbeats 1000000 in
theorem write_ok {h : Nat} {D : Dm} (g i : Nat) (A : Array Value) (b : List UInt8) (w : World) (H : DrumAt w g h D) (hA : A = (b.map bv).toArray) (hb : b.length = 64) (ho : D.off = false) (hi : i < D.n) (ha : D.armed = true → 0 < D.left) (hw : D.writes < 1000000) :
    Calls Tryd.prog 16 #[.pointer (some ⟨g, 0, none⟩), .int .i64 (i : Int), .agg A] w fun x w' => x = .returned .nilIface ∧ Hid (DrumAt w' g h (D.wrote i b) ∧ Turn (Two g h) w w') := by
  obtain ⟨L, HL⟩ : ∃ L, Shut (L = b.map bv) := ⟨_, ⟨rfl⟩⟩
  obtain rfl : A = L.toArray := by rw [hA, HL.out]
  have HLL : Shut (L.length = 64 ∧ (∀ v ∈ L, v.oneCell' = true) ∧ (Tryd.prog.info? 47).map (·.size) = some L.length) := ⟨by
    have h1 : L.length = 64 := by rw [HL.out, List.length_map, hb]
    exact ⟨h1, by rw [HL.out]; exact bytes_one b, by rw [h1]; exact size47⟩⟩
  have H1 := Lib.hid (H.under ((Below.refl w.heap.size w).alloc (Nat.le_refl _) (.cells L.toArray 47)))
  have HLT := Lib.hid (And.intro H.row.lt H.blk.lt)
  have HK := Lib.hid H.ok
  have HO := Lib.hid ho
  have HA := Lib.hid ha
  have HB := Lib.hid hb
  clear hA H ho ha hb
  go_enter Tryd.func16, Tryd.ntmps16
  go_wp2_with (first
    | (go_at_call 27; (with_reducible refine (refusal_ok g i _ H1.out HO.out hi).mono ?_); rintro x w' ⟨rfl, rfl⟩)
    | (go_at_call 28; (with_reducible refine (spend_any g _ H1.out HA.out).mono ?_); rintro x w2 ⟨rfl, H2⟩))
  have hsz : w.heap.size + 1 ≤ w2.heap.size := by have := H2.out.2.size; simpa using this
  have HGB : Hid (Row w2 w.heap.size 47 L) := Lib.hid (H2.out.2.row (Row.new w L 47) (not_two (by have := HLT.out.1; omega) (by have := HLT.out.2; omega)))
  have c3 := H2.out.1.c3
  have c4 := H2.out.1.c4
  have f4 := frozen_w H2.out.1
  have HS0 : Hid (w2.drew.cell? ⟨g, 3, none⟩ = some (.slice (some ⟨h, 0, none⟩) D.n D.n) ∧ w2.drew.rangeAt w.heap.size 0 L ∧ w2.drew.there h (i * 64) 64) := Lib.hid ⟨c3, HGB.out.range (es := []) (by simp), H2.out.1.blk.there _ _ (by rw [List.length_map]; exact block_fits HK.out hi)⟩
  have HS1 : Hid ((w2.drew.setCells h (i * 64) L).cell? ⟨g, 3, none⟩ = some (.slice (some ⟨h, 0, none⟩) D.n D.n) ∧ (w2.drew.setCells h (i * 64) L).rangeAt w.heap.size 0 L ∧ (w2.drew.setCells h (i * 64) L).there h (i * 64) 64) := Lib.hid ⟨(cell_block (p := ⟨g, 3, none⟩) (heap_setCells _ _ _ _ _ H2.out.1.ne)).trans HS0.out.1, World.rangeAt_setCells_apart HS0.out.2.1 _ _ _ (.inl (by have := HLT.out.2; omega)), World.there_setCells HS0.out.2.2 _ _ _⟩
  have hu47 := under47
  have hi47 := HLL.out.2.2
  have hL64 := HLL.out.1
  have h1c := HLL.out.2.1
  have hii : (i : Int) < (D.n : Int) := by omega
  clear c3
  go_region_held3 (fun w' => w'.cell? ⟨g, 3, none⟩ = some (.slice (some ⟨h, 0, none⟩) D.n D.n) ∧ w'.rangeAt w.heap.size 0 L ∧ w'.there h (i * 64) 64)
    (first | exact HS0.out | exact HS1.out)
    (first | fail)
  clear hu47 hi47 hL64 h1c
  have c4' : (w2.drew.setCells h (i * 64) L).cell? ⟨g, 4, none⟩ = some (.int .i64 (D.writes : Int)) := (cell_block (p := ⟨g, 4, none⟩) (heap_setCells _ _ _ _ _ H2.out.1.ne)).trans c4
  have f4' : (w2.drew.setCells h (i * 64) L).frozen? ⟨g, 4, none⟩ = false := (frozen_block (p := ⟨g, 4, none⟩) (heap_setCells _ _ _ _ _ H2.out.1.ne)).trans f4
  clear c4 f4
  go_wp2_with fail
  go_ret
  have hR := wrote_at H2.out.1 HK.out hi HB.out hw
  rw [← HL.out] at hR
  exact ⟨rfl, Lib.hid ⟨hR.1, ((Turn.refl (Two g h) w).alloc (.cells L.toArray 47)).trans (H2.out.2.trans hR.2 (fun _ _ h => h)) (fun _ _ h => h)⟩⟩
set_option maxHeartbeats 1000000 in
theorem write_power {h : Nat} {D : Dm} (ad : Nat → Addr) (g i : Nat) (A : Array Value) (w : World) (hE : Errs w ad) (hgh : 2 ≤ g ∧ 2 ≤ h) (H : DrumAt w g h D) (ho : D.off = false) (hi : i < D.n) (ha : D.armed = true) (hl : D.left = 0) :
    Calls Tryd.prog 16 #[.pointer (some ⟨g, 0, none⟩), .int .i64 (i : Int), .agg A] w fun x w' => x = .returned (.iface 67 (.pointer (some (ad 1)))) ∧ Hid (DrumAt w' g h { D with off := true } ∧ Turn (Two g h) w w') := by
  have HB := Lib.hid ((Below.refl w.heap.size w).alloc (Nat.le_refl _) (.cells A 47))
  have H1 := Lib.hid (H.under HB.out)
  have HE1 := Lib.hid (hE.below (by have := H.row.lt; omega) HB.out)
  have HO := Lib.hid ho
  have HA := Lib.hid ha
  have HL := Lib.hid hl
  have HG := Lib.hid (two_ge hgh)
  clear H ho ha hl hgh hE
  go_enter Tryd.func16, Tryd.ntmps16
  go_wp2_with (first
    | (go_at_call 27; (with_reducible refine (refusal_ok g i _ H1.out HO.out hi).mono ?_); rintro x w' ⟨rfl, rfl⟩)
    | (go_at_call 28; (with_reducible refine (spend_none g _ H1.out HA.out HL.out).mono ?_); rintro x w2 ⟨rfl, H2⟩; (have e1 := (HE1.out.turn H2.out.2 HG.out).cell 1 (by omega))))
  go_ret
  exact ⟨rfl, Lib.hid ⟨H2.out.1, ((Turn.refl (Two g h) w).alloc (.cells A 47)).trans H2.out.2 (fun _ _ h => h)⟩⟩
theorem write_off {h : Nat} {D : Dm} (ad : Nat → Addr) (g : Nat) (z : Int) (A : Array Value) (w : World) (hE : Errs w ad) (h2 : 2 ≤ w.heap.size) (H : DrumAt w g h D) (ho : D.off = true) :
    Calls Tryd.prog 16 #[.pointer (some ⟨g, 0, none⟩), .int .i64 z, .agg A] w fun x w' => x = .returned (.iface 67 (.pointer (some (ad 1)))) ∧ Hid (Below w.heap.size w w') := by
  have HB := Lib.hid ((Below.refl w.heap.size w).alloc (Nat.le_refl _) (.cells A 47))
  have H1 := Lib.hid (H.under HB.out)
  have HE1 := Lib.hid (hE.below h2 HB.out)
  have HO := Lib.hid ho
  clear H ho hE
  go_enter Tryd.func16, Tryd.ntmps16
  go_wp2_with (first
    | (go_at_call 27; (with_reducible refine (refusal_off ad g z _ HE1.out H1.out HO.out).mono ?_); rintro x w' ⟨rfl, rfl⟩))
  go_ret
  exact ⟨rfl, HB⟩
theorem write_range {h : Nat} {D : Dm} (ad : Nat → Addr) (g : Nat) (z : Int) (A : Array Value) (w : World) (hE : Errs w ad) (h2 : 2 ≤ w.heap.size) (H : DrumAt w g h D) (ho : D.off = false) (hz : z < 0 ∨ (D.n : Int) ≤ z) :
    Calls Tryd.prog 16 #[.pointer (some ⟨g, 0, none⟩), .int .i64 z, .agg A] w fun x w' => x = .returned (.iface 67 (.pointer (some (ad 0)))) ∧ Hid (Below w.heap.size w w') := by
  have HB := Lib.hid ((Below.refl w.heap.size w).alloc (Nat.le_refl _) (.cells A 47))
  have H1 := Lib.hid (H.under HB.out)
  have HE1 := Lib.hid (hE.below h2 HB.out)
  have HO := Lib.hid ho
  have HZ := Lib.hid hz
  clear H ho hE hz
  go_enter Tryd.func16, Tryd.ntmps16
  go_wp2_with (first
    | (go_at_call 27; (with_reducible refine (refusal_range ad g z _ HE1.out H1.out HO.out HZ.out).mono ?_); rintro x w' ⟨rfl, rfl⟩))
  go_ret
  exact ⟨rfl, HB⟩
end Go.Proofs.YtadhgdjgpanddaaDoor

/- A pair beside blocks that no call of package sock touches; each call in that form, at any spelling of its numbers. -/
import Derived.Test.YtlceemaannndbaaDoorPut
import Derived.LaidEql
namespace Go.Proofs.YtlceemaannndbaaDoor
open Go.RowKit

/-- The blocks of K are as they were. -/
structure Keep (K : Nat → Prop) (w w' : World) : Prop where
  os : w'.os = w.os
  tape : w'.tape = w.tape
  output : w'.output = w.output
  size : w.heap.size ≤ w'.heap.size
  block : ∀ k, K k → w'.heap[k]? = w.heap[k]?
theorem Keep.refl (K : Nat → Prop) (w : World) : Keep K w w := ⟨rfl, rfl, rfl, Nat.le_refl _, fun _ _ => rfl⟩
theorem Keep.trans {K : Nat → Prop} {a b c : World} (h : Keep K a b) (k : Keep K b c) : Keep K a c := ⟨k.os.trans h.os, k.tape.trans h.tape, k.output.trans h.output, Nat.le_trans h.size k.size, fun i hi => (k.block i hi).trans (h.block i hi)⟩
theorem Keep.mono {K K' : Nat → Prop} {a b : World} (h : Keep K a b) (hk : ∀ k, K' k → K k) : Keep K' a b := ⟨h.os, h.tape, h.output, h.size, fun i hi => h.block i (hk i hi)⟩
theorem Keep.below {K : Nat → Prop} {a b : World} (h : Keep K a b) {B : Nat} (hB : ∀ k, k < B → K k) : Below B a b := ⟨h.os, h.tape, h.output, h.size, fun k hk => h.block k (hB k hk)⟩
theorem Keep.of_below {K : Nat → Prop} {a b : World} {B : Nat} (h : Below B a b) (hK : ∀ k, K k → k < B) : Keep K a b := ⟨h.os, h.tape, h.output, h.size, fun k hk => h.block k (hK k hk)⟩
theorem Keep.stay {K : Nat → Prop} {a b : World} (h : Stay a b) : Keep K a b := ⟨h.os, h.tape, h.output, by rw [h.heap]; exact Nat.le_refl _, fun k _ => by rw [h.heap]⟩
theorem Keep.alloc {K : Nat → Prop} {w : World} (o : Obj) (hK : ∀ k, K k → k < w.heap.size) : Keep K w (w.alloc o) := Keep.of_below ((Below.refl w.heap.size w).alloc (Nat.le_refl _) o) hK
theorem Keep.setCell {K : Nat → Prop} {w : World} (p : Addr) (v : Value) (h : ¬ K p.block) : Keep K w (w.setCell p v) :=
  ⟨rfl, rfl, rfl, by simp [World.setCell], fun k hk => Below.heap_setCell _ _ _ _ (by rintro rfl; exact h hk)⟩
theorem Keep.row {K : Nat → Prop} {w w' : World} (h : Keep K w w') {g : Nat} {t : TypeId} {cs : List Value} (hr : Row w g t cs) (hg : K g) : Row w' g t cs := (h.block g hg).trans hr

/-- The pair P lies at g, above B, apart from all blocks of K. -/
structure Has (w : World) (B : Nat) (K : Nat → Prop) (g : Nat) (P : Pr) : Prop where
  pair : ∃ F, PairAt w B F g P ∧ ∀ k, F k → ¬ K k
  lt : ∀ k, K k → k < w.heap.size
theorem Has.ok {w : World} {B : Nat} {K : Nat → Prop} {g : Nat} {P : Pr} (h : Has w B K g P) : P.ok := by obtain ⟨⟨F, h, _⟩, _⟩ := h; exact h.ok
theorem Has.alloc {w : World} {B : Nat} {K : Nat → Prop} {g : Nat} {P : Pr} (h : Has w B K g P) (o : Obj) : Has (w.alloc o) B (fun k => K k ∨ k = w.heap.size) g P := by
  obtain ⟨⟨F, h, hK⟩, hl⟩ := h
  refine ⟨⟨F, h.below ((Below.refl _ _).alloc (Nat.le_refl _) o), fun k hk hh => ?_⟩, fun k hk => ?_⟩
  · rcases hh with hh | hh
    · exact hK k hk hh
    · have := h.lt k hk; omega
  · rcases hk with hk | hk
    · have := hl k hk; simp; omega
    · simp; omega
theorem Has.mono {w : World} {B : Nat} {K K' : Nat → Prop} {g : Nat} {P : Pr} (h : Has w B K g P) (hk : ∀ k, K' k → K k) : Has w B K' g P := by
  obtain ⟨⟨F, h, hK⟩, hl⟩ := h
  exact ⟨⟨F, h, fun k hf hk' => hK k hf (hk k hk')⟩, fun k hk' => hl k (hk k hk')⟩
theorem Has.setCell {w : World} {B : Nat} {K : Nat → Prop} {g : Nat} {P : Pr} (h : Has w B K g P) (p : Addr) (hp : K p.block) (v : Value) : Has (w.setCell p v) B K g P := by
  obtain ⟨⟨F, h, hK⟩, hl⟩ := h
  have hz : (w.setCell p v).heap.size = w.heap.size := by simp [World.setCell]
  exact ⟨⟨F, h.keep (by rw [hz]; exact Nat.le_refl _) (fun k hk => Below.heap_setCell _ _ _ _ (by rintro rfl; exact hK _ hk hp)), hK⟩, fun k hk => by rw [hz]; exact hl k hk⟩
theorem Has.stay {w w' : World} {B : Nat} {K : Nat → Prop} {g : Nat} {P : Pr} (h : Has w B K g P) (hs : Stay w w') : Has w' B K g P := by
  obtain ⟨⟨F, h, hK⟩, hl⟩ := h
  exact ⟨⟨F, h.stay hs, hK⟩, fun k hk => by rw [hs.heap]; exact hl k hk⟩
theorem Has.below {w w' : World} {B : Nat} {K : Nat → Prop} {g : Nat} {P : Pr} (h : Has w B K g P) (hs : Below w.heap.size w w') : Has w' B K g P := by
  obtain ⟨⟨F, h, hK⟩, hl⟩ := h
  exact ⟨⟨F, h.below hs, hK⟩, fun k hk => Nat.lt_of_lt_of_le (hl k hk) hs.size⟩
/-- A call that turns the pair's blocks alone. -/
theorem has_to {w w' : World} {B : Nat} {K F : Nat → Prop} {g : Nat} {P' : Pr} (hK : ∀ k, F k → ¬ K k) (hl : ∀ k, K k → k < w.heap.size) (H : PairTo w w' B F g P' ∧ Turn F w w') : Has w' B K g P' ∧ Keep K w w' := by
  obtain ⟨⟨F', h1, h2⟩, h3⟩ := H
  refine ⟨⟨⟨F', h1, fun k hk hk' => ?_⟩, fun k hk => Nat.lt_of_lt_of_le (hl k hk) h3.size⟩, ⟨h3.os, h3.tape, h3.output, h3.size, fun k hk => h3.block k (hl k hk) (fun hf => hK k hf hk)⟩⟩
  rcases h2 k hk with h | h
  · exact hK k h hk'
  · have := hl k hk'; omega
theorem pair_to {w w' : World} {B : Nat} {F : Nat → Prop} {g : Nat} {P : Pr} (h : PairAt w' B F g P) : PairTo w w' B F g P := ⟨F, h, fun _ hk => .inl hk⟩
theorem has_turn {w w' : World} {B : Nat} {K F : Nat → Prop} {g : Nat} {P' : Pr} (hK : ∀ k, F k → ¬ K k) (hl : ∀ k, K k → k < w.heap.size) (H : PairAt w' B F g P' ∧ Turn F w w') : Has w' B K g P' ∧ Keep K w w' := has_to hK hl ⟨pair_to H.1, H.2⟩
theorem Errs.keep {w w' : World} {ad : Nat → Addr} (h : Errs w ad) {K : Nat → Prop} (hk : Keep K w w') (hK : ∀ k, k < 3 → K k) : Errs w' ad := ⟨fun k hl => (cell_block (p := ⟨k, 0, none⟩) (hk.block k (hK k hl))).trans (h.cell k hl)⟩

theorem New.to {K : Nat → Prop} {w w1 w' : World} {A : Option Addr} {n c : Nat} {bs : List UInt8} (h : New w w1 A n c bs) (hk : Keep (fun k => K k ∨ w.heap.size ≤ k ∧ k < w1.heap.size) w1 w') : New w w' A n c bs := h.keep hk.size (fun k h1 h2 => hk.block k (.inr ⟨h1, h2⟩))
theorem New.str {w w' : World} {A : Option Addr} {n c : Nat} {bs : List UInt8} (h : New w w' A n c bs) : (convert 30 9 (.slice A n c)).run Tryd.prog w' = .ok (.string ⟨bs.toArray⟩) w' := h.2.2.2.1.toStr n c h.1
theorem New.stay {w w1 w' : World} {A : Option Addr} {n c : Nat} {bs : List UInt8} (h : New w w1 A n c bs) (hs : Stay w1 w') : New w w' A n c bs := h.keep (by rw [hs.heap]; exact Nat.le_refl _) (fun k _ _ => by rw [hs.heap])
theorem comp73 : (Tryd.prog.info? 73).map (·.comparable) = some true := by kernel_rfl
theorem size90 : (Tryd.prog.info? 90).map (·.size) = some 1 := by kernel_rfl
/-- Two errors of package api. -/
theorem eql_same (a : Addr) (W : World) : (binOp .eql 26 (.iface 73 (.pointer (some a))) (.iface 73 (.pointer (some a)))).run Tryd.prog W = .ok (.bool true) W := by
  obtain ⟨i, hi, hcmp⟩ := Option.map_eq_some_iff.1 comp73
  obtain ⟨j, hj, _⟩ := Option.map_eq_some_iff.1 size90
  exact run_eql_iface_ptr_same W a Tryd.underlying26 Tryd.underlying73 hi hcmp hj

/-! The calls. -/
section
variable {B : Nat} {K : Nat → Prop} {P : Pr}
theorem h_new (room : Nat) (z : Int) (hz : z = (room : Int)) (w : World) (h1 : 1 ≤ room) (h2 : room ≤ 65536) (hK : ∀ k, K k → k < w.heap.size) (hB : B ≤ w.heap.size) :
    Calls Tryd.prog 9 #[.int .i64 z] w fun x w' => x = .returned (.tuple #[.pointer (some ⟨w.heap.size, 0, none⟩), .nilIface]) ∧ Hid (Has w' B K w.heap.size (fresh room) ∧ Keep K w w') := by
  subst hz
  refine (new_ok room w h1 h2 B hB).mono fun x w' ⟨he, H⟩ => ⟨he, Lib.hid ⟨⟨⟨_, H.out.1, fun k hk hk' => ?_⟩, fun k hk => Nat.lt_of_lt_of_le (hK k hk) H.out.2.size⟩, Keep.of_below H.out.2 hK⟩⟩
  have := hK k hk'
  omega
theorem h_write (g i : Nat) (e : Int) (he : e = (i : Int)) (A : Option Addr) (L c : Nat) (bs : List UInt8) (w : World) (h : Has w B K g P) (hi : i < 2) (hc : P.cut = false) (hs : (P.ws i).shut = false)
    (hL : bs.length = L) (hLc : L ≤ c) (hcm : c ≤ 9223372036854775807) (hr : Rd w w.heap.size A (bs.map bv)) :
    Calls Tryd.prog 11 #[.pointer (some ⟨g, 0, none⟩), .int .i64 e, .slice A L c] w fun x w' => x = .returned (.tuple #[.int .i64 (P.puts i L : Int), .nilIface]) ∧ Hid (Has w' B K g (P.wrote i bs) ∧ Keep K w w') := by
  subst he
  obtain ⟨⟨F, h, hK⟩, hl⟩ := h
  exact (write_ok g i A L c bs w h hi hc hs hL hLc hcm hr).mono fun x w' ⟨he, H⟩ => ⟨he, Lib.hid (has_to hK hl H.out)⟩
theorem h_write_cut (ad : Nat → Addr) (g i : Nat) (e : Int) (he : e = (i : Int)) (x : Value) (w : World) (hE : Errs w ad) (h : Has w B K g P) (hi : i < 2) (hc : P.cut = true) :
    Calls Tryd.prog 11 #[.pointer (some ⟨g, 0, none⟩), .int .i64 e, x] w fun x w' => x = .returned (.tuple #[.int .i64 0, .iface 73 (.pointer (some (ad 1)))]) ∧ w = w' := by
  subst he
  obtain ⟨⟨F, h, hK⟩, hl⟩ := h
  exact write_cut ad g i x w hE h hi hc
theorem h_write_shut (ad : Nat → Addr) (g i : Nat) (e : Int) (he : e = (i : Int)) (x : Value) (w : World) (hE : Errs w ad) (h : Has w B K g P) (hi : i < 2) (hc : P.cut = false) (hs : (P.ws i).shut = true) :
    Calls Tryd.prog 11 #[.pointer (some ⟨g, 0, none⟩), .int .i64 e, x] w fun x w' => x = .returned (.tuple #[.int .i64 0, .iface 73 (.pointer (some (ad 2)))]) ∧ ∃ n, w' = w.drewN n := by
  subst he
  obtain ⟨⟨F, h, hK⟩, hl⟩ := h
  exact write_shut ad g i x w hE h hi hc hs
theorem h_shut (g i : Nat) (e : Int) (he : e = (i : Int)) (w : World) (h : Has w B K g P) (hi : i < 2) (hc : P.cut = false) :
    Calls Tryd.prog 15 #[.pointer (some ⟨g, 0, none⟩), .int .i64 e] w fun x w' => x = .returned .nilIface ∧ Hid (Has w' B K g (P.setShut i) ∧ Keep K w w') := by
  subst he
  obtain ⟨⟨F, h, hK⟩, hl⟩ := h
  exact (shut_ok g i w h hi hc).mono fun x w' ⟨he, H⟩ => ⟨he, Lib.hid (has_turn hK hl H.out)⟩
theorem h_shut_cut (ad : Nat → Addr) (g i : Nat) (e : Int) (he : e = (i : Int)) (w : World) (hE : Errs w ad) (h : Has w B K g P) (hi : i < 2) (hc : P.cut = true) :
    Calls Tryd.prog 15 #[.pointer (some ⟨g, 0, none⟩), .int .i64 e] w fun x w' => x = .returned (.iface 73 (.pointer (some (ad 1)))) ∧ w = w' := by
  subst he
  obtain ⟨⟨F, h, hK⟩, hl⟩ := h
  exact shut_cut ad g i w hE h hi hc
theorem h_carry (g i : Nat) (e : Int) (he : e = (i : Int)) (n : Nat) (z : Int) (hz : z = (n : Int)) (w : World) (h : Has w B K g P) (hi : i < 2) (hc : P.cut = false) (hn : n ≤ 9223372036854775807) :
    Calls Tryd.prog 17 #[.pointer (some ⟨g, 0, none⟩), .int .i64 e, .int .i64 z] w fun x w' => x = .returned (.tuple #[.int .i64 (P.moved i n : Int), .nilIface]) ∧ Hid (Has w' B K g (P.carry i n) ∧ Keep K w w') := by
  subst he hz
  obtain ⟨⟨F, h, hK⟩, hl⟩ := h
  exact (carry_ok g i n w h hi hc hn).mono fun x w' ⟨he, H⟩ => ⟨he, Lib.hid (has_turn hK hl H.out)⟩
theorem h_carry_cut (ad : Nat → Addr) (g i : Nat) (e : Int) (he : e = (i : Int)) (z : Int) (hz : 0 ≤ z) (w : World) (hE : Errs w ad) (h : Has w B K g P) (hi : i < 2) (hc : P.cut = true) :
    Calls Tryd.prog 17 #[.pointer (some ⟨g, 0, none⟩), .int .i64 e, .int .i64 z] w fun x w' => x = .returned (.tuple #[.int .i64 0, .iface 73 (.pointer (some (ad 1)))]) ∧ w = w' := by
  subst he
  obtain ⟨⟨F, h, hK⟩, hl⟩ := h
  exact carry_cut ad g i z w hE h hi hz hc
theorem h_read (g i : Nat) (e : Int) (he : e = (i : Int)) (n : Nat) (z : Int) (hz : z = (n : Int)) (w : World) (h : Has w B K g P) (hi : i < 2) (hn : n ≤ 9223372036854775807) (hc : P.cut = true → (P.ws (1 - i)).car ≠ 0) :
    Calls Tryd.prog 19 #[.pointer (some ⟨g, 0, none⟩), .int .i64 e, .int .i64 z] w fun x w' => ∃ A m c, x = .returned (.tuple #[.slice A m c, .nilIface]) ∧
      Hid (New w w' A m c ((P.ws (1 - i)).row.take (P.takes (1 - i) n)) ∧ Has w' B K g (P.took (1 - i) n) ∧ Keep K w w') := by
  subst he hz
  obtain ⟨⟨F, h, hK⟩, hl⟩ := h
  exact (read_ok g i n w h hi hn hc).mono fun x w' ⟨A, m, c, he, H⟩ => ⟨A, m, c, he, Lib.hid ⟨H.out.1, has_turn hK hl H.out.2⟩⟩
/-- Read, with the new blocks apart too. -/
theorem h_read2 (g i : Nat) (e : Int) (he : e = (i : Int)) (n : Nat) (z : Int) (hz : z = (n : Int)) (w : World) (h : Has w B K g P) (hi : i < 2) (hn : n ≤ 9223372036854775807) (hc : P.cut = true → (P.ws (1 - i)).car ≠ 0) :
    Calls Tryd.prog 19 #[.pointer (some ⟨g, 0, none⟩), .int .i64 e, .int .i64 z] w fun x w' => ∃ A m c, x = .returned (.tuple #[.slice A m c, .nilIface]) ∧
      Hid (New w w' A m c ((P.ws (1 - i)).row.take (P.takes (1 - i) n)) ∧ Has w' B (fun k => K k ∨ w.heap.size ≤ k ∧ k < w'.heap.size) g (P.took (1 - i) n) ∧ Keep K w w') := by
  subst he hz
  obtain ⟨⟨F, h, hK⟩, hl⟩ := h
  refine (read_ok g i n w h hi hn hc).mono fun x w' ⟨A, m, c, he, H⟩ => ⟨A, m, c, he, Lib.hid ⟨H.out.1, ⟨⟨F, H.out.2.1, fun k hf hk => ?_⟩, fun k hk => ?_⟩, (has_turn hK hl H.out.2).2⟩⟩
  · rcases hk with hk | hk
    · exact hK k hf hk
    · have := h.lt k hf; omega
  · rcases hk with hk | hk
    · exact Nat.lt_of_lt_of_le (hl k hk) H.out.2.2.size
    · exact hk.2
theorem h_read_cut (ad : Nat → Addr) (g i : Nat) (e : Int) (he : e = (i : Int)) (n : Nat) (z : Int) (hz : z = (n : Int)) (w : World) (hE : Errs w ad) (h : Has w B K g P) (hi : i < 2) (hc : P.cut = true) (h0 : (P.ws (1 - i)).car = 0) :
    Calls Tryd.prog 19 #[.pointer (some ⟨g, 0, none⟩), .int .i64 e, .int .i64 z] w fun x w' => x = .returned (.tuple #[.slice none 0 0, .iface 73 (.pointer (some (ad 1)))]) ∧ ∃ n, w' = w.drewN n := by
  subst he hz
  obtain ⟨⟨F, h, hK⟩, hl⟩ := h
  exact read_cut ad g i n w hE h hi hc h0
theorem h_cut (g : Nat) (w : World) (h : Has w B K g P) :
    Calls Tryd.prog 21 #[.pointer (some ⟨g, 0, none⟩)] w fun x w' => x = .returned (.tuple #[]) ∧ Hid (Has w' B K g P.cutting ∧ Keep K w w') := by
  obtain ⟨⟨F, h, hK⟩, hl⟩ := h
  exact (cut_any g w h).mono fun x w' ⟨he, H⟩ => ⟨he, Lib.hid (has_turn hK hl H.out)⟩
theorem h_room (g i : Nat) (e : Int) (he : e = (i : Int)) (w : World) (h : Has w B K g P) (hi : i < 2) :
    Calls Tryd.prog 23 #[.pointer (some ⟨g, 0, none⟩), .int .i64 e] w fun x w' => x = .returned (.int .i64 (P.free i : Int)) ∧ ∃ n, w' = w.drewN n := by
  subst he
  obtain ⟨⟨F, h, hK⟩, hl⟩ := h
  exact room_any g i w h hi
theorem h_flight (g i : Nat) (e : Int) (he : e = (i : Int)) (w : World) (h : Has w B K g P) (hi : i < 2) :
    Calls Tryd.prog 25 #[.pointer (some ⟨g, 0, none⟩), .int .i64 e] w fun x w' => x = .returned (.int .i64 ((P.ws i).row.length - (P.ws i).car : Int)) ∧ ∃ n, w' = w.drewN n := by
  subst he
  obtain ⟨⟨F, h, hK⟩, hl⟩ := h
  exact Flight_any g i w h hi
theorem h_inbox (g i : Nat) (e : Int) (he : e = (i : Int)) (w : World) (h : Has w B K g P) (hi : i < 2) :
    Calls Tryd.prog 27 #[.pointer (some ⟨g, 0, none⟩), .int .i64 e] w fun x w' => x = .returned (.int .i64 ((P.ws (1 - i)).car : Int)) ∧ w = w' := by
  subst he
  obtain ⟨⟨F, h, hK⟩, hl⟩ := h
  exact Inbox_any g i w h hi
theorem h_ended (g i : Nat) (e : Int) (he : e = (i : Int)) (w : World) (h : Has w B K g P) (hi : i < 2) :
    Calls Tryd.prog 29 #[.pointer (some ⟨g, 0, none⟩), .int .i64 e] w fun x w' => x = .returned (.bool (P.ended i)) ∧ w = w' := by
  subst he
  obtain ⟨⟨F, h, hK⟩, hl⟩ := h
  exact Ended_any g i w h hi
theorem h_broken (g : Nat) (w : World) (h : Has w B K g P) : Calls Tryd.prog 22 #[.pointer (some ⟨g, 0, none⟩)] w fun x w' => x = .returned (.bool P.cut) ∧ w = w' := by
  obtain ⟨⟨F, h, hK⟩, hl⟩ := h
  exact Broken_any g w h
end
end Go.Proofs.YtlceemaannndbaaDoor

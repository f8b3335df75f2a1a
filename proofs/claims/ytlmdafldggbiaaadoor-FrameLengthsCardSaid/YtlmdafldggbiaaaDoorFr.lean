/- Frames: their cells, the fields that a kind uses, what the small functions of package frame answer. -/
import Derived.Test.YtlmdafldggbiaaaDoorHKey
import Derived.Test.YtlmdafldggbiaaaDoorFDeco
namespace Go.Proofs.YtlmdafldggbiaaaDoor
open Go.RowKit
open Go.Proofs.YtlmdafldggbiaaaDoor.H

/-- A frame: its numbers, texts, weight's bits, bytes. -/
structure Fr where
  kind : Int
  seq : Int
  got : Int
  stream : Int
  amount : Int
  code : Int
  who : ByteArray
  name : ByteArray
  weight : Nat
  ba : Option Addr
  bc : Nat
  bs : List UInt8
def Fr.cells (f : Fr) (n : Nat) : List Value := [.int .i64 f.kind, .int .i64 f.seq, .int .i64 f.got, .int .i64 f.stream, .int .i64 f.amount, .int .i64 f.code, .string f.who, .string f.name, .float .f64 f.weight, .slice f.ba n f.bc]
def Fr.v (f : Fr) : Value := .agg (f.cells f.bs.length).toArray
def i64ok (z : Int) : Prop := -9223372036854775808 ≤ z ∧ z ≤ 9223372036854775807
/-- A frame's numbers fit; its bytes lie below B. -/
structure Fr.ok (f : Fr) (w : World) (B : Nat) : Prop where
  kind : i64ok f.kind
  seq : i64ok f.seq
  got : i64ok f.got
  stream : i64ok f.stream
  amount : i64ok f.amount
  code : i64ok f.code
  who : f.who.size ≤ maxLen
  name : f.name.size ≤ maxLen
  weight : f.weight < 18446744073709551616
  cap : f.bs.length ≤ f.bc
  max : f.bc ≤ 9223372036854775807
  rd : Rd w B f.ba (f.bs.map bv)
theorem Fr.ok.below {f : Fr} {w w' : World} {B : Nat} (h : f.ok w B) (hb : Below B w w') : f.ok w' B := { h with rd := h.rd.below hb }
theorem Fr.ok.more {f : Fr} {w : World} {B B' : Nat} (h : f.ok w B) (hb : B ≤ B') : f.ok w B' := { h with rd := h.rd.more hb }

/-- The fields that a kind uses, in the order of its layout. -/
def used (k : Int) : List Nat :=
  if k = 1 then [5, 1, 8]
  else if k = 2 then [8]
  else if k = 3 then [8]
  else if k = 4 then [1, 8]
  else if k = 5 then [4]
  else if k = 6 then [1]
  else if k = 7 then [0, 2, 6]
  else if k = 8 then [0, 2]
  else if k = 9 then [0, 2, 8]
  else if k = 10 then [0, 2, 3]
  else if k = 11 then [0, 2]
  else if k = 12 then [0, 2, 4]
  else if k = 13 then [0, 6, 7]
  else if k = 14 then [0, 6]
  else if k = 15 then [0, 5, 6]
  else if k = 16 then [0, 5, 6]
  else if k = 17 then [0, 4, 6]
  else []
def blo (k : Int) : Int := if k = 1 then 0 else if k = 3 then 32 else 1
def bhi (k : Int) : Int := if k = 9 then 512 else 32
def lo (k : Int) : Nat → Int
  | 0 => 1
  | 1 => 0
  | 2 => 1
  | 3 => 1
  | 4 => 0
  | 5 => 1
  | 6 => 1
  | 7 => -9223372036854775808
  | _ => blo k
def hi (k : Int) : Nat → Int
  | 0 => 1099511627776
  | 1 => 1099511627776
  | 2 => 2147483647
  | 3 => 2147483647
  | 4 => 13
  | 5 => 16
  | 6 => 63
  | 7 => 9223372036854775807
  | _ => bhi k
/-- A field's extent: a number itself, a text's length, a weight's bits. -/
def ext (f : Fr) (x : Nat) : Int :=
  if x = 0 then f.seq else if x = 1 then f.got else if x = 2 then f.stream else if x = 3 then f.amount else if x = 4 then f.code
  else if x = 5 then (f.who.size : Int) else if x = 6 then (f.name.size : Int) else if x = 7 then wrap64 (f.weight : Int) else (f.bs.length : Int)
def least (k : Int) (x : Nat) : Int := if x ∈ used k then lo k x else 0
def most (k : Int) (x : Nat) : Int := if x ∈ used k then hi k x else 0
def fits (f : Fr) (x : Nat) : Bool := decide (least f.kind x ≤ ext f x ∧ ext f x ≤ most f.kind x)
def valid (f : Fr) : Bool := (used f.kind != []) && (List.range 9).all (fits f)
theorem below_alloc (w : World) (o : Obj) : Below w.heap.size w (w.alloc o) := (Below.refl _ _).alloc (Nat.le_refl _) _
def nv (n : Nat) : Value := .int .i64 (n : Int)

theorem used_1 : used 1 = [5, 1, 8] := by decide
theorem used_2 : used 2 = [8] := by decide
theorem used_3 : used 3 = [8] := by decide
theorem used_4 : used 4 = [1, 8] := by decide
theorem used_5 : used 5 = [4] := by decide
theorem used_6 : used 6 = [1] := by decide
theorem used_7 : used 7 = [0, 2, 6] := by decide
theorem used_8 : used 8 = [0, 2] := by decide
theorem used_9 : used 9 = [0, 2, 8] := by decide
theorem used_10 : used 10 = [0, 2, 3] := by decide
theorem used_11 : used 11 = [0, 2] := by decide
theorem used_12 : used 12 = [0, 2, 4] := by decide
theorem used_13 : used 13 = [0, 6, 7] := by decide
theorem used_14 : used 14 = [0, 6] := by decide
theorem used_15 : used 15 = [0, 5, 6] := by decide
theorem used_16 : used 16 = [0, 5, 6] := by decide
theorem used_17 : used 17 = [0, 4, 6] := by decide
theorem used_none (k : Int) (h : k ≠ 1 ∧ k ≠ 2 ∧ k ≠ 3 ∧ k ≠ 4 ∧ k ≠ 5 ∧ k ≠ 6 ∧ k ≠ 7 ∧ k ≠ 8 ∧ k ≠ 9 ∧ k ≠ 10 ∧ k ≠ 11 ∧ k ≠ 12 ∧ k ≠ 13 ∧ k ≠ 14 ∧ k ≠ 15 ∧ k ≠ 16 ∧ k ≠ 17) : used k = [] := by
  obtain ⟨h1, h2, h3, h4, h5, h6, h7, h8, h9, h10, h11, h12, h13, h14, h15, h16, h17⟩ := h
  simp [used, h1, h2, h3, h4, h5, h6, h7, h8, h9, h10, h11, h12, h13, h14, h15, h16, h17]
theorem kinds_or (k : Int) : (k = 1 ∨ k = 2 ∨ k = 3 ∨ k = 4 ∨ k = 5 ∨ k = 6 ∨ k = 7 ∨ k = 8 ∨ k = 9 ∨ k = 10 ∨ k = 11 ∨ k = 12 ∨ k = 13 ∨ k = 14 ∨ k = 15 ∨ k = 16 ∨ k = 17) ∨ (k ≠ 1 ∧ k ≠ 2 ∧ k ≠ 3 ∧ k ≠ 4 ∧ k ≠ 5 ∧ k ≠ 6 ∧ k ≠ 7 ∧ k ≠ 8 ∧ k ≠ 9 ∧ k ≠ 10 ∧ k ≠ 11 ∧ k ≠ 12 ∧ k ≠ 13 ∧ k ≠ 14 ∧ k ≠ 15 ∧ k ≠ 16 ∧ k ≠ 17) := by omega
theorem used_lt (k : Int) : ∀ x ∈ used k, x < 9 := by
  rcases kinds_or k with (rfl | rfl | rfl | rfl | rfl | rfl | rfl | rfl | rfl | rfl | rfl | rfl | rfl | rfl | rfl | rfl | rfl) | h
  rotate_right
  · rw [used_none k h]; simp
  all_goals decide
theorem used_len (k : Int) : (used k).length ≤ 9 := by
  rcases kinds_or k with (rfl | rfl | rfl | rfl | rfl | rfl | rfl | rfl | rfl | rfl | rfl | rfl | rfl | rfl | rfl | rfl | rfl) | h
  rotate_right
  · rw [used_none k h]; simp
  all_goals decide
theorem nv_new (w : World) (L : List Nat) : Rd (w.alloc (.cells (L.map nv).toArray 64)) (w.heap.size + 1) (some ⟨w.heap.size, 0, none⟩) (L.map nv) := by
  refine .inr ⟨_, rfl, by simp, ?_⟩
  exact cells_new w (L.map nv).toArray 64

def FieldsPost (k : Int) (w : World) (e : Ending) (w' : World) : Prop := ∃ A, e = .returned (.slice A (used k).length (used k).length) ∧ Hid (Rd w' w'.heap.size A ((used k).map nv) ∧ Below w.heap.size w w' ∧ ∀ ad, A = some ad → w.heap.size ≤ ad.block)
set_option maxRecDepth 100000 in
theorem fieldsOf_1 (w : World) : Calls Tryd.prog 25 #[.int .i64 1] w (FieldsPost 1 w) := by
  go_enter Tryd.func25, Tryd.ntmps25
  go_wp2_with fail
  go_ret
  refine ⟨some ⟨w.heap.size, 0, none⟩, rfl, Lib.hid ⟨?_, below_alloc w _, fun ad h => by injection h with h; rw [← h]; exact Nat.le_refl _⟩⟩
  have h := nv_new w [5, 1, 8]
  rw [used_1]
  exact h.more (by simp)
set_option maxRecDepth 100000 in
theorem fieldsOf_2 (w : World) : Calls Tryd.prog 25 #[.int .i64 2] w (FieldsPost 2 w) := by
  go_enter Tryd.func25, Tryd.ntmps25
  go_wp2_with fail
  go_ret
  refine ⟨some ⟨w.heap.size, 0, none⟩, rfl, Lib.hid ⟨?_, below_alloc w _, fun ad h => by injection h with h; rw [← h]; exact Nat.le_refl _⟩⟩
  have h := nv_new w [8]
  rw [used_2]
  exact h.more (by simp)
set_option maxRecDepth 100000 in
theorem fieldsOf_3 (w : World) : Calls Tryd.prog 25 #[.int .i64 3] w (FieldsPost 3 w) := by
  go_enter Tryd.func25, Tryd.ntmps25
  go_wp2_with fail
  go_ret
  refine ⟨some ⟨w.heap.size, 0, none⟩, rfl, Lib.hid ⟨?_, below_alloc w _, fun ad h => by injection h with h; rw [← h]; exact Nat.le_refl _⟩⟩
  have h := nv_new w [8]
  rw [used_3]
  exact h.more (by simp)
set_option maxRecDepth 100000 in
theorem fieldsOf_4 (w : World) : Calls Tryd.prog 25 #[.int .i64 4] w (FieldsPost 4 w) := by
  go_enter Tryd.func25, Tryd.ntmps25
  go_wp2_with fail
  go_ret
  refine ⟨some ⟨w.heap.size, 0, none⟩, rfl, Lib.hid ⟨?_, below_alloc w _, fun ad h => by injection h with h; rw [← h]; exact Nat.le_refl _⟩⟩
  have h := nv_new w [1, 8]
  rw [used_4]
  exact h.more (by simp)
set_option maxRecDepth 100000 in
theorem fieldsOf_5 (w : World) : Calls Tryd.prog 25 #[.int .i64 5] w (FieldsPost 5 w) := by
  go_enter Tryd.func25, Tryd.ntmps25
  go_wp2_with fail
  go_ret
  refine ⟨some ⟨w.heap.size, 0, none⟩, rfl, Lib.hid ⟨?_, below_alloc w _, fun ad h => by injection h with h; rw [← h]; exact Nat.le_refl _⟩⟩
  have h := nv_new w [4]
  rw [used_5]
  exact h.more (by simp)
set_option maxRecDepth 100000 in
theorem fieldsOf_6 (w : World) : Calls Tryd.prog 25 #[.int .i64 6] w (FieldsPost 6 w) := by
  go_enter Tryd.func25, Tryd.ntmps25
  go_wp2_with fail
  go_ret
  refine ⟨some ⟨w.heap.size, 0, none⟩, rfl, Lib.hid ⟨?_, below_alloc w _, fun ad h => by injection h with h; rw [← h]; exact Nat.le_refl _⟩⟩
  have h := nv_new w [1]
  rw [used_6]
  exact h.more (by simp)
set_option maxRecDepth 100000 in
theorem fieldsOf_7 (w : World) : Calls Tryd.prog 25 #[.int .i64 7] w (FieldsPost 7 w) := by
  go_enter Tryd.func25, Tryd.ntmps25
  go_wp2_with fail
  go_ret
  refine ⟨some ⟨w.heap.size, 0, none⟩, rfl, Lib.hid ⟨?_, below_alloc w _, fun ad h => by injection h with h; rw [← h]; exact Nat.le_refl _⟩⟩
  have h := nv_new w [0, 2, 6]
  rw [used_7]
  exact h.more (by simp)
set_option maxRecDepth 100000 in
theorem fieldsOf_8 (w : World) : Calls Tryd.prog 25 #[.int .i64 8] w (FieldsPost 8 w) := by
  go_enter Tryd.func25, Tryd.ntmps25
  go_wp2_with fail
  go_ret
  refine ⟨some ⟨w.heap.size, 0, none⟩, rfl, Lib.hid ⟨?_, below_alloc w _, fun ad h => by injection h with h; rw [← h]; exact Nat.le_refl _⟩⟩
  have h := nv_new w [0, 2]
  rw [used_8]
  exact h.more (by simp)
set_option maxRecDepth 100000 in
theorem fieldsOf_9 (w : World) : Calls Tryd.prog 25 #[.int .i64 9] w (FieldsPost 9 w) := by
  go_enter Tryd.func25, Tryd.ntmps25
  go_wp2_with fail
  go_ret
  refine ⟨some ⟨w.heap.size, 0, none⟩, rfl, Lib.hid ⟨?_, below_alloc w _, fun ad h => by injection h with h; rw [← h]; exact Nat.le_refl _⟩⟩
  have h := nv_new w [0, 2, 8]
  rw [used_9]
  exact h.more (by simp)
set_option maxRecDepth 100000 in
theorem fieldsOf_10 (w : World) : Calls Tryd.prog 25 #[.int .i64 10] w (FieldsPost 10 w) := by
  go_enter Tryd.func25, Tryd.ntmps25
  go_wp2_with fail
  go_ret
  refine ⟨some ⟨w.heap.size, 0, none⟩, rfl, Lib.hid ⟨?_, below_alloc w _, fun ad h => by injection h with h; rw [← h]; exact Nat.le_refl _⟩⟩
  have h := nv_new w [0, 2, 3]
  rw [used_10]
  exact h.more (by simp)
set_option maxRecDepth 100000 in
theorem fieldsOf_11 (w : World) : Calls Tryd.prog 25 #[.int .i64 11] w (FieldsPost 11 w) := by
  go_enter Tryd.func25, Tryd.ntmps25
  go_wp2_with fail
  go_ret
  refine ⟨some ⟨w.heap.size, 0, none⟩, rfl, Lib.hid ⟨?_, below_alloc w _, fun ad h => by injection h with h; rw [← h]; exact Nat.le_refl _⟩⟩
  have h := nv_new w [0, 2]
  rw [used_11]
  exact h.more (by simp)
set_option maxRecDepth 100000 in
theorem fieldsOf_12 (w : World) : Calls Tryd.prog 25 #[.int .i64 12] w (FieldsPost 12 w) := by
  go_enter Tryd.func25, Tryd.ntmps25
  go_wp2_with fail
  go_ret
  refine ⟨some ⟨w.heap.size, 0, none⟩, rfl, Lib.hid ⟨?_, below_alloc w _, fun ad h => by injection h with h; rw [← h]; exact Nat.le_refl _⟩⟩
  have h := nv_new w [0, 2, 4]
  rw [used_12]
  exact h.more (by simp)
set_option maxRecDepth 100000 in
theorem fieldsOf_13 (w : World) : Calls Tryd.prog 25 #[.int .i64 13] w (FieldsPost 13 w) := by
  go_enter Tryd.func25, Tryd.ntmps25
  go_wp2_with fail
  go_ret
  refine ⟨some ⟨w.heap.size, 0, none⟩, rfl, Lib.hid ⟨?_, below_alloc w _, fun ad h => by injection h with h; rw [← h]; exact Nat.le_refl _⟩⟩
  have h := nv_new w [0, 6, 7]
  rw [used_13]
  exact h.more (by simp)
set_option maxRecDepth 100000 in
theorem fieldsOf_14 (w : World) : Calls Tryd.prog 25 #[.int .i64 14] w (FieldsPost 14 w) := by
  go_enter Tryd.func25, Tryd.ntmps25
  go_wp2_with fail
  go_ret
  refine ⟨some ⟨w.heap.size, 0, none⟩, rfl, Lib.hid ⟨?_, below_alloc w _, fun ad h => by injection h with h; rw [← h]; exact Nat.le_refl _⟩⟩
  have h := nv_new w [0, 6]
  rw [used_14]
  exact h.more (by simp)
set_option maxRecDepth 100000 in
theorem fieldsOf_15 (w : World) : Calls Tryd.prog 25 #[.int .i64 15] w (FieldsPost 15 w) := by
  go_enter Tryd.func25, Tryd.ntmps25
  go_wp2_with fail
  go_ret
  refine ⟨some ⟨w.heap.size, 0, none⟩, rfl, Lib.hid ⟨?_, below_alloc w _, fun ad h => by injection h with h; rw [← h]; exact Nat.le_refl _⟩⟩
  have h := nv_new w [0, 5, 6]
  rw [used_15]
  exact h.more (by simp)
set_option maxRecDepth 100000 in
theorem fieldsOf_16 (w : World) : Calls Tryd.prog 25 #[.int .i64 16] w (FieldsPost 16 w) := by
  go_enter Tryd.func25, Tryd.ntmps25
  go_wp2_with fail
  go_ret
  refine ⟨some ⟨w.heap.size, 0, none⟩, rfl, Lib.hid ⟨?_, below_alloc w _, fun ad h => by injection h with h; rw [← h]; exact Nat.le_refl _⟩⟩
  have h := nv_new w [0, 5, 6]
  rw [used_16]
  exact h.more (by simp)
set_option maxRecDepth 100000 in
theorem fieldsOf_17 (w : World) : Calls Tryd.prog 25 #[.int .i64 17] w (FieldsPost 17 w) := by
  go_enter Tryd.func25, Tryd.ntmps25
  go_wp2_with fail
  go_ret
  refine ⟨some ⟨w.heap.size, 0, none⟩, rfl, Lib.hid ⟨?_, below_alloc w _, fun ad h => by injection h with h; rw [← h]; exact Nat.le_refl _⟩⟩
  have h := nv_new w [0, 4, 6]
  rw [used_17]
  exact h.more (by simp)
set_option maxRecDepth 100000 in
theorem fieldsOf_none (k : Int) (w : World) (h : k ≠ 1 ∧ k ≠ 2 ∧ k ≠ 3 ∧ k ≠ 4 ∧ k ≠ 5 ∧ k ≠ 6 ∧ k ≠ 7 ∧ k ≠ 8 ∧ k ≠ 9 ∧ k ≠ 10 ∧ k ≠ 11 ∧ k ≠ 12 ∧ k ≠ 13 ∧ k ≠ 14 ∧ k ≠ 15 ∧ k ≠ 16 ∧ k ≠ 17) : Calls Tryd.prog 25 #[.int .i64 k] w (FieldsPost k w) := by
  have hu := used_none k h
  obtain ⟨h1, h2, h3, h4, h5, h6, h7, h8, h9, h10, h11, h12, h13, h14, h15, h16, h17⟩ := h
  have b1 : (k == 1) = false := by simp; exact h1
  have b2 : (k == 2) = false := by simp; exact h2
  have b3 : (k == 3) = false := by simp; exact h3
  have b4 : (k == 4) = false := by simp; exact h4
  have b5 : (k == 5) = false := by simp; exact h5
  have b6 : (k == 6) = false := by simp; exact h6
  have b7 : (k == 7) = false := by simp; exact h7
  have b8 : (k == 8) = false := by simp; exact h8
  have b9 : (k == 9) = false := by simp; exact h9
  have b10 : (k == 10) = false := by simp; exact h10
  have b11 : (k == 11) = false := by simp; exact h11
  have b12 : (k == 12) = false := by simp; exact h12
  have b13 : (k == 13) = false := by simp; exact h13
  have b14 : (k == 14) = false := by simp; exact h14
  have b15 : (k == 15) = false := by simp; exact h15
  have b16 : (k == 16) = false := by simp; exact h16
  have b17 : (k == 17) = false := by simp; exact h17
  clear h1 h2 h3 h4 h5 h6 h7 h8 h9 h10 h11 h12 h13 h14 h15 h16 h17
  have HU := Lib.hid hu
  clear hu
  go_enter Tryd.func25, Tryd.ntmps25
  go_wp2_with fail
  go_ret
  exact ⟨none, by rw [HU.out]; rfl, Lib.hid ⟨.inl (by rw [HU.out]; rfl), Below.refl _ _, fun _ h => by cases h⟩⟩
theorem fieldsOf_any (k : Int) (w : World) : Calls Tryd.prog 25 #[.int .i64 k] w (FieldsPost k w) := by
  rcases kinds_or k with (rfl | rfl | rfl | rfl | rfl | rfl | rfl | rfl | rfl | rfl | rfl | rfl | rfl | rfl | rfl | rfl | rfl) | h
  · exact fieldsOf_1 w
  · exact fieldsOf_2 w
  · exact fieldsOf_3 w
  · exact fieldsOf_4 w
  · exact fieldsOf_5 w
  · exact fieldsOf_6 w
  · exact fieldsOf_7 w
  · exact fieldsOf_8 w
  · exact fieldsOf_9 w
  · exact fieldsOf_10 w
  · exact fieldsOf_11 w
  · exact fieldsOf_12 w
  · exact fieldsOf_13 w
  · exact fieldsOf_14 w
  · exact fieldsOf_15 w
  · exact fieldsOf_16 w
  · exact fieldsOf_17 w
  · exact fieldsOf_none k w h
end Go.Proofs.YtlmdafldggbiaaaDoor

/- Frames: their cells, the fields that a kind uses, what the small functions of package frame answer. What bounds, bytesBounds and extent answer. What extent answers, for every field. What frame.Check answers: nil just if the frame is valid, else ErrFrame. What frame.Layout answers. What frame.cellOf answers: a field's cell. A valid frame's cells fit its layout; its bytes. -/
import Derived.Test.YtmhfhdbaeijcfaaDoorGA
import Derived.Test.YtmhfhdbaeijcfaaDoorGB
namespace Go.Proofs.YtmhfhdbaeijcfaaDoor
open Go.RowKit
open Go.Proofs.YtmhfhdbaeijcfaaDoor.H

/-- A frame: its numbers, texts, weight's bits, bytes. -/
structure Fr where
  kind : Int
  seq : Int
  got : Int
  stream : Int
  amount : Int
  code : Int
  who : ByteArray
  name : ByteArray
  weight : Nat
  ba : Option Addr
  bc : Nat
  bs : List UInt8
def Fr.cells (f : Fr) (n : Nat) : List Value := [.int .i64 f.kind, .int .i64 f.seq, .int .i64 f.got, .int .i64 f.stream, .int .i64 f.amount, .int .i64 f.code, .string f.who, .string f.name, .float .f64 f.weight, .slice f.ba n f.bc]
def Fr.v (f : Fr) : Value := .agg (f.cells f.bs.length).toArray
def i64ok (z : Int) : Prop := -9223372036854775808 ≤ z ∧ z ≤ 9223372036854775807
/-- A frame's numbers fit; its bytes lie below B. -/
structure Fr.ok (f : Fr) (w : World) (B : Nat) : Prop where
  kind : i64ok f.kind
  seq : i64ok f.seq
  got : i64ok f.got
  stream : i64ok f.stream
  amount : i64ok f.amount
  code : i64ok f.code
  who : f.who.size ≤ maxLen
  name : f.name.size ≤ maxLen
  weight : f.weight < 18446744073709551616
  cap : f.bs.length ≤ f.bc
  max : f.bc ≤ 9223372036854775807
  rd : Rd w B f.ba (f.bs.map bv)
theorem Fr.ok.below {f : Fr} {w w' : World} {B : Nat} (h : f.ok w B) (hb : Below B w w') : f.ok w' B := { h with rd := h.rd.below hb }
theorem Fr.ok.more {f : Fr} {w : World} {B B' : Nat} (h : f.ok w B) (hb : B ≤ B') : f.ok w B' := { h with rd := h.rd.more hb }

/-- The fields that a kind uses, in the order of its layout. -/
def used (k : Int) : List Nat :=
  if k = 1 then [5, 1, 8]
  else if k = 2 then [8]
  else if k = 3 then [8]
  else if k = 4 then [1, 8]
  else if k = 5 then [4]
  else if k = 6 then [1]
  else if k = 7 then [0, 2, 6]
  else if k = 8 then [0, 2]
  else if k = 9 then [0, 2, 8]
  else if k = 10 then [0, 2, 3]
  else if k = 11 then [0, 2]
  else if k = 12 then [0, 2, 4]
  else if k = 13 then [0, 6, 7]
  else if k = 14 then [0, 6]
  else if k = 15 then [0, 5, 6]
  else if k = 16 then [0, 5, 6]
  else if k = 17 then [0, 4, 6]
  else []
def blo (k : Int) : Int := if k = 1 then 0 else if k = 3 then 32 else 1
def bhi (k : Int) : Int := if k = 9 then 512 else 32
def lo (k : Int) : Nat → Int
  | 0 => 1
  | 1 => 0
  | 2 => 1
  | 3 => 1
  | 4 => 0
  | 5 => 1
  | 6 => 1
  | 7 => -9223372036854775808
  | _ => blo k
def hi (k : Int) : Nat → Int
  | 0 => 1099511627776
  | 1 => 1099511627776
  | 2 => 2147483647
  | 3 => 2147483647
  | 4 => 13
  | 5 => 16
  | 6 => 63
  | 7 => 9223372036854775807
  | _ => bhi k
/-- A field's extent: a number itself, a text's length, a weight's bits. -/
def ext (f : Fr) (x : Nat) : Int :=
  if x = 0 then f.seq else if x = 1 then f.got else if x = 2 then f.stream else if x = 3 then f.amount else if x = 4 then f.code
  else if x = 5 then (f.who.size : Int) else if x = 6 then (f.name.size : Int) else if x = 7 then wrap64 (f.weight : Int) else (f.bs.length : Int)
def least (k : Int) (x : Nat) : Int := if x ∈ used k then lo k x else 0
def most (k : Int) (x : Nat) : Int := if x ∈ used k then hi k x else 0
def fits (f : Fr) (x : Nat) : Bool := decide (least f.kind x ≤ ext f x ∧ ext f x ≤ most f.kind x)
def valid (f : Fr) : Bool := (used f.kind != []) && (List.range 9).all (fits f)
theorem below_alloc (w : World) (o : Obj) : Below w.heap.size w (w.alloc o) := (Below.refl _ _).alloc (Nat.le_refl _) _
def nv (n : Nat) : Value := .int .i64 (n : Int)

theorem used_1 : used 1 = [5, 1, 8] := by decide
theorem used_2 : used 2 = [8] := by decide
theorem used_3 : used 3 = [8] := by decide
theorem used_4 : used 4 = [1, 8] := by decide
theorem used_5 : used 5 = [4] := by decide
theorem used_6 : used 6 = [1] := by decide
theorem used_7 : used 7 = [0, 2, 6] := by decide
theorem used_8 : used 8 = [0, 2] := by decide
theorem used_9 : used 9 = [0, 2, 8] := by decide
theorem used_10 : used 10 = [0, 2, 3] := by decide
theorem used_11 : used 11 = [0, 2] := by decide
theorem used_12 : used 12 = [0, 2, 4] := by decide
theorem used_13 : used 13 = [0, 6, 7] := by decide
theorem used_14 : used 14 = [0, 6] := by decide
theorem used_15 : used 15 = [0, 5, 6] := by decide
theorem used_16 : used 16 = [0, 5, 6] := by decide
theorem used_17 : used 17 = [0, 4, 6] := by decide
theorem used_none (k : Int) (h : k ≠ 1 ∧ k ≠ 2 ∧ k ≠ 3 ∧ k ≠ 4 ∧ k ≠ 5 ∧ k ≠ 6 ∧ k ≠ 7 ∧ k ≠ 8 ∧ k ≠ 9 ∧ k ≠ 10 ∧ k ≠ 11 ∧ k ≠ 12 ∧ k ≠ 13 ∧ k ≠ 14 ∧ k ≠ 15 ∧ k ≠ 16 ∧ k ≠ 17) : used k = [] := by
  obtain ⟨h1, h2, h3, h4, h5, h6, h7, h8, h9, h10, h11, h12, h13, h14, h15, h16, h17⟩ := h
  simp [used, h1, h2, h3, h4, h5, h6, h7, h8, h9, h10, h11, h12, h13, h14, h15, h16, h17]
theorem kinds_or (k : Int) : (k = 1 ∨ k = 2 ∨ k = 3 ∨ k = 4 ∨ k = 5 ∨ k = 6 ∨ k = 7 ∨ k = 8 ∨ k = 9 ∨ k = 10 ∨ k = 11 ∨ k = 12 ∨ k = 13 ∨ k = 14 ∨ k = 15 ∨ k = 16 ∨ k = 17) ∨ (k ≠ 1 ∧ k ≠ 2 ∧ k ≠ 3 ∧ k ≠ 4 ∧ k ≠ 5 ∧ k ≠ 6 ∧ k ≠ 7 ∧ k ≠ 8 ∧ k ≠ 9 ∧ k ≠ 10 ∧ k ≠ 11 ∧ k ≠ 12 ∧ k ≠ 13 ∧ k ≠ 14 ∧ k ≠ 15 ∧ k ≠ 16 ∧ k ≠ 17) := by omega
theorem used_lt (k : Int) : ∀ x ∈ used k, x < 9 := by
  rcases kinds_or k with (rfl | rfl | rfl | rfl | rfl | rfl | rfl | rfl | rfl | rfl | rfl | rfl | rfl | rfl | rfl | rfl | rfl) | h
  rotate_right
  · rw [used_none k h]; simp
  all_goals decide
theorem used_len (k : Int) : (used k).length ≤ 9 := by
  rcases kinds_or k with (rfl | rfl | rfl | rfl | rfl | rfl | rfl | rfl | rfl | rfl | rfl | rfl | rfl | rfl | rfl | rfl | rfl) | h
  rotate_right
  · rw [used_none k h]; simp
  all_goals decide
theorem nv_new (w : World) (L : List Nat) : Rd (w.alloc (.cells (L.map nv).toArray 80)) (w.heap.size + 1) (some ⟨w.heap.size, 0, none⟩) (L.map nv) := by
  refine .inr ⟨_, rfl, by simp, ?_⟩
  exact cells_new w (L.map nv).toArray 80

def FieldsPost (k : Int) (w : World) (e : Ending) (w' : World) : Prop := ∃ A, e = .returned (.slice A (used k).length (used k).length) ∧ Hid (Rd w' w'.heap.size A ((used k).map nv) ∧ Below w.heap.size w w' ∧ ∀ ad, A = some ad → w.heap.size ≤ ad.block)
set_option maxRecDepth 100000 in
theorem fieldsOf_1 (w : World) : Calls Tryd.prog 37 #[.int .i64 1] w (FieldsPost 1 w) := by
  go_enter Tryd.func37, Tryd.ntmps37
  go_wp2_with fail
  go_ret
  refine ⟨some ⟨w.heap.size, 0, none⟩, rfl, Lib.hid ⟨?_, below_alloc w _, fun ad h => by injection h with h; rw [← h]; exact Nat.le_refl _⟩⟩
  have h := nv_new w [5, 1, 8]
  rw [used_1]
  exact h.more (by simp)
set_option maxRecDepth 100000 in
theorem fieldsOf_2 (w : World) : Calls Tryd.prog 37 #[.int .i64 2] w (FieldsPost 2 w) := by
  go_enter Tryd.func37, Tryd.ntmps37
  go_wp2_with fail
  go_ret
  refine ⟨some ⟨w.heap.size, 0, none⟩, rfl, Lib.hid ⟨?_, below_alloc w _, fun ad h => by injection h with h; rw [← h]; exact Nat.le_refl _⟩⟩
  have h := nv_new w [8]
  rw [used_2]
  exact h.more (by simp)
set_option maxRecDepth 100000 in
theorem fieldsOf_3 (w : World) : Calls Tryd.prog 37 #[.int .i64 3] w (FieldsPost 3 w) := by
  go_enter Tryd.func37, Tryd.ntmps37
  go_wp2_with fail
  go_ret
  refine ⟨some ⟨w.heap.size, 0, none⟩, rfl, Lib.hid ⟨?_, below_alloc w _, fun ad h => by injection h with h; rw [← h]; exact Nat.le_refl _⟩⟩
  have h := nv_new w [8]
  rw [used_3]
  exact h.more (by simp)
set_option maxRecDepth 100000 in
theorem fieldsOf_4 (w : World) : Calls Tryd.prog 37 #[.int .i64 4] w (FieldsPost 4 w) := by
  go_enter Tryd.func37, Tryd.ntmps37
  go_wp2_with fail
  go_ret
  refine ⟨some ⟨w.heap.size, 0, none⟩, rfl, Lib.hid ⟨?_, below_alloc w _, fun ad h => by injection h with h; rw [← h]; exact Nat.le_refl _⟩⟩
  have h := nv_new w [1, 8]
  rw [used_4]
  exact h.more (by simp)
set_option maxRecDepth 100000 in
theorem fieldsOf_5 (w : World) : Calls Tryd.prog 37 #[.int .i64 5] w (FieldsPost 5 w) := by
  go_enter Tryd.func37, Tryd.ntmps37
  go_wp2_with fail
  go_ret
  refine ⟨some ⟨w.heap.size, 0, none⟩, rfl, Lib.hid ⟨?_, below_alloc w _, fun ad h => by injection h with h; rw [← h]; exact Nat.le_refl _⟩⟩
  have h := nv_new w [4]
  rw [used_5]
  exact h.more (by simp)
set_option maxRecDepth 100000 in
theorem fieldsOf_6 (w : World) : Calls Tryd.prog 37 #[.int .i64 6] w (FieldsPost 6 w) := by
  go_enter Tryd.func37, Tryd.ntmps37
  go_wp2_with fail
  go_ret
  refine ⟨some ⟨w.heap.size, 0, none⟩, rfl, Lib.hid ⟨?_, below_alloc w _, fun ad h => by injection h with h; rw [← h]; exact Nat.le_refl _⟩⟩
  have h := nv_new w [1]
  rw [used_6]
  exact h.more (by simp)
set_option maxRecDepth 100000 in
theorem fieldsOf_7 (w : World) : Calls Tryd.prog 37 #[.int .i64 7] w (FieldsPost 7 w) := by
  go_enter Tryd.func37, Tryd.ntmps37
  go_wp2_with fail
  go_ret
  refine ⟨some ⟨w.heap.size, 0, none⟩, rfl, Lib.hid ⟨?_, below_alloc w _, fun ad h => by injection h with h; rw [← h]; exact Nat.le_refl _⟩⟩
  have h := nv_new w [0, 2, 6]
  rw [used_7]
  exact h.more (by simp)
set_option maxRecDepth 100000 in
theorem fieldsOf_8 (w : World) : Calls Tryd.prog 37 #[.int .i64 8] w (FieldsPost 8 w) := by
  go_enter Tryd.func37, Tryd.ntmps37
  go_wp2_with fail
  go_ret
  refine ⟨some ⟨w.heap.size, 0, none⟩, rfl, Lib.hid ⟨?_, below_alloc w _, fun ad h => by injection h with h; rw [← h]; exact Nat.le_refl _⟩⟩
  have h := nv_new w [0, 2]
  rw [used_8]
  exact h.more (by simp)
set_option maxRecDepth 100000 in
theorem fieldsOf_9 (w : World) : Calls Tryd.prog 37 #[.int .i64 9] w (FieldsPost 9 w) := by
  go_enter Tryd.func37, Tryd.ntmps37
  go_wp2_with fail
  go_ret
  refine ⟨some ⟨w.heap.size, 0, none⟩, rfl, Lib.hid ⟨?_, below_alloc w _, fun ad h => by injection h with h; rw [← h]; exact Nat.le_refl _⟩⟩
  have h := nv_new w [0, 2, 8]
  rw [used_9]
  exact h.more (by simp)
set_option maxRecDepth 100000 in
theorem fieldsOf_10 (w : World) : Calls Tryd.prog 37 #[.int .i64 10] w (FieldsPost 10 w) := by
  go_enter Tryd.func37, Tryd.ntmps37
  go_wp2_with fail
  go_ret
  refine ⟨some ⟨w.heap.size, 0, none⟩, rfl, Lib.hid ⟨?_, below_alloc w _, fun ad h => by injection h with h; rw [← h]; exact Nat.le_refl _⟩⟩
  have h := nv_new w [0, 2, 3]
  rw [used_10]
  exact h.more (by simp)
set_option maxRecDepth 100000 in
theorem fieldsOf_11 (w : World) : Calls Tryd.prog 37 #[.int .i64 11] w (FieldsPost 11 w) := by
  go_enter Tryd.func37, Tryd.ntmps37
  go_wp2_with fail
  go_ret
  refine ⟨some ⟨w.heap.size, 0, none⟩, rfl, Lib.hid ⟨?_, below_alloc w _, fun ad h => by injection h with h; rw [← h]; exact Nat.le_refl _⟩⟩
  have h := nv_new w [0, 2]
  rw [used_11]
  exact h.more (by simp)
set_option maxRecDepth 100000 in
theorem fieldsOf_12 (w : World) : Calls Tryd.prog 37 #[.int .i64 12] w (FieldsPost 12 w) := by
  go_enter Tryd.func37, Tryd.ntmps37
  go_wp2_with fail
  go_ret
  refine ⟨some ⟨w.heap.size, 0, none⟩, rfl, Lib.hid ⟨?_, below_alloc w _, fun ad h => by injection h with h; rw [← h]; exact Nat.le_refl _⟩⟩
  have h := nv_new w [0, 2, 4]
  rw [used_12]
  exact h.more (by simp)
set_option maxRecDepth 100000 in
theorem fieldsOf_13 (w : World) : Calls Tryd.prog 37 #[.int .i64 13] w (FieldsPost 13 w) := by
  go_enter Tryd.func37, Tryd.ntmps37
  go_wp2_with fail
  go_ret
  refine ⟨some ⟨w.heap.size, 0, none⟩, rfl, Lib.hid ⟨?_, below_alloc w _, fun ad h => by injection h with h; rw [← h]; exact Nat.le_refl _⟩⟩
  have h := nv_new w [0, 6, 7]
  rw [used_13]
  exact h.more (by simp)
set_option maxRecDepth 100000 in
theorem fieldsOf_14 (w : World) : Calls Tryd.prog 37 #[.int .i64 14] w (FieldsPost 14 w) := by
  go_enter Tryd.func37, Tryd.ntmps37
  go_wp2_with fail
  go_ret
  refine ⟨some ⟨w.heap.size, 0, none⟩, rfl, Lib.hid ⟨?_, below_alloc w _, fun ad h => by injection h with h; rw [← h]; exact Nat.le_refl _⟩⟩
  have h := nv_new w [0, 6]
  rw [used_14]
  exact h.more (by simp)
set_option maxRecDepth 100000 in
theorem fieldsOf_15 (w : World) : Calls Tryd.prog 37 #[.int .i64 15] w (FieldsPost 15 w) := by
  go_enter Tryd.func37, Tryd.ntmps37
  go_wp2_with fail
  go_ret
  refine ⟨some ⟨w.heap.size, 0, none⟩, rfl, Lib.hid ⟨?_, below_alloc w _, fun ad h => by injection h with h; rw [← h]; exact Nat.le_refl _⟩⟩
  have h := nv_new w [0, 5, 6]
  rw [used_15]
  exact h.more (by simp)
set_option maxRecDepth 100000 in
theorem fieldsOf_16 (w : World) : Calls Tryd.prog 37 #[.int .i64 16] w (FieldsPost 16 w) := by
  go_enter Tryd.func37, Tryd.ntmps37
  go_wp2_with fail
  go_ret
  refine ⟨some ⟨w.heap.size, 0, none⟩, rfl, Lib.hid ⟨?_, below_alloc w _, fun ad h => by injection h with h; rw [← h]; exact Nat.le_refl _⟩⟩
  have h := nv_new w [0, 5, 6]
  rw [used_16]
  exact h.more (by simp)
set_option maxRecDepth 100000 in
theorem fieldsOf_17 (w : World) : Calls Tryd.prog 37 #[.int .i64 17] w (FieldsPost 17 w) := by
  go_enter Tryd.func37, Tryd.ntmps37
  go_wp2_with fail
  go_ret
  refine ⟨some ⟨w.heap.size, 0, none⟩, rfl, Lib.hid ⟨?_, below_alloc w _, fun ad h => by injection h with h; rw [← h]; exact Nat.le_refl _⟩⟩
  have h := nv_new w [0, 4, 6]
  rw [used_17]
  exact h.more (by simp)
set_option maxRecDepth 100000 in
theorem fieldsOf_none (k : Int) (w : World) (h : k ≠ 1 ∧ k ≠ 2 ∧ k ≠ 3 ∧ k ≠ 4 ∧ k ≠ 5 ∧ k ≠ 6 ∧ k ≠ 7 ∧ k ≠ 8 ∧ k ≠ 9 ∧ k ≠ 10 ∧ k ≠ 11 ∧ k ≠ 12 ∧ k ≠ 13 ∧ k ≠ 14 ∧ k ≠ 15 ∧ k ≠ 16 ∧ k ≠ 17) : Calls Tryd.prog 37 #[.int .i64 k] w (FieldsPost k w) := by
  have hu := used_none k h
  obtain ⟨h1, h2, h3, h4, h5, h6, h7, h8, h9, h10, h11, h12, h13, h14, h15, h16, h17⟩ := h
  have b1 : (k == 1) = false := by simp; exact h1
  have b2 : (k == 2) = false := by simp; exact h2
  have b3 : (k == 3) = false := by simp; exact h3
  have b4 : (k == 4) = false := by simp; exact h4
  have b5 : (k == 5) = false := by simp; exact h5
  have b6 : (k == 6) = false := by simp; exact h6
  have b7 : (k == 7) = false := by simp; exact h7
  have b8 : (k == 8) = false := by simp; exact h8
  have b9 : (k == 9) = false := by simp; exact h9
  have b10 : (k == 10) = false := by simp; exact h10
  have b11 : (k == 11) = false := by simp; exact h11
  have b12 : (k == 12) = false := by simp; exact h12
  have b13 : (k == 13) = false := by simp; exact h13
  have b14 : (k == 14) = false := by simp; exact h14
  have b15 : (k == 15) = false := by simp; exact h15
  have b16 : (k == 16) = false := by simp; exact h16
  have b17 : (k == 17) = false := by simp; exact h17
  clear h1 h2 h3 h4 h5 h6 h7 h8 h9 h10 h11 h12 h13 h14 h15 h16 h17
  have HU := Lib.hid hu
  clear hu
  go_enter Tryd.func37, Tryd.ntmps37
  go_wp2_with fail
  go_ret
  exact ⟨none, by rw [HU.out]; rfl, Lib.hid ⟨.inl (by rw [HU.out]; rfl), Below.refl _ _, fun _ h => by cases h⟩⟩
theorem fieldsOf_any (k : Int) (w : World) : Calls Tryd.prog 37 #[.int .i64 k] w (FieldsPost k w) := by
  rcases kinds_or k with (rfl | rfl | rfl | rfl | rfl | rfl | rfl | rfl | rfl | rfl | rfl | rfl | rfl | rfl | rfl | rfl | rfl) | h
  · exact fieldsOf_1 w
  · exact fieldsOf_2 w
  · exact fieldsOf_3 w
  · exact fieldsOf_4 w
  · exact fieldsOf_5 w
  · exact fieldsOf_6 w
  · exact fieldsOf_7 w
  · exact fieldsOf_8 w
  · exact fieldsOf_9 w
  · exact fieldsOf_10 w
  · exact fieldsOf_11 w
  · exact fieldsOf_12 w
  · exact fieldsOf_13 w
  · exact fieldsOf_14 w
  · exact fieldsOf_15 w
  · exact fieldsOf_16 w
  · exact fieldsOf_17 w
  · exact fieldsOf_none k w h
end Go.Proofs.YtmhfhdbaeijcfaaDoor
namespace Go.Proofs.YtmhfhdbaeijcfaaDoor
open Go.RowKit
open Go.Proofs.YtmhfhdbaeijcfaaDoor.H

theorem wl_box {w : World} {ops : Array Oper} {rest : List Oper} {o : Oper} {a : Act} {Q : Exit → Act → World → Prop} (hgd : o.guard = none) (t : TypeId) (x : Operand) (ho : o.op = .box t x) (cs : List Value) (hx : a.eval x = .agg cs.toArray)
    (h : ∀ w', Hid (Row w' w.heap.size t cs) → Hid (Below w.heap.size w w') → Hid (w'.heap.size = w.heap.size + 1) → wpList Tryd.prog ops Q rest (a.put o.dst (.pointer (some ⟨w.heap.size, 0, none⟩))) w') :
    wpList Tryd.prog ops Q (o :: rest) a w := by
  refine wpList_plain hgd fun K hK => ?_
  unfold Oper.wp execOp
  simp only [ho, Sem.run_bind, Instr.box, newVar, newRow, run_newObj_alloc, Sem.run_pure, Result.andThen_ok, hx, Value.cells]
  exact hK _ _ (h _ (Row.new w cs t) ((Below.refl _ _).alloc (Nat.le_refl _) _) (by show (w.alloc _).heap.size = _; simp))

set_option maxRecDepth 100000 in
theorem bytesBounds_any (k : Int) (w : World) : Calls Tryd.prog 65 #[.int .i64 k] w fun e w' => e = .returned (.tuple #[.int .i64 (blo k), .int .i64 (bhi k)]) ∧ w = w' := by
  by_cases h1 : k = 1
  · subst h1
    go_enter Tryd.func65, Tryd.ntmps65
    go_wp2_with fail
    go_ret2
    exact ⟨rfl, rfl⟩
  by_cases h3 : k = 3
  · subst h3
    go_enter Tryd.func65, Tryd.ntmps65
    go_wp2_with fail
    go_ret2
    exact ⟨rfl, rfl⟩
  by_cases h9 : k = 9
  · subst h9
    go_enter Tryd.func65, Tryd.ntmps65
    go_wp2_with fail
    go_ret2
    exact ⟨rfl, rfl⟩
  have b1 : (k == 1) = false := by simp; exact h1
  have b3 : (k == 3) = false := by simp; exact h3
  have b9 : (k == 9) = false := by simp; exact h9
  have HB : Hid (blo k = 1 ∧ bhi k = 32) := Lib.hid (by simp [blo, bhi, h1, h3, h9])
  clear h1 h3 h9
  go_enter Tryd.func65, Tryd.ntmps65
  go_wp2_with fail
  go_ret2
  exact ⟨by rw [HB.out.1, HB.out.2]; rfl, rfl⟩

set_option maxRecDepth 100000 in
theorem bounds_any (k : Int) (x : Nat) (w : World) (hx : x < 9) : Calls Tryd.prog 47 #[.int .i64 k, .int .i64 (x : Int)] w fun e w' => e = .returned (.tuple #[.int .i64 (lo k x), .int .i64 (hi k x)]) ∧ w = w' := by
  match x, hx with
  | 0, _ =>
    go_enter Tryd.func47, Tryd.ntmps47
    go_wp2_with fail
    go_ret2
    exact ⟨rfl, rfl⟩
  | 1, _ =>
    go_enter Tryd.func47, Tryd.ntmps47
    go_wp2_with fail
    go_ret2
    exact ⟨rfl, rfl⟩
  | 2, _ =>
    go_enter Tryd.func47, Tryd.ntmps47
    go_wp2_with fail
    go_ret2
    exact ⟨rfl, rfl⟩
  | 3, _ =>
    go_enter Tryd.func47, Tryd.ntmps47
    go_wp2_with fail
    go_ret2
    exact ⟨rfl, rfl⟩
  | 4, _ =>
    go_enter Tryd.func47, Tryd.ntmps47
    go_wp2_with fail
    go_ret2
    exact ⟨rfl, rfl⟩
  | 5, _ =>
    go_enter Tryd.func47, Tryd.ntmps47
    go_wp2_with fail
    go_ret2
    exact ⟨rfl, rfl⟩
  | 6, _ =>
    go_enter Tryd.func47, Tryd.ntmps47
    go_wp2_with fail
    go_ret2
    exact ⟨rfl, rfl⟩
  | 7, _ =>
    go_enter Tryd.func47, Tryd.ntmps47
    go_wp2_with fail
    go_ret2
    exact ⟨rfl, rfl⟩
  | 8, _ =>
    go_enter Tryd.func47, Tryd.ntmps47
    go_wp2_with fail
    with_reducible refine (bytesBounds_any k w).mono ?_
    rintro e _ ⟨rfl, rfl⟩
    go_wp2_with fail
    go_ret2
    exact ⟨rfl, rfl⟩

set_option maxRecDepth 100000 in
theorem extent_0 (f : Fr) (v : Value) (n : Nat) (w : World) (HV : Hid (v = .agg (f.cells n).toArray)) : Calls Tryd.prog 48 #[v, .int .i64 0] w fun e w' => e = .returned (.int .i64 f.seq) ∧ Hid (Below w.heap.size w w') := by
  go_enter Tryd.func48, Tryd.ntmps48
  go_wp2_with (first
    | (refine wl_box rfl 25 (.tmp 0) rfl (f.cells n) HV.out ?_
       intro w1 HA1 HB1 HZ1
       have c1 : w1.cell? ⟨w.heap.size, 1, none⟩ = some (.int .i64 f.seq) := HA1.out.cell 1))
  go_ret
  exact ⟨rfl, HB1⟩
set_option maxRecDepth 100000 in
theorem extent_1 (f : Fr) (v : Value) (n : Nat) (w : World) (HV : Hid (v = .agg (f.cells n).toArray)) : Calls Tryd.prog 48 #[v, .int .i64 1] w fun e w' => e = .returned (.int .i64 f.got) ∧ Hid (Below w.heap.size w w') := by
  go_enter Tryd.func48, Tryd.ntmps48
  go_wp2_with (first
    | (refine wl_box rfl 25 (.tmp 0) rfl (f.cells n) HV.out ?_
       intro w1 HA1 HB1 HZ1
       have c2 : w1.cell? ⟨w.heap.size, 2, none⟩ = some (.int .i64 f.got) := HA1.out.cell 2))
  go_ret
  exact ⟨rfl, HB1⟩
set_option maxRecDepth 100000 in
theorem extent_2 (f : Fr) (v : Value) (n : Nat) (w : World) (HV : Hid (v = .agg (f.cells n).toArray)) : Calls Tryd.prog 48 #[v, .int .i64 2] w fun e w' => e = .returned (.int .i64 f.stream) ∧ Hid (Below w.heap.size w w') := by
  go_enter Tryd.func48, Tryd.ntmps48
  go_wp2_with (first
    | (refine wl_box rfl 25 (.tmp 0) rfl (f.cells n) HV.out ?_
       intro w1 HA1 HB1 HZ1
       have c3 : w1.cell? ⟨w.heap.size, 3, none⟩ = some (.int .i64 f.stream) := HA1.out.cell 3))
  go_ret
  exact ⟨rfl, HB1⟩
set_option maxRecDepth 100000 in
theorem extent_3 (f : Fr) (v : Value) (n : Nat) (w : World) (HV : Hid (v = .agg (f.cells n).toArray)) : Calls Tryd.prog 48 #[v, .int .i64 3] w fun e w' => e = .returned (.int .i64 f.amount) ∧ Hid (Below w.heap.size w w') := by
  go_enter Tryd.func48, Tryd.ntmps48
  go_wp2_with (first
    | (refine wl_box rfl 25 (.tmp 0) rfl (f.cells n) HV.out ?_
       intro w1 HA1 HB1 HZ1
       have c4 : w1.cell? ⟨w.heap.size, 4, none⟩ = some (.int .i64 f.amount) := HA1.out.cell 4))
  go_ret
  exact ⟨rfl, HB1⟩
set_option maxRecDepth 100000 in
theorem extent_4 (f : Fr) (v : Value) (n : Nat) (w : World) (HV : Hid (v = .agg (f.cells n).toArray)) : Calls Tryd.prog 48 #[v, .int .i64 4] w fun e w' => e = .returned (.int .i64 f.code) ∧ Hid (Below w.heap.size w w') := by
  go_enter Tryd.func48, Tryd.ntmps48
  go_wp2_with (first
    | (refine wl_box rfl 25 (.tmp 0) rfl (f.cells n) HV.out ?_
       intro w1 HA1 HB1 HZ1
       have c5 : w1.cell? ⟨w.heap.size, 5, none⟩ = some (.int .i64 f.code) := HA1.out.cell 5))
  go_ret
  exact ⟨rfl, HB1⟩
set_option maxRecDepth 100000 in
theorem extent_5 (f : Fr) (v : Value) (n : Nat) (w : World) (HV : Hid (v = .agg (f.cells n).toArray)) (_hw : f.who.size ≤ 9223372036854775807) : Calls Tryd.prog 48 #[v, .int .i64 5] w fun e w' => e = .returned (.int .i64 (f.who.size : Int)) ∧ Hid (Below w.heap.size w w') := by
  go_enter Tryd.func48, Tryd.ntmps48
  go_wp2_with (first
    | (refine wl_box rfl 25 (.tmp 0) rfl (f.cells n) HV.out ?_
       intro w1 HA1 HB1 HZ1
       have c6 : w1.cell? ⟨w.heap.size, 6, none⟩ = some (.string f.who) := HA1.out.cell 6))
  go_ret
  exact ⟨rfl, HB1⟩
set_option maxRecDepth 100000 in
theorem extent_6 (f : Fr) (v : Value) (n : Nat) (w : World) (HV : Hid (v = .agg (f.cells n).toArray)) (_hw : f.name.size ≤ 9223372036854775807) : Calls Tryd.prog 48 #[v, .int .i64 6] w fun e w' => e = .returned (.int .i64 (f.name.size : Int)) ∧ Hid (Below w.heap.size w w') := by
  go_enter Tryd.func48, Tryd.ntmps48
  go_wp2_with (first
    | (refine wl_box rfl 25 (.tmp 0) rfl (f.cells n) HV.out ?_
       intro w1 HA1 HB1 HZ1
       have c7 : w1.cell? ⟨w.heap.size, 7, none⟩ = some (.string f.name) := HA1.out.cell 7))
  go_ret
  exact ⟨rfl, HB1⟩
set_option maxRecDepth 100000 in
theorem extent_7 (f : Fr) (v : Value) (n : Nat) (w : World) (HV : Hid (v = .agg (f.cells n).toArray)) : Calls Tryd.prog 48 #[v, .int .i64 7] w fun e w' => e = .returned (.int .i64 (wrap64 (f.weight : Int))) ∧ Hid (Below w.heap.size w w') := by
  have hbt := F.run_bits
  go_enter Tryd.func48, Tryd.ntmps48
  go_wp2_with (first
    | (refine wl_box rfl 25 (.tmp 0) rfl (f.cells n) HV.out ?_
       intro w1 HA1 HB1 HZ1
       have c8 : w1.cell? ⟨w.heap.size, 8, none⟩ = some (.float .f64 f.weight) := HA1.out.cell 8))
  go_ret
  exact ⟨rfl, HB1⟩
set_option maxRecDepth 100000 in
theorem extent_8 (f : Fr) (v : Value) (n : Nat) (w : World) (HV : Hid (v = .agg (f.cells n).toArray)) (_hw : n ≤ 9223372036854775807) : Calls Tryd.prog 48 #[v, .int .i64 8] w fun e w' => e = .returned (.int .i64 (n : Int)) ∧ Hid (Below w.heap.size w w') := by
  go_enter Tryd.func48, Tryd.ntmps48
  go_wp2_with (first
    | (refine wl_box rfl 25 (.tmp 0) rfl (f.cells n) HV.out ?_
       intro w1 HA1 HB1 HZ1
       have c9 : w1.cell? ⟨w.heap.size, 9, none⟩ = some (.slice f.ba n f.bc) := HA1.out.cell 9))
  go_ret
  exact ⟨rfl, HB1⟩
end Go.Proofs.YtmhfhdbaeijcfaaDoor
namespace Go.Proofs.YtmhfhdbaeijcfaaDoor
open Go.RowKit
open Go.Proofs.YtmhfhdbaeijcfaaDoor.H
theorem ext_nine (x : Nat) (hx : x < 9) : x = 0 ∨ x = 1 ∨ x = 2 ∨ x = 3 ∨ x = 4 ∨ x = 5 ∨ x = 6 ∨ x = 7 ∨ x = 8 := by omega
theorem calls_int {v : Value} {a b c d : Int} {w : World} (h : Calls Tryd.prog 48 #[v, .int .i64 a] w fun e w' => e = .returned (.int .i64 c) ∧ Hid (Below w.heap.size w w')) (e1 : a = b) (e2 : c = d) : Calls Tryd.prog 48 #[v, .int .i64 b] w fun e w' => e = .returned (.int .i64 d) ∧ Hid (Below w.heap.size w w') := by
  subst e1 e2
  exact h
theorem extent_any (f : Fr) (v : Value) (x : Nat) (w : World) (hv : Hid (v = f.v)) (hx : x < 9) (hf : f.ok w w.heap.size) : Calls Tryd.prog 48 #[v, .int .i64 (x : Int)] w fun e w' => e = .returned (.int .i64 (ext f x)) ∧ Hid (Below w.heap.size w w') := by
  have HV : Hid (v = .agg (f.cells f.bs.length).toArray) := hv
  have hn : f.bs.length ≤ 9223372036854775807 := Nat.le_trans hf.cap hf.max
  rcases ext_nine x hx with rfl | rfl | rfl | rfl | rfl | rfl | rfl | rfl | rfl
  · exact calls_int (extent_0 f v _ w HV) rfl (by simp [ext])
  · exact calls_int (extent_1 f v _ w HV) rfl (by simp [ext])
  · exact calls_int (extent_2 f v _ w HV) rfl (by simp [ext])
  · exact calls_int (extent_3 f v _ w HV) rfl (by simp [ext])
  · exact calls_int (extent_4 f v _ w HV) rfl (by simp [ext])
  · exact calls_int (extent_5 f v _ w HV hf.who) rfl (by simp [ext])
  · exact calls_int (extent_6 f v _ w HV hf.name) rfl (by simp [ext])
  · exact calls_int (extent_7 f v _ w HV) rfl (by simp [ext])
  · exact calls_int (extent_8 f v _ w HV hn) rfl (by simp [ext])
end Go.Proofs.YtmhfhdbaeijcfaaDoor
namespace Go.Proofs.YtmhfhdbaeijcfaaDoor
open Go.RowKit
open Go.Proofs.YtmhfhdbaeijcfaaDoor.H

theorem info82 : (Tryd.prog.info? 98).map (fun i => (i.zero, i.size)) = some (some (.agg (List.replicate 9 (Value.int .i64 0)).toArray), 9) := by kernel_rfl
theorem under25 : ∃ fs, Tryd.prog.underlying 25 = some (.struct fs) := ⟨_, Tryd.underlying25⟩
theorem size25 : (Tryd.prog.info? 25).map (·.size) = some 10 := by kernel_rfl
/-- Nine numbers: those of L as g says, the others 0. -/
def rowOf (g : Nat → Int) (L : List Nat) : List Value := (List.range 9).map fun x => .int .i64 (if x ∈ L then g x else 0)
theorem rowOf_nil (g : Nat → Int) : rowOf g [] = List.replicate 9 (Value.int .i64 0) := by simp [rowOf, List.range, List.range.loop, List.replicate]
theorem rowOf_at (g : Nat → Int) (L : List Nat) (x : Nat) (hx : x < 9) : (rowOf g L)[x]? = some (.int .i64 (if x ∈ L then g x else 0)) := by
  unfold rowOf
  rw [List.getElem?_map, List.getElem?_range hx]
  rfl
theorem rowOf_set (g : Nat → Int) (L : List Nat) (x : Nat) : (rowOf g L).set x (.int .i64 (g x)) = rowOf g (L ++ [x]) := by
  apply List.ext_getElem
  · simp [rowOf]
  · intro i h1 h2
    rw [List.getElem_set]
    unfold rowOf
    simp only [List.getElem_map, List.getElem_range, List.mem_append, List.mem_singleton]
    by_cases h : x = i
    · subst h; simp
    · have h' : ¬ i = x := fun e => h e.symm
      simp [h, h']
theorem all_snoc (f : Fr) (x : Nat) (h : ∀ y, y < x → fits f y = true) (hx : fits f x = true) : ∀ y, y < x + 1 → fits f y = true := fun y hy => by
  by_cases e : y = x
  · subst e; exact hx
  · exact h y (by omega)
theorem valid_of (f : Fr) (hu : used f.kind ≠ []) (h : ∀ y, y < 9 → fits f y = true) : valid f = true := by
  unfold valid
  simp [hu]
  exact h
theorem invalid_of (f : Fr) (x : Nat) (hx : x < 9) (h : fits f x = false) : valid f = false := by
  unfold valid
  simp
  intro _
  exact ⟨x, hx, h⟩
theorem invalid_none (f : Fr) (h : used f.kind = []) : valid f = false := by simp [valid, h]

set_option maxRecDepth 100000 in
set_option maxHeartbeats 2000000 in
theorem check_frame (f : Fr) (v EF : Value) (w : World) (hv : Hid (v = f.v)) (hE : w.cell? ⟨0, 0, none⟩ = some EF) (h20 : 20 ≤ w.heap.size) (hf : f.ok w w.heap.size) :
    Calls Tryd.prog 18 #[v] w fun e w' => e = .returned (if valid f = true then .nilIface else EF) ∧ Hid (Below w.heap.size w w') := by
  have HF := Lib.hid hf
  have HE := Lib.hid hE
  clear hf hE
  obtain ⟨n, HN⟩ : ∃ n, Hid (f.bs.length = n) := ⟨_, rfl⟩
  have HV : Hid (v = .agg (f.cells n).toArray) := Lib.hid (by rw [hv.out, ← HN.out]; rfl)
  obtain ⟨res, HR⟩ : ∃ res, H.Shut (res = if valid f = true then Value.nilIface else EF) := ⟨_, ⟨rfl⟩⟩
  rw [← HR.out]
  clear hv
  go_enter Tryd.func18, Tryd.ntmps18
  go_wp2_with (first
    | (refine wl_box rfl 25 (.tmp 0) rfl (f.cells n) HV.out ?_
       intro w1 HA1 HB1 HZ1
       have c0 : w1.cell? ⟨w.heap.size, 0, none⟩ = some (.int .i64 f.kind) := HA1.out.cell 0))
  have hz1 : w.heap.size < w1.heap.size := by rw [HZ1.out]; omega
  clear HZ1
  with_reducible refine (fieldsOf_any f.kind w1).mono ?_
  rintro e w2 ⟨A, rfl, HV2⟩
  have HB2 := Lib.hid (HB1.out.trans (HV2.out.2.1.mono (Nat.le_of_lt hz1)))
  have HA2 := Lib.hid (HA1.out.below HV2.out.2.1 hz1)
  have hz2 : w1.heap.size ≤ w2.heap.size := HV2.out.2.1.size
  have he2 : w2.cell? ⟨0, 0, none⟩ = some EF := (HB2.out.cell (p := ⟨0, 0, none⟩) (show 0 < w.heap.size by omega)).trans HE.out
  obtain ⟨L, HL⟩ : ∃ L, H.Shut (used f.kind = L) := ⟨_, ⟨rfl⟩⟩
  obtain ⟨m, HM⟩ : ∃ m, Hid (L.length = m) := ⟨_, rfl⟩
  rw [HL.out, HM.out]
  have HRD : Hid (Rd w2 w2.heap.size A (L.map nv)) := Lib.hid (by rw [← HL.out]; exact HV2.out.1)
  clear HV2 c0
  have hm9 : m ≤ 9 := by
    have h := used_len f.kind
    rw [HL.out, HM.out] at h
    exact h
  by_cases hm0 : m = 0
  · have HF0 : Hid (res = EF) := Lib.hid (by rw [HR.out, if_neg]; rw [invalid_none f (by rw [HL.out]; exact List.eq_nil_of_length_eq_zero (by rw [HM.out]; exact hm0))]; decide)
    subst hm0
    go_wp2_with fail
    go_ret
    exact ⟨by rw [HF0.out]; rfl, HB2⟩
  have hmI : ((m : Int) == 0) = false := by simp; omega
  have HNE : Hid (used f.kind ≠ []) := Lib.hid (by rw [HL.out]; intro e; rw [e] at HM; exact hm0 HM.out.symm)
  clear he2
  go_wp2_with (first
    | (refine wl_alloc (o := ⟨some 4, _, _, _, _, _⟩) rfl 98 rfl _ _ info82 ?_
       intro w3 HA3 HB3 HZ3)
    | (refine wl_alloc (o := ⟨some 5, _, _, _, _, _⟩) rfl 98 rfl _ _ info82 ?_
       intro w4 HA4 HB4 HZ4))
  have hz3 : w2.heap.size < w3.heap.size := by rw [HZ3.out]; omega
  have hz4 : w3.heap.size < w4.heap.size := by rw [HZ4.out]; omega
  have HL4 : H.Shut (Row w4 w2.heap.size 98 (rowOf (lo f.kind) []) ∧ Row w4 w3.heap.size 98 (rowOf (hi f.kind) []) ∧ Row w4 w.heap.size 25 (f.cells n) ∧ Rd w4 w2.heap.size A (L.map nv) ∧ Below w.heap.size w w4) := ⟨by
    rw [rowOf_nil, rowOf_nil]
    have hb34 : Below w2.heap.size w2 w4 := HB3.out.trans (HB4.out.mono (by omega))
    exact ⟨HA3.out.below HB4.out (by omega), HA4.out, HA2.out.below hb34 (by omega), HRD.out.below hb34, HB2.out.trans (hb34.mono (by omega))⟩⟩
  generalize hgl : w2.heap.size = gl at *
  generalize hgm : w3.heap.size = gm at *
  have hlm : gl < gm := by omega
  have hwl : w.heap.size < gl := by omega
  clear HA3 HB3 HZ3 HA4 HB4 HZ4 hgl hgm HA1 HA2 HB1 HB2 HRD
  have HRL := Lib.hid HL4.out.2.2.2.1
  have HBW4 := Lib.hid HL4.out.2.2.2.2
  have HLX : H.Shut (∀ x ∈ L, x < 9) := ⟨by rw [← HL.out]; exact used_lt f.kind⟩
  go_loopw [19] (fun i W => ∃ j : Nat, j ≤ m ∧ i = .int .i64 j ∧ H.Shut (Row W gl 98 (rowOf (lo f.kind) (L.take j)) ∧ Row W gm 98 (rowOf (hi f.kind) (L.take j)) ∧ Row W w.heap.size 25 (f.cells n) ∧ Below gl w4 W)) (fun i _ => m - (intOf i).toNat)
  case atStart => exact ⟨0, Nat.zero_le _, rfl, ⟨HL4.out.1, HL4.out.2.1, HL4.out.2.2.1, Below.refl _ _⟩⟩
  case round =>
    clear HL4
    obtain ⟨j, hj, rfl, HI⟩ := hrel
    by_cases hlt : j < m
    · have hj2 : j < L.length := by rw [HM.out]; exact hlt
      obtain ⟨ad, rfl, _, hcx⟩ := Rd.cell (k := j) (u := nv L[j]) (HRL.out.below HI.out.2.2.2) (by simp [hj2])
      have hx9 : L[j] < 9 := HLX.out _ (List.getElem_mem hj2)
      have htk : L.take (j + 1) = L.take j ++ [L[j]] := List.take_succ_eq_append_getElem hj2
      generalize L[j] = x at *
      unfold nv at hcx
      have HTK := Lib.hid htk
      clear htk
      have c0 : wr.cell? ⟨w.heap.size, 0, none⟩ = some (.int .i64 f.kind) := HI.out.2.2.1.cell 0
      have hxI : (x : Int) < 9 := by omega
      have fr1 : ∀ v, (wr.setCell ⟨gl, x, none⟩ v).frozen? ⟨gm, x, none⟩ = false := fun v => (HI.out.2.1.setOther ⟨gl, x, none⟩ (show gm ≠ gl by omega) v).frozen x
      have fr2 : wr.frozen? ⟨gl, x, none⟩ = false := HI.out.1.frozen x
      have fr3 : wr.frozen? ⟨gm, x, none⟩ = false := HI.out.2.1.frozen x
      obtain ⟨x1, cx1⟩ : ∃ y, wr.cell? ⟨gl, x, none⟩ = some y := ⟨_, (HI.out.1.cell x).trans (rowOf_at _ _ _ hx9)⟩
      obtain ⟨x2, cx2⟩ : ∃ y, wr.cell? ⟨gm, x, none⟩ = some y := ⟨_, (HI.out.2.1.cell x).trans (rowOf_at _ _ _ hx9)⟩
      go_wp2_with fail
      with_reducible refine (bounds_any f.kind x wr hx9).mono ?_
      rintro e _ ⟨rfl, rfl⟩
      go_wp2_with fail
      refine ⟨⟨j + 1, by omega, by go_num, ⟨?_, ?_, ?_, ?_⟩⟩, by simp [intOf]; omega⟩
      · have h1 := (HI.out.1.set x (.int .i64 (lo f.kind x))).setOther ⟨gm, x, none⟩ (show gl ≠ gm by omega) (.int .i64 (hi f.kind x))
        rw [rowOf_set] at h1
        rw [HTK.out]
        exact h1
      · have h1 := (HI.out.2.1.setOther ⟨gl, x, none⟩ (show gm ≠ gl by omega) (.int .i64 (lo f.kind x))).set x (.int .i64 (hi f.kind x))
        rw [rowOf_set] at h1
        rw [HTK.out]
        exact h1
      · exact (HI.out.2.2.1.setOther ⟨gl, x, none⟩ (show w.heap.size ≠ gl by omega) _).setOther ⟨gm, x, none⟩ (show w.heap.size ≠ gm by omega) _
      · exact (HI.out.2.2.2.setCell (p := ⟨gl, x, none⟩) (Nat.le_refl _) _).setCell (p := ⟨gm, x, none⟩) (Nat.le_of_lt hlm) _
    · have HJ : H.Shut (Row wr gl 98 (rowOf (lo f.kind) L) ∧ Row wr gm 98 (rowOf (hi f.kind) L) ∧ Row wr w.heap.size 25 (f.cells n) ∧ Below w.heap.size w wr) := ⟨by
        have h1 := HI.out
        rw [List.take_of_length_le (by rw [HM.out]; omega)] at h1
        exact ⟨h1.1, h1.2.1, h1.2.2.1, HBW4.out.trans (h1.2.2.2.mono (Nat.le_of_lt hwl))⟩⟩
      have hglr : gl < wr.heap.size := HJ.out.1.lt
      have hgmr : gm < wr.heap.size := HJ.out.2.1.lt
      have hwr : w.heap.size < wr.heap.size := HJ.out.2.2.1.lt
      clear HI HRL HBW4 HLX
      generalize hw5 : wr = w5 at *
      clear hw5
      go_wp2_with fail
      go_loopw [35] (fun i W => ∃ x : Nat, x ≤ 9 ∧ i = .int .i64 x ∧ H.Shut ((∀ y, y < x → fits f y = true) ∧ Below w5.heap.size w5 W)) (fun i _ => 9 - (intOf i).toNat)
      case atStart => exact ⟨0, Nat.zero_le _, rfl, ⟨fun y hy => absurd hy (Nat.not_lt_zero _), Below.refl _ _⟩⟩
      case round =>
        obtain ⟨x, hx, rfl, HI⟩ := hrel
        have hb5 := HI.out.2
        by_cases hlt9 : x < 9
        · have hxI : (x : Int) < 9 := by omega
          have HRw := Lib.hid (HJ.out.2.2.1.below hb5 hwr)
          have cl : wr.cell? ⟨gl, x, none⟩ = some (.int .i64 (least f.kind x)) := ((HJ.out.1.below hb5 hglr).cell x).trans ((rowOf_at _ _ _ hlt9).trans (by unfold least; rw [HL.out]))
          have cm : wr.cell? ⟨gm, x, none⟩ = some (.int .i64 (most f.kind x)) := ((HJ.out.2.1.below hb5 hgmr).cell x).trans ((rowOf_at _ _ _ hlt9).trans (by unfold most; rw [HL.out]))
          have hlo : least f.kind x ≤ ext f x ∨ ext f x < least f.kind x := by omega
          have HFO := Lib.hid (((HF.out.below HJ.out.2.2.2).below (hb5.mono HJ.out.2.2.2.size)).more (Nat.le_trans HJ.out.2.2.2.size hb5.size))
          have hszr : w5.heap.size ≤ wr.heap.size := hb5.size
          have HB5 := Lib.hid (HJ.out.2.2.2.trans (hb5.mono HJ.out.2.2.2.size))
          have HYS := Lib.hid HI.out.1
          have HBR := Lib.hid hb5
          clear hb5 HI
          go_wp2_with (first
            | (refine wl_load rfl 25 (.tmp 1) rfl w.heap.size rfl 25 _ _ HRw.out under25.choose_spec rfl size25 ?_
               intro vp HVP))
          have HVP2 : Hid (vp = f.v) := Lib.hid (by rw [HVP.out]; unfold Fr.v; rw [HN.out])
          with_reducible refine (extent_any f vp x wr HVP2 hlt9 HFO.out).mono ?_
          rintro e w6 ⟨rfl, HV6⟩
          have HB6 := Lib.hid (HB5.out.trans (HV6.out.mono (Nat.le_trans HJ.out.2.2.2.size hszr)))
          have HB56 := Lib.hid (HBR.out.trans (HV6.out.mono hszr))
          have cl6 : w6.cell? ⟨gl, x, none⟩ = some (.int .i64 (least f.kind x)) := (HV6.out.cell (p := ⟨gl, x, none⟩) (show gl < wr.heap.size by omega)).trans cl
          have cm6 : w6.cell? ⟨gm, x, none⟩ = some (.int .i64 (most f.kind x)) := (HV6.out.cell (p := ⟨gm, x, none⟩) (show gm < wr.heap.size by omega)).trans cm
          have ce6 : w6.cell? ⟨0, 0, none⟩ = some EF := (HB6.out.cell (p := ⟨0, 0, none⟩) (show 0 < w.heap.size by omega)).trans HE.out
          clear cl cm HV6 HBR HB5 HFO HVP HVP2 HRw
          obtain ⟨E, HEE⟩ : ∃ E, H.Shut (ext f x = E) := ⟨_, ⟨rfl⟩⟩
          obtain ⟨a, HAA⟩ : ∃ a, H.Shut (least f.kind x = a) := ⟨_, ⟨rfl⟩⟩
          obtain ⟨b, HBB⟩ : ∃ b, H.Shut (most f.kind x = b) := ⟨_, ⟨rfl⟩⟩
          rw [HAA.out] at cl6
          rw [HBB.out] at cm6
          rw [HEE.out]
          clear hlo
          by_cases h1 : E < a
          · have HF0 : Hid (res = EF) := Lib.hid (by
              rw [HR.out, if_neg]
              rw [invalid_of f x hlt9 (by unfold fits; rw [HEE.out, HAA.out]; simp; omega)]
              decide)
            go_wp2_with fail
            go_ret
            exact ⟨by rw [HF0.out]; rfl, HB6⟩
          by_cases h2 : b < E
          · have HF0 : Hid (res = EF) := Lib.hid (by
              rw [HR.out, if_neg]
              rw [invalid_of f x hlt9 (by unfold fits; rw [HEE.out, HAA.out, HBB.out]; simp; omega)]
              decide)
            go_wp2_with fail
            go_ret
            exact ⟨by rw [HF0.out]; rfl, HB6⟩
          have HFX : Hid (fits f x = true) := Lib.hid (by unfold fits; rw [HEE.out, HAA.out, HBB.out]; simp; omega)
          go_wp2_with fail
          exact ⟨⟨x + 1, by omega, by go_num, ⟨all_snoc f x HYS.out HFX.out, HB56.out⟩⟩, by simp [intOf]; omega⟩
        · have HF1 : Hid (res = .nilIface) := Lib.hid (by
            have hx9 : x = 9 := by omega
            rw [HR.out, if_pos]
            exact valid_of f HNE.out (by rw [← hx9]; exact HI.out.1))
          have HB7 := Lib.hid (HJ.out.2.2.2.trans (hb5.mono HJ.out.2.2.2.size))
          clear hb5 HI
          go_wp2_with fail
          go_ret
          exact ⟨by rw [HF1.out]; rfl, HB7⟩
end Go.Proofs.YtmhfhdbaeijcfaaDoor
namespace Go.Proofs.YtmhfhdbaeijcfaaDoor
open Go.RowKit
open Go.Proofs.YtmhfhdbaeijcfaaDoor.H

def letter (x : Nat) : UInt8 := if x = 0 then 113 else if x = 1 then 113 else if x = 2 then 119 else if x = 3 then 119 else if x = 4 then 98 else if x = 5 then 116 else if x = 6 then 116 else if x = 7 then 102 else 114
theorem letter_cut (x : Nat) (hx : x < 9) : ((ByteArray.mk #[113, 113, 119, 119, 98, 116, 116, 102, 114]).extract x (x + 1)) = ByteArray.mk #[letter x] := by
  rcases ext_nine x hx with rfl | rfl | rfl | rfl | rfl | rfl | rfl | rfl | rfl <;> rfl
theorem bytes_cat (M K : List UInt8) : ByteArray.mk M.toArray ++ ByteArray.mk K.toArray = ByteArray.mk (M ++ K).toArray := by
  apply ByteArray.ext
  simp [ByteArray.data_append]
theorem letter_cat (M : List UInt8) (x : Nat) (hx : x < 9) : ByteArray.mk M.toArray ++ ((ByteArray.mk #[113, 113, 119, 119, 98, 116, 116, 102, 114]).extract x (x + 1)) = ByteArray.mk (M ++ [letter x]).toArray := by
  rw [letter_cut x hx]
  exact bytes_cat M [letter x]
/-- A kind's layout. -/
def layL (k : Int) : List UInt8 := (used k).map letter

set_option maxRecDepth 100000 in
set_option maxHeartbeats 1000000 in
theorem layout_any (k : Int) (w : World) : Calls Tryd.prog 20 #[.int .i64 k] w fun e w' => e = .returned (.string ⟨(layL k).toArray⟩) ∧ Hid (Below w.heap.size w w') := by
  go_enter Tryd.func20, Tryd.ntmps20
  go_wp2_with fail
  with_reducible refine (fieldsOf_any k w).mono ?_
  rintro e w2 ⟨A, rfl, HV2⟩
  obtain ⟨L, HL⟩ : ∃ L, H.Shut (used k = L) := ⟨_, ⟨rfl⟩⟩
  obtain ⟨m, HM⟩ : ∃ m, Hid (L.length = m) := ⟨_, rfl⟩
  have hm9 : m ≤ 9 := by
    have h := used_len k
    rw [HL.out, HM.out] at h
    exact h
  rw [HL.out, HM.out]
  have HRD : Hid (Rd w2 w2.heap.size A (L.map nv)) := Lib.hid (by rw [← HL.out]; exact HV2.out.1)
  have HLX : H.Shut (∀ x ∈ L, x < 9) := ⟨by rw [← HL.out]; exact used_lt k⟩
  go_wp2_with fail
  go_loop [3, 9] (fun v i => ∃ j : Nat, j ≤ m ∧ i = .int .i64 j ∧ H.Shut (v = .string ⟨((L.take j).map letter).toArray⟩)) (fun _ i => m - (intOf i).toNat)
  case atStart => exact ⟨0, Nat.zero_le _, rfl, ⟨by simp⟩⟩
  case round =>
    obtain ⟨j, hj, rfl, HI⟩ := hrel
    obtain ⟨t, HT⟩ : ∃ t, H.Shut (t = ByteArray.mk ((L.take j).map letter).toArray) := ⟨_, ⟨rfl⟩⟩
    have hv3 : u3 = .string t := by rw [HT.out]; exact HI.out
    subst hv3
    by_cases hlt : j < m
    · have hj2 : j < L.length := by rw [HM.out]; exact hlt
      obtain ⟨ad, rfl, _, hcx⟩ := HRD.out.cell (k := j) (u := nv L[j]) (by simp [hj2])
      have hx9 : L[j] < 9 := HLX.out _ (List.getElem_mem hj2)
      have htk : L.take (j + 1) = L.take j ++ [L[j]] := List.take_succ_eq_append_getElem hj2
      generalize L[j] = x at *
      unfold nv at hcx
      have hw1 : IntKind.i64.wrap ((x : Int) + 1) = (x : Int) + 1 := by rw [IntKind.wrap_i64]; omega
      have hts : t.size ≤ 9 := by
        rw [HT.out]
        show ((L.take j).map letter).toArray.size ≤ 9
        simp
        omega
      have hnl : ¬ 9223372036854775807 < t.size + (min (x + 1) 9 - x) := by omega
      have HTX : H.Shut (Value.string (t ++ (ByteArray.mk #[113, 113, 119, 119, 98, 116, 116, 102, 114]).extract x (x + 1)) = .string ⟨((L.take (j + 1)).map letter).toArray⟩) := ⟨by rw [htk, HT.out, letter_cat _ x hx9, List.map_append]; rfl⟩
      clear htk hts
      go_wp2_with fail
      exact ⟨⟨j + 1, by omega, by go_num, HTX⟩, by simp [intOf]; omega⟩
    · have HTF : Hid (t = ⟨(layL k).toArray⟩) := Lib.hid (by rw [HT.out, List.take_of_length_le (by rw [HM.out]; omega), ← HL.out]; rfl)
      have HB2 := Lib.hid HV2.out.2.1
      clear HV2
      go_wp2_with fail
      go_ret
      exact ⟨by rw [← HTF.out]; rfl, HB2⟩
end Go.Proofs.YtmhfhdbaeijcfaaDoor
namespace Go.Proofs.YtmhfhdbaeijcfaaDoor
open Go.RowKit
open Go.Proofs.YtmhfhdbaeijcfaaDoor.H

/-- A field's cell. -/
def cellF (f : Fr) (x : Nat) : F.FC :=
  if x = 5 then { s := f.who } else if x = 6 then { s := f.name } else if x = 7 then { f := f.weight } else if x = 8 then { s := ⟨f.bs.toArray⟩ } else { n := ext f x }
theorem info60 : (Tryd.prog.info? 76).map (fun i => (i.zero, i.size)) = some (some (.agg [Value.int .i64 0, Value.float .f64 0, Value.string ⟨#[]⟩].toArray), 3) := by kernel_rfl
def CellPost (f : Fr) (x : Nat) (w : World) (e : Ending) (w' : World) : Prop := e = .returned (cellF f x).v ∧ Hid (Below w.heap.size w w')

set_option maxRecDepth 100000 in
theorem cell_who (f : Fr) (v : Value) (n : Nat) (w : World) (HV : Hid (v = .agg (f.cells n).toArray)) : Calls Tryd.prog 38 #[v, .int .i64 5] w fun e w' => e = .returned (.agg #[.int .i64 0, .float .f64 0, .string f.who]) ∧ Hid (Below w.heap.size w w') := by
  have HLD : Hid ((Tryd.prog.info? 76).map (·.size) = some 3) := Lib.hid (by kernel_rfl)
  go_enter Tryd.func38, Tryd.ntmps38
  go_wp2_with (first
    | (refine wl_box rfl 25 (.tmp 0) rfl (f.cells n) HV.out ?_
       intro w1 HA1 HB1 HZ1
       have hz1 : w.heap.size < w1.heap.size := by rw [HZ1.out]; omega)
    | (refine wl_alloc rfl 76 rfl _ _ info60 ?_
       intro w2 HA2 HB2 HZ2
       have hz2 : w1.heap.size < w2.heap.size := by rw [HZ2.out]; omega
       have c6 : w2.cell? ⟨w.heap.size, 6, none⟩ = some (.string f.who) := (HA1.out.below HB2.out hz1).cell 6)
    | (refine wl_store rfl 76 (.tmp 4) (.tmp 10) rfl w1.heap.size _ [.int .i64 0, .float .f64 0, .string f.who] rfl rfl rfl 76 _ HA2.out HLD.out rfl (by simp [Value.oneCell']) ?_
       intro w4 HR4 HS4 HZ4))
  refine bodyPost_ret (v := .agg #[.int .i64 0, .float .f64 0, .string f.who]) (results_cell_row Tryd.results38 _ w4 w1.heap.size 76 _ (0, 0) _ rfl HR4.out Tryd.underlying76 rfl (by simpa using HLD.out)) rfl ?_
  have hb2 : Below w.heap.size w w2 := HB1.out.trans (HB2.out.mono (Nat.le_of_lt hz1))
  exact ⟨rfl, Lib.hid (hb2.trans (HS4.out.below (Nat.le_of_lt hz1) hb2.size))⟩

set_option maxRecDepth 100000 in
theorem cell_name (f : Fr) (v : Value) (n : Nat) (w : World) (HV : Hid (v = .agg (f.cells n).toArray)) : Calls Tryd.prog 38 #[v, .int .i64 6] w fun e w' => e = .returned (.agg #[.int .i64 0, .float .f64 0, .string f.name]) ∧ Hid (Below w.heap.size w w') := by
  have HLD : Hid ((Tryd.prog.info? 76).map (·.size) = some 3) := Lib.hid (by kernel_rfl)
  go_enter Tryd.func38, Tryd.ntmps38
  go_wp2_with (first
    | (refine wl_box rfl 25 (.tmp 0) rfl (f.cells n) HV.out ?_
       intro w1 HA1 HB1 HZ1
       have hz1 : w.heap.size < w1.heap.size := by rw [HZ1.out]; omega)
    | (refine wl_alloc rfl 76 rfl _ _ info60 ?_
       intro w2 HA2 HB2 HZ2
       have hz2 : w1.heap.size < w2.heap.size := by rw [HZ2.out]; omega
       have c7 : w2.cell? ⟨w.heap.size, 7, none⟩ = some (.string f.name) := (HA1.out.below HB2.out hz1).cell 7)
    | (refine wl_store rfl 76 (.tmp 4) (.tmp 15) rfl w1.heap.size _ [.int .i64 0, .float .f64 0, .string f.name] rfl rfl rfl 76 _ HA2.out HLD.out rfl (by simp [Value.oneCell']) ?_
       intro w4 HR4 HS4 HZ4))
  refine bodyPost_ret (v := .agg #[.int .i64 0, .float .f64 0, .string f.name]) (results_cell_row Tryd.results38 _ w4 w1.heap.size 76 _ (0, 0) _ rfl HR4.out Tryd.underlying76 rfl (by simpa using HLD.out)) rfl ?_
  have hb2 : Below w.heap.size w w2 := HB1.out.trans (HB2.out.mono (Nat.le_of_lt hz1))
  exact ⟨rfl, Lib.hid (hb2.trans (HS4.out.below (Nat.le_of_lt hz1) hb2.size))⟩

set_option maxRecDepth 100000 in
theorem cell_weight (f : Fr) (v : Value) (n : Nat) (w : World) (HV : Hid (v = .agg (f.cells n).toArray)) : Calls Tryd.prog 38 #[v, .int .i64 7] w fun e w' => e = .returned (.agg #[.int .i64 0, .float .f64 f.weight, .string ⟨#[]⟩]) ∧ Hid (Below w.heap.size w w') := by
  have HLD : Hid ((Tryd.prog.info? 76).map (·.size) = some 3) := Lib.hid (by kernel_rfl)
  go_enter Tryd.func38, Tryd.ntmps38
  go_wp2_with (first
    | (refine wl_box rfl 25 (.tmp 0) rfl (f.cells n) HV.out ?_
       intro w1 HA1 HB1 HZ1
       have hz1 : w.heap.size < w1.heap.size := by rw [HZ1.out]; omega)
    | (refine wl_alloc rfl 76 rfl _ _ info60 ?_
       intro w2 HA2 HB2 HZ2
       have hz2 : w1.heap.size < w2.heap.size := by rw [HZ2.out]; omega
       have c8 : w2.cell? ⟨w.heap.size, 8, none⟩ = some (.float .f64 f.weight) := (HA1.out.below HB2.out hz1).cell 8)
    | (refine wl_store rfl 76 (.tmp 4) (.tmp 20) rfl w1.heap.size _ [.int .i64 0, .float .f64 f.weight, .string ⟨#[]⟩] rfl rfl rfl 76 _ HA2.out HLD.out rfl (by simp [Value.oneCell']) ?_
       intro w4 HR4 HS4 HZ4))
  refine bodyPost_ret (v := .agg #[.int .i64 0, .float .f64 f.weight, .string ⟨#[]⟩]) (results_cell_row Tryd.results38 _ w4 w1.heap.size 76 _ (0, 0) _ rfl HR4.out Tryd.underlying76 rfl (by simpa using HLD.out)) rfl ?_
  have hb2 : Below w.heap.size w w2 := HB1.out.trans (HB2.out.mono (Nat.le_of_lt hz1))
  exact ⟨rfl, Lib.hid (hb2.trans (HS4.out.below (Nat.le_of_lt hz1) hb2.size))⟩

set_option maxRecDepth 100000 in
theorem cell_bytes (f : Fr) (v : Value) (n : Nat) (w : World) (HV : Hid (v = .agg (f.cells n).toArray)) (HN : Hid (f.bs.length = n)) (HR : Hid (Rd w w.heap.size f.ba (f.bs.map bv))) : Calls Tryd.prog 38 #[v, .int .i64 8] w fun e w' => e = .returned (.agg #[.int .i64 0, .float .f64 0, .string ⟨f.bs.toArray⟩]) ∧ Hid (Below w.heap.size w w') := by
  have HLD : Hid ((Tryd.prog.info? 76).map (·.size) = some 3) := Lib.hid (by kernel_rfl)
  go_enter Tryd.func38, Tryd.ntmps38
  go_wp2_with (first
    | (refine wl_box rfl 25 (.tmp 0) rfl (f.cells n) HV.out ?_
       intro w1 HA1 HB1 HZ1
       have hz1 : w.heap.size < w1.heap.size := by rw [HZ1.out]; omega)
    | (refine wl_alloc rfl 76 rfl _ _ info60 ?_
       intro w2 HA2 HB2 HZ2
       have hz2 : w1.heap.size < w2.heap.size := by rw [HZ2.out]; omega
       have c9 : w2.cell? ⟨w.heap.size, 9, none⟩ = some (.slice f.ba n f.bc) := (HA1.out.below HB2.out hz1).cell 9
       have hst := Rd.toStr (bs := f.bs) ((HR.out.below HB1.out).below (HB2.out.mono (Nat.le_of_lt hz1))) n f.bc HN.out)
    | (refine wl_store rfl 76 (.tmp 4) (.tmp 26) rfl w1.heap.size _ [.int .i64 0, .float .f64 0, .string ⟨f.bs.toArray⟩] rfl rfl rfl 76 _ HA2.out HLD.out rfl (by simp [Value.oneCell']) ?_
       intro w4 HR4 HS4 HZ4))
  refine bodyPost_ret (v := .agg #[.int .i64 0, .float .f64 0, .string ⟨f.bs.toArray⟩]) (results_cell_row Tryd.results38 _ w4 w1.heap.size 76 _ (0, 0) _ rfl HR4.out Tryd.underlying76 rfl (by simpa using HLD.out)) rfl ?_
  have hb2 : Below w.heap.size w w2 := HB1.out.trans (HB2.out.mono (Nat.le_of_lt hz1))
  exact ⟨rfl, Lib.hid (hb2.trans (HS4.out.below (Nat.le_of_lt hz1) hb2.size))⟩

set_option maxRecDepth 100000 in
set_option maxHeartbeats 1000000 in
theorem cell_number (f : Fr) (v : Value) (x : Nat) (w : World) (hv : Hid (v = f.v)) (hf : f.ok w w.heap.size) (hx : x < 5) : Calls Tryd.prog 38 #[v, .int .i64 (x : Int)] w fun e w' => e = .returned (.agg #[.int .i64 (ext f x), .float .f64 0, .string ⟨#[]⟩]) ∧ Hid (Below w.heap.size w w') := by
  have HF := Lib.hid hf
  clear hf
  have b5 : ((x : Int) == 5) = false := by simp; omega
  have b6 : ((x : Int) == 6) = false := by simp; omega
  have b7 : ((x : Int) == 7) = false := by simp; omega
  have b8 : ((x : Int) == 8) = false := by simp; omega
  obtain ⟨n, HN⟩ : ∃ n, Hid (f.bs.length = n) := ⟨_, rfl⟩
  have HV : Hid (v = .agg (f.cells n).toArray) := Lib.hid (by rw [hv.out, ← HN.out]; rfl)
  go_enter Tryd.func38, Tryd.ntmps38
  go_wp2_with (first
    | (refine wl_box rfl 25 (.tmp 0) rfl (f.cells n) HV.out ?_
       intro w1 HA1 HB1 HZ1
       have hz1 : w.heap.size < w1.heap.size := by rw [HZ1.out]; omega)
    | (refine wl_load rfl 25 (.tmp 2) rfl w.heap.size rfl 25 _ _ (HA1.out.alloc _) under25.choose_spec rfl size25 ?_
       intro vp HVP))
  have HVP2 : Hid (vp = f.v) := Lib.hid (by rw [HVP.out]; unfold Fr.v; rw [HN.out])
  obtain ⟨w2, HW2⟩ : ∃ w2, H.Shut (w2 = w1.alloc (.cells #[.int .i64 0, .float .f64 0, .string ⟨#[]⟩] 76)) := ⟨_, ⟨rfl⟩⟩
  have hb12 : Below w1.heap.size w1 w2 := by rw [HW2.out]; exact below_alloc _ _
  have hb2 : Below w.heap.size w w2 := HB1.out.trans (hb12.mono (Nat.le_of_lt hz1))
  have HR2 : Hid (Row w2 w1.heap.size 76 [.int .i64 0, .float .f64 0, .string ⟨#[]⟩]) := Lib.hid (by rw [HW2.out]; exact Row.new w1 _ 76)
  rw [← HW2.out]
  have HFO := Lib.hid ((HF.out.below hb2).more hb2.size)
  have hg : w1.heap.size < w2.heap.size := HR2.out.lt
  with_reducible refine (extent_any f vp x w2 HVP2 (by omega) HFO.out).mono ?_
  rintro e w3 ⟨rfl, HV3⟩
  have HB3 := Lib.hid (hb2.trans (HV3.out.mono hb2.size))
  have HR3 := Lib.hid (HR2.out.below HV3.out hg)
  have k0 : w3.cell? ⟨w1.heap.size, 0, none⟩ = some (.int .i64 0) := HR3.out.cell 0
  have k1 : w3.cell? ⟨w1.heap.size, 1, none⟩ = some (.float .f64 0) := HR3.out.cell 1
  have k2 : w3.cell? ⟨w1.heap.size, 2, none⟩ = some (.string ⟨#[]⟩) := HR3.out.cell 2
  obtain ⟨E, HEE⟩ : ∃ E, H.Shut (ext f x = E) := ⟨_, ⟨rfl⟩⟩
  rw [HEE.out]
  have HLD : Hid ((Tryd.prog.info? 76).map (·.size) = some 3) := Lib.hid (by kernel_rfl)
  go_wp2_with (first
    | (refine wl_store rfl 76 (.tmp 4) (.tmp 30) rfl w1.heap.size _ [.int .i64 E, .float .f64 0, .string ⟨#[]⟩] rfl rfl rfl 76 _ HR3.out HLD.out rfl (by simp [Value.oneCell']) ?_
       intro w4 HR4 HS4 HZ4))
  refine bodyPost_ret (v := .agg #[.int .i64 E, .float .f64 0, .string ⟨#[]⟩]) (results_cell_row Tryd.results38 _ w4 w1.heap.size 76 _ (0, 0) _ rfl HR4.out Tryd.underlying76 rfl (by simpa using HLD.out)) rfl ?_
  exact ⟨by rw [HEE.out], Lib.hid (HB3.out.trans (HS4.out.below (Nat.le_of_lt hz1) HB3.out.size))⟩

theorem cellOf_any (f : Fr) (v : Value) (x : Nat) (w : World) (hv : Hid (v = f.v)) (hf : f.ok w w.heap.size) (hx : x < 9) : Calls Tryd.prog 38 #[v, .int .i64 (x : Int)] w (CellPost f x w) := by
  have HV : Hid (v = .agg (f.cells f.bs.length).toArray) := hv
  by_cases h : x < 5
  · refine (cell_number f v x w hv hf h).mono fun e w' ⟨he, hb⟩ => ⟨?_, hb⟩
    rw [he]
    unfold cellF
    rw [if_neg (by omega), if_neg (by omega), if_neg (by omega), if_neg (by omega)]
    rfl
  · have h4 : x = 5 ∨ x = 6 ∨ x = 7 ∨ x = 8 := by omega
    rcases h4 with rfl | rfl | rfl | rfl
    · exact (cell_who f v _ w HV).mono fun e w' ⟨he, hb⟩ => ⟨by rw [he]; rfl, hb⟩
    · exact (cell_name f v _ w HV).mono fun e w' ⟨he, hb⟩ => ⟨by rw [he]; rfl, hb⟩
    · exact (cell_weight f v _ w HV).mono fun e w' ⟨he, hb⟩ => ⟨by rw [he]; rfl, hb⟩
    · exact (cell_bytes f v _ w HV (Lib.hid rfl) (Lib.hid hf.rd)).mono fun e w' ⟨he, hb⟩ => ⟨by rw [he]; rfl, hb⟩
end Go.Proofs.YtmhfhdbaeijcfaaDoor
namespace Go.Proofs.YtmhfhdbaeijcfaaDoor
open Go.RowKit
open Go.Proofs.YtmhfhdbaeijcfaaDoor.H

/-- How many bytes a field has. -/
def wid (f : Fr) (x : Nat) : Nat :=
  if x = 0 ∨ x = 1 ∨ x = 7 then 8 else if x = 2 ∨ x = 3 then 4 else if x = 4 then 1 else if x = 5 then 1 + f.who.size else if x = 6 then 1 + f.name.size else 2 + f.bs.length
/-- A field within its bounds. -/
def within (f : Fr) (x : Nat) : Prop := lo f.kind x ≤ ext f x ∧ ext f x ≤ hi f.kind x
theorem bhi_le (k : Int) : bhi k ≤ 512 := by unfold bhi; split <;> omega
theorem valid_within {f : Fr} (h : valid f = true) : ∀ x ∈ used f.kind, within f x := fun x hx => by
  unfold valid at h
  simp at h
  have h2 := h.2 x (used_lt _ x hx)
  unfold fits least most at h2
  simp [hx] at h2
  exact h2
theorem sizeS_num {c : Nat} {x : F.FC} (h1 : c ≠ 102) (h2 : F.isT c = false) (h3 : 0 ≤ x.n) (h4 : x.n ≤ (F.great (F.hd c) : Int)) : F.sizeS c x = .ok (F.hd c) := by
  unfold F.sizeS
  rw [if_neg h1, h2]
  simp
  omega
theorem sizeS_text {c : Nat} {x : F.FC} (h1 : c ≠ 102) (h2 : F.isT c = true) (h3 : x.s.size ≤ F.great (F.hd c)) : F.sizeS c x = .ok (F.hd c + x.s.size) := by
  unfold F.sizeS
  rw [if_neg h1, h2]
  simp
  omega
theorem sizeS_wid (f : Fr) (x : Nat) (hx : x < 9) (h : within f x) : F.sizeS (letter x).toNat (cellF f x) = .ok (wid f x) := by
  obtain ⟨h1, h2⟩ := h
  rcases ext_nine x hx with rfl | rfl | rfl | rfl | rfl | rfl | rfl | rfl | rfl
  · exact sizeS_num (c := 113) (x := { n := ext f 0 }) (by decide) rfl (by simp [lo] at h1; show 0 ≤ ext f 0; omega) (by simp [hi] at h2; show ext f 0 ≤ 9223372036854775807; omega)
  · exact sizeS_num (c := 113) (x := { n := ext f 1 }) (by decide) rfl (by simp [lo] at h1; show 0 ≤ ext f 1; omega) (by simp [hi] at h2; show ext f 1 ≤ 9223372036854775807; omega)
  · exact sizeS_num (c := 119) (x := { n := ext f 2 }) (by decide) rfl (by simp [lo] at h1; show 0 ≤ ext f 2; omega) (by simp [hi] at h2; show ext f 2 ≤ 4294967295; omega)
  · exact sizeS_num (c := 119) (x := { n := ext f 3 }) (by decide) rfl (by simp [lo] at h1; show 0 ≤ ext f 3; omega) (by simp [hi] at h2; show ext f 3 ≤ 4294967295; omega)
  · exact sizeS_num (c := 98) (x := { n := ext f 4 }) (by decide) rfl (by simp [lo] at h1; show 0 ≤ ext f 4; omega) (by simp [hi] at h2; show ext f 4 ≤ 255; omega)
  · exact sizeS_text (c := 116) (x := { s := f.who }) (by decide) rfl (by simp [hi, ext] at h2; show f.who.size ≤ 255; omega)
  · exact sizeS_text (c := 116) (x := { s := f.name }) (by decide) rfl (by simp [hi, ext] at h2; show f.name.size ≤ 255; omega)
  · rfl
  · have h3 := bhi_le f.kind
    exact sizeS_text (c := 114) (x := { s := ⟨f.bs.toArray⟩ }) (by decide) rfl (by simp [hi, ext] at h2; show f.bs.toArray.size ≤ 65535; simp; omega)
theorem hd_letter (x : Nat) : F.hd (letter x).toNat ≠ 0 := by
  unfold letter
  repeat' split
  all_goals decide
theorem sumS_fields (f : Fr) : ∀ L : List Nat, (∀ x ∈ L, x < 9 ∧ within f x) → F.sumS (L.map letter) (L.map (cellF f)) = .ok (L.map (wid f)).sum
  | [], _ => rfl
  | x :: L, h => by
    have h1 := sizeS_wid f x (h x (by simp)).1 (h x (by simp)).2
    have h2 := sumS_fields f L (fun y hy => h y (by simp [hy]))
    simp only [List.map_cons, F.sumS, h1, h2, List.sum_cons]
/-- How many bytes a frame has ahead of its check. -/
def total (f : Fr) : Nat := 3 + ((used f.kind).map (wid f)).sum
def layS (k : Int) : List UInt8 := [104, 98] ++ layL k
def cellsP (f : Fr) (t : Int) : List F.FC := [{ n := t }, { n := f.kind }] ++ (used f.kind).map (cellF f)
theorem used_kind (k : Int) (h : used k ≠ []) : 1 ≤ k ∧ k ≤ 17 := by
  rcases kinds_or k with h1 | h1
  · omega
  · exact absurd (used_none k h1) h
theorem valid_used {f : Fr} (h : valid f = true) : used f.kind ≠ [] := by
  unfold valid at h
  simp at h
  exact h.1
theorem kn_layS (k : Int) : F.kn (layS k) = true := by
  unfold F.kn layS layL
  simp
  exact ⟨by decide, by decide, fun x _ => hd_letter x⟩
theorem sumS_frame (f : Fr) (t : Int) (h : valid f = true) (h0 : 0 ≤ t) (h1 : t ≤ 65535) : F.sumS (layS f.kind) (cellsP f t) = .ok (total f) := by
  have hk := used_kind _ (valid_used h)
  have h2 := sumS_fields f (used f.kind) (fun x hx => ⟨used_lt _ x hx, valid_within h x hx⟩)
  have e1 : F.sizeS (104 : UInt8).toNat { n := t } = .ok 2 := sizeS_num (by decide) rfl h0 (by show t ≤ 65535; exact h1)
  have e2 : F.sizeS (98 : UInt8).toNat { n := f.kind } = .ok 1 := sizeS_num (by decide) rfl (by show 0 ≤ f.kind; omega) (by show f.kind ≤ 255; omega)
  have h3 : F.sumS (98 :: layL f.kind) ({ n := f.kind } :: (used f.kind).map (cellF f)) = .ok (1 + ((used f.kind).map (wid f)).sum) := by
    have h2' : F.sumS (layL f.kind) ((used f.kind).map (cellF f)) = .ok ((used f.kind).map (wid f)).sum := h2
    rw [F.sumS, e2, h2']
  show F.sumS (104 :: 98 :: layL f.kind) ({ n := t } :: { n := f.kind } :: (used f.kind).map (cellF f)) = _
  rw [F.sumS, e1, h3]
  show Except.ok (2 + (1 + ((used f.kind).map (wid f)).sum)) = _
  rw [← Nat.add_assoc]
  rfl
theorem wid_le (f : Fr) (x : Nat) (hx : x < 9) (h : within f x) : wid f x ≤ 514 := by
  have h3 := bhi_le f.kind
  obtain ⟨_, h2⟩ := h
  rcases ext_nine x hx with rfl | rfl | rfl | rfl | rfl | rfl | rfl | rfl | rfl <;> simp [wid, hi, ext] at h2 ⊢ <;> omega
theorem sum_le (f : Fr) : ∀ L : List Nat, (∀ x ∈ L, wid f x ≤ 514) → (L.map (wid f)).sum ≤ 514 * L.length
  | [], _ => by simp
  | x :: L, h => by
    have h1 := h x (by simp)
    have h2 := sum_le f L (fun y hy => h y (by simp [hy]))
    simp only [List.map_cons, List.sum_cons, List.length_cons]
    omega
theorem total_le (f : Fr) (h : valid f = true) : 3 ≤ total f ∧ total f ≤ 4629 := by
  have h1 := sum_le f (used f.kind) (fun x hx => wid_le f x (used_lt _ x hx) (valid_within h x hx))
  have h2 := used_len f.kind
  unfold total
  omega
/-- A frame's bytes ahead of its check; with the check. -/
def cov (f : Fr) : List UInt8 := F.encB (layS f.kind) (cellsP f ((total f : Int) - 2))
def putB (f : Fr) : List UInt8 := cov f ++ (digest (cov f)).take 4
theorem cov_length (f : Fr) (h : valid f = true) : (cov f).length = total f := by
  have h1 := total_le f h
  exact F.encB_length (sumS_frame f _ h (by omega) (by omega))
theorem putB_length (f : Fr) (h : valid f = true) : (putB f).length = total f + 4 := by
  unfold putB
  rw [List.length_append, cov_length f h, List.length_take, digest_length]
  omega
end Go.Proofs.YtmhfhdbaeijcfaaDoor

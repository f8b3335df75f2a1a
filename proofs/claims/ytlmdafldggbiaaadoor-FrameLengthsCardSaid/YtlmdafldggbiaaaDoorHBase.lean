/- How byte slices and whole rows are read; what a call that writes one row leaves alone; the words' operators as the walk spells them. -/
import Derived.Test.YtlmdafldggbiaaaDoorRows
import Derived.Test.YtlmdafldggbiaaaDoorHSha
import Derived.WalkKit
import Derived.WalkSpells
import Derived.WalkLawsBesides
import Derived.Below
import Derived.Lib.Hide
import Derived.Laws.BitsAllLaws
import Derived.Laws.IdiomStrings
import Derived.Laws.BytesArg
import Derived.Laws.CopyOwn
import Derived.Deep.WholeRow
import Derived.Maps.AppendAt
import Derived.Maps.Range
import Derived.OwnWalk
namespace Go.Proofs.YtlmdafldggbiaaaDoor.H
open Go.RowKit

theorem ret_int {k : IntKind} {a b : Int} (h : a = b) : Ending.returned (.int k a) = .returned (.int k b) := by rw [h]
theorem ret_bool {a b : Bool} (h : a = b) : Ending.returned (.bool a) = .returned (.bool b) := by rw [h]

/-- A byte as a cell. -/
def bv (b : UInt8) : Value := .int .u8 (b.toNat : Int)
/-- A word as a number, as a cell. -/
def U (x : Wd) : Int := (x.toNat : Int)
def uv (x : Wd) : Value := .int .u32 (U x)

/-- 'the slice value with base A and length xs.length holds the cells xs, in a block below B'. -/
def Rd (w : World) (B : Nat) (A : Option Addr) (xs : List Value) : Prop :=
  xs = [] ∨ ∃ ad, A = some ad ∧ ad.block < B ∧ ∀ (j : Nat) (u : Value), xs[j]? = some u → w.cell? (ad.add j) = some u

theorem Rd.cell {w : World} {B : Nat} {A : Option Addr} {xs : List Value} (h : Rd w B A xs) {k : Nat} {u : Value} (hk : xs[k]? = some u) :
    ∃ ad, A = some ad ∧ ad.block < B ∧ w.cell? (ad.add k) = some u := by
  rcases h with rfl | ⟨ad, h1, h2, h3⟩
  · simp at hk
  · exact ⟨ad, h1, h2, h3 k u hk⟩
theorem Rd.take {w : World} {B : Nat} {A : Option Addr} {xs : List Value} (h : Rd w B A xs) (k : Nat) : Rd w B A (xs.take k) := by
  rcases h with rfl | ⟨ad, h1, h2, h3⟩
  · exact .inl (by simp)
  · refine .inr ⟨ad, h1, h2, fun j u hj => h3 j u ?_⟩
    rw [List.getElem?_take] at hj
    split at hj
    · exact hj
    · simp at hj
theorem Rd.keep {w w' : World} {B : Nat} {A : Option Addr} {xs : List Value} (h : Rd w B A xs) (hk : ∀ p : Addr, p.block < B → w'.cell? p = w.cell? p) : Rd w' B A xs := by
  rcases h with rfl | ⟨ad, h1, h2, h3⟩
  · exact .inl rfl
  · refine .inr ⟨ad, h1, h2, fun j u hj => (hk _ ?_).trans (h3 j u hj)⟩
    unfold Addr.add
    split <;> exact h2
theorem Rd.more {w : World} {B B' : Nat} {A : Option Addr} {xs : List Value} (h : Rd w B A xs) (hB : B ≤ B') : Rd w B' A xs := by
  rcases h with rfl | ⟨ad, h1, h2, h3⟩
  · exact .inl rfl
  · exact .inr ⟨ad, h1, by omega, h3⟩
theorem Rd.below {w w' : World} {B : Nat} {A : Option Addr} {xs : List Value} (h : Rd w B A xs) (hb : Below B w w') : Rd w' B A xs := h.keep fun _ hp => hb.cell hp
theorem Rd.drop {w : World} {B : Nat} {A : Option Addr} {xs : List Value} (h : Rd w B A xs) {k cap : Nat} (hk : k ≤ xs.length) (hc : xs.length ≤ cap) : Rd w B (if cap = k then A else A.map (·.add k)) (xs.drop k) := by
  rcases h with rfl | ⟨ad, h1, h2, h3⟩
  · exact .inl (by simp)
  · rcases Nat.lt_or_ge k xs.length with hlt | hge
    · rw [if_neg (by omega)]
      subst h1
      refine .inr ⟨ad.add k, rfl, by unfold Addr.add; split <;> exact h2, fun j u hj => ?_⟩
      rw [List.getElem?_drop] at hj
      rw [← h3 _ u hj]
      congr 1
      unfold Addr.add
      by_cases hk0 : k = 0 <;> by_cases hj0 : j = 0 <;> simp [hk0, hj0, Nat.add_assoc]
    · exact .inl (List.drop_eq_nil_of_le hge)
theorem Rd.drewN {w : World} {B : Nat} {A : Option Addr} {xs : List Value} (h : Rd w B A xs) (n : Nat) : Rd (w.drewN n) B A xs := h
theorem Rd.toStr {w : World} {B : Nat} {A : Option Addr} {bs : List UInt8} (h : Rd w B A (bs.map bv)) (n c : Nat) (hn : bs.length = n) :
    (convert 23 9 (.slice A n c)).run Tryd.prog w = .ok (.string ⟨bs.toArray⟩) w := by
  subst hn
  rcases h with h | ⟨ad, rfl, _, h3⟩
  · have : bs = [] := by simpa using h
    subst this
    rcases A with _ | ad
    · exact run_convert_bytes_nil w 23 5 Tryd.underlying23 Tryd.underlying5 _ _ 9 Tryd.underlying9
    · exact run_convert_bytes_back w 23 9 5 ad c [] Tryd.underlying23 Tryd.underlying5 Tryd.underlying9 (fun j hj => absurd hj (by simp))
  · exact run_convert_bytes_back w 23 9 5 ad c bs Tryd.underlying23 Tryd.underlying5 Tryd.underlying9 (fun j hj => h3 j _ (by simp [hj, bv]))
theorem below_drewN {B : Nat} {a w : World} (h : Below B a w) (n : Nat) : Below B a (w.drewN n) := ⟨h.os, h.tape, h.output, h.size, h.block⟩
theorem quietL {P : Program} {f : FuncId} {args : Array Value} {w : World} {n : Nat} {v : Value} (h : Calls P f args (w.drewN n) fun e w' => e = .returned v ∧ w.drewN n = w') :
    Calls P f args (w.drewN n) fun e w'' => e = .returned v ∧ ∃ m, w'' = w.drewN m := h.mono fun _ _ ⟨he, hm⟩ => ⟨he, n, hm.symm⟩

/-- Block g is a row of the cells cs, none of them frozen. -/
def Row (w : World) (g : Nat) (t : TypeId) (cs : List Value) : Prop := w.heap[g]? = some (.cells cs.toArray t (0, 0))
theorem Row.lt {w : World} {g : Nat} {t : TypeId} {cs : List Value} (h : Row w g t cs) : g < w.heap.size := (Array.getElem?_eq_some_iff.1 h).1
theorem Row.cell {w : World} {g : Nat} {t : TypeId} {cs : List Value} (h : Row w g t cs) (k : Nat) : w.cell? ⟨g, k, none⟩ = cs[k]? := by
  unfold Row at h
  simp [World.cell?, h]
theorem Row.frozen {w : World} {g : Nat} {t : TypeId} {cs : List Value} (h : Row w g t cs) (k : Nat) : w.frozen? ⟨g, k, none⟩ = false := by
  unfold Row at h
  simp [World.frozen?, h]
theorem Row.set {w : World} {g : Nat} {t : TypeId} {cs : List Value} (h : Row w g t cs) (k : Nat) (v : Value) : Row (w.setCell ⟨g, k, none⟩ v) g t (cs.set k v) := by
  unfold Row at h ⊢
  have hlt := (Array.getElem?_eq_some_iff.1 h).1
  simp only [World.setCell, Array.getElem?_modify, h]
  simp
theorem Row.new (w : World) (cs : List Value) (t : TypeId) : Row (w.alloc (.cells cs.toArray t)) w.heap.size t cs := heap_alloc_last w _
theorem Row.alloc {w : World} {g : Nat} {t : TypeId} {cs : List Value} (h : Row w g t cs) (o : Obj) : Row (w.alloc o) g t cs := (Below.heap_alloc w o g h.lt).trans h
theorem Row.setOther {w : World} {g : Nat} {t : TypeId} {cs : List Value} (h : Row w g t cs) (a : Addr) (hne : g ≠ a.block) (v : Value) : Row (w.setCell a v) g t cs := (Below.heap_setCell w a v g hne).trans h
theorem Row.below {w w' : World} {g : Nat} {t : TypeId} {cs : List Value} (h : Row w g t cs) {B : Nat} (hb : Below B w w') (hg : g < B) : Row w' g t cs := (hb.block g hg).trans h
theorem Row.drewN {w : World} {g : Nat} {t : TypeId} {cs : List Value} (h : Row w g t cs) (n : Nat) : Row (w.drewN n) g t cs := h
theorem Row.rd {w : World} {g : Nat} {t : TypeId} {cs : List Value} (h : Row w g t cs) (B : Nat) (hB : g < B) : Rd w B (some ⟨g, 0, none⟩) cs := by
  refine .inr ⟨_, rfl, hB, fun j u hj => ?_⟩
  have e2 : (⟨g, 0, none⟩ : Addr).add j = ⟨g, j, none⟩ := by simp [Addr.add]; omega
  rw [e2, h.cell, hj]
theorem Row.rdAt {w : World} {g : Nat} {t : TypeId} {cs : List Value} (h : Row w g t cs) (B : Nat) (hB : g < B) (o : Nat) : Rd w B (some ⟨g, o, none⟩) (cs.drop o) := by
  refine .inr ⟨_, rfl, hB, fun j u hj => ?_⟩
  have e2 : (⟨g, o, none⟩ : Addr).add j = ⟨g, o + j, none⟩ := by unfold Addr.add; split <;> simp_all
  rw [e2, h.cell, ← hj, List.getElem?_drop]

/-- Of what there was only block g may have turned. -/
structure Sole (g : Nat) (w w' : World) : Prop where
  os : w'.os = w.os
  tape : w'.tape = w.tape
  output : w'.output = w.output
  size : w.heap.size ≤ w'.heap.size
  block : ∀ k, k < w.heap.size → k ≠ g → w'.heap[k]? = w.heap[k]?
theorem Sole.refl (g : Nat) (w : World) : Sole g w w := ⟨rfl, rfl, rfl, Nat.le_refl _, fun _ _ _ => rfl⟩
theorem Sole.trans {g : Nat} {a b c : World} (h : Sole g a b) (k : Sole g b c) : Sole g a c :=
  ⟨k.os.trans h.os, k.tape.trans h.tape, k.output.trans h.output, Nat.le_trans h.size k.size, fun i hi hg => (k.block i (Nat.lt_of_lt_of_le hi h.size) hg).trans (h.block i hi hg)⟩
theorem Sole.of_below {g : Nat} {w w' : World} (h : Below w.heap.size w w') : Sole g w w' := ⟨h.os, h.tape, h.output, h.size, fun k hk _ => h.block k hk⟩
theorem Sole.below {g : Nat} {w w' : World} (h : Sole g w w') {B : Nat} (hB : B ≤ g) (hs : B ≤ w.heap.size) : Below B w w' := ⟨h.os, h.tape, h.output, h.size, fun k hk => h.block k (by omega) (by omega)⟩
theorem Sole.drewN {g : Nat} {a w : World} (h : Sole g a w) (n : Nat) : Sole g a (w.drewN n) := ⟨h.os, h.tape, h.output, h.size, h.block⟩
theorem Sole.setCell {g : Nat} {a w : World} (h : Sole g a w) (k : Nat) (v : Value) : Sole g a (w.setCell ⟨g, k, none⟩ v) :=
  h.trans ⟨rfl, rfl, rfl, by simp [World.setCell], fun i _ hg => Below.heap_setCell _ _ _ _ hg⟩
theorem Sole.setNew {g : Nat} {a w : World} (h : Sole g a w) (p : Addr) (hp : a.heap.size ≤ p.block) (v : Value) : Sole g a (w.setCell p v) :=
  ⟨h.os, h.tape, h.output, by have := h.size; simpa [World.setCell] using this, fun i hi hg => (Below.heap_setCell _ _ _ _ (by omega)).trans (h.block i hi hg)⟩
theorem Sole.alloc {g : Nat} {a w : World} (h : Sole g a w) (o : Obj) : Sole g a (w.alloc o) :=
  ⟨h.os, h.tape, h.output, by have := h.size; simp; omega, fun i hi hg => (Below.heap_alloc w o i (Nat.lt_of_lt_of_le hi h.size)).trans (h.block i hi hg)⟩
theorem Sole.row {g k : Nat} {w w' : World} {t : TypeId} {cs : List Value} (h : Sole g w w') (hr : Row w k t cs) (hk : k ≠ g) : Row w' k t cs := (h.block k hr.lt hk).trans hr
theorem Sole.cell {g : Nat} {w w' : World} (h : Sole g w w') {p : Addr} (hp : p.block < w.heap.size) (hk : p.block ≠ g) : w'.cell? p = w.cell? p := by
  unfold World.cell?
  rw [h.block _ hp hk]

theorem info_parts' {P : Program} {t : TypeId} {v : Value} {n b : Nat} (h : (P.info? t).map (fun i => (i.zero, i.size, i.bytes)) = some (some v, n, b)) :
    ∃ i, P.info? t = some i ∧ i.zero = some v ∧ i.size = n ∧ i.bytes = b := by
  cases hq : P.info? t with
  | none => simp [hq] at h
  | some i => simp [hq] at h; exact ⟨i, rfl, h.1, h.2.1, h.2.2⟩
theorem u8_info : (Tryd.prog.info? 5).map (fun i => (i.zero, i.size, i.bytes)) = some (some (.int .u8 0), 1, 1) := by kernel_rfl
theorem own_below {w w' : World} {base : Nat} {e : TypeId} {size : Nat} {v : Value} {n : Nat} {xs : List Value} (h : w.ownsRow base e size v n xs) (hb : Below w.heap.size w w') : w'.ownsRow base e size v n xs :=
  h.kept (row := none) ⟨hb.os, hb.tape, hb.output, hb.size, fun k hk _ => hb.block k hk⟩ (by cases v.ownBlock <;> simp)

/-! Words. -/
theorem U_lt (x : Wd) : U x < 4294967296 := by unfold U; have := x.isLt; omega
theorem U_nn (x : Wd) : 0 ≤ U x := by unfold U; omega
theorem U_ofInt (x : Wd) : BitVec.ofInt 32 (U x) = x := by
  apply BitVec.eq_of_toNat_eq
  unfold U
  rw [BitVec.ofInt_natCast, BitVec.toNat_ofNat]
  exact Nat.mod_eq_of_lt x.isLt
theorem wrap_U (x : Wd) : IntKind.u32.wrap (U x) = U x := by
  rw [IntKind.wrap_u32']
  have := U_lt x
  have := U_nn x
  omega
theorem u_xor (x y : Wd) : bits .xor .u32 (U x) (U y) = U (x ^^^ y) := by
  show IntKind.u32.wrap ((BitVec.ofInt 32 (U x) ^^^ BitVec.ofInt 32 (U y)).toNat : Int) = _
  rw [U_ofInt, U_ofInt]
  exact wrap_U _
theorem u_and (x y : Wd) : bits .and .u32 (U x) (U y) = U (x &&& y) := by
  show IntKind.u32.wrap ((BitVec.ofInt 32 (U x) &&& BitVec.ofInt 32 (U y)).toNat : Int) = _
  rw [U_ofInt, U_ofInt]
  exact wrap_U _
theorem u_or (x y : Wd) : bits .or .u32 (U x) (U y) = U (x ||| y) := by
  show IntKind.u32.wrap ((BitVec.ofInt 32 (U x) ||| BitVec.ofInt 32 (U y)).toNat : Int) = _
  rw [U_ofInt, U_ofInt]
  exact wrap_U _
theorem u_not (x : Wd) : bits .xor .u32 4294967295 (U x) = U (~~~x) := by
  show IntKind.u32.wrap ((BitVec.ofInt 32 4294967295 ^^^ BitVec.ofInt 32 (U x)).toNat : Int) = _
  rw [U_ofInt, show BitVec.ofInt 32 4294967295 = BitVec.allOnes 32 by decide, BitVec.allOnes_xor]
  exact wrap_U _
theorem u_add (x y : Wd) : IntKind.u32.wrap (U x + U y) = U (x + y) := by
  rw [IntKind.wrap_u32']
  unfold U
  rw [BitVec.toNat_add]
  omega
theorem u_shr (x : Wd) (n : Nat) : U x / 2 ^ n = U (x >>> n) := by
  unfold U
  rw [BitVec.toNat_ushiftRight, Nat.shiftRight_eq_div_pow]
  simp
theorem u_shl (x : Wd) (n : Nat) : IntKind.u32.wrap (U x * 2 ^ n) = U (x <<< n) := by
  rw [IntKind.wrap_u32']
  unfold U
  rw [BitVec.toNat_shiftLeft, Nat.shiftLeft_eq]
  simp
theorem u_add' (x y : Wd) : (U x + U y) % 4294967296 = U (x + y) := by rw [← u_add, IntKind.wrap_u32']
theorem u_shl' (x : Wd) (n : Nat) : U x * 2 ^ n % 4294967296 = U (x <<< n) := by rw [← u_shl, IntKind.wrap_u32']
theorem U_bw (b : UInt8) : (b.toNat : Int) = U (bw b) := by
  unfold U bw
  rw [BitVec.toNat_ofNat, Nat.mod_eq_of_lt (by have := b.toNat_lt; omega)]
end Go.Proofs.YtlmdafldggbiaaaDoor.H

/- For the law FrameUnlike: its argument, frames that are the same, a byte turned. -/
import Derived.Test.YtmhfhdbaeijcfaaDoorDfc
import Derived.Test.YtmhfhdbaeijcfaaDoorDft
import Derived.Test.YtmhfhdbaeijcfaaDoorSam
import Derived.Test.YtmhfhdbaeijcfaaDoorJob
import Derived.Test.YtmhfhdbaeijcfaaDoorGH
import Derived.Test.YtmhfhdbaeijcfaaDoorGF
namespace Go.Proofs.YtmhfhdbaeijcfaaDoor
open Go.RowKit
open Go.Proofs.YtmhfhdbaeijcfaaDoor.H
/-- The argument's cells: two frames, a number, a byte. -/
def cells22x (f : Fr) (m : Nat) (g : Fr) (m2 : Nat) (at_ : Int) (tu : UInt8) : List Value := f.cells m ++ g.cells m2 ++ [.int .i64 at_, bv tu]
/-- Whether two frames are the same, wherever their bytes lie. -/
def sameB (f g : Fr) : Bool := decide (f.kind = g.kind) && decide (f.seq = g.seq) && decide (f.got = g.got) && decide (f.stream = g.stream) && decide (f.amount = g.amount) && decide (f.code = g.code) && decide (f.who = g.who) && decide (f.name = g.name) && decide (f.weight = g.weight) && decide (f.bs = g.bs)
theorem sameB_iff (f g : Fr) : sameB f g = true ↔ f.pl = g.pl := by
  obtain ⟨fk, fs, fg, fst, fa, fc, fwh, fn, fw, fba, fbc, fbs⟩ := f
  obtain ⟨gk, gs, gg, gst, ga, gc, gwh, gn, gw, gba, gbc, gbs⟩ := g
  unfold sameB Fr.pl
  simp [and_assoc]
theorem same_any (f g : Fr) (v u : Value) (w : World) (hv : v = f.v) (hu : u = g.v) (hf : f.ok w w.heap.size) (hg : g.ok w w.heap.size) :
    Calls Tryd.prog 26 #[v, u] w fun e w' => e = .returned (.bool (sameB f g)) ∧ Hid (Below w.heap.size w w') := by
  cases hb : sameB f g with
  | true => exact same_true f g v u w hv hu hf hg ((sameB_iff f g).1 hb)
  | false => exact same_false f g v u w hv hu hf hg (fun e => by rw [(sameB_iff f g).2 e] at hb; cases hb)
theorem rsame_any (f g : Fr) (v u : Value) (w : World) (hv : v = f.v) (hu : u = g.v) (hf : f.ok w w.heap.size) (hg : g.ok w w.heap.size) :
    Calls Tryd.prog 22 #[v, u] w fun e w' => e = .returned (.bool (sameB f g)) ∧ Hid (Below w.heap.size w w') := by
  cases hb : sameB f g with
  | true => exact rsame_true f g v u w hv hu hf hg ((sameB_iff f g).1 hb)
  | false => exact rsame_false f g v u w hv hu hf hg (fun e => by rw [(sameB_iff f g).2 e] at hb; cases hb)
/-- What Put answers: a valid frame's bytes, or ErrFrame. -/
theorem fput_any (f : Fr) (v : Value) (E : Nat → Value) (te : TypeId) (pe : Value) (w : World) (hv : Hid (v = f.v)) (hE : Env w E te pe) (hf : f.ok w w.heap.size) :
    Calls Tryd.prog 13 #[v] w fun e w' => ∃ x er, e = .returned (.tuple #[x, er]) ∧ Hid (Below w.heap.size w w' ∧ ((valid f = false ∧ er = .iface te pe) ∨ (valid f = true ∧ er = .nilIface ∧ w'.ownsRow w.heap.size 5 1 x (total f + 4) ((putB f).map bv)))) := by
  cases hb : valid f with
  | false =>
    refine (put_bad f v E te pe w hv hE hf hb).mono ?_
    rintro e w' ⟨h1, h2⟩
    exact ⟨_, _, h1, Lib.hid ⟨h2.out, .inl ⟨rfl, rfl⟩⟩⟩
  | true =>
    refine (put_ok f v E te pe w hv hE hf hb).mono ?_
    rintro e w' ⟨x, h1, h2⟩
    exact ⟨x, _, h1, Lib.hid ⟨h2.out.2, .inr ⟨rfl, rfl, h2.out.1⟩⟩⟩
/-- Bytes of a frame: their check is right. -/
theorem getB_check {bs : List UInt8} {f : Fr} (h : getB bs = some f) : (digest (bs.take (bs.length - 4))).take 4 = bs.drop (bs.length - 4) := by
  obtain ⟨h1, h2, h3, h4, h5, h6⟩ := getB_some h
  subst h4
  have hl := putB_length f h1
  have hc := cov_length f h1
  have e1 : (putB f).take ((putB f).length - 4) = cov f := by
    rw [hl, Nat.add_sub_cancel]
    unfold putB
    rw [List.take_append_of_le_length (by omega), List.take_of_length_le (by omega)]
  rw [e1, hl, Nat.add_sub_cancel]
  unfold putB
  rw [List.drop_append_of_le_length (by omega), List.drop_eq_nil_of_le (by omega), List.nil_append]
/-- What Get answers: the frame, or ErrFrame and the zero frame. -/
theorem fget_any (n c : Nat) (A : Option Addr) (bs : List UInt8) (E : Nat → Value) (te : TypeId) (pe : Value) (w : World) (hE : Env w E te pe) (hE5 : F.Errs w E) (hn : bs.length = n) (hc : n ≤ c) (hcm : c ≤ 9223372036854775807) (hr : Rd w w.heap.size A (bs.map bv)) :
    Calls Tryd.prog 21 #[.slice A n c] w fun e w' => ∃ (zc : List Value) (er : Value), e = .returned (.tuple #[.agg zc.toArray, er]) ∧ Hid (Below w.heap.size w w' ∧ (∀ v ∈ zc, v.oneCell' = true) ∧ zc.length = 10 ∧ ((getB bs = none ∧ er = .iface te pe) ∨ (∃ f f0 : Fr, getB bs = some f0 ∧ er = .nilIface ∧ Value.agg zc.toArray = f.v ∧ f.pl = f0 ∧ f.ok w' w'.heap.size))) := by
  cases hg : getB bs with
  | none =>
    refine (get_none n c A bs E te pe w hE hE5 hn hc hcm hr hg).mono ?_
    rintro e w' ⟨h1, h2⟩
    exact ⟨zeroC, _, h1, Lib.hid ⟨h2.out, zeroC_one, rfl, .inl ⟨rfl, rfl⟩⟩⟩
  | some f0 =>
    refine (get_some n c A bs E te pe w hE hE5 hn hc hcm hr f0 hg).mono ?_
    rintro e w' ⟨f, v, h1, h2⟩
    have e1 : v = .agg (f.cells f.bs.length).toArray := h2.out.1
    subst e1
    exact ⟨f.cells f.bs.length, _, h1, Lib.hid ⟨h2.out.2.2.2.1, cells_ok f _, rfl, .inr ⟨f, f0, rfl, rfl, rfl, h2.out.2.1, h2.out.2.2.1⟩⟩⟩
theorem nil_in (d : Nat) (x : Value) (W : World) : (Op.equalIn (d + 1) 28 .nilIface (.iface 159 x)).run Tryd.prog W = .ok false W := by
  simp [Op.equalIn, run_underlying Tryd.underlying28]
theorem nil_eql (a : Addr) (W : World) : (binOp .eql 28 .nilIface (.iface 159 (.pointer (some a)))).run Tryd.prog W = .ok (.bool false) W := by
  have h : (Op.equal 28 .nilIface (.iface 159 (.pointer (some a)))).run Tryd.prog W = .ok false W := nil_in 9999 _ W
  simp only [binOp]
  simp [h]
/-- A frame out of a row, loaded behind a guard that holds. -/
theorem wl_loadG {w : World} {ops : Array Oper} {rest : List Oper} {o : Oper} {a : Act} {Q : Exit → Act → World → Prop} (hw : Region.wanted o (yielded ops a.tmps) = true) (x : Operand) (ho : o.op = .load 25 x)
    (g off : Nat) (hx : a.eval x = .pointer (some ⟨g, off, none⟩)) (cs : List Value) (hr : w.rangeAt g off cs) (hi : (Tryd.prog.info? 25).map (·.size) = some cs.length)
    (h : ∀ v, Hid (v = Value.agg cs.toArray) → wpList Tryd.prog ops Q rest (a.put o.dst v) w) : wpList Tryd.prog ops Q (o :: rest) a w := by
  refine wpList_step fun K hK => ?_
  rw [if_pos hw]
  exact wp_load_mid 25 x ho g off hx cs _ hr under25.choose_spec rfl hi (hK _ _ (h _ (Lib.hid rfl)))
theorem left_by3 (cu : Int) (n4 : Nat) (hn : n4 ≤ 2000) : ∃ p : Nat, wrap64 (2 + wrap64 ((IntKind.u64.wrap cu).tmod ((n4 : Int) + 4 - 2))) = (p : Int) ∧ 2 ≤ p ∧ p < n4 + 4 := by
  rw [IntKind.wrap_u64]
  have h0 : 0 ≤ cu % 18446744073709551616 := Int.emod_nonneg _ (by decide)
  rw [Int.tmod_eq_emod_of_nonneg h0]
  generalize cu % 18446744073709551616 = x at *
  have h1 : 0 ≤ x % ((n4 : Int) + 4 - 2) := Int.emod_nonneg _ (by omega)
  have h2 : x % ((n4 : Int) + 4 - 2) < (n4 : Int) + 4 - 2 := Int.emod_lt_of_pos _ (by omega)
  generalize x % ((n4 : Int) + 4 - 2) = y at *
  have h3 : wrap64 (2 + wrap64 y) = 2 + y := by unfold wrap64; omega
  rw [h3]
  exact ⟨(2 + y).toNat, by omega, by omega, by omega⟩
theorem own_pos {w : World} {base : Nat} {e : TypeId} {size : Nat} {v : Value} {n : Nat} {xs : List Value} (h : w.ownsRow base e size v n xs) (hn : 0 < n) :
    ∃ q c, v = .slice (some ⟨q, 0, none⟩) n c ∧ base ≤ q ∧ q < w.heap.size ∧ n ≤ c ∧ c ≤ 9223372036854775807 := by
  rcases h.2 with ⟨_, e1⟩ | ⟨g, cap, cur, e1, _, _, hn, hc, _⟩
  · omega
  · have hl := h.lt g (by rw [e1]; rfl)
    exact ⟨g, cap, e1, hl.1, hl.2, hn, hc⟩
theorem u8_xor (b t : UInt8) : bits .xor .u8 (b.toNat : Int) (t.toNat : Int) = ((b ^^^ t).toNat : Int) := by
  show IntKind.u8.wrap ((BitVec.ofInt 8 (b.toNat : Int) ^^^ BitVec.ofInt 8 (t.toNat : Int)).toNat : Int) = _
  have e1 : ∀ z : UInt8, BitVec.ofInt 8 (z.toNat : Int) = z.toBitVec := fun z => by
    apply BitVec.eq_of_toNat_eq
    rw [BitVec.ofInt_natCast, BitVec.toNat_ofNat]
    exact Nat.mod_eq_of_lt z.toNat_lt
  rw [e1, e1, IntKind.wrap_u8]
  have e2 : (b.toBitVec ^^^ t.toBitVec).toNat = (b ^^^ t).toNat := rfl
  rw [e2]
  have := (b ^^^ t).toNat_lt
  omega
theorem xor_ne {b t : UInt8} (h : t ≠ 0) : b ^^^ t ≠ b := fun e => h (by
  have h1 : b ^^^ (b ^^^ t) = b ^^^ b := by rw [e]
  rw [← UInt8.xor_assoc, UInt8.xor_self, UInt8.zero_xor] at h1
  exact h1)
theorem set_ne {l : List UInt8} {p : Nat} {y : UInt8} (hp : p < l.length) (h : y ≠ l[p]) : l.set p y ≠ l := fun e => h (by
  have h1 : (l.set p y)[p]? = l[p]? := by rw [e]
  rw [List.getElem?_set_self hp, List.getElem?_eq_getElem hp] at h1
  exact Option.some.inj h1)
theorem set_same {l : List UInt8} {p : Nat} {y : UInt8} (hp : p < l.length) (h : y = l[p]) : l.set p y = l := by
  subst h
  exact List.set_getElem_self hp
end Go.Proofs.YtmhfhdbaeijcfaaDoor

/- The law FramePuts: what Put answers is what the document's Put answers; Get of the bytes is the frame. -/
import Derived.Test.YtmhfhdbaeijcfaaDoorRpx
import Derived.Test.YtmhfhdbaeijcfaaDoorUnb
import Derived.Test.YtmhfhdbaeijcfaaDoorNum
namespace Go.Proofs.YtmhfhdbaeijcfaaDoor
open Go.RowKit
open Go.Proofs.YtmhfhdbaeijcfaaDoor.H
theorem err_neqP (a : Addr) (W : World) : (binOp .neq 28 (.iface 159 (.pointer (some a))) (.iface 159 (.pointer (some a)))).run Tryd.prog W = .ok (.bool false) W := by
  obtain ⟨i, hi, hcmp⟩ := Option.map_eq_some_iff.1 compErr
  obtain ⟨j, hj, _⟩ := Option.map_eq_some_iff.1 sizeErr
  simp only [binOp]
  simp [Op.equal, Op.maxDepth, run_equalIn_iface_ptr_same W 9998 a Tryd.underlying28 Tryd.underlying159 hi hcmp hj]
theorem zf0_okP (w : World) (B : Nat) : (zf 0).ok w B := { kind := (show i64ok 0 from ⟨by decide, by decide⟩), seq := (show i64ok 0 from ⟨by decide, by decide⟩), got := (show i64ok 0 from ⟨by decide, by decide⟩), stream := (show i64ok 0 from ⟨by decide, by decide⟩), amount := (show i64ok 0 from ⟨by decide, by decide⟩), code := (show i64ok 0 from ⟨by decide, by decide⟩), who := Nat.zero_le _, name := Nat.zero_le _, weight := (show 0 < 18446744073709551616 from by decide), cap := Nat.le_refl _, max := (show 0 ≤ 9223372036854775807 from by decide), rd := .inl rfl }
/-- What Get answers, as one contract. -/
theorem fgot_anyP (n c : Nat) (A : Option Addr) (bs : List UInt8) (E : Nat → Value) (te : TypeId) (pe : Value) (w : World) (hE : Env w E te pe) (hE5 : F.Errs w E) (hn : bs.length = n) (hc : n ≤ c) (hcm : c ≤ 9223372036854775807) (hr : Rd w w.heap.size A (bs.map bv)) :
    Calls Tryd.prog 21 #[.slice A n c] w fun e w' => ∃ (f : Fr) (v er : Value), e = .returned (.tuple #[v, er]) ∧ Hid (v = .agg (f.cells f.bs.length).toArray ∧ Below w.heap.size w w' ∧ f.ok w' w'.heap.size ∧ ((getB bs = none ∧ f = zf 0 ∧ er = .iface te pe) ∨ (getB bs = some f.pl ∧ er = .nilIface))) := by
  cases hg : getB bs with
  | none =>
    refine (get_none n c A bs E te pe w hE hE5 hn hc hcm hr hg).mono ?_
    rintro e w' ⟨h1, h2⟩
    exact ⟨zf 0, _, _, h1, Lib.hid ⟨rfl, h2.out, zf0_okP _ _, .inl ⟨rfl, rfl, rfl⟩⟩⟩
  | some f0 =>
    refine (get_some n c A bs E te pe w hE hE5 hn hc hcm hr f0 hg).mono ?_
    rintro e w' ⟨f, v, h1, h2⟩
    exact ⟨f, v, _, h1, Lib.hid ⟨h2.out.1, h2.out.2.2.2.1, h2.out.2.2.1, .inr ⟨by rw [h2.out.2.1], rfl⟩⟩⟩
/-- A draw's move, its plain sides by themselves. -/
theorem tk {P : Program} {md : Region.Mode} {ops : Array Oper} {Q : Exit → Act → World → Prop} {S : World → Prop} (i : Nat) {oi : Oper} (v : Value) {fuel : Nat} {listed : Array Bool} {a : Act} {w : World} (hi : ops[i]? = some oi) (hy : YieldsIf P ops S oi v a)
    (h : wpAnyH P md ops Q S fuel (listed.setIfInBounds i true) (a.put oi.dst v) w) (hs : Region.noSelect ops = true := by kernel_rfl) (hf : Region.free md ops listed i = true := by kernel_rfl) (hr : (Region.ready md ops listed).contains i = true := by kernel_rfl)
    (hQ : ∀ c a w, Q (.panic c) (a.put oi.dst v) w → Q (.panic c) a w := by exact fun _ _ _ h => h) (hS : S w := by assumption) : wpAnyH P md ops Q S (fuel + 1) listed a w :=
  wpAnyH_take hi hs hf hr hQ hy hS h
/-- Bytes in a slice, made above w. -/
structure PutsAt (w w' : World) (A : Option Addr) (n c : Nat) (L : List UInt8) : Prop where
  len : L.length = n
  cap : n ≤ c
  max : c ≤ 9223372036854775807
  rd : Rd w' w'.heap.size A (L.map bv)
  below : Below w.heap.size w w'
theorem puts_own {w w' : World} {x : Value} {n : Nat} {L : List UInt8} (h : w'.ownsRow w.heap.size 5 1 x n (L.map bv)) (hb : Below w.heap.size w w') : ∃ A c, x = .slice A n c ∧ PutsAt w w' A n c L := by
  obtain ⟨A, c, h1, h2, h3, h4, h5, _⟩ := own_slice h
  exact ⟨A, c, h1, h2, h3, h4, h5, hb⟩
theorem fputs_good (f : Fr) (v : Value) (E : Nat → Value) (te : TypeId) (pe : Value) (w : World) (hv : Hid (v = f.v)) (hE : Env w E te pe) (hf : f.ok w w.heap.size) (hb : valid f = true) :
    Calls Tryd.prog 13 #[v] w fun e w' => ∃ A n c, e = .returned (.tuple #[.slice A n c, .nilIface]) ∧ Hid (PutsAt w w' A n c (putB f)) := by
  refine (put_ok f v E te pe w hv hE hf hb).mono ?_
  rintro e w' ⟨x, h1, h2⟩
  obtain ⟨A, c, rfl, h3⟩ := puts_own h2.out.1 h2.out.2
  exact ⟨A, _, c, h1, Lib.hid h3⟩
theorem fputs_bad (f : Fr) (v : Value) (E : Nat → Value) (te : TypeId) (pe : Value) (w : World) (hv : Hid (v = f.v)) (hE : Env w E te pe) (hf : f.ok w w.heap.size) (hb : valid f = false) :
    Calls Tryd.prog 13 #[v] w fun e w' => ∃ A n c, e = .returned (.tuple #[.slice A n c, .iface te pe]) ∧ Hid (PutsAt w w' A n c []) := by
  refine (put_bad f v E te pe w hv hE hf hb).mono ?_
  rintro e w' ⟨h1, h2⟩
  exact ⟨none, 0, 0, h1, Lib.hid ⟨rfl, Nat.le_refl _, by decide, .inl rfl, h2.out⟩⟩
theorem rputs_good (f : Fr) (v : Value) (g : Nat) (w : World) (hv : Hid (v = f.v)) (hT : Tab w w.heap.size g) (hf : f.ok w w.heap.size) (hb : valid f = true) :
    Calls Tryd.prog 14 #[.pointer (some ⟨g, 0, none⟩), v] w fun e w' => ∃ A n c, e = .returned (.tuple #[.slice A n c, .bool true]) ∧ Hid (PutsAt w w' A n c (putB f)) := by
  have hF : RForm f true := by have h := rform_every f; rwa [hb] at h
  refine (rput_of f v g w (rcells_every f) hF hv hT hf hb).mono ?_
  rintro e w' ⟨x, h1, h2⟩
  obtain ⟨A, c, rfl, h3⟩ := puts_own h2.out.1 h2.out.2
  exact ⟨A, _, c, h1, Lib.hid h3⟩
theorem rputs_bad (f : Fr) (v : Value) (g : Nat) (w : World) (hv : Hid (v = f.v)) (_ : Tab w w.heap.size g) (hf : f.ok w w.heap.size) (hb : valid f = false) :
    Calls Tryd.prog 14 #[.pointer (some ⟨g, 0, none⟩), v] w fun e w' => ∃ A n c, e = .returned (.tuple #[.slice A n c, .bool false]) ∧ Hid (PutsAt w w' A n c []) := by
  refine (rput_bad f v g w hv hf hb).mono ?_
  rintro e w' ⟨h1, h2⟩
  exact ⟨none, 0, 0, h1, Lib.hid ⟨rfl, Nat.le_refl _, by decide, .inl rfl, h2.out⟩⟩
theorem row_0 (k : Int) (w : World) (hk : k < 7) : Calls Tryd.prog 19 #[.int .i64 k] w fun e w' => e = .returned (.bool false) ∧ w = w' := by
  have h7 : ¬ (7 ≤ k) := by omega
  clear hk
  go_enter Tryd.func19, Tryd.ntmps19
  go_wp2_with fail
  go_ret
  exact ⟨rfl, rfl⟩
theorem row_1 (k : Int) (R : Bool) (w : World) (h7 : 7 ≤ k) (hR : decide (k ≤ 17) = R) : Calls Tryd.prog 19 #[.int .i64 k] w fun e w' => e = .returned (.bool R) ∧ w = w' := by
  go_enter Tryd.func19, Tryd.ntmps19
  go_wp2_with fail
  go_ret
  exact ⟨rfl, rfl⟩
end Go.Proofs.YtmhfhdbaeijcfaaDoor

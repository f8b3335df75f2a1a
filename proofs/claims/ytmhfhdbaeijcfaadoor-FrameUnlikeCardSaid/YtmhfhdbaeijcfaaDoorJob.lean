/- For ScanFirst: a byte of a row of our own turned. -/
import Derived.Test.YtmhfhdbaeijcfaaDoorJoa
namespace Go.Proofs.YtmhfhdbaeijcfaaDoor
open Go.RowKit
open Go.Proofs.YtmhfhdbaeijcfaaDoor.H
theorem left_by2 (cu : Int) (m : Nat) (hm : m < 9223372036854775807) (h0 : 0 < m) : ∃ k : Nat, wrap64 ((IntKind.u64.wrap cu).tmod (m : Int)) = (k : Int) ∧ k < m := by
  obtain ⟨k, h1, h2⟩ := left_by cu (m - 1) (by omega)
  have e : ((m - 1 : Nat) : Int) + 1 = (m : Int) := by omega
  rw [e] at h1
  exact ⟨k, h1, by omega⟩
theorem bytesOf_append (fs gs : List Fr) : bytesOf (fs ++ gs) = bytesOf fs + bytesOf gs := by
  unfold bytesOf
  rw [List.map_append, List.sum_append]
theorem bytesOf_take_le (gs : List Fr) (k : Nat) : bytesOf (gs.take k) ≤ bytesOf gs := by
  have h := bytesOf_append (gs.take k) (gs.drop k)
  rw [List.take_append_drop] at h
  omega
theorem bytesOf_pl (gs : List Fr) : bytesOf (gs.map Fr.pl) = bytesOf gs := by
  induction gs with
  | nil => rfl
  | cons f l ih =>
    rw [List.map_cons, bytesOf_cons, bytesOf_cons, ih]
    have : putB f.pl = putB f := rfl
    rw [this]
/-- One cell of a row of our own stored anew. -/
theorem own_set {w : World} {base : Nat} {e : TypeId} {q n c : Nat} {xs : List Value} (h : w.ownsRow base e 1 (.slice (some ⟨q, 0, none⟩) n c) n xs) (i : Nat) (v : Value) (_hi : i < n) : (w.setCell ⟨q, i, none⟩ v).ownsRow base e 1 (.slice (some ⟨q, 0, none⟩) n c) n (xs.set i v) := by
  refine ⟨by rw [List.length_set]; exact h.1, ?_⟩
  rcases h.2 with ⟨e1, _⟩ | ⟨g, cap, cur, e1, hb, hg, hn, hc, hs, hx⟩
  · cases e1
  · have eq : g = q := by
      injection e1 with e1
      injection e1 with e1
      injection e1 with e1
      exact e1.symm
    subst eq
    refine .inr ⟨g, cap, cur.setIfInBounds i v, e1, hb, ?_, hn, hc, by simpa using hs, ?_⟩
    · simp only [World.setCell, Array.getElem?_modify, hg]
      simp
    · rw [Array.toList_setIfInBounds, ← hx, ← List.take_set]
      
theorem own_unfrozen {w : World} {base : Nat} {e : TypeId} {q n c : Nat} {xs : List Value} (h : w.ownsRow base e 1 (.slice (some ⟨q, 0, none⟩) n c) n xs) (i : Nat) : w.frozen? ⟨q, i, none⟩ = false := by
  rcases h.2 with ⟨e1, _⟩ | ⟨g, cap, cur, e1, _, hg, _⟩
  · cases e1
  · have eq : g = q := by
      injection e1 with e1
      injection e1 with e1
      injection e1 with e1
      exact e1.symm
    subst eq
    simp [World.frozen?, hg]
theorem Jh.setb {U : World} {z qb nb cb ng ne : Nat} {vg ve : Value} {xs cs es : List Value} (s : Jh U z (.slice (some ⟨qb, 0, none⟩) nb cb) nb xs vg ng cs ve ne es) (i : Nat) (v : Value) (hi : i < nb) : Jh (U.setCell ⟨qb, i, none⟩ v) z (.slice (some ⟨qb, 0, none⟩) nb cb) nb (xs.set i v) vg ng cs ve ne es :=
  ⟨own_set s.ob i v hi, own_kept s.og (fun q e => Below.heap_setCell _ _ _ _ (fun e2 => s.bg qb rfl (by rw [e, e2]))), own_kept s.oe (fun q e => Below.heap_setCell _ _ _ _ (fun e2 => s.be qb rfl (by rw [e, e2]))), s.bg, s.be, s.ge⟩
theorem turned_byte (b : UInt8) (tu : Int) : ∃ y : UInt8, bits .xor .u8 (b.toNat : Int) (wrap64 (1 + wrap64 ((IntKind.u64.wrap tu).tmod 255)) % 256) = (y.toNat : Int) ∧ y ≠ b := by
  have h : ∃ t : UInt8, wrap64 (1 + wrap64 ((IntKind.u64.wrap tu).tmod 255)) % 256 = (t.toNat : Int) ∧ t ≠ 0 := by
    rw [IntKind.wrap_u64]
    have h0 : 0 ≤ tu % 18446744073709551616 := Int.emod_nonneg _ (by decide)
    rw [Int.tmod_eq_emod_of_nonneg h0]
    generalize tu % 18446744073709551616 = x at *
    have h3 : wrap64 (1 + wrap64 (x % 255)) % 256 = 1 + x % 255 := by unfold wrap64; omega
    rw [h3]
    refine ⟨UInt8.ofNat (1 + x % 255).toNat, ?_, fun e => ?_⟩
    · rw [UInt8.toNat_ofNat', Nat.mod_eq_of_lt (by omega)]
      omega
    · have := congrArg UInt8.toNat e
      rw [UInt8.toNat_ofNat', Nat.mod_eq_of_lt (by omega)] at this
      have e0 : (0 : UInt8).toNat = 0 := rfl
      omega
  obtain ⟨t, ht, hne⟩ := h
  rw [ht]
  refine ⟨b ^^^ t, ?_, fun e => hne ?_⟩
  · show IntKind.u8.wrap ((BitVec.ofInt 8 (b.toNat : Int) ^^^ BitVec.ofInt 8 (t.toNat : Int)).toNat : Int) = _
    have e1 : ∀ z : UInt8, BitVec.ofInt 8 (z.toNat : Int) = z.toBitVec := fun z => by
      apply BitVec.eq_of_toNat_eq
      rw [BitVec.ofInt_natCast, BitVec.toNat_ofNat]
      exact Nat.mod_eq_of_lt z.toNat_lt
    rw [e1, e1, IntKind.wrap_u8]
    have e2 : (b.toBitVec ^^^ t.toBitVec).toNat = (b ^^^ t).toNat := rfl
    rw [e2]
    have := (b ^^^ t).toNat_lt
    omega
  · have h1 : b ^^^ (b ^^^ t) = b ^^^ b := by rw [e]
    rw [← UInt8.xor_assoc, UInt8.xor_self, UInt8.zero_xor] at h1
    exact h1
theorem err_eql (a : Addr) (W : World) : (binOp .eql 28 (.iface 159 (.pointer (some a))) (.iface 159 (.pointer (some a)))).run Tryd.prog W = .ok (.bool true) W := by
  obtain ⟨i, hi, hcmp⟩ := Option.map_eq_some_iff.1 compErr
  obtain ⟨j, hj, _⟩ := Option.map_eq_some_iff.1 sizeErr
  simp only [binOp]
  simp [Op.equal, Op.maxDepth, run_equalIn_iface_ptr_same W 9998 a Tryd.underlying28 Tryd.underlying159 hi hcmp hj]
end Go.Proofs.YtmhfhdbaeijcfaaDoor

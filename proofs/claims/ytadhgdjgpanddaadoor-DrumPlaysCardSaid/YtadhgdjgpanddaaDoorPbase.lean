/- The law DrumPlays: its loop and its switch, taken out of its code; New of every number. -/
import Derived.Test.YtadhgdjgpanddaaDoorSim
import Derived.Deep.CutBlock
import Derived.Deep.LoopGhost
namespace Go.Proofs.YtadhgdjgpanddaaDoor
open Go.RowKit

theorem new_none (ad : Nat → Addr) (z : Int) (w : World) (hE : Errs w ad) (hz : z < 1 ∨ 4096 < z) : Calls Tryd.prog 9 #[.int .i64 z] w fun x w' => x = .returned (.tuple #[.pointer none, .iface 67 (.pointer (some (ad 0)))]) ∧ Hid (Below w.heap.size w w') :=
  (new_bad ad z w hE hz).mono fun x w' ⟨hx, m, hm⟩ => ⟨hx, Lib.hid (by subst hm; exact below_drewN (Below.refl _ _) m)⟩
theorem from_none (ad : Nat → Addr) (L cap : Nat) (A : Option Addr) (w : World) (hE : Errs w ad) (hL : L % 64 ≠ 0 ∨ L = 0 ∨ 262144 < L) (hLm : L ≤ 9223372036854775807) : Calls Tryd.prog 12 #[.slice A L cap] w fun x w' => x = .returned (.tuple #[.pointer none, .iface 67 (.pointer (some (ad 0)))]) ∧ Hid (Below w.heap.size w w') := by
  by_cases h : L % 64 ≠ 0
  · exact (from_odd L cap ad A w hE h hLm).mono fun x w' ⟨hx, m, hm⟩ => ⟨hx, Lib.hid (by subst hm; exact below_drewN (Below.refl _ _) m)⟩
  · exact (from_count (L / 64) L cap ad A w hE (by omega) (by omega) hLm).mono fun x w' ⟨hx, m, hm⟩ => ⟨hx, Lib.hid (by subst hm; exact below_drewN (Below.refl _ _) m)⟩
theorem wl_copy {w : World} {ops : Array Oper} {rest : List Oper} {o : Oper} {a : Act} {Q : Exit → Act → World → Prop} (hgd : o.guard = none) (d s : Operand)
    (ho : o.op = .call { callee := .builtin .copy, args := #[d, s], argTypes := #[22, 22] }) (g off dLen dCap : Nat) (sp : Option Addr) (sLen sCap : Nat)
    (hd : a.eval d = .slice (some ⟨g, off, none⟩) dLen dCap) (hs : a.eval s = .slice sp sLen sCap) (cur : List Value) (t : TypeId) (hg : Row w g t cur) (cs : List Value) (hn : cs.length = Nat.min sLen dLen)
    (hsrc : Rd w w.heap.size sp cs) (hfit : off + cs.length ≤ cur.length) (h1 : ∀ v ∈ cs, v.oneCell' = true)
    (h : ∀ w', Hid (Row w' g t (splice cur off cs) ∧ Turn (fun k => k = g) w w' ∧ w'.heap.size = w.heap.size) → wpList Tryd.prog ops Q rest (a.put o.dst (goInt cs.length)) w') : wpList Tryd.prog ops Q (o :: rest) a w := by
  obtain ⟨i0, hi0, _, hz1, _⟩ := info_parts' u8_info
  rcases hsrc with h0 | ⟨ad, rfl, _, h3⟩
  · subst h0
    refine wpList_copy_nothing hgd d s 22 22 ho 5 Tryd.underlying22 (by simp [hi0, hz1]) _ _ dLen dCap sLen sCap hd hs (by simpa using hn.symm) ?_
    exact h w ⟨by simpa [splice] using hg, Turn.refl _ _, rfl⟩
  · refine wpList_copy_own hgd d s 22 22 ho 5 Tryd.underlying22 (by simp [hi0, hz1]) g off dLen dCap ad sLen sCap hd hs cur.toArray t hg cs hn h3 (by simpa using hfit) h1 ?_
    refine h _ ⟨?_, ⟨rfl, rfl, rfl, by simp, fun k _ hk => setRow_other w g k _ hk⟩, by simp⟩
    have h2 := setRow_heap w g cur.toArray (splice cur off cs).toArray t (0, 0) hg
    show (w.setRow g _).heap[g]? = _
    simpa [splice] using h2
def blockOf (n : Nat) : Code → Option Code
  | .block id c => if id = n then some (.block id c) else blockOf n c
  | .seq a b => match blockOf n a with
    | some c => some c
    | none => blockOf n b
  | .scope c => blockOf n c
  | .loop c => blockOf n c
  | .cond _ a b => match blockOf n a with
    | some c => some c
    | none => blockOf n b
  | _ => none
theorem meet_f {K : Act → World → Prop} {Rel : World → Prop} (F : (Nat → Value) → Act) (hK : ∀ f w', Rel w' → K (F f) w') (a : Act) (w : World) (h : a = F (fun n => a.tmps.toList.getD n undef)) (hr : Rel w) : K a w := by
  rw [h]
  exact hK _ _ hr
theorem copied_at {w w' : World} {rg rh N n : Nat} {bs : List UInt8} (H : RefAt w rg rh N (fresh n)) (hb : bs.length = N) (H2 : Row w' rh 5 (splice ((fresh n).all.map bv) 0 (bs.map bv)) ∧ Turn (fun k => k = rh) w w') : RefAt w' rg rh N { fresh n with all := bs } := by
  refine ⟨H2.2.row H.row (fun e => H.ne e), ?_, H.ne, H.n, ⟨H.ok.lo, H.ok.hi, by show bs.length = n * 64; rw [hb]; exact H.n, H.ok.left, H.ok.writes⟩⟩
  have h3 := H2.1
  have hl := H.len
  have e : splice (fresh n).all 0 bs = bs := by
    unfold splice
    rw [List.take_zero, List.nil_append, Nat.zero_add, List.drop_of_length_le (by omega), List.append_nil]
  rw [splice_map, e] at h3
  exact h3
end Go.Proofs.YtadhgdjgpanddaaDoor

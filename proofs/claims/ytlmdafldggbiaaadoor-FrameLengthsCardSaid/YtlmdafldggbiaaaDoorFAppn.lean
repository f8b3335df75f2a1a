/- What fields.appendNumber does: it appends a number's bytes, big-endian, onto a slice that is the caller's own. -/
import Derived.Test.YtlmdafldggbiaaaDoorFSize
import Derived.Maps.AppendAt
import Derived.Maps.Range
import Derived.OwnWalk
namespace Go.Proofs.YtlmdafldggbiaaaDoor.F
open Go.RowKit

/-- 'v is a row of bytes of our own, out of v0: only v0's row, and what is new, has turned since w0'. -/
structure Acc (w0 w : World) (base : Nat) (v0 v : Value) (xs : List Value) : Prop where
  own : w.ownsRow base 5 1 v xs.length xs
  grown : w0.grownBy w v0.ownBlock
  lies : v.ownBlock = v0.ownBlock ∨ ∃ g, v.ownBlock = some g ∧ w0.heap.size ≤ g

theorem u8_info : (Tryd.prog.info? 5).map (fun i => (i.zero, i.size, i.bytes)) = some (some (.int .u8 0), 1, 1) := by kernel_rfl

theorem byte_at (size N k : Nat) (hk : k < size) : Value.int .u8 ((N : Int) / 2 ^ (8 * (size - 1 - k)) % 256) = bv ((be size N)[k]'(by rw [be_length]; exact hk)) := by
  rw [be_getElem size N k hk]
  unfold bv
  congr 1
  have e : (256 : Nat) ^ (size - 1 - k) = 2 ^ (8 * (size - 1 - k)) := by rw [Nat.pow_mul]
  rw [e]
  simp
theorem Acc.step {w0 w w1 w2 : World} {base : Nat} {v0 v v2 : Value} {xs ys : List Value} (h : Acc w0 w base v0 v xs) (hb : w.grownBy w1 none) (hown : w2.ownsRow base 5 1 v2 ys.length ys) (hg : w1.grownBy w2 v.ownBlock)
    (hat : v2.ownBlock = v.ownBlock ∨ v2.ownBlock = some w1.heap.size) : Acc w0 w2 base v0 v2 ys := by
  refine ⟨hown, ?_, ?_⟩
  · refine (h.grown.andThen hb (fun j hj => by cases hj)).andThen hg (fun j hj => ?_)
    rcases h.lies with e | ⟨g, e, hge⟩
    · right; rw [← e]; exact hj
    · left; rw [e] at hj; injection hj with hj; omega
  · rcases hat with e | e
    · rcases h.lies with e2 | ⟨g, e2, hge⟩
      · exact .inl (e.trans e2)
      · exact .inr ⟨g, e.trans e2, hge⟩
    · exact .inr ⟨_, e, Nat.le_trans h.grown.size hb.size⟩
theorem grown_alloc (w : World) (o : Obj) : w.grownBy (w.alloc o) none := ⟨rfl, rfl, rfl, by simp, fun k hk _ => Below.heap_alloc w o k hk⟩

set_option maxRecDepth 100000 in
set_option maxHeartbeats 400000 in
theorem appendNumber_any (base : Nat) (v0 : Value) (xs : List Value) (size N : Nat) (w : World) (hown : w.ownsRow base 5 1 v0 xs.length xs) (hbase : base ≤ w.heap.size) (h8 : size ≤ 8)
    (hlen : xs.length + 8 ≤ 140737488355328) :
    Calls Tryd.prog 60 #[v0, .int .i64 (size : Int), .int .u64 (N : Int)] w fun e w' => ∃ v, e = .returned v ∧ Hid (Acc w w' base v0 v (xs ++ (be size N).map bv)) := by
  obtain ⟨i0, hi0, hz0, hz1, hz2⟩ := info_parts u8_info
  have HI := Lib.hid (And.intro hi0 (And.intro hz0 (And.intro hz1 hz2)))
  clear hi0 hz0 hz1 hz2
  have HO := Lib.hid hown
  clear hown
  have hbeL : (be size N).length = size := be_length _ _
  have HBL := Lib.hid hbeL
  clear hbeL
  go_enter Tryd.func60, Tryd.ntmps60
  go_wp2_with fail
  go_loopw [0, 9] (fun v i W => ∃ k : Nat, k ≤ size ∧ i = .int .i64 k ∧ Hid (Acc w W base v0 v (xs ++ ((be size N).take k).map bv))) (fun _ i _ => size - (intOf i).toNat)
  case atStart => exact ⟨0, Nat.zero_le _, rfl, Lib.hid ⟨by simpa using HO.out, World.grownBy.refl _ _, .inl rfl⟩⟩
  case round =>
    obtain ⟨k, hk, rfl, HA⟩ := hrel
    by_cases hlt : k < size
    · have hl1 : (xs ++ ((be size N).take k).map bv).length = xs.length + k := by rw [List.length_append, List.length_map, List.length_take, HBL.out]; omega
      have HL1 := Lib.hid hl1
      clear hl1
      go_wp2_with (first
        | (at_builtin
           refine wpList_append_own_at _ rfl (.tmp 12) (.tmp 21) 23 rfl base 5 i0 _ 1 1 Tryd.underlying23 HI.out.1 HI.out.2.1 HI.out.2.2.1 HI.out.2.2.2 rfl (by omega) u0 _ _ rfl (HA.out.own.alloc _) ⟨wr.heap.size, 0, none⟩ 1 1 [_] rfl rfl (cell_one_new wr _ 5) (by simp [Value.oneCell']) (by rw [HL1.out]; simp only [maxLen]; omega) (by rw [HL1.out]; omega) (by have := HA.out.grown.size; simp; omega) ?_
           intro v1 w1 hown1 hg1 hnil1 hat1))
      refine ⟨⟨k + 1, by omega, by go_num, Lib.hid ?_⟩, by simp [intOf]; omega⟩
      have e : xs ++ ((be size N).take (k + 1)).map bv = (xs ++ ((be size N).take k).map bv) ++ [.int .u8 ((N : Int) / 2 ^ (8 * (size - 1 - k)) % 256)] := by
        rw [byte_at size N k hlt, List.take_succ_eq_append_getElem (by rw [be_length]; exact hlt), List.map_append, List.append_assoc]
        rfl
      rw [e]
      refine HA.out.step (grown_alloc wr _) ?_ hg1 hat1
      rw [List.length_append]
      exact hown1
    · go_wp2_with (fail)
      go_ret
      refine ⟨_, rfl, ?_⟩
      have h1 := HA
      rw [List.take_of_length_le (by rw [HBL.out]; omega)] at h1
      exact h1
end Go.Proofs.YtlmdafldggbiaaaDoor.F

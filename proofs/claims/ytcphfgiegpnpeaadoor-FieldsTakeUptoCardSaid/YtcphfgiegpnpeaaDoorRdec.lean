/- What the reference's Decode answers. -/
import Derived.Test.YtcphfgiegpnpeaaDoorRsome
namespace Go.Proofs.YtcphfgiegpnpeaaDoor
open Go.RowKit

theorem wpList_append_rcell (w : World) {ops : Array Oper} {rest : List Oper} {o : Oper} {a : Act} {Q : Exit → Act → World → Prop} (hgd : o.guard = none) (t x : Operand)
    (ho : o.op = .call { callee := .builtin .append, args := #[t, x], argTypes := #[33, 33] }) (base n : Nat) (xs : List Value) (c : FC) (H : Nat) (hx : a.eval x = .slice (some ⟨H, 0, none⟩) 1 1) (h0 : w.cell? ⟨H, 0, none⟩ = some (.int .i64 c.n)) (h1 : w.cell? ⟨H, 1, none⟩ = some (.int .u64 (c.f : Int))) (h2 : w.cell? ⟨H, 2, none⟩ = some (.string c.s))
    (v : Value) (hs : a.eval t = v) (hown : w.ownsRow base 65 3 v n xs) (hb : n + 1 ≤ 4398046511104) (hbase : base ≤ w.heap.size)
    (h : ∀ v' w', w'.ownsRow base 65 3 v' (n + 1) (xs ++ [.int .i64 c.n, .int .u64 (c.f : Int), .string c.s]) → w.grownBy w' v.ownBlock → wpList Tryd.prog ops Q rest (a.put o.dst v') w') : wpList Tryd.prog ops Q (o :: rest) a w := by
  refine wpList_plain hgd fun K hK => ?_
  obtain ⟨i0, hi0, hz0, hz1, hz2⟩ := info_parts rcell_info
  obtain ⟨v', w', hr, hh2, hh3, _⟩ := run_append_own_at (P := Tryd.prog) w base 33 o.type 65 i0 _ 3 32 Tryd.underlying33 hi0 hz0 hz1 hz2 rfl (by omega) v n xs hown ⟨H, 0, none⟩ 1 1 [.int .i64 c.n, .int .u64 (c.f : Int), .string c.s] rfl
    (by
      intro j u hj
      match j with
      | 0 => simp at hj; rw [← hj]; exact h0
      | 1 => simp at hj; rw [← hj]; simpa [Addr.add] using h1
      | 2 => simp at hj; rw [← hj]; simpa [Addr.add] using h2
      | j + 3 => simp at hj)
    (by intro u hu; simp at hu; rcases hu with rfl | rfl | rfl <;> rfl) (by simp only [maxLen]; omega) (by omega) hbase
  unfold Oper.wp execOp
  simp only [ho, resolve, invoke, builtin, Sem.run_bind, Sem.run_pure, Result.andThen_ok, List.map_toArray, List.map_cons, List.map_nil, hs, hx, hr]
  exact hK _ _ (h v' w' hh2 hh3)

def RdP (w w' : World) (r : Except Nat (List FC)) (v : Value) (j : Int) : Prop := match r with
  | .error k => v = .slice none 0 0 ∧ j = (numOf k : Int)
  | .ok cs => j = 0 ∧ w'.ownsRow w.heap.size 65 3 v cs.length (flatR cs)

set_option maxHeartbeats 400000 in
theorem rdecode_state (s : ByteArray) (n cap : Nat) (A : Option Addr) (w : World) (hs : s.size ≤ maxLen) (h : kn s.data.toList = false) :
    Calls Tryd.prog 20 #[.string s, .slice A n cap] w fun e w' => e = .returned (.tuple #[.slice none 0 0, .int .i64 17]) ∧ w = w' := by
  have HK := Lib.hid h
  clear h
  go_enter Tryd.func20, Tryd.ntmps20
  go_wp2_with fail
  with_reducible refine (rknown_any s w hs).mono ?_
  rintro e w1 ⟨rfl, rfl⟩
  rw [HK.out]
  go_wp2_with fail
  go_ret2
  exact ⟨rfl, rfl⟩

set_option maxHeartbeats 400000 in
theorem rdecode_known (s : ByteArray) (n cap : Nat) (A : Option Addr) (bs : List UInt8) (w : World) (hs : s.size ≤ 1048576) (hn : bs.length = n) (hmax : n ≤ maxLen) (hcap : n ≤ cap)
    (hr : Rd w w.heap.size A (bs.map bv)) (hk : kn s.data.toList = true) :
    Calls Tryd.prog 20 #[.string s, .slice A n cap] w fun e w' => ∃ v j, e = .returned (.tuple #[v, .int .i64 j]) ∧ Hid (RdP w w' (decS s.data.toList bs) v j ∧ Below w.heap.size w w') := by
  have HN := Lib.hid hn
  have HR := Lib.hid hr
  have HK := Lib.hid hk
  clear hn hr hk
  have hmax' : n ≤ 9223372036854775807 := hmax
  clear hmax
  go_enter Tryd.func20, Tryd.ntmps20
  go_wp2_with fail
  with_reducible refine (rknown_any s w (by simp only [maxLen]; omega)).mono ?_
  rintro e w1 ⟨rfl, rfl⟩
  rw [HK.out]
  go_wp2_with fail
  go_loopw [1, 6, 7] (fun v u i W => ∃ (k L C : Nat) (D : Option Addr) (ds : List UInt8) (acc : List FC), k ≤ s.size ∧ L ≤ C ∧ L ≤ 9223372036854775807 ∧ i = .int .i64 k ∧ v = .slice D L C ∧ Hid (ds.length = L ∧ acc.length = k ∧ decS s.data.toList bs = thenD acc (decS (s.data.toList.drop k) ds) ∧ Rd W w.heap.size D (ds.map bv) ∧ W.ownsRow w.heap.size 65 3 u k (flatR acc) ∧ Below w.heap.size w W)) (fun _ _ i _ => s.size - (intOf i).toNat)
  case atStart => exact ⟨0, n, cap, A, bs, [], Nat.zero_le _, hcap, hmax', rfl, rfl, Lib.hid ⟨HN.out, rfl, by rw [thenD_nil]; rfl, HR.out.below ((Below.refl _ _).alloc (Nat.le_refl _) _), by simpa [flatR] using own_empty65 w w.heap.size (Nat.le_refl _), (Below.refl _ _).alloc (Nat.le_refl _) _⟩⟩
  case round =>
    obtain ⟨k, L, C, D, ds, acc, hk, hLC, hL, rfl, rfl, H⟩ := hrel
    have hszW : w.heap.size ≤ wr.heap.size := H.out.2.2.2.2.2.size
    by_cases hlt : k < s.size
    · have HD := Lib.hid (List.drop_eq_getElem_cons (l := s.data.toList) (i := k) (by simpa using hlt))
      have e1 : s.data.toList[k]'(by simpa using hlt) = s[k] := rfl
      rw [e1] at HD
      clear e1
      have hkI : (0 : Int) ≤ (k : Int) := by omega
      have hkI2 : (k : Int) < (s.size : Int) := by omega
      have HZ := Lib.hid (kn_get HK.out hlt)
      have HRW := Lib.hid (H.out.2.2.2.1.more hszW)
      cases hsp : spanS s[k].toNat ds with
      | error e =>
        have HF : Hid (decS s.data.toList bs = .error e) := Lib.hid (by rw [H.out.2.2.1, HD.out, decS_err hsp]; rfl)
        have hne := numOf_ne e
        generalize hC : s[k].toNat = c at *
        have HCC := Lib.hid hC
        have HSP := Lib.hid hsp
        clear hsp hC
        go_wp2_with fail
        rw [HCC.out]
        with_reducible refine (rfield_err c L C e D ds wr HZ.out H.out.1 (by simp only [maxLen]; omega) hLC HRW.out HSP.out).mono ?_
        rintro e w2 ⟨rfl, hb2⟩
        have HB2 := Lib.hid (H.out.2.2.2.2.2.trans (hb2.mono hszW))
        clear hb2
        go_wp2_with fail
        go_ret2
        refine ⟨_, _, rfl, Lib.hid ⟨?_, HB2.out.alloc HB2.out.size _⟩⟩
        rw [HF.out]
        exact ⟨rfl, rfl⟩
      | ok m =>
        have hle := spanS_le hsp
        generalize hX : cellS s[k].toNat (ds.take m) = x
        have HF : Hid (decS s.data.toList bs = thenD (acc ++ [x]) (decS (s.data.toList.drop (k + 1)) (ds.drop m))) := Lib.hid (by rw [H.out.2.2.1, HD.out, decS_ok acc hsp, hX])
        have HX := Lib.hid hX
        clear hX
        have hle1 : m ≤ L := by have := hle.1; rwa [H.out.1] at this
        have hle2 : 1 ≤ m := by have := HZ.out; omega
        generalize hC : s[k].toNat = c at *
        have HCC := Lib.hid hC
        have HSP := Lib.hid hsp
        clear hsp hC hle
        go_wp2_with fail
        rw [HCC.out]
        with_reducible refine (rfield_ok c L C m D ds x wr HZ.out H.out.1 (by simp only [maxLen]; omega) hLC HRW.out HSP.out HX.out).mono ?_
        rintro e w2 ⟨rfl, hb2⟩
        have HB2 := Lib.hid (H.out.2.2.2.2.2.trans (hb2.mono hszW))
        have HR2 := Lib.hid (H.out.2.2.2.1.below (hb2.mono hszW))
        have HO2 := Lib.hid (own_below H.out.2.2.2.2.1 hb2)
        clear hb2
        have hsz2 : w.heap.size ≤ w2.heap.size := HB2.out.size
        have HRD := Lib.hid (HR2.out.drop (k := m) (cap := C) (by simp; rw [H.out.1]; omega) (by simp; rw [H.out.1]; omega))
        by_cases hCm : C = m
        · rw [if_pos hCm] at HRD
          subst hCm
          obtain rfl : L = C := by omega
          go_wp2_with (first
            | (at_builtin
               refine wpList_append_rcell _ rfl (.tmp 33) (.tmp 35) rfl w.heap.size k (flatR acc) x _ rfl (by simp) (by simp) (by simp) _ rfl ((HO2.out.alloc _).alloc _) (by omega) (by simp; omega) ?_
               intro v3 w3 hown3 hg3))
          have hbb := (((Below.refl w.heap.size w2).alloc hsz2 _).alloc (by simp; omega) _).grown hg3 (by simp; omega) (fun j hj => (HO2.out.lt j hj).1)
          refine ⟨⟨k + 1, 0, 0, _, ds.drop L, acc ++ [x], by omega, by omega, by omega, by go_num, rfl, Lib.hid ⟨by rw [List.length_drop, H.out.1]; omega, by rw [List.length_append, H.out.2.1]; rfl, HF.out, ?_, by rw [flatR_snoc]; exact hown3, HB2.out.trans hbb⟩⟩, by simp [intOf]; omega⟩
          rw [List.map_drop]
          exact HRD.out.below hbb
        · rw [if_neg hCm] at HRD
          go_wp2_with (first
            | (at_builtin
               refine wpList_append_rcell _ rfl (.tmp 33) (.tmp 35) rfl w.heap.size k (flatR acc) x _ rfl (by simp) (by simp) (by simp) _ rfl ((HO2.out.alloc _).alloc _) (by omega) (by simp; omega) ?_
               intro v3 w3 hown3 hg3))
          have hbb := (((Below.refl w.heap.size w2).alloc hsz2 _).alloc (by simp; omega) _).grown hg3 (by simp; omega) (fun j hj => (HO2.out.lt j hj).1)
          refine ⟨⟨k + 1, L - m, C - m, _, ds.drop m, acc ++ [x], by omega, by omega, by omega, by go_num, rfl, Lib.hid ⟨by rw [List.length_drop, H.out.1], by rw [List.length_append, H.out.2.1]; rfl, HF.out, ?_, by rw [flatR_snoc]; exact hown3, HB2.out.trans hbb⟩⟩, by simp [intOf]; omega⟩
          rw [List.map_drop]
          exact HRD.out.below hbb
    · have hdk : s.data.toList.drop k = [] := List.drop_eq_nil_of_le (by simp; omega)
      by_cases hend : 0 < L
      · have HF : Hid (decS s.data.toList bs = .error 0) := Lib.hid (by
          rw [H.out.2.2.1, hdk, decS, if_neg (by intro e; have := H.out.1; rw [e] at this; simp at this; omega)]; rfl)
        clear hdk
        go_wp2_with fail
        go_ret2
        refine ⟨_, _, rfl, Lib.hid ⟨?_, H.out.2.2.2.2.2⟩⟩
        rw [HF.out]
        exact ⟨rfl, by decide⟩
      · have HF : Hid (decS s.data.toList bs = .ok acc) := Lib.hid (by
          rw [H.out.2.2.1, hdk, decS, if_pos (List.eq_nil_of_length_eq_zero (by have := H.out.1; omega))]; simp [thenD])
        clear hdk
        go_wp2_with fail
        go_ret2
        refine ⟨_, 0, rfl, Lib.hid ⟨?_, H.out.2.2.2.2.2⟩⟩
        rw [HF.out]
        exact ⟨rfl, by have := H.out.2.2.2.2.1; rwa [← H.out.2.1] at this⟩
end Go.Proofs.YtcphfgiegpnpeaaDoor

/- The law FieldsSizes: a row's size is the sum of its fields' sizes. -/
import Derived.Test.YtcphfgiegpnpeaaDoorAlive
import Derived.Lib.OthersKept
namespace Go.Proofs.YtcphfgiegpnpeaaDoor
open Go.RowKit

theorem size_err (E : Nat → Value) (s : ByteArray) (n cap k : Nat) (A : Option Addr) (cs : List FC) (w : World) (t : TypeId) (v : Value) (hE : Errs w E) (h5 : 5 ≤ w.heap.size) (hs : s.size ≤ maxLen) (hn : cs.length = n)
    (hcs : Cs w w.heap.size A cs) (hok : ∀ x ∈ cs, x.ok) (hbig : n ≤ 4398046511104) (h : sizesS s.data.toList cs = .error k) (hk : E k = .iface t v) :
    Calls Tryd.prog 13 #[.string s, .slice A n cap] w fun e w' => e = .returned (.tuple #[.int .i64 0, .iface t v]) ∧ Below w.heap.size w w' :=
  (size_any E s n cap A cs w hE h5 hs hn hcs hok hbig).mono fun _ _ ⟨he, hb⟩ => ⟨by rw [he, h, spanV, hk], hb⟩
theorem size_ok (E : Nat → Value) (s : ByteArray) (n cap m : Nat) (A : Option Addr) (cs : List FC) (w : World) (hE : Errs w E) (h5 : 5 ≤ w.heap.size) (hs : s.size ≤ maxLen) (hn : cs.length = n)
    (hcs : Cs w w.heap.size A cs) (hok : ∀ x ∈ cs, x.ok) (hbig : n ≤ 4398046511104) (h : sizesS s.data.toList cs = .ok m) :
    Calls Tryd.prog 13 #[.string s, .slice A n cap] w fun e w' => e = .returned (.tuple #[.int .i64 (m : Int), .nilIface]) ∧ Below w.heap.size w w' :=
  (size_any E s n cap A cs w hE h5 hs hn hcs hok hbig).mono fun _ _ ⟨he, hb⟩ => ⟨by rw [he, h]; rfl, hb⟩
theorem sumS_err_lt {l : List UInt8} {cs : List FC} {k : Nat} (h : sumS l cs = .error k) : k < 5 := by
  induction l generalizing cs with
  | nil => simp [sumS] at h
  | cons a l ih =>
    match cs with
    | [] => simp [sumS] at h
    | x :: cs =>
      simp only [sumS] at h
      split at h
      · rename_i e he
        injection h with h
        subst h
        exact sizeS_err he
      · split at h
        · rename_i e he
          injection h with h
          subst h
          exact ih he
        · cases h
theorem sizesS_err_lt {l : List UInt8} {cs : List FC} {k : Nat} (h : sizesS l cs = .error k) : k < 5 := by
  unfold sizesS at h
  split at h
  · exact sumS_err_lt h
  · injection h with h; omega
theorem Cs.more {w : World} {B B' : Nat} {A : Option Addr} {cs : List FC} (h : Cs w B A cs) (hB : B ≤ B') : Cs w B' A cs := by
  rcases h with rfl | ⟨b, o, h1, h2, h3⟩
  · exact .inl rfl
  · exact .inr ⟨b, o, h1, by omega, h3⟩
theorem hd_ascii {c : Nat} (h : hd c ≠ 0) : c < 128 := by
  unfold hd at h
  repeat' split at h
  all_goals omega
theorem iterPos_of {w : World} {k : Nat} {s : ByteArray} {p : Nat} (h : w.heap[k]? = some (.stringIter s p)) : w.iterPos k = p := by simp [World.iterPos, h]

theorem ext_one (s : ByteArray) (k : Nat) (h : k < s.size) : (s.extract k (k + 1)).data.toList = [s[k]] := by
  have h1 : k < s.data.toList.length := by simpa using h
  have e : (s.extract k (k + 1)).data.toList = (s.data.toList.take (k + 1)).drop k := by simp [ByteArray.data_extract, List.drop_take]
  rw [e, List.take_succ_eq_append_getElem h1, List.drop_append_of_le_length (by simp; omega), List.drop_eq_nil_of_le (by simp; omega), List.nil_append]
  rfl
theorem kn_one {c : UInt8} (h : hd c.toNat ≠ 0) : kn [c] = true := by simp [kn, h]

set_option maxHeartbeats 400000 in
theorem sizes_any (E : Nat → Value) (s : ByteArray) (n cap : Nat) (A : Option Addr) (cs : List FC) (w : World) (hE : Errs w E) (h5 : 5 ≤ w.heap.size) (hs : s.size ≤ maxLen) (hn : cs.length = n)
    (hcs : Cs w w.heap.size A cs) (hok : ∀ x ∈ cs, x.ok) (hbig : n ≤ 4398046511104) :
    Calls Tryd.prog 8 #[.string s, .slice A n cap] w fun e w' => e = .returned (.bool true) ∧ Below w.heap.size w w' := by
  have HE := Lib.hid hE
  have HN := Lib.hid hn
  have HC := Lib.hid hcs
  have HO := Lib.hid hok
  have hs' : s.size ≤ 9223372036854775807 := hs
  clear hE hn hcs hok
  go_enter Tryd.func8, Tryd.ntmps8
  go_wp2_with fail
  with_reducible refine (alive_any E w HE.out h5).mono ?_
  rintro e w1 ⟨rfl, hb1⟩
  have HB1 := Lib.hid hb1
  have h51 : 5 ≤ w1.heap.size := Nat.le_trans h5 hb1.size
  have HE1 := Lib.hid (HE.out.below h5 hb1)
  have HC1 := Lib.hid ((HC.out.keep hb1).more hb1.size)
  clear hb1
  cases hS : sizesS s.data.toList cs with
  | error k =>
    obtain ⟨t, v, hk⟩ := HE.out.some_ k (sizesS_err_lt hS)
    have HS := Lib.hid hS
    have HK := Lib.hid hk
    clear hS hk
    go_wp2_with fail
    with_reducible refine (size_err E s n cap k A cs w1 t v HE1.out h51 hs HN.out HC1.out HO.out hbig HS.out HK.out).mono ?_
    rintro e w2 ⟨rfl, hb2⟩
    go_wp2_with fail
    go_ret
    exact ⟨rfl, HB1.out.trans (hb2.mono HB1.out.size)⟩
  | ok total =>
    have HS := Lib.hid hS
    have hkn : kn s.data.toList = true ∧ cs.length = s.data.toList.length ∧ sumS s.data.toList cs = .ok total := by
      unfold sizesS at hS
      split at hS
      · rename_i hh; exact ⟨hh.1, hh.2, hS⟩
      · cases hS
    have HK := Lib.hid hkn
    have hns : n = s.size := by have h1 := hkn.2.1; rw [HN.out] at h1; simpa using h1
    clear hS hkn
    subst hns
    go_wp2_with fail
    with_reducible refine (size_ok E s s.size cap total A cs w1 HE1.out h51 hs HN.out HC1.out HO.out hbig HS.out).mono ?_
    rintro e w2 ⟨rfl, hb2⟩
    have HB2 := Lib.hid (HB1.out.trans (hb2.mono HB1.out.size))
    clear hb2
    go_wp2_with fail
    go_loopw [7] (fun v wr => ∃ pos m : Nat, pos ≤ s.size ∧ v = .int .i64 m ∧ m ≤ 65537 * pos ∧ Hid (sumS (s.data.toList.take pos) (cs.take pos) = .ok m ∧ wr.heap[w2.heap.size]? = some (.stringIter s pos) ∧ Below w.heap.size w wr)) (fun _ wr => s.size - wr.iterPos w2.heap.size)
    case atStart => exact ⟨0, 0, Nat.zero_le _, rfl, Nat.zero_le _, Lib.hid ⟨rfl, World.iter_heap w2 s 0, HB2.out.alloc HB2.out.size _⟩⟩
    case round =>
      have hit0 : w.heap.size ≤ w2.heap.size := HB2.out.size
      generalize w2.heap.size = it at *
      obtain ⟨pos, m, hpos, rfl, hm, HR⟩ := hrel
      have hpos0 := iterPos_of HR.out.2.1
      by_cases hlt : pos < s.size
      · have hkc : pos < cs.length := by rw [HN.out]; exact hlt
        have HZ := Lib.hid (kn_get HK.out.1 hlt)
        have hnx : ∀ ty, (Instr.next (.pointer (some ⟨it, 0, none⟩)) true ty).run Tryd.prog wr = _ := fun ty => Lib.run_next_ascii_at wr it s pos ty HR.out.2.1 hlt (hd_ascii HZ.out)
        have HIT := Lib.hid (Lib.iterAt_heap wr it s pos (pos + 1) HR.out.2.1)
        have HBW := Lib.hid (Lib.below_iterAt HR.out.2.2 (k := it) hit0 s (pos + 1))
        obtain ⟨W1, hW1⟩ : ∃ W1, W1 = wr.iterAt it s (pos + 1) := ⟨_, rfl⟩
        rw [← hW1] at hnx HIT HBW
        clear hW1
        obtain ⟨b, o, rfl, hbB, hc0, hc1, hc2⟩ := (HC.out.keep HBW.out).at_ hkc
        obtain ⟨nn, hz⟩ := sumS_get (by simpa using hlt) hkc HK.out.2.2
        have HST := Lib.hid (sumS_step (by simpa using hlt) hkc HR.out.1 hz)
        have e1 : s.data.toList[pos]'(by simpa using hlt) = s[pos] := rfl
        rw [e1] at hz
        clear e1
        have hnle := sizeS_le hz
        generalize hX : cs[pos] = x at *
        have HX := Lib.hid hX
        clear hX
        have HXO : Hid x.ok := Lib.hid (by rw [← HX.out]; exact HO.out _ (List.getElem_mem hkc))
        have HZS := Lib.hid hz
        clear hz
        have hbw : b < W1.heap.size := Nat.lt_of_lt_of_le hbB HBW.out.size
        have h5w : 5 ≤ W1.heap.size := Nat.le_trans h5 HBW.out.size
        have hkI : (0 : Int) ≤ (pos : Int) := by omega
        have hkI2 : (pos : Int) < (s.size : Int) := by omega
        have hI3 : IntKind.i64.wrap ((pos : Int) + 1) = (pos : Int) + 1 := by rw [IntKind.wrap_i64]; omega
        have hI4 : (pos : Int) + 1 ≤ (s.size : Int) := by omega
        have hI5 : (pos : Int) ≤ (pos : Int) + 1 := by omega
        have hI6 : (0 : Int) ≤ (pos : Int) + 1 := by omega
        go_wp2_with fail
        have hbA := (Below.refl W1.heap.size W1).alloc (Nat.le_refl _) (.cells #[.int .i64 x.n, .float .f64 x.f, .string x.s] 49)
        have hc0' := (hbA.cell (p := ⟨b, _, none⟩) hbw).trans hc0
        have hc1' := (hbA.cell (p := ⟨b, _, none⟩) hbw).trans hc1
        have hc2' := (hbA.cell (p := ⟨b, _, none⟩) hbw).trans hc2
        have HEX := Lib.hid (ext_one s pos hlt)
        have hcsz : sizesS (s.extract pos (pos + 1)).data.toList [x] = .ok nn := by
          rw [HEX.out, sizesS, if_pos ⟨kn_one HZ.out, rfl⟩, sumS_one]; exact HZS.out
        have hxs : (s.extract pos (pos + 1)).size ≤ maxLen := by
          have e : (s.extract pos (pos + 1)).size = (s.extract pos (pos + 1)).data.toList.length := by rw [Array.length_toList]; rfl
          rw [e, HEX.out]
          simp only [List.length_singleton, maxLen]
          omega
        have HCON := Lib.hid (size_ok E (s.extract pos (pos + 1)) 1 1 nn (some ⟨W1.heap.size, 0, none⟩) [x] (W1.alloc (.cells #[.int .i64 x.n, .float .f64 x.f, .string x.s] 49)).drew
          ((HE.out.below (Nat.le_refl 5) (HBW.out.mono h5)).below (Nat.le_refl 5) ((hbA.mono h5w).drew)) (by show 5 ≤ (W1.alloc _).heap.size; simp; omega) hxs rfl
          (.inr ⟨W1.heap.size, 0, rfl, by show W1.heap.size < (W1.alloc _).heap.size; simp, fun k y hy => by
            match k with
            | 0 => simp at hy; subst hy; simp
            | k + 1 => simp at hy⟩) (by intro y hy; simp at hy; subst hy; exact HXO.out) (by omega) hcsz)
        clear hcsz hxs
        have HA := Lib.hid hbA
        clear hbA
        go_region_held3 (fun w' => w'.cell? ⟨b, o + pos * 3, none⟩ = some (.int .i64 x.n) ∧ w'.cell? ⟨b, o + pos * 3 + 1, none⟩ = some (.float .f64 x.f) ∧ w'.cell? ⟨b, o + pos * 3 + 2, none⟩ = some (.string x.s))
          (first | go_keep | exact ⟨(hb3.cell (p := ⟨b, _, none⟩) (Nat.lt_of_lt_of_le hbw HA.out.size)).trans hc0', (hb3.cell (p := ⟨b, _, none⟩) (Nat.lt_of_lt_of_le hbw HA.out.size)).trans hc1', (hb3.cell (p := ⟨b, _, none⟩) (Nat.lt_of_lt_of_le hbw HA.out.size)).trans hc2'⟩)
          (first
            | (go_at_call 13; (with_reducible refine HCON.out.mono ?_); rintro e w3 ⟨rfl, hb3⟩))
        have HB3 := Lib.hid (HA.out.drew.trans (hb3.mono HA.out.size))
        have HIT3 : Hid (w3.heap[it]? = some (.stringIter s (pos + 1))) := Lib.hid (by
          have hlt2 : it < W1.heap.size := (Array.getElem?_eq_some_iff.1 HIT.out).1
          rw [HB3.out.block it hlt2]; exact HIT.out)
        clear HCON hI3 hb3
        go_wp2_with fail
        refine ⟨⟨pos + 1, m + nn, by omega, by go_num, by omega, Lib.hid ⟨HST.out, HIT3.out, HBW.out.trans (HB3.out.mono HBW.out.size)⟩⟩, ?_⟩
        rw [iterPos_of HIT3.out, hpos0]
        omega
      · have hnx : ∀ ty, (Instr.next (.pointer (some ⟨it, 0, none⟩)) true ty).run Tryd.prog wr = _ := fun ty => Lib.run_next_end_at wr it s pos ty HR.out.2.1 hlt
        have hmt : m = total := by
          have h1 := HR.out.1
          rw [List.take_of_length_le (by simp; omega), List.take_of_length_le (by rw [HN.out]; omega), HK.out.2.2] at h1
          injection h1 with h1
          exact h1.symm
        subst hmt
        go_wp2_with fail
        go_ret
        exact ⟨rfl, HR.out.2.2⟩
end Go.Proofs.YtcphfgiegpnpeaaDoor

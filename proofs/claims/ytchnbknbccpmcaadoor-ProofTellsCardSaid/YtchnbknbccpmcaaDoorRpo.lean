/- The document's Open. -/
import Derived.Test.YtchnbknbccpmcaaDoorRpt
import Derived.Test.YtchnbknbccpmcaaDoorShw
namespace Go.Proofs.YtchnbknbccpmcaaDoor
open Go.RowKit
open Go.Proofs.YtchnbknbccpmcaaDoor.H

theorem toList_neO {s t : ByteArray} (h : s ≠ t) : (s.toList == t.toList) = false := by
  have h2 : s.toList ≠ t.toList := fun e => h (by
    rw [ByteArray.toList_eq, ByteArray.toList_eq] at e
    exact ByteArray.ext (Array.toList_inj.1 e))
  simpa using h2
theorem bytes_same {l m : List UInt8} : (⟨l.toArray⟩ : ByteArray) = ⟨m.toArray⟩ ↔ l = m := by
  constructor
  · intro e
    have h := congrArg (fun s : ByteArray => s.data.toList) e
    simpa using h
  · intro e; rw [e]

set_option maxRecDepth 100000 in
theorem ropen_range (g : Nat) (K : Option Addr) (kn kc : Nat) (who : ByteArray) (T : Option Addr) (n d : Nat) (w : World) (hbad : ¬ ((1 ≤ kn ∧ kn ≤ 64) ∧ (1 ≤ who.size ∧ who.size ≤ 16))) :
    Calls Tryd.prog 19 #[.pointer (some ⟨g, 0, none⟩), .slice K kn kc, .string who, .slice T n d] w fun e w' => e = .returned (.tuple #[.int .i64 0, .int .i64 1]) ∧ w' = w := by
  have hnot : ∀ (x : Bool) (w : World), (Op.unary .not (.bool x)).run Tryd.prog w = .ok (.bool (!x)) w := fun _ _ => rfl
  go_enter Tryd.func19, Tryd.ntmps19
  go_wp2_with fail
  with_reducible refine (secret_any K kn kc w).mono ?_
  rintro e w1 ⟨rfl, rfl⟩
  by_cases h1 : 1 ≤ kn ∧ kn ≤ 64
  · rw [decide_eq_true h1]
    have h2 : ¬ (1 ≤ who.size ∧ who.size ≤ 16) := fun h => hbad ⟨h1, h⟩
    have HN := Lib.hid (name_any who w1)
    rw [decide_eq_false h2] at HN
    clear h2 h1 hbad
    go_wp2_with fail
    with_reducible refine HN.out.mono ?_
    rintro e w2 ⟨rfl, rfl⟩
    go_wp2_with fail
    go_ret2
    exact ⟨rfl, rfl⟩
  · rw [decide_eq_false h1]
    clear hbad h1
    go_wp2_with fail
    go_ret2
    exact ⟨rfl, rfl⟩
set_option maxRecDepth 100000 in
theorem ropen_short (g : Nat) (K : Option Addr) (kn kc : Nat) (who : ByteArray) (T : Option Addr) (n d : Nat) (w : World) (h1 : 1 ≤ kn ∧ kn ≤ 64) (h2 : 1 ≤ who.size ∧ who.size ≤ 16) (hn : n ≠ 32) :
    Calls Tryd.prog 19 #[.pointer (some ⟨g, 0, none⟩), .slice K kn kc, .string who, .slice T n d] w fun e w' => e = .returned (.tuple #[.int .i64 0, .int .i64 14]) ∧ w' = w := by
  have hnot : ∀ (x : Bool) (w : World), (Op.unary .not (.bool x)).run Tryd.prog w = .ok (.bool (!x)) w := fun _ _ => rfl
  have HS := Lib.hid (secret_any K kn kc w)
  rw [decide_eq_true h1] at HS
  have HN := Lib.hid (name_any who w)
  rw [decide_eq_true h2] at HN
  have h4 : ((n : Int) != 32) = true := by rw [bne_iff_ne]; omega
  clear h1 h2 hn
  go_enter Tryd.func19, Tryd.ntmps19
  go_wp2_with fail
  with_reducible refine HS.out.mono ?_
  rintro e w1 ⟨rfl, rfl⟩
  go_wp2_with fail
  with_reducible refine HN.out.mono ?_
  rintro e w2 ⟨rfl, rfl⟩
  go_wp2_with fail
  go_ret2
  exact ⟨rfl, rfl⟩
set_option maxRecDepth 100000 in
theorem ropen_full (g : Nat) (K : Option Addr) (kn kc : Nat) (who : ByteArray) (key : List UInt8) (T : Option Addr) (d : Nat) (bs : List UInt8) (w : World) (hT : Tab w w.heap.size g) (hk : KeyAt w K kn kc key) (ht : KeyAt w T 32 d bs) (h1 : 1 ≤ kn ∧ kn ≤ 64) (h2 : 1 ≤ who.size ∧ who.size ≤ 16) (r c : Nat)
    (hrc : (r, c) = match openB key who bs with | some m => (m, 0) | none => (0, 14)) :
    Calls Tryd.prog 19 #[.pointer (some ⟨g, 0, none⟩), .slice K kn kc, .string who, .slice T 32 d] w fun e w' => e = .returned (.tuple #[.int .i64 (r : Int), .int .i64 (c : Int)]) ∧ Hid (Below w.heap.size w w') := by
  have hnot : ∀ (x : Bool) (w : World), (Op.unary .not (.bool x)).run Tryd.prog w = .ok (.bool (!x)) w := fun _ _ => rfl
  have HS := Lib.hid (secret_any K kn kc w)
  rw [decide_eq_true h1] at HS
  have HN := Lib.hid (name_any who w)
  rw [decide_eq_true h2] at HN
  have HT := Lib.hid hT
  have HK := Lib.hid hk
  have HB := Lib.hid ht
  have H1 := Lib.hid h1
  have H2 := Lib.hid h2
  have HRC := Lib.hid hrc
  clear h1 h2 hT hk ht hrc
  go_enter Tryd.func19, Tryd.ntmps19
  go_wp2_with fail
  with_reducible refine HS.out.mono ?_
  rintro e w1 ⟨rfl, rfl⟩
  go_wp2_with fail
  with_reducible refine HN.out.mono ?_
  rintro e w2 ⟨rfl, rfl⟩
  clear HS HN
  go_wp2_with fail
  go_loopw [10, 11] (fun u i W => ∃ k : Nat, k ≤ 8 ∧ i = .int .i64 k ∧ u = .int .u64 (F.num (bs.take k) : Int) ∧ W = w2) (fun _ i _ => 8 - (intOf i).toNat)
  case atStart => exact ⟨0, Nat.zero_le _, rfl, rfl, rfl⟩
  case round =>
    obtain ⟨k, hk, rfl, rfl, rfl⟩ := hrel
    by_cases hlt : k < 8
    · have hl := HB.out.len
      obtain ⟨ad, rfl, _, hc⟩ := HB.out.rd.cell (k := k) (u := bv (bs[k]'(by omega))) (by simp [show k < bs.length by omega])
      unfold bv at hc
      have hq : F.num (bs.take k) < 72057594037927936 := by
        have h := F.num_lt8 (bs.take 8) k (by rw [List.length_take]; omega) (by rw [List.length_take]; omega)
        rwa [List.take_take, Nat.min_eq_left (by omega)] at h
      have hs := F.num_take bs k (by omega)
      have hb := (bs[k]'(by omega)).toNat_lt
      have HSS := Lib.hid hs
      clear hs
      generalize F.num (bs.take k) = q at *
      generalize (bs[k]'(by omega)).toNat = x at *
      go_wp2_with fail
      refine ⟨⟨k + 1, by omega, by go_num, ?_, by first | rfl | trivial⟩, by simp [intOf]; omega⟩
      rw [HSS.out]
      congr 1
    · have hk8 : k = 8 := by omega
      subst hk8
      by_cases hg : (1099511627776 : Int) < (F.num (bs.take 8) : Int)
      · have hrc : r = 0 ∧ c = 14 := by
          have h := HRC.out
          have ho : openB key who bs = none := by
            unfold openB
            rw [if_neg (by rintro ⟨_, h3, _⟩; omega)]
          rw [ho] at h
          simpa using h
        obtain ⟨rfl, rfl⟩ := hrc
        go_wp2_with fail
        go_ret2
        exact ⟨rfl, Lib.hid (Below.refl _ _)⟩
      · have hg2 : F.num (bs.take 8) ≤ 1099511627776 := by omega
        have HTI := Lib.hid (rticket_ok g K kn kc who key (F.num (bs.take 8)) wr HT.out HK.out H1.out H2.out hg2)
        have HG := Lib.hid hg2
        obtain ⟨q, HQ⟩ : ∃ q, Hid (q = F.num (bs.take 8)) := ⟨_, Lib.hid rfl⟩
        rw [← HQ.out] at hg hg2 HTI
        simp only [← HQ.out]
        clear hg2
        go_wp2_with fail
        with_reducible refine HTI.out.mono ?_
        rintro e w4 ⟨A4, c4, rfl, HV⟩
        have hb4 := HV.out.1.rd.toStr 32 c4 HV.out.1.len
        have hb5 := (HB.out.below HV.out.2).rd.toStr 32 d (HB.out.below HV.out.2).len
        have HBW := Lib.hid HV.out.2
        have HBL := Lib.hid HB.out.len
        clear HTI HV HB HT HK hg
        by_cases hs : bs = ticketB key who q
        · have hrc : r = q ∧ c = 0 := by
            have h := HRC.out
            have ho : openB key who bs = some q := by
              unfold openB
              rw [if_pos ⟨HBL.out, HG.out, by rw [← HQ.out]; exact hs⟩, HQ.out]
            rw [ho] at h
            simpa using h
          obtain ⟨rfl, rfl⟩ := hrc
          have hrb : r ≤ 1099511627776 := by rw [HQ.out]; exact HG.out
          have hrw : wrap64 (r : Int) = (r : Int) := by simp only [wrap64]; omega
          rw [← hs] at hb4
          generalize (⟨bs.toArray⟩ : ByteArray) = s5 at *
          clear hs HQ HG HRC HBL
          go_wp2_with fail
          go_ret2
          exact ⟨rfl, HBW⟩
        · have hrc : r = 0 ∧ c = 14 := by
            have h := HRC.out
            have ho : openB key who bs = none := by
              unfold openB
              rw [if_neg (by rintro ⟨_, _, h3⟩; exact hs (by rw [HQ.out]; exact h3))]
            rw [ho] at h
            simpa using h
          obtain ⟨rfl, rfl⟩ := hrc
          have hq := toList_neO (fun e => hs (bytes_same.1 e).symm : (⟨(ticketB key who q).toArray⟩ : ByteArray) ≠ ⟨bs.toArray⟩)
          generalize (⟨bs.toArray⟩ : ByteArray) = s5 at *
          generalize (⟨(ticketB key who q).toArray⟩ : ByteArray) = s4 at *
          clear hs HQ HG HRC HBL
          go_wp2_with fail
          go_ret2
          exact ⟨rfl, HBW⟩
end Go.Proofs.YtchnbknbccpmcaaDoor

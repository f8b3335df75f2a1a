/- What the reference's field answers. -/
import Derived.Test.YtcphfgiegpnpeaaDoorRenc
namespace Go.Proofs.YtcphfgiegpnpeaaDoor
open Go.RowKit

/-- What the reference's field hands back. -/
def fieldV (c : Nat) (bs : List UInt8) : Value := match spanS c bs with
  | .error k => .tuple #[.agg #[.int .i64 0, .int .u64 0, .string ⟨#[]⟩], .int .i64 0, .int .i64 (numOf k : Int)]
  | .ok m => .tuple #[.agg #[.int .i64 (cellS c (bs.take m)).n, .int .u64 ((cellS c (bs.take m)).f : Int), .string (cellS c (bs.take m)).s], .int .i64 (m : Int), .int .i64 0]
theorem take_take_le {c m : Nat} {bs : List UInt8} (h : hd c ≤ m) : (bs.take m).take (hd c) = bs.take (hd c) := by rw [List.take_take, Nat.min_eq_left h]

set_option maxHeartbeats 400000 in
theorem rfield_any (c n cap : Nat) (A : Option Addr) (bs : List UInt8) (w : World) (h0 : hd c ≠ 0) (hn : bs.length = n) (hmax : n ≤ maxLen) (hcap : n ≤ cap)
    (hr : Rd w w.heap.size A (bs.map bv)) :
    Calls Tryd.prog 36 #[.slice A n cap, .int .u8 (c : Int)] w fun e w' => e = .returned (fieldV c bs) ∧ Below w.heap.size w w' := by
  have HR := Lib.hid hr
  have HN := Lib.hid hn
  clear hr hn
  have hmax' : n ≤ 9223372036854775807 := hmax
  clear hmax
  have hq := hd_cases h0
  have hN64 : num (bs.take (hd c)) < 18446744073709551616 := num_lt64 _ (by rw [List.length_take]; omega)
  generalize hV : fieldV c bs = V
  have HV := Lib.hid hV
  clear hV
  generalize hH : hd c = h at *
  have HH := Lib.hid hH
  clear hH
  go_enter Tryd.func36, Tryd.ntmps36
  go_wp2_with fail
  with_reducible refine (letter_any c _).mono ?_
  rintro e w1 ⟨rfl, rfl⟩
  rw [HH.out]
  by_cases hsh : n < h
  · have e : V = .tuple #[.agg #[.int .i64 0, .int .u64 0, .string ⟨#[]⟩], .int .i64 0, .int .i64 2] := by
      rw [← HV.out, fieldV, spanS_short (by rw [HN.out, HH.out]; exact hsh)]
      rfl
    subst e
    clear HV
    go_wp2_with fail
    exact bodyPost_ret (v := .tuple #[.agg #[.int .i64 0, .int .u64 0, .string ⟨#[]⟩], .int .i64 0, .int .i64 2]) (by simp [results, Tryd.results36, go_sem]) rfl ⟨rfl, (Below.refl _ _).alloc (Nat.le_refl _) _⟩
  · go_wp2_with fail
    go_loop [9, 10] (fun u i => ∃ k : Nat, k ≤ h ∧ i = .int .i64 k ∧ u = .int .u64 (num (bs.take k) : Int)) (fun _ i => h - (intOf i).toNat)
    case atStart => exact ⟨0, Nat.zero_le _, rfl, rfl⟩
    case round =>
      obtain ⟨k, hk, rfl, rfl⟩ := hrel
      by_cases hlt : k < h
      · have hkb : k < bs.length := by rw [HN.out]; omega
        obtain ⟨ad, rfl, hadB, hcell⟩ := HR.out.cell (k := k) (u := bv bs[k]) (by rw [List.getElem?_map, List.getElem?_eq_getElem hkb]; rfl)
        have HNT := Lib.hid (num_take bs k hkb)
        have hb1 := bs[k].toNat_lt
        have hsm : num (bs.take k) < 72057594037927936 := by
          have := num_lt8 (bs.take (h)) k (by rw [List.length_take]; omega) (by rw [List.length_take]; omega)
          rwa [List.take_take, Nat.min_eq_left (by omega)] at this
        have hcell' := ((Below.refl w.heap.size w).alloc (Nat.le_refl _) (.cells #[.int .i64 0, .int .u64 0, .string ⟨#[]⟩] 65)).cell (p := ad.add k) (by unfold Addr.add; split <;> exact hadB) |>.trans hcell
        unfold bv at hcell'
        generalize bs[k].toNat = bk at *
        generalize num (bs.take k) = u at *
        clear hcell
        go_wp2_with fail
        refine ⟨⟨k + 1, by omega, by go_num, ?_⟩, by simp [intOf]; omega⟩
        rw [HNT.out]
        go_num
      · obtain rfl : h = k := by omega
        generalize hNN : num (bs.take (h)) = N at *
        have HNN := Lib.hid hNN
        clear hNN
        by_cases hf : c = 102
        · have hf' : ((c : Int) == 102) = true := by simp [hf]
          have e : V = .tuple #[.agg #[.int .i64 0, .int .u64 (N : Int), .string ⟨#[]⟩], .int .i64 (h : Int), .int .i64 0] := by
            have ht : isT c = false := by rw [hf]; rfl
            rw [← HV.out, fieldV, spanS_float (by rw [HN.out, HH.out]; omega) ht hf]
            simp only [cellS, if_pos hf, HH.out, List.take_take, Nat.min_self, HNN.out]
          subst e
          clear HV hf
          go_wp2_with fail
          exact bodyPost_ret (v := .tuple #[.agg #[.int .i64 0, .int .u64 (N : Int), .string ⟨#[]⟩], .int .i64 (h : Int), .int .i64 0]) (by simp [results, Tryd.results36, go_sem]) rfl ⟨rfl, (Below.refl _ _).alloc (Nat.le_refl _) _⟩
        · have hf' : ((c : Int) == 102) = false := by simp; omega
          cases hT : isT c
          · have HT := Lib.hid hT
            clear hT
            have hg : great (h) < N ↔ 9223372036854775807 < N := by
              have hlt2 := num_lt (bs.take (h))
              rw [List.length_take, HN.out, Nat.min_eq_left (by omega), HNN.out] at hlt2
              rcases hq with rfl | rfl | rfl | rfl <;> simp only [great] <;> simp at hlt2 ⊢ <;> omega
            by_cases hbigN : 9223372036854775807 < N
            · have e : V = .tuple #[.agg #[.int .i64 0, .int .u64 0, .string ⟨#[]⟩], .int .i64 0, .int .i64 1] := by
                rw [← HV.out, fieldV, spanS_range (by rw [HN.out, HH.out]; omega) HT.out hf (by rw [HH.out, HNN.out]; exact hg.2 hbigN)]
                rfl
              subst e
              clear HV hg
              go_wp2_with fail
              exact bodyPost_ret (v := .tuple #[.agg #[.int .i64 0, .int .u64 0, .string ⟨#[]⟩], .int .i64 0, .int .i64 1]) (by simp [results, Tryd.results36, go_sem]) rfl ⟨rfl, (Below.refl _ _).alloc (Nat.le_refl _) _⟩
            · have e : V = .tuple #[.agg #[.int .i64 (N : Int), .int .u64 0, .string ⟨#[]⟩], .int .i64 (h : Int), .int .i64 0] := by
                rw [← HV.out, fieldV, spanS_num (by rw [HN.out, HH.out]; omega) HT.out (by rw [HH.out, HNN.out]; exact fun h => hbigN (hg.1 h))]
                simp only [cellS, if_neg hf, HT.out, HH.out, List.take_take, Nat.min_self, HNN.out]
                rfl
              subst e
              clear HV hg
              go_wp2_with fail
              exact bodyPost_ret (v := .tuple #[.agg #[.int .i64 (N : Int), .int .u64 0, .string ⟨#[]⟩], .int .i64 (h : Int), .int .i64 0]) (by simp [results, Tryd.results36, go_sem]) rfl ⟨rfl, (Below.refl _ _).alloc (Nat.le_refl _) _⟩
          · have HT := Lib.hid hT
            clear hT
            have hw := u64_in (a := (n : Int) - (h : Int)) (by omega) (by omega)
            by_cases hlg : n - h < N
            · have e : V = .tuple #[.agg #[.int .i64 0, .int .u64 0, .string ⟨#[]⟩], .int .i64 0, .int .i64 2] := by
                rw [← HV.out, fieldV, spanS_long (by rw [HN.out, HH.out]; omega) HT.out (by rw [HH.out, HNN.out, HN.out]; exact hlg)]
                rfl
              subst e
              clear HV
              go_wp2_with fail
              exact bodyPost_ret (v := .tuple #[.agg #[.int .i64 0, .int .u64 0, .string ⟨#[]⟩], .int .i64 0, .int .i64 2]) (by simp [results, Tryd.results36, go_sem]) rfl ⟨rfl, (Below.refl _ _).alloc (Nat.le_refl _) _⟩
            · have e : V = .tuple #[.agg #[.int .i64 0, .int .u64 0, .string ⟨((bs.drop (h)).take N).toArray⟩], .int .i64 ((h : Int) + (N : Int)), .int .i64 0] := by
                rw [← HV.out, fieldV, spanS_text (by rw [HN.out, HH.out]; omega) HT.out (by rw [HH.out, HNN.out, HN.out]; exact hlg)]
                simp only [cellS, if_neg hf, HT.out, HH.out, HNN.out, List.drop_take]
                simp
              subst e
              clear HV
              have hst := fun o : Obj => ((HR.out.drop (k := h) (cap := cap) (by simp; rw [HN.out]; omega) (by simp; rw [HN.out]; omega)).take N).below ((Below.refl _ _).alloc (Nat.le_refl _) o)
              have hst2 := fun o : Obj => Rd.toStr (bs := (bs.drop (h)).take N) (by rw [List.map_take, List.map_drop]; exact hst o) N (cap - h) (by rw [List.length_take, List.length_drop, HN.out]; omega)
              clear hst
              have hI4 : IntKind.i64.wrap ((h : Int) + (N : Int)) = (h : Int) + (N : Int) := by rw [IntKind.wrap_i64]; omega
              have hI5 : IntKind.i64.wrap (N : Int) = (N : Int) := by rw [IntKind.wrap_i64]; omega
              by_cases hch : cap = h
              · simp only [if_pos hch] at hst2
                obtain rfl : n = h := by omega
                obtain rfl : cap = n := by omega
                rw [Nat.sub_self] at hst2
                go_wp2_with fail
                exact bodyPost_ret (v := .tuple #[.agg #[.int .i64 0, .int .u64 0, .string ⟨((bs.drop cap).take N).toArray⟩], .int .i64 ((cap : Int) + (N : Int)), .int .i64 0]) (by simp [results, Tryd.results36, go_sem]) rfl ⟨rfl, (Below.refl _ _).alloc (Nat.le_refl _) _⟩
              · simp only [if_neg hch] at hst2
                go_wp2_with fail
                exact bodyPost_ret (v := .tuple #[.agg #[.int .i64 0, .int .u64 0, .string ⟨((bs.drop h).take N).toArray⟩], .int .i64 ((h : Int) + (N : Int)), .int .i64 0]) (by simp [results, Tryd.results36, go_sem]) rfl ⟨rfl, (Below.refl _ _).alloc (Nat.le_refl _) _⟩
end Go.Proofs.YtcphfgiegpnpeaaDoor

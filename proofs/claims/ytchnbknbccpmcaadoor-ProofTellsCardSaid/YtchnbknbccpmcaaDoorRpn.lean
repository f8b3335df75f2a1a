/- The document's Nonce and Prove. -/
import Derived.Test.YtchnbknbccpmcaaDoorRpa
namespace Go.Proofs.YtchnbknbccpmcaaDoor
open Go.RowKit
open Go.Proofs.YtchnbknbccpmcaaDoor.H

/-- Small numbers as 64 bits. -/
theorem u64_small (m : Nat) (h : m ≤ 1099511627776) : IntKind.u64.wrap (m : Int) = (m : Int) := by
  rw [IntKind.wrap_u64]; omega
theorem number8 (m : Nat) (h : m ≤ 1099511627776) (w : World) : Calls Tryd.prog 42 #[.int .u64 (m : Int), .int .i64 8] w fun e w' => ∃ v, e = .returned v ∧ Hid (w'.ownsRow w.heap.size 5 1 v 8 ((F.be 8 m).map bv) ∧ Below w.heap.size w w') :=
  (F.rnumber_any m 8 w (by decide) (by omega)).mono fun e w' ⟨he, h⟩ => ⟨_, he, h⟩
theorem const_rd (w : World) (cells : Array Value) (bs : List UInt8) (fr : Nat × Nat) (hc : cells.toList = bs.map bv) : Rd (w.alloc (.cells cells 5 fr)) (w.alloc (.cells cells 5 fr)).heap.size (some ⟨w.heap.size, 0, none⟩) (bs.map bv) := rd_new w cells bs fr hc

set_option maxRecDepth 100000 in
theorem rnonce_bad (g : Nat) (K : Option Addr) (kn kc : Nat) (z : Int) (w : World) (hbad : ¬ ((1 ≤ kn ∧ kn ≤ 64) ∧ (0 ≤ z ∧ z ≤ 1099511627776))) :
    Calls Tryd.prog 16 #[.pointer (some ⟨g, 0, none⟩), .slice K kn kc, .int .i64 z] w fun e w' => e = .returned (.tuple #[.slice none 0 0, .bool false]) ∧ w' = w := by
  have hnot : ∀ (x : Bool) (w : World), (Op.unary .not (.bool x)).run Tryd.prog w = .ok (.bool (!x)) w := fun _ _ => rfl
  go_enter Tryd.func16, Tryd.ntmps16
  go_wp2_with fail
  with_reducible refine (secret_any K kn kc w).mono ?_
  rintro e w1 ⟨rfl, rfl⟩
  by_cases h1 : 1 ≤ kn ∧ kn ≤ 64
  · rw [decide_eq_true h1]
    have h2 : ¬ (0 ≤ z ∧ z ≤ 1099511627776) := fun h => hbad ⟨h1, h⟩
    clear hbad
    have HN := Lib.hid (number_any z w1)
    rw [decide_eq_false h2] at HN
    clear h2 h1
    go_wp2_with fail
    with_reducible refine HN.out.mono ?_
    rintro e w2 ⟨rfl, rfl⟩
    go_wp2_with fail
    go_ret2
    exact ⟨rfl, rfl⟩
  · rw [decide_eq_false h1]
    clear hbad h1
    go_wp2_with fail
    go_ret2
    exact ⟨rfl, rfl⟩
set_option maxRecDepth 100000 in
theorem rnonce_ok (g : Nat) (K : Option Addr) (kn kc : Nat) (key : List UInt8) (m : Nat) (w : World) (hT : Tab w w.heap.size g) (hk : KeyAt w K kn kc key) (h1 : 1 ≤ kn ∧ kn ≤ 64) (h2 : m ≤ 1099511627776) :
    Calls Tryd.prog 16 #[.pointer (some ⟨g, 0, none⟩), .slice K kn kc, .int .i64 (m : Int)] w fun e w' => ∃ A c, e = .returned (.tuple #[.slice A 16 c, .bool true]) ∧ Hid (KeyAt w' A 16 c (nonceB key m) ∧ Below w.heap.size w w') := by
  have hnot : ∀ (x : Bool) (w : World), (Op.unary .not (.bool x)).run Tryd.prog w = .ok (.bool (!x)) w := fun _ _ => rfl
  have hcv := fun (w' : World) (C : Array Value) (n c : Nat) => Lib.run_convert_bytes_const (P := Tryd.prog) w' 22 5 C n c Tryd.underlying22 Tryd.underlying5
  have hu := u64_small m h2
  have HS := Lib.hid (secret_any K kn kc w)
  rw [decide_eq_true h1] at HS
  have HN := Lib.hid (number_any (m : Int) w)
  rw [decide_eq_true (by omega : (0 : Int) ≤ (m : Int) ∧ (m : Int) ≤ 1099511627776)] at HN
  have hb1 := below_alloc' w (.cells #[.int .u8 110] 5 (1, 2))
  have HB1 := Lib.hid hb1
  have HC1 := Lib.hid (const_rd w #[.int .u8 110] [110] (1, 2) rfl)
  have HT1 := Lib.hid (tab_next hT hb1)
  have HK1 := Lib.hid (hk.below hb1)
  have HM := Lib.hid (number8 m h2 (w.alloc (.cells #[.int .u8 110] 5 (1, 2))))
  have hz1 : (w.alloc (.cells #[.int .u8 110] 5 (1, 2))).heap.size = w.heap.size + 1 := by simp
  have H12 := Lib.hid h1
  clear hT hk hb1 h1
  go_enter Tryd.func16, Tryd.ntmps16
  go_wp2_with fail
  with_reducible refine HS.out.mono ?_
  rintro e w1 ⟨rfl, rfl⟩
  go_wp2_with fail
  with_reducible refine HN.out.mono ?_
  rintro e w2 ⟨rfl, rfl⟩
  go_wp2_with fail
  clear hcv hu
  with_reducible refine HM.out.mono ?_
  rintro e w3 ⟨v3, rfl, HV⟩
  obtain ⟨A3, c3, rfl, hk3, _⟩ := own_key HV.out.1 (by decide)
  have HB3 := Lib.hid (HB1.out.trans (HV.out.2.mono HB1.out.size))
  have HC3 := Lib.hid ((HC1.out.below HV.out.2).more HV.out.2.size)
  have HK3 := Lib.hid (HK1.out.below HV.out.2)
  have HT3 := Lib.hid (tab_next HT1.out HV.out.2)
  have HA3 := Lib.hid hk3
  clear HV HB1 HC1 HK1 HT1 HM HS HN hk3 hz1
  go_wp2_with (first
    | (refine wl_append_full rfl (.tmp 19) (.tmp 22) rfl w3.heap.size ⟨w2.heap.size, 0, none⟩ [110] 1 rfl rfl HC3.out w3.heap.size A3 8 c3 (F.be 8 m) rfl HA3.out.len (by decide) HA3.out.rd (by decide) ?_
       intro v4 w4 HV4))
  obtain ⟨A4, c4, rfl, hk4, _⟩ := own_key HV4.out.1 (by decide)
  have hb4 := HV4.out.2
  have hk4' := HK3.out.below hb4
  have HY := Lib.hid (rkeyed_any g kn kc (1 + 8) c4 K A4 key ([110] ++ F.be 8 m) w4 (tab_next HT3.out hb4) hk4'.len (by have := H12.out.2; omega) hk4'.rd hk4.len (by decide) hk4.rd)
  have HB4 := Lib.hid (HB3.out.trans (hb4.mono HB3.out.size))
  clear HV4 hk4 hk4' hb4 HB3 HC3 HK3 HT3 HA3
  with_reducible refine HY.out.mono ?_
  rintro e w5 ⟨v5, rfl, HV5⟩
  obtain ⟨g5, c5, rfl, hg5, hg5', hc5, hcm5⟩ := own_some HV5.out.1 (by decide)
  have h16 : ¬ (c5 : Int) < 16 := by omega
  go_wp2_with fail
  go_ret2
  have h1 : KeyAt w5 (some ⟨g5, 0, none⟩) 16 c5 (nonceB key m) := by
    obtain ⟨A, c, e, hk, _⟩ := own_key HV5.out.1 (by decide)
    injection e with e1 e2 e3
    subst e1 e3
    exact ⟨nonceB_length key m, by omega, hcm5, by have h := hk.rd.take 16; rw [← List.map_take] at h; exact h⟩
  exact ⟨_, _, rfl, Lib.hid ⟨h1, HB4.out.trans (HV5.out.2.mono HB4.out.size)⟩⟩

set_option maxRecDepth 100000 in
theorem rprove_bad (g : Nat) (K : Option Addr) (kn kc : Nat) (M : Option Addr) (nn nc : Nat) (who : ByteArray) (w : World) (hbad : ¬ ((1 ≤ kn ∧ kn ≤ 64) ∧ (16 ≤ nn ∧ nn ≤ 16) ∧ (1 ≤ who.size ∧ who.size ≤ 16))) :
    Calls Tryd.prog 17 #[.pointer (some ⟨g, 0, none⟩), .slice K kn kc, .slice M nn nc, .string who] w fun e w' => e = .returned (.tuple #[.slice none 0 0, .bool false]) ∧ w' = w := by
  have hnot : ∀ (x : Bool) (w : World), (Op.unary .not (.bool x)).run Tryd.prog w = .ok (.bool (!x)) w := fun _ _ => rfl
  go_enter Tryd.func17, Tryd.ntmps17
  go_wp2_with fail
  with_reducible refine (secret_any K kn kc w).mono ?_
  rintro e w1 ⟨rfl, rfl⟩
  by_cases h1 : 1 ≤ kn ∧ kn ≤ 64
  · rw [decide_eq_true h1]
    by_cases h3 : nn = 16
    · have h2 : ¬ (1 ≤ who.size ∧ who.size ≤ 16) := fun h => hbad ⟨h1, by omega, h⟩
      clear hbad
      have HN := Lib.hid (name_any who w1)
      rw [decide_eq_false h2] at HN
      clear h2 h1
      subst h3
      go_wp2_with fail
      with_reducible refine HN.out.mono ?_
      rintro e w2 ⟨rfl, rfl⟩
      go_wp2_with fail
      go_ret2
      exact ⟨rfl, rfl⟩
    · have h4 : ((nn : Int) != 16) = true := by rw [bne_iff_ne]; omega
      clear hbad h1 h3
      go_wp2_with fail
      go_ret2
      exact ⟨rfl, rfl⟩
  · rw [decide_eq_false h1]
    clear hbad h1
    go_wp2_with fail
    go_ret2
    exact ⟨rfl, rfl⟩
theorem be_one (n : Nat) (h : n ≤ 16) : F.be 1 n = [UInt8.ofNat n] := by
  show F.be 0 (n / 256) ++ [UInt8.ofNat (n % 256)] = _
  rw [Nat.mod_eq_of_lt (by omega)]
  rfl
theorem u8_small (n : Nat) (h : n ≤ 16) : IntKind.u8.wrap (n : Int) = ((UInt8.ofNat n).toNat : Int) := by
  rw [UInt8.toNat_ofNat', Nat.mod_eq_of_lt (by omega), IntKind.wrap_u8]; omega

set_option maxRecDepth 100000 in
theorem rprove_ok (g : Nat) (K : Option Addr) (kn kc : Nat) (M : Option Addr) (nc : Nat) (who : ByteArray) (key nonce : List UInt8) (w : World) (hT : Tab w w.heap.size g) (hk : KeyAt w K kn kc key) (hm : KeyAt w M 16 nc nonce) (h1 : 1 ≤ kn ∧ kn ≤ 64) (h3 : 1 ≤ who.size ∧ who.size ≤ 16) :
    Calls Tryd.prog 17 #[.pointer (some ⟨g, 0, none⟩), .slice K kn kc, .slice M 16 nc, .string who] w fun e w' => ∃ A c, e = .returned (.tuple #[.slice A 32 c, .bool true]) ∧ Hid (KeyAt w' A 32 c (proveB key nonce who) ∧ Below w.heap.size w w') := by
  have hnot : ∀ (x : Bool) (w : World), (Op.unary .not (.bool x)).run Tryd.prog w = .ok (.bool (!x)) w := fun _ _ => rfl
  have hcv := fun (w' : World) (C : Array Value) (n c : Nat) => Lib.run_convert_bytes_const (P := Tryd.prog) w' 22 5 C n c Tryd.underlying22 Tryd.underlying5
  have hu := u8_small who.size h3.2
  have HS := Lib.hid (secret_any K kn kc w)
  rw [decide_eq_true h1] at HS
  have HN := Lib.hid (name_any who w)
  rw [decide_eq_true h3] at HN
  have hb1 := below_alloc' w (.cells #[.int .u8 112, .int .u8 0, .int .u8 16] 5 (3, 4))
  have HB1 := Lib.hid hb1
  have HC1 := Lib.hid (const_rd w #[.int .u8 112, .int .u8 0, .int .u8 16] [112, 0, 16] (3, 4) rfl)
  have HT1 := Lib.hid (tab_next hT hb1)
  have HK1 := Lib.hid (hk.below hb1)
  have HM1 := Lib.hid (hm.below hb1)
  have H12 := Lib.hid h1
  have H32 := Lib.hid h3
  have HK0 := Lib.hid hk
  have HT0 := Lib.hid hT
  clear hT hk hm hb1 h1 h3
  go_enter Tryd.func17, Tryd.ntmps17
  go_wp2_with fail
  with_reducible refine HS.out.mono ?_
  rintro e w1 ⟨rfl, rfl⟩
  go_wp2_with fail
  with_reducible refine HN.out.mono ?_
  rintro e w2 ⟨rfl, rfl⟩
  generalize hxx : UInt8.ofNat who.size = xl at *
  have HXL := Lib.hid hxx
  clear hxx
  clear hcv
  have hcv := Lib.run_convert_bytes_const (P := Tryd.prog) w2 22 5 #[.int .u8 112, .int .u8 0, .int .u8 16] 3 3 Tryd.underlying22 Tryd.underlying5
  go_wp2_with (first
    | (refine wl_append_full rfl (.tmp 25) (.tmp 26) rfl (w2.alloc (.cells #[.int .u8 112, .int .u8 0, .int .u8 16] 5 (3, 4))).heap.size ⟨w2.heap.size, 0, none⟩ [112, 0, 16] 3 rfl rfl HC1.out _ M 16 nc nonce rfl HM1.out.len (by decide) HM1.out.rd (by decide) ?_
       intro v4 w4 HV4
       have hb4 := HV4.out.2
       have HB4 := Lib.hid (HB1.out.trans (hb4.mono HB1.out.size))
       have HT4 := Lib.hid (tab_next HT1.out hb4)
       have HK4 := Lib.hid (HK1.out.below hb4)
       have HL5 := Lib.hid (lit_one w4 xl _ rfl)
       have hz5 : (w4.alloc (.cells #[.int .u8 (xl.toNat : Int)] 5)).heap.size = w4.heap.size + 1 := by simp
       have HZ5 := Lib.hid hz5
       have HO4 := Lib.hid (World.ownsRow.mono (HV4.out.1.alloc (.cells #[.int .u8 (xl.toNat : Int)] 5)) HB1.out.size)
       have HW5 := Lib.hid (below_alloc' w4 (.cells #[.int .u8 (xl.toNat : Int)] 5))
       clear hz5 hb4)
    | (refine H.wl_append rfl (.tmp 28) (.tmp 32) rfl w2.heap.size v4 (3 + 16) _ rfl HO4.out (w4.heap.size + 1) (some ⟨w4.heap.size, 0, none⟩) 1 1 [xl] rfl rfl HL5.out (by decide) (Nat.le_trans HB4.out.size HW5.out.size) ?_
       intro v5 w5 HV5
       have HB5 : Hid (Below w2.heap.size w2 w5) := Lib.hid ((HB4.out.trans (HW5.out.mono HB4.out.size)).trans (grown_below HV5.out.2 (Nat.le_trans HB4.out.size HW5.out.size) (fun g hg => (HO4.out.lt g hg).1)))
       have HO5 : Hid (w5.ownsRow w2.heap.size 5 1 v5 (3 + 16 + 1) (([112, 0, 16] ++ nonce ++ [xl]).map bv)) := Lib.hid (by have h := HV5.out.1; rw [List.map_append]; exact h))
    | (refine wl_append_str rfl (.tmp 33) (.tmp 34) rfl w2.heap.size v5 (3 + 16 + 1) _ rfl HO5.out (by decide) who rfl (by have := H32.out.2; omega) HB5.out.size ?_
       intro v6 w6 HV6))
  have HB6 := Lib.hid (HB5.out.trans (HV6.out.2.mono (Nat.le_refl _)))
  obtain ⟨A6, c6, rfl, hk6, _⟩ := own_key HV6.out.1 (by have := H32.out.2; omega)
  have hk6' := HK0.out.below HB6.out
  have hlen : ([112, 0, 16] ++ nonce ++ [xl] ++ who.data.toList).length = 3 + 16 + 1 + who.size := hk6.len
  have HY := Lib.hid (rkeyed_any g kn kc _ c6 K A6 key _ w6 (tab_next HT0.out HB6.out) hk6'.len (by have := H12.out.2; omega) hk6'.rd hk6.len (by have := H32.out.2; omega) hk6.rd)
  have he : keyed key ([112, 0, 16] ++ nonce ++ [xl] ++ who.data.toList) = proveB key nonce who := by
    unfold proveB
    rw [be_one _ H32.out.2, HXL.out, HM1.out.len]
    congr 1
    simp only [List.append_assoc, List.cons_append, List.nil_append]
    rfl
  rw [he] at HY
  clear he hlen HV6 HV5 HO5 HO4 HV4 hk6 hk6' HB5 HL5 HZ5 HW5 HK4 HT4 HB4 HM1 HK1 HT1 HC1 HB1 HS HN hcv hu
  with_reducible refine HY.out.mono ?_
  rintro e w7 ⟨v7, rfl, HV7⟩
  obtain ⟨A7, c7, rfl, hk7, _⟩ := own_key HV7.out.1 (by decide)
  go_wp2_with fail
  go_ret2
  exact ⟨_, _, rfl, Lib.hid ⟨hk7, HB6.out.trans (HV7.out.2.mono HB6.out.size)⟩⟩
end Go.Proofs.YtchnbknbccpmcaaDoor

/- The document's Ticket and Open. -/
import Derived.Test.YtchnbknbccpmcaaDoorRpn
namespace Go.Proofs.YtchnbknbccpmcaaDoor
open Go.RowKit
open Go.Proofs.YtchnbknbccpmcaaDoor.H

set_option maxRecDepth 100000 in
theorem rticket_bad (g : Nat) (K : Option Addr) (kn kc : Nat) (who : ByteArray) (z : Int) (w : World) (hbad : ¬ ((1 ≤ kn ∧ kn ≤ 64) ∧ (1 ≤ who.size ∧ who.size ≤ 16) ∧ (0 ≤ z ∧ z ≤ 1099511627776))) :
    Calls Tryd.prog 18 #[.pointer (some ⟨g, 0, none⟩), .slice K kn kc, .string who, .int .i64 z] w fun e w' => e = .returned (.tuple #[.slice none 0 0, .bool false]) ∧ w' = w := by
  have hnot : ∀ (x : Bool) (w : World), (Op.unary .not (.bool x)).run Tryd.prog w = .ok (.bool (!x)) w := fun _ _ => rfl
  go_enter Tryd.func18, Tryd.ntmps18
  go_wp2_with fail
  with_reducible refine (secret_any K kn kc w).mono ?_
  rintro e w1 ⟨rfl, rfl⟩
  by_cases h1 : 1 ≤ kn ∧ kn ≤ 64
  · rw [decide_eq_true h1]
    have HN := Lib.hid (name_any who w1)
    go_wp2_with fail
    with_reducible refine HN.out.mono ?_
    rintro e w2 ⟨rfl, rfl⟩
    by_cases h2 : 1 ≤ who.size ∧ who.size ≤ 16
    · rw [decide_eq_true h2]
      have h3 : ¬ (0 ≤ z ∧ z ≤ 1099511627776) := fun h => hbad ⟨h1, h2, h⟩
      have HM := Lib.hid (number_any z w2)
      rw [decide_eq_false h3] at HM
      clear h3 h2 h1 hbad HN
      go_wp2_with fail
      with_reducible refine HM.out.mono ?_
      rintro e w3 ⟨rfl, rfl⟩
      go_wp2_with fail
      go_ret2
      exact ⟨rfl, rfl⟩
    · rw [decide_eq_false h2]
      clear hbad h1 h2 HN
      go_wp2_with fail
      go_ret2
      exact ⟨rfl, rfl⟩
  · rw [decide_eq_false h1]
    clear hbad h1
    go_wp2_with fail
    go_ret2
    exact ⟨rfl, rfl⟩

set_option maxRecDepth 100000 in
theorem rticket_ok (g : Nat) (K : Option Addr) (kn kc : Nat) (who : ByteArray) (key : List UInt8) (m : Nat) (w : World) (hT : Tab w w.heap.size g) (hk : KeyAt w K kn kc key) (h1 : 1 ≤ kn ∧ kn ≤ 64) (h3 : 1 ≤ who.size ∧ who.size ≤ 16) (h2 : m ≤ 1099511627776) :
    Calls Tryd.prog 18 #[.pointer (some ⟨g, 0, none⟩), .slice K kn kc, .string who, .int .i64 (m : Int)] w fun e w' => ∃ A c, e = .returned (.tuple #[.slice A 32 c, .bool true]) ∧ Hid (KeyAt w' A 32 c (ticketB key who m) ∧ Below w.heap.size w w') := by
  have hnot : ∀ (x : Bool) (w : World), (Op.unary .not (.bool x)).run Tryd.prog w = .ok (.bool (!x)) w := fun _ _ => rfl
  have hu := u8_small who.size h3.2
  have hv := u64_small m h2
  have HS := Lib.hid (secret_any K kn kc w)
  rw [decide_eq_true h1] at HS
  have HN := Lib.hid (name_any who w)
  rw [decide_eq_true h3] at HN
  have HM := Lib.hid (number_any (m : Int) w)
  rw [decide_eq_true (by omega : (0 : Int) ≤ (m : Int) ∧ (m : Int) ≤ 1099511627776)] at HM
  have HQ := Lib.hid (number8 m h2 w)
  have HK0 := Lib.hid hk
  have HT0 := Lib.hid hT
  have H12 := Lib.hid h1
  have H32 := Lib.hid h3
  clear hT hk h1 h3
  go_enter Tryd.func18, Tryd.ntmps18
  go_wp2_with fail
  with_reducible refine HS.out.mono ?_
  rintro e w1 ⟨rfl, rfl⟩
  go_wp2_with fail
  with_reducible refine HN.out.mono ?_
  rintro e w2 ⟨rfl, rfl⟩
  go_wp2_with fail
  with_reducible refine HM.out.mono ?_
  rintro e w4 ⟨rfl, rfl⟩
  go_wp2_with fail
  clear hv
  with_reducible refine HQ.out.mono ?_
  rintro e w3 ⟨v3, rfl, HV⟩
  obtain ⟨A3, c3, rfl, hk3, _⟩ := own_key HV.out.1 (by decide)
  have HB3 := Lib.hid HV.out.2
  have HA3 := Lib.hid hk3
  clear HV hk3 HS HN HM HQ
  generalize hxx : UInt8.ofNat who.size = xl at *
  have HXL := Lib.hid hxx
  clear hxx
  have hcv := Lib.run_convert_bytes_const (P := Tryd.prog) w3 22 5 #[.int .u8 116] 1 1 Tryd.underlying22 Tryd.underlying5
  have hc4 := const_rd w3 #[.int .u8 116] [116] (1, 2) rfl
  have hb4 := below_alloc' w3 (.cells #[.int .u8 116] 5 (1, 2))
  have hz4 : (w3.alloc (.cells #[.int .u8 116] 5 (1, 2))).heap.size = w3.heap.size + 1 := by simp
  have hb5 := below_alloc' (w3.alloc (.cells #[.int .u8 116] 5 (1, 2))) (.cells #[.int .u8 (xl.toNat : Int)] 5)
  have HC5 := Lib.hid ((hc4.below hb5).more hb5.size)
  have HL5 := Lib.hid (lit_one (w3.alloc (.cells #[.int .u8 116] 5 (1, 2))) xl _ rfl)
  rw [hz4] at HL5
  have HB5 := Lib.hid (hb4.trans (hb5.mono hb4.size))
  clear hc4 hb4 hz4 hb5
  go_wp2_with (first
    | (refine wl_append_full rfl (.tmp 29) (.tmp 33) rfl _ ⟨w3.heap.size, 0, none⟩ [116] 1 rfl rfl HC5.out _ (some ⟨w3.heap.size + 1, 0, none⟩) 1 1 [xl] rfl rfl (by decide) HL5.out (by decide) ?_
       intro v6 w6 HV6
       have HB6 := Lib.hid (HB5.out.trans (HV6.out.2.mono HB5.out.size))
       have HO6 := Lib.hid (World.ownsRow.mono HV6.out.1 HB5.out.size))
    | (refine wl_append_str rfl (.tmp 34) (.tmp 35) rfl w3.heap.size v6 (1 + 1) _ rfl HO6.out (by decide) who rfl (by have := H32.out.2; omega) HB6.out.size ?_
       intro v7 w7 HV7
       have HB7 : Hid (Below w3.heap.size w3 w7) := Lib.hid (HB6.out.trans HV7.out.2)
       have HZ7 : Hid (w3.heap.size ≤ w7.heap.size) := Lib.hid HB7.out.size
       have HB8 : Hid (Below w3.heap.size w3 (w7.alloc (.cells #[] 5))) := Lib.hid (HB7.out.trans ((below_alloc' w7 (.cells #[] 5)).mono HB7.out.size))
       have HO8 : Hid ((w7.alloc (.cells #[] 5)).ownsRow w3.heap.size 5 1 v7 (1 + 1 + who.size) (([116] ++ [xl] ++ who.data.toList).map bv)) := Lib.hid (HV7.out.1.alloc _)
       have HA8 := Lib.hid (HA3.out.below HB8.out))
    | (refine H.wl_append rfl (.tmp 37) (.tmp 38) rfl w7.heap.size (.slice (some ⟨w7.heap.size, 0, none⟩) 0 0) 0 [] rfl (own_empty w7 w7.heap.size (Nat.le_refl _)) _ A3 8 c3 (F.be 8 m) rfl HA8.out.len HA8.out.rd (by decide) (by simp) ?_
       intro v9 w9 HV9
       have HG9 : Hid (Below w7.heap.size (w7.alloc (.cells #[] 5)) w9) := Lib.hid (grown_below HV9.out.2 (by simp) (fun g hg => by have h1 : w7.heap.size = g := (by simpa [Value.ownBlock] using hg); omega))
       have HO9 : Hid (w9.ownsRow w3.heap.size 5 1 v7 (1 + 1 + who.size) (([116] ++ [xl] ++ who.data.toList).map bv)) := Lib.hid (own_below HV7.out.1 ((below_alloc' w7 (.cells #[] 5)).trans HG9.out))
       have HB9 : Hid (Below w3.heap.size w3 w9) := Lib.hid (HB8.out.trans (HG9.out.mono HB7.out.size))
       have HA9 := Lib.hid (HA3.out.below HB9.out)
       have HN9 : Hid (w9.ownsRow w7.heap.size 5 1 v9 8 ((F.be 8 m).map bv)) := Lib.hid (by have h := HV9.out.1; rwa [Nat.zero_add, List.nil_append] at h)
       have HL7 := Lib.hid (fun g (hg : v7.ownBlock = some g) => (HV7.out.1.lt g hg).2))
    | (refine H.wl_append rfl (.tmp 42) (.tmp 43) rfl w3.heap.size v7 (1 + 1 + who.size) _ rfl HO9.out _ A3 8 c3 (F.be 8 m) rfl HA9.out.len HA9.out.rd (by have := H32.out.2; omega) HB9.out.size ?_
       intro v10 w10 HV10
       have HB10 : Hid (Below w3.heap.size w3 w10) := Lib.hid (HB9.out.trans (grown_below HV10.out.2 HB9.out.size (fun g hg => (HO9.out.lt g hg).1)))
       have HN10 : Hid (w10.ownsRow w7.heap.size 5 1 v9 8 ((F.be 8 m).map bv)) := Lib.hid (HN9.out.kept HV10.out.2 (by
         rcases hq : v9.ownBlock with _ | g9
         · exact .inl rfl
         · refine .inr fun e => ?_
           have h1 := (HN9.out.lt g9 hq).1
           have h2 := HL7.out g9 e.symm
           omega))
       have HZ10 : Hid (w7.heap.size ≤ w10.heap.size) := Lib.hid (Nat.le_trans (Nat.le_trans (by simp) HV9.out.2.size) HV10.out.2.size)))
  have hbb := HB3.out.trans (HB10.out.mono HB3.out.size)
  obtain ⟨A10, c10, rfl, hk10, _⟩ := own_key (bs := [116] ++ [xl] ++ who.data.toList ++ F.be 8 m) (by rw [List.map_append]; exact HV10.out.1) (by have := H32.out.2; omega)
  have hk' := HK0.out.below hbb
  have HY := Lib.hid (rkeyed_any g kn kc _ c10 K A10 key _ w10 (tab_next HT0.out hbb) hk'.len (by have := H12.out.2; omega) hk'.rd hk10.len (by have := H32.out.2; omega) hk10.rd)
  have he : keyed key ([116] ++ [xl] ++ who.data.toList ++ F.be 8 m) = keyed key (116 :: (F.be 1 who.size ++ who.data.toList ++ F.be 8 m)) := by
    rw [be_one _ H32.out.2, HXL.out]
    rfl
  rw [he] at HY
  have HBB := Lib.hid hbb
  have HB3' := HB3
  clear he hk' hk10 hbb HV10 HV9 HV7 HV6 HO9 HO8 HO6 HA8 HA9 HN9 HL7 HG9 HB9 HB8 HB7 HB6 HB5 HL5 HC5 HA3 HB3 hcv hu
  with_reducible refine HY.out.mono ?_
  rintro e w11 ⟨v11, rfl, HV11⟩
  obtain ⟨g11, c11, rfl, hg11, hg11', hc11, hcm11⟩ := own_some HV11.out.1 (by decide)
  have h24 : ¬ (c11 : Int) < 24 := by omega
  have HR11 : Hid (Rd w11 w11.heap.size (some ⟨g11, 0, none⟩) ((sealB key who m).map bv)) := Lib.hid (by
    obtain ⟨A, c, e, hk, _⟩ := own_key HV11.out.1 (by decide)
    injection e with e1 e2 e3
    subst e1 e3
    have h := hk.rd.take 24
    rw [← List.map_take] at h
    exact h)
  have HB11 := Lib.hid (HBB.out.trans (HV11.out.2.mono HBB.out.size))
  have HN11 := Lib.hid (own_below HN10.out HV11.out.2)
  have hsl := sealB_length key who m
  have hws : w7.heap.size ≤ w11.heap.size := Nat.le_trans HZ10.out HV11.out.2.size
  go_wp2_with (first
    | (refine H.wl_append rfl (.tmp 39) (.tmp 46) rfl w7.heap.size v9 8 _ rfl HN11.out _ (some ⟨g11, 0, none⟩) 24 c11 (sealB key who m) rfl hsl HR11.out (by decide) hws ?_
       intro v12 w12 HV12))
  go_ret2
  obtain ⟨A12, c12, rfl, hk12, _⟩ := own_key (bs := ticketB key who m) (n := 32) (by have h := HV12.out.1; unfold ticketB; rw [List.map_append]; exact h) (by decide)
  exact ⟨_, _, rfl, Lib.hid ⟨hk12, HB11.out.trans (grown_below HV12.out.2 HB11.out.size (fun g hg => Nat.le_trans (Nat.le_trans (Nat.le_trans HB3'.out.size HZ7.out) (HN11.out.lt g hg).1) (Nat.le_refl _)))⟩⟩
end Go.Proofs.YtchnbknbccpmcaaDoor

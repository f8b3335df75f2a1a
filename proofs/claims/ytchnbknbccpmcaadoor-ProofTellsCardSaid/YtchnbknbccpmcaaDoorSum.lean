/- What package proof's encoded and sum answer: fields' bytes; the first bytes of the keyed sum of a mark and fields. -/
import Derived.Test.YtchnbknbccpmcaaDoorAns
import Derived.Test.YtchnbknbccpmcaaDoorGH
import Derived.Lib.SliceRun
import Derived.Deep.Onto
namespace Go.Proofs.YtchnbknbccpmcaaDoor
open Go.RowKit
open Go.Proofs.YtchnbknbccpmcaaDoor.H

/-- What the variables hold, wherever a call begins. -/
structure Env (w : World) (E : Nat → Value) (er ep : Value) : Prop where
  tab : Ktab w
  errs : F.Errs w E
  er : Er w er ep
theorem grown_below {w w' : World} {r : Option Nat} (h : w.grownBy w' r) {B : Nat} (hB : B ≤ w.heap.size) (hr : ∀ g, r = some g → B ≤ g) : Below B w w' :=
  ⟨h.os, h.tape, h.output, h.size, fun k hk => h.block k (by omega) (fun e => by have := hr k e.symm; omega)⟩
theorem F.Errs.z {w : World} {E : Nat → Value} (h : F.Errs w E) : F.Errz w E := ⟨fun i _ hi => h.cell i hi, fun i _ hi => h.some_ i hi⟩
theorem Env.below {w w' : World} {E : Nat → Value} {er ep : Value} (h : Env w E er ep) {B : Nat} (hB : 18 < B) (hb : Below B w w') : Env w' E er ep :=
  ⟨h.tab.below hB hb, F.Errs.below h.errs hB hb, h.er.below (by omega) hb⟩

set_option maxRecDepth 100000 in
theorem clone_any (ad : Addr) (n c : Nat) (bs : List UInt8) (w : World) (hn : bs.length = n) (hb : n ≤ 100000000000000) (hr : H.Rd w w.heap.size (some ad) (bs.map bv)) :
    Calls Tryd.prog 51 #[.slice (some ad) n c] w fun e w' => ∃ v, e = .returned v ∧ Hid (w'.ownsRow w.heap.size 5 1 v n (bs.map bv) ∧ Below w.heap.size w w') := by
  have qT : ∀ (w : World) (a : Option Addr) (n c n' c' : Nat), (binOp .eql 22 (.slice a n c) (.slice none n' c')).run Tryd.prog w = .ok (.bool a.isNone) w := fun w a n c n' c' => Lib.run_eql_slice_nil w _ _ a n c n' c' Tryd.underlying22
  have HN := Lib.hid hn
  have HR := Lib.hid hr
  clear hn hr
  have HB1 := Lib.hid (H.below_alloc w (.cells #[] 5))
  go_enter Tryd.func51, Tryd.ntmps51
  go_wp2_with (first
    | (refine H.wl_append rfl (.tmp 5) (.tmp 6) rfl w.heap.size (.slice (some ⟨w.heap.size, 0, none⟩) 0 0) 0 [] rfl (own_empty w w.heap.size (Nat.le_refl _)) w.heap.size (some ad) n c bs rfl HN.out (HR.out.below HB1.out) (by omega) (by simp) ?_
       intro v2 w2 HV2))
  go_ret
  refine ⟨_, rfl, Lib.hid ⟨by have h := HV2.out.1; rwa [Nat.zero_add, List.nil_append] at h, ?_⟩⟩
  exact HB1.out.trans (grown_below HV2.out.2 (by simp) (by intro k hk; have h1 : w.heap.size = k := (by simpa [Value.ownBlock] using hk); omega))

set_option maxRecDepth 100000 in
theorem encoded_any (E : Nat → Value) (er ep : Value) (s : ByteArray) (cap : Nat) (A : Option Addr) (cs : List F.FC) (w : World) (hE : Env w E er ep) (hs : s.size ≤ 1000) (hn : cs.length = s.size)
    (hcs : F.Cs w w.heap.size A cs) (hok : ∀ x ∈ cs, x.ok) (total : Nat) (hk : F.kn s.data.toList = true) (h : F.sumS s.data.toList cs = .ok total) (ht : total ≤ 100000000000000) :
    Calls Tryd.prog 32 #[.string s, .slice A s.size cap] w fun e w' => ∃ v, e = .returned v ∧ Hid (w'.ownsRow w.heap.size 5 1 v (F.encB s.data.toList cs).length ((F.encB s.data.toList cs).map F.bv) ∧ Below w.heap.size w w') := by
  have H := Lib.hid (F.encode_ok E s cap A cs w hE.errs.z hE.tab.1 (by simp only [maxLen]; omega) hn hcs hok (by omega) total hk h ht)
  clear hE hs hn hcs hok hk h ht
  have hq : ∀ (w : World), (binOp BinOp.neq 30 .nilIface .nilIface).run Tryd.prog w = .ok (.bool false) w := fun _ => by kernel_rfl
  go_enter Tryd.func32, Tryd.ntmps32
  go_wp2_with fail
  with_reducible refine H.out.mono ?_
  rintro e w2 ⟨v, rfl, HV⟩
  clear H
  go_wp2_with fail
  go_ret
  exact ⟨_, rfl, HV⟩

theorem F.bv_eq : F.bv = H.bv := rfl
theorem lit_one (w : World) (x : UInt8) (z : Int) (hz : z = (x.toNat : Int)) : H.Rd (w.alloc (.cells #[.int .u8 z] 5)) (w.heap.size + 1) (some ⟨w.heap.size, 0, none⟩) ([x].map bv) := by
  have h := (H.Row.new w [Value.int .u8 z] 5).rd (w.heap.size + 1) (Nat.lt_succ_self _)
  subst hz
  exact h
theorem two_parts {w : World} {A B : Option Addr} {c d : Nat} {xs ys : List UInt8} {n m : Nat} (hn : xs.length = n) (hm : ys.length = m) (hc : n ≤ c) (hcm : c ≤ 9223372036854775807) (hd : m ≤ d) (hdm : d ≤ 9223372036854775807)
    (hx : H.Rd w w.heap.size A (xs.map bv)) (hy : H.Rd w w.heap.size B (ys.map bv)) :
    Parts (w.alloc (.cells #[.slice A n c, .slice B m d] 22)) (w.heap.size + 1) (some ⟨w.heap.size, 0, none⟩) [⟨A, c, xs⟩, ⟨B, d, ys⟩] := by
  subst hn hm
  have hb := below_alloc' w (.cells #[.slice A xs.length c, .slice B ys.length d] 22)
  refine ⟨(H.Row.new w [Value.slice A xs.length c, Value.slice B ys.length d] 22).rd (w.heap.size + 1) (Nat.lt_succ_self _), ?_⟩
  intro p hp
  simp only [List.mem_cons, List.not_mem_nil, or_false] at hp
  rcases hp with rfl | rfl
  · exact ⟨hc, hcm, (hx.below hb).more (Nat.le_succ _)⟩
  · exact ⟨hd, hdm, (hy.below hb).more (Nat.le_succ _)⟩
theorem info32 : (Tryd.prog.info? 85).map (·.size) = some 32 := info_size info27

set_option maxRecDepth 100000 in
/-- The first bytes of a keyed sum. -/
theorem sum_any (E : Nat → Value) (er ep : Value) (size : Nat) (z : Int) (hz : z = (size : Int)) (K : Option Addr) (kn kc : Nat) (key : List UInt8) (mark : UInt8) (zm : Int) (hzm : zm = (mark.toNat : Int)) (s : ByteArray) (cap : Nat) (A : Option Addr) (cs : List F.FC) (w : World) (hE : Env w E er ep)
    (hsz : size ≤ 32) (hkn : key.length = kn) (hkc : kn ≤ kc) (hkm : kc ≤ 9223372036854775807) (hkT : kn < 1152921504606846976) (hkr : H.Rd w w.heap.size K (key.map bv))
    (hs : s.size ≤ 1000) (hn : cs.length = s.size) (hcs : F.Cs w w.heap.size A cs) (hok : ∀ x ∈ cs, x.ok) (total : Nat) (hk : F.kn s.data.toList = true) (h : F.sumS s.data.toList cs = .ok total) (ht : total ≤ 100000000000000) (hl : (F.encB s.data.toList cs).length = total) :
    Calls Tryd.prog 27 #[.int .i64 z, .slice K kn kc, .int .u8 zm, .string s, .slice A s.size cap] w fun e w' => ∃ v, e = .returned v ∧ Hid (w'.ownsRow w.heap.size 5 1 v size (((keyed key (mark :: F.encB s.data.toList cs)).take size).map bv) ∧ Below w.heap.size w w') := by
  subst hz hzm
  have h0 := hE.tab.1
  obtain ⟨bs, HBS⟩ : ∃ bs, Shut (bs = F.encB s.data.toList cs) := ⟨_, ⟨rfl⟩⟩
  rw [← HBS.out] at hl ⊢
  have HE := Lib.hid hE
  have HKR := Lib.hid hkr
  have HKN := Lib.hid hkn
  have HL := Lib.hid hl
  have HB1 := Lib.hid (below_alloc' w (.cells #[.int .u8 (mark.toNat : Int)] 5))
  have HM1 := Lib.hid (lit_one w mark _ rfl)
  have hs1 : (w.alloc (.cells #[.int .u8 (mark.toNat : Int)] 5)).heap.size = w.heap.size + 1 := by simp
  have HC1 : Hid (F.Cs (w.alloc (.cells #[.int .u8 (mark.toNat : Int)] 5)) (w.alloc (.cells #[.int .u8 (mark.toNat : Int)] 5)).heap.size A cs) := Lib.hid (by
    rcases hcs with rfl | ⟨b, o, hA, hb, hc⟩
    · exact .inl rfl
    · refine .inr ⟨b, o, hA, by omega, fun k x hx => ?_⟩
      obtain ⟨c1, c2, c3⟩ := hc k x hx
      exact ⟨(HB1.out.cell (p := ⟨b, _, none⟩) hb).trans c1, (HB1.out.cell (p := ⟨b, _, none⟩) hb).trans c2, (HB1.out.cell (p := ⟨b, _, none⟩) hb).trans c3⟩)
  have HEN := Lib.hid (encoded_any E er ep s cap A cs _ (HE.out.below h0 HB1.out) hs hn HC1.out hok total hk h ht)
  rw [← HBS.out] at HEN
  clear hE hkr hkn hl hs hn hcs hok hk h HC1
  generalize hw1 : w.alloc (.cells #[.int .u8 (mark.toNat : Int)] 5) = w1 at *
  have HS1 := Lib.hid hs1
  have HW1 := Lib.hid hw1
  clear hs1 hw1
  go_enter Tryd.func27, Tryd.ntmps27
  go_wp2_with fail
  rw [HW1.out]
  with_reducible refine HEN.out.mono ?_
  rintro e w2 ⟨v, rfl, HV⟩
  obtain ⟨B, d, rfl, hbl, hdl, hdm, hbr, _⟩ := own_sliceN HV.out.1
  have HB2 := Lib.hid (HB1.out.trans (HV.out.2.mono (by rw [HS1.out]; omega)))
  have hs2 : w.heap.size + 1 ≤ w2.heap.size := by have := HV.out.2.size; rw [HS1.out] at this; exact this
  have HM2 := Lib.hid ((HM1.out.below (HV.out.2.mono (by rw [HS1.out]; exact Nat.le_refl _))).more hs2)
  have hbl2 : bs.length ≤ 100000000000000 := by rw [HL.out]; exact ht
  have hlm : ([mark] : List UInt8).length = 1 := rfl
  have HPS := Lib.hid (two_parts (w := w2) (c := 1) (d := d) hlm rfl (Nat.le_refl 1) (by decide) hdl hdm HM2.out hbr)
  have HB3 := Lib.hid (HB2.out.trans ((below_alloc' w2 (.cells #[.slice (some ⟨w.heap.size, 0, none⟩) 1 1, .slice B bs.length d] 22)).mono (by omega)))
  have hfl : (flat [⟨some ⟨w.heap.size, 0, none⟩, 1, [mark]⟩, ⟨B, d, bs⟩]).length < 1152921504606846000 := by simp [flat]; omega
  have HKY := Lib.hid (keyed_any kn kc 2 2 K (some ⟨w2.heap.size, 0, none⟩) key _ _ (HE.out.tab.below h0 HB3.out) HKN.out hkc hkm hkT ((HKR.out.below HB3.out).more HB3.out.size) rfl (by decide) hfl (by have h := HPS.out; rw [World.size_alloc]; exact h))
  have HS3 : Hid ((w2.alloc (.cells #[.slice (some ⟨w.heap.size, 0, none⟩) 1 1, .slice B bs.length d] 22)).heap.size = w2.heap.size + 1) := Lib.hid (by simp)
  clear hbr HM2 HPS hfl hbl hlm HV HEN
  go_wp2_with fail
  with_reducible refine HKY.out.mono ?_
  rintro e w4 ⟨vd, rfl, HV4⟩
  obtain ⟨D, HD, HLD⟩ := dig_facts ((padK key).map (· ^^^ 0x5c) ++ digest ((padK key).map (· ^^^ 0x36) ++ (mark :: bs)))
  have HVD : Hid (vd = .agg D.toArray) := Lib.hid (by
    rw [HD.out, HV4.out.1]
    simp only [flat, List.flatMap_cons, List.flatMap_nil, List.append_nil, List.singleton_append]
    rfl)
  have HB4 := Lib.hid (HB3.out.trans (HV4.out.2.mono HB3.out.size))
  have hs4 : w.heap.size < w4.heap.size := by have := HV4.out.2.size; have := HS3.out; omega
  have hsl := fun w' : World => run_head w' 85 32 under27 w4.heap.size 0 (size : Int) size rfl hsz (by decide)
  clear HV4 HKY HB3 HS3 hdl hdm
  go_wp2_with (first
    | (refine H.wl_alloc rfl 85 rfl _ _ info27 ?_
       intro w5 HA5 HB5 HZ5)
    | (refine wl_store rfl 85 (.tmp 11) (.tmp 19) rfl w4.heap.size _ D rfl HVD.out rfl 85 _ HA5.out HLD.out.1 HLD.out.2.1 HLD.out.2.2.2 ?_
       intro w6 HR6 HS6 HZ6))
  have hz5 : w4.heap.size < w5.heap.size := by rw [HZ5.out]; omega
  have hz6 : w5.heap.size ≤ w6.heap.size := by rw [HZ6.out]; exact Nat.le_refl _
  have HB6 := Lib.hid ((HB4.out.trans (HB5.out.mono HB4.out.size)).trans (HS6.out.below (by omega) (by omega)))
  have HRD : Hid (H.Rd w6 w6.heap.size (some ⟨w4.heap.size, 0, none⟩) (((keyed key (mark :: bs)).take size).map bv)) := Lib.hid (by
    have h1 := (HR6.out.rd w6.heap.size (by omega)).take size
    rw [HD.out, ← List.map_take] at h1
    exact h1)
  have hlk : ((keyed key (mark :: bs)).take size).length = size := by
    rw [List.length_take]
    show min size (digest _).length = size
    rw [digest_length]; omega
  have HCL := Lib.hid (clone_any ⟨w4.heap.size, 0, none⟩ size 32 _ w6 hlk (by omega) HRD.out)
  clear HA5 HB5 HZ5 HR6 HS6 HZ6 HB4 HRD hsl hlk HVD HD HLD
  with_reducible refine HCL.out.mono ?_
  rintro e w7 ⟨v7, rfl, HV7⟩
  go_wp2_with fail
  go_ret
  exact ⟨_, rfl, Lib.hid ⟨World.ownsRow.mono HV7.out.1 HB6.out.size, HB6.out.trans (HV7.out.2.mono HB6.out.size)⟩⟩
end Go.Proofs.YtchnbknbccpmcaaDoor

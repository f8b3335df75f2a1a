/- What jackfieldlaw02.alive answers: true. -/
import Derived.Test.YthfpkefieemiaaaDoorHex
import Derived.Lib.SlBytesConst
namespace Go.Proofs.YthfpkefieemiaaaDoor
open Go.RowKit

def jefe : List UInt8 := [74, 101, 102, 101]
def what : List UInt8 := [119, 104, 97, 116, 32, 100, 111, 32, 121, 97, 32, 119, 97, 110, 116, 32, 102, 111, 114, 32, 110, 111, 116, 104, 105, 110, 103, 63]
def abcHex : ByteArray := ⟨#[98, 97, 55, 56, 49, 54, 98, 102, 56, 102, 48, 49, 99, 102, 101, 97, 52, 49, 52, 49, 52, 48, 100, 101, 53, 100, 97, 101, 50, 50, 50, 51, 98, 48, 48, 51, 54, 49, 97, 51, 57, 54, 49, 55, 55, 97, 57, 99, 98, 52, 49, 48, 102, 102, 54, 49, 102, 50, 48, 48, 49, 53, 97, 100]⟩
def jefeHex : ByteArray := ⟨#[53, 98, 100, 99, 99, 49, 52, 54, 98, 102, 54, 48, 55, 53, 52, 101, 54, 97, 48, 52, 50, 52, 50, 54, 48, 56, 57, 53, 55, 53, 99, 55, 53, 97, 48, 48, 51, 102, 48, 56, 57, 100, 50, 55, 51, 57, 56, 51, 57, 100, 101, 99, 53, 56, 98, 57, 54, 52, 101, 99, 51, 56, 52, 51]⟩
set_option maxRecDepth 100000 in
theorem abc_hex : hexS (digest [97, 98, 99]) = abcHex.data.toList := by decide +kernel
set_option maxRecDepth 100000 in
theorem jefe_hex : hexS (keyed jefe what) = jefeHex.data.toList := by decide +kernel

theorem parts_new (w : World) (ps : List Part) (cells : Array Value) (hc : cells.toList = ps.map Part.v) (hok : ∀ p ∈ ps, p.ok w w.heap.size) :
    Parts (w.alloc (.cells cells 25)) (w.alloc (.cells cells 25)).heap.size (some ⟨w.heap.size, 0, none⟩) ps := by
  have hb : Below w.heap.size w (w.alloc (.cells cells 25)) := (Below.refl _ _).alloc (Nat.le_refl _) _
  refine ⟨.inr ⟨_, rfl, by simp, ?_⟩, fun p hp => ⟨(hok p hp).1, (hok p hp).2.1, ((hok p hp).2.2.below hb).more hb.size⟩⟩
  rw [← hc]
  exact cells_new w cells 25
theorem rd_new (w : World) (cells : Array Value) (bs : List UInt8) (fr : Nat × Nat) (hc : cells.toList = bs.map bv) : Rd (w.alloc (.cells cells 5 fr)) (w.alloc (.cells cells 5 fr)).heap.size (some ⟨w.heap.size, 0, none⟩) (bs.map bv) := by
  refine .inr ⟨_, rfl, by simp, ?_⟩
  intro j u hj
  have e : (w.alloc (.cells cells 5 fr)).cell? ⟨w.heap.size, j, none⟩ = _ := World.cell?_alloc_mark w _ 5 fr j
  rw [Addr.add_mid, Nat.zero_add, e, ← Array.getElem?_toList, hc]
  exact hj
theorem below_alloc (w : World) (o : Obj) : Below w.heap.size w (w.alloc o) := (Below.refl _ _).alloc (Nat.le_refl _) _

theorem digest_abc (w : World) (hK : Ktab w) :
    Calls Tryd.prog 13 #[.slice (some ⟨w.heap.size + 1 + 1, 0, none⟩) 2 2]
      (((w.alloc (.cells #[.int .u8 97] 5 (1, 2))).alloc (.cells #[.int .u8 98, .int .u8 99] 5 (2, 3))).alloc (.cells #[.slice (some ⟨w.heap.size, 0, none⟩) 1 1, .slice (some ⟨w.heap.size + 1, 0, none⟩) 2 2] 25))
      fun e w' => ∃ v, e = .returned v ∧ Hid (v = .agg ((digest [97, 98, 99]).map bv).toArray ∧ Below w.heap.size w w') := by
  have b1 := below_alloc w (.cells #[.int .u8 97] 5 (1, 2))
  have r1 := rd_new w #[.int .u8 97] [97] (1, 2) rfl
  have b2 := below_alloc (w.alloc (.cells #[.int .u8 97] 5 (1, 2))) (.cells #[.int .u8 98, .int .u8 99] 5 (2, 3))
  have r2 := rd_new (w.alloc (.cells #[.int .u8 97] 5 (1, 2))) #[.int .u8 98, .int .u8 99] [98, 99] (2, 3) rfl
  have b3 := below_alloc ((w.alloc (.cells #[.int .u8 97] 5 (1, 2))).alloc (.cells #[.int .u8 98, .int .u8 99] 5 (2, 3))) (.cells #[.slice (some ⟨w.heap.size, 0, none⟩) 1 1, .slice (some ⟨w.heap.size + 1, 0, none⟩) 2 2] 25)
  have hp := parts_new ((w.alloc (.cells #[.int .u8 97] 5 (1, 2))).alloc (.cells #[.int .u8 98, .int .u8 99] 5 (2, 3))) [⟨some ⟨w.heap.size, 0, none⟩, 1, [97]⟩, ⟨some ⟨w.heap.size + 1, 0, none⟩, 2, [98, 99]⟩]
    #[.slice (some ⟨w.heap.size, 0, none⟩) 1 1, .slice (some ⟨w.heap.size + 1, 0, none⟩) 2 2] rfl (by
      intro p hp
      simp only [List.mem_cons, List.not_mem_nil, or_false] at hp
      rcases hp with rfl | rfl
      · exact ⟨by show 1 ≤ 1; decide, by show 1 ≤ _; decide, (r1.below b2).more b2.size⟩
      · exact ⟨by show 2 ≤ 2; decide, by show 2 ≤ _; decide, by simpa using r2⟩)
  have hs2 : w.heap.size ≤ ((w.alloc (.cells #[.int .u8 97] 5 (1, 2))).alloc (.cells #[.int .u8 98, .int .u8 99] 5 (2, 3))).heap.size := by simp; omega
  have hbb := (b1.trans (b2.mono (by simp))).trans (b3.mono hs2)
  have e2 : ((w.alloc (.cells #[.int .u8 97] 5 (1, 2))).alloc (.cells #[.int .u8 98, .int .u8 99] 5 (2, 3))).heap.size = w.heap.size + 1 + 1 := by simp
  have h := digest_any 2 2 _ _ _ (hK.below hK.1 hbb) rfl (by decide) (by show 3 < _; decide) hp
  rw [e2] at h
  exact h.mono fun e w' ⟨v, he, hv⟩ => ⟨v, he, Lib.hid ⟨hv.out.1, hbb.trans (hv.out.2.mono (by simp; omega))⟩⟩

theorem keyed_jefe (w : World) (hK : Ktab w) (c3 : Array Value) (hc3 : c3.toList = what.map bv) :
    Calls Tryd.prog 19 #[.slice (some ⟨w.heap.size, 0, none⟩) 4 4, .slice (some ⟨w.heap.size + 1 + 1, 0, none⟩) 1 1]
      (((w.alloc (.cells #[.int .u8 74, .int .u8 101, .int .u8 102, .int .u8 101] 5 (4, 5))).alloc (.cells c3 5 (28, 29))).alloc (.cells #[.slice (some ⟨w.heap.size + 1, 0, none⟩) 28 28] 25))
      fun e w' => ∃ v, e = .returned v ∧ Hid (v = .agg ((keyed jefe what).map bv).toArray ∧ Below w.heap.size w w') := by
  have b1 := below_alloc w (.cells #[.int .u8 74, .int .u8 101, .int .u8 102, .int .u8 101] 5 (4, 5))
  have r1 := rd_new w #[.int .u8 74, .int .u8 101, .int .u8 102, .int .u8 101] jefe (4, 5) rfl
  generalize hw1 : w.alloc (.cells #[.int .u8 74, .int .u8 101, .int .u8 102, .int .u8 101] 5 (4, 5)) = w1 at *
  have e1 : w1.heap.size = w.heap.size + 1 := by rw [← hw1]; simp
  have b2 := below_alloc w1 (.cells c3 5 (28, 29))
  have r2 := rd_new w1 c3 what (28, 29) hc3
  generalize hw2 : w1.alloc (.cells c3 5 (28, 29)) = w2 at *
  have e2 : w2.heap.size = w.heap.size + 1 + 1 := by rw [← hw2]; simp [e1]
  have b3 := below_alloc w2 (.cells #[.slice (some ⟨w.heap.size + 1, 0, none⟩) 28 28] 25)
  have hp := parts_new w2 [⟨some ⟨w.heap.size + 1, 0, none⟩, 28, what⟩] #[.slice (some ⟨w.heap.size + 1, 0, none⟩) 28 28] rfl (by
      intro p hp
      simp only [List.mem_cons, List.not_mem_nil, or_false] at hp
      subst hp
      exact ⟨by show 28 ≤ 28; decide, by show 28 ≤ _; decide, by rw [← e1]; exact r2⟩)
  have hb2 := b1.trans (b2.mono (by omega))
  have hbb := hb2.trans (b3.mono (by omega))
  have hr : Rd (w2.alloc (.cells #[.slice (some ⟨w.heap.size + 1, 0, none⟩) 28 28] 25)) (w2.alloc (.cells #[.slice (some ⟨w.heap.size + 1, 0, none⟩) 28 28] 25)).heap.size (some ⟨w.heap.size, 0, none⟩) (jefe.map bv) :=
    (((r1.below b2).more b2.size).below b3).more b3.size
  have h := keyed_any 4 4 1 1 _ _ jefe _ _ (hK.below hK.1 hbb) rfl (by decide) (by decide) (by decide) hr rfl (by decide) (by show 28 < _; decide) hp
  rw [e2] at h
  have ef : flat [⟨some ⟨w.heap.size + 1, 0, none⟩, 28, what⟩] = what := flat_one _ _ _
  rw [ef] at h
  exact h.mono fun e w' ⟨v, he, hv⟩ => ⟨v, he, Lib.hid ⟨hv.out.1, hbb.trans (hv.out.2.mono (by simp; omega))⟩⟩

theorem hex_lit (n c : Nat) (A : Option Addr) (bs : List UInt8) (s : ByteArray) (w : World) (hs : hexS bs = s.data.toList) (hn : bs.length = n) (hbig : n ≤ 70368744177664) (hr : Rd w w.heap.size A (bs.map bv)) :
    Calls Tryd.prog 22 #[.slice A n c] w fun e w' => e = .returned (.string s) ∧ Hid (Below w.heap.size w w') := by
  have h := hex_any n c A bs w hn hbig hr
  have e : (⟨(hexS bs).toArray⟩ : ByteArray) = s := by rw [hs]
  rwa [e] at h

theorem conv_second (w : World) (o : Obj) (C : Array Value) (n c : Nat) :
    (convert 25 25 (.slice (some ⟨w.heap.size + 1, 0, none⟩) n c)).run Tryd.prog ((w.alloc o).alloc (.cells C 5)) = .ok (.slice (some ⟨w.heap.size + 1, 0, none⟩) n c) ((w.alloc o).alloc (.cells C 5 (C.size, C.size + 1))) := by
  have h := Lib.run_convert_bytes_const (P := Tryd.prog) (w.alloc o) 25 5 C n c Tryd.underlying25 Tryd.underlying5
  have e : (w.alloc o).heap.size = w.heap.size + 1 := by simp
  rwa [e] at h

theorem hex_abc (A : Option Addr) (w : World) (hr : Rd w w.heap.size A ((digest [97, 98, 99]).map bv)) :
    Calls Tryd.prog 22 #[.slice A 32 32] w fun e w' => e = .returned (.string ⟨#[98, 97, 55, 56, 49, 54, 98, 102, 56, 102, 48, 49, 99, 102, 101, 97, 52, 49, 52, 49, 52, 48, 100, 101, 53, 100, 97, 101, 50, 50, 50, 51, 98, 48, 48, 51, 54, 49, 97, 51, 57, 54, 49, 55, 55, 97, 57, 99, 98, 52, 49, 48, 102, 102, 54, 49, 102, 50, 48, 48, 49, 53, 97, 100]⟩) ∧ Hid (Below w.heap.size w w') :=
  hex_lit 32 32 A _ abcHex w abc_hex (digest_length _) (by decide) hr
theorem hex_jefe (A : Option Addr) (w : World) (hr : Rd w w.heap.size A ((keyed jefe what).map bv)) :
    Calls Tryd.prog 22 #[.slice A 32 32] w fun e w' => e = .returned (.string ⟨#[53, 98, 100, 99, 99, 49, 52, 54, 98, 102, 54, 48, 55, 53, 52, 101, 54, 97, 48, 52, 50, 52, 50, 54, 48, 56, 57, 53, 55, 53, 99, 55, 53, 97, 48, 48, 51, 102, 48, 56, 57, 100, 50, 55, 51, 57, 56, 51, 57, 100, 101, 99, 53, 56, 98, 57, 54, 52, 101, 99, 51, 56, 52, 51]⟩) ∧ Hid (Below w.heap.size w w') :=
  hex_lit 32 32 A _ jefeHex w jefe_hex (digest_length _) (by decide) hr
theorem keyed_facts (k S : List UInt8) : ∃ D, Shut (D = (keyed k S).map bv) ∧ Shut ((Tryd.prog.info? 27).map (·.size) = some D.length ∧ (List.replicate 32 (Value.int .u8 0)).length = D.length ∧ D.length = 32 ∧ ∀ v ∈ D, v.oneCell' = true) := dig_facts _

set_option maxHeartbeats 400000 in
theorem alive_any (w : World) (hK : Ktab w) : Calls Tryd.prog 10 #[] w fun e w' => e = .returned (.bool true) ∧ Hid (Below w.heap.size w w') := by
  have h0 := hK.1
  have HK := Lib.hid hK
  clear hK
  have hcv := fun (w' : World) (C : Array Value) (n c : Nat) => Lib.run_convert_bytes_const (P := Tryd.prog) w' 25 5 C n c Tryd.underlying25 Tryd.underlying5
  have hcv2 := conv_second
  go_enter Tryd.func10, Tryd.ntmps10
  go_wp2_with fail
  with_reducible refine (digest_abc w HK.out).mono ?_
  rintro e w1 ⟨v1, rfl, HV1⟩
  obtain ⟨D, HD, HLD⟩ := dig_facts [97, 98, 99]
  have HVD : Hid (v1 = .agg D.toArray) := Lib.hid (by rw [HD.out]; exact HV1.out.1)
  have HB1 := Lib.hid HV1.out.2
  clear HV1
  go_wp2_with (first
    | (refine wl_alloc rfl 27 rfl _ _ info27 ?_
       intro w2 HA2 HB2 HZ2)
    | (refine wl_store rfl 27 (.tmp 1) (.tmp 8) rfl w1.heap.size _ D rfl HVD.out rfl 27 _ HA2.out HLD.out.1 HLD.out.2.1 HLD.out.2.2.2 ?_
       intro w3 HR3 HS3 HZ3))
  have hz2 : w1.heap.size < w2.heap.size := by rw [HZ2.out]; omega
  have hz3 : w2.heap.size ≤ w3.heap.size := by rw [HZ3.out]; exact Nat.le_refl _
  have HB2' := Lib.hid (HB1.out.trans (HB2.out.mono HB1.out.size))
  have HB3 := Lib.hid (HB2'.out.trans (HS3.out.below HB1.out.size (Nat.le_trans HB1.out.size (Nat.le_of_lt hz2))))
  generalize hgd : w1.heap.size = gd at *
  clear HA2 HB2 HZ2 HS3 HZ3 HB2' HB1 hgd
  with_reducible refine (keyed_jefe w3 (HK.out.below h0 HB3.out) _ ?hc3).mono ?_
  case hc3 => rfl
  rintro e w4 ⟨v2, rfl, HV4⟩
  obtain ⟨E, HE, HLE⟩ := keyed_facts jefe what
  have HVE : Hid (v2 = .agg E.toArray) := Lib.hid (by rw [HE.out]; exact HV4.out.1)
  have HB4 := Lib.hid (HB3.out.trans (HV4.out.2.mono HB3.out.size))
  have HR4 := Lib.hid (HR3.out.below HV4.out.2 HR3.out.lt)
  have hgd4 : gd < w4.heap.size := HR4.out.lt
  clear HV4 HR3 hcv hcv2
  have hsl1 := fun w' : World => run_all w' 27 32 under27 gd 0
  have hsl2 := fun w' : World => run_all w' 27 32 under27 w4.heap.size 0
  go_wp2_with (first
    | (refine wl_alloc rfl 27 rfl _ _ info27 ?_
       intro w5 HA5 HB5 HZ5)
    | (refine wl_store rfl 27 (.tmp 2) (.tmp 14) rfl w4.heap.size _ E rfl HVE.out rfl 27 _ HA5.out HLE.out.1 HLE.out.2.1 HLE.out.2.2.2 ?_
       intro w6 HR6 HS6 HZ6))
  have hz5 : w4.heap.size < w5.heap.size := by rw [HZ5.out]; omega
  have hz6 : w5.heap.size ≤ w6.heap.size := by rw [HZ6.out]; exact Nat.le_refl _
  have HB5' := Lib.hid (HB4.out.trans (HB5.out.mono HB4.out.size))
  have HB6 := Lib.hid (HB5'.out.trans (HS6.out.below HB4.out.size (Nat.le_trans HB4.out.size (Nat.le_of_lt hz5))))
  have HD6 := Lib.hid (HS6.out.row (HR4.out.below HB5.out hgd4) (by omega))
  have HRD : Hid (Rd w6 w6.heap.size (some ⟨gd, 0, none⟩) ((digest [97, 98, 99]).map bv)) := Lib.hid (by rw [← HD.out]; exact HD6.out.rd _ (by omega))
  with_reducible refine (hex_abc _ w6 HRD.out).mono ?_
  rintro e w7 ⟨rfl, HB7⟩
  have HB7' := Lib.hid (HB6.out.trans (HB7.out.mono HB6.out.size))
  have hz7 : w6.heap.size ≤ w7.heap.size := HB7.out.size
  have HRE : Hid (Rd w7 w7.heap.size (some ⟨w4.heap.size, 0, none⟩) ((keyed jefe what).map bv)) := Lib.hid (by rw [← HE.out]; exact (HR6.out.below HB7.out (by omega)).rd _ (by omega))
  go_wp2_with fail
  with_reducible refine (hex_jefe _ w7 HRE.out).mono ?_
  rintro e w8 ⟨rfl, HB8⟩
  have HB8' := Lib.hid (HB7'.out.trans (HB8.out.mono HB7'.out.size))
  go_wp2_with fail
  go_ret
  exact ⟨rfl, HB8'⟩
end Go.Proofs.YthfpkefieemiaaaDoor

/- The law DrumPlays: pk2. -/
import Derived.Test.YtadhgdjgpanddaaDoorPcode
namespace Go.Proofs.YtadhgdjgpanddaaDoor
open Go.RowKit

set_option maxHeartbeats 8000000 in
set_option maxRecDepth 100000 in
theorem pk2 (ad : Nat → Addr) (w wr : World) (g h rg rh N n k : Nat) (D : Dm) (at_ nn : Int) (bt : UInt8) (hE : Eighteen w ad) (hS : SimW w wr g h rg rh N D) (hw : D.writes ≤ k) (hn : D.n = n) (hk : k ≤ 200) (hnn : nn ≤ 9223372036854775807) 
    (K : Act → World → Prop) (Q' : Exit → Act → World → Prop) (y0 y1 y2 y3 y4 y5 y6 y7 y8 y11 y14 y15 y16 y17 y18 y19 y20 y21 y22 y23 y24 y25 y26 y27 y28 y29 y30 y31 y32 y33 y34 y35 y36 y37 y38 y39 y40 y41 y42 y43 y44 y45 y46 y47 y48 y49 y50 y51 y52 y53 y54 y55 y56 y57 y58 y59 y60 y61 y62 y63 y64 y65 y66 y67 y68 y69 y70 y71 y72 y73 y74 y75 y76 y77 y78 y79 y80 y81 y82 y83 y84 y85 y86 y87 y88 y89 y90 y91 y92 y93 y94 y95 y96 y97 y98 y99 y100 y101 y102 y103 y104 y105 y106 y107 y108 y109 y110 y111 y113 y114 y115 y116 y117 y118 y119 y120 y121 y122 y123 y124 y125 y126 y127 y128 y129 y130 y131 y132 y133 y134 y135 y136 y137 y138 y139 y140 y141 y142 y143 y144 y145 y146 y147 y148 y149 y150 y151 y152 y153 y154 y155 y156 y157 y158 y159 y160 y161 y162 y163 y164 y165 y166 y167 y168 y169 y170 y171 y172 y173 y174 y175 y176 y177 y178 y179 y180 y181 y182 y183 y184 y185 y186 y187 y188 y189 y190 y191 y192 y193 y194 y195 y196 y197 y198 y199 y200 y201 y202 y203 y204 y205 y206 y207 y208 y209 y210 y211 y212 y213 y214 y215 y216 : Value)
    (hK : ∀ f w', PlayI w w' g h rg rh N n (k + 1) → K (fr2 y0 y1 y2 y3 y4 y5 y6 y7 y8 (.pointer (some ⟨g, 0, none⟩)) (.pointer (some ⟨rg, 0, none⟩)) y11 (.pointer (some ⟨wr.heap.size, 0, none⟩)) y18 y19 y20 y21 y22 y23 y24 y25 y26 y27 y28 y29 y30 y31 y32 y33 y34 y35 y36 y37 y38 y39 y40 y41 y42 y43 y44 y45 y46 y47 y48 y49 y50 y51 y52 y53 y54 y55 y56 y57 y58 y59 y60 y61 y62 y63 y64 y65 y66 y67 y68 y69 y70 y71 y72 y73 y74 y75 y76 y77 y78 y79 y80 y81 y82 y83 y84 y85 y86 y87 y88 y89 y90 y91 y92 y93 y94 y95 y96 y97 y98 y99 y100 y101 y102 y103 y104 y105 y106 y107 y108 y109 y110 y111 (.int .i64 2) y174 y175 y176 y177 y178 y179 y180 y181 y182 y183 y184 y185 y186 y187 y188 y189 y190 y191 y192 y193 y194 y195 y196 y197 y198 y199 y200 y201 y202 y203 y204 y205 y206 y207 y208 y209 y210 y211 y212 y213 y214 y215 y216 f) w') :
    Code.wp Tryd.prog blk2 (Exit.then K Q') ⟨#[y0, y1, y2, y3, y4, y5, y6, y7, y8, .pointer (some ⟨g, 0, none⟩), .pointer (some ⟨rg, 0, none⟩), y11, .pointer (some ⟨wr.heap.size, 0, none⟩), .bool true, y14, y15, y16, y17, y18, y19, y20, y21, y22, y23, y24, y25, y26, y27, y28, y29, y30, y31, y32, y33, y34, y35, y36, y37, y38, y39, y40, y41, y42, y43, y44, y45, y46, y47, y48, y49, y50, y51, y52, y53, y54, y55, y56, y57, y58, y59, y60, y61, y62, y63, y64, y65, y66, y67, y68, y69, y70, y71, y72, y73, y74, y75, y76, y77, y78, y79, y80, y81, y82, y83, y84, y85, y86, y87, y88, y89, y90, y91, y92, y93, y94, y95, y96, y97, y98, y99, y100, y101, y102, y103, y104, y105, y106, y107, y108, y109, y110, y111, .int .i64 2, y113, y114, y115, y116, y117, y118, y119, y120, y121, y122, y123, y124, y125, y126, y127, y128, y129, y130, y131, y132, y133, y134, y135, y136, y137, y138, y139, y140, y141, y142, y143, y144, y145, y146, y147, y148, y149, y150, y151, y152, y153, y154, y155, y156, y157, y158, y159, y160, y161, y162, y163, y164, y165, y166, y167, y168, y169, y170, y171, y172, y173, y174, y175, y176, y177, y178, y179, y180, y181, y182, y183, y184, y185, y186, y187, y188, y189, y190, y191, y192, y193, y194, y195, y196, y197, y198, y199, y200, y201, y202, y203, y204, y205, y206, y207, y208, y209, y210, y211, y212, y213, y214, y215, y216], []⟩ (wr.alloc (.cells #[.int .i64 2, .int .i64 at_, .int .i64 nn, .int .u8 (bt.toNat : Int)] 43)) := by
  have HE := Lib.hid hE
  have HK := Lib.hid hK
  have HWN := Lib.hid (And.intro hw hn)
  have HU := Lib.hid (And.intro hk hnn)
  have HW1 : Hid (D.writes < 1000000) := Lib.hid (by omega)
  have H18 := Lib.hid hE.size
  have HKB : Hid (Below wr.heap.size wr (wr.alloc (.cells #[.int .i64 2, .int .i64 at_, .int .i64 nn, .int .u8 (bt.toNat : Int)] 43))) := Lib.hid ((Below.refl _ _).alloc (Nat.le_refl _) _)
  have HS0 := Lib.hid (hS.under HKB.out)
  have HO0 : Hid (OpRow (wr.alloc (.cells #[.int .i64 2, .int .i64 at_, .int .i64 nn, .int .u8 (bt.toNat : Int)] 43)) wr.heap.size 2 at_ nn bt) := Lib.hid ⟨Row.new wr _ 43⟩
  have HNO : Hid (wr.heap.size ≠ g ∧ wr.heap.size ≠ h ∧ wr.heap.size ≠ rg ∧ wr.heap.size ≠ rh) := Lib.hid (by have e1 := hS.d.row.lt; have e2 := hS.d.blk.lt; have e3 := hS.r.row.lt; have e4 := hS.r.blk.lt; omega)
  have HGH : Hid (2 ≤ g ∧ 2 ≤ h) := Lib.hid (by have e1 := hS.lo; have e2 := hE.size; omega)
  clear hE hS hw hn hK HU
  conv => arg 2; whnf
  generalize hW0 : wr.alloc (.cells #[.int .i64 2, .int .i64 at_, .int .i64 nn, .int .u8 (bt.toNat : Int)] 43) = W0 at *
  clear hW0
  have HGL : Hid ((D.got at_).length = 64) := Lib.hid (got_length HS0.out.d.ok at_)
  have HFG := fact64 _ HGL.out
  have c1 := HO0.out.c1
  have HZ0 : Hid (2 ≤ W0.heap.size) := Lib.hid (by have e1 := H18.out; have e2 := HS0.out.below.size; omega)
  have HE0 := Lib.hid (errs_of (HE.out.below HE.out.lt HS0.out.below))
  go_wp2_with fail
  with_reducible refine (p_read ad g at_ W0 HE0.out HZ0.out HS0.out.d).mono ?_
  rintro x w3 ⟨A3, rfl, H3⟩
  have HO3 := Lib.hid (HO0.out.under H3.out.2)
  have HS3 := Lib.hid (HS0.out.under H3.out.2)
  clear c1
  go_wp2_with (first
    | (refine wl_var rfl rfl rfl 14 rfl rfl (.tmp 136) rfl _ (D.got at_) HGL.out H3.out.1 rfl rfl ?_
       intro w4 H4
       have HO4 := Lib.hid (HO3.out.under H4.out.below)
       have HS4 := Lib.hid (HS3.out.under H4.out.below)
       have c1' := HO4.out.c1))
  with_reducible refine (r_read rg at_ w4 HS4.out.r).mono ?_
  rintro x w5 ⟨A5, rfl, H5⟩
  have HR5 := Lib.hid (H4.out.row.below H5.out.2 H4.out.row.lt)
  have HS5 := Lib.hid (HS4.out.under H5.out.2)
  clear c1'
  go_wp2_with (first
    | (refine wl_var rfl rfl rfl 16 rfl rfl (.tmp 143) rfl _ (D.got at_) HGL.out H5.out.1 rfl rfl ?_
       intro w6 H6
       have HR6 := Lib.hid (HR5.out.below H6.out.below HR5.out.lt)
       have HS6 := Lib.hid (HS5.out.under H6.out.below))
    | (refine wl_loadg rfl (.tmp 14) rfl w3.heap.size 0 rfl _ HR6.out.all HFG.out.1 ?_
       intro v7 HV7)
    | (refine wl_loadg rfl (.tmp 16) rfl w5.heap.size 0 rfl _ H6.out.row.all HFG.out.1 ?_
       intro v8 HV8)
    | (refine wl_same0 rfl .eql true eql_or0 (.tmp 145) (.tmp 146) rfl _ _ rfl rfl (D.got at_) HGL.out HV7.out HV8.out ?_))
  with_reducible refine (num_code ad (D.askc at_) w6 (HE.out.below HE.out.lt HS6.out.below) (askc_any D at_)).mono ?_
  rintro x w7 ⟨rfl, H7⟩
  have HS7 := Lib.hid (HS6.out.under H7.out)
  go_wp2_with fail
  have hfin : PlayI w w7 g h rg rh N n (k + 1) := ⟨_, HS7.out, by have e2 := HWN.out.1; omega, HWN.out.2⟩
  exact meet_f (Rel := fun w' => PlayI w w' g h rg rh N n (k + 1)) (fr2 y0 y1 y2 y3 y4 y5 y6 y7 y8 (.pointer (some ⟨g, 0, none⟩)) (.pointer (some ⟨rg, 0, none⟩)) y11 (.pointer (some ⟨wr.heap.size, 0, none⟩)) y18 y19 y20 y21 y22 y23 y24 y25 y26 y27 y28 y29 y30 y31 y32 y33 y34 y35 y36 y37 y38 y39 y40 y41 y42 y43 y44 y45 y46 y47 y48 y49 y50 y51 y52 y53 y54 y55 y56 y57 y58 y59 y60 y61 y62 y63 y64 y65 y66 y67 y68 y69 y70 y71 y72 y73 y74 y75 y76 y77 y78 y79 y80 y81 y82 y83 y84 y85 y86 y87 y88 y89 y90 y91 y92 y93 y94 y95 y96 y97 y98 y99 y100 y101 y102 y103 y104 y105 y106 y107 y108 y109 y110 y111 (.int .i64 2) y174 y175 y176 y177 y178 y179 y180 y181 y182 y183 y184 y185 y186 y187 y188 y189 y190 y191 y192 y193 y194 y195 y196 y197 y198 y199 y200 y201 y202 y203 y204 y205 y206 y207 y208 y209 y210 y211 y212 y213 y214 y215 y216) HK.out _ _ rfl (hfin)
end Go.Proofs.YtadhgdjgpanddaaDoor

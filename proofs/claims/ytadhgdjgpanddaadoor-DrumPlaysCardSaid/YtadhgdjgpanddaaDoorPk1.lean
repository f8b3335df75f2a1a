/- The law DrumPlays: pk1. -/
import Derived.Test.YtadhgdjgpanddaaDoorPcode
namespace Go.Proofs.YtadhgdjgpanddaaDoor
open Go.RowKit

set_option maxHeartbeats 8000000 in
set_option maxRecDepth 100000 in
theorem pk1 (ad : Nat → Addr) (w wr : World) (g h rg rh N n k : Nat) (D : Dm) (at_ nn : Int) (bt : UInt8) (hE : Eighteen w ad) (hS : SimW w wr g h rg rh N D) (hw : D.writes ≤ k) (hn : D.n = n) (hk : k ≤ 200) (hnn : nn ≤ 9223372036854775807) 
    (K : Act → World → Prop) (Q' : Exit → Act → World → Prop) (y0 y1 y2 y3 y4 y5 y6 y7 y8 y11 y14 y15 y16 y17 y18 y19 y20 y21 y22 y23 y24 y25 y26 y27 y28 y29 y30 y31 y32 y33 y34 y35 y36 y37 y38 y39 y40 y41 y42 y43 y44 y45 y46 y47 y48 y49 y50 y51 y52 y53 y54 y55 y56 y57 y58 y59 y60 y61 y62 y63 y64 y65 y66 y67 y68 y69 y70 y71 y72 y73 y74 y75 y76 y77 y78 y79 y80 y81 y82 y83 y84 y85 y86 y87 y88 y89 y90 y91 y92 y93 y94 y95 y96 y97 y98 y99 y100 y101 y102 y103 y104 y105 y106 y107 y108 y109 y110 y111 y113 y114 y115 y116 y117 y118 y119 y120 y121 y122 y123 y124 y125 y126 y127 y128 y129 y130 y131 y132 y133 y134 y135 y136 y137 y138 y139 y140 y141 y142 y143 y144 y145 y146 y147 y148 y149 y150 y151 y152 y153 y154 y155 y156 y157 y158 y159 y160 y161 y162 y163 y164 y165 y166 y167 y168 y169 y170 y171 y172 y173 y174 y175 y176 y177 y178 y179 y180 y181 y182 y183 y184 y185 y186 y187 y188 y189 y190 y191 y192 y193 y194 y195 y196 y197 y198 y199 y200 y201 y202 y203 y204 y205 y206 y207 y208 y209 y210 y211 y212 y213 y214 y215 y216 : Value)
    (hK : ∀ f w', PlayI w w' g h rg rh N n (k + 1) → K (fr2 y0 y1 y2 y3 y4 y5 y6 y7 y8 (.pointer (some ⟨g, 0, none⟩)) (.pointer (some ⟨rg, 0, none⟩)) y11 (.pointer (some ⟨wr.heap.size, 0, none⟩)) y18 y19 y20 y21 y22 y23 y24 y25 y26 y27 y28 y29 y30 y31 y32 y33 y34 y35 y36 y37 y38 y39 y40 y41 y42 y43 y44 y45 y46 y47 y48 y49 y50 y51 y52 y53 y54 y55 y56 y57 y58 y59 y60 y61 y62 y63 y64 y65 y66 y67 y68 y69 y70 y71 y72 y73 y74 y75 y76 y77 y78 y79 y80 y81 y82 y83 y84 y85 y86 y87 y88 y89 y90 y91 y92 y93 y94 y95 y96 y97 y98 y99 y100 y101 y102 y103 y104 y105 y106 y107 y108 y109 y110 y111 (.int .i64 1) y174 y175 y176 y177 y178 y179 y180 y181 y182 y183 y184 y185 y186 y187 y188 y189 y190 y191 y192 y193 y194 y195 y196 y197 y198 y199 y200 y201 y202 y203 y204 y205 y206 y207 y208 y209 y210 y211 y212 y213 y214 y215 y216 f) w') :
    Code.wp Tryd.prog blk2 (Exit.then K Q') ⟨#[y0, y1, y2, y3, y4, y5, y6, y7, y8, .pointer (some ⟨g, 0, none⟩), .pointer (some ⟨rg, 0, none⟩), y11, .pointer (some ⟨wr.heap.size, 0, none⟩), .bool true, y14, y15, y16, y17, y18, y19, y20, y21, y22, y23, y24, y25, y26, y27, y28, y29, y30, y31, y32, y33, y34, y35, y36, y37, y38, y39, y40, y41, y42, y43, y44, y45, y46, y47, y48, y49, y50, y51, y52, y53, y54, y55, y56, y57, y58, y59, y60, y61, y62, y63, y64, y65, y66, y67, y68, y69, y70, y71, y72, y73, y74, y75, y76, y77, y78, y79, y80, y81, y82, y83, y84, y85, y86, y87, y88, y89, y90, y91, y92, y93, y94, y95, y96, y97, y98, y99, y100, y101, y102, y103, y104, y105, y106, y107, y108, y109, y110, y111, .int .i64 1, y113, y114, y115, y116, y117, y118, y119, y120, y121, y122, y123, y124, y125, y126, y127, y128, y129, y130, y131, y132, y133, y134, y135, y136, y137, y138, y139, y140, y141, y142, y143, y144, y145, y146, y147, y148, y149, y150, y151, y152, y153, y154, y155, y156, y157, y158, y159, y160, y161, y162, y163, y164, y165, y166, y167, y168, y169, y170, y171, y172, y173, y174, y175, y176, y177, y178, y179, y180, y181, y182, y183, y184, y185, y186, y187, y188, y189, y190, y191, y192, y193, y194, y195, y196, y197, y198, y199, y200, y201, y202, y203, y204, y205, y206, y207, y208, y209, y210, y211, y212, y213, y214, y215, y216], []⟩ (wr.alloc (.cells #[.int .i64 1, .int .i64 at_, .int .i64 nn, .int .u8 (bt.toNat : Int)] 43)) := by
  have HE := Lib.hid hE
  have HK := Lib.hid hK
  have HWN := Lib.hid (And.intro hw hn)
  have HU := Lib.hid (And.intro hk hnn)
  have HW1 : Hid (D.writes < 1000000) := Lib.hid (by omega)
  have H18 := Lib.hid hE.size
  have HKB : Hid (Below wr.heap.size wr (wr.alloc (.cells #[.int .i64 1, .int .i64 at_, .int .i64 nn, .int .u8 (bt.toNat : Int)] 43))) := Lib.hid ((Below.refl _ _).alloc (Nat.le_refl _) _)
  have HS0 := Lib.hid (hS.under HKB.out)
  have HO0 : Hid (OpRow (wr.alloc (.cells #[.int .i64 1, .int .i64 at_, .int .i64 nn, .int .u8 (bt.toNat : Int)] 43)) wr.heap.size 1 at_ nn bt) := Lib.hid ⟨Row.new wr _ 43⟩
  have HNO : Hid (wr.heap.size ≠ g ∧ wr.heap.size ≠ h ∧ wr.heap.size ≠ rg ∧ wr.heap.size ≠ rh) := Lib.hid (by have e1 := hS.d.row.lt; have e2 := hS.d.blk.lt; have e3 := hS.r.row.lt; have e4 := hS.r.blk.lt; omega)
  have HGH : Hid (2 ≤ g ∧ 2 ≤ h) := Lib.hid (by have e1 := hS.lo; have e2 := hE.size; omega)
  clear hE hS hw hn hK HU
  conv => arg 2; whnf
  obtain ⟨cb, hcb⟩ := byte_of nn
  have HCB := Lib.hid hcb
  clear hcb
  have HBL : Hid ((opBlock cb bt).length = 64) := Lib.hid (opBlock_length cb bt)
  have HSS : Hid (∀ w', OpRow w' wr.heap.size 1 at_ nn bt → (fun w' => w'.cell? ⟨wr.heap.size, 0, none⟩ = some (.int .i64 1) ∧ w'.cell? ⟨wr.heap.size, 1, none⟩ = some (.int .i64 at_) ∧ w'.cell? ⟨wr.heap.size, 2, none⟩ = some (.int .i64 nn) ∧ w'.cell? ⟨wr.heap.size, 3, none⟩ = some (.int .u8 (bt.toNat : Int))) w') := Lib.hid (fun w' H => ⟨H.c0, H.c1, H.c2, H.c3⟩)
  generalize hW0 : wr.alloc (.cells #[.int .i64 1, .int .i64 at_, .int .i64 nn, .int .u8 (bt.toNat : Int)] 43) = W0 at *
  have HOD : Hid (OpRow W0.drew wr.heap.size 1 at_ nn bt ∧ SimW w W0.drew g h rg rh N D) := Lib.hid ⟨⟨HO0.out.row⟩, HS0.out.stay ⟨rfl, rfl, rfl, rfl⟩⟩
  clear hW0
  go_wp2_with fail
  go_region_held3 (fun w' => w'.cell? ⟨wr.heap.size, 0, none⟩ = some (.int .i64 1) ∧ w'.cell? ⟨wr.heap.size, 1, none⟩ = some (.int .i64 at_) ∧ w'.cell? ⟨wr.heap.size, 2, none⟩ = some (.int .i64 nn) ∧ w'.cell? ⟨wr.heap.size, 3, none⟩ = some (.int .u8 (bt.toNat : Int)))
    (first
      | exact HSS.out _ HOD.out.1
      | exact HSS.out _ H7.out.1
      | exact HSS.out _ H6.out.2.1
      | exact HSS.out _ H5.out.1
      | exact HSS.out _ H4.out.1
      | exact HSS.out _ H3.out.2.1)
    (first
      | (go_at_call 17; (with_reducible refine (block_any 1 at_ nn bt cb W0.drew HCB.out).mono ?_); rintro e w3 ⟨A3, rfl, H3'⟩; (have H3 : Hid (A3 = ((opBlock cb bt).map bv).toArray ∧ OpRow w3 wr.heap.size 1 at_ nn bt ∧ SimW w w3 g h rg rh N D) := Lib.hid ⟨H3'.out.1, HOD.out.1.under H3'.out.2, HOD.out.2.under H3'.out.2⟩); clear H3')
      | (go_at_call 16; (with_reducible refine (p_write ad g at_ A3 (opBlock cb bt) w3 (errs_of (HE.out.below HE.out.lt H3.out.2.2.below)) HGH.out H3.out.2.2.d H3.out.1 HBL.out HW1.out).mono ?_); rintro e w4 ⟨rfl, H4'⟩; (have H4 : Hid (OpRow w4 wr.heap.size 1 at_ nn bt ∧ MidW w w4 g h rg rh N D (D.after at_ (opBlock cb bt))) := Lib.hid ⟨H3.out.2.1.turn H4'.out.2 (not_two HNO.out.1 HNO.out.2.1), H3.out.2.2.mid H4'.out.1 H4'.out.2⟩); clear H4')
      | (go_at_call 15; (with_reducible refine (num_code ad (D.code at_) w4 (HE.out.below HE.out.lt H4.out.2.below) (code_any D at_)).mono ?_); rintro e w5 ⟨rfl, H5'⟩; (have H5 : Hid (OpRow w5 wr.heap.size 1 at_ nn bt ∧ MidW w w5 g h rg rh N D (D.after at_ (opBlock cb bt))) := Lib.hid ⟨H4.out.1.under H5'.out, H4.out.2.under H5'.out⟩); clear H5')
      | (go_at_call 17; (with_reducible refine (block_any 1 at_ nn bt cb w5 HCB.out).mono ?_); rintro e w6 ⟨A6, rfl, H6'⟩; (have H6 : Hid (A6 = ((opBlock cb bt).map bv).toArray ∧ OpRow w6 wr.heap.size 1 at_ nn bt ∧ MidW w w6 g h rg rh N D (D.after at_ (opBlock cb bt))) := Lib.hid ⟨H6'.out.1, H5.out.1.under H6'.out.2, H5.out.2.under H6'.out.2⟩); clear H6')
      | (go_at_call 18; (with_reducible refine (r_write rg at_ A6 (opBlock cb bt) w6 H6.out.2.2.r H6.out.1 HBL.out HW1.out).mono ?_); rintro e w7 ⟨rfl, H7'⟩; (have H7 : Hid (OpRow w7 wr.heap.size 1 at_ nn bt ∧ SimW w w7 g h rg rh N (D.after at_ (opBlock cb bt))) := Lib.hid ⟨H6.out.2.1.turn H7'.out.2 (not_two HNO.out.2.2.1 HNO.out.2.2.2), H6.out.2.2.sim H7'.out.1 H7'.out.2⟩); clear H7'))
  all_goals
    go_wp2_with fail
    have hfin : PlayI w w7 g h rg rh N n (k + 1) := ⟨_, H7.out.2, by have e1 := (after_writes D at_ (opBlock cb bt)).1; have e2 := HWN.out.1; omega, by rw [(after_writes D at_ (opBlock cb bt)).2]; exact HWN.out.2⟩
    exact meet_f (Rel := fun w' => PlayI w w' g h rg rh N n (k + 1)) (fr2 y0 y1 y2 y3 y4 y5 y6 y7 y8 (.pointer (some ⟨g, 0, none⟩)) (.pointer (some ⟨rg, 0, none⟩)) y11 (.pointer (some ⟨wr.heap.size, 0, none⟩)) y18 y19 y20 y21 y22 y23 y24 y25 y26 y27 y28 y29 y30 y31 y32 y33 y34 y35 y36 y37 y38 y39 y40 y41 y42 y43 y44 y45 y46 y47 y48 y49 y50 y51 y52 y53 y54 y55 y56 y57 y58 y59 y60 y61 y62 y63 y64 y65 y66 y67 y68 y69 y70 y71 y72 y73 y74 y75 y76 y77 y78 y79 y80 y81 y82 y83 y84 y85 y86 y87 y88 y89 y90 y91 y92 y93 y94 y95 y96 y97 y98 y99 y100 y101 y102 y103 y104 y105 y106 y107 y108 y109 y110 y111 (.int .i64 1) y174 y175 y176 y177 y178 y179 y180 y181 y182 y183 y184 y185 y186 y187 y188 y189 y190 y191 y192 y193 y194 y195 y196 y197 y198 y199 y200 y201 y202 y203 y204 y205 y206 y207 y208 y209 y210 y211 y212 y213 y214 y215 y216) HK.out _ _ rfl (hfin)
end Go.Proofs.YtadhgdjgpanddaaDoor

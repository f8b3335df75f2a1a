/- The law DrumPlays: pk3. -/
import Derived.Test.YtadhgdjgpanddaaDoorPcode
namespace Go.Proofs.YtadhgdjgpanddaaDoor
open Go.RowKit

set_option maxHeartbeats 8000000 in
set_option maxRecDepth 100000 in
theorem pk3 (ad : Nat → Addr) (w wr : World) (g h rg rh N n k : Nat) (D : Dm) (at_ nn : Int) (bt : UInt8) (hE : Eighteen w ad) (hS : SimW w wr g h rg rh N D) (hw : D.writes ≤ k) (hn : D.n = n) (hk : k ≤ 200) (hnn : nn ≤ 9223372036854775807) 
    (K : Act → World → Prop) (Q' : Exit → Act → World → Prop) (y0 y1 y2 y3 y4 y5 y6 y7 y8 y11 y14 y15 y16 y17 y18 y19 y20 y21 y22 y23 y24 y25 y26 y27 y28 y29 y30 y31 y32 y33 y34 y35 y36 y37 y38 y39 y40 y41 y42 y43 y44 y45 y46 y47 y48 y49 y50 y51 y52 y53 y54 y55 y56 y57 y58 y59 y60 y61 y62 y63 y64 y65 y66 y67 y68 y69 y70 y71 y72 y73 y74 y75 y76 y77 y78 y79 y80 y81 y82 y83 y84 y85 y86 y87 y88 y89 y90 y91 y92 y93 y94 y95 y96 y97 y98 y99 y100 y101 y102 y103 y104 y105 y106 y107 y108 y109 y110 y111 y113 y114 y115 y116 y117 y118 y119 y120 y121 y122 y123 y124 y125 y126 y127 y128 y129 y130 y131 y132 y133 y134 y135 y136 y137 y138 y139 y140 y141 y142 y143 y144 y145 y146 y147 y148 y149 y150 y151 y152 y153 y154 y155 y156 y157 y158 y159 y160 y161 y162 y163 y164 y165 y166 y167 y168 y169 y170 y171 y172 y173 y174 y175 y176 y177 y178 y179 y180 y181 y182 y183 y184 y185 y186 y187 y188 y189 y190 y191 y192 y193 y194 y195 y196 y197 y198 y199 y200 y201 y202 y203 y204 y205 y206 y207 y208 y209 y210 y211 y212 y213 y214 y215 y216 : Value)
    (hK : ∀ f w', PlayI w w' g h rg rh N n (k + 1) → K (fr2 y0 y1 y2 y3 y4 y5 y6 y7 y8 (.pointer (some ⟨g, 0, none⟩)) (.pointer (some ⟨rg, 0, none⟩)) y11 (.pointer (some ⟨wr.heap.size, 0, none⟩)) y18 y19 y20 y21 y22 y23 y24 y25 y26 y27 y28 y29 y30 y31 y32 y33 y34 y35 y36 y37 y38 y39 y40 y41 y42 y43 y44 y45 y46 y47 y48 y49 y50 y51 y52 y53 y54 y55 y56 y57 y58 y59 y60 y61 y62 y63 y64 y65 y66 y67 y68 y69 y70 y71 y72 y73 y74 y75 y76 y77 y78 y79 y80 y81 y82 y83 y84 y85 y86 y87 y88 y89 y90 y91 y92 y93 y94 y95 y96 y97 y98 y99 y100 y101 y102 y103 y104 y105 y106 y107 y108 y109 y110 y111 (.int .i64 3) y174 y175 y176 y177 y178 y179 y180 y181 y182 y183 y184 y185 y186 y187 y188 y189 y190 y191 y192 y193 y194 y195 y196 y197 y198 y199 y200 y201 y202 y203 y204 y205 y206 y207 y208 y209 y210 y211 y212 y213 y214 y215 y216 f) w') :
    Code.wp Tryd.prog blk2 (Exit.then K Q') ⟨#[y0, y1, y2, y3, y4, y5, y6, y7, y8, .pointer (some ⟨g, 0, none⟩), .pointer (some ⟨rg, 0, none⟩), y11, .pointer (some ⟨wr.heap.size, 0, none⟩), .bool true, y14, y15, y16, y17, y18, y19, y20, y21, y22, y23, y24, y25, y26, y27, y28, y29, y30, y31, y32, y33, y34, y35, y36, y37, y38, y39, y40, y41, y42, y43, y44, y45, y46, y47, y48, y49, y50, y51, y52, y53, y54, y55, y56, y57, y58, y59, y60, y61, y62, y63, y64, y65, y66, y67, y68, y69, y70, y71, y72, y73, y74, y75, y76, y77, y78, y79, y80, y81, y82, y83, y84, y85, y86, y87, y88, y89, y90, y91, y92, y93, y94, y95, y96, y97, y98, y99, y100, y101, y102, y103, y104, y105, y106, y107, y108, y109, y110, y111, .int .i64 3, y113, y114, y115, y116, y117, y118, y119, y120, y121, y122, y123, y124, y125, y126, y127, y128, y129, y130, y131, y132, y133, y134, y135, y136, y137, y138, y139, y140, y141, y142, y143, y144, y145, y146, y147, y148, y149, y150, y151, y152, y153, y154, y155, y156, y157, y158, y159, y160, y161, y162, y163, y164, y165, y166, y167, y168, y169, y170, y171, y172, y173, y174, y175, y176, y177, y178, y179, y180, y181, y182, y183, y184, y185, y186, y187, y188, y189, y190, y191, y192, y193, y194, y195, y196, y197, y198, y199, y200, y201, y202, y203, y204, y205, y206, y207, y208, y209, y210, y211, y212, y213, y214, y215, y216], []⟩ (wr.alloc (.cells #[.int .i64 3, .int .i64 at_, .int .i64 nn, .int .u8 (bt.toNat : Int)] 43)) := by
  have HE := Lib.hid hE
  have HK := Lib.hid hK
  have HWN := Lib.hid (And.intro hw hn)
  have HU := Lib.hid (And.intro hk hnn)
  have HW1 : Hid (D.writes < 1000000) := Lib.hid (by omega)
  have H18 := Lib.hid hE.size
  have HKB : Hid (Below wr.heap.size wr (wr.alloc (.cells #[.int .i64 3, .int .i64 at_, .int .i64 nn, .int .u8 (bt.toNat : Int)] 43))) := Lib.hid ((Below.refl _ _).alloc (Nat.le_refl _) _)
  have HS0 := Lib.hid (hS.under HKB.out)
  have HO0 : Hid (OpRow (wr.alloc (.cells #[.int .i64 3, .int .i64 at_, .int .i64 nn, .int .u8 (bt.toNat : Int)] 43)) wr.heap.size 3 at_ nn bt) := Lib.hid ⟨Row.new wr _ 43⟩
  have HNO : Hid (wr.heap.size ≠ g ∧ wr.heap.size ≠ h ∧ wr.heap.size ≠ rg ∧ wr.heap.size ≠ rh) := Lib.hid (by have e1 := hS.d.row.lt; have e2 := hS.d.blk.lt; have e3 := hS.r.row.lt; have e4 := hS.r.blk.lt; omega)
  have HGH : Hid (2 ≤ g ∧ 2 ≤ h) := Lib.hid (by have e1 := hS.lo; have e2 := hE.size; omega)
  clear hE hS hw hn hK HU
  conv => arg 2; whnf
  generalize hW0 : wr.alloc (.cells #[.int .i64 3, .int .i64 at_, .int .i64 nn, .int .u8 (bt.toNat : Int)] 43) = W0 at *
  clear hW0
  have HOD : Hid (OpRow W0.drew wr.heap.size 3 at_ nn bt ∧ SimW w W0.drew g h rg rh N D) := Lib.hid ⟨⟨HO0.out.row⟩, HS0.out.stay ⟨rfl, rfl, rfl, rfl⟩⟩
  go_wp2_with fail
  go_region_held3 (fun w' => w'.cell? ⟨wr.heap.size, 2, none⟩ = some (.int .i64 nn))
    (first
      | exact HOD.out.1.c2
      | exact H3.out.1.c2)
    (first
      | (go_at_call 21; (with_reducible refine (arm_any g nn _ HOD.out.2.d hnn).mono ?_); rintro e w3 ⟨rfl, H3'⟩; (have H3 : Hid (OpRow w3 wr.heap.size 3 at_ nn bt ∧ MidW w w3 g h rg rh N D (D.arm nn)) := Lib.hid ⟨HOD.out.1.turn H3'.out.2 (not_two HNO.out.1 HNO.out.2.1), HOD.out.2.mid H3'.out.1 H3'.out.2⟩); clear H3'))
  all_goals
    have c2 := H3.out.1.c2
    go_wp2_with fail
    with_reducible refine (rarm_any rg nn w3 H3.out.2.r hnn).mono ?_
    rintro x w4 ⟨rfl, H4⟩
    clear c2
    go_wp2_with fail
    have hfin : PlayI w w4 g h rg rh N n (k + 1) := ⟨_, H3.out.2.sim H4.out.1 H4.out.2, by have e2 := HWN.out.1; show D.writes ≤ _; omega, HWN.out.2⟩
    exact meet_f (Rel := fun w' => PlayI w w' g h rg rh N n (k + 1)) (fr2 y0 y1 y2 y3 y4 y5 y6 y7 y8 (.pointer (some ⟨g, 0, none⟩)) (.pointer (some ⟨rg, 0, none⟩)) y11 (.pointer (some ⟨wr.heap.size, 0, none⟩)) y18 y19 y20 y21 y22 y23 y24 y25 y26 y27 y28 y29 y30 y31 y32 y33 y34 y35 y36 y37 y38 y39 y40 y41 y42 y43 y44 y45 y46 y47 y48 y49 y50 y51 y52 y53 y54 y55 y56 y57 y58 y59 y60 y61 y62 y63 y64 y65 y66 y67 y68 y69 y70 y71 y72 y73 y74 y75 y76 y77 y78 y79 y80 y81 y82 y83 y84 y85 y86 y87 y88 y89 y90 y91 y92 y93 y94 y95 y96 y97 y98 y99 y100 y101 y102 y103 y104 y105 y106 y107 y108 y109 y110 y111 (.int .i64 3) y174 y175 y176 y177 y178 y179 y180 y181 y182 y183 y184 y185 y186 y187 y188 y189 y190 y191 y192 y193 y194 y195 y196 y197 y198 y199 y200 y201 y202 y203 y204 y205 y206 y207 y208 y209 y210 y211 y212 y213 y214 y215 y216) HK.out _ _ rfl (hfin)
end Go.Proofs.YtadhgdjgpanddaaDoor

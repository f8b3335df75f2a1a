/- The law SockPlays: pk3. -/
import Derived.Test.YtlceemaannndbaaDoorPcode
namespace Go.Proofs.YtlceemaannndbaaDoor
open Go.RowKit

set_option maxHeartbeats 8000000 in
set_option maxRecDepth 100000 in
theorem pk3 (ad : Nat → Addr) (w1 w2 wr : World) (P : Pr) (R : Rp) (k : Nat) (ed nn : Int) (Ao : Option Addr) (cap : Nat) (bts : List UInt8)
    (hI : Keep (fun k => k < w1.heap.size) w1 wr) (hP : Both wr w1.heap.size (fun k => k < w1.heap.size) w1.heap.size w2.heap.size P R ∧ Sim k P R)
    (hEK : ∀ w', Keep (fun k => k < w1.heap.size) wr w' → Eighteen w' ad ∧ Rd w' w'.heap.size Ao (bts.map bv))
    (hgh : w1.heap.size ≤ w2.heap.size) (hbig : w1.heap.size ≤ wr.heap.size) (h300 : k ≤ 300) (hcap1 : bts.length ≤ cap) (hcap2 : cap ≤ 9223372036854775807) (hn2 : nn ≤ 9223372036854775807) (hbyt : bts.length ≤ 140737488351232) 
    (K : Act → World → Prop) (Q' : Exit → Act → World → Prop) (y0 y1 y2 y3 y4 y6 y8 y11 y12 y13 y14 y15 y16 y17 y18 y19 y20 y21 y22 y23 y24 y25 y26 y27 y28 y29 y30 y31 y32 y33 y34 y35 y36 y37 y38 y39 y40 y41 y42 y43 y44 y45 y46 y47 y48 y49 y50 y51 y52 y53 y54 y55 y56 y57 y58 y59 y60 y61 y62 y63 y64 y66 y67 y68 y69 y70 y71 y72 y73 y74 y75 y76 y77 y78 y79 y80 y81 y82 y83 y84 y85 y86 y87 y88 y89 y90 y91 y92 y93 y94 y95 y96 y97 y98 y99 y100 y101 y102 y103 y104 y105 y106 y107 y108 y109 y110 y111 y112 y113 y114 y115 y116 y117 y118 y119 y120 y121 y122 y123 y124 y125 y126 y127 y128 y129 y130 y131 y132 y133 y134 y135 y136 y137 y138 y139 y140 y141 y142 y143 y144 y145 y146 y147 y148 y149 y150 y151 y152 y153 y154 y155 y156 y157 y158 y159 y160 y161 y162 y163 y164 y165 y166 y167 y168 y169 y170 y171 y172 y173 y174 y175 y176 y177 y178 y179 y180 y181 y182 y183 y184 y185 y186 y187 y188 y189 y190 y191 y192 y193 y194 y195 y196 y197 y198 y199 y200 y201 y202 y203 y204 y205 y206 y207 y208 y209 y210 y211 y212 y213 y214 y215 y216 y217 y218 y219 y220 y221 y222 y223 y224 y225 y226 y227 y228 y229 y230 y231 y232 y233 y234 y235 y236 y237 y238 y239 y240 y241 y242 y243 y244 y245 y246 y247 y248 y249 y250 y251 y252 y253 y254 y255 y256 y257 y258 y259 y260 y261 y262 y263 y264 y265 y266 y267 y268 y269 y270 y271 y272 y273 y274 y275 y276 y277 y278 y279 y280 y281 y282 y283 : Value)
    (hK : ∀ f w', PlayI w1 w' w1.heap.size w1.heap.size w2.heap.size (k + 1) → K (fr2 y0 y1 y2 y3 y4 (.pointer (some ⟨w1.heap.size, 0, none⟩)) y6 (.pointer (some ⟨w2.heap.size, 0, none⟩)) y8 (.pointer (some ⟨wr.heap.size, 0, none⟩)) y25 y26 y27 y28 y29 y30 y31 y32 y33 y34 y35 y36 y37 y38 y39 y40 y41 y42 y43 y44 y45 y46 y47 y48 y49 y50 y51 y52 y53 y54 y55 y56 y57 y58 y59 y60 y61 y62 y63 y64 (.int .i64 3) y234 y235 y236 y237 y238 y239 y240 y241 y242 y243 y244 y245 y246 y247 y248 y249 y250 y251 y252 y253 y254 y255 y256 y257 y258 y259 y260 y261 y262 y263 y264 y265 y266 y267 y268 y269 y270 y271 y272 y273 y274 y275 y276 y277 y278 y279 y280 y281 y282 y283 f) w') :
    Code.wp Tryd.prog blk2 (Exit.then K Q') ⟨#[y0, y1, y2, y3, y4, .pointer (some ⟨w1.heap.size, 0, none⟩), y6, .pointer (some ⟨w2.heap.size, 0, none⟩), y8, .pointer (some ⟨wr.heap.size, 0, none⟩), .bool true, y11, y12, y13, y14, y15, y16, y17, y18, y19, y20, y21, y22, y23, y24, y25, y26, y27, y28, y29, y30, y31, y32, y33, y34, y35, y36, y37, y38, y39, y40, y41, y42, y43, y44, y45, y46, y47, y48, y49, y50, y51, y52, y53, y54, y55, y56, y57, y58, y59, y60, y61, y62, y63, y64, .int .i64 3, y66, y67, y68, y69, y70, y71, y72, y73, y74, y75, y76, y77, y78, y79, y80, y81, y82, y83, y84, y85, y86, y87, y88, y89, y90, y91, y92, y93, y94, y95, y96, y97, y98, y99, y100, y101, y102, y103, y104, y105, y106, y107, y108, y109, y110, y111, y112, y113, y114, y115, y116, y117, y118, y119, y120, y121, y122, y123, y124, y125, y126, y127, y128, y129, y130, y131, y132, y133, y134, y135, y136, y137, y138, y139, y140, y141, y142, y143, y144, y145, y146, y147, y148, y149, y150, y151, y152, y153, y154, y155, y156, y157, y158, y159, y160, y161, y162, y163, y164, y165, y166, y167, y168, y169, y170, y171, y172, y173, y174, y175, y176, y177, y178, y179, y180, y181, y182, y183, y184, y185, y186, y187, y188, y189, y190, y191, y192, y193, y194, y195, y196, y197, y198, y199, y200, y201, y202, y203, y204, y205, y206, y207, y208, y209, y210, y211, y212, y213, y214, y215, y216, y217, y218, y219, y220, y221, y222, y223, y224, y225, y226, y227, y228, y229, y230, y231, y232, y233, y234, y235, y236, y237, y238, y239, y240, y241, y242, y243, y244, y245, y246, y247, y248, y249, y250, y251, y252, y253, y254, y255, y256, y257, y258, y259, y260, y261, y262, y263, y264, y265, y266, y267, y268, y269, y270, y271, y272, y273, y274, y275, y276, y277, y278, y279, y280, y281, y282, y283], []⟩ (wr.alloc (.cells #[.int .i64 3, .int .i64 ed, .int .i64 nn, .slice Ao bts.length cap] 37)) := by
  have HI := Lib.hid hI
  have HP := Lib.hid hP
  have HEK := Lib.hid hEK
  have HK := Lib.hid hK
  clear hI hP hEK hK
  have HU := Lib.hid (And.intro hgh (And.intro h300 (And.intro hcap1 (And.intro hcap2 (And.intro hn2 hbyt)))))
  clear HU
  have HKB : Hid (Below wr.heap.size wr (wr.alloc (.cells #[.int .i64 3, .int .i64 ed, .int .i64 nn, .slice Ao bts.length cap] 37))) := Lib.hid ((Below.refl _ _).alloc (Nat.le_refl _) _)
  have HB := Lib.hid (HP.out.1.below HKB.out)
  have HROW : Hid (Row (wr.alloc (.cells #[.int .i64 3, .int .i64 ed, .int .i64 nn, .slice Ao bts.length cap] 37)) wr.heap.size 37 [.int .i64 3, .int .i64 ed, .int .i64 nn, .slice Ao bts.length cap]) := Lib.hid (Row.new wr _ 37)
  have HK0 : Hid (Keep (fun k => k < w1.heap.size) wr (wr.alloc (.cells #[.int .i64 3, .int .i64 ed, .int .i64 nn, .slice Ao bts.length cap] 37))) := Lib.hid (Keep.of_below HKB.out (fun k h => by omega))
  have hbx : wr.heap.size < (wr.alloc (.cells #[.int .i64 3, .int .i64 ed, .int .i64 nn, .slice Ao bts.length cap] 37)).heap.size := by simp
  conv => arg 2; whnf
  obtain ⟨_, e1, e2, e3⟩ := box_cells HROW.out
  go_wp2_with fail
  with_reducible refine (c_carry ad ed nn _ (HEK.out _ HK0.out).1.errs HB.out HP.out.2 hn2).mono ?_
  rintro x w4 ⟨n, ev, rfl, H4⟩
  obtain ⟨P', f, H5⟩ := hid_two H4
  clear H4 e1 e2 e3
  have HK4 : Hid (Keep (fun k => k < w1.heap.size) wr w4) := Lib.hid (HK0.out.trans (H5.out.2.1.mono (fun k h => .inl h)))
  have HROW4 : Hid (Row w4 wr.heap.size 37 [.int .i64 3, .int .i64 ed, .int .i64 nn, .slice Ao bts.length cap]) := Lib.hid (H5.out.2.1.row HROW.out (.inr ⟨Nat.le_refl _, hbx⟩))
  obtain ⟨_, e1, e2, e3⟩ := box_cells HROW4.out
  go_wp2_with fail
  with_reducible refine H5.out.2.2.2.mono ?_
  rintro x w5 ⟨rfl, H6⟩
  clear e1 e2 e3
  have HK5 : Hid (Keep (fun k => k < w1.heap.size) wr w5) := Lib.hid (HK4.out.trans (H6.out.2.mono (fun k h => .inl h)))
  go_wp2_with fail
  with_reducible refine (c_num ad ev f w5 H5.out.1 (HEK.out _ HK5.out).1).mono ?_
  rintro x w6 ⟨rfl, H7⟩
  go_wp2_with fail
  obtain ⟨R', hb5, hs5'⟩ := H6.out.1
  have hs5 : w1.heap.size ≤ w5.heap.size := Nat.le_trans hbig HK5.out.size
  exact meet_f (Rel := fun w' => PlayI w1 w' w1.heap.size w1.heap.size w2.heap.size (k + 1)) (fr2 y0 y1 y2 y3 y4 (.pointer (some ⟨w1.heap.size, 0, none⟩)) y6 (.pointer (some ⟨w2.heap.size, 0, none⟩)) y8 (.pointer (some ⟨wr.heap.size, 0, none⟩)) y25 y26 y27 y28 y29 y30 y31 y32 y33 y34 y35 y36 y37 y38 y39 y40 y41 y42 y43 y44 y45 y46 y47 y48 y49 y50 y51 y52 y53 y54 y55 y56 y57 y58 y59 y60 y61 y62 y63 y64 (.int .i64 3) y234 y235 y236 y237 y238 y239 y240 y241 y242 y243 y244 y245 y246 y247 y248 y249 y250 y251 y252 y253 y254 y255 y256 y257 y258 y259 y260 y261 y262 y263 y264 y265 y266 y267 y268 y269 y270 y271 y272 y273 y274 y275 y276 y277 y278 y279 y280 y281 y282 y283) HK.out _ _ rfl ((play_fin HI.out (HK5.out.trans (Keep.of_below H7.out (fun k h => by omega))) (hb5.below H7.out) (fun k h => .inl (.inl h)) hs5'))
end Go.Proofs.YtlceemaannndbaaDoor

/- The law SockPlays: its questions. -/
import Derived.Test.YtlceemaannndbaaDoorPcode
namespace Go.Proofs.YtlceemaannndbaaDoor
open Go.RowKit

set_option maxHeartbeats 8000000 in
set_option maxRecDepth 100000 in
theorem pc5 (w1 w2 : World) (k : Nat) (wc : World) (hJ : PlayI w1 wc w1.heap.size w1.heap.size w2.heap.size (k + 1)) (hgh : w1.heap.size ≤ w2.heap.size)
    (Q0 : Exit → Act → World → Prop) (y0 y1 y2 y3 y4 y6 y8 y9 y10 y11 y12 y13 y14 y15 y16 y17 y18 y19 y20 y21 y22 y23 y24 y26 y27 y28 y29 y30 y31 y32 y33 y34 y35 y36 y37 y38 y39 y40 y41 y42 y43 y44 y45 y46 y47 y48 y49 y50 y51 y52 y53 y54 y55 y56 y57 y58 y59 y60 y61 y62 y63 y64 y65 y66 y67 y68 y69 y70 y71 y72 y73 y74 y75 y76 y77 y78 y79 y80 y81 y82 y83 y84 y85 y86 y87 y88 y89 y90 y91 y92 y93 y94 y95 y96 y97 y98 y99 y100 y101 y102 y103 y104 y105 y106 y107 y108 y109 y110 y111 y112 y113 y114 y115 y116 y117 y118 y119 y120 y121 y122 y123 y124 y125 y126 y127 y128 y129 y130 y131 y132 y133 y134 y135 y136 y137 y138 y139 y140 y141 y142 y143 y144 y145 y146 y147 y148 y149 y150 y151 y152 y153 y154 y155 y156 y157 y158 y159 y160 y161 y162 y163 y164 y165 y166 y167 y168 y169 y170 y171 y172 y173 y174 y175 y176 y177 y178 y179 y180 y181 y182 y183 y184 y185 y186 y187 y188 y189 y190 y191 y192 y193 y194 y195 y196 y197 y198 y199 y200 y201 y202 y203 y204 y205 y206 y207 y208 y209 y210 y211 y212 y213 y214 y215 y216 y217 y218 y219 y220 y221 y222 y223 y224 y225 y226 y227 y228 y229 y230 y231 y232 y233 y234 y235 y236 y237 y238 y239 y240 y241 y242 y243 y244 y245 y246 y247 y248 y249 y250 y251 y252 y253 y254 y255 y256 y257 y258 y259 y260 y261 y262 y263 y264 y265 y266 y267 y268 y269 y270 y271 y272 y273 y274 y275 y276 y277 y278 y279 y280 y281 y282 y283 : Value)
    (hK : ∀ f w', PlayI w1 w' w1.heap.size w1.heap.size w2.heap.size (k + 1) → Q0 .normal (fr5 y0 y1 y2 y3 (.pointer (some ⟨w1.heap.size, 0, none⟩)) y6 (.pointer (some ⟨w2.heap.size, 0, none⟩)) y8 y9 y10 y11 y12 y13 y14 y15 y16 y17 y18 y19 y20 y21 y22 y23 y24 y26 y27 y28 y29 y30 y31 y32 y33 y34 y35 y36 y37 y38 y39 y40 y41 y42 y43 y44 y45 y46 y47 y48 y49 y50 y51 y52 y53 y54 y55 y56 y57 y58 y59 y60 y61 y62 y63 y64 y65 y66 y67 y68 y69 y70 y71 y72 y73 y74 y75 y76 y77 y78 y79 y80 y81 y82 y83 y84 y85 y86 y87 y88 y89 y90 y91 y92 y93 y94 y95 y96 y97 y98 y99 y100 y101 y102 y103 y104 y105 y106 y107 y108 y109 y110 y111 y112 y113 y114 y115 y116 y117 y118 y119 y120 y121 y122 y123 y124 y125 y126 y127 y128 y129 y130 y131 y132 y133 y134 y135 y136 y137 y138 y139 y140 y141 y142 y143 y144 y145 y146 y147 y148 y149 y150 y151 y152 y153 y154 y155 y156 y157 y158 y159 y160 y161 y162 y163 y164 y165 y166 y167 y168 y169 y170 y171 y172 y173 y174 y175 y176 y177 y178 y179 y180 y181 y182 y183 y184 y185 y186 y187 y188 y189 y190 y191 y192 y193 y194 y195 y196 y197 y198 y199 y200 y201 y202 y203 y204 y205 y206 y207 y208 y209 y210 y211 y212 y213 y214 y215 y216 y217 y218 y219 y220 y221 y222 y223 y224 y225 y226 y227 y228 y229 y230 y231 y232 y233 y234 y235 y236 y237 y238 y239 y240 y241 y242 y243 y244 y283 f) w') :
    Code.wp Tryd.prog blk5 Q0 ⟨#[y0, y1, y2, y3, y4, .pointer (some ⟨w1.heap.size, 0, none⟩), y6, .pointer (some ⟨w2.heap.size, 0, none⟩), y8, y9, y10, y11, y12, y13, y14, y15, y16, y17, y18, y19, y20, y21, y22, y23, y24, .int .i64 (-1), y26, y27, y28, y29, y30, y31, y32, y33, y34, y35, y36, y37, y38, y39, y40, y41, y42, y43, y44, y45, y46, y47, y48, y49, y50, y51, y52, y53, y54, y55, y56, y57, y58, y59, y60, y61, y62, y63, y64, y65, y66, y67, y68, y69, y70, y71, y72, y73, y74, y75, y76, y77, y78, y79, y80, y81, y82, y83, y84, y85, y86, y87, y88, y89, y90, y91, y92, y93, y94, y95, y96, y97, y98, y99, y100, y101, y102, y103, y104, y105, y106, y107, y108, y109, y110, y111, y112, y113, y114, y115, y116, y117, y118, y119, y120, y121, y122, y123, y124, y125, y126, y127, y128, y129, y130, y131, y132, y133, y134, y135, y136, y137, y138, y139, y140, y141, y142, y143, y144, y145, y146, y147, y148, y149, y150, y151, y152, y153, y154, y155, y156, y157, y158, y159, y160, y161, y162, y163, y164, y165, y166, y167, y168, y169, y170, y171, y172, y173, y174, y175, y176, y177, y178, y179, y180, y181, y182, y183, y184, y185, y186, y187, y188, y189, y190, y191, y192, y193, y194, y195, y196, y197, y198, y199, y200, y201, y202, y203, y204, y205, y206, y207, y208, y209, y210, y211, y212, y213, y214, y215, y216, y217, y218, y219, y220, y221, y222, y223, y224, y225, y226, y227, y228, y229, y230, y231, y232, y233, y234, y235, y236, y237, y238, y239, y240, y241, y242, y243, y244, y245, y246, y247, y248, y249, y250, y251, y252, y253, y254, y255, y256, y257, y258, y259, y260, y261, y262, y263, y264, y265, y266, y267, y268, y269, y270, y271, y272, y273, y274, y275, y276, y277, y278, y279, y280, y281, y282, y283], []⟩ wc := by
  have HJ0 := Lib.hid hJ
  have HK := Lib.hid hK
  clear hJ hK
  have HU := Lib.hid hgh
  clear HU
  have HBADm : Hid (endB (-1) = false) := Lib.hid rfl
  have HBADp : Hid (endB 2 = false) := Lib.hid rfl
  conv => arg 2; whnf
  go_wp2_with fail
  go_loopg [25] 4 (fun gk e w' => ∃ z : Int, -1 ≤ z ∧ z ≤ 3 ∧ (gk : Int) = 3 - z ∧ e = .int .i64 z ∧ Hid (PlayI w1 w' w1.heap.size w1.heap.size w2.heap.size (k + 1)))
  case atStart => exact ⟨-1, by omega, by omega, by omega, rfl, HJ0⟩
  case round =>
    obtain ⟨z, hz1', hz2', hgk, rfl, HJ⟩ := hrel
    by_cases hq2 : z ≤ 2
    rotate_left
    · go_wp2_with fail
      exact meet_f (K := Q0 .normal) (Rel := fun w' => PlayI w1 w' w1.heap.size w1.heap.size w2.heap.size (k + 1)) (fr5 y0 y1 y2 y3 (.pointer (some ⟨w1.heap.size, 0, none⟩)) y6 (.pointer (some ⟨w2.heap.size, 0, none⟩)) y8 y9 y10 y11 y12 y13 y14 y15 y16 y17 y18 y19 y20 y21 y22 y23 y24 y26 y27 y28 y29 y30 y31 y32 y33 y34 y35 y36 y37 y38 y39 y40 y41 y42 y43 y44 y45 y46 y47 y48 y49 y50 y51 y52 y53 y54 y55 y56 y57 y58 y59 y60 y61 y62 y63 y64 y65 y66 y67 y68 y69 y70 y71 y72 y73 y74 y75 y76 y77 y78 y79 y80 y81 y82 y83 y84 y85 y86 y87 y88 y89 y90 y91 y92 y93 y94 y95 y96 y97 y98 y99 y100 y101 y102 y103 y104 y105 y106 y107 y108 y109 y110 y111 y112 y113 y114 y115 y116 y117 y118 y119 y120 y121 y122 y123 y124 y125 y126 y127 y128 y129 y130 y131 y132 y133 y134 y135 y136 y137 y138 y139 y140 y141 y142 y143 y144 y145 y146 y147 y148 y149 y150 y151 y152 y153 y154 y155 y156 y157 y158 y159 y160 y161 y162 y163 y164 y165 y166 y167 y168 y169 y170 y171 y172 y173 y174 y175 y176 y177 y178 y179 y180 y181 y182 y183 y184 y185 y186 y187 y188 y189 y190 y191 y192 y193 y194 y195 y196 y197 y198 y199 y200 y201 y202 y203 y204 y205 y206 y207 y208 y209 y210 y211 y212 y213 y214 y215 y216 y217 y218 y219 y220 y221 y222 y223 y224 y225 y226 y227 y228 y229 y230 y231 y232 y233 y234 y235 y236 y237 y238 y239 y240 y241 y242 y243 y244 y283) HK.out _ _ rfl HJ.out
    obtain ⟨P, R, HB⟩ := hid_two (Lib.hid HJ.out.1)
    rcases (by omega : z = -1 ∨ z = 0 ∨ z = 1 ∨ z = 2) with rfl | rfl | rfl | rfl
    · go_wp2_with (first
        | (go_at_call 23; (with_reducible refine (room_bad _ _ _ HBADm.out).mono ?_); rintro x wa ⟨rfl, rfl⟩)
        | (go_at_call 24; (with_reducible refine (rfree_bad _ _ _ HBADm.out).mono ?_); rintro x wa ⟨rfl, rfl⟩)
        | (go_at_call 25; (with_reducible refine (Flight_bad _ _ _ HBADm.out).mono ?_); rintro x wa ⟨rfl, rfl⟩)
        | (go_at_call 26; (with_reducible refine (rflight_bad _ _ _ HBADm.out).mono ?_); rintro x wa ⟨rfl, rfl⟩)
        | (go_at_call 27; (with_reducible refine (Inbox_bad _ _ _ HBADm.out).mono ?_); rintro x wa ⟨rfl, rfl⟩)
        | (go_at_call 28; (with_reducible refine (rinbox_bad _ _ _ HBADm.out).mono ?_); rintro x wa ⟨rfl, rfl⟩)
        | (go_at_call 29; (with_reducible refine (Ended_bad _ _ _ HBADm.out).mono ?_); rintro x wa ⟨rfl, rfl⟩)
        | (go_at_call 30; (with_reducible refine (rended_bad _ _ _ HBADm.out).mono ?_); rintro x wa ⟨rfl, rfl⟩))
      go_roundg (3 : Nat)
      case measure => omega
      case rel => exact ⟨0, by omega, by omega, by omega, rfl, HJ⟩
    · go_wp2_with fail
      with_reducible refine (a_room 0 0 rfl _ HB.out.1 HB.out.2 (by omega)).mono ?_
      rintro x wa ⟨rfl, na, rfl⟩
      have HBa := Lib.hid (HB.out.1.stay (Stay.drewN wr na))
      go_wp2_with fail
      with_reducible refine (a_free 0 0 rfl _ HBa.out (by omega)).mono ?_
      rintro x wb ⟨rfl, nb, rfl⟩
      have HBb := Lib.hid (HBa.out.stay (Stay.drewN _ nb))
      go_wp2_with fail
      with_reducible refine (a_flight 0 0 rfl _ (HB.out.1.stay (Stay.drewN wr _)) HB.out.2 (by omega)).mono ?_
      rintro x wc' ⟨rfl, nc, rfl⟩
      go_wp2_with fail
      with_reducible refine (a_rflight 0 0 rfl _ (HB.out.1.stay (Stay.drewN wr _)) (by omega)).mono ?_
      rintro x wd ⟨rfl, nd, rfl⟩
      go_wp2_with fail
      with_reducible refine (a_inbox 0 0 rfl _ (HB.out.1.stay (Stay.drewN wr _)) HB.out.2 (by omega)).mono ?_
      rintro x we ⟨rfl, rfl⟩
      go_wp2_with fail
      with_reducible refine (a_rinbox 0 0 rfl _ (HB.out.1.stay (Stay.drewN wr _)) (by omega)).mono ?_
      rintro x wf ⟨rfl, nf, rfl⟩
      go_wp2_with fail
      with_reducible refine (a_ended 0 0 rfl _ (HB.out.1.stay (Stay.drewN wr _)) HB.out.2 (by omega)).mono ?_
      rintro x wg ⟨rfl, rfl⟩
      go_wp2_with fail
      with_reducible refine (a_rended 0 0 rfl _ (HB.out.1.stay (Stay.drewN wr _)) (by omega)).mono ?_
      rintro x wh ⟨rfl, hbel⟩
      have HBEL := Lib.hid hbel
      clear hbel
      go_wp2_with fail
      go_roundg (2 : Nat)
      case measure => omega
      case rel => exact ⟨1, by omega, by omega, by omega, rfl, Lib.hid ⟨⟨P, R, ((HB.out.1.stay (Stay.drewN wr _)).below HBEL.out).mono (fun k h => .inl h), HB.out.2⟩, (HJ.out.2.trans (Keep.stay (Stay.drewN wr _))).trans (Keep.of_below HBEL.out (fun k h => by show k < wr.heap.size; have := HJ.out.2.size; omega))⟩⟩
    · go_wp2_with fail
      with_reducible refine (a_room 1 1 rfl _ HB.out.1 HB.out.2 (by omega)).mono ?_
      rintro x wa ⟨rfl, na, rfl⟩
      have HBa := Lib.hid (HB.out.1.stay (Stay.drewN wr na))
      go_wp2_with fail
      with_reducible refine (a_free 1 1 rfl _ HBa.out (by omega)).mono ?_
      rintro x wb ⟨rfl, nb, rfl⟩
      have HBb := Lib.hid (HBa.out.stay (Stay.drewN _ nb))
      go_wp2_with fail
      with_reducible refine (a_flight 1 1 rfl _ (HB.out.1.stay (Stay.drewN wr _)) HB.out.2 (by omega)).mono ?_
      rintro x wc' ⟨rfl, nc, rfl⟩
      go_wp2_with fail
      with_reducible refine (a_rflight 1 1 rfl _ (HB.out.1.stay (Stay.drewN wr _)) (by omega)).mono ?_
      rintro x wd ⟨rfl, nd, rfl⟩
      go_wp2_with fail
      with_reducible refine (a_inbox 1 1 rfl _ (HB.out.1.stay (Stay.drewN wr _)) HB.out.2 (by omega)).mono ?_
      rintro x we ⟨rfl, rfl⟩
      go_wp2_with fail
      with_reducible refine (a_rinbox 1 1 rfl _ (HB.out.1.stay (Stay.drewN wr _)) (by omega)).mono ?_
      rintro x wf ⟨rfl, nf, rfl⟩
      go_wp2_with fail
      with_reducible refine (a_ended 1 1 rfl _ (HB.out.1.stay (Stay.drewN wr _)) HB.out.2 (by omega)).mono ?_
      rintro x wg ⟨rfl, rfl⟩
      go_wp2_with fail
      with_reducible refine (a_rended 1 1 rfl _ (HB.out.1.stay (Stay.drewN wr _)) (by omega)).mono ?_
      rintro x wh ⟨rfl, hbel⟩
      have HBEL := Lib.hid hbel
      clear hbel
      go_wp2_with fail
      go_roundg (1 : Nat)
      case measure => omega
      case rel => exact ⟨2, by omega, by omega, by omega, rfl, Lib.hid ⟨⟨P, R, ((HB.out.1.stay (Stay.drewN wr _)).below HBEL.out).mono (fun k h => .inl h), HB.out.2⟩, (HJ.out.2.trans (Keep.stay (Stay.drewN wr _))).trans (Keep.of_below HBEL.out (fun k h => by show k < wr.heap.size; have := HJ.out.2.size; omega))⟩⟩
    · go_wp2_with (first
        | (go_at_call 23; (with_reducible refine (room_bad _ _ _ HBADp.out).mono ?_); rintro x wa ⟨rfl, rfl⟩)
        | (go_at_call 24; (with_reducible refine (rfree_bad _ _ _ HBADp.out).mono ?_); rintro x wa ⟨rfl, rfl⟩)
        | (go_at_call 25; (with_reducible refine (Flight_bad _ _ _ HBADp.out).mono ?_); rintro x wa ⟨rfl, rfl⟩)
        | (go_at_call 26; (with_reducible refine (rflight_bad _ _ _ HBADp.out).mono ?_); rintro x wa ⟨rfl, rfl⟩)
        | (go_at_call 27; (with_reducible refine (Inbox_bad _ _ _ HBADp.out).mono ?_); rintro x wa ⟨rfl, rfl⟩)
        | (go_at_call 28; (with_reducible refine (rinbox_bad _ _ _ HBADp.out).mono ?_); rintro x wa ⟨rfl, rfl⟩)
        | (go_at_call 29; (with_reducible refine (Ended_bad _ _ _ HBADp.out).mono ?_); rintro x wa ⟨rfl, rfl⟩)
        | (go_at_call 30; (with_reducible refine (rended_bad _ _ _ HBADp.out).mono ?_); rintro x wa ⟨rfl, rfl⟩))
      go_roundg (0 : Nat)
      case measure => omega
      case rel => exact ⟨3, by omega, by omega, by omega, rfl, HJ⟩
end Go.Proofs.YtlceemaannndbaaDoor

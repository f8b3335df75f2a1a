/- The document's Digest: block 16. -/
import Derived.Test.YthfpkefieemiaaaDoorRcode
import Derived.Test.YthfpkefieemiaaaDoorWords
import Derived.BigQuiet
namespace Go.Proofs.YthfpkefieemiaaaDoor
open Go.RowKit
theorem own_base {w : World} {base b2 : Nat} {e : TypeId} {size : Nat} {v : Value} {n : Nat} {cs : List Value} (h : w.ownsRow base e size v n cs) (hb : b2 ≤ base) : w.ownsRow b2 e size v n cs := by
  refine ⟨h.1, ?_⟩
  rcases h.2 with h0 | ⟨g, cap, cur, h1, hbg, h2⟩
  · exact .inl h0
  · exact .inr ⟨g, cap, cur, h1, Nat.le_trans hb hbg, h2⟩
theorem out_step (R : Regs) (j : Nat) (h : j < 8) : (R.list.take (j + 1)).flatMap wordBytes = (R.list.take j).flatMap wordBytes ++ wordBytes (R.list.getD j 0) := by
  have h2 : j < R.list.length := by rw [list_length]; exact h
  rw [List.take_succ_eq_append_getElem h2, List.flatMap_append]
  simp [List.getD, List.getElem?_eq_getElem h2]
theorem word_cells (x : Wd) : (wordBytes x).map bv = [Value.int .u8 (U x / 16777216 % 256), Value.int .u8 (U x / 65536 % 256), Value.int .u8 (U x / 256 % 256), Value.int .u8 (U x % 256)] := by rw [wb24, wb16, wb8, wb0]; rfl

set_option maxHeartbeats 8000000 in
set_option maxRecDepth 100000 in
theorem b16_any (wz : World) (gv c8 : Nat) (R : Regs)
    (_h8 : 8 ≤ c8) (_hc8 : c8 ≤ 9223372036854775807) (hgvr : gv < wz.heap.size) (hS : ∀ j, j < 8 → wz.cell? ⟨gv, j, none⟩ = some (.int .u32 (U (R.list.getD j 0))))
    (K : Act → World → Prop) (Q' : Exit → Act → World → Prop) (y0 y1 y2 y3 y4 y5 y6 y7 y8 y9 y10 y11 y12 y13 y14 y15 y16 y17 y18 y19 y20 y21 y22 y23 y24 y25 y26 y27 y28 y30 y31 y32 y33 y34 y35 y36 y37 y38 y39 y40 y41 y42 y43 y44 y45 y46 y47 y48 y49 y50 y51 y52 y53 y54 y55 y56 y57 y58 y59 y60 y61 y62 y63 y64 y65 y66 y67 y68 y69 y70 y71 y72 y73 y74 y75 y76 y77 y78 y79 y80 y81 y82 y83 y84 y85 y86 y87 y88 y89 y90 y91 y92 y93 y94 y95 y96 y97 y98 y99 y100 y101 y102 y103 y104 y105 y106 y107 y108 y109 y110 y111 y112 y113 y114 y115 y116 y117 y118 y119 y120 y121 y122 y123 y124 y125 y126 y127 y128 y129 y130 y131 y132 y133 y134 y135 y136 y137 y138 y139 y140 y141 y142 y143 y144 y145 y146 y147 y148 y149 y150 y151 y152 y153 y154 y155 y156 y157 y158 y159 y160 y161 y162 y163 y164 y165 y166 y167 y168 y169 y170 y171 y172 y173 y174 y175 y176 y177 y178 y179 y180 y181 y182 y183 y184 y185 y186 y187 y188 y189 y190 y191 y192 y193 y194 y195 y196 y197 y198 y199 y200 y201 y202 y203 y204 y205 y206 y207 y208 y209 y210 y211 y212 y213 y214 y215 y216 y217 y218 y219 y220 y221 y222 y223 y224 y225 y226 y227 y228 y229 y230 y231 y232 y233 y234 y235 y236 y237 y238 y239 y240 y241 y242 y243 y244 y245 y246 y247 y248 y249 y250 y251 y252 y253 y254 y255 y256 y257 y258 y259 y260 y261 y262 y263 y264 y265 y266 y267 y268 y269 y270 y271 y272 y273 y277 y278 y279 y280 y281 y282 y283 y284 y285 y286 y287 y288 y289 y290 y291 y292 y293 y294 y295 : Value)
    (hK : ∀ f w', Shut (w'.ownsRow wz.heap.size 5 1 (f 29) 32 ((R.list.flatMap wordBytes).map bv) ∧ Below wz.heap.size wz w') → K (fr16 y0 y1 y2 y3 y4 y5 y6 y7 y8 y9 y10 y11 y12 y13 y14 y15 y16 y17 y18 y19 y20 y21 y22 y23 y24 y25 y26 y27 y28 y30 y32 y33 y34 y35 y36 y37 y38 y39 y40 y41 y42 y43 y44 y45 y46 y47 y48 y49 y50 y51 y52 y53 y54 y55 y56 y57 y58 y59 y60 y61 y62 y63 y64 y65 y66 y67 y68 y69 y70 y71 y72 y73 y74 y75 y76 y77 y78 y79 y80 y81 y82 y83 y84 y85 y86 y87 y88 y89 y90 y91 y92 y93 y94 y95 y96 y97 y98 y99 y100 y101 y102 y103 y104 y105 y106 y107 y108 y109 y110 y111 y112 y113 y114 y115 y116 y117 y118 y119 y120 y121 y122 y123 y124 y125 y126 y127 y128 y129 y130 y131 y132 y133 y134 y135 y136 y137 y138 y139 y140 y141 y142 y143 y144 y145 y146 y147 y148 y149 y150 y151 y152 y153 y154 y155 y156 y157 y158 y159 y160 y161 y162 y163 y164 y165 y166 y167 y168 y169 y170 y171 y172 y173 y174 y175 y176 y177 y178 y179 y180 y181 y182 y183 y184 y185 y186 y187 y188 y189 y190 y191 y192 y193 y194 y195 y196 y197 y198 y199 y200 y201 y202 y203 y204 y205 y206 y207 y208 y209 y210 y211 y212 y213 y214 y215 y216 y217 y218 y219 y220 y221 y222 y223 y224 y225 y226 y227 y228 y229 y230 y231 y232 y233 y234 y235 y236 y237 y238 y239 y240 y241 y242 y243 y244 y245 y246 y247 y248 y249 y250 y251 y252 y253 y254 y255 y256 y257 y258 y259 y260 y261 y262 y263 y264 y265 y266 y267 y268 y269 y270 y271 y272 y273 (.slice (some ⟨gv, 0, none⟩) 8 c8) (.int .i64 8) y295 f) w') :
    Code.wp Tryd.prog blk16 (Exit.then K Q') ⟨#[y0, y1, y2, y3, y4, y5, y6, y7, y8, y9, y10, y11, y12, y13, y14, y15, y16, y17, y18, y19, y20, y21, y22, y23, y24, y25, y26, y27, y28, .slice (some ⟨wz.heap.size, 0, none⟩) 0 0, y30, y31, y32, y33, y34, y35, y36, y37, y38, y39, y40, y41, y42, y43, y44, y45, y46, y47, y48, y49, y50, y51, y52, y53, y54, y55, y56, y57, y58, y59, y60, y61, y62, y63, y64, y65, y66, y67, y68, y69, y70, y71, y72, y73, y74, y75, y76, y77, y78, y79, y80, y81, y82, y83, y84, y85, y86, y87, y88, y89, y90, y91, y92, y93, y94, y95, y96, y97, y98, y99, y100, y101, y102, y103, y104, y105, y106, y107, y108, y109, y110, y111, y112, y113, y114, y115, y116, y117, y118, y119, y120, y121, y122, y123, y124, y125, y126, y127, y128, y129, y130, y131, y132, y133, y134, y135, y136, y137, y138, y139, y140, y141, y142, y143, y144, y145, y146, y147, y148, y149, y150, y151, y152, y153, y154, y155, y156, y157, y158, y159, y160, y161, y162, y163, y164, y165, y166, y167, y168, y169, y170, y171, y172, y173, y174, y175, y176, y177, y178, y179, y180, y181, y182, y183, y184, y185, y186, y187, y188, y189, y190, y191, y192, y193, y194, y195, y196, y197, y198, y199, y200, y201, y202, y203, y204, y205, y206, y207, y208, y209, y210, y211, y212, y213, y214, y215, y216, y217, y218, y219, y220, y221, y222, y223, y224, y225, y226, y227, y228, y229, y230, y231, y232, y233, y234, y235, y236, y237, y238, y239, y240, y241, y242, y243, y244, y245, y246, y247, y248, y249, y250, y251, y252, y253, y254, y255, y256, y257, y258, y259, y260, y261, y262, y263, y264, y265, y266, y267, y268, y269, y270, y271, y272, y273, .slice (some ⟨gv, 0, none⟩) 8 c8, .int .i64 8, .int .i64 0, y277, y278, y279, y280, y281, y282, y283, y284, y285, y286, y287, y288, y289, y290, y291, y292, y293, y294, y295], []⟩ (wz.alloc (.cells #[] 5)) := by
  have HK := Lib.hid hK
  clear hK
  have HS := Lib.hid hS
  clear hS
  conv => arg 2; whnf
  go_wp2_with fail
  go_loopw [29, 276] (fun v i W => ∃ j : Nat, j ≤ 8 ∧ i = .int .i64 j ∧ Shut (W.ownsRow wz.heap.size 5 1 v (4 * j) (((R.list.take j).flatMap wordBytes).map bv) ∧ Below wz.heap.size wz W)) (fun _ i _ => 8 - (intOf i).toNat)
  case atStart => exact ⟨0, Nat.zero_le _, rfl, ⟨own_empty wz wz.heap.size (Nat.le_refl _), below_alloc wz (.cells #[] 5)⟩⟩
  case round =>
    obtain ⟨j, hj, rfl, HI⟩ := hrel
    have hszz : wz.heap.size ≤ wr.heap.size := HI.out.2.size
    by_cases hjl : j < 8
    · obtain ⟨x, HX⟩ : ∃ x, Shut (x = R.list.getD j 0) := ⟨_, ⟨rfl⟩⟩
      have hUx := U_nn x
      have hcx : wr.cell? ⟨gv, j, none⟩ = some (.int .u32 (U x)) := by
        refine (HI.out.2.cell (p := ⟨gv, j, none⟩) hgvr).trans ?_
        rw [HX.out]
        exact HS.out j hjl
      have hjI : (j : Int) < 8 := by omega
      go_wp2_with (first
        | (refine wl_append rfl (.tmp 280) (.tmp 292) rfl wz.heap.size u29 (4 * j) _ rfl (HI.out.1.alloc _) (wr.heap.size + 1) (some ⟨wr.heap.size, 0, none⟩) 4 4 (wordBytes x) rfl rfl ?hrd (by omega) (Nat.le_trans hszz (by simp)) ?_
           case hrd =>
             rw [word_cells]
             exact .inr ⟨_, rfl, by simp, cells_new wr #[_, _, _, _] 5⟩
           intro v2 w2 HA2
           have HB3 := Lib.hid ((HI.out.2.alloc hszz (.cells #[_, _, _, _] 5)).grown HA2.out.2 (Nat.le_trans hszz (by simp)) (fun j hj => (HI.out.1.lt j hj).1))))
      refine ⟨⟨j + 1, by omega, by go_num, ⟨?_, HB3.out⟩⟩, by simp [intOf]; omega⟩
      rw [out_step R j hjl, List.map_append, ← HX.out, show 4 * (j + 1) = 4 * j + 4 by omega]
      exact HA2.out.1
    · have HF : Shut (wr.ownsRow wz.heap.size 5 1 u29 32 ((R.list.flatMap wordBytes).map bv) ∧ Below wz.heap.size wz wr) := ⟨by
        have h1 := HI.out
        rw [List.take_of_length_le (by rw [list_length]; omega), show 4 * j = 32 by omega] at h1
        exact h1⟩
      have hjI : ¬ (j : Int) < 8 := by omega
      go_wp2_with fail
      exact meet_g (Rel := fun f w' => Shut (w'.ownsRow wz.heap.size 5 1 (f 29) 32 ((R.list.flatMap wordBytes).map bv) ∧ Below wz.heap.size wz w')) (fr16 y0 y1 y2 y3 y4 y5 y6 y7 y8 y9 y10 y11 y12 y13 y14 y15 y16 y17 y18 y19 y20 y21 y22 y23 y24 y25 y26 y27 y28 y30 y32 y33 y34 y35 y36 y37 y38 y39 y40 y41 y42 y43 y44 y45 y46 y47 y48 y49 y50 y51 y52 y53 y54 y55 y56 y57 y58 y59 y60 y61 y62 y63 y64 y65 y66 y67 y68 y69 y70 y71 y72 y73 y74 y75 y76 y77 y78 y79 y80 y81 y82 y83 y84 y85 y86 y87 y88 y89 y90 y91 y92 y93 y94 y95 y96 y97 y98 y99 y100 y101 y102 y103 y104 y105 y106 y107 y108 y109 y110 y111 y112 y113 y114 y115 y116 y117 y118 y119 y120 y121 y122 y123 y124 y125 y126 y127 y128 y129 y130 y131 y132 y133 y134 y135 y136 y137 y138 y139 y140 y141 y142 y143 y144 y145 y146 y147 y148 y149 y150 y151 y152 y153 y154 y155 y156 y157 y158 y159 y160 y161 y162 y163 y164 y165 y166 y167 y168 y169 y170 y171 y172 y173 y174 y175 y176 y177 y178 y179 y180 y181 y182 y183 y184 y185 y186 y187 y188 y189 y190 y191 y192 y193 y194 y195 y196 y197 y198 y199 y200 y201 y202 y203 y204 y205 y206 y207 y208 y209 y210 y211 y212 y213 y214 y215 y216 y217 y218 y219 y220 y221 y222 y223 y224 y225 y226 y227 y228 y229 y230 y231 y232 y233 y234 y235 y236 y237 y238 y239 y240 y241 y242 y243 y244 y245 y246 y247 y248 y249 y250 y251 y252 y253 y254 y255 y256 y257 y258 y259 y260 y261 y262 y263 y264 y265 y266 y267 y268 y269 y270 y271 y272 y273 (.slice (some ⟨gv, 0, none⟩) 8 c8) (.int .i64 8) y295) HK.out _ _ rfl HF
end Go.Proofs.YthfpkefieemiaaaDoor

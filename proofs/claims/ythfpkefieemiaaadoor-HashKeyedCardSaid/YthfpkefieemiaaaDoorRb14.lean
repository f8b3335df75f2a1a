/- The document's Digest: block 14. -/
import Derived.Test.YthfpkefieemiaaaDoorRcode
import Derived.BigQuiet
namespace Go.Proofs.YthfpkefieemiaaaDoor
open Go.RowKit

set_option maxHeartbeats 8000000 in
set_option maxRecDepth 100000 in
theorem b14_any (wp W0 : World) (B gv gs c8 : Nat) (r s : Regs)
    (_h8 : 8 ≤ c8) (_hc8 : c8 ≤ 9223372036854775807) (hB : B ≤ gv) (_hBw : B ≤ wp.heap.size) (hne : gs ≠ gv) (hO : W0.ownsRow B 43 1 (.slice (some ⟨gv, 0, none⟩) 8 c8) 8 (r.list.map uv) ∧ Below B wp W0) (hS : ∀ j, j < 8 → W0.cell? ⟨gs, j, none⟩ = some (.int .u32 (U (s.list.getD j 0))))
    (K : Act → World → Prop) (Q' : Exit → Act → World → Prop) (y0 y1 y2 y3 y4 y5 y6 y7 y9 y10 y11 y12 y13 y14 y15 y16 y17 y18 y19 y20 y21 y22 y23 y24 y25 y26 y27 y28 y29 y30 y31 y32 y33 y34 y35 y36 y37 y38 y39 y40 y41 y42 y43 y44 y45 y46 y47 y48 y49 y50 y51 y52 y53 y54 y55 y56 y57 y58 y59 y60 y61 y62 y63 y64 y65 y66 y67 y68 y69 y70 y71 y72 y73 y74 y75 y76 y77 y78 y79 y80 y81 y82 y83 y84 y85 y86 y87 y88 y89 y90 y91 y92 y93 y94 y95 y96 y97 y98 y99 y100 y101 y102 y103 y104 y105 y106 y107 y108 y109 y110 y111 y112 y113 y114 y115 y116 y117 y118 y119 y120 y121 y122 y123 y124 y125 y126 y127 y128 y129 y130 y131 y132 y133 y134 y135 y136 y137 y138 y139 y140 y141 y142 y143 y144 y145 y146 y147 y148 y149 y150 y151 y152 y153 y154 y155 y156 y157 y158 y159 y160 y161 y162 y163 y164 y165 y166 y167 y168 y169 y170 y171 y172 y173 y174 y175 y176 y177 y178 y179 y180 y181 y182 y183 y184 y185 y186 y187 y188 y189 y190 y191 y192 y193 y194 y195 y196 y197 y198 y199 y200 y201 y202 y203 y204 y205 y206 y207 y208 y209 y210 y211 y212 y213 y214 y215 y216 y217 y218 y219 y220 y221 y222 y223 y224 y225 y226 y227 y228 y229 y230 y231 y232 y233 y234 y235 y236 y237 y238 y239 y240 y241 y242 y243 y244 y245 y246 y247 y248 y249 y250 y251 y252 y253 y254 y255 y256 y257 y261 y262 y263 y264 y265 y266 y267 y268 y269 y270 y271 y272 y273 y274 y275 y276 y277 y278 y279 y280 y281 y282 y283 y284 y285 y286 y287 y288 y289 y290 y291 y292 y293 y294 y295 : Value)
    (hK : ∀ f w', Shut (w'.ownsRow B 43 1 (.slice (some ⟨gv, 0, none⟩) 8 c8) 8 ((r.plus s).list.map uv) ∧ Below B wp w') → K (fr14 y0 y1 y2 y3 y4 y5 y6 y7 (.slice (some ⟨gv, 0, none⟩) 8 c8) y9 y10 y11 y12 y13 y14 y15 y16 y17 y18 y19 y20 y21 y22 y23 y24 y25 y26 y29 y30 y31 y32 y33 y34 y35 y36 y37 y38 y39 y40 y41 y42 y43 y44 y45 y46 y47 y48 y49 y50 y51 y52 y53 y54 y55 y56 y57 y58 y59 y60 y61 y62 y63 y64 y65 y66 y67 y68 y69 y70 y71 y72 y73 y74 y75 y76 y77 y78 y79 y80 y81 y82 y83 y84 y85 y86 y87 y88 y89 y90 y91 y92 y93 y94 y95 y96 y97 y98 y99 y100 y101 y102 y103 y104 y105 y106 y107 y108 y109 y110 y111 y112 y113 y114 y115 y116 y117 y118 y119 y120 y121 y122 y123 y124 y125 y126 y127 y128 y129 y130 y131 y132 y133 y134 y135 y136 y137 y138 y139 y140 y141 y142 y143 y144 y145 y146 y147 y148 y149 y150 y151 y152 y153 y154 y155 y156 y157 y158 y159 y160 y161 y162 y163 y164 y165 y166 y167 y168 y169 y170 y171 y172 y173 y174 y175 y176 y177 y178 y179 y180 y181 y182 y183 y184 y185 y186 y187 y188 y189 y190 y191 y192 y193 y194 y195 y196 y197 y198 y199 y200 y201 y202 y203 y204 y205 y206 y207 y208 y209 y210 y211 y212 y213 y214 y215 y216 y217 y218 y219 y220 y221 y222 y223 y224 y225 y226 y227 y228 y229 y230 y231 y232 y233 y234 y235 y236 y237 y238 y239 y240 y241 y242 y243 y244 y245 y246 y247 y248 y249 y250 y251 y252 y253 y254 y255 y256 y257 (.slice (some ⟨gs, 0, none⟩) 8 8) (.int .i64 8) y273 y274 y275 y276 y277 y278 y279 y280 y281 y282 y283 y284 y285 y286 y287 y288 y289 y290 y291 y292 y293 y294 y295 f) w') :
    Code.wp Tryd.prog blk14 (Exit.then K Q') ⟨#[y0, y1, y2, y3, y4, y5, y6, y7, .slice (some ⟨gv, 0, none⟩) 8 c8, y9, y10, y11, y12, y13, y14, y15, y16, y17, y18, y19, y20, y21, y22, y23, y24, y25, y26, y27, y28, y29, y30, y31, y32, y33, y34, y35, y36, y37, y38, y39, y40, y41, y42, y43, y44, y45, y46, y47, y48, y49, y50, y51, y52, y53, y54, y55, y56, y57, y58, y59, y60, y61, y62, y63, y64, y65, y66, y67, y68, y69, y70, y71, y72, y73, y74, y75, y76, y77, y78, y79, y80, y81, y82, y83, y84, y85, y86, y87, y88, y89, y90, y91, y92, y93, y94, y95, y96, y97, y98, y99, y100, y101, y102, y103, y104, y105, y106, y107, y108, y109, y110, y111, y112, y113, y114, y115, y116, y117, y118, y119, y120, y121, y122, y123, y124, y125, y126, y127, y128, y129, y130, y131, y132, y133, y134, y135, y136, y137, y138, y139, y140, y141, y142, y143, y144, y145, y146, y147, y148, y149, y150, y151, y152, y153, y154, y155, y156, y157, y158, y159, y160, y161, y162, y163, y164, y165, y166, y167, y168, y169, y170, y171, y172, y173, y174, y175, y176, y177, y178, y179, y180, y181, y182, y183, y184, y185, y186, y187, y188, y189, y190, y191, y192, y193, y194, y195, y196, y197, y198, y199, y200, y201, y202, y203, y204, y205, y206, y207, y208, y209, y210, y211, y212, y213, y214, y215, y216, y217, y218, y219, y220, y221, y222, y223, y224, y225, y226, y227, y228, y229, y230, y231, y232, y233, y234, y235, y236, y237, y238, y239, y240, y241, y242, y243, y244, y245, y246, y247, y248, y249, y250, y251, y252, y253, y254, y255, y256, y257, .slice (some ⟨gs, 0, none⟩) 8 8, .int .i64 8, .int .i64 0, y261, y262, y263, y264, y265, y266, y267, y268, y269, y270, y271, y272, y273, y274, y275, y276, y277, y278, y279, y280, y281, y282, y283, y284, y285, y286, y287, y288, y289, y290, y291, y292, y293, y294, y295], []⟩ W0 := by
  have HK := Lib.hid hK
  clear hK
  have HO : Shut (W0.ownsRow B 43 1 (.slice (some ⟨gv, 0, none⟩) 8 c8) 8 ((addedL r s 0).map uv) ∧ Below B wp W0) := ⟨hO⟩
  have HS := Lib.hid hS
  clear hO hS
  conv => arg 2; whnf
  go_wp2_with fail
  go_loopw [260] (fun i W => ∃ k : Nat, k ≤ 8 ∧ i = .int .i64 k ∧ Shut (W.ownsRow B 43 1 (.slice (some ⟨gv, 0, none⟩) 8 c8) 8 ((addedL r s k).map uv) ∧ Below B wp W) ∧ Hid (∀ j, j < 8 → W.cell? ⟨gs, j, none⟩ = some (.int .u32 (U (s.list.getD j 0))))) (fun i _ => 8 - (intOf i).toNat)
  case atStart => exact ⟨0, Nat.zero_le _, rfl, HO, HS⟩
  case round =>
    clear HO HS
    obtain ⟨j, hj, rfl, HI, HS⟩ := hrel
    by_cases hjl : j < 8
    · obtain ⟨x, HX⟩ : ∃ x, Shut (x = r.list.getD j 0) := ⟨_, ⟨rfl⟩⟩
      obtain ⟨y, HY⟩ : ∃ x, Shut (x = s.list.getD j 0) := ⟨_, ⟨rfl⟩⟩
      have cs : wr.cell? ⟨gs, j, none⟩ = some (.int .u32 (U y)) := by rw [HY.out]; exact HS.out j hjl
      have cv : wr.cell? ⟨gv, j, none⟩ = some (.int .u32 (U x)) := by rw [own_cell HI.out.1 (by rw [addedL_length _ _ _ hj]; exact hjl), addedL_at _ _ _ hjl, HX.out]
      have fv : wr.frozen? ⟨gv, j, none⟩ = false := own_unfrozen HI.out.1 j
      have hjI : (j : Int) < 8 := by omega
      go_wp2_with fail
      rw [u_add' x y]
      have hst := HI.out.1.stored j (.int .u32 (U (x + y)))
      have e2 : ((addedL r s j).map uv).set j (.int .u32 (U (x + y))) = (addedL r s (j + 1)).map uv := by
        rw [← addedL_set r s j hjl, List.map_set, HX.out, HY.out]
        rfl
      rw [e2] at hst
      have hbl : Below B wp (wr.setCell ⟨gv, j, none⟩ (.int .u32 (U (x + y)))) := ⟨HI.out.2.os, HI.out.2.tape, HI.out.2.output, by have := HI.out.2.size; simpa [World.setCell] using this, fun i hi => (Below.heap_setCell _ _ _ _ (by show i ≠ gv; omega)).trans (HI.out.2.block i hi)⟩
      refine ⟨⟨j + 1, by omega, by go_num, ⟨hst.1, hbl⟩, Lib.hid fun i hi => ?_⟩, by simp [intOf]; omega⟩
      rw [World.cell?_setCell_far _ _ _ _ (by show gv ≠ gs; exact fun e => hne e.symm)]
      exact HS.out i hi
    · have HF : Shut (wr.ownsRow B 43 1 (.slice (some ⟨gv, 0, none⟩) 8 c8) 8 ((r.plus s).list.map uv) ∧ Below B wp wr) := ⟨by have h1 := HI.out; rw [show j = 8 by omega, addedL_full] at h1; exact h1⟩
      go_wp2_with fail
      exact meet_g (Rel := fun f w' => Shut (w'.ownsRow B 43 1 (.slice (some ⟨gv, 0, none⟩) 8 c8) 8 ((r.plus s).list.map uv) ∧ Below B wp w')) (fr14 y0 y1 y2 y3 y4 y5 y6 y7 (.slice (some ⟨gv, 0, none⟩) 8 c8) y9 y10 y11 y12 y13 y14 y15 y16 y17 y18 y19 y20 y21 y22 y23 y24 y25 y26 y29 y30 y31 y32 y33 y34 y35 y36 y37 y38 y39 y40 y41 y42 y43 y44 y45 y46 y47 y48 y49 y50 y51 y52 y53 y54 y55 y56 y57 y58 y59 y60 y61 y62 y63 y64 y65 y66 y67 y68 y69 y70 y71 y72 y73 y74 y75 y76 y77 y78 y79 y80 y81 y82 y83 y84 y85 y86 y87 y88 y89 y90 y91 y92 y93 y94 y95 y96 y97 y98 y99 y100 y101 y102 y103 y104 y105 y106 y107 y108 y109 y110 y111 y112 y113 y114 y115 y116 y117 y118 y119 y120 y121 y122 y123 y124 y125 y126 y127 y128 y129 y130 y131 y132 y133 y134 y135 y136 y137 y138 y139 y140 y141 y142 y143 y144 y145 y146 y147 y148 y149 y150 y151 y152 y153 y154 y155 y156 y157 y158 y159 y160 y161 y162 y163 y164 y165 y166 y167 y168 y169 y170 y171 y172 y173 y174 y175 y176 y177 y178 y179 y180 y181 y182 y183 y184 y185 y186 y187 y188 y189 y190 y191 y192 y193 y194 y195 y196 y197 y198 y199 y200 y201 y202 y203 y204 y205 y206 y207 y208 y209 y210 y211 y212 y213 y214 y215 y216 y217 y218 y219 y220 y221 y222 y223 y224 y225 y226 y227 y228 y229 y230 y231 y232 y233 y234 y235 y236 y237 y238 y239 y240 y241 y242 y243 y244 y245 y246 y247 y248 y249 y250 y251 y252 y253 y254 y255 y256 y257 (.slice (some ⟨gs, 0, none⟩) 8 8) (.int .i64 8) y273 y274 y275 y276 y277 y278 y279 y280 y281 y282 y283 y284 y285 y286 y287 y288 y289 y290 y291 y292 y293 y294 y295) HK.out _ _ rfl HF
end Go.Proofs.YthfpkefieemiaaaDoor

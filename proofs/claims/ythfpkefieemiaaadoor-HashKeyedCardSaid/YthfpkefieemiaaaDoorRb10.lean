/- The document's Digest: block 10. -/
import Derived.Test.YthfpkefieemiaaaDoorRcode
import Derived.BigQuiet
namespace Go.Proofs.YthfpkefieemiaaaDoor
open Go.RowKit

set_option maxHeartbeats 8000000 in
set_option maxRecDepth 100000 in
theorem b10_any (wb W0 : World) (g9 c9 : Nat) (blk : List UInt8)
    (hO : W0.ownsRow wb.heap.size 43 1 (.slice (some ⟨g9, 0, none⟩) 16 c9) 16 ((wordsOf blk).map uv) ∧ Below wb.heap.size wb W0)
    (K : Act → World → Prop) (Q' : Exit → Act → World → Prop) (y0 y1 y2 y3 y4 y5 y6 y7 y8 y10 y11 y12 y14 y15 y16 y17 y18 y19 y20 y21 y22 y23 y24 y25 y26 y27 y28 y29 y30 y31 y32 y33 y34 y35 y36 y37 y38 y39 y40 y41 y42 y43 y44 y45 y46 y47 y48 y49 y50 y51 y52 y53 y54 y55 y56 y57 y58 y59 y60 y61 y62 y63 y64 y65 y66 y67 y68 y69 y70 y71 y72 y73 y74 y75 y76 y77 y78 y79 y80 y81 y82 y83 y84 y85 y86 y87 y88 y89 y90 y91 y92 y93 y94 y95 y96 y97 y98 y99 y100 y101 y102 y103 y104 y105 y106 y107 y108 y109 y110 y111 y112 y113 y114 y115 y116 y117 y118 y119 y120 y121 y122 y123 y124 y125 y126 y127 y128 y129 y130 y131 y132 y133 y134 y135 y136 y137 y138 y139 y140 y141 y142 y143 y144 y145 y146 y147 y148 y149 y150 y151 y152 y153 y154 y155 y156 y157 y158 y159 y160 y161 y162 y163 y164 y165 y166 y167 y168 y169 y170 y171 y172 y173 y174 y175 y176 y177 y178 y179 y180 y181 y182 y183 y184 y185 y186 y187 y188 y189 y190 y191 y192 y193 y194 y195 y196 y197 y198 y199 y200 y201 y202 y203 y204 y205 y206 y207 y208 y209 y210 y211 y212 y213 y214 y215 y216 y217 y218 y219 y220 y221 y222 y223 y224 y225 y226 y227 y228 y229 y230 y231 y232 y233 y234 y235 y236 y237 y238 y239 y240 y241 y242 y243 y244 y245 y246 y247 y248 y249 y250 y251 y252 y253 y254 y255 y256 y257 y258 y259 y260 y261 y262 y263 y264 y265 y266 y267 y268 y269 y270 y271 y272 y273 y274 y275 y276 y277 y278 y279 y280 y281 y282 y283 y284 y285 y286 y287 y288 y289 y290 y291 y292 y293 y294 y295 : Value)
    (hK : ∀ f w', Shut (w'.ownsRow wb.heap.size 43 1 (f 9) 64 ((spreadL blk).map uv) ∧ Below wb.heap.size wb w') → K (fr10 y0 y1 y2 y3 y4 y5 y6 y7 y8 y10 y11 y12 y16 y17 y18 y19 y20 y21 y22 y23 y24 y25 y26 y27 y28 y29 y30 y31 y32 y33 y34 y35 y36 y37 y38 y39 y40 y41 y42 y43 y44 y45 y46 y47 y48 y49 y50 y51 y52 y53 y54 y55 y56 y57 y58 y59 y60 y61 y62 y63 y64 y65 y66 y67 y68 y69 y70 y71 y72 y73 y74 y75 y76 y77 y78 y79 y80 y81 y82 y83 y84 y85 y86 y87 y88 y89 y90 y91 y92 y93 y94 y95 y158 y159 y160 y161 y162 y163 y164 y165 y166 y167 y168 y169 y170 y171 y172 y173 y174 y175 y176 y177 y178 y179 y180 y181 y182 y183 y184 y185 y186 y187 y188 y189 y190 y191 y192 y193 y194 y195 y196 y197 y198 y199 y200 y201 y202 y203 y204 y205 y206 y207 y208 y209 y210 y211 y212 y213 y214 y215 y216 y217 y218 y219 y220 y221 y222 y223 y224 y225 y226 y227 y228 y229 y230 y231 y232 y233 y234 y235 y236 y237 y238 y239 y240 y241 y242 y243 y244 y245 y246 y247 y248 y249 y250 y251 y252 y253 y254 y255 y256 y257 y258 y259 y260 y261 y262 y263 y264 y265 y266 y267 y268 y269 y270 y271 y272 y273 y274 y275 y276 y277 y278 y279 y280 y281 y282 y283 y284 y285 y286 y287 y288 y289 y290 y291 y292 y293 y294 y295 f) w') :
    Code.wp Tryd.prog blk10 (Exit.then K Q') ⟨#[y0, y1, y2, y3, y4, y5, y6, y7, y8, .slice (some ⟨g9, 0, none⟩) 16 c9, y10, y11, y12, .int .i64 16, y14, y15, y16, y17, y18, y19, y20, y21, y22, y23, y24, y25, y26, y27, y28, y29, y30, y31, y32, y33, y34, y35, y36, y37, y38, y39, y40, y41, y42, y43, y44, y45, y46, y47, y48, y49, y50, y51, y52, y53, y54, y55, y56, y57, y58, y59, y60, y61, y62, y63, y64, y65, y66, y67, y68, y69, y70, y71, y72, y73, y74, y75, y76, y77, y78, y79, y80, y81, y82, y83, y84, y85, y86, y87, y88, y89, y90, y91, y92, y93, y94, y95, y96, y97, y98, y99, y100, y101, y102, y103, y104, y105, y106, y107, y108, y109, y110, y111, y112, y113, y114, y115, y116, y117, y118, y119, y120, y121, y122, y123, y124, y125, y126, y127, y128, y129, y130, y131, y132, y133, y134, y135, y136, y137, y138, y139, y140, y141, y142, y143, y144, y145, y146, y147, y148, y149, y150, y151, y152, y153, y154, y155, y156, y157, y158, y159, y160, y161, y162, y163, y164, y165, y166, y167, y168, y169, y170, y171, y172, y173, y174, y175, y176, y177, y178, y179, y180, y181, y182, y183, y184, y185, y186, y187, y188, y189, y190, y191, y192, y193, y194, y195, y196, y197, y198, y199, y200, y201, y202, y203, y204, y205, y206, y207, y208, y209, y210, y211, y212, y213, y214, y215, y216, y217, y218, y219, y220, y221, y222, y223, y224, y225, y226, y227, y228, y229, y230, y231, y232, y233, y234, y235, y236, y237, y238, y239, y240, y241, y242, y243, y244, y245, y246, y247, y248, y249, y250, y251, y252, y253, y254, y255, y256, y257, y258, y259, y260, y261, y262, y263, y264, y265, y266, y267, y268, y269, y270, y271, y272, y273, y274, y275, y276, y277, y278, y279, y280, y281, y282, y283, y284, y285, y286, y287, y288, y289, y290, y291, y292, y293, y294, y295], []⟩ W0 := by
  have HK := Lib.hid hK
  clear hK
  have HO : Shut (W0.ownsRow wb.heap.size 43 1 (.slice (some ⟨g9, 0, none⟩) 16 c9) (16 + 0) ((sch (wordsOf blk) 0).map uv) ∧ Below wb.heap.size wb W0) := ⟨hO⟩
  clear hO
  conv => arg 2; whnf
  go_wp2_with fail
  go_loopw [9, 13] (fun v i W => ∃ k : Nat, k ≤ 48 ∧ i = .int .i64 ((16 + k : Nat) : Int) ∧ Shut (W.ownsRow wb.heap.size 43 1 v (16 + k) ((sch (wordsOf blk) k).map uv) ∧ Below wb.heap.size wb W)) (fun _ i _ => 64 - (intOf i).toNat)
  case atStart => exact ⟨0, Nat.zero_le _, rfl, HO⟩
  case round =>
    clear HO
    obtain ⟨k, hk, rfl, HI⟩ := hrel
    obtain ⟨g, c, rfl, hg1, hg2, hc1, hc2⟩ := own_some HI.out.1 (by omega)
    by_cases hlt : k < 48
    · have hll : (sch (wordsOf blk) k).length = 16 + k := sch_length _ (wordsOf_length blk) k
      obtain ⟨x15, HX15⟩ : ∃ x, Hid (x = (sch (wordsOf blk) k).getD (16 + k - 15) 0) := ⟨_, rfl⟩
      obtain ⟨x2, HX2⟩ : ∃ x, Hid (x = (sch (wordsOf blk) k).getD (16 + k - 2) 0) := ⟨_, rfl⟩
      obtain ⟨x7, HX7⟩ : ∃ x, Hid (x = (sch (wordsOf blk) k).getD (16 + k - 7) 0) := ⟨_, rfl⟩
      obtain ⟨x16, HX16⟩ : ∃ x, Hid (x = (sch (wordsOf blk) k).getD (16 + k - 16) 0) := ⟨_, rfl⟩
      have c15 : wr.cell? ⟨g, 16 + k - 15, none⟩ = some (.int .u32 (U x15)) := by rw [own_cell HI.out.1 (by omega), HX15.out]
      have c2 : ∀ n, (wr.drewN n).cell? ⟨g, 16 + k - 2, none⟩ = some (.int .u32 (U x2)) := fun n => (own_cell HI.out.1 (by omega)).trans (by rw [HX2.out])
      have c7 : ∀ n, (wr.drewN n).cell? ⟨g, 16 + k - 7, none⟩ = some (.int .u32 (U x7)) := fun n => (own_cell HI.out.1 (by omega)).trans (by rw [HX7.out])
      have c16 : ∀ n, (wr.drewN n).cell? ⟨g, 16 + k - 16, none⟩ = some (.int .u32 (U x16)) := fun n => (own_cell HI.out.1 (by omega)).trans (by rw [HX16.out])
      have i15 : IntKind.i64.wrap (((16 + k : Nat) : Int) - 15) = ((16 + k - 15 : Nat) : Int) := by rw [IntKind.wrap_i64]; omega
      have i2 : IntKind.i64.wrap (((16 + k : Nat) : Int) - 2) = ((16 + k - 2 : Nat) : Int) := by rw [IntKind.wrap_i64]; omega
      have i7 : IntKind.i64.wrap (((16 + k : Nat) : Int) - 7) = ((16 + k - 7 : Nat) : Int) := by rw [IntKind.wrap_i64]; omega
      have i16 : IntKind.i64.wrap (((16 + k : Nat) : Int) - 16) = ((16 + k - 16 : Nat) : Int) := by rw [IntKind.wrap_i64]; omega
      have HLL := Lib.hid hll
      clear hll
      have hlt' : decide (((16 + k : Nat) : Int) < 64) = true := by simp; omega
      generalize hT : 16 + k = T at *
      have HT := Lib.hid hT
      have hT1 : T < 64 := by omega
      have hT2 : 16 ≤ T := by omega
      clear hT
      go_wp2_with fail
      go_quiet ((first
        | (go_at_call 27; with_reducible exact quietL (rr_lit x15 7 7 _ rfl (by decide) (by decide)))
        | (go_at_call 27; with_reducible exact quietL (rr_lit x15 18 18 _ rfl (by decide) (by decide)))))
      obtain ⟨wq, hwq⟩ : ∃ x, x = wr.drewN nq := ⟨_, rfl⟩
      rw [← hwq]
      have d2 : wq.cell? ⟨g, T - 2, none⟩ = some (.int .u32 (U x2)) := by rw [hwq]; exact c2 nq
      have d7 : ∀ n, (wq.drewN n).cell? ⟨g, T - 7, none⟩ = some (.int .u32 (U x7)) := by rw [hwq]; exact c7
      have d16 : ∀ n, (wq.drewN n).cell? ⟨g, T - 16, none⟩ = some (.int .u32 (U x16)) := by rw [hwq]; exact c16
      have HI2 : Shut (wq.ownsRow wb.heap.size 43 1 (.slice (some ⟨g, 0, none⟩) T c) T ((sch (wordsOf blk) k).map uv) ∧ Below wb.heap.size wb wq) := by rw [hwq]; exact ⟨HI.out.1, below_drewN HI.out.2 _⟩
      clear c15 c2 c7 c16 i15 HI hwq hg2
      go_wp2_with fail
      go_quiet ((first
        | (go_at_call 27; with_reducible exact quietL (rr_lit x2 17 17 _ rfl (by decide) (by decide)))
        | (go_at_call 27; with_reducible exact quietL (rr_lit x2 19 19 _ rfl (by decide) (by decide)))))
      obtain ⟨wz, hwz⟩ : ∃ x, x = wq.drewN nq := ⟨_, rfl⟩
      rw [← hwz]
      have z7 : wz.cell? ⟨g, T - 7, none⟩ = some (.int .u32 (U x7)) := by rw [hwz]; exact d7 _
      have z16 : wz.cell? ⟨g, T - 16, none⟩ = some (.int .u32 (U x16)) := by rw [hwz]; exact d16 _
      have HI3 : Shut (wz.ownsRow wb.heap.size 43 1 (.slice (some ⟨g, 0, none⟩) T c) T ((sch (wordsOf blk) k).map uv) ∧ Below wb.heap.size wb wz) := by rw [hwz]; exact ⟨HI2.out.1, below_drewN HI2.out.2 _⟩
      clear d2 d7 d16 i2 HI2 hwz
      go_wp2_with fail
      have rx := u_xor
      have r3 : U x15 / (8 : Int) = U (x15 >>> 3) := u_shr x15 3
      have r10 : U x2 / (1024 : Int) = U (x2 >>> 10) := u_shr x2 10
      have e0 : bits BinOp.xor IntKind.u32 (bits BinOp.xor IntKind.u32 (U (rotr x15 7)) (U (rotr x15 18))) (U x15 / 8) = U (sg0 x15) := by rw [u_xor, r3, u_xor]; rfl
      have e1 : bits BinOp.xor IntKind.u32 (bits BinOp.xor IntKind.u32 (U (rotr x2 17)) (U (rotr x2 19))) (U x2 / 1024) = U (sg1 x2) := by rw [u_xor, r10, u_xor]; rfl
      rw [e0, e1]
      clear rx r3 r10 e0 e1
      have l7 : T - 7 < T := by omega
      have l16 : T - 16 < T := by omega
      have HID : Shut (wz.drew.ownsRow wb.heap.size 43 1 (.slice (some ⟨g, 0, none⟩) T c) T ((sch (wordsOf blk) k).map uv) ∧ Below wb.heap.size wb wz.drew) := ⟨HI3.out.1, HI3.out.2.drew⟩
      have hsz3 : wb.heap.size ≤ wz.drew.heap.size := HI3.out.2.size
      refine wp_normal ?_
      go_region_law ((refine step_appendN rfl (.tmp 140) (.tmp 156) rfl wb.heap.size (.slice (some ⟨g, 0, none⟩) T c) T ((sch (wordsOf blk) k).map uv) rfl (HID.out.1.alloc _) ⟨wz.drew.heap.size, 0, none⟩ 1 1 _ rfl rfl (cell_one wz.drew _ 43) (by simp [Value.oneCell']) (by omega) (Nat.le_trans hsz3 (by simp)) ?_; intro v2 w2 HA2))
      all_goals
        go_wp2_with fail
        have h2 := HA2.out
        rw [u_add, u_add, u_add] at h2
        have eT : 16 + (k + 1) = T + 1 := by have := HT.out; omega
        refine ⟨⟨k + 1, by omega, by rw [eT]; go_num, ⟨?_, ?_⟩⟩, by simp [intOf]; omega⟩
        · have h4 : nextW (sch (wordsOf blk) k) (16 + k) = sg1 x2 + x7 + sg0 x15 + x16 := by rw [HX2.out, HX7.out, HX15.out, HX16.out, ← HT.out]; rfl
          have h5 : (sch (wordsOf blk) (k + 1)).map uv = (sch (wordsOf blk) k).map uv ++ [.int .u32 (U (sg1 x2 + x7 + sg0 x15 + x16))] := by
            show (sch (wordsOf blk) k ++ [nextW (sch (wordsOf blk) k) (16 + k)]).map uv = _
            rw [List.map_append, h4]
            rfl
          rw [eT, h5]
          exact h2.1
        · exact ((HI3.out.2.alloc hsz3 (.cells #[_] 43)).drew).grown h2.2 (Nat.le_trans hsz3 (by simp)) (fun j hj => (HI3.out.1.lt j hj).1)
    · have ek : k = 48 := by omega
      have HF : Shut (wr.ownsRow wb.heap.size 43 1 (.slice (some ⟨g, 0, none⟩) (16 + k) c) 64 ((spreadL blk).map uv) ∧ Below wb.heap.size wb wr) := ⟨by
        have h1 := HI.out
        rw [ek] at h1 ⊢
        exact h1⟩
      have hlt' : decide (((16 + k : Nat) : Int) < 64) = false := by simp; omega
      go_wp2_with fail
      exact meet_g (Rel := fun f w' => Shut (w'.ownsRow wb.heap.size 43 1 (f 9) 64 ((spreadL blk).map uv) ∧ Below wb.heap.size wb w')) (fr10 y0 y1 y2 y3 y4 y5 y6 y7 y8 y10 y11 y12 y16 y17 y18 y19 y20 y21 y22 y23 y24 y25 y26 y27 y28 y29 y30 y31 y32 y33 y34 y35 y36 y37 y38 y39 y40 y41 y42 y43 y44 y45 y46 y47 y48 y49 y50 y51 y52 y53 y54 y55 y56 y57 y58 y59 y60 y61 y62 y63 y64 y65 y66 y67 y68 y69 y70 y71 y72 y73 y74 y75 y76 y77 y78 y79 y80 y81 y82 y83 y84 y85 y86 y87 y88 y89 y90 y91 y92 y93 y94 y95 y158 y159 y160 y161 y162 y163 y164 y165 y166 y167 y168 y169 y170 y171 y172 y173 y174 y175 y176 y177 y178 y179 y180 y181 y182 y183 y184 y185 y186 y187 y188 y189 y190 y191 y192 y193 y194 y195 y196 y197 y198 y199 y200 y201 y202 y203 y204 y205 y206 y207 y208 y209 y210 y211 y212 y213 y214 y215 y216 y217 y218 y219 y220 y221 y222 y223 y224 y225 y226 y227 y228 y229 y230 y231 y232 y233 y234 y235 y236 y237 y238 y239 y240 y241 y242 y243 y244 y245 y246 y247 y248 y249 y250 y251 y252 y253 y254 y255 y256 y257 y258 y259 y260 y261 y262 y263 y264 y265 y266 y267 y268 y269 y270 y271 y272 y273 y274 y275 y276 y277 y278 y279 y280 y281 y282 y283 y284 y285 y286 y287 y288 y289 y290 y291 y292 y293 y294 y295) HK.out _ _ rfl HF
end Go.Proofs.YthfpkefieemiaaaDoor

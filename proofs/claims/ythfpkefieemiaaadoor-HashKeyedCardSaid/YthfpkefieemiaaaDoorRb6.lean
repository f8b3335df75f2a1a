/- The document's Digest: block 6. -/
import Derived.Test.YthfpkefieemiaaaDoorRcode
import Derived.BigQuiet
namespace Go.Proofs.YthfpkefieemiaaaDoor
open Go.RowKit

set_option maxHeartbeats 8000000 in
set_option maxRecDepth 100000 in
theorem b6_any (wb : World) (ad : Addr) (M c : Nat) (blk : List UInt8)
    (hM : 64 ≤ M) (hMc : M ≤ c) (hcm : c ≤ 9223372036854775807) (hM2 : M ≤ 200000) (hadb : ad.block < wb.heap.size) (hx : ∀ j, j < 64 → wb.cell? (ad.add j) = some (.int .u8 ((blk.getD j 0).toNat : Int)))
    (K : Act → World → Prop) (Q' : Exit → Act → World → Prop) (y0 y1 y2 y3 y4 y6 y7 y8 y11 y12 y13 y14 y15 y16 y17 y18 y19 y20 y21 y22 y23 y24 y25 y26 y27 y28 y29 y30 y31 y32 y33 y34 y35 y36 y37 y38 y39 y40 y41 y42 y43 y44 y45 y46 y47 y48 y49 y50 y51 y52 y53 y54 y55 y56 y57 y58 y59 y60 y61 y62 y63 y64 y65 y66 y67 y68 y69 y70 y71 y72 y73 y74 y75 y76 y77 y78 y79 y80 y81 y82 y83 y84 y85 y86 y87 y88 y89 y90 y91 y92 y93 y94 y95 y96 y97 y98 y99 y100 y101 y102 y103 y104 y105 y106 y107 y108 y109 y110 y111 y112 y113 y114 y115 y116 y117 y118 y119 y120 y121 y122 y123 y124 y125 y126 y127 y128 y129 y130 y131 y132 y133 y134 y135 y136 y137 y138 y139 y140 y141 y142 y143 y144 y145 y146 y147 y148 y149 y150 y151 y152 y153 y154 y155 y156 y157 y158 y159 y160 y161 y162 y163 y164 y165 y166 y167 y168 y169 y170 y171 y172 y173 y174 y175 y176 y177 y178 y179 y180 y181 y182 y183 y184 y185 y186 y187 y188 y189 y190 y191 y192 y193 y194 y195 y196 y197 y198 y199 y200 y201 y202 y203 y204 y205 y206 y207 y208 y209 y210 y211 y212 y213 y214 y215 y216 y217 y218 y219 y220 y221 y222 y223 y224 y225 y226 y227 y228 y229 y230 y231 y232 y233 y234 y235 y236 y237 y238 y239 y240 y241 y242 y243 y244 y245 y246 y247 y248 y249 y250 y251 y252 y253 y254 y255 y256 y257 y258 y259 y260 y261 y262 y263 y264 y265 y266 y267 y268 y269 y270 y271 y272 y273 y274 y275 y276 y277 y278 y279 y280 y281 y282 y283 y284 y285 y286 y287 y288 y289 y290 y291 y292 y293 y294 y295 : Value)
    (hK : ∀ f w', Shut (w'.ownsRow wb.heap.size 43 1 (f 9) 16 ((wordsOf blk).map uv) ∧ Below wb.heap.size wb w') → K (fr6 y0 y1 y2 y3 y4 (.slice (some ad) M c) y6 y7 y8 y13 y14 y15 y16 y17 y18 y19 y20 y21 y22 y23 y24 y25 y26 y27 y28 y29 y30 y31 y32 y33 y34 y35 y36 y37 y38 y39 y40 y41 y42 y43 y44 y45 y46 y47 y48 y49 y50 y51 y52 y53 y54 y55 y56 y57 y58 y59 y60 y61 y62 y63 y64 y65 y66 y67 y68 y69 y70 y71 y72 y96 y97 y98 y99 y100 y101 y102 y103 y104 y105 y106 y107 y108 y109 y110 y111 y112 y113 y114 y115 y116 y117 y118 y119 y120 y121 y122 y123 y124 y125 y126 y127 y128 y129 y130 y131 y132 y133 y134 y135 y136 y137 y138 y139 y140 y141 y142 y143 y144 y145 y146 y147 y148 y149 y150 y151 y152 y153 y154 y155 y156 y157 y158 y159 y160 y161 y162 y163 y164 y165 y166 y167 y168 y169 y170 y171 y172 y173 y174 y175 y176 y177 y178 y179 y180 y181 y182 y183 y184 y185 y186 y187 y188 y189 y190 y191 y192 y193 y194 y195 y196 y197 y198 y199 y200 y201 y202 y203 y204 y205 y206 y207 y208 y209 y210 y211 y212 y213 y214 y215 y216 y217 y218 y219 y220 y221 y222 y223 y224 y225 y226 y227 y228 y229 y230 y231 y232 y233 y234 y235 y236 y237 y238 y239 y240 y241 y242 y243 y244 y245 y246 y247 y248 y249 y250 y251 y252 y253 y254 y255 y256 y257 y258 y259 y260 y261 y262 y263 y264 y265 y266 y267 y268 y269 y270 y271 y272 y273 y274 y275 y276 y277 y278 y279 y280 y281 y282 y283 y284 y285 y286 y287 y288 y289 y290 y291 y292 y293 y294 y295 f) w') :
    Code.wp Tryd.prog blk6 (Exit.then K Q') ⟨#[y0, y1, y2, y3, y4, .slice (some ad) M c, y6, y7, y8, .slice (some ⟨wb.heap.size, 0, none⟩) 0 0, .int .i64 0, y11, y12, y13, y14, y15, y16, y17, y18, y19, y20, y21, y22, y23, y24, y25, y26, y27, y28, y29, y30, y31, y32, y33, y34, y35, y36, y37, y38, y39, y40, y41, y42, y43, y44, y45, y46, y47, y48, y49, y50, y51, y52, y53, y54, y55, y56, y57, y58, y59, y60, y61, y62, y63, y64, y65, y66, y67, y68, y69, y70, y71, y72, y73, y74, y75, y76, y77, y78, y79, y80, y81, y82, y83, y84, y85, y86, y87, y88, y89, y90, y91, y92, y93, y94, y95, y96, y97, y98, y99, y100, y101, y102, y103, y104, y105, y106, y107, y108, y109, y110, y111, y112, y113, y114, y115, y116, y117, y118, y119, y120, y121, y122, y123, y124, y125, y126, y127, y128, y129, y130, y131, y132, y133, y134, y135, y136, y137, y138, y139, y140, y141, y142, y143, y144, y145, y146, y147, y148, y149, y150, y151, y152, y153, y154, y155, y156, y157, y158, y159, y160, y161, y162, y163, y164, y165, y166, y167, y168, y169, y170, y171, y172, y173, y174, y175, y176, y177, y178, y179, y180, y181, y182, y183, y184, y185, y186, y187, y188, y189, y190, y191, y192, y193, y194, y195, y196, y197, y198, y199, y200, y201, y202, y203, y204, y205, y206, y207, y208, y209, y210, y211, y212, y213, y214, y215, y216, y217, y218, y219, y220, y221, y222, y223, y224, y225, y226, y227, y228, y229, y230, y231, y232, y233, y234, y235, y236, y237, y238, y239, y240, y241, y242, y243, y244, y245, y246, y247, y248, y249, y250, y251, y252, y253, y254, y255, y256, y257, y258, y259, y260, y261, y262, y263, y264, y265, y266, y267, y268, y269, y270, y271, y272, y273, y274, y275, y276, y277, y278, y279, y280, y281, y282, y283, y284, y285, y286, y287, y288, y289, y290, y291, y292, y293, y294, y295], []⟩ (wb.alloc (.cells #[] 43)) := by
  have HK := Lib.hid hK
  clear hK
  have HX := Lib.hid hx
  clear hx
  have HU := Lib.hid (And.intro hMc (And.intro hcm hM2))
  conv => arg 2; whnf
  go_wp2_with fail
  go_loopw [9, 10] (fun v i W => ∃ t : Nat, t ≤ 16 ∧ i = .int .i64 t ∧ Shut (W.ownsRow wb.heap.size 43 1 v t (((wordsOf blk).take t).map uv) ∧ Below wb.heap.size wb W)) (fun _ i _ => 16 - (intOf i).toNat)
  case atStart => exact ⟨0, Nat.zero_le _, rfl, ⟨own_emptyN wb wb.heap.size 43 (Nat.le_refl _), below_alloc wb (.cells #[] 43)⟩⟩
  case round =>
    obtain ⟨t, ht, rfl, HI⟩ := hrel
    by_cases hlt : t < 16
    · have htI : (t : Int) < 16 := by omega
      go_wp2_with fail
      go_loop [11, 12] (fun x i => ∃ k : Nat, k ≤ 4 ∧ i = .int .i64 k ∧ x = .int .u32 (U (part4 blk (4 * t) k))) (fun _ i => 4 - (intOf i).toNat)
      case atStart => exact ⟨0, Nat.zero_le _, rfl, rfl⟩
      case round =>
        obtain ⟨k, hk, rfl, rfl⟩ := hrel
        by_cases hk4 : k < 4
        · have hcell : wr.cell? (ad.add (4 * t + k)) = some (.int .u8 ((blk.getD (4 * t + k) 0).toNat : Int)) := by
            refine (HI.out.2.cell (p := ad.add (4 * t + k)) ?_).trans (HX.out _ (by omega))
            have e4 : (ad.add (4 * t + k)).block = ad.block := by unfold Addr.add; split <;> rfl
            rw [e4]
            exact hadb
          have hkI : (k : Int) < 4 := by omega
          obtain ⟨p, HP⟩ : ∃ p, Shut (p = part4 blk (4 * t) k) := ⟨_, ⟨rfl⟩⟩
          obtain ⟨b, HB⟩ : ∃ b, Shut (b = blk.getD (4 * t + k) 0) := ⟨_, ⟨rfl⟩⟩
          rw [← HB.out] at hcell
          rw [← HP.out]
          have hsg : IntKind.u32.signed = false := rfl
          have hsh := u_shl' p 8
          go_wp2_with fail
          refine ⟨⟨k + 1, by omega, by go_num, ?_⟩, by simp [intOf]; omega⟩
          have e5 : U p * 256 % 4294967296 = U (p <<< 8) := u_shl' p 8
          have e6 : ((b.toNat : Int)) % 4294967296 = (b.toNat : Int) := by have := b.toNat_lt; omega
          rw [part4_next, ← HP.out, ← HB.out, ← u_step4, ← e5, e6]
          rfl
        · have hk4' : k = 4 := by omega
          obtain ⟨x, HX4⟩ : ∃ x, Shut (x = wordAt blk t) := ⟨_, ⟨rfl⟩⟩
          rw [hk4', part4_at, ← HX4.out]
          have hszr : wb.heap.size ≤ wr.heap.size := Nat.le_trans HI.out.2.size (Nat.le_refl _)
          go_wp2_with (first
            | (refine wl_appendN rfl (.tmp 92) (.tmp 94) 52 43 (.int .u32 0) 4 (by decide) Tryd.underlying52 w32_info rfl rfl wb.heap.size _ t (((wordsOf blk).take t).map uv) rfl (HI.out.1.alloc _) ⟨wr.heap.size, 0, none⟩ 1 1 [uv x] rfl rfl (cell_one wr (uv x) 43) (by simp [uv, Value.oneCell']) (by omega) (Nat.le_trans hszr (by simp)) ?_
               intro v2 w2 HA2
               have HB3 := Lib.hid ((HI.out.2.alloc hszr (.cells #[_] 43)).grown HA2.out.2.1 (Nat.le_trans hszr (by simp)) (fun j hj => (HI.out.1.lt j hj).1))))
          refine ⟨⟨t + 1, by omega, by go_num, ⟨?_, HB3.out⟩⟩, by simp [intOf]; omega⟩
          rw [wordsOf_take blk t hlt, List.map_append, ← HX4.out]
          exact HA2.out.1
    · have HF : Shut (wr.ownsRow wb.heap.size 43 1 u9 16 ((wordsOf blk).map uv) ∧ Below wb.heap.size wb wr) := ⟨by
        have h1 := HI.out
        rw [show t = 16 by omega, List.take_of_length_le (by rw [wordsOf_length]; exact Nat.le_refl _)] at h1
        exact h1⟩
      have htI : ¬ (t : Int) < 16 := by omega
      go_wp2_with fail
      exact meet_g (Rel := fun f w' => Shut (w'.ownsRow wb.heap.size 43 1 (f 9) 16 ((wordsOf blk).map uv) ∧ Below wb.heap.size wb w')) (fr6 y0 y1 y2 y3 y4 (.slice (some ad) M c) y6 y7 y8 y13 y14 y15 y16 y17 y18 y19 y20 y21 y22 y23 y24 y25 y26 y27 y28 y29 y30 y31 y32 y33 y34 y35 y36 y37 y38 y39 y40 y41 y42 y43 y44 y45 y46 y47 y48 y49 y50 y51 y52 y53 y54 y55 y56 y57 y58 y59 y60 y61 y62 y63 y64 y65 y66 y67 y68 y69 y70 y71 y72 y96 y97 y98 y99 y100 y101 y102 y103 y104 y105 y106 y107 y108 y109 y110 y111 y112 y113 y114 y115 y116 y117 y118 y119 y120 y121 y122 y123 y124 y125 y126 y127 y128 y129 y130 y131 y132 y133 y134 y135 y136 y137 y138 y139 y140 y141 y142 y143 y144 y145 y146 y147 y148 y149 y150 y151 y152 y153 y154 y155 y156 y157 y158 y159 y160 y161 y162 y163 y164 y165 y166 y167 y168 y169 y170 y171 y172 y173 y174 y175 y176 y177 y178 y179 y180 y181 y182 y183 y184 y185 y186 y187 y188 y189 y190 y191 y192 y193 y194 y195 y196 y197 y198 y199 y200 y201 y202 y203 y204 y205 y206 y207 y208 y209 y210 y211 y212 y213 y214 y215 y216 y217 y218 y219 y220 y221 y222 y223 y224 y225 y226 y227 y228 y229 y230 y231 y232 y233 y234 y235 y236 y237 y238 y239 y240 y241 y242 y243 y244 y245 y246 y247 y248 y249 y250 y251 y252 y253 y254 y255 y256 y257 y258 y259 y260 y261 y262 y263 y264 y265 y266 y267 y268 y269 y270 y271 y272 y273 y274 y275 y276 y277 y278 y279 y280 y281 y282 y283 y284 y285 y286 y287 y288 y289 y290 y291 y292 y293 y294 y295) HK.out _ _ rfl HF
end Go.Proofs.YthfpkefieemiaaaDoor

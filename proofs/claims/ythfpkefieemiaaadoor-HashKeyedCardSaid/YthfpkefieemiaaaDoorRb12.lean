/- The document's Digest: block 12. -/
import Derived.Test.YthfpkefieemiaaaDoorRcode
import Derived.BigQuiet
namespace Go.Proofs.YthfpkefieemiaaaDoor
open Go.RowKit

set_option maxHeartbeats 8000000 in
set_option maxRecDepth 100000 in
theorem b12_any (w0 : World) (gt g9 c9 kc : Nat) (ka : Addr) (L : List Wd) (r : Regs)
    (_h64 : 64 ≤ c9) (_hc9 : c9 ≤ 9223372036854775807) (_hkc : 64 ≤ kc) (_hkm : kc ≤ 9223372036854775807) (hT : w0.cell? ⟨gt, 1, none⟩ = some (.slice (some ka) 64 kc)) (hK0 : ∀ t, t < 64 → w0.cell? (ka.add t) = some (.int .u32 (U (KT.getD t 0)))) (hL : ∀ t, t < 64 → w0.cell? ⟨g9, t, none⟩ = some (.int .u32 (U (L.getD t 0))))
    (K : Act → World → Prop) (Q' : Exit → Act → World → Prop) (y1 y2 y3 y4 y5 y6 y7 y8 y10 y11 y12 y13 y14 y15 y25 y26 y27 y28 y29 y30 y31 y32 y33 y34 y35 y36 y37 y38 y39 y40 y41 y42 y43 y44 y45 y46 y47 y48 y49 y50 y51 y52 y53 y54 y55 y56 y57 y58 y59 y60 y61 y62 y63 y64 y65 y66 y67 y68 y69 y70 y71 y72 y73 y74 y75 y76 y77 y78 y79 y80 y81 y82 y83 y84 y85 y86 y87 y88 y89 y90 y91 y92 y93 y94 y95 y96 y97 y98 y99 y100 y101 y102 y103 y104 y105 y106 y107 y108 y109 y110 y111 y112 y113 y114 y115 y116 y117 y118 y119 y120 y121 y122 y123 y124 y125 y126 y127 y128 y129 y130 y131 y132 y133 y134 y135 y136 y137 y138 y139 y140 y141 y142 y143 y144 y145 y146 y147 y148 y149 y150 y151 y152 y153 y154 y155 y156 y157 y158 y159 y160 y161 y162 y163 y164 y165 y166 y167 y168 y169 y170 y171 y172 y173 y174 y175 y176 y177 y178 y179 y180 y181 y182 y183 y184 y185 y186 y187 y188 y189 y190 y191 y192 y193 y194 y195 y196 y197 y198 y199 y200 y201 y202 y203 y204 y205 y206 y207 y208 y209 y210 y211 y212 y213 y214 y215 y216 y217 y218 y219 y220 y221 y222 y223 y224 y225 y226 y227 y228 y229 y230 y231 y232 y233 y234 y235 y236 y237 y238 y239 y240 y241 y242 y243 y244 y245 y246 y247 y248 y249 y250 y251 y252 y253 y254 y255 y256 y257 y258 y259 y260 y261 y262 y263 y264 y265 y266 y267 y268 y269 y270 y271 y272 y273 y274 y275 y276 y277 y278 y279 y280 y281 y282 y283 y284 y285 y286 y287 y288 y289 y290 y291 y292 y293 y294 y295 : Value)
    (hK : ∀ f w', (∃ q : Regs, f 16 = .int .u32 (U q.a) ∧ f 17 = .int .u32 (U q.b) ∧ f 18 = .int .u32 (U q.c) ∧ f 19 = .int .u32 (U q.d) ∧ f 20 = .int .u32 (U q.e) ∧ f 21 = .int .u32 (U q.f) ∧ f 22 = .int .u32 (U q.g) ∧ f 23 = .int .u32 (U q.h) ∧ Shut (q = rounds KT L r 64) ∧ Hid (∃ n, w' = w0.drewN n)) → K (fr12 (.pointer (some ⟨gt, 0, none⟩)) y1 y2 y3 y4 y5 y6 y7 y8 (.slice (some ⟨g9, 0, none⟩) 64 c9) y10 y11 y12 y13 y14 y15 y27 y28 y29 y30 y31 y32 y33 y34 y35 y36 y37 y38 y39 y40 y41 y42 y43 y44 y45 y46 y47 y48 y49 y50 y51 y52 y53 y54 y55 y56 y57 y58 y59 y60 y61 y62 y63 y64 y65 y66 y67 y68 y69 y70 y71 y72 y73 y74 y75 y76 y77 y78 y79 y80 y81 y82 y83 y84 y85 y86 y87 y88 y89 y90 y91 y92 y93 y94 y95 y96 y97 y98 y99 y100 y101 y102 y103 y104 y105 y106 y107 y108 y109 y110 y111 y112 y113 y114 y115 y116 y117 y118 y119 y120 y121 y122 y123 y124 y125 y126 y127 y128 y129 y130 y131 y132 y133 y134 y135 y136 y137 y138 y139 y140 y141 y142 y143 y144 y145 y146 y147 y148 y149 y150 y151 y152 y153 y154 y155 y156 y157 y158 y159 y160 y161 y162 y163 y164 y165 y166 y167 y168 y169 y170 y171 y172 y173 y174 y175 y176 y177 y178 y179 y180 y181 y250 y251 y252 y253 y254 y255 y256 y257 y258 y259 y260 y261 y262 y263 y264 y265 y266 y267 y268 y269 y270 y271 y272 y273 y274 y275 y276 y277 y278 y279 y280 y281 y282 y283 y284 y285 y286 y287 y288 y289 y290 y291 y292 y293 y294 y295 f) w') :
    Code.wp Tryd.prog blk12 (Exit.then K Q') ⟨#[.pointer (some ⟨gt, 0, none⟩), y1, y2, y3, y4, y5, y6, y7, y8, .slice (some ⟨g9, 0, none⟩) 64 c9, y10, y11, y12, y13, y14, y15, .int .u32 (U r.a), .int .u32 (U r.b), .int .u32 (U r.c), .int .u32 (U r.d), .int .u32 (U r.e), .int .u32 (U r.f), .int .u32 (U r.g), .int .u32 (U r.h), .int .i64 0, y25, y26, y27, y28, y29, y30, y31, y32, y33, y34, y35, y36, y37, y38, y39, y40, y41, y42, y43, y44, y45, y46, y47, y48, y49, y50, y51, y52, y53, y54, y55, y56, y57, y58, y59, y60, y61, y62, y63, y64, y65, y66, y67, y68, y69, y70, y71, y72, y73, y74, y75, y76, y77, y78, y79, y80, y81, y82, y83, y84, y85, y86, y87, y88, y89, y90, y91, y92, y93, y94, y95, y96, y97, y98, y99, y100, y101, y102, y103, y104, y105, y106, y107, y108, y109, y110, y111, y112, y113, y114, y115, y116, y117, y118, y119, y120, y121, y122, y123, y124, y125, y126, y127, y128, y129, y130, y131, y132, y133, y134, y135, y136, y137, y138, y139, y140, y141, y142, y143, y144, y145, y146, y147, y148, y149, y150, y151, y152, y153, y154, y155, y156, y157, y158, y159, y160, y161, y162, y163, y164, y165, y166, y167, y168, y169, y170, y171, y172, y173, y174, y175, y176, y177, y178, y179, y180, y181, y182, y183, y184, y185, y186, y187, y188, y189, y190, y191, y192, y193, y194, y195, y196, y197, y198, y199, y200, y201, y202, y203, y204, y205, y206, y207, y208, y209, y210, y211, y212, y213, y214, y215, y216, y217, y218, y219, y220, y221, y222, y223, y224, y225, y226, y227, y228, y229, y230, y231, y232, y233, y234, y235, y236, y237, y238, y239, y240, y241, y242, y243, y244, y245, y246, y247, y248, y249, y250, y251, y252, y253, y254, y255, y256, y257, y258, y259, y260, y261, y262, y263, y264, y265, y266, y267, y268, y269, y270, y271, y272, y273, y274, y275, y276, y277, y278, y279, y280, y281, y282, y283, y284, y285, y286, y287, y288, y289, y290, y291, y292, y293, y294, y295], []⟩ w0 := by
  have HK := Lib.hid hK
  clear hK
  have HT := Lib.hid hT
  have HK0 := Lib.hid hK0
  have HL := Lib.hid hL
  clear hT hK0 hL
  conv => arg 2; whnf
  go_wp2_with fail
  go_loopw [16, 17, 18, 19, 20, 21, 22, 23, 24] (fun v0 v1 v2 v3 v4 v5 v6 v7 i W => ∃ (k : Nat) (q : Regs), k ≤ 64 ∧ i = .int .i64 k ∧ v0 = .int .u32 (U q.a) ∧ v1 = .int .u32 (U q.b) ∧ v2 = .int .u32 (U q.c) ∧ v3 = .int .u32 (U q.d) ∧ v4 = .int .u32 (U q.e) ∧ v5 = .int .u32 (U q.f) ∧ v6 = .int .u32 (U q.g) ∧ v7 = .int .u32 (U q.h) ∧ Shut (q = rounds KT L r k) ∧ Hid (∃ n, W = w0.drewN n)) (fun _ _ _ _ _ _ _ _ i _ => 64 - (intOf i).toNat)
  case atStart => exact ⟨0, r, Nat.zero_le _, rfl, rfl, rfl, rfl, rfl, rfl, rfl, rfl, rfl, ⟨rfl⟩, Lib.hid ⟨0, rfl⟩⟩
  case round =>
    obtain ⟨k, ⟨a', b', c', d', e', f', g', h'⟩, hk, rfl, rfl, rfl, rfl, rfl, rfl, rfl, rfl, rfl, HQ, HN⟩ := hrel
    by_cases hlt : k < 64
    · obtain ⟨kk, HKK⟩ : ∃ x, Shut (x = KT.getD k 0) := ⟨_, ⟨rfl⟩⟩
      obtain ⟨ww, HWW⟩ : ∃ x, Shut (x = L.getD k 0) := ⟨_, ⟨rfl⟩⟩
      have cT : wr.cell? ⟨gt, 1, none⟩ = some (.slice (some ka) 64 kc) := by obtain ⟨n, hn⟩ := HN.out; rw [hn]; exact HT.out
      have cK : wr.cell? (ka.add k) = some (.int .u32 (U kk)) := by obtain ⟨n, hn⟩ := HN.out; rw [hn, HKK.out]; exact HK0.out k hlt
      have cW : wr.cell? ⟨g9, k, none⟩ = some (.int .u32 (U ww)) := by obtain ⟨n, hn⟩ := HN.out; rw [hn, HWW.out]; exact HL.out k hlt
      dsimp only at *
      have hsg : IntKind.u32.signed = false := rfl
      have hkI : (k : Int) < 64 := by omega
      have rx := u_xor
      go_wp2_with fail
      go_quiet ((first
        | (go_at_call 27; with_reducible exact quietL (rr_lit e' 6 6 _ rfl (by decide) (by decide)))
        | (go_at_call 27; with_reducible exact quietL (rr_lit e' 11 11 _ rfl (by decide) (by decide)))
        | (go_at_call 27; with_reducible exact quietL (rr_lit e' 25 25 _ rfl (by decide) (by decide)))))
      go_wp2_with fail
      with_reducible refine (rr_lit a' 2 2 _ rfl (by decide) (by decide)).mono ?_
      rintro e1 w' ⟨rfl, rfl⟩
      go_wp2_with fail
      with_reducible refine (rr_lit a' 13 13 _ rfl (by decide) (by decide)).mono ?_
      rintro e1 w' ⟨rfl, rfl⟩
      go_wp2_with fail
      with_reducible refine (rr_lit a' 22 22 _ rfl (by decide) (by decide)).mono ?_
      rintro e1 w' ⟨rfl, rfl⟩
      clear rx
      go_wp2_with fail
      have e1 := t1_eq ⟨a', b', c', d', e', f', g', h'⟩ kk ww
      have e2 := t2_eq ⟨a', b', c', d', e', f', g', h'⟩
      dsimp only at e1 e2
      rw [u_xor (rotr a' 2 ^^^ rotr a' 13) (rotr a' 22)]
      have e3 : rotr e' 6 ^^^ rotr e' 11 ^^^ rotr e' 25 = bg1 e' := rfl
      have e4 : rotr a' 2 ^^^ rotr a' 13 ^^^ rotr a' 22 = bg0 a' := rfl
      rw [e3, e4, e1, e2, u_add', u_add']
      refine ⟨⟨k + 1, rnd kk ww ⟨a', b', c', d', e', f', g', h'⟩, by omega, by go_num, rfl, rfl, rfl, rfl, rfl, rfl, rfl, rfl, ⟨?_⟩, ?_⟩, by simp [intOf]; omega⟩
      · rw [rounds, HQ.out, ← HKK.out, ← HWW.out]
      · obtain ⟨n, hn⟩ := HN.out
        exact Lib.hid ⟨n + nq, by rw [hn]; simp [World.drewN, Nat.add_assoc]⟩
    · have hsg : IntKind.u32.signed = false := rfl
      have HQ' : Shut (⟨a', b', c', d', e', f', g', h'⟩ = rounds KT L r 64) := ⟨by rw [HQ.out, show k = 64 by omega]⟩
      dsimp only at *
      go_wp2_with fail
      exact meet_g (Rel := fun f w' => (∃ q : Regs, f 16 = .int .u32 (U q.a) ∧ f 17 = .int .u32 (U q.b) ∧ f 18 = .int .u32 (U q.c) ∧ f 19 = .int .u32 (U q.d) ∧ f 20 = .int .u32 (U q.e) ∧ f 21 = .int .u32 (U q.f) ∧ f 22 = .int .u32 (U q.g) ∧ f 23 = .int .u32 (U q.h) ∧ Shut (q = rounds KT L r 64) ∧ Hid (∃ n, w' = w0.drewN n))) (fr12 (.pointer (some ⟨gt, 0, none⟩)) y1 y2 y3 y4 y5 y6 y7 y8 (.slice (some ⟨g9, 0, none⟩) 64 c9) y10 y11 y12 y13 y14 y15 y27 y28 y29 y30 y31 y32 y33 y34 y35 y36 y37 y38 y39 y40 y41 y42 y43 y44 y45 y46 y47 y48 y49 y50 y51 y52 y53 y54 y55 y56 y57 y58 y59 y60 y61 y62 y63 y64 y65 y66 y67 y68 y69 y70 y71 y72 y73 y74 y75 y76 y77 y78 y79 y80 y81 y82 y83 y84 y85 y86 y87 y88 y89 y90 y91 y92 y93 y94 y95 y96 y97 y98 y99 y100 y101 y102 y103 y104 y105 y106 y107 y108 y109 y110 y111 y112 y113 y114 y115 y116 y117 y118 y119 y120 y121 y122 y123 y124 y125 y126 y127 y128 y129 y130 y131 y132 y133 y134 y135 y136 y137 y138 y139 y140 y141 y142 y143 y144 y145 y146 y147 y148 y149 y150 y151 y152 y153 y154 y155 y156 y157 y158 y159 y160 y161 y162 y163 y164 y165 y166 y167 y168 y169 y170 y171 y172 y173 y174 y175 y176 y177 y178 y179 y180 y181 y250 y251 y252 y253 y254 y255 y256 y257 y258 y259 y260 y261 y262 y263 y264 y265 y266 y267 y268 y269 y270 y271 y272 y273 y274 y275 y276 y277 y278 y279 y280 y281 y282 y283 y284 y285 y286 y287 y288 y289 y290 y291 y292 y293 y294 y295) HK.out _ _ rfl ⟨⟨a', b', c', d', e', f', g', h'⟩, rfl, rfl, rfl, rfl, rfl, rfl, rfl, rfl, HQ', HN⟩
end Go.Proofs.YthfpkefieemiaaaDoor

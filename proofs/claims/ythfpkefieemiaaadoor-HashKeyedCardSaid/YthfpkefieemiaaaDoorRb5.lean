/- The document's Digest: block 5. -/
import Derived.Test.YthfpkefieemiaaaDoorRb6
import Derived.Test.YthfpkefieemiaaaDoorRb10
import Derived.Test.YthfpkefieemiaaaDoorRb12
import Derived.Test.YthfpkefieemiaaaDoorRb14
import Derived.BigQuiet
namespace Go.Proofs.YthfpkefieemiaaaDoor
open Go.RowKit
noncomputable def blk5 : Code := (Tryd.f16.body.bind (blockOf 5)).getD .skip
set_option maxRecDepth 100000 in
def fr5 (y0 y1 y2 y3 y4 y5 y6 y7 y8 y29 y30 y31 y32 y33 y34 y35 y36 y37 y38 y39 y40 y41 y42 y43 y44 y45 y46 y47 y48 y49 y50 y51 y52 y53 y54 y55 y56 y57 y58 y59 y60 y61 y62 y63 y64 y65 y66 y273 y274 y275 y276 y277 y278 y279 y280 y281 y282 y283 y284 y285 y286 y287 y288 y289 y290 y291 y292 y293 y294 y295 : Value) (f : Nat → Value) : Act := ⟨#[y0, y1, y2, y3, y4, y5, y6, y7, y8, f 9, f 10, f 11, f 12, f 13, f 14, f 15, f 16, f 17, f 18, f 19, f 20, f 21, f 22, f 23, f 24, f 25, f 26, f 27, f 28, y29, y30, y31, y32, y33, y34, y35, y36, y37, y38, y39, y40, y41, y42, y43, y44, y45, y46, y47, y48, y49, y50, y51, y52, y53, y54, y55, y56, y57, y58, y59, y60, y61, y62, y63, y64, y65, y66, f 67, f 68, f 69, f 70, f 71, f 72, f 73, f 74, f 75, f 76, f 77, f 78, f 79, f 80, f 81, f 82, f 83, f 84, f 85, f 86, f 87, f 88, f 89, f 90, f 91, f 92, f 93, f 94, f 95, f 96, f 97, f 98, f 99, f 100, f 101, f 102, f 103, f 104, f 105, f 106, f 107, f 108, f 109, f 110, f 111, f 112, f 113, f 114, f 115, f 116, f 117, f 118, f 119, f 120, f 121, f 122, f 123, f 124, f 125, f 126, f 127, f 128, f 129, f 130, f 131, f 132, f 133, f 134, f 135, f 136, f 137, f 138, f 139, f 140, f 141, f 142, f 143, f 144, f 145, f 146, f 147, f 148, f 149, f 150, f 151, f 152, f 153, f 154, f 155, f 156, f 157, f 158, f 159, f 160, f 161, f 162, f 163, f 164, f 165, f 166, f 167, f 168, f 169, f 170, f 171, f 172, f 173, f 174, f 175, f 176, f 177, f 178, f 179, f 180, f 181, f 182, f 183, f 184, f 185, f 186, f 187, f 188, f 189, f 190, f 191, f 192, f 193, f 194, f 195, f 196, f 197, f 198, f 199, f 200, f 201, f 202, f 203, f 204, f 205, f 206, f 207, f 208, f 209, f 210, f 211, f 212, f 213, f 214, f 215, f 216, f 217, f 218, f 219, f 220, f 221, f 222, f 223, f 224, f 225, f 226, f 227, f 228, f 229, f 230, f 231, f 232, f 233, f 234, f 235, f 236, f 237, f 238, f 239, f 240, f 241, f 242, f 243, f 244, f 245, f 246, f 247, f 248, f 249, f 250, f 251, f 252, f 253, f 254, f 255, f 256, f 257, f 258, f 259, f 260, f 261, f 262, f 263, f 264, f 265, f 266, f 267, f 268, f 269, f 270, f 271, f 272, y273, y274, y275, y276, y277, y278, y279, y280, y281, y282, y283, y284, y285, y286, y287, y288, y289, y290, y291, y292, y293, y294, y295], []⟩
theorem add_block (a : Addr) (j : Nat) : (a.add j).block = a.block := by
  unfold Addr.add
  split <;> rfl
theorem cells8 (w : World) (q : Regs) : ∀ j, j < 8 → (w.alloc (.cells #[.int .u32 (U q.a), .int .u32 (U q.b), .int .u32 (U q.c), .int .u32 (U q.d), .int .u32 (U q.e), .int .u32 (U q.f), .int .u32 (U q.g), .int .u32 (U q.h)] 43)).cell? ⟨w.heap.size, j, none⟩ = some (.int .u32 (U (q.list.getD j 0))) := by
  intro j hj
  rw [show (w.alloc (.cells #[.int .u32 (U q.a), .int .u32 (U q.b), .int .u32 (U q.c), .int .u32 (U q.d), .int .u32 (U q.e), .int .u32 (U q.f), .int .u32 (U q.g), .int .u32 (U q.h)] 43)).cell? ⟨w.heap.size, j, none⟩ = _ from World.cell?_alloc_mark w _ 43 (0, 0) j]
  match j, hj with
  | 0, _ => rfl
  | 1, _ => rfl
  | 2, _ => rfl
  | 3, _ => rfl
  | 4, _ => rfl
  | 5, _ => rfl
  | 6, _ => rfl
  | 7, _ => rfl

set_option maxHeartbeats 8000000 in
set_option maxRecDepth 100000 in
theorem b5_any (wp W0 : World) (B gt gv c8 M c kc : Nat) (ad ka : Addr) (blk : List UInt8) (r : Regs)
    (hM : 64 ≤ M) (hMc : M ≤ c) (hcm : c ≤ 9223372036854775807) (hM2 : M ≤ 200000) (h8 : 8 ≤ c8) (hc8 : c8 ≤ 9223372036854775807) (hB : B ≤ gv) (hBw : B ≤ wp.heap.size) (hgt : gt < B) (hadb : ad.block < B) (hx : ∀ j, j < 64 → wp.cell? (ad.add j) = some (.int .u8 ((blk.getD j 0).toNat : Int))) (hkc : 64 ≤ kc) (hkm : kc ≤ 9223372036854775807) (hka : ka.block < B) (hT : wp.cell? ⟨gt, 1, none⟩ = some (.slice (some ka) 64 kc)) (hK0 : ∀ t, t < 64 → wp.cell? (ka.add t) = some (.int .u32 (U (KT.getD t 0)))) (hO : W0.ownsRow B 43 1 (.slice (some ⟨gv, 0, none⟩) 8 c8) 8 (r.list.map uv) ∧ Below B wp W0)
    (K : Act → World → Prop) (Q' : Exit → Act → World → Prop) (y1 y2 y3 y4 y6 y7 y9 y10 y11 y12 y13 y14 y15 y16 y17 y18 y19 y20 y21 y22 y23 y24 y25 y26 y27 y28 y29 y30 y31 y32 y33 y34 y35 y36 y37 y38 y39 y40 y41 y42 y43 y44 y45 y46 y47 y48 y49 y50 y51 y52 y53 y54 y55 y56 y57 y58 y59 y60 y61 y62 y63 y64 y65 y66 y67 y68 y69 y70 y71 y72 y73 y74 y75 y76 y77 y78 y79 y80 y81 y82 y83 y84 y85 y86 y87 y88 y89 y90 y91 y92 y93 y94 y95 y96 y97 y98 y99 y100 y101 y102 y103 y104 y105 y106 y107 y108 y109 y110 y111 y112 y113 y114 y115 y116 y117 y118 y119 y120 y121 y122 y123 y124 y125 y126 y127 y128 y129 y130 y131 y132 y133 y134 y135 y136 y137 y138 y139 y140 y141 y142 y143 y144 y145 y146 y147 y148 y149 y150 y151 y152 y153 y154 y155 y156 y157 y158 y159 y160 y161 y162 y163 y164 y165 y166 y167 y168 y169 y170 y171 y172 y173 y174 y175 y176 y177 y178 y179 y180 y181 y182 y183 y184 y185 y186 y187 y188 y189 y190 y191 y192 y193 y194 y195 y196 y197 y198 y199 y200 y201 y202 y203 y204 y205 y206 y207 y208 y209 y210 y211 y212 y213 y214 y215 y216 y217 y218 y219 y220 y221 y222 y223 y224 y225 y226 y227 y228 y229 y230 y231 y232 y233 y234 y235 y236 y237 y238 y239 y240 y241 y242 y243 y244 y245 y246 y247 y248 y249 y250 y251 y252 y253 y254 y255 y256 y257 y258 y259 y260 y261 y262 y263 y264 y265 y266 y267 y268 y269 y270 y271 y272 y273 y274 y275 y276 y277 y278 y279 y280 y281 y282 y283 y284 y285 y286 y287 y288 y289 y290 y291 y292 y293 y294 y295 : Value)
    (hK : ∀ f w', Shut (w'.ownsRow B 43 1 (.slice (some ⟨gv, 0, none⟩) 8 c8) 8 ((comp r blk).list.map uv) ∧ Below B wp w') → K (fr5 (.pointer (some ⟨gt, 0, none⟩)) y1 y2 y3 y4 (.slice (some ad) M c) y6 y7 (.slice (some ⟨gv, 0, none⟩) 8 c8) y29 y30 y31 y32 y33 y34 y35 y36 y37 y38 y39 y40 y41 y42 y43 y44 y45 y46 y47 y48 y49 y50 y51 y52 y53 y54 y55 y56 y57 y58 y59 y60 y61 y62 y63 y64 y65 y66 y273 y274 y275 y276 y277 y278 y279 y280 y281 y282 y283 y284 y285 y286 y287 y288 y289 y290 y291 y292 y293 y294 y295 f) w') :
    Code.wp Tryd.prog blk5 (Exit.then K Q') ⟨#[.pointer (some ⟨gt, 0, none⟩), y1, y2, y3, y4, .slice (some ad) M c, y6, y7, .slice (some ⟨gv, 0, none⟩) 8 c8, y9, y10, y11, y12, y13, y14, y15, y16, y17, y18, y19, y20, y21, y22, y23, y24, y25, y26, y27, y28, y29, y30, y31, y32, y33, y34, y35, y36, y37, y38, y39, y40, y41, y42, y43, y44, y45, y46, y47, y48, y49, y50, y51, y52, y53, y54, y55, y56, y57, y58, y59, y60, y61, y62, y63, y64, y65, y66, y67, y68, y69, y70, y71, y72, y73, y74, y75, y76, y77, y78, y79, y80, y81, y82, y83, y84, y85, y86, y87, y88, y89, y90, y91, y92, y93, y94, y95, y96, y97, y98, y99, y100, y101, y102, y103, y104, y105, y106, y107, y108, y109, y110, y111, y112, y113, y114, y115, y116, y117, y118, y119, y120, y121, y122, y123, y124, y125, y126, y127, y128, y129, y130, y131, y132, y133, y134, y135, y136, y137, y138, y139, y140, y141, y142, y143, y144, y145, y146, y147, y148, y149, y150, y151, y152, y153, y154, y155, y156, y157, y158, y159, y160, y161, y162, y163, y164, y165, y166, y167, y168, y169, y170, y171, y172, y173, y174, y175, y176, y177, y178, y179, y180, y181, y182, y183, y184, y185, y186, y187, y188, y189, y190, y191, y192, y193, y194, y195, y196, y197, y198, y199, y200, y201, y202, y203, y204, y205, y206, y207, y208, y209, y210, y211, y212, y213, y214, y215, y216, y217, y218, y219, y220, y221, y222, y223, y224, y225, y226, y227, y228, y229, y230, y231, y232, y233, y234, y235, y236, y237, y238, y239, y240, y241, y242, y243, y244, y245, y246, y247, y248, y249, y250, y251, y252, y253, y254, y255, y256, y257, y258, y259, y260, y261, y262, y263, y264, y265, y266, y267, y268, y269, y270, y271, y272, y273, y274, y275, y276, y277, y278, y279, y280, y281, y282, y283, y284, y285, y286, y287, y288, y289, y290, y291, y292, y293, y294, y295], []⟩ W0 := by
  have HK := Lib.hid hK
  clear hK
  have HO := Lib.hid hO
  have HX := Lib.hid hx
  have HKT := Lib.hid (And.intro hka (And.intro hT hK0))
  clear hO hx hka hT hK0
  have hszB : wp.heap.size ≤ W0.heap.size := HO.out.2.size
  have hgvW : gv < W0.heap.size := (HO.out.1.lt gv rfl).2
  have hxW : ∀ j, j < 64 → W0.cell? (ad.add j) = some (.int .u8 ((blk.getD j 0).toNat : Int)) := fun j hj => (HO.out.2.cell (p := ad.add j) (by rw [add_block]; exact hadb)).trans (HX.out j hj)
  have HXW := Lib.hid hxW
  clear hxW
  conv => arg 2; whnf
  go_upto_block 6 with (fail)
  refine b6_any W0 ad M c blk hM hMc hcm hM2 (by omega) HXW.out _ _ _ _ _ _ _ _ _ _ _ _ _ _ _ _ _ _ _ _ _ _ _ _ _ _ _ _ _ _ _ _ _ _ _ _ _ _ _ _ _ _ _ _ _ _ _ _ _ _ _ _ _ _ _ _ _ _ _ _ _ _ _ _ _ _ _ _ _ _ _ _ _ _ _ _ _ _ _ _ _ _ _ _ _ _ _ _ _ _ _ _ _ _ _ _ _ _ _ _ _ _ _ _ _ _ _ _ _ _ _ _ _ _ _ _ _ _ _ _ _ _ _ _ _ _ _ _ _ _ _ _ _ _ _ _ _ _ _ _ _ _ _ _ _ _ _ _ _ _ _ _ _ _ _ _ _ _ _ _ _ _ _ _ _ _ _ _ _ _ _ _ _ _ _ _ _ _ _ _ _ _ _ _ _ _ _ _ _ _ _ _ _ _ _ _ _ _ _ _ _ _ _ _ _ _ _ _ _ _ _ _ _ _ _ _ _ _ _ _ _ _ _ _ _ _ _ _ _ _ _ _ _ _ _ _ _ _ _ _ _ _ _ _ _ _ _ _ _ _ _ _ _ _ _ _ _ _ _ _ _ _ _ _ _ _ _ _ _ _ _ _ _ _ _ _ _ _ _ _ _ _ _ _ _ _ _ _ _ _ _ _ _ _ _ ?_
  intro f6 w1 H1
  obtain ⟨g9, c9, hf9, hg9, _, hc9, hc9m⟩ := own_some H1.out.1 (by decide)
  have H1' := H1.out
  rw [hf9] at H1'
  have HH1 := Lib.hid H1'
  clear H1 H1'
  dsimp only [fr6]
  rw [hf9]
  clear hf9
  go_upto_block 10 with (fail)
  refine b10_any W0 w1 g9 c9 blk HH1.out _ _ _ _ _ _ _ _ _ _ _ _ _ _ _ _ _ _ _ _ _ _ _ _ _ _ _ _ _ _ _ _ _ _ _ _ _ _ _ _ _ _ _ _ _ _ _ _ _ _ _ _ _ _ _ _ _ _ _ _ _ _ _ _ _ _ _ _ _ _ _ _ _ _ _ _ _ _ _ _ _ _ _ _ _ _ _ _ _ _ _ _ _ _ _ _ _ _ _ _ _ _ _ _ _ _ _ _ _ _ _ _ _ _ _ _ _ _ _ _ _ _ _ _ _ _ _ _ _ _ _ _ _ _ _ _ _ _ _ _ _ _ _ _ _ _ _ _ _ _ _ _ _ _ _ _ _ _ _ _ _ _ _ _ _ _ _ _ _ _ _ _ _ _ _ _ _ _ _ _ _ _ _ _ _ _ _ _ _ _ _ _ _ _ _ _ _ _ _ _ _ _ _ _ _ _ _ _ _ _ _ _ _ _ _ _ _ _ _ _ _ _ _ _ _ _ _ _ _ _ _ _ _ _ _ _ _ _ _ _ _ _ _ _ _ _ _ _ _ _ _ _ _ _ _ _ _ _ _ _ _ _ _ _ _ _ _ _ _ _ _ _ _ _ _ _ _ _ _ _ _ _ _ _ _ _ _ _ _ _ _ _ _ _ _ _ ?_
  intro f10 w2 H2
  obtain ⟨gw, cw, hfw, hgw, hgw2, hcw, hcwm⟩ := own_some H2.out.1 (by decide)
  have H2' := H2.out
  rw [hfw] at H2'
  have HH2 := Lib.hid H2'
  clear H2 H2' HH1 hg9 hc9 hc9m
  dsimp only [fr10]
  rw [hfw]
  clear hfw
  have HB2 := Lib.hid (HO.out.2.trans (HH2.out.2.mono (Nat.le_trans hBw hszB)))
  have HO2 := Lib.hid (own_below HO.out.1 HH2.out.2)
  have hz2 : W0.heap.size ≤ w2.heap.size := HH2.out.2.size
  obtain ⟨ra, rb, rc, rd, re, rf, rg, rh⟩ := r
  have cv0 : w2.cell? ⟨gv, 0, none⟩ = some (.int .u32 (U ra)) := own_cell HO2.out (by rw [list_length]; decide)
  have cv1 : w2.cell? ⟨gv, 1, none⟩ = some (.int .u32 (U rb)) := own_cell HO2.out (by rw [list_length]; decide)
  have cv2 : w2.cell? ⟨gv, 2, none⟩ = some (.int .u32 (U rc)) := own_cell HO2.out (by rw [list_length]; decide)
  have cv3 : w2.cell? ⟨gv, 3, none⟩ = some (.int .u32 (U rd)) := own_cell HO2.out (by rw [list_length]; decide)
  have cv4 : w2.cell? ⟨gv, 4, none⟩ = some (.int .u32 (U re)) := own_cell HO2.out (by rw [list_length]; decide)
  have cv5 : w2.cell? ⟨gv, 5, none⟩ = some (.int .u32 (U rf)) := own_cell HO2.out (by rw [list_length]; decide)
  have cv6 : w2.cell? ⟨gv, 6, none⟩ = some (.int .u32 (U rg)) := own_cell HO2.out (by rw [list_length]; decide)
  have cv7 : w2.cell? ⟨gv, 7, none⟩ = some (.int .u32 (U rh)) := own_cell HO2.out (by rw [list_length]; decide)
  go_upto_block 12 with (fail)
  go_quiet (fail)
  clear cv0 cv1 cv2 cv3 cv4 cv5 cv6 cv7
  obtain ⟨wq, hwq⟩ : ∃ x, x = w2.drewN nq := ⟨_, rfl⟩
  rw [← hwq]
  have HBq : Hid (Below B wp wq) := Lib.hid (by rw [hwq]; exact below_drewN HB2.out nq)
  have HOq : Hid (wq.ownsRow B 43 1 (.slice (some ⟨gv, 0, none⟩) 8 c8) 8 ((Regs.mk ra rb rc rd re rf rg rh).list.map uv)) := Lib.hid (by rw [hwq]; exact HO2.out)
  have HWq : Hid (wq.ownsRow W0.heap.size 43 1 (.slice (some ⟨gw, 0, none⟩) 64 cw) 64 ((spreadL blk).map uv)) := Lib.hid (by rw [hwq]; exact HH2.out.1)
  have hzq : W0.heap.size ≤ wq.heap.size := by rw [hwq]; exact hz2
  clear HB2 HO2 HH2 hwq hgw2
  go_upto_block 12 with (fail)
  refine b12_any wq gt gw cw kc ka (spreadL blk) ⟨ra, rb, rc, rd, re, rf, rg, rh⟩ hcw hcwm hkc hkm ((HBq.out.cell (p := ⟨gt, 1, none⟩) hgt).trans HKT.out.2.1) (fun t ht => (HBq.out.cell (p := ka.add t) (by rw [add_block]; exact HKT.out.1)).trans (HKT.out.2.2 t ht)) (fun t ht => own_cell HWq.out (by rw [spreadL_length]; exact ht)) _ _ _ _ _ _ _ _ _ _ _ _ _ _ _ _ _ _ _ _ _ _ _ _ _ _ _ _ _ _ _ _ _ _ _ _ _ _ _ _ _ _ _ _ _ _ _ _ _ _ _ _ _ _ _ _ _ _ _ _ _ _ _ _ _ _ _ _ _ _ _ _ _ _ _ _ _ _ _ _ _ _ _ _ _ _ _ _ _ _ _ _ _ _ _ _ _ _ _ _ _ _ _ _ _ _ _ _ _ _ _ _ _ _ _ _ _ _ _ _ _ _ _ _ _ _ _ _ _ _ _ _ _ _ _ _ _ _ _ _ _ _ _ _ _ _ _ _ _ _ _ _ _ _ _ _ _ _ _ _ _ _ _ _ _ _ _ _ _ _ _ _ _ _ _ _ _ _ _ _ _ _ _ _ _ _ _ _ _ _ _ _ _ _ _ _ _ _ _ _ _ _ _ _ _ _ _ _ _ _ _ _ _ _ _ _ _ _ _ _ _ _ _ _ _ _ _ _ _ _ _ _ _ _ _ _ _ _ _ _ _ _ _ _ _ _ _ _ _ _ _ _ _ _ _ _ _ _ _ _ _ _ _ _ _ _ _ _ _ _ _ _ _ _ _ _ _ _ _ _ _ _ _ _ _ _ _ ?_
  rintro f12 w3 ⟨q, h16, h17, h18, h19, h20, h21, h22, h23, HQ, HN⟩
  dsimp only [fr12]
  rw [h16, h17, h18, h19, h20, h21, h22, h23]
  clear h16 h17 h18 h19 h20 h21 h22 h23
  have HB3 : Hid (Below B wp w3) := by obtain ⟨n, hn⟩ := HN.out; rw [hn]; exact Lib.hid (below_drewN HBq.out n)
  have HO3 : Hid (w3.ownsRow B 43 1 (.slice (some ⟨gv, 0, none⟩) 8 c8) 8 ((Regs.mk ra rb rc rd re rf rg rh).list.map uv)) := by obtain ⟨n, hn⟩ := HN.out; rw [hn]; exact HOq
  have hz3 : W0.heap.size ≤ w3.heap.size := by obtain ⟨n, hn⟩ := HN.out; rw [hn]; exact hzq
  clear HBq HOq HWq HN
  go_upto_block 14 with (fail)
  refine wp_normal ?_
  refine b14_any wp (w3.alloc (.cells #[.int .u32 (U q.a), .int .u32 (U q.b), .int .u32 (U q.c), .int .u32 (U q.d), .int .u32 (U q.e), .int .u32 (U q.f), .int .u32 (U q.g), .int .u32 (U q.h)] 43)) B gv w3.heap.size c8 ⟨ra, rb, rc, rd, re, rf, rg, rh⟩ q h8 hc8 hB hBw (by omega) ⟨HO3.out.alloc _, HB3.out.alloc (by omega) _⟩ (cells8 w3 q) _ _ _ _ _ _ _ _ _ _ _ _ _ _ _ _ _ _ _ _ _ _ _ _ _ _ _ _ _ _ _ _ _ _ _ _ _ _ _ _ _ _ _ _ _ _ _ _ _ _ _ _ _ _ _ _ _ _ _ _ _ _ _ _ _ _ _ _ _ _ _ _ _ _ _ _ _ _ _ _ _ _ _ _ _ _ _ _ _ _ _ _ _ _ _ _ _ _ _ _ _ _ _ _ _ _ _ _ _ _ _ _ _ _ _ _ _ _ _ _ _ _ _ _ _ _ _ _ _ _ _ _ _ _ _ _ _ _ _ _ _ _ _ _ _ _ _ _ _ _ _ _ _ _ _ _ _ _ _ _ _ _ _ _ _ _ _ _ _ _ _ _ _ _ _ _ _ _ _ _ _ _ _ _ _ _ _ _ _ _ _ _ _ _ _ _ _ _ _ _ _ _ _ _ _ _ _ _ _ _ _ _ _ _ _ _ _ _ _ _ _ _ _ _ _ _ _ _ _ _ _ _ _ _ _ _ _ _ _ _ _ _ _ _ _ _ _ _ _ _ _ _ _ _ _ _ _ _ _ _ _ _ _ _ _ _ _ _ _ _ _ _ _ _ _ _ _ _ _ _ _ _ _ _ _ _ _ _ _ _ _ _ _ _ ?_
  intro f14 w4 H4
  dsimp only [fr14]
  show K _ _
  have HF : Shut (w4.ownsRow B 43 1 (.slice (some ⟨gv, 0, none⟩) 8 c8) 8 ((comp ⟨ra, rb, rc, rd, re, rf, rg, rh⟩ blk).list.map uv) ∧ Below B wp w4) := ⟨by
    have h1 := H4.out
    rw [HQ.out] at h1
    exact h1⟩
  exact meet_g (Rel := fun f w' => Shut (w'.ownsRow B 43 1 (.slice (some ⟨gv, 0, none⟩) 8 c8) 8 ((comp ⟨ra, rb, rc, rd, re, rf, rg, rh⟩ blk).list.map uv) ∧ Below B wp w')) (fr5 (.pointer (some ⟨gt, 0, none⟩)) y1 y2 y3 y4 (.slice (some ad) M c) y6 y7 (.slice (some ⟨gv, 0, none⟩) 8 c8) y29 y30 y31 y32 y33 y34 y35 y36 y37 y38 y39 y40 y41 y42 y43 y44 y45 y46 y47 y48 y49 y50 y51 y52 y53 y54 y55 y56 y57 y58 y59 y60 y61 y62 y63 y64 y65 y66 y273 y274 y275 y276 y277 y278 y279 y280 y281 y282 y283 y284 y285 y286 y287 y288 y289 y290 y291 y292 y293 y294 y295) HK.out _ _ rfl HF
end Go.Proofs.YthfpkefieemiaaaDoor

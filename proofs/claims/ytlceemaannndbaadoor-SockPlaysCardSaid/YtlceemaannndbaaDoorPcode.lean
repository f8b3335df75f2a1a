/- The law SockPlays: its switch and its questions, taken out of its code; the frames behind them. -/
import Derived.Test.YtlceemaannndbaaDoorAsks
import Derived.Deep.LoopGhost
import Derived.Deep.RegionHeld3
import Derived.StillTailTactics
namespace Go.Proofs.YtlceemaannndbaaDoor
open Go.RowKit

def blockOf (n : Nat) : Code → Option Code
  | .block id c => if id = n then some (.block id c) else blockOf n c
  | .seq a b => match blockOf n a with
    | some c => some c
    | none => blockOf n b
  | .scope c => blockOf n c
  | .loop c => blockOf n c
  | .cond _ a b => match blockOf n a with
    | some c => some c
    | none => blockOf n b
  | _ => none
noncomputable def blk2 : Code := (Tryd.f3.body.bind (blockOf 2)).getD .skip
noncomputable def blk5 : Code := (Tryd.f3.body.bind (blockOf 5)).getD .skip
theorem meet_f {K : Act → World → Prop} {Rel : World → Prop} (F : (Nat → Value) → Act) (hK : ∀ f w', Rel w' → K (F f) w') (a : Act) (w : World) (h : a = F (fun n => a.tmps.toList.getD n undef)) (hr : Rel w) : K a w := by
  rw [h]
  exact hK _ _ hr
set_option maxRecDepth 100000 in
def fr2 (y0 y1 y2 y3 y4 y5 y6 y7 y8 y9 y25 y26 y27 y28 y29 y30 y31 y32 y33 y34 y35 y36 y37 y38 y39 y40 y41 y42 y43 y44 y45 y46 y47 y48 y49 y50 y51 y52 y53 y54 y55 y56 y57 y58 y59 y60 y61 y62 y63 y64 y65 y234 y235 y236 y237 y238 y239 y240 y241 y242 y243 y244 y245 y246 y247 y248 y249 y250 y251 y252 y253 y254 y255 y256 y257 y258 y259 y260 y261 y262 y263 y264 y265 y266 y267 y268 y269 y270 y271 y272 y273 y274 y275 y276 y277 y278 y279 y280 y281 y282 y283 : Value) (f : Nat → Value) : Act := ⟨#[y0, y1, y2, y3, y4, y5, y6, y7, y8, y9, .bool true, f 11, f 12, f 13, f 14, f 15, f 16, f 17, f 18, f 19, f 20, f 21, f 22, f 23, f 24, y25, y26, y27, y28, y29, y30, y31, y32, y33, y34, y35, y36, y37, y38, y39, y40, y41, y42, y43, y44, y45, y46, y47, y48, y49, y50, y51, y52, y53, y54, y55, y56, y57, y58, y59, y60, y61, y62, y63, y64, y65, f 66, f 67, f 68, f 69, f 70, f 71, f 72, f 73, f 74, f 75, f 76, f 77, f 78, f 79, f 80, f 81, f 82, f 83, f 84, f 85, f 86, f 87, f 88, f 89, f 90, f 91, f 92, f 93, f 94, f 95, f 96, f 97, f 98, f 99, f 100, f 101, f 102, f 103, f 104, f 105, f 106, f 107, f 108, f 109, f 110, f 111, f 112, f 113, f 114, f 115, f 116, f 117, f 118, f 119, f 120, f 121, f 122, f 123, f 124, f 125, f 126, f 127, f 128, f 129, f 130, f 131, f 132, f 133, f 134, f 135, f 136, f 137, f 138, f 139, f 140, f 141, f 142, f 143, f 144, f 145, f 146, f 147, f 148, f 149, f 150, f 151, f 152, f 153, f 154, f 155, f 156, f 157, f 158, f 159, f 160, f 161, f 162, f 163, f 164, f 165, f 166, f 167, f 168, f 169, f 170, f 171, f 172, f 173, f 174, f 175, f 176, f 177, f 178, f 179, f 180, f 181, f 182, f 183, f 184, f 185, f 186, f 187, f 188, f 189, f 190, f 191, f 192, f 193, f 194, f 195, f 196, f 197, f 198, f 199, f 200, f 201, f 202, f 203, f 204, f 205, f 206, f 207, f 208, f 209, f 210, f 211, f 212, f 213, f 214, f 215, f 216, f 217, f 218, f 219, f 220, f 221, f 222, f 223, f 224, f 225, f 226, f 227, f 228, f 229, f 230, f 231, f 232, f 233, y234, y235, y236, y237, y238, y239, y240, y241, y242, y243, y244, y245, y246, y247, y248, y249, y250, y251, y252, y253, y254, y255, y256, y257, y258, y259, y260, y261, y262, y263, y264, y265, y266, y267, y268, y269, y270, y271, y272, y273, y274, y275, y276, y277, y278, y279, y280, y281, y282, y283], []⟩
set_option maxRecDepth 100000 in
def fr5 (y0 y1 y2 y3 y5 y6 y7 y8 y9 y10 y11 y12 y13 y14 y15 y16 y17 y18 y19 y20 y21 y22 y23 y24 y26 y27 y28 y29 y30 y31 y32 y33 y34 y35 y36 y37 y38 y39 y40 y41 y42 y43 y44 y45 y46 y47 y48 y49 y50 y51 y52 y53 y54 y55 y56 y57 y58 y59 y60 y61 y62 y63 y64 y65 y66 y67 y68 y69 y70 y71 y72 y73 y74 y75 y76 y77 y78 y79 y80 y81 y82 y83 y84 y85 y86 y87 y88 y89 y90 y91 y92 y93 y94 y95 y96 y97 y98 y99 y100 y101 y102 y103 y104 y105 y106 y107 y108 y109 y110 y111 y112 y113 y114 y115 y116 y117 y118 y119 y120 y121 y122 y123 y124 y125 y126 y127 y128 y129 y130 y131 y132 y133 y134 y135 y136 y137 y138 y139 y140 y141 y142 y143 y144 y145 y146 y147 y148 y149 y150 y151 y152 y153 y154 y155 y156 y157 y158 y159 y160 y161 y162 y163 y164 y165 y166 y167 y168 y169 y170 y171 y172 y173 y174 y175 y176 y177 y178 y179 y180 y181 y182 y183 y184 y185 y186 y187 y188 y189 y190 y191 y192 y193 y194 y195 y196 y197 y198 y199 y200 y201 y202 y203 y204 y205 y206 y207 y208 y209 y210 y211 y212 y213 y214 y215 y216 y217 y218 y219 y220 y221 y222 y223 y224 y225 y226 y227 y228 y229 y230 y231 y232 y233 y234 y235 y236 y237 y238 y239 y240 y241 y242 y243 y244 y283 : Value) (f : Nat → Value) : Act := ⟨#[y0, y1, y2, y3, f 4, y5, y6, y7, y8, y9, y10, y11, y12, y13, y14, y15, y16, y17, y18, y19, y20, y21, y22, y23, y24, f 25, y26, y27, y28, y29, y30, y31, y32, y33, y34, y35, y36, y37, y38, y39, y40, y41, y42, y43, y44, y45, y46, y47, y48, y49, y50, y51, y52, y53, y54, y55, y56, y57, y58, y59, y60, y61, y62, y63, y64, y65, y66, y67, y68, y69, y70, y71, y72, y73, y74, y75, y76, y77, y78, y79, y80, y81, y82, y83, y84, y85, y86, y87, y88, y89, y90, y91, y92, y93, y94, y95, y96, y97, y98, y99, y100, y101, y102, y103, y104, y105, y106, y107, y108, y109, y110, y111, y112, y113, y114, y115, y116, y117, y118, y119, y120, y121, y122, y123, y124, y125, y126, y127, y128, y129, y130, y131, y132, y133, y134, y135, y136, y137, y138, y139, y140, y141, y142, y143, y144, y145, y146, y147, y148, y149, y150, y151, y152, y153, y154, y155, y156, y157, y158, y159, y160, y161, y162, y163, y164, y165, y166, y167, y168, y169, y170, y171, y172, y173, y174, y175, y176, y177, y178, y179, y180, y181, y182, y183, y184, y185, y186, y187, y188, y189, y190, y191, y192, y193, y194, y195, y196, y197, y198, y199, y200, y201, y202, y203, y204, y205, y206, y207, y208, y209, y210, y211, y212, y213, y214, y215, y216, y217, y218, y219, y220, y221, y222, y223, y224, y225, y226, y227, y228, y229, y230, y231, y232, y233, y234, y235, y236, y237, y238, y239, y240, y241, y242, y243, y244, f 245, f 246, f 247, f 248, f 249, f 250, f 251, f 252, f 253, f 254, f 255, f 256, f 257, f 258, f 259, f 260, f 261, f 262, f 263, f 264, f 265, f 266, f 267, f 268, f 269, f 270, f 271, f 272, f 273, f 274, f 275, f 276, f 277, f 278, f 279, f 280, f 281, f 282, y283], []⟩
theorem RefV.tore {w : World} {B : Nat} {F : Nat → Prop} {g : Nat} {P : Rp} {v : Nat → Value} (h : RefV w B F g P v) (hok : P.ok) {i : Nat} (hi : i < 2) (hlt : (P.ws i).car < (P.ws i).all.length) (A : Option Addr) (L cap : Nat) (hv : v i = .slice A L cap) :
    RefAt ((w.setCell ⟨g, 1 + i * 4 + 3, none⟩ (.bool false)).setCell ⟨g, 1 + i * 4, none⟩ (.slice A (P.ws i).car cap)) B F g (P.tore i) := by
  have h2 := h.setShut hi false
  have hs := h2.span i hi
  rw [Rp.put_same, hv] at hs
  have h3 := h2.setAll hi (.slice A (P.ws i).car cap) ((P.ws i).all.take (P.ws i).car) (hs.take _ (by show (P.ws i).car ≤ (P.ws i).all.length; omega)) (by rw [hv]; cases A <;> rfl)
  rw [Rp.put_same, rput_put] at h3
  have e : P.tore i = P.put i { P.ws i with shut := false, all := (P.ws i).all.take (P.ws i).car } := by rw [Rp.tore, Ry.torn, if_pos hlt]
  refine ⟨_, by rw [e]; exact h3, ?_⟩
  rw [e]
  have k1 := hok.rd i
  have k2 := hok.car i
  have k3 := hok.left i
  have k4 := hok.big i
  refine rput_ok hok i _ k1 ?_ ?_ ?_
  · show (P.ws i).car ≤ ((P.ws i).all.take (P.ws i).car).length
    rw [List.length_take]; omega
  · show ((P.ws i).all.take (P.ws i).car).length ≤ (P.ws i).rd + P.room
    rw [List.length_take]; omega
  · show ((P.ws i).all.take (P.ws i).car).length ≤ 70368744177664
    rw [List.length_take]; omega
theorem Rp.tore_none (P : Rp) (i : Nat) (h : ¬ (P.ws i).car < (P.ws i).all.length) : P.tore i = P := by
  rw [Rp.tore, Ry.torn, if_neg h]
  cases P with
  | mk room ws cut =>
    simp only [Rp.put]
    congr 1
    funext j
    by_cases e : j = i <;> simp [e]

end Go.Proofs.YtlceemaannndbaaDoor

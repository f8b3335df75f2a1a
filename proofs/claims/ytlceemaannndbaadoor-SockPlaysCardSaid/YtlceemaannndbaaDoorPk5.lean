/- The law SockPlays: pk5. -/
import Derived.Test.YtlceemaannndbaaDoorPcode
namespace Go.Proofs.YtlceemaannndbaaDoor
open Go.RowKit

set_option maxHeartbeats 8000000 in
set_option maxRecDepth 100000 in
theorem pk5 (ad : Nat → Addr) (w1 w2 wo : World) (P : Pr) (R : Rp) (k : Nat) (ed nn : Int) (Ao : Option Addr) (cap : Nat) (bts : List UInt8)
    (hI : Keep (fun k => k < w1.heap.size) w1 wo) (hP : Both wo w1.heap.size (fun k => k < w1.heap.size) w1.heap.size w2.heap.size P R ∧ Sim k P R)
    (hEK : ∀ w', Keep (fun k => k < w1.heap.size) wo w' → Eighteen w' ad ∧ Rd w' w'.heap.size Ao (bts.map bv))
    (hgh : w1.heap.size ≤ w2.heap.size) (hbig : w1.heap.size ≤ wo.heap.size) (h300 : k ≤ 300) (hcap1 : bts.length ≤ cap) (hcap2 : cap ≤ 9223372036854775807) (hn2 : nn ≤ 9223372036854775807) (hbyt : bts.length ≤ 140737488351232) 
    (K : Act → World → Prop) (Q' : Exit → Act → World → Prop) (y0 y1 y2 y3 y4 y6 y8 y11 y12 y13 y14 y15 y16 y17 y18 y19 y20 y21 y22 y23 y24 y25 y26 y27 y28 y29 y30 y31 y32 y33 y34 y35 y36 y37 y38 y39 y40 y41 y42 y43 y44 y45 y46 y47 y48 y49 y50 y51 y52 y53 y54 y55 y56 y57 y58 y59 y60 y61 y62 y63 y64 y66 y67 y68 y69 y70 y71 y72 y73 y74 y75 y76 y77 y78 y79 y80 y81 y82 y83 y84 y85 y86 y87 y88 y89 y90 y91 y92 y93 y94 y95 y96 y97 y98 y99 y100 y101 y102 y103 y104 y105 y106 y107 y108 y109 y110 y111 y112 y113 y114 y115 y116 y117 y118 y119 y120 y121 y122 y123 y124 y125 y126 y127 y128 y129 y130 y131 y132 y133 y134 y135 y136 y137 y138 y139 y140 y141 y142 y143 y144 y145 y146 y147 y148 y149 y150 y151 y152 y153 y154 y155 y156 y157 y158 y159 y160 y161 y162 y163 y164 y165 y166 y167 y168 y169 y170 y171 y172 y173 y174 y175 y176 y177 y178 y179 y180 y181 y182 y183 y184 y185 y186 y187 y188 y189 y190 y191 y192 y193 y194 y195 y196 y197 y198 y199 y200 y201 y202 y203 y204 y205 y206 y207 y208 y209 y210 y211 y212 y213 y214 y215 y216 y217 y218 y219 y220 y221 y222 y223 y224 y225 y226 y227 y228 y229 y230 y231 y232 y233 y234 y235 y236 y237 y238 y239 y240 y241 y242 y243 y244 y245 y246 y247 y248 y249 y250 y251 y252 y253 y254 y255 y256 y257 y258 y259 y260 y261 y262 y263 y264 y265 y266 y267 y268 y269 y270 y271 y272 y273 y274 y275 y276 y277 y278 y279 y280 y281 y282 y283 : Value)
    (hK : ∀ f w', PlayI w1 w' w1.heap.size w1.heap.size w2.heap.size (k + 1) → K (fr2 y0 y1 y2 y3 y4 (.pointer (some ⟨w1.heap.size, 0, none⟩)) y6 (.pointer (some ⟨w2.heap.size, 0, none⟩)) y8 (.pointer (some ⟨wo.heap.size, 0, none⟩)) y25 y26 y27 y28 y29 y30 y31 y32 y33 y34 y35 y36 y37 y38 y39 y40 y41 y42 y43 y44 y45 y46 y47 y48 y49 y50 y51 y52 y53 y54 y55 y56 y57 y58 y59 y60 y61 y62 y63 y64 (.int .i64 5) y234 y235 y236 y237 y238 y239 y240 y241 y242 y243 y244 y245 y246 y247 y248 y249 y250 y251 y252 y253 y254 y255 y256 y257 y258 y259 y260 y261 y262 y263 y264 y265 y266 y267 y268 y269 y270 y271 y272 y273 y274 y275 y276 y277 y278 y279 y280 y281 y282 y283 f) w') :
    Code.wp Tryd.prog blk2 (Exit.then K Q') ⟨#[y0, y1, y2, y3, y4, .pointer (some ⟨w1.heap.size, 0, none⟩), y6, .pointer (some ⟨w2.heap.size, 0, none⟩), y8, .pointer (some ⟨wo.heap.size, 0, none⟩), .bool true, y11, y12, y13, y14, y15, y16, y17, y18, y19, y20, y21, y22, y23, y24, y25, y26, y27, y28, y29, y30, y31, y32, y33, y34, y35, y36, y37, y38, y39, y40, y41, y42, y43, y44, y45, y46, y47, y48, y49, y50, y51, y52, y53, y54, y55, y56, y57, y58, y59, y60, y61, y62, y63, y64, .int .i64 5, y66, y67, y68, y69, y70, y71, y72, y73, y74, y75, y76, y77, y78, y79, y80, y81, y82, y83, y84, y85, y86, y87, y88, y89, y90, y91, y92, y93, y94, y95, y96, y97, y98, y99, y100, y101, y102, y103, y104, y105, y106, y107, y108, y109, y110, y111, y112, y113, y114, y115, y116, y117, y118, y119, y120, y121, y122, y123, y124, y125, y126, y127, y128, y129, y130, y131, y132, y133, y134, y135, y136, y137, y138, y139, y140, y141, y142, y143, y144, y145, y146, y147, y148, y149, y150, y151, y152, y153, y154, y155, y156, y157, y158, y159, y160, y161, y162, y163, y164, y165, y166, y167, y168, y169, y170, y171, y172, y173, y174, y175, y176, y177, y178, y179, y180, y181, y182, y183, y184, y185, y186, y187, y188, y189, y190, y191, y192, y193, y194, y195, y196, y197, y198, y199, y200, y201, y202, y203, y204, y205, y206, y207, y208, y209, y210, y211, y212, y213, y214, y215, y216, y217, y218, y219, y220, y221, y222, y223, y224, y225, y226, y227, y228, y229, y230, y231, y232, y233, y234, y235, y236, y237, y238, y239, y240, y241, y242, y243, y244, y245, y246, y247, y248, y249, y250, y251, y252, y253, y254, y255, y256, y257, y258, y259, y260, y261, y262, y263, y264, y265, y266, y267, y268, y269, y270, y271, y272, y273, y274, y275, y276, y277, y278, y279, y280, y281, y282, y283], []⟩ (wo.alloc (.cells #[.int .i64 5, .int .i64 ed, .int .i64 nn, .slice Ao bts.length cap] 37)) := by
  have HI := Lib.hid hI
  have HP := Lib.hid hP
  have HEK := Lib.hid hEK
  have HK := Lib.hid hK
  clear hI hP hEK hK
  have HU := Lib.hid (And.intro hgh (And.intro h300 (And.intro hcap1 (And.intro hcap2 (And.intro hn2 hbyt)))))
  clear HU
  have HKB : Hid (Below wo.heap.size wo (wo.alloc (.cells #[.int .i64 5, .int .i64 ed, .int .i64 nn, .slice Ao bts.length cap] 37))) := Lib.hid ((Below.refl _ _).alloc (Nat.le_refl _) _)
  have HB := Lib.hid (HP.out.1.below HKB.out)
  have HROW : Hid (Row (wo.alloc (.cells #[.int .i64 5, .int .i64 ed, .int .i64 nn, .slice Ao bts.length cap] 37)) wo.heap.size 37 [.int .i64 5, .int .i64 ed, .int .i64 nn, .slice Ao bts.length cap]) := Lib.hid (Row.new wo _ 37)
  have HK0 : Hid (Keep (fun k => k < w1.heap.size) wo (wo.alloc (.cells #[.int .i64 5, .int .i64 ed, .int .i64 nn, .slice Ao bts.length cap] 37))) := Lib.hid (Keep.of_below HKB.out (fun k h => by omega))
  have hbx : wo.heap.size < (wo.alloc (.cells #[.int .i64 5, .int .i64 ed, .int .i64 nn, .slice Ao bts.length cap] 37)).heap.size := by simp
  conv => arg 2; whnf
  obtain ⟨G', hH⟩ := hid_one (Lib.hid HB.out.pair)
  go_wp2_with fail
  with_reducible refine (h_cut _ _ hH.out.1).mono ?_
  rintro x w3 ⟨rfl, H3⟩
  have HB3 := Lib.hid (hH.out.2 _ _ H3.out)
  have HK3 : Hid (Keep (fun k => k < w1.heap.size) wo w3) := Lib.hid (HK0.out.trans (HB3.out.2.mono (fun k h => .inl h)))
  obtain ⟨F2, HF2⟩ := hid_one (Lib.hid HB3.out.1.ref)
  obtain ⟨v, HV⟩ := hid_one (Lib.hid HF2.out.1)
  have cc := HV.out.1.cut
  have f9 := HV.out.1.row.frozen 9
  cases hcut : R.cut
  · rw [hcut] at cc
    have HCUT : Hid (P.cut = false) := Lib.hid (by rw [HP.out.2.cut]; exact hcut)
    clear hcut
    have HR3 : Hid (RefAt (w3.setCell ⟨w2.heap.size, 9, none⟩ (.bool true)) w1.heap.size F2 w2.heap.size (R.cutTo 0) ∧ Turn F2 w3 (w3.setCell ⟨w2.heap.size, 9, none⟩ (.bool true))) := Lib.hid ⟨⟨v, HV.out.1.setCut true, ⟨HV.out.2.room, HV.out.2.rd, HV.out.2.car, HV.out.2.left, HV.out.2.big⟩⟩, HV.out.1.turn_set _ _⟩
    go_wp2_with fail
    go_loopg [187] 2 (fun gk j w' => ∃ q : Nat, q ≤ 2 ∧ gk = 2 - q ∧ j = .int .i64 q ∧ Hid (RefAt w' w1.heap.size F2 w2.heap.size (R.cutTo q) ∧ Turn F2 w3 w'))
    case atStart => exact ⟨0, by omega, rfl, rfl, HR3.out⟩
    case round =>
      obtain ⟨q, hq, rfl, rfl, HJ⟩ := hrel
      by_cases hq2 : q < 2
      rotate_left
      · have hq3 : q = 2 := by omega
        subst hq3
        go_wp2_with fail
        have hb4 := HF2.out.2 _ _ ⟨ref_to HJ.out.1, HJ.out.2⟩
        exact meet_f (Rel := fun w' => PlayI w1 w' w1.heap.size w1.heap.size w2.heap.size (k + 1)) (fr2 y0 y1 y2 y3 y4 (.pointer (some ⟨w1.heap.size, 0, none⟩)) y6 (.pointer (some ⟨w2.heap.size, 0, none⟩)) y8 (.pointer (some ⟨wo.heap.size, 0, none⟩)) y25 y26 y27 y28 y29 y30 y31 y32 y33 y34 y35 y36 y37 y38 y39 y40 y41 y42 y43 y44 y45 y46 y47 y48 y49 y50 y51 y52 y53 y54 y55 y56 y57 y58 y59 y60 y61 y62 y63 y64 (.int .i64 5) y234 y235 y236 y237 y238 y239 y240 y241 y242 y243 y244 y245 y246 y247 y248 y249 y250 y251 y252 y253 y254 y255 y256 y257 y258 y259 y260 y261 y262 y263 y264 y265 y266 y267 y268 y269 y270 y271 y272 y273 y274 y275 y276 y277 y278 y279 y280 y281 y282 y283) HK.out _ _ rfl ((play_fin HI.out (HK3.out.trans (hb4.2.mono (fun k h => .inl h))) hb4.1 (fun k h => .inl h) (HP.out.2.cutting HP.out.1.rok HCUT.out)))
      obtain ⟨Rq, HRq⟩ : ∃ Rq, Hid (R.cutTo q = Rq) := ⟨_, Lib.hid rfl⟩
      have HJ' : Hid (RefAt wr w1.heap.size F2 w2.heap.size Rq ∧ Turn F2 w3 wr) := Lib.hid (by have := HJ.out; rwa [HRq.out] at this)
      obtain ⟨v', HV'⟩ := hid_one (Lib.hid HJ'.out.1)
      obtain ⟨A0, cap0, hv0, h01, h02, c0, c1, c2, c3⟩ := HV'.out.1.at hq2
      have HV0 := Lib.hid hv0
      have k2' := HV'.out.2.car q
      have k5' := HV'.out.2.big q
      have f0' := HV'.out.1.row.frozen (1 + q * 4)
      have f3' := HV'.out.1.row.frozen (1 + q * 4 + 3)
      have hqI : (q : Int) < 2 := by omega
      have HSUC : Hid (R.cutTo (q + 1) = Rq.tore q) := Lib.hid (by show (R.cutTo q).tore q = _; rw [HRq.out])
      clear hv0
      by_cases hlt' : (Rq.ws q).car < (Rq.ws q).all.length
      · go_wp2_with fail
        go_quiet (fail)
        go_wp2_with fail
        have HVQ := Lib.hid ((HV'.out.1.drewN nq).setShut hq2 false)
        have d0 : ((wr.drewN nq).setCell ⟨w2.heap.size, 1 + q * 4 + 3, none⟩ (.bool false)).cell? ⟨w2.heap.size, 1 + q * 4, none⟩ = some (.slice A0 (Rq.ws q).all.length cap0) := by
          have := HVQ.out.row.cell (1 + q * 4)
          rw [rcells_all _ _ hq2, HV0.out] at this
          exact this
        have d1 : ((wr.drewN nq).setCell ⟨w2.heap.size, 1 + q * 4 + 3, none⟩ (.bool false)).cell? ⟨w2.heap.size, 1 + q * 4 + 1, none⟩ = some (.int .i64 ((Rq.ws q).car : Int)) := by
          have := HVQ.out.row.cell (1 + q * 4 + 1)
          rw [rcells_car _ _ hq2, Rp.put_same] at this
          exact this
        have d2 := HVQ.out.row.frozen (1 + q * 4)
        clear HVQ c0 c1 c2 c3 f0' f3'
        obtain ⟨W4, HW4⟩ : ∃ W4, Hid (W4 = (wr.drewN nq).setCell ⟨w2.heap.size, 1 + q * 4 + 3, none⟩ (.bool false)) := ⟨_, Lib.hid rfl⟩
        rw [← HW4.out] at d0 d1 d2
        rw [← HW4.out]
        have e0 : ({ heap := W4.heap, tape := W4.tape, drawn := W4.drawn + 1, os := W4.os, output := W4.output } : World).cell? ⟨w2.heap.size, 1 + q * 4, none⟩ = some (.slice A0 (Rq.ws q).all.length cap0) := d0
        have e1 : ({ heap := W4.heap, tape := W4.tape, drawn := W4.drawn + 1, os := W4.os, output := W4.output } : World).cell? ⟨w2.heap.size, 1 + q * 4 + 1, none⟩ = some (.int .i64 ((Rq.ws q).car : Int)) := d1
        have hcq : (Rq.ws q).car ≤ cap0 := by omega
        go_still_tail 21, (by kernel_rfl)
        change wpList _ _ _ _ _ W4.drew
        go_wp2_with fail
        go_roundg (2 - (q + 1))
        case measure => omega
        case rel =>
          obtain rfl := HW4.out
          exact ⟨q + 1, by omega, by omega, by go_num, Lib.hid ⟨by rw [HSUC.out]; exact ((HV'.out.1.drewN _).tore HV'.out.2 hq2 hlt' A0 _ cap0 HV0.out).keep (Nat.le_refl _) (fun _ _ => rfl), ((((HJ'.out.2.stay (Stay.drewN wr _)).setCell ⟨w2.heap.size, 1 + q * 4 + 3, none⟩ (fun _ => HV'.out.1.self) (.bool false)).setCell ⟨w2.heap.size, 1 + q * 4, none⟩ (fun _ => HV'.out.1.self) (.slice A0 (Rq.ws q).car cap0))).stay ⟨rfl, rfl, rfl, rfl⟩⟩⟩
      · have hge' : ¬ ((Rq.ws q).car : Int) < ((Rq.ws q).all.length : Int) := by omega
        have HNT := Lib.hid (Rp.tore_none Rq q hlt')
        go_wp2_with fail
        go_quiet (fail)
        go_wp2_with fail
        go_roundg (2 - (q + 1))
        case measure => omega
        case rel => exact ⟨q + 1, by omega, by omega, by go_num, Lib.hid ⟨by rw [HSUC.out, HNT.out]; exact HJ'.out.1.keep (Nat.le_refl _) (fun _ _ => rfl), HJ'.out.2.stay (Stay.drewN wr _)⟩⟩
  · rw [hcut] at cc
    go_wp2_with fail
    exact meet_f (Rel := fun w' => PlayI w1 w' w1.heap.size w1.heap.size w2.heap.size (k + 1)) (fr2 y0 y1 y2 y3 y4 (.pointer (some ⟨w1.heap.size, 0, none⟩)) y6 (.pointer (some ⟨w2.heap.size, 0, none⟩)) y8 (.pointer (some ⟨wo.heap.size, 0, none⟩)) y25 y26 y27 y28 y29 y30 y31 y32 y33 y34 y35 y36 y37 y38 y39 y40 y41 y42 y43 y44 y45 y46 y47 y48 y49 y50 y51 y52 y53 y54 y55 y56 y57 y58 y59 y60 y61 y62 y63 y64 (.int .i64 5) y234 y235 y236 y237 y238 y239 y240 y241 y242 y243 y244 y245 y246 y247 y248 y249 y250 y251 y252 y253 y254 y255 y256 y257 y258 y259 y260 y261 y262 y263 y264 y265 y266 y267 y268 y269 y270 y271 y272 y273 y274 y275 y276 y277 y278 y279 y280 y281 y282 y283) HK.out _ _ rfl ((play_fin HI.out HK3.out HB3.out.1 (fun k h => .inl h) (HP.out.2.again HP.out.1.rok (by rw [HP.out.2.cut]; exact hcut))))
end Go.Proofs.YtlceemaannndbaaDoor

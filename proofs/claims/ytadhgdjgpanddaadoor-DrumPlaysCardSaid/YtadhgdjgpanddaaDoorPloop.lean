/- The law DrumPlays: its loop. -/
import Derived.Test.YtadhgdjgpanddaaDoorPjoin
namespace Go.Proofs.YtadhgdjgpanddaaDoor
open Go.RowKit

theorem q_off (g h : Nat) (cb : Bool) (D : Dm) (W : World) (H : DrumAt W g h D) (hc : D.off = cb) : Calls Tryd.prog 11 #[.pointer (some ⟨g, 0, none⟩)] W fun x w' => x = .returned (.bool cb) ∧ W = w' := by
  have := off_any g W H
  rwa [hc] at this
theorem q_writes (g h : Nat) (r : Int) (D : Dm) (W : World) (H : DrumAt W g h D) (hc : (D.writes : Int) = r) : Calls Tryd.prog 25 #[.pointer (some ⟨g, 0, none⟩)] W fun x w' => x = .returned (.int .i64 r) ∧ W = w' := by
  have := writes_any g W H
  rwa [hc] at this
theorem OpsAt.get {W : World} {B : Nat} {A : Option Addr} {os : List OpV} (h : OpsAt W B A os) {k : Nat} (hk : k < os.length) : ∃ b off o, A = some ⟨b, off, none⟩ ∧ o.ok ∧ OpCells W b (off + k * 4) o := by
  rcases h with h | ⟨b, off, h1, h2, h3⟩
  · subst h; simp at hk
  · obtain ⟨h4, h5⟩ := h3 k _ (List.getElem?_eq_getElem hk)
    exact ⟨b, off, _, h1, h4, h5⟩
set_option maxHeartbeats 8000000 in
set_option maxRecDepth 100000 in
theorem blk0_any (ad : Nat → Addr) (w w0 : World) (g h rg rh N n L c2 : Nat) (A2 : Option Addr) (os : List OpV) (hE : Eighteen w ad) (hI : PlayI w w0 g h rg rh N n 0) (hL : os.length = L) (hLc : L ≤ c2) (hcm : c2 ≤ 9223372036854775807) (hr : OpsAt w w.heap.size A2 os)
    (K : Act → World → Prop) (Q' : Exit → Act → World → Prop) (y0 y1 y2 y3 y4 y5 y6 y7 y8 y11 y12 y13 y14 y15 y16 y17 y18 y19 y20 y21 y22 y23 y24 y25 y26 y27 y28 y29 y30 y31 y32 y33 y34 y35 y36 y37 y38 y39 y40 y41 y42 y43 y44 y45 y46 y47 y48 y49 y50 y51 y52 y53 y54 y55 y56 y57 y58 y59 y60 y61 y62 y63 y64 y65 y66 y67 y68 y69 y70 y71 y72 y73 y74 y75 y76 y77 y78 y79 y80 y81 y82 y83 y84 y85 y86 y87 y88 y89 y90 y91 y92 y93 y94 y95 y96 y97 y98 y99 y100 y101 y105 y106 y107 y108 y109 y110 y111 y112 y113 y114 y115 y116 y117 y118 y119 y120 y121 y122 y123 y124 y125 y126 y127 y128 y129 y130 y131 y132 y133 y134 y135 y136 y137 y138 y139 y140 y141 y142 y143 y144 y145 y146 y147 y148 y149 y150 y151 y152 y153 y154 y155 y156 y157 y158 y159 y160 y161 y162 y163 y164 y165 y166 y167 y168 y169 y170 y171 y172 y173 y174 y175 y176 y177 y178 y179 y180 y181 y182 y183 y184 y185 y186 y187 y188 y189 y190 y191 y192 y193 y194 y195 y196 y197 y198 y199 y200 y201 y202 y203 y204 y205 y206 y207 y208 y209 y210 y211 y212 y213 y214 y215 y216 : Value)
    (hK : ∀ f w', PlayI w w' g h rg rh N n 300 → K (fr0 y0 y1 y2 y3 y4 y5 y7 y8 (.pointer (some ⟨g, 0, none⟩)) (.pointer (some ⟨rg, 0, none⟩)) y18 y19 y20 y21 y22 y23 y24 y25 y26 y27 y28 y29 y30 y31 y32 y33 y34 y35 y36 y37 y38 y39 y40 y41 y42 y43 y44 y45 y46 y47 y48 y49 y50 y51 y52 y53 y54 y55 y56 y57 y58 y59 y60 y61 y62 y63 y64 y65 y66 y67 y68 y69 y70 y71 y72 y73 y74 y75 y76 y77 y78 y79 y80 y81 y82 y83 y84 y85 y86 y87 y88 y89 y90 y91 y92 y93 y94 y95 y96 y97 y98 y99 y100 y101 (.slice A2 L c2) (.int .i64 (L : Int)) y197 y198 y199 y200 y201 y202 y203 y204 y205 y206 y207 y208 y209 y210 y211 y212 y213 y214 y215 y216 f) w') :
    Code.wp Tryd.prog blk0 (Exit.then K Q') ⟨#[y0, y1, y2, y3, y4, y5, y6, y7, y8, .pointer (some ⟨g, 0, none⟩), .pointer (some ⟨rg, 0, none⟩), y11, y12, y13, y14, y15, y16, y17, y18, y19, y20, y21, y22, y23, y24, y25, y26, y27, y28, y29, y30, y31, y32, y33, y34, y35, y36, y37, y38, y39, y40, y41, y42, y43, y44, y45, y46, y47, y48, y49, y50, y51, y52, y53, y54, y55, y56, y57, y58, y59, y60, y61, y62, y63, y64, y65, y66, y67, y68, y69, y70, y71, y72, y73, y74, y75, y76, y77, y78, y79, y80, y81, y82, y83, y84, y85, y86, y87, y88, y89, y90, y91, y92, y93, y94, y95, y96, y97, y98, y99, y100, y101, .slice A2 L c2, .int .i64 (L : Int), .int .i64 0, y105, y106, y107, y108, y109, y110, y111, y112, y113, y114, y115, y116, y117, y118, y119, y120, y121, y122, y123, y124, y125, y126, y127, y128, y129, y130, y131, y132, y133, y134, y135, y136, y137, y138, y139, y140, y141, y142, y143, y144, y145, y146, y147, y148, y149, y150, y151, y152, y153, y154, y155, y156, y157, y158, y159, y160, y161, y162, y163, y164, y165, y166, y167, y168, y169, y170, y171, y172, y173, y174, y175, y176, y177, y178, y179, y180, y181, y182, y183, y184, y185, y186, y187, y188, y189, y190, y191, y192, y193, y194, y195, y196, y197, y198, y199, y200, y201, y202, y203, y204, y205, y206, y207, y208, y209, y210, y211, y212, y213, y214, y215, y216], []⟩ w0 := by
  have HE := Lib.hid hE
  have HI0 := Lib.hid hI
  have HL := Lib.hid hL
  have HR := Lib.hid hr
  have HK := Lib.hid hK
  clear hE hI hL hr hK
  conv => arg 2; whnf
  go_wp2_with fail
  go_loopg [104] L (fun gk i w' => ∃ k : Nat, k ≤ L ∧ k ≤ 201 ∧ gk = L - k ∧ i = .int .i64 k ∧ Hid (PlayI w w' g h rg rh N n k))
  case atStart => exact ⟨0, Nat.zero_le _, by omega, rfl, rfl, HI0⟩
  case round =>
    clear HI0
    obtain ⟨k, hk, hk1, rfl, rfl, HI⟩ := hrel
    obtain ⟨D, HD⟩ := hid_one HI
    have HBW := Lib.hid HD.out.1.below
    have h300 : k ≤ 300 := by omega
    have HP3 : Hid (∀ w', Below wr.heap.size wr w' → PlayI w w' g h rg rh N n 300) := Lib.hid (fun w' hb => ⟨D, HD.out.1.under hb, by have := HD.out.2.1; omega, HD.out.2.2⟩)
    by_cases hlt : k < L
    rotate_left
    · go_wp2_with fail
      exact meet_f (Rel := fun w' => PlayI w w' g h rg rh N n 300) (fr0 y0 y1 y2 y3 y4 y5 y7 y8 (.pointer (some ⟨g, 0, none⟩)) (.pointer (some ⟨rg, 0, none⟩)) y18 y19 y20 y21 y22 y23 y24 y25 y26 y27 y28 y29 y30 y31 y32 y33 y34 y35 y36 y37 y38 y39 y40 y41 y42 y43 y44 y45 y46 y47 y48 y49 y50 y51 y52 y53 y54 y55 y56 y57 y58 y59 y60 y61 y62 y63 y64 y65 y66 y67 y68 y69 y70 y71 y72 y73 y74 y75 y76 y77 y78 y79 y80 y81 y82 y83 y84 y85 y86 y87 y88 y89 y90 y91 y92 y93 y94 y95 y96 y97 y98 y99 y100 y101 (.slice A2 L c2) (.int .i64 (L : Int)) y197 y198 y199 y200 y201 y202 y203 y204 y205 y206 y207 y208 y209 y210 y211 y212 y213 y214 y215 y216) HK.out _ _ rfl (HP3.out _ (Below.refl _ _))
    obtain ⟨b, off, o, rfl, HOK, HOC⟩ := (HR.out.below HBW.out).get (k := k) (by rw [HL.out]; exact hlt)
    have g0 := HOC.c0
    have g1 := HOC.c1
    have g2 := HOC.c2
    have g3 := HOC.c3
    have HN2 := Lib.hid HOK.n2
    clear HOC HOK
    by_cases h200 : 200 < k
    · have h2I : (200 : Int) < (k : Int) := by omega
      go_wp2_with fail
      exact meet_f (Rel := fun w' => PlayI w w' g h rg rh N n 300) (fr0 y0 y1 y2 y3 y4 y5 y7 y8 (.pointer (some ⟨g, 0, none⟩)) (.pointer (some ⟨rg, 0, none⟩)) y18 y19 y20 y21 y22 y23 y24 y25 y26 y27 y28 y29 y30 y31 y32 y33 y34 y35 y36 y37 y38 y39 y40 y41 y42 y43 y44 y45 y46 y47 y48 y49 y50 y51 y52 y53 y54 y55 y56 y57 y58 y59 y60 y61 y62 y63 y64 y65 y66 y67 y68 y69 y70 y71 y72 y73 y74 y75 y76 y77 y78 y79 y80 y81 y82 y83 y84 y85 y86 y87 y88 y89 y90 y91 y92 y93 y94 y95 y96 y97 y98 y99 y100 y101 (.slice (some ⟨b, off, none⟩) L c2) (.int .i64 (L : Int)) y197 y198 y199 y200 y201 y202 y203 y204 y205 y206 y207 y208 y209 y210 y211 y212 y213 y214 y215 y216) HK.out _ _ rfl (HP3.out _ ((Below.refl _ _).alloc (Nat.le_refl _) _))
    have h2I : ¬ (200 : Int) < (k : Int) := by omega
    go_upto_block 2 with fail
    refine blk2_any ad w wr g h rg rh N n k D o.kind o.at_ o.n o.byte HE.out HD.out.1 HD.out.2.1 HD.out.2.2 (by omega) HN2.out _ _ _ _ _ _ _ _ _ _ _ _ _ _ _ _ _ _ _ _ _ _ _ _ _ _ _ _ _ _ _ _ _ _ _ _ _ _ _ _ _ _ _ _ _ _ _ _ _ _ _ _ _ _ _ _ _ _ _ _ _ _ _ _ _ _ _ _ _ _ _ _ _ _ _ _ _ _ _ _ _ _ _ _ _ _ _ _ _ _ _ _ _ _ _ _ _ _ _ _ _ _ _ _ _ _ _ _ _ _ _ _ _ _ _ _ _ _ _ _ _ _ _ _ _ _ _ _ _ _ _ _ _ _ _ _ _ _ _ _ _ _ _ _ _ _ _ _ _ _ _ _ _ _ _ _ _ _ _ _ _ _ _ _ _ _ _ _ _ _ _ _ _ _ _ _ _ _ _ _ _ _ _ _ _ _ _ _ _ _ _ _ _ _ _ _ _ _ _ _ _ _ _ _ _ _ _ _ _ _ _ _ _ _ ?_
    intro f1 wc HJ0
    obtain ⟨D1, HJ⟩ := hid_one (Lib.hid HJ0)
    clear HJ0 g0 g1 g2 g3 HP3 HD HI HBW
    obtain ⟨cb, HCB⟩ : ∃ cb, Hid (D1.off = cb) := ⟨_, Lib.hid rfl⟩
    obtain ⟨r, HRR⟩ : ∃ r : Int, Hid ((D1.writes : Int) = r) := ⟨_, Lib.hid rfl⟩
    have c1 : wc.cell? ⟨rg, 1, none⟩ = some (.bool cb) := by rw [← HCB.out]; exact HJ.out.1.r.c1
    have c3 : wc.cell? ⟨rg, 3, none⟩ = some (.int .i64 r) := by rw [← HRR.out]; exact HJ.out.1.r.c3
    have hbb : (cb != cb) = false := by simp
    have hbr : (r != r) = false := by simp
    unfold fr2
    go_wp2_with fail
    go_quiet ((first
      | (go_at_call 11; exact quietL (q_off g h cb D1 _ (HJ.out.1.d.stay (Stay.drewN wc _)) HCB.out))
      | (go_at_call 25; exact quietL (q_writes g h r D1 _ (HJ.out.1.d.stay (Stay.drewN wc _)) HRR.out))))
    have HJ1 : Hid (PlayI w (wc.drewN nq) g h rg rh N n (k + 1)) := Lib.hid ⟨D1, HJ.out.1.stay (Stay.drewN wc nq), HJ.out.2⟩
    clear c1 c3 hbb hbr
    go_wp2_with fail
    go_roundg (L - (k + 1))
    case measure => omega
    case rel => exact ⟨k + 1, by omega, by omega, by omega, by go_num, HJ1⟩
end Go.Proofs.YtadhgdjgpanddaaDoor

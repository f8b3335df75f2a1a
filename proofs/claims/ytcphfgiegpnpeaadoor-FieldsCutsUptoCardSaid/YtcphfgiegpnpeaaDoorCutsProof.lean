/- For every input of bulk at most 1048576, jackfieldlaw01.FieldsCuts returns true and leaves its arguments as they were: the second form's row and its tied card. Conditions: the bound on the bulk; the listed errors' variables start as the program's text lays them. -/
import Derived.Test.YtcphfgiegpnpeaaDoorBulk
import Derived.Test.YtcphfgiegpnpeaaDoorCutsw
import Derived.Lib.SmallJoins
import Derived.Test.YtcphfgiegpnpeaaDoorCards
import Derived.Test.YtcphfgiegpnpeaaDoorTie
namespace Go.Proofs.YtcphfgiegpnpeaaDoor
open Go.ChangeShapes Go.WideShapes Go.ChangeAt Go.WideMaps Go.WideElems Go.RowKit
open Go.ChangeMaps (open_string shut_string)
open Go.Joins

theorem cells55 : Tryd.prog.cellsOf 55 = 4 := by kernel_rfl
theorem read55 : Tryd.prog.readableRec 55 = true := by kernel_rfl
theorem row55 : 55 < Tryd.prog.types.size := by rw [size100]; decide

theorem cuts_contract (H : Type) (enc : TypeId × Value → H) (W : World) (base : Nat) (args : Array Value) (ds gs : List (DataW H)) (before : List MemPlace)
    (hval : ∀ (j : Nat) t v, Tryd.f7.params[j]? = some t → args[j]? = some v → Value.okWide Tryd.prog W .any base t v)
    (hW : DataW.Whole enc Tryd.prog Tryd.f7.params.toList Rows.fieldsCutsSpec.vars false W args.toList ds gs before) (hL : laidMetH Tryd.prog laid5 W) (hk : Rows.uptoSmall H (ds ++ gs) = true) :
    Calls Tryd.prog 7 args W fun e W' => ∃ v, e = .returned v ∧ Rows.fieldsCutsSpec.post enc Tryd.prog Tryd.f7 false true false false W args v W' := by
  have hW' := hW
  have hlt0 : ∀ x ∈ before, x.block < W.heap.size := fun x hx => hW.lt x hx
  obtain ⟨p, q, hA0, hV, rfl, hfz, hnd⟩ := hW
  have hA : DataW.TrodAll enc Tryd.prog W 0 (fun _ => true) true Tryd.f7.params.toList args.toList ds p := hA0
  rw [Tryd.params7] at hA hval
  obtain ⟨v0, d0, rfl, rfl, h0⟩ := trodAll_one hA
  obtain ⟨rfl, rfl⟩ := trodVars_none hV
  have hbk := bulk_small hk
  have hT0 := h0
  obtain ⟨c0, c1, c2, c3, y0, y1, y2, y3, m, rfl, rfl, rfl, hy0, hy1, hy2, hy3⟩ := open_agg4 Tryd.underlying55 (by kernel_rfl) cells55 (hval 0 55 v0 rfl rfl) h0
  obtain ⟨s, e0, ed0, hs⟩ := DataW.trod_string Tryd.underlying9 hy0
  injection e0 with e0
  subst e0
  obtain ⟨A, n, cap, cs, e1, hn, hc, hr, hok, hd⟩ := open_cells hy1
  injection e1 with e1
  subst e1
  obtain ⟨k2, e2, _, w2⟩ := DataW.trod_int Tryd.underlying3 hy2
  injection e2 with e2
  subst e2
  obtain ⟨k3, e3, _, w3⟩ := DataW.trod_int Tryd.underlying5 hy3
  injection e3 with e3
  subst e3
  have bd3 := bounds_u8 w3
  have hbg : Rows.uptoBulkAll [y0.1, y1.1, y2.1, y3.1] ≤ 1048576 := by
    have h1 : Rows.uptoBulkAll ([DataW.agg [y0.1, y1.1, y2.1, y3.1]] ++ []) = Rows.uptoBulkAll [y0.1, y1.1, y2.1, y3.1] + 1 + 0 := by
      simp only [List.cons_append, List.nil_append]
      rw [Rows.uptoBulkAll, Rows.uptoBulk, Rows.uptoBulkAll]
    omega
  have hb0 : s.size ≤ 1048576 := str_small hbg (by rw [ed0]; simp)
  have hb1 := sl_small hbg (d := y1.1) (by simp) hd
  obtain ⟨E, hE⟩ := sents5 hL
  have h5 : ∀ i, i < 5 → i ∈ idx5 := by decide
  obtain ⟨a0, _, _, he0, _⟩ := hE.at_ 0 (by decide)
  obtain ⟨a1, _, _, he1, _⟩ := hE.at_ 1 (by decide)
  have es : Rows.fieldsCutsSpec.fn H ([.agg [y0.1, y1.1, y2.1, y3.1]] ++ []) = { results := [.lit (.bool true)], args := [.agg [y0.1, y1.1, y2.1, y3.1]] } := by simp [Rows.fieldsCutsSpec]
  have hby : Value.int .u8 k3 = .int .u8 ((UInt8.ofNat k3.toNat).toNat : Int) := by
    rw [UInt8.toNat_ofNat', Nat.mod_eq_of_lt (by omega), Int.toNat_of_nonneg (by omega)]
  have walk := cuts_any E s n cap A cs k2 (UInt8.ofNat k3.toNat) W (hE.errs h5) (hE.size (by decide)) hb0 hn hr hok hb1 a0 a1 he0 he1
  rw [← hby] at walk
  refine walk.mono fun e W' ⟨he, hb⟩ => ?_
  subst he
  refine ⟨_, rfl, _, _, _, [], y0.2 ++ (y1.2 ++ (y2.2 ++ y3.2)), [], hW', ?_, ?_, ?_, hb.frame _, fun h => by cases h⟩
  · rw [es]; exact trodAll_mk1 (shut_bool Tryd.underlying4 true)
  · rw [es]; exact trodAll_mk1 (Below.trod laidOut read55 row55 hT0 hb (fun x hx => hlt0 x (by simpa using hx)))
  · rw [es]; rfl

set_option maxRecDepth 100000 in
theorem cuts_lifted (os : Os) (started : os.Started) (H : Type) (enc : TypeId × Value → H) (F : Stop.Interp) :
    ReturnsInHanded {} Tryd.checked os 7 .any ((Rows.OpenSpec.upto Rows.fieldsCutsSpec).preRow enc Tryd.prog Tryd.f7 Rows.fieldsCutsUptoRow.domain false Rows.fieldsCutsUptoRow.laid) (((Rows.OpenSpec.upto Rows.fieldsCutsSpec).at F).post enc Tryd.prog Tryd.f7 false true false false) := by
  refine returnsInHanded_of_row (C := Tryd.checked) (s := Rows.OpenSpec.upto Rows.fieldsCutsSpec) own started (by kernel_rfl) Tryd.func7
    (witness_row_atRef (enc := enc) (C := Tryd.checked) false (World.doorLaid Tryd.prog 400 os) #[.agg #[.string ⟨#[]⟩, .slice none 0 0, .int .i64 0, .int .u8 0]] rfl (by kernel_rfl) (by kernel_rfl) (by kernel_rfl)
      (OpenSpec.preRow_of_cond 8 (x := ([.agg [.lit (.string []), .nil, .lit (.int .i64 0), .lit (.int .u8 0)]], [], [])) (by kernel_rfl) (by kernel_rfl) (fun k hk => by cases hk; kernel_rfl) (by kernel_rfl) (door_met5 os _))) ?_
  intro W base args ds gs before hval hW _ hcond _ hL _ _
  exact cuts_contract H enc W base args ds gs before hval hW hL (hcond _ rfl)

theorem cuts_row : Rows.FieldsCutsUptoSaid :=
  OpenClaim.holds_of_cond 7 Tryd.f7 rfl rfl rfl rfl rfl rfl rfl ⟨rfl, rfl, rfl, rfl, rfl⟩ rfl rfl rfl rfl rfl (by kernel_rfl) Tryd.func7 (by kernel_rfl)
    (of_decide_eq_true (by kernel_rfl)) (by unfold Func.isWrapper; rw [if_neg (of_decide_eq_false (by kernel_rfl))]; exact ⟨rfl, rfl⟩)
    (fun os started H enc _ F => by rw [OpenClaim.pre_eq_preRow]; exact cuts_lifted os started H enc F)

theorem cuts_holds : Rows.FieldsCutsUptoCardSaid :=
  Claim7.holds_tied_plain_at .later [] _ _ _ _ cuts_row (fun _ h => by cases h) (by kernel_rfl) (fun _ h => by cases h) fieldsCutsUpto_row_tie rfl ⟨rfl, rfl⟩ (by kernel_rfl) rfl
    (fun f fn hf hfn => by
      obtain rfl : f = 7 := Option.some.inj ((show Tryd.prog.funcNamed "jackfield/jackfieldlaw01.FieldsCuts" = some 7 by kernel_rfl).symm.trans hf) |>.symm
      obtain rfl : fn = Tryd.f7 := (Option.some.inj (Tryd.func7.symm.trans hfn)).symm
      exact ⟨by kernel_rfl, fun j t ht => by
        rw [Tryd.params7] at ht
        have hm : t ∈ [55] := by simpa using Array.mem_of_getElem? ht
        have hall : ([55].all fun u => !Tryd.prog.wantsStandIn u) = true := by kernel_rfl
        exact (show Tryd.prog.wantsStandIn t = false by simpa using List.all_eq_true.1 hall t hm)⟩)
    (by kernel_rfl)
#print axioms cuts_holds
end Go.Proofs.YtcphfgiegpnpeaaDoor

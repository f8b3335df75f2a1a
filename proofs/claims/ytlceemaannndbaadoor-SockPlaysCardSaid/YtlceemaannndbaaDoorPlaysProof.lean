/- For every input, jackfieldlaw03.SockPlays returns true and leaves its arguments as they were: the row and its tied card. Conditions: the listed variables start as the program's text lays them. -/
import Derived.Test.YtlceemaannndbaaDoorPlaysw
import Derived.Test.YtlceemaannndbaaDoorWeigh
import Derived.Test.YtlceemaannndbaaDoorCards
import Derived.Test.YtlceemaannndbaaDoorTie
import Derived.SizedLaws
namespace Go.Proofs.YtlceemaannndbaaDoor
open Go.ChangeShapes Go.WideShapes Go.ChangeAt Go.WideMaps Go.WideElems Go.RowKit
open Go.ChangeMaps (open_string shut_string)

theorem plays_law (ad : Nat → Addr) (z : Int) (A : Option Addr) (L c : Nat) (os : List OpV) (w : World) (hE : Eighteen w ad) (h3 : 3 ≤ w.heap.size) (hL : os.length = L) (hLc : L ≤ c) (hcm : c ≤ 9223372036854775807) (hr : OpsAt w w.heap.size A os)
    (hsz : ∀ o ∈ os, o.bytes.length ≤ reachBytes) : Calls Tryd.prog 3 #[.int .i64 z, .slice A L c] w fun e w' => e = .returned (.bool true) ∧ Below w.heap.size w w' := by
  by_cases h : z < 1 ∨ 65536 < z
  · exact plays_bad ad z _ w hE h3 h
  · obtain ⟨n, rfl⟩ : ∃ n : Nat, z = (n : Int) := ⟨z.toNat, by omega⟩
    exact plays_good ad n A L c os w hE h3 hL hLc hcm hr hsz (by omega) (by omega)

theorem plays_contract (H : Type) (enc : TypeId × Value → H) (W : World) (base : Nat) (args : Array Value) (ds gs : List (DataW H)) (before : List MemPlace)
    (hval : ∀ (j : Nat) t v, Tryd.f3.params[j]? = some t → args[j]? = some v → Value.okWide Tryd.prog W .any base t v)
    (hW : DataW.Whole enc Tryd.prog Tryd.f3.params.toList Rows.sockPlaysSpec.vars false W args.toList ds gs before) (hL : laidMetH Tryd.prog laid18 W)
    (hsz0 : (DataW.weightsEach Tryd.prog (Tryd.f3.params.toList ++ Rows.sockPlaysSpec.plain.varTypes Tryd.prog) (ds ++ gs)).all (· ≤ reachBytes) = true) :
    Calls Tryd.prog 3 args W fun e W' => ∃ v, e = .returned v ∧ Rows.sockPlaysSpec.post enc Tryd.prog Tryd.f3 false true false false W args v W' := by
  have hW' := hW
  have hlt0 : ∀ x ∈ before, x.block < W.heap.size := fun x hx => hW.lt x hx
  obtain ⟨p, q, hA0, hV, rfl, hfz, hnd⟩ := hW
  have hA : DataW.TrodAll enc Tryd.prog W 0 (fun _ => true) true Tryd.f3.params.toList args.toList ds p := hA0
  rw [Tryd.params3] at hA hval
  have hsz := hsz0
  rw [Tryd.params3] at hsz
  obtain ⟨v0, v1, d0, d1, p0, p1, hargs, rfl, rfl, h0, h1⟩ := trodAll_two hA
  obtain rfl : args = #[v0, v1] := by cases args; simp_all
  obtain ⟨rfl, rfl⟩ := trodVars_none hV
  obtain ⟨z0, rfl, rfl, rfl, hz0⟩ := open_int Tryd.underlying3 (hval 0 3 v0 rfl rfl) h0
  have bz0 := bounds_i64 hz0
  obtain ⟨a1, l1, c1, rfl⟩ := okWide_slice Tryd.underlying22 (hval 1 22 v1 rfl rfl)
  obtain ⟨f1, hf1⟩ := h1
  obtain ⟨A1, n1, k1, b1, e1, hn1, hc1, hm1, hr1, hwt1⟩ := open_ops2 hf1
  obtain ⟨rfl, rfl, rfl⟩ : a1 = A1 ∧ l1 = n1 ∧ c1 = k1 := by
    have e : [Value.slice a1 l1 c1] = [Value.slice A1 n1 k1] := e1
    injection e with e
    injection e with x1 x2 x3
    exact ⟨x1, x2, x3⟩
  obtain ⟨E, hS⟩ := sents18 hL
  have hbts := hwt1 (fun m hm => by
    have h1 := DataW.weights_mem_each (P := Tryd.prog) (ts := [3, 22] ++ Rows.sockPlaysSpec.plain.varTypes Tryd.prog) (ds := [.lit (.int .i64 z0), d1] ++ []) (j := 1) (t := 22) (d := d1) rfl rfl m hm
    have h2 := List.all_eq_true.1 hsz m h1
    simpa using h2)
  have es : Rows.sockPlaysSpec.fn H ([.lit (.int .i64 z0), d1] ++ []) = { results := [.lit (.bool true)], args := [.lit (.int .i64 z0), d1] } := by simp [Rows.sockPlaysSpec]
  refine (plays_law _ z0 a1 l1 c1 b1 W (eighteen_of hS) (by have := hS.size (g := 17) (by decide); omega) hn1 hc1 (by unfold maxLen at hm1; omega) hr1 hbts).mono fun e W' ⟨he, hb⟩ => ?_
  subst he
  have q1 : ∀ x ∈ p1, x.block < W.heap.size := fun x hx => hlt0 x (by simp [hx])
  refine ⟨_, rfl, _, _, _, [], [] ++ p1, [], hW', ?_, ?_, ?_, hb.frame _, fun h => by cases h⟩
  · rw [es]; exact trodAll_mk1 (shut_bool Tryd.underlying4 true)
  · rw [es]; exact trodAll_mk2 (shut_int Tryd.underlying3 hz0) (Below.trod laidOut readOps rowOps ⟨f1, hf1⟩ hb q1)
  · rw [es]; rfl

set_option maxRecDepth 100000 in
theorem plays_lifted (os : Os) (started : os.Started) (H : Type) (enc : TypeId × Value → H) :
    ReturnsInHanded {} Tryd.checked os 3 .any (fun w args => (Rows.sockPlaysSpec.pre enc Tryd.prog Tryd.f3 [] false w args ∧ laidMetH Tryd.prog laid18 w) ∧ sizedMet enc Tryd.prog Tryd.f3 (OpenSpec.ofChange Rows.sockPlaysSpec) false w args)
      (Rows.sockPlaysSpec.post enc Tryd.prog Tryd.f3 false true false false) := by
  refine returnsInHanded_of_change_and (C := Tryd.checked) (X := fun w _ => laidMetH Tryd.prog laid18 w) (fun _ _ _ hh h => h.of_heap hh) own started (by kernel_rfl) Tryd.func3
    (ChangeSpec.witness_shaped (enc := enc) (C := Tryd.checked) (os := os) (X := fun w _ => laidMetH Tryd.prog laid18 w) false (World.doorLaid Tryd.prog 400 os) #[.int .i64 0, .slice none 0 0] 8 rfl (World.shaped_of_RefB (by kernel_rfl) (by kernel_rfl)) (by kernel_rfl) (by kernel_rfl) (by kernel_rfl) (door_met18 os _)) ?_
  intro W base args ds gs before hval0 hW _ hsz0 hL _
  exact plays_contract H enc W base args ds gs before hval0 hW hL hsz0

theorem plays_row : Rows.SockPlaysSaid :=
  OpenClaim.holds_of_wide 3 Tryd.f3 rfl rfl rfl rfl rfl rfl rfl ⟨rfl, rfl, rfl, rfl, rfl⟩ rfl rfl rfl rfl rfl (by kernel_rfl) Tryd.func3 (by kernel_rfl)
    (of_decide_eq_true (by kernel_rfl)) (by unfold Func.isWrapper; rw [if_neg (of_decide_eq_false (by kernel_rfl))]; exact ⟨rfl, rfl⟩)
    (fun os started H enc _ => plays_lifted os started H enc)

theorem plays_holds : Rows.SockPlaysCardSaid :=
  Claim7.holds_tied_plain_at .later [] _ _ _ _ plays_row (fun _ h => by cases h) (by kernel_rfl) (fun _ h => by cases h) sockPlays_row_tie rfl ⟨rfl, rfl⟩ (by kernel_rfl) rfl
    (fun f fn hf hfn => by
      obtain rfl : f = 3 := Option.some.inj ((show Tryd.prog.funcNamed "jackfield/jackfieldlaw03.SockPlays" = some 3 by kernel_rfl).symm.trans hf) |>.symm
      obtain rfl : fn = Tryd.f3 := (Option.some.inj (Tryd.func3.symm.trans hfn)).symm
      exact ⟨by kernel_rfl, fun j t ht => by
        rw [Tryd.params3] at ht
        have hm : t ∈ [3, 22] := by simpa using Array.mem_of_getElem? ht
        have hall : ([3, 22].all fun u => !Tryd.prog.wantsStandIn u) = true := by kernel_rfl
        exact (show Tryd.prog.wantsStandIn t = false by simpa using List.all_eq_true.1 hall t hm)⟩)
    (by kernel_rfl)
#print axioms plays_holds
end Go.Proofs.YtlceemaannndbaaDoor

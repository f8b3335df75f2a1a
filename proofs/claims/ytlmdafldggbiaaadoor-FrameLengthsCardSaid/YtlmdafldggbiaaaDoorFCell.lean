/- What fields.cellOf answers: the cell of a field's bytes. -/
import Derived.Test.YtlmdafldggbiaaaDoorFSpan
import Derived.Laws.Externs
import Derived.Laws.IdiomStrings
import Derived.Laws.BytesArg
namespace Go.Proofs.YtlmdafldggbiaaaDoor.F
open Go.RowKit

theorem run_bits (b : Nat) (w : World) : (callFunc 41 #[.float .f64 b]).run Tryd.prog w = .ok (.value (.int .u64 (b : Int))) w := by
  rw [run_callFunc_extern (e := Extern.MathFloatBits.float64bits) Tryd.func41 (by kernel_rfl) (by kernel_rfl) (by kernel_rfl) (by kernel_rfl)]
  rfl
theorem run_frombits (n : Int) (w : World) : (callFunc 56 #[.int .u64 n]).run Tryd.prog w = .ok (.value (.float .f64 n.toNat)) w := by
  rw [run_callFunc_extern (e := Extern.MathFloatBits.float64frombits) Tryd.func56 (by kernel_rfl) (by kernel_rfl) (by kernel_rfl) (by kernel_rfl)]
  rfl
set_option maxRecDepth 100000 in
theorem run_store_f64 (P : Program) (w : World) (a : Addr) (m : Mode) (k : FloatKind) (b : Nat) : (store a (.float k b) m).run P w = stored P w a (.float k b) m := run_store P w a _ m rfl
attribute [local go_sem] run_store_f64

theorem Rd.toStr {w : World} {B : Nat} {A : Option Addr} {bs : List UInt8} (h : Rd w B A (bs.map bv)) (n c : Nat) (hn : bs.length = n) :
    (convert 23 9 (.slice A n c)).run Tryd.prog w = .ok (.string ⟨bs.toArray⟩) w := by
  subst hn
  rcases h with h | ⟨ad, rfl, _, h3⟩
  · have : bs = [] := by simpa using h
    subst this
    rcases A with _ | ad
    · exact run_convert_bytes_nil w 23 5 Tryd.underlying23 Tryd.underlying5 _ _ 9 Tryd.underlying9
    · exact run_convert_bytes_back w 23 9 5 ad c [] Tryd.underlying23 Tryd.underlying5 Tryd.underlying9 (fun j hj => absurd hj (by simp))
  · exact run_convert_bytes_back w 23 9 5 ad c bs Tryd.underlying23 Tryd.underlying5 Tryd.underlying9 (fun j hj => h3 j _ (by simp [hj, bv]))

/-- A cell: number, float's bits, text. -/
structure FC where
  n : Int := 0
  f : Nat := 0
  s : ByteArray := ⟨#[]⟩
def FC.v (c : FC) : Value := .agg #[.int .i64 c.n, .float .f64 c.f, .string c.s]

def cellS (c : Nat) (bs : List UInt8) : FC :=
  if c = 102 then { f := num (bs.take (hd c)) } else if isT c = true then { s := ⟨(bs.drop (hd c)).toArray⟩ } else { n := num (bs.take (hd c)) }

set_option maxRecDepth 100000 in
set_option maxHeartbeats 400000 in
theorem cellOf_any (c n cap : Nat) (A : Option Addr) (bs : List UInt8) (w : World) (hn : bs.length = n) (hmax : n ≤ maxLen) (hcap : n ≤ cap)
    (hr : Rd w w.heap.size A (bs.map bv)) (h0 : hd c ≠ 0) (hge : hd c ≤ n) (hok : isT c = false → c ≠ 102 → num (bs.take (hd c)) ≤ 9223372036854775807) :
    Calls Tryd.prog 64 #[.int .u8 (c : Int), .slice A n cap] w fun e w' => e = .returned (cellS c bs).v ∧ Below w.heap.size w w' := by
  have HR := Lib.hid hr
  clear hr
  have HL := Lib.hid hn
  clear hn
  have hfb := run_frombits
  have hq := hd_cases h0
  have HOK := Lib.hid hok
  clear hok
  generalize hS : cellS c bs = S
  have HS := Lib.hid hS
  clear hS
  generalize hH : hd c = h at *
  have HH := Lib.hid hH
  clear hH
  have hN64 : num (bs.take h) < 18446744073709551616 := num_lt64 _ (by rw [List.length_take]; omega)
  generalize hN : num (bs.take h) = N at *
  have HN := Lib.hid hN
  clear hN
  have hmax' : n ≤ 9223372036854775807 := hmax
  clear hmax
  go_enter Tryd.func64, Tryd.ntmps64
  go_wp2_with fail
  refine (headSize_any _ _).mono ?_
  rintro e w' ⟨rfl, rfl⟩
  rw [HH.out]
  go_wp2_with fail
  refine (number_any A h _ w.heap.size (bs.take h) _ (by rw [← map_take_bv]; exact (HR.out.take h).below ((Below.refl _ _).alloc (Nat.le_refl _) _)) (by rw [List.length_take, HL.out]; omega) (by omega)).mono ?_
  rintro e w' ⟨rfl, rfl⟩
  rw [HN.out]
  by_cases hf : c = 102
  · have hf' : ((c : Int) == 102) = true := by simp [hf]
    go_wp2_with fail
    have e : S = { f := N } := by rw [← HS.out]; simp [cellS, hf]; rw [← hf, HH.out, HN.out]
    subst e
    exact bodyPost_ret (v := .agg #[.int .i64 0, .float .f64 N, .string ⟨#[]⟩]) (by simp [results, Tryd.results64, go_sem]) rfl ⟨rfl, (Below.refl _ _).alloc (Nat.le_refl _) _⟩
  · have hf' : ((c : Int) == 102) = false := by simp; omega
    go_wp2_with fail
    refine (isText_any _ _).mono ?_
    rintro e w' ⟨rfl, rfl⟩
    cases hT : isT c
    · have HT := Lib.hid hT
      clear hT
      have hb : N ≤ 9223372036854775807 := HOK.out HT.out hf
      go_wp2_with fail
      have e : S = { n := N } := by rw [← HS.out]; simp [cellS, hf, HT.out, HN.out, HH.out]
      subst e
      exact bodyPost_ret (v := .agg #[.int .i64 N, .float .f64 0, .string ⟨#[]⟩]) (by simp [results, Tryd.results64, go_sem]) rfl ⟨rfl, (Below.refl _ _).alloc (Nat.le_refl _) _⟩
    · have HT := Lib.hid hT
      clear hT
      have e : S = { s := ⟨(bs.drop h).toArray⟩ } := by rw [← HS.out]; simp [cellS, hf, HT.out, HH.out]
      subst e
      clear HS
      have hst := fun o : Obj => ((HR.out.drop (k := h) (cap := cap) (by simp; rw [HL.out]; omega) (by simp; rw [HL.out]; omega)).below ((Below.refl _ _).alloc (Nat.le_refl _) o))
      have hst2 := fun o : Obj => Rd.toStr (bs := bs.drop h) (by rw [List.map_drop]; exact hst o) (n - h) (cap - h) (by rw [List.length_drop, HL.out])
      clear hst
      by_cases hch : cap = h
      · simp only [if_pos hch] at hst2
        obtain rfl : n = h := by omega
        obtain rfl : cap = n := by omega
        rw [Nat.sub_self] at hst2
        go_wp2_with fail
        exact bodyPost_ret (v := .agg #[.int .i64 0, .float .f64 0, .string ⟨(bs.drop cap).toArray⟩]) (by simp [results, Tryd.results64, go_sem]) rfl ⟨rfl, (Below.refl _ _).alloc (Nat.le_refl _) _⟩
      · simp only [if_neg hch] at hst2
        go_wp2_with fail
        exact bodyPost_ret (v := .agg #[.int .i64 0, .float .f64 0, .string ⟨(bs.drop h).toArray⟩]) (by simp [results, Tryd.results64, go_sem]) rfl ⟨rfl, (Below.refl _ _).alloc (Nat.le_refl _) _⟩
end Go.Proofs.YtlmdafldggbiaaaDoor.F

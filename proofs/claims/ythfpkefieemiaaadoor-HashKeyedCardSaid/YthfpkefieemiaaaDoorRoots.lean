/- The reference's words, by plain mathematics: roots of primes in whole numbers. -/
import Derived.Test.YthfpkefieemiaaaDoorSha
namespace Go.Proofs.YthfpkefieemiaaaDoor

def wideS (a b : Nat) : Nat × Nat :=
  let ll := (a % 4294967296) * (b % 4294967296)
  let lh := (a % 4294967296) * (b / 4294967296)
  let hl := (a / 4294967296) * (b % 4294967296)
  let hh := (a / 4294967296) * (b / 4294967296)
  let mid := ll / 4294967296 + lh % 4294967296 + hl % 4294967296
  ((hh + lh / 4294967296 + hl / 4294967296 + mid / 4294967296) % 18446744073709551616, (mid * 4294967296 % 18446744073709551616) ||| (ll % 4294967296))
def atMostS (r p : Nat) (two : Bool) : Bool :=
  let hi := (wideS r r).1
  let lo := (wideS r r).2
  if two then decide (hi < p) || (decide (hi = p) && decide (lo = 0))
  else
    let h1 := (wideS lo r).1
    let l1 := (wideS lo r).2
    let h2 := (wideS hi r).2
    let top := (h2 + h1) % 18446744073709551616
    if top < h2 then false else decide (top < p * 4294967296 % 18446744073709551616) || (decide (top = p * 4294967296 % 18446744073709551616) && decide (l1 = 0))
/-- The root's bits, from bit number 36 on down to bit number 'bit'. -/
def rootFrom (p : Nat) (two : Bool) : Nat → Nat
  | 0 => 0
  | k + 1 => let r := rootFrom p two k
    if atMostS (r ||| 2 ^ (36 - k)) p two then r ||| 2 ^ (36 - k) else r
def rootS (p : Nat) (two : Bool) : Wd := BitVec.ofNat 32 (rootFrom p two 37)
/-- The primes below 2 + k. -/
def primesTo : Nat → List Nat
  | 0 => []
  | k + 1 => if (primesTo k).all fun q => (2 + k) % q != 0 then primesTo k ++ [2 + k] else primesTo k
set_option maxRecDepth 100000 in
theorem first_words : (primesTo 18).map (fun p => rootS p true) = H0.list := by decide +kernel
set_option maxRecDepth 100000 in
theorem round_words : (primesTo 310).map (fun p => rootS p false) = KT := by decide +kernel
end Go.Proofs.YthfpkefieemiaaaDoor

/- The law DrumPlays, whatever its arguments. -/
import Derived.Test.YtadhgdjgpanddaaDoorPgood1
import Derived.Test.YtadhgdjgpanddaaDoorPgood2
import Derived.Test.YtadhgdjgpanddaaDoorPgood3
namespace Go.Proofs.YtadhgdjgpanddaaDoor
open Go.RowKit

theorem plays_any (ad : Nat → Addr) (z0 : Int) (A : Option Addr) (N c : Nat) (bs : List UInt8) (A2 : Option Addr) (L c2 : Nat) (os : List OpV) (w : World) (hE : Eighteen w ad) (hb : bs.length = N) (hr : Rd w w.heap.size A (bs.map bv))
    (hL : os.length = L) (hLc : L ≤ c2) (hcm2 : c2 ≤ 9223372036854775807) (hos : OpsAt w w.heap.size A2 os) :
    Calls Tryd.prog 3 #[.int .i64 z0, .slice A N c, .slice A2 L c2] w fun e w' => e = .returned (.bool true) ∧ Below w.heap.size w w' := by
  by_cases hz1 : z0 < 1
  · by_cases h1 : 262400 < N
    · exact plays_long1 ad z0 N A c _ w hE hz1 h1
    · by_cases h2 : N % 64 ≠ 0 ∨ N = 0 ∨ 262144 < N
      · exact plays_bad1 ad z0 N A c bs _ w hE hz1 (by omega) h2 hb hr
      · exact plays_good1 ad z0 (N / 64) N A c bs A2 L c2 os w hE hz1 (by omega) (by omega) (by omega) hb hr hL hLc hcm2 hos
  · by_cases hz2 : 4096 < z0
    · by_cases h1 : 262400 < N
      · exact plays_long2 ad z0 N A c _ w hE hz2 h1
      · by_cases h2 : N % 64 ≠ 0 ∨ N = 0 ∨ 262144 < N
        · exact plays_bad2 ad z0 N A c bs _ w hE hz2 (by omega) h2 hb hr
        · exact plays_good2 ad z0 (N / 64) N A c bs A2 L c2 os w hE hz2 (by omega) (by omega) (by omega) hb hr hL hLc hcm2 hos
    · obtain ⟨m, rfl⟩ : ∃ m : Nat, z0 = (m : Int) := ⟨z0.toNat, by omega⟩
      by_cases h1 : 262400 < N
      · exact plays_long3 ad m N A c _ w hE (by omega) (by omega) h1
      · by_cases h2 : N % 64 ≠ 0 ∨ N = 0 ∨ 262144 < N
        · exact plays_bad3 ad m N A c bs _ w hE (by omega) (by omega) (by omega) h2 hb hr
        · exact plays_good3 ad m (N / 64) N A c bs A2 L c2 os w hE (by omega) (by omega) (by omega) (by omega) (by omega) hb hr hL hLc hcm2 hos
end Go.Proofs.YtadhgdjgpanddaaDoor

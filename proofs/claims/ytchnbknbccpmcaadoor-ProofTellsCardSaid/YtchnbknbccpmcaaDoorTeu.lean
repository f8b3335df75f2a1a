/- The law ProofTells, whole. -/
import Derived.Test.YtchnbknbccpmcaaDoorTe0
import Derived.Test.YtchnbknbccpmcaaDoorTe1
import Derived.Test.YtchnbknbccpmcaaDoorTe2
import Derived.Test.YtchnbknbccpmcaaDoorTe3
import Derived.Test.YtchnbknbccpmcaaDoorTe4
import Derived.Test.YtchnbknbccpmcaaDoorTe5
import Derived.Test.YtchnbknbccpmcaaDoorTe6
import Derived.Test.YtchnbknbccpmcaaDoorTe7
namespace Go.Proofs.YtchnbknbccpmcaaDoor
open Go.RowKit
open Go.Proofs.YtchnbknbccpmcaaDoor.H

theorem tells_any (E : Nat → Value) (ad : Nat → Addr) (K : Option Addr) (kn kc : Nat) (key : List UInt8) (M : Option Addr) (nn nc : Nat) (nonce : List UInt8) (who : ByteArray) (z : Int) (T : Option Addr) (n d : Nat) (bs : List UInt8) (w : World)
    (hE : Env w E (.iface 127 (.pointer (some (ad 0)))) (.iface 127 (.pointer (some (ad 1))))) (h18 : Eighteen w ad) (hk : KeyAt w K kn kc key) (hm : KeyAt w M nn nc nonce) (ht : KeyAt w T n d bs) :
    Calls Tryd.prog 3 #[.agg #[.slice K kn kc, .slice M nn nc, .string who, .int .i64 z, .slice T n d]] w fun e w' => e = .returned (.bool true) ∧ Below w.heap.size w w' := by
  cases hb1 : condA kn z <;> cases hb2 : condB kn nn who <;> cases hb3 : condC kn who z
  · exact tells_0 E ad K kn kc key M nn nc nonce who z T n d bs w hE h18 hk hm ht hb1 hb2 hb3
  · exact tells_1 E ad K kn kc key M nn nc nonce who z T n d bs w hE h18 hk hm ht hb1 hb2 hb3
  · exact tells_2 E ad K kn kc key M nn nc nonce who z T n d bs w hE h18 hk hm ht hb1 hb2 hb3
  · exact tells_3 E ad K kn kc key M nn nc nonce who z T n d bs w hE h18 hk hm ht hb1 hb2 hb3
  · exact tells_4 E ad K kn kc key M nn nc nonce who z T n d bs w hE h18 hk hm ht hb1 hb2 hb3
  · exact tells_5 E ad K kn kc key M nn nc nonce who z T n d bs w hE h18 hk hm ht hb1 hb2 hb3
  · exact tells_6 E ad K kn kc key M nn nc nonce who z T n d bs w hE h18 hk hm ht hb1 hb2 hb3
  · exact tells_7 E ad K kn kc key M nn nc nonce who z T n d bs w hE h18 hk hm ht hb1 hb2 hb3
end Go.Proofs.YtchnbknbccpmcaaDoor

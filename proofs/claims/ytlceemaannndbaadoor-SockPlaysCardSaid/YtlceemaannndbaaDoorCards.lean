/-
  DERIVED. GIVEN WITH THE SEED: THE CARDS: each row of YtlceemaannndbaaDoorRows.lean that lists a variable, with what it lists TIED to the program's text (the seventh form; the later family's looks); each row that meets fmt, with fmt's text TOLD by the authors' own Lean function (tested against real Go, not proved from fmt's source: count such statements apart). THE CARD IS WHAT COUNTS. Prove the row's statement (the work); the ties are given (YtlceemaannndbaaDoorTie.lean); close each card by the builder's one call (the guide's Derived/Test/ToyasCard.lean, 'card_holds'). Laid BY PROGRAM, IN A SANDBOX (cutbox-door.mjs). By AI agents, Wed Nov 11 2026. No macro, syntax, notation, axiom, sorry.
-/
import Derived.Test.YtlceemaannndbaaDoorRows
import GoSem.ClaimSeven
namespace Go.Proofs.YtlceemaannndbaaDoor
namespace Rows

/-- THE TIED CARD OF 'jackfieldlaw03.SockPlays'. -/
def sockPlaysCard : Claim7 := { stood := { row := sockPlaysRow, standIns := [], harness := (true, "be36f35710d1cdac047e73e2e8e5d4463ab8316e2f40e48ae366da9aadbcd544"), looks := true }, kinds := [], alts := [], laidByText := true, laidKinds := [.sentinel, .sentinel, .sentinel, .sentinel, .sentinel, .sentinel, .sentinel, .sentinel, .sentinel, .sentinel, .sentinel, .sentinel, .sentinel, .sentinel, .sentinel, .sentinel, .sentinel, .sentinel], laidTests := true, laidLooks := .later }
def SockPlaysCardSaid : Prop := Claim7.holds Tryd.pinned (.plain (OpenSpec.ofChange sockPlaysSpec)) sockPlaysCard

/-- THE TIED CARD OF 'jackfieldlaw03.SockPrefix'. -/
def sockPrefixCard : Claim7 := { stood := { row := sockPrefixRow, standIns := [], harness := (true, "be36f35710d1cdac047e73e2e8e5d4463ab8316e2f40e48ae366da9aadbcd544"), looks := true }, kinds := [], alts := [], laidByText := true, laidKinds := [.sentinel, .sentinel, .sentinel], laidTests := true, laidLooks := .later }
def SockPrefixCardSaid : Prop := Claim7.holds Tryd.pinned (.plain (OpenSpec.ofChange sockPrefixSpec)) sockPrefixCard

/-- THE TIED CARD OF 'jackfieldlaw03.SockRoom'. -/
def sockRoomCard : Claim7 := { stood := { row := sockRoomRow, standIns := [], harness := (true, "be36f35710d1cdac047e73e2e8e5d4463ab8316e2f40e48ae366da9aadbcd544"), looks := true }, kinds := [], alts := [], laidByText := true, laidKinds := [.sentinel, .sentinel, .sentinel], laidTests := true, laidLooks := .later }
def SockRoomCardSaid : Prop := Claim7.holds Tryd.pinned (.plain (OpenSpec.ofChange sockRoomSpec)) sockRoomCard

/-- THE TIED CARD OF 'jackfieldlaw03.SockLost'. -/
def sockLostCard : Claim7 := { stood := { row := sockLostRow, standIns := [], harness := (true, "be36f35710d1cdac047e73e2e8e5d4463ab8316e2f40e48ae366da9aadbcd544"), looks := true }, kinds := [], alts := [], laidByText := true, laidKinds := [.sentinel, .sentinel, .sentinel], laidTests := true, laidLooks := .later }
def SockLostCardSaid : Prop := Claim7.holds Tryd.pinned (.plain (OpenSpec.ofChange sockLostSpec)) sockLostCard

/-- THE TIED CARD OF 'jackfieldlaw03.SockEnds'. -/
def sockEndsCard : Claim7 := { stood := { row := sockEndsRow, standIns := [], harness := (true, "be36f35710d1cdac047e73e2e8e5d4463ab8316e2f40e48ae366da9aadbcd544"), looks := true }, kinds := [], alts := [], laidByText := true, laidKinds := [.sentinel, .sentinel, .sentinel], laidTests := true, laidLooks := .later }
def SockEndsCardSaid : Prop := Claim7.holds Tryd.pinned (.plain (OpenSpec.ofChange sockEndsSpec)) sockEndsCard

/-- THE SECOND FORM's CARD OF 'jackfieldlaw03.SockPlays'. -/
def sockPlaysUptoCard : Claim7 := { stood := { row := sockPlaysUptoRow, standIns := [], harness := (true, "be36f35710d1cdac047e73e2e8e5d4463ab8316e2f40e48ae366da9aadbcd544"), looks := true }, kinds := [], alts := [], laidByText := true, laidKinds := [.sentinel, .sentinel, .sentinel, .sentinel, .sentinel, .sentinel, .sentinel, .sentinel, .sentinel, .sentinel, .sentinel, .sentinel, .sentinel, .sentinel, .sentinel, .sentinel, .sentinel, .sentinel], laidTests := true, laidLooks := .later }
def SockPlaysUptoCardSaid : Prop := Claim7.holds Tryd.pinned (.plain (OpenSpec.upto sockPlaysSpec)) sockPlaysUptoCard

/-- THE SECOND FORM's CARD OF 'jackfieldlaw03.SockPrefix'. -/
def sockPrefixUptoCard : Claim7 := { stood := { row := sockPrefixUptoRow, standIns := [], harness := (true, "be36f35710d1cdac047e73e2e8e5d4463ab8316e2f40e48ae366da9aadbcd544"), looks := true }, kinds := [], alts := [], laidByText := true, laidKinds := [.sentinel, .sentinel, .sentinel], laidTests := true, laidLooks := .later }
def SockPrefixUptoCardSaid : Prop := Claim7.holds Tryd.pinned (.plain (OpenSpec.upto sockPrefixSpec)) sockPrefixUptoCard

/-- THE SECOND FORM's CARD OF 'jackfieldlaw03.SockRoom'. -/
def sockRoomUptoCard : Claim7 := { stood := { row := sockRoomUptoRow, standIns := [], harness := (true, "be36f35710d1cdac047e73e2e8e5d4463ab8316e2f40e48ae366da9aadbcd544"), looks := true }, kinds := [], alts := [], laidByText := true, laidKinds := [.sentinel, .sentinel, .sentinel], laidTests := true, laidLooks := .later }
def SockRoomUptoCardSaid : Prop := Claim7.holds Tryd.pinned (.plain (OpenSpec.upto sockRoomSpec)) sockRoomUptoCard

/-- THE SECOND FORM's CARD OF 'jackfieldlaw03.SockLost'. -/
def sockLostUptoCard : Claim7 := { stood := { row := sockLostUptoRow, standIns := [], harness := (true, "be36f35710d1cdac047e73e2e8e5d4463ab8316e2f40e48ae366da9aadbcd544"), looks := true }, kinds := [], alts := [], laidByText := true, laidKinds := [.sentinel, .sentinel, .sentinel], laidTests := true, laidLooks := .later }
def SockLostUptoCardSaid : Prop := Claim7.holds Tryd.pinned (.plain (OpenSpec.upto sockLostSpec)) sockLostUptoCard

/-- THE SECOND FORM's CARD OF 'jackfieldlaw03.SockEnds'. -/
def sockEndsUptoCard : Claim7 := { stood := { row := sockEndsUptoRow, standIns := [], harness := (true, "be36f35710d1cdac047e73e2e8e5d4463ab8316e2f40e48ae366da9aadbcd544"), looks := true }, kinds := [], alts := [], laidByText := true, laidKinds := [.sentinel, .sentinel, .sentinel], laidTests := true, laidLooks := .later }
def SockEndsUptoCardSaid : Prop := Claim7.holds Tryd.pinned (.plain (OpenSpec.upto sockEndsSpec)) sockEndsUptoCard
end Rows
end Go.Proofs.YtlceemaannndbaaDoor

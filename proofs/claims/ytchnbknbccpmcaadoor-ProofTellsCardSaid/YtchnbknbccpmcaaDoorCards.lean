/-
  DERIVED. GIVEN WITH THE SEED: THE CARDS: each row of YtchnbknbccpmcaaDoorRows.lean that lists a variable, with what it lists TIED to the program's text (the seventh form; the later family's looks); each row that meets fmt, with fmt's text TOLD by the authors' own Lean function (tested against real Go, not proved from fmt's source: count such statements apart). THE CARD IS WHAT COUNTS. Prove the row's statement (the work); the ties are given (YtchnbknbccpmcaaDoorTie.lean); close each card by the builder's one call (the guide's Derived/Test/ToyasCard.lean, 'card_holds'). Laid BY PROGRAM, IN A SANDBOX (cutbox-door.mjs). By AI agents, Wed Nov 11 2026. No macro, syntax, notation, axiom, sorry.
-/
import Derived.Test.YtchnbknbccpmcaaDoorRows
import GoSem.ClaimSeven
namespace Go.Proofs.YtchnbknbccpmcaaDoor
namespace Rows

/-- THE TIED CARD OF 'jackfieldlaw10.ProofTells'. -/
def proofTellsCard : Claim7 := { stood := { row := proofTellsRow, standIns := [], harness := (true, "bf34a43865ac1bdb42c5127dce40d722e6d3a3543d72eb5f438dfe5051b25af9"), looks := true }, kinds := [], alts := [], laidByText := true, laidKinds := [.data, .sentinel, .sentinel, .sentinel, .sentinel, .sentinel, .sentinel, .sentinel, .sentinel, .sentinel, .sentinel, .sentinel, .sentinel, .sentinel, .sentinel, .sentinel, .sentinel, .sentinel, .sentinel], laidTests := true, laidLooks := .later }
def ProofTellsCardSaid : Prop := Claim7.holds Tryd.pinned (.plain (OpenSpec.ofChange proofTellsSpec)) proofTellsCard

/-- THE TIED CARD OF 'jackfieldlaw10.ProofSlips'. -/
def proofSlipsCard : Claim7 := { stood := { row := proofSlipsRow, standIns := [], harness := (true, "bf34a43865ac1bdb42c5127dce40d722e6d3a3543d72eb5f438dfe5051b25af9"), looks := true }, kinds := [], alts := [], laidByText := true, laidKinds := [.data, .sentinel, .sentinel, .sentinel, .sentinel, .sentinel, .sentinel], laidTests := true, laidLooks := .later }
def ProofSlipsCardSaid : Prop := Claim7.holds Tryd.pinned (.plain (OpenSpec.ofChange proofSlipsSpec)) proofSlipsCard

/-- THE TIED CARD OF 'jackfieldlaw10.ProofShapes'. -/
def proofShapesCard : Claim7 := { stood := { row := proofShapesRow, standIns := [], harness := (true, "bf34a43865ac1bdb42c5127dce40d722e6d3a3543d72eb5f438dfe5051b25af9"), looks := true }, kinds := [], alts := [], laidByText := true, laidKinds := [.data, .sentinel, .sentinel, .sentinel, .sentinel, .sentinel, .sentinel], laidTests := true, laidLooks := .later }
def ProofShapesCardSaid : Prop := Claim7.holds Tryd.pinned (.plain (OpenSpec.ofChange proofShapesSpec)) proofShapesCard

/-- THE TIED CARD OF 'jackfieldlaw10.ProofNumbers'. -/
def proofNumbersCard : Claim7 := { stood := { row := proofNumbersRow, standIns := [], harness := (true, "bf34a43865ac1bdb42c5127dce40d722e6d3a3543d72eb5f438dfe5051b25af9"), looks := true }, kinds := [], alts := [], laidByText := true, laidKinds := [.data, .sentinel, .sentinel, .sentinel, .sentinel, .sentinel, .sentinel], laidTests := true, laidLooks := .later }
def ProofNumbersCardSaid : Prop := Claim7.holds Tryd.pinned (.plain (OpenSpec.ofChange proofNumbersSpec)) proofNumbersCard

/-- THE SECOND FORM's CARD OF 'jackfieldlaw10.ProofTells'. -/
def proofTellsUptoCard : Claim7 := { stood := { row := proofTellsUptoRow, standIns := [], harness := (true, "bf34a43865ac1bdb42c5127dce40d722e6d3a3543d72eb5f438dfe5051b25af9"), looks := true }, kinds := [], alts := [], laidByText := true, laidKinds := [.data, .sentinel, .sentinel, .sentinel, .sentinel, .sentinel, .sentinel, .sentinel, .sentinel, .sentinel, .sentinel, .sentinel, .sentinel, .sentinel, .sentinel, .sentinel, .sentinel, .sentinel, .sentinel], laidTests := true, laidLooks := .later }
def ProofTellsUptoCardSaid : Prop := Claim7.holds Tryd.pinned (.plain (OpenSpec.upto proofTellsSpec)) proofTellsUptoCard

/-- THE SECOND FORM's CARD OF 'jackfieldlaw10.ProofSlips'. -/
def proofSlipsUptoCard : Claim7 := { stood := { row := proofSlipsUptoRow, standIns := [], harness := (true, "bf34a43865ac1bdb42c5127dce40d722e6d3a3543d72eb5f438dfe5051b25af9"), looks := true }, kinds := [], alts := [], laidByText := true, laidKinds := [.data, .sentinel, .sentinel, .sentinel, .sentinel, .sentinel, .sentinel], laidTests := true, laidLooks := .later }
def ProofSlipsUptoCardSaid : Prop := Claim7.holds Tryd.pinned (.plain (OpenSpec.upto proofSlipsSpec)) proofSlipsUptoCard

/-- THE SECOND FORM's CARD OF 'jackfieldlaw10.ProofShapes'. -/
def proofShapesUptoCard : Claim7 := { stood := { row := proofShapesUptoRow, standIns := [], harness := (true, "bf34a43865ac1bdb42c5127dce40d722e6d3a3543d72eb5f438dfe5051b25af9"), looks := true }, kinds := [], alts := [], laidByText := true, laidKinds := [.data, .sentinel, .sentinel, .sentinel, .sentinel, .sentinel, .sentinel], laidTests := true, laidLooks := .later }
def ProofShapesUptoCardSaid : Prop := Claim7.holds Tryd.pinned (.plain (OpenSpec.upto proofShapesSpec)) proofShapesUptoCard

/-- THE SECOND FORM's CARD OF 'jackfieldlaw10.ProofNumbers'. -/
def proofNumbersUptoCard : Claim7 := { stood := { row := proofNumbersUptoRow, standIns := [], harness := (true, "bf34a43865ac1bdb42c5127dce40d722e6d3a3543d72eb5f438dfe5051b25af9"), looks := true }, kinds := [], alts := [], laidByText := true, laidKinds := [.data, .sentinel, .sentinel, .sentinel, .sentinel, .sentinel, .sentinel], laidTests := true, laidLooks := .later }
def ProofNumbersUptoCardSaid : Prop := Claim7.holds Tryd.pinned (.plain (OpenSpec.upto proofNumbersSpec)) proofNumbersUptoCard
end Rows
end Go.Proofs.YtchnbknbccpmcaaDoor

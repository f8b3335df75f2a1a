/-
  NARROWER THAN 'FOR EVERY INPUT', by the rows' own cells (each row's printed sentence says how): HashDigests: laid · HashKeyed: laid · HashParts: laid · HashAlike: laid · HashLong: laid · HashChecks: laid · HashHexes: laid.
  DERIVED. THE GIVEN ROWS OF THIS SEAT. 7 by the template 'for every input the law returns true; each argument reads behind the call as it read before'; 0 by the template 'total and deterministic' (their statements: YthfpkefieemiaaaDoorTotals.lean).
  GIVEN WITH THE SEED: the statements are not yours to turn. If you find one false, say at which input.
  Laid BY PROGRAM, IN A SANDBOX (cutbox-rows.mjs): the forced cells as the released guide's own fill.sh prints them over the translation 8b12c168a30f4931… (all of the seat's roots in one cut). By AI agents, Wed Nov 11 2026. No macro, syntax, notation, axiom, sorry.
-/
import Derived.Test.YthfpkefieemiaaaDoorChecked
import GoSem.Claim
import GoSem.ClaimJoined
import GoSem.ClaimMapViews
import Derived.JoinedTies
import Derived.KernelRfl
namespace Go.Proofs.YthfpkefieemiaaaDoor
/- THE CELL 'sum', in the pinned program and in every row, IS THE sha256 OF THE DUMP (.gsa) THAT YthfpkefieemiaaaDoorProg.lean LOADS. Nothing in Lean hashes anything: it is a label: what it is worth is what the hold of that sum in a sandbox is worth. -/
noncomputable def Tryd.pinned : Pinned := { name := "ythfpkefieemiaaadoor", sum := "8b12c168a30f49316b65dc4e4147957f4c356b70cd78ffcfc2e8cf7c281ffcdc", checked := Tryd.checked }
namespace Rows
def none {H : Type} : Left H := { results := [], args := [] }

/- WHAT THE LISTED PACKAGE-LEVEL VARIABLES READ AS WHEN THE CALL BEGINS. Each datum BY PROGRAM (the guide's laid-datum.mjs) off the statement by which the dump's own 'gosem.cut.vars' lays the variable. In a bare row this is a premise. The card (YthfpkefieemiaaaDoorCards.lean) ties it to the program's text. -/
def laid_jackfield_hash_roundWords {H : Type} : DataW H := .agg [.lit (.int .u32 1116352408), .lit (.int .u32 1899447441), .lit (.int .u32 3049323471), .lit (.int .u32 3921009573), .lit (.int .u32 961987163), .lit (.int .u32 1508970993), .lit (.int .u32 2453635748), .lit (.int .u32 2870763221), .lit (.int .u32 3624381080), .lit (.int .u32 310598401), .lit (.int .u32 607225278), .lit (.int .u32 1426881987), .lit (.int .u32 1925078388), .lit (.int .u32 2162078206), .lit (.int .u32 2614888103), .lit (.int .u32 3248222580), .lit (.int .u32 3835390401), .lit (.int .u32 4022224774), .lit (.int .u32 264347078), .lit (.int .u32 604807628), .lit (.int .u32 770255983), .lit (.int .u32 1249150122), .lit (.int .u32 1555081692), .lit (.int .u32 1996064986), .lit (.int .u32 2554220882), .lit (.int .u32 2821834349), .lit (.int .u32 2952996808), .lit (.int .u32 3210313671), .lit (.int .u32 3336571891), .lit (.int .u32 3584528711), .lit (.int .u32 113926993), .lit (.int .u32 338241895), .lit (.int .u32 666307205), .lit (.int .u32 773529912), .lit (.int .u32 1294757372), .lit (.int .u32 1396182291), .lit (.int .u32 1695183700), .lit (.int .u32 1986661051), .lit (.int .u32 2177026350), .lit (.int .u32 2456956037), .lit (.int .u32 2730485921), .lit (.int .u32 2820302411), .lit (.int .u32 3259730800), .lit (.int .u32 3345764771), .lit (.int .u32 3516065817), .lit (.int .u32 3600352804), .lit (.int .u32 4094571909), .lit (.int .u32 275423344), .lit (.int .u32 430227734), .lit (.int .u32 506948616), .lit (.int .u32 659060556), .lit (.int .u32 883997877), .lit (.int .u32 958139571), .lit (.int .u32 1322822218), .lit (.int .u32 1537002063), .lit (.int .u32 1747873779), .lit (.int .u32 1955562222), .lit (.int .u32 2024104815), .lit (.int .u32 2227730452), .lit (.int .u32 2361852424), .lit (.int .u32 2428436474), .lit (.int .u32 2756734187), .lit (.int .u32 3204031479), .lit (.int .u32 3329325298)]

/-- 'jackfieldlaw02.HashDigests': WHATEVER THE INPUT: true; the input reads as it did. -/
def hashDigestsSpec : ChangeSpec := { name := "hashDigests", fn := fun _ => fun
  | [d] => { results := [.lit (.bool true)], args := [d] }
  | _ => none }
def hashDigestsRow : OpenClaim := { program := "ythfpkefieemiaaadoor", sum := "8b12c168a30f49316b65dc4e4147957f4c356b70cd78ffcfc2e8cf7c281ffcdc", func := "jackfield/jackfieldlaw02.HashDigests", spec := "hashDigests", named := ["jackfield/hash.roundWords"], apart := false, laid := [("jackfield/hash.roundWords", laid_jackfield_hash_roundWords)] }
def HashDigestsSaid : Prop := hashDigestsRow.holds Tryd.pinned (OpenSpec.ofChange hashDigestsSpec)

/-- ITS FALSE NEIGHBOUR: 'it returns false'. Refute it at one input. -/
def hashDigestsWrong : ChangeSpec := { name := "hashDigests", fn := fun _ => fun
  | [d] => { results := [.lit (.bool false)], args := [d] }
  | _ => none }
def HashDigestsWrongFalsely : Prop := hashDigestsRow.holds Tryd.pinned (OpenSpec.ofChange hashDigestsWrong)

/-- 'jackfieldlaw02.HashKeyed': WHATEVER THE INPUT: true; the input reads as it did. -/
def hashKeyedSpec : ChangeSpec := { name := "hashKeyed", fn := fun _ => fun
  | [d1, d2] => { results := [.lit (.bool true)], args := [d1, d2] }
  | _ => none }
def hashKeyedRow : OpenClaim := { program := "ythfpkefieemiaaadoor", sum := "8b12c168a30f49316b65dc4e4147957f4c356b70cd78ffcfc2e8cf7c281ffcdc", func := "jackfield/jackfieldlaw02.HashKeyed", spec := "hashKeyed", named := ["jackfield/hash.roundWords"], apart := false, laid := [("jackfield/hash.roundWords", laid_jackfield_hash_roundWords)] }
def HashKeyedSaid : Prop := hashKeyedRow.holds Tryd.pinned (OpenSpec.ofChange hashKeyedSpec)

/-- ITS FALSE NEIGHBOUR: 'it returns false'. Refute it at one input. -/
def hashKeyedWrong : ChangeSpec := { name := "hashKeyed", fn := fun _ => fun
  | [d1, d2] => { results := [.lit (.bool false)], args := [d1, d2] }
  | _ => none }
def HashKeyedWrongFalsely : Prop := hashKeyedRow.holds Tryd.pinned (OpenSpec.ofChange hashKeyedWrong)

/-- 'jackfieldlaw02.HashParts': WHATEVER THE INPUT: true; the input reads as it did. -/
def hashPartsSpec : ChangeSpec := { name := "hashParts", fn := fun _ => fun
  | [d1, d2, d3] => { results := [.lit (.bool true)], args := [d1, d2, d3] }
  | _ => none }
def hashPartsRow : OpenClaim := { program := "ythfpkefieemiaaadoor", sum := "8b12c168a30f49316b65dc4e4147957f4c356b70cd78ffcfc2e8cf7c281ffcdc", func := "jackfield/jackfieldlaw02.HashParts", spec := "hashParts", named := ["jackfield/hash.roundWords"], apart := false, laid := [("jackfield/hash.roundWords", laid_jackfield_hash_roundWords)] }
def HashPartsSaid : Prop := hashPartsRow.holds Tryd.pinned (OpenSpec.ofChange hashPartsSpec)

/-- ITS FALSE NEIGHBOUR: 'it returns false'. Refute it at one input. -/
def hashPartsWrong : ChangeSpec := { name := "hashParts", fn := fun _ => fun
  | [d1, d2, d3] => { results := [.lit (.bool false)], args := [d1, d2, d3] }
  | _ => none }
def HashPartsWrongFalsely : Prop := hashPartsRow.holds Tryd.pinned (OpenSpec.ofChange hashPartsWrong)

/-- 'jackfieldlaw02.HashAlike': WHATEVER THE INPUT: true; the input reads as it did. -/
def hashAlikeSpec : ChangeSpec := { name := "hashAlike", fn := fun _ => fun
  | [d1, d2] => { results := [.lit (.bool true)], args := [d1, d2] }
  | _ => none }
def hashAlikeRow : OpenClaim := { program := "ythfpkefieemiaaadoor", sum := "8b12c168a30f49316b65dc4e4147957f4c356b70cd78ffcfc2e8cf7c281ffcdc", func := "jackfield/jackfieldlaw02.HashAlike", spec := "hashAlike", named := ["jackfield/hash.roundWords"], apart := false, laid := [("jackfield/hash.roundWords", laid_jackfield_hash_roundWords)] }
def HashAlikeSaid : Prop := hashAlikeRow.holds Tryd.pinned (OpenSpec.ofChange hashAlikeSpec)

/-- ITS FALSE NEIGHBOUR: 'it returns false'. Refute it at one input. -/
def hashAlikeWrong : ChangeSpec := { name := "hashAlike", fn := fun _ => fun
  | [d1, d2] => { results := [.lit (.bool false)], args := [d1, d2] }
  | _ => none }
def HashAlikeWrongFalsely : Prop := hashAlikeRow.holds Tryd.pinned (OpenSpec.ofChange hashAlikeWrong)

/-- 'jackfieldlaw02.HashLong': WHATEVER THE INPUT: true; the input reads as it did. -/
def hashLongSpec : ChangeSpec := { name := "hashLong", fn := fun _ => fun
  | [d1, d2] => { results := [.lit (.bool true)], args := [d1, d2] }
  | _ => none }
def hashLongRow : OpenClaim := { program := "ythfpkefieemiaaadoor", sum := "8b12c168a30f49316b65dc4e4147957f4c356b70cd78ffcfc2e8cf7c281ffcdc", func := "jackfield/jackfieldlaw02.HashLong", spec := "hashLong", named := ["jackfield/hash.roundWords"], apart := false, laid := [("jackfield/hash.roundWords", laid_jackfield_hash_roundWords)] }
def HashLongSaid : Prop := hashLongRow.holds Tryd.pinned (OpenSpec.ofChange hashLongSpec)

/-- ITS FALSE NEIGHBOUR: 'it returns false'. Refute it at one input. -/
def hashLongWrong : ChangeSpec := { name := "hashLong", fn := fun _ => fun
  | [d1, d2] => { results := [.lit (.bool false)], args := [d1, d2] }
  | _ => none }
def HashLongWrongFalsely : Prop := hashLongRow.holds Tryd.pinned (OpenSpec.ofChange hashLongWrong)

/-- 'jackfieldlaw02.HashChecks': WHATEVER THE INPUT: true; the input reads as it did. -/
def hashChecksSpec : ChangeSpec := { name := "hashChecks", fn := fun _ => fun
  | [d1, d2] => { results := [.lit (.bool true)], args := [d1, d2] }
  | _ => none }
def hashChecksRow : OpenClaim := { program := "ythfpkefieemiaaadoor", sum := "8b12c168a30f49316b65dc4e4147957f4c356b70cd78ffcfc2e8cf7c281ffcdc", func := "jackfield/jackfieldlaw02.HashChecks", spec := "hashChecks", named := ["jackfield/hash.roundWords"], apart := false, laid := [("jackfield/hash.roundWords", laid_jackfield_hash_roundWords)] }
def HashChecksSaid : Prop := hashChecksRow.holds Tryd.pinned (OpenSpec.ofChange hashChecksSpec)

/-- ITS FALSE NEIGHBOUR: 'it returns false'. Refute it at one input. -/
def hashChecksWrong : ChangeSpec := { name := "hashChecks", fn := fun _ => fun
  | [d1, d2] => { results := [.lit (.bool false)], args := [d1, d2] }
  | _ => none }
def HashChecksWrongFalsely : Prop := hashChecksRow.holds Tryd.pinned (OpenSpec.ofChange hashChecksWrong)

/-- 'jackfieldlaw02.HashHexes': WHATEVER THE INPUT: true; the input reads as it did. -/
def hashHexesSpec : ChangeSpec := { name := "hashHexes", fn := fun _ => fun
  | [d1, d2] => { results := [.lit (.bool true)], args := [d1, d2] }
  | _ => none }
def hashHexesRow : OpenClaim := { program := "ythfpkefieemiaaadoor", sum := "8b12c168a30f49316b65dc4e4147957f4c356b70cd78ffcfc2e8cf7c281ffcdc", func := "jackfield/jackfieldlaw02.HashHexes", spec := "hashHexes", named := ["jackfield/hash.roundWords"], apart := false, laid := [("jackfield/hash.roundWords", laid_jackfield_hash_roundWords)] }
def HashHexesSaid : Prop := hashHexesRow.holds Tryd.pinned (OpenSpec.ofChange hashHexesSpec)

/-- ITS FALSE NEIGHBOUR: 'it returns false'. Refute it at one input. -/
def hashHexesWrong : ChangeSpec := { name := "hashHexes", fn := fun _ => fun
  | [d1, d2] => { results := [.lit (.bool false)], args := [d1, d2] }
  | _ => none }
def HashHexesWrongFalsely : Prop := hashHexesRow.holds Tryd.pinned (OpenSpec.ofChange hashHexesWrong)

/- THE SECOND FORM. 'bulk': how many values and letters a reading holds, each counted each time it is reached (what is shared counts as often as it is met; a slice's spare places count too). A statement '..UptoSaid' is the law's where the arguments, and the package variables that the reading takes, are together of bulk at most 1048576: NARROWER than '..Said'. Prove '..Said' where nothing that the law and all that it calls make is longer than what came in: it says more and counts as full. Else prove '..UptoSaid'. A law counts once. -/
mutual
def uptoBulk {H : Type} : DataW H → Nat
  | .lit (.string bytes) => bytes.length + 1
  | .lit _ => 1
  | .nil => 1
  | .ptr d => uptoBulk d + 1
  | .slice elems spare => uptoBulkAll elems + uptoBulkAll spare + 1
  | .agg parts => uptoBulkAll parts + 1
  | .iface _ d => uptoBulk d + 1
  | .map entries => uptoBulkEntries entries + 1
  | .held _ => 1
def uptoBulkAll {H : Type} : List (DataW H) → Nat
  | [] => 0
  | d :: r => uptoBulk d + uptoBulkAll r
def uptoBulkEntries {H : Type} : List (Lit × DataW H) → Nat
  | [] => 0
  | x :: r => uptoBulkEntry x + uptoBulkEntries r
def uptoBulkEntry {H : Type} : Lit × DataW H → Nat
  | (.string bytes, d) => bytes.length + uptoBulk d + 1
  | (_, d) => uptoBulk d + 1
 end
def uptoSmall : (H : Type) → List (DataW H) → Bool := fun _ ds => decide (uptoBulkAll ds ≤ 1048576)
def OpenSpec.upto (s : _root_.Go.ChangeSpec) : _root_.Go.OpenSpec := { _root_.Go.OpenSpec.ofChange s with cond := some uptoSmall }

/-- 'jackfieldlaw02.HashDigests', WHERE WHAT IT READS IS OF BULK AT MOST 1048576: true; the input reads as it did. -/
def hashDigestsUptoRow : OpenClaim := { program := "ythfpkefieemiaaadoor", sum := "8b12c168a30f49316b65dc4e4147957f4c356b70cd78ffcfc2e8cf7c281ffcdc", func := "jackfield/jackfieldlaw02.HashDigests", spec := "hashDigests", named := ["jackfield/hash.roundWords"], apart := false, laid := [("jackfield/hash.roundWords", laid_jackfield_hash_roundWords)], narrowed := true }
def HashDigestsUptoSaid : Prop := hashDigestsUptoRow.holds Tryd.pinned (OpenSpec.upto hashDigestsSpec)

/-- 'jackfieldlaw02.HashKeyed', WHERE WHAT IT READS IS OF BULK AT MOST 1048576: true; the input reads as it did. -/
def hashKeyedUptoRow : OpenClaim := { program := "ythfpkefieemiaaadoor", sum := "8b12c168a30f49316b65dc4e4147957f4c356b70cd78ffcfc2e8cf7c281ffcdc", func := "jackfield/jackfieldlaw02.HashKeyed", spec := "hashKeyed", named := ["jackfield/hash.roundWords"], apart := false, laid := [("jackfield/hash.roundWords", laid_jackfield_hash_roundWords)], narrowed := true }
def HashKeyedUptoSaid : Prop := hashKeyedUptoRow.holds Tryd.pinned (OpenSpec.upto hashKeyedSpec)

/-- 'jackfieldlaw02.HashParts', WHERE WHAT IT READS IS OF BULK AT MOST 1048576: true; the input reads as it did. -/
def hashPartsUptoRow : OpenClaim := { program := "ythfpkefieemiaaadoor", sum := "8b12c168a30f49316b65dc4e4147957f4c356b70cd78ffcfc2e8cf7c281ffcdc", func := "jackfield/jackfieldlaw02.HashParts", spec := "hashParts", named := ["jackfield/hash.roundWords"], apart := false, laid := [("jackfield/hash.roundWords", laid_jackfield_hash_roundWords)], narrowed := true }
def HashPartsUptoSaid : Prop := hashPartsUptoRow.holds Tryd.pinned (OpenSpec.upto hashPartsSpec)

/-- 'jackfieldlaw02.HashAlike', WHERE WHAT IT READS IS OF BULK AT MOST 1048576: true; the input reads as it did. -/
def hashAlikeUptoRow : OpenClaim := { program := "ythfpkefieemiaaadoor", sum := "8b12c168a30f49316b65dc4e4147957f4c356b70cd78ffcfc2e8cf7c281ffcdc", func := "jackfield/jackfieldlaw02.HashAlike", spec := "hashAlike", named := ["jackfield/hash.roundWords"], apart := false, laid := [("jackfield/hash.roundWords", laid_jackfield_hash_roundWords)], narrowed := true }
def HashAlikeUptoSaid : Prop := hashAlikeUptoRow.holds Tryd.pinned (OpenSpec.upto hashAlikeSpec)

/-- 'jackfieldlaw02.HashLong', WHERE WHAT IT READS IS OF BULK AT MOST 1048576: true; the input reads as it did. -/
def hashLongUptoRow : OpenClaim := { program := "ythfpkefieemiaaadoor", sum := "8b12c168a30f49316b65dc4e4147957f4c356b70cd78ffcfc2e8cf7c281ffcdc", func := "jackfield/jackfieldlaw02.HashLong", spec := "hashLong", named := ["jackfield/hash.roundWords"], apart := false, laid := [("jackfield/hash.roundWords", laid_jackfield_hash_roundWords)], narrowed := true }
def HashLongUptoSaid : Prop := hashLongUptoRow.holds Tryd.pinned (OpenSpec.upto hashLongSpec)

/-- 'jackfieldlaw02.HashChecks', WHERE WHAT IT READS IS OF BULK AT MOST 1048576: true; the input reads as it did. -/
def hashChecksUptoRow : OpenClaim := { program := "ythfpkefieemiaaadoor", sum := "8b12c168a30f49316b65dc4e4147957f4c356b70cd78ffcfc2e8cf7c281ffcdc", func := "jackfield/jackfieldlaw02.HashChecks", spec := "hashChecks", named := ["jackfield/hash.roundWords"], apart := false, laid := [("jackfield/hash.roundWords", laid_jackfield_hash_roundWords)], narrowed := true }
def HashChecksUptoSaid : Prop := hashChecksUptoRow.holds Tryd.pinned (OpenSpec.upto hashChecksSpec)

/-- 'jackfieldlaw02.HashHexes', WHERE WHAT IT READS IS OF BULK AT MOST 1048576: true; the input reads as it did. -/
def hashHexesUptoRow : OpenClaim := { program := "ythfpkefieemiaaadoor", sum := "8b12c168a30f49316b65dc4e4147957f4c356b70cd78ffcfc2e8cf7c281ffcdc", func := "jackfield/jackfieldlaw02.HashHexes", spec := "hashHexes", named := ["jackfield/hash.roundWords"], apart := false, laid := [("jackfield/hash.roundWords", laid_jackfield_hash_roundWords)], narrowed := true }
def HashHexesUptoSaid : Prop := hashHexesUptoRow.holds Tryd.pinned (OpenSpec.upto hashHexesSpec)

end Rows
end Go.Proofs.YthfpkefieemiaaaDoor

/-
  No cell of these rows narrows 'for every input' (looked for: loops, veiled, ifaces, maps, wideKeys, modest, calm, conditions, laid).
  DERIVED. THE GIVEN ROWS OF THIS SEAT. 6 by the template 'for every input the law returns true; each argument reads behind the call as it read before'; 0 by the template 'total and deterministic' (their statements: YtkkeamlpfpcbfaaTotals.lean).
  GIVEN WITH THE SEED: the statements are not yours to turn. If you find one false, say at which input.
  Laid BY PROGRAM, IN A SANDBOX (cutbox-rows.mjs): the forced cells as the released guide's own fill.sh prints them over the translation b7203de9cc84456f… (all of the seat's roots in one cut). By AI agents, Wed Nov 11 2026. No macro, syntax, notation, axiom, sorry.
-/
import Derived.Test.YtkkeamlpfpcbfaaChecked
import GoSem.Claim
import GoSem.ClaimJoined
import GoSem.ClaimMapViews
import Derived.JoinedTies
import Derived.KernelRfl
namespace Go.Proofs.Ytkkeamlpfpcbfaa
/- THE CELL 'sum', in the pinned program and in every row, IS THE sha256 OF THE DUMP (.gsa) THAT YtkkeamlpfpcbfaaProg.lean LOADS. Nothing in Lean hashes anything: it is a label: what it is worth is what the hold of that sum in a sandbox is worth. -/
noncomputable def Try.pinned : Pinned := { name := "ytkkeamlpfpcbfaa", sum := "b7203de9cc84456f27f25d55539a30d7b574e8c88e54958fb2fa4cfa146f95e6", checked := Try.checked }
namespace Rows
def none {H : Type} : Left H := { results := [], args := [] }

/-- 'bodegalaw4.VerbValid': WHATEVER THE INPUT: true; the input reads as it did. -/
def verbValidSpec : ChangeSpec := { name := "verbValid", fn := fun _ => fun
  | [d1, d2, d3, d4] => { results := [.lit (.bool true)], args := [d1, d2, d3, d4] }
  | _ => none }
def verbValidRow : OpenClaim := { program := "ytkkeamlpfpcbfaa", sum := "b7203de9cc84456f27f25d55539a30d7b574e8c88e54958fb2fa4cfa146f95e6", func := "bodega/bodegalaw4.VerbValid", spec := "verbValid", unfollowed := true, recurses := true, apart := false }
def VerbValidSaid : Prop := verbValidRow.holds Try.pinned (OpenSpec.ofChange verbValidSpec)

/-- ITS FALSE NEIGHBOUR: 'it returns false'. Refute it at one input. -/
def verbValidWrong : ChangeSpec := { name := "verbValid", fn := fun _ => fun
  | [d1, d2, d3, d4] => { results := [.lit (.bool false)], args := [d1, d2, d3, d4] }
  | _ => none }
def VerbValidWrongFalsely : Prop := verbValidRow.holds Try.pinned (OpenSpec.ofChange verbValidWrong)

/-- 'bodegalaw4.VerbPieces': WHATEVER THE INPUT: true; the input reads as it did. -/
def verbPiecesSpec : ChangeSpec := { name := "verbPieces", fn := fun _ => fun
  | [d] => { results := [.lit (.bool true)], args := [d] }
  | _ => none }
def verbPiecesRow : OpenClaim := { program := "ytkkeamlpfpcbfaa", sum := "b7203de9cc84456f27f25d55539a30d7b574e8c88e54958fb2fa4cfa146f95e6", func := "bodega/bodegalaw4.VerbPieces", spec := "verbPieces", unfollowed := true, recurses := true, apart := false }
def VerbPiecesSaid : Prop := verbPiecesRow.holds Try.pinned (OpenSpec.ofChange verbPiecesSpec)

/-- ITS FALSE NEIGHBOUR: 'it returns false'. Refute it at one input. -/
def verbPiecesWrong : ChangeSpec := { name := "verbPieces", fn := fun _ => fun
  | [d] => { results := [.lit (.bool false)], args := [d] }
  | _ => none }
def VerbPiecesWrongFalsely : Prop := verbPiecesRow.holds Try.pinned (OpenSpec.ofChange verbPiecesWrong)

/-- 'bodegalaw4.VerbChecks': WHATEVER THE INPUT: true; the input reads as it did. -/
def verbChecksSpec : ChangeSpec := { name := "verbChecks", fn := fun _ => fun
  | [d1, d2, d3, d4, d5, d6] => { results := [.lit (.bool true)], args := [d1, d2, d3, d4, d5, d6] }
  | _ => none }
def verbChecksRow : OpenClaim := { program := "ytkkeamlpfpcbfaa", sum := "b7203de9cc84456f27f25d55539a30d7b574e8c88e54958fb2fa4cfa146f95e6", func := "bodega/bodegalaw4.VerbChecks", spec := "verbChecks", unfollowed := true, recurses := true, apart := false }
def VerbChecksSaid : Prop := verbChecksRow.holds Try.pinned (OpenSpec.ofChange verbChecksSpec)

/-- ITS FALSE NEIGHBOUR: 'it returns false'. Refute it at one input. -/
def verbChecksWrong : ChangeSpec := { name := "verbChecks", fn := fun _ => fun
  | [d1, d2, d3, d4, d5, d6] => { results := [.lit (.bool false)], args := [d1, d2, d3, d4, d5, d6] }
  | _ => none }
def VerbChecksWrongFalsely : Prop := verbChecksRow.holds Try.pinned (OpenSpec.ofChange verbChecksWrong)

/-- 'bodegalaw4.VerbFences': WHATEVER THE INPUT: true; the input reads as it did. -/
def verbFencesSpec : ChangeSpec := { name := "verbFences", fn := fun _ => fun
  | [d1, d2, d3, d4] => { results := [.lit (.bool true)], args := [d1, d2, d3, d4] }
  | _ => none }
def verbFencesRow : OpenClaim := { program := "ytkkeamlpfpcbfaa", sum := "b7203de9cc84456f27f25d55539a30d7b574e8c88e54958fb2fa4cfa146f95e6", func := "bodega/bodegalaw4.VerbFences", spec := "verbFences", unfollowed := true, recurses := true, apart := false }
def VerbFencesSaid : Prop := verbFencesRow.holds Try.pinned (OpenSpec.ofChange verbFencesSpec)

/-- ITS FALSE NEIGHBOUR: 'it returns false'. Refute it at one input. -/
def verbFencesWrong : ChangeSpec := { name := "verbFences", fn := fun _ => fun
  | [d1, d2, d3, d4] => { results := [.lit (.bool false)], args := [d1, d2, d3, d4] }
  | _ => none }
def VerbFencesWrongFalsely : Prop := verbFencesRow.holds Try.pinned (OpenSpec.ofChange verbFencesWrong)

/-- 'bodegalaw4.VerbSame': WHATEVER THE INPUT: true; the input reads as it did. -/
def verbSameSpec : ChangeSpec := { name := "verbSame", fn := fun _ => fun
  | [d1, d2, d3, d4, d5] => { results := [.lit (.bool true)], args := [d1, d2, d3, d4, d5] }
  | _ => none }
def verbSameRow : OpenClaim := { program := "ytkkeamlpfpcbfaa", sum := "b7203de9cc84456f27f25d55539a30d7b574e8c88e54958fb2fa4cfa146f95e6", func := "bodega/bodegalaw4.VerbSame", spec := "verbSame", unfollowed := true, recurses := true, apart := false }
def VerbSameSaid : Prop := verbSameRow.holds Try.pinned (OpenSpec.ofChange verbSameSpec)

/-- ITS FALSE NEIGHBOUR: 'it returns false'. Refute it at one input. -/
def verbSameWrong : ChangeSpec := { name := "verbSame", fn := fun _ => fun
  | [d1, d2, d3, d4, d5] => { results := [.lit (.bool false)], args := [d1, d2, d3, d4, d5] }
  | _ => none }
def VerbSameWrongFalsely : Prop := verbSameRow.holds Try.pinned (OpenSpec.ofChange verbSameWrong)

/-- 'bodegalaw4.VerbFits': WHATEVER THE INPUT: true; the input reads as it did. -/
def verbFitsSpec : ChangeSpec := { name := "verbFits", fn := fun _ => fun
  | [d1, d2, d3] => { results := [.lit (.bool true)], args := [d1, d2, d3] }
  | _ => none }
def verbFitsRow : OpenClaim := { program := "ytkkeamlpfpcbfaa", sum := "b7203de9cc84456f27f25d55539a30d7b574e8c88e54958fb2fa4cfa146f95e6", func := "bodega/bodegalaw4.VerbFits", spec := "verbFits", unfollowed := true, recurses := true, apart := false }
def VerbFitsSaid : Prop := verbFitsRow.holds Try.pinned (OpenSpec.ofChange verbFitsSpec)

/-- ITS FALSE NEIGHBOUR: 'it returns false'. Refute it at one input. -/
def verbFitsWrong : ChangeSpec := { name := "verbFits", fn := fun _ => fun
  | [d1, d2, d3] => { results := [.lit (.bool false)], args := [d1, d2, d3] }
  | _ => none }
def VerbFitsWrongFalsely : Prop := verbFitsRow.holds Try.pinned (OpenSpec.ofChange verbFitsWrong)

/- THE SECOND FORM. 'bulk': how many values and letters a reading holds, each counted each time it is reached (what is shared counts as often as it is met; a slice's spare places count too). A statement '..UptoSaid' is the law's where the arguments, and the package variables that the reading takes, are together of bulk at most 1048576: NARROWER than '..Said'. Prove '..Said' where nothing that the law and all that it calls make is longer than what came in: it says more and counts as full. Else prove '..UptoSaid'. A law counts once. -/
mutual
def uptoBulk {H : Type} : DataW H → Nat
  | .lit (.string bytes) => bytes.length + 1
  | .lit _ => 1
  | .nil => 1
  | .ptr d => uptoBulk d + 1
  | .slice elems spare => uptoBulkAll elems + uptoBulkAll spare + 1
  | .agg parts => uptoBulkAll parts + 1
  | .iface _ d => uptoBulk d + 1
  | .map entries => uptoBulkEntries entries + 1
  | .held _ => 1
def uptoBulkAll {H : Type} : List (DataW H) → Nat
  | [] => 0
  | d :: r => uptoBulk d + uptoBulkAll r
def uptoBulkEntries {H : Type} : List (Lit × DataW H) → Nat
  | [] => 0
  | x :: r => uptoBulkEntry x + uptoBulkEntries r
def uptoBulkEntry {H : Type} : Lit × DataW H → Nat
  | (.string bytes, d) => bytes.length + uptoBulk d + 1
  | (_, d) => uptoBulk d + 1
 end
def uptoSmall : (H : Type) → List (DataW H) → Bool := fun _ ds => decide (uptoBulkAll ds ≤ 1048576)
def OpenSpec.upto (s : _root_.Go.ChangeSpec) : _root_.Go.OpenSpec := { _root_.Go.OpenSpec.ofChange s with cond := some uptoSmall }

/-- 'bodegalaw4.VerbValid', WHERE WHAT IT READS IS OF BULK AT MOST 1048576: true; the input reads as it did. -/
def verbValidUptoRow : OpenClaim := { program := "ytkkeamlpfpcbfaa", sum := "b7203de9cc84456f27f25d55539a30d7b574e8c88e54958fb2fa4cfa146f95e6", func := "bodega/bodegalaw4.VerbValid", spec := "verbValid", unfollowed := true, recurses := true, apart := false, narrowed := true }
def VerbValidUptoSaid : Prop := verbValidUptoRow.holds Try.pinned (OpenSpec.upto verbValidSpec)

/-- 'bodegalaw4.VerbPieces', WHERE WHAT IT READS IS OF BULK AT MOST 1048576: true; the input reads as it did. -/
def verbPiecesUptoRow : OpenClaim := { program := "ytkkeamlpfpcbfaa", sum := "b7203de9cc84456f27f25d55539a30d7b574e8c88e54958fb2fa4cfa146f95e6", func := "bodega/bodegalaw4.VerbPieces", spec := "verbPieces", unfollowed := true, recurses := true, apart := false, narrowed := true }
def VerbPiecesUptoSaid : Prop := verbPiecesUptoRow.holds Try.pinned (OpenSpec.upto verbPiecesSpec)

/-- 'bodegalaw4.VerbChecks', WHERE WHAT IT READS IS OF BULK AT MOST 1048576: true; the input reads as it did. -/
def verbChecksUptoRow : OpenClaim := { program := "ytkkeamlpfpcbfaa", sum := "b7203de9cc84456f27f25d55539a30d7b574e8c88e54958fb2fa4cfa146f95e6", func := "bodega/bodegalaw4.VerbChecks", spec := "verbChecks", unfollowed := true, recurses := true, apart := false, narrowed := true }
def VerbChecksUptoSaid : Prop := verbChecksUptoRow.holds Try.pinned (OpenSpec.upto verbChecksSpec)

/-- 'bodegalaw4.VerbFences', WHERE WHAT IT READS IS OF BULK AT MOST 1048576: true; the input reads as it did. -/
def verbFencesUptoRow : OpenClaim := { program := "ytkkeamlpfpcbfaa", sum := "b7203de9cc84456f27f25d55539a30d7b574e8c88e54958fb2fa4cfa146f95e6", func := "bodega/bodegalaw4.VerbFences", spec := "verbFences", unfollowed := true, recurses := true, apart := false, narrowed := true }
def VerbFencesUptoSaid : Prop := verbFencesUptoRow.holds Try.pinned (OpenSpec.upto verbFencesSpec)

/-- 'bodegalaw4.VerbSame', WHERE WHAT IT READS IS OF BULK AT MOST 1048576: true; the input reads as it did. -/
def verbSameUptoRow : OpenClaim := { program := "ytkkeamlpfpcbfaa", sum := "b7203de9cc84456f27f25d55539a30d7b574e8c88e54958fb2fa4cfa146f95e6", func := "bodega/bodegalaw4.VerbSame", spec := "verbSame", unfollowed := true, recurses := true, apart := false, narrowed := true }
def VerbSameUptoSaid : Prop := verbSameUptoRow.holds Try.pinned (OpenSpec.upto verbSameSpec)

/-- 'bodegalaw4.VerbFits', WHERE WHAT IT READS IS OF BULK AT MOST 1048576: true; the input reads as it did. -/
def verbFitsUptoRow : OpenClaim := { program := "ytkkeamlpfpcbfaa", sum := "b7203de9cc84456f27f25d55539a30d7b574e8c88e54958fb2fa4cfa146f95e6", func := "bodega/bodegalaw4.VerbFits", spec := "verbFits", unfollowed := true, recurses := true, apart := false, narrowed := true }
def VerbFitsUptoSaid : Prop := verbFitsUptoRow.holds Try.pinned (OpenSpec.upto verbFitsSpec)

end Rows
end Go.Proofs.Ytkkeamlpfpcbfaa

/-
  No cell of these rows narrows 'for every input' (looked for: loops, veiled, ifaces, maps, wideKeys, modest, calm, conditions, laid).
  DERIVED. THE GIVEN ROWS OF THIS SEAT. 3 by the template 'for every input the law returns true; each argument reads behind the call as it read before'; 0 by the template 'total and deterministic' (their statements: YtpehhldfegjajaaTotals.lean).
  GIVEN WITH THE SEED: the statements are not yours to turn. If you find one false, say at which input.
  Laid BY PROGRAM, IN A SANDBOX (cutbox-rows.mjs): the forced cells as the released guide's own fill.sh prints them over the translation 80ffe1bb50cf1a09… (all of the seat's roots in one cut). By AI agents, Wed Nov 11 2026. No macro, syntax, notation, axiom, sorry.
-/
import Derived.Test.YtpehhldfegjajaaChecked
import GoSem.Claim
import GoSem.ClaimJoined
import GoSem.ClaimMapViews
import Derived.JoinedTies
import Derived.KernelRfl
namespace Go.Proofs.Ytpehhldfegjajaa
/- THE CELL 'sum', in the pinned program and in every row, IS THE sha256 OF THE DUMP (.gsa) THAT YtpehhldfegjajaaProg.lean LOADS. Nothing in Lean hashes anything: it is a label: what it is worth is what the hold of that sum in a sandbox is worth. -/
noncomputable def Try.pinned : Pinned := { name := "ytpehhldfegjajaa", sum := "80ffe1bb50cf1a097732160a44b8360d846969e8873ba489493bdb1df8887170", checked := Try.checked }
namespace Rows
def none {H : Type} : Left H := { results := [], args := [] }

/-- 'bodegalaw6.FabricNew': WHATEVER THE INPUT: true; the input reads as it did. -/
def fabricNewSpec : ChangeSpec := { name := "fabricNew", fn := fun _ => fun
  | [d1, d2, d3, d4] => { results := [.lit (.bool true)], args := [d1, d2, d3, d4] }
  | _ => none }
def fabricNewRow : OpenClaim := { program := "ytpehhldfegjajaa", sum := "80ffe1bb50cf1a097732160a44b8360d846969e8873ba489493bdb1df8887170", func := "bodega/bodegalaw6.FabricNew", spec := "fabricNew", unfollowed := true, recurses := true, apart := false }
def FabricNewSaid : Prop := fabricNewRow.holds Try.pinned (OpenSpec.ofChange fabricNewSpec)

/-- ITS FALSE NEIGHBOUR: 'it returns false'. Refute it at one input. -/
def fabricNewWrong : ChangeSpec := { name := "fabricNew", fn := fun _ => fun
  | [d1, d2, d3, d4] => { results := [.lit (.bool false)], args := [d1, d2, d3, d4] }
  | _ => none }
def FabricNewWrongFalsely : Prop := fabricNewRow.holds Try.pinned (OpenSpec.ofChange fabricNewWrong)

/-- 'bodegalaw6.FabricApart': WHATEVER THE INPUT: true; the input reads as it did. -/
def fabricApartSpec : ChangeSpec := { name := "fabricApart", fn := fun _ => fun
  | [d1, d2] => { results := [.lit (.bool true)], args := [d1, d2] }
  | _ => none }
def fabricApartRow : OpenClaim := { program := "ytpehhldfegjajaa", sum := "80ffe1bb50cf1a097732160a44b8360d846969e8873ba489493bdb1df8887170", func := "bodega/bodegalaw6.FabricApart", spec := "fabricApart", unfollowed := true, recurses := true, apart := false }
def FabricApartSaid : Prop := fabricApartRow.holds Try.pinned (OpenSpec.ofChange fabricApartSpec)

/-- ITS FALSE NEIGHBOUR: 'it returns false'. Refute it at one input. -/
def fabricApartWrong : ChangeSpec := { name := "fabricApart", fn := fun _ => fun
  | [d1, d2] => { results := [.lit (.bool false)], args := [d1, d2] }
  | _ => none }
def FabricApartWrongFalsely : Prop := fabricApartRow.holds Try.pinned (OpenSpec.ofChange fabricApartWrong)

/-- 'bodegalaw6.FabricDead': WHATEVER THE INPUT: true; the input reads as it did. -/
def fabricDeadSpec : ChangeSpec := { name := "fabricDead", fn := fun _ => fun
  | [d1, d2, d3] => { results := [.lit (.bool true)], args := [d1, d2, d3] }
  | _ => none }
def fabricDeadRow : OpenClaim := { program := "ytpehhldfegjajaa", sum := "80ffe1bb50cf1a097732160a44b8360d846969e8873ba489493bdb1df8887170", func := "bodega/bodegalaw6.FabricDead", spec := "fabricDead", unfollowed := true, recurses := true, apart := false }
def FabricDeadSaid : Prop := fabricDeadRow.holds Try.pinned (OpenSpec.ofChange fabricDeadSpec)

/-- ITS FALSE NEIGHBOUR: 'it returns false'. Refute it at one input. -/
def fabricDeadWrong : ChangeSpec := { name := "fabricDead", fn := fun _ => fun
  | [d1, d2, d3] => { results := [.lit (.bool false)], args := [d1, d2, d3] }
  | _ => none }
def FabricDeadWrongFalsely : Prop := fabricDeadRow.holds Try.pinned (OpenSpec.ofChange fabricDeadWrong)

/- THE SECOND FORM. 'bulk': how many values and letters a reading holds, each counted each time it is reached (what is shared counts as often as it is met; a slice's spare places count too). A statement '..UptoSaid' is the law's where the arguments, and the package variables that the reading takes, are together of bulk at most 1048576: NARROWER than '..Said'. Prove '..Said' where nothing that the law and all that it calls make is longer than what came in: it says more and counts as full. Else prove '..UptoSaid'. A law counts once. -/
mutual
def uptoBulk {H : Type} : DataW H → Nat
  | .lit (.string bytes) => bytes.length + 1
  | .lit _ => 1
  | .nil => 1
  | .ptr d => uptoBulk d + 1
  | .slice elems spare => uptoBulkAll elems + uptoBulkAll spare + 1
  | .agg parts => uptoBulkAll parts + 1
  | .iface _ d => uptoBulk d + 1
  | .map entries => uptoBulkEntries entries + 1
  | .held _ => 1
def uptoBulkAll {H : Type} : List (DataW H) → Nat
  | [] => 0
  | d :: r => uptoBulk d + uptoBulkAll r
def uptoBulkEntries {H : Type} : List (Lit × DataW H) → Nat
  | [] => 0
  | x :: r => uptoBulkEntry x + uptoBulkEntries r
def uptoBulkEntry {H : Type} : Lit × DataW H → Nat
  | (.string bytes, d) => bytes.length + uptoBulk d + 1
  | (_, d) => uptoBulk d + 1
 end
def uptoSmall : (H : Type) → List (DataW H) → Bool := fun _ ds => decide (uptoBulkAll ds ≤ 1048576)
def OpenSpec.upto (s : _root_.Go.ChangeSpec) : _root_.Go.OpenSpec := { _root_.Go.OpenSpec.ofChange s with cond := some uptoSmall }

/-- 'bodegalaw6.FabricNew', WHERE WHAT IT READS IS OF BULK AT MOST 1048576: true; the input reads as it did. -/
def fabricNewUptoRow : OpenClaim := { program := "ytpehhldfegjajaa", sum := "80ffe1bb50cf1a097732160a44b8360d846969e8873ba489493bdb1df8887170", func := "bodega/bodegalaw6.FabricNew", spec := "fabricNew", unfollowed := true, recurses := true, apart := false, narrowed := true }
def FabricNewUptoSaid : Prop := fabricNewUptoRow.holds Try.pinned (OpenSpec.upto fabricNewSpec)

/-- 'bodegalaw6.FabricApart', WHERE WHAT IT READS IS OF BULK AT MOST 1048576: true; the input reads as it did. -/
def fabricApartUptoRow : OpenClaim := { program := "ytpehhldfegjajaa", sum := "80ffe1bb50cf1a097732160a44b8360d846969e8873ba489493bdb1df8887170", func := "bodega/bodegalaw6.FabricApart", spec := "fabricApart", unfollowed := true, recurses := true, apart := false, narrowed := true }
def FabricApartUptoSaid : Prop := fabricApartUptoRow.holds Try.pinned (OpenSpec.upto fabricApartSpec)

/-- 'bodegalaw6.FabricDead', WHERE WHAT IT READS IS OF BULK AT MOST 1048576: true; the input reads as it did. -/
def fabricDeadUptoRow : OpenClaim := { program := "ytpehhldfegjajaa", sum := "80ffe1bb50cf1a097732160a44b8360d846969e8873ba489493bdb1df8887170", func := "bodega/bodegalaw6.FabricDead", spec := "fabricDead", unfollowed := true, recurses := true, apart := false, narrowed := true }
def FabricDeadUptoSaid : Prop := fabricDeadUptoRow.holds Try.pinned (OpenSpec.upto fabricDeadSpec)

end Rows
end Go.Proofs.Ytpehhldfegjajaa

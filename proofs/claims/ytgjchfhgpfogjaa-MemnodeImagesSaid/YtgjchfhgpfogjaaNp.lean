/-
  A law's beginning: a node and the reference's, made alike.
-/
import Derived.Test.YtgjchfhgpfogjaaNo
namespace Go.Proofs.Ytgjchfhgpfogjaa.Np
open Go.ChangeShapes Go.WideShapes Go.ChangeAt Go.RowKit Ga Na Nb Nc Nd_ Nf Ng Nh No
set_option linter.unusedVariables false
set_option linter.unusedSimpArgs false

theorem pair_made {w1 : World} {b g gr n cap capr : Nat} {ws : List Nat} {up : Bool} (HN : PN w1 b g n cap ws up) (HR : Row w1 gr n capr ws) (h1 : b ≠ gr) (h2 : g ≠ gr) :
    Pr (w1.alloc (.cells #[.slice (some ⟨gr, 0, none⟩) n capr, .bool up] 31)) b g cap w1.heap.size gr capr n ws up ∧
    Below w1.heap.size w1 (w1.alloc (.cells #[.slice (some ⟨gr, 0, none⟩) n capr, .bool up] 31)) := by
  have hB := (Below.refl w1.heap.size w1).alloc (Nat.le_refl _) (.cells #[.slice (some ⟨gr, 0, none⟩) n capr, .bool up] 31)
  have s1 := HN.size
  have s2 := HN.row.size
  have s3 := HR.size
  have e0 := heap_alloc_new w1 (.cells #[.slice (some ⟨gr, 0, none⟩) n capr, .bool up] 31)
  exact ⟨⟨HN.keep (hB.block b s1) (hB.block g s2), ⟨e0, HR.keep (hB.block gr s3), by omega⟩, by omega, h1, by omega, h2⟩, hB⟩
end Go.Proofs.Ytgjchfhgpfogjaa.Np

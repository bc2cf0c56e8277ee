/-
  A queue without its first.
-/
import Derived.Test.YtacfmkmiikkppaaQd
namespace Go.Proofs.Ytacfmkmiikkppaa.Qi
open Go.ChangeShapes Go.WideShapes Go.ChangeAt Go.RowKit Ga Gb Na Nb Nc Nd_ Qd
set_option linter.unusedVariables false
set_option linter.unusedSimpArgs false
set_option maxRecDepth 100000
theorem under_pend : Try.prog.underlying 68 = some (.slice (Try.prog.elem 68)) := by kernel_rfl
theorem size_pend (w : World) : (sizeOf (Try.prog.elem 68)).run Try.prog w = .ok 12 w := by kernel_rfl
/-- The address of 'q[1:]': the model keeps it where nothing is left to stand behind it. -/
def tailA (A : Option Addr) (c : Nat) : Option Addr := if c = 1 then A else A.map (·.add (1 * 12))
theorem tail_pend (g n c : Nat) (w : World) (h1 : 1 ≤ n) (h3 : n ≤ c) (h4 : c ≤ 9223372036854775807) :
    (Instr.sliceAt 68 (.slice (some ⟨g, 0, none⟩) n c) (some (.int .i64 1)) none none).run Try.prog w = .ok (.slice (tailA (some ⟨g, 0, none⟩) c) (n - 1) (c - 1)) w := by
  have e : (Value.int IntKind.i64 1) = Value.int IntKind.i64 ((1 : Nat) : Int) := rfl
  rw [e, run_sliceAt_slice _ _ _ _ _ _ under_pend, run_slice_l _ _ _ _ _ under_pend _ _ (by omega) (by omega), size_pend]
  simp only [Result.andThen, sliced, Int.toNat_natCast]
  rfl
theorem From.tail {w : World} {A : Option Addr} {n c : Nat} {p : Pe} {q : List Pe} (h : From w A 12 (n + 1) ((p :: q).flatMap pcs)) (hc : n + 1 ≤ c) : From w (tailA A c) 12 n (q.flatMap pcs) := by
  have hl := h.1
  rw [List.flatMap_cons, List.length_append] at hl
  have hp : (pcs p).length = 12 := rfl
  refine ⟨by omega, fun hn => ?_⟩
  obtain ⟨ad, rfl, hcell⟩ := h.2 (by omega)
  refine ⟨ad.add 12, by unfold tailA; rw [if_neg (by omega)]; rfl, fun j u hj => ?_⟩
  rw [add_of_add]
  refine hcell (12 + j) u ?_
  rw [List.flatMap_cons, List.getElem?_append_right (by omega), hp, Nat.add_sub_cancel_left]
  exact hj
end Go.Proofs.Ytacfmkmiikkppaa.Qi

/-
  The program asks whether a piece may be executed.
-/
import Derived.Test.YtadeghfhjiohnaaTd
import Derived.Test.YtadeghfhjiohnaaNd
import Derived.Test.YtadeghfhjiohnaaVd
import Derived.Test.YtadeghfhjiohnaaHq
namespace Go.Proofs.Ytadeghfhjiohnaa.Te
open Go.ChangeShapes Go.WideShapes Go.ChangeAt Go.RowKit Ga Gb Na Nb Nc Nd_ Va Vb Vd Ve Qa Qb Qd Ta Tb Tc Td
set_option linter.unusedVariables false
set_option linter.unusedSimpArgs false
set_option maxHeartbeats 1000000
set_option maxRecDepth 100000
/-- What a node answers a verb with, before a piece is executed. -/
def codeM (cl inc : Nat) (k nd a c ky bo : Int) (L : Nat) (ws : List Nat) (up : Bool) : Int :=
  if up = false then 4 else if validC k nd a c 5 L ≠ 0 then 2 else checkC k a c ky bo inc (atW ws (24 + cl)) (atW ws 0) (atW ws 1)
section
variable (F : Nat → Prop) (b : Nat) (cl inc : Nat) (pnd : Int) (V : Value) (q : List Pq) (ex : Nat) (B : Option Addr) (cb : Nat) (r : List Nat) (k nd a n o ne : Int) (A : Option Addr) (l c : Nat) (ky bo : Int) (nb ng nn ncap : Nat) (ws : List Nat) (up : Bool) (L : Nat) (w : World)
theorem valid_pos {k nd a c L : Int} (h : validC k nd a c 5 L = 0) : 0 ≤ a ∧ 1 ≤ c ∧ a + c ≤ 8 * L := by
  unfold validC at h
  by_cases h1 : c < 1
  · rw [if_pos h1] at h; omega
  · rw [if_neg h1] at h
    split at h
    · rename_i h2
      have := h2.2.2.2.2.2.2.1
      unfold liesB at this
      have := of_decide_eq_true this
      omega
    · omega
theorem pc_below {w0 W : World} {b g : Nat} {cl inc : Int} {k nd a n o ne : Int} {A : Option Addr} {l c : Nat} {ky bo : Int} (h : World.cell? W ⟨b, 0, none⟩ = some (.int .i64 cl) ∧ World.cell? W ⟨b, 1, none⟩ = some (.int .i64 inc) ∧ (World.cell? W (Addr.mk g 0 none) = some (Value.int IntKind.i64 k) ∧ World.cell? W (Addr.mk g 1 none) = some (Value.int IntKind.i64 nd) ∧ World.cell? W (Addr.mk g 2 none) = some (Value.int IntKind.i64 a) ∧ World.cell? W (Addr.mk g 3 none) = some (Value.int IntKind.i64 n) ∧ World.cell? W (Addr.mk g 4 none) = some (Value.int IntKind.u64 o) ∧ World.cell? W (Addr.mk g 5 none) = some (Value.int IntKind.u64 ne) ∧ World.cell? W (Addr.mk g 6 none) = some (Value.slice A l c) ∧ World.cell? W (Addr.mk g 7 none) = some (Value.int IntKind.u64 ky) ∧ World.cell? W (Addr.mk g 8 none) = some (Value.int IntKind.i64 bo) ∧ Lk (Below (Array.size (World.heap w0)) w0 W))) : Lk (Below w0.heap.size w0 W) := held_below h.2.2
theorem pc_on {w0 W W' : World} {b g : Nat} {cl inc : Int} {k nd a n o ne : Int} {A : Option Addr} {l c : Nat} {ky bo : Int} (h : World.cell? W ⟨b, 0, none⟩ = some (.int .i64 cl) ∧ World.cell? W ⟨b, 1, none⟩ = some (.int .i64 inc) ∧ (World.cell? W (Addr.mk g 0 none) = some (Value.int IntKind.i64 k) ∧ World.cell? W (Addr.mk g 1 none) = some (Value.int IntKind.i64 nd) ∧ World.cell? W (Addr.mk g 2 none) = some (Value.int IntKind.i64 a) ∧ World.cell? W (Addr.mk g 3 none) = some (Value.int IntKind.i64 n) ∧ World.cell? W (Addr.mk g 4 none) = some (Value.int IntKind.u64 o) ∧ World.cell? W (Addr.mk g 5 none) = some (Value.int IntKind.u64 ne) ∧ World.cell? W (Addr.mk g 6 none) = some (Value.slice A l c) ∧ World.cell? W (Addr.mk g 7 none) = some (Value.int IntKind.u64 ky) ∧ World.cell? W (Addr.mk g 8 none) = some (Value.int IntKind.i64 bo) ∧ Lk (Below (Array.size (World.heap w0)) w0 W))) (hb : Lk (Below W.heap.size W W')) :
    World.cell? W' ⟨b, 0, none⟩ = some (.int .i64 cl) ∧ World.cell? W' ⟨b, 1, none⟩ = some (.int .i64 inc) ∧ (World.cell? W' (Addr.mk g 0 none) = some (Value.int IntKind.i64 k) ∧ World.cell? W' (Addr.mk g 1 none) = some (Value.int IntKind.i64 nd) ∧ World.cell? W' (Addr.mk g 2 none) = some (Value.int IntKind.i64 a) ∧ World.cell? W' (Addr.mk g 3 none) = some (Value.int IntKind.i64 n) ∧ World.cell? W' (Addr.mk g 4 none) = some (Value.int IntKind.u64 o) ∧ World.cell? W' (Addr.mk g 5 none) = some (Value.int IntKind.u64 ne) ∧ World.cell? W' (Addr.mk g 6 none) = some (Value.slice A l c) ∧ World.cell? W' (Addr.mk g 7 none) = some (Value.int IntKind.u64 ky) ∧ World.cell? W' (Addr.mk g 8 none) = some (Value.int IntKind.i64 bo) ∧ Lk (Below (Array.size (World.heap w0)) w0 W')) := ⟨(hb.out.cell (block_lt_of_cell h.1)).trans h.1, (hb.out.cell (block_lt_of_cell h.2.1)).trans h.2.1, held_on h.2.2 hb⟩
end
end Go.Proofs.Ytadeghfhjiohnaa.Te

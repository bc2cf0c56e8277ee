/-
  The pieces of a verb: the closure that yields them.
-/
import Derived.Test.YtadeghfhjiohnaaVd
import Derived.RangeFuncNested
import Derived.RangeFuncBound
import Derived.RangeFuncCalls
import Derived.RangeFuncLeaves
import Derived.RangeFuncFrom
import Derived.RangeFuncBox
import Derived.Shelf.Abstract
import Derived.Shelf.RegionOpen
import Derived.OwnWalkIn
import Derived.TacticsInMore
import Derived.LoopNIn
import Derived.LoopIn
namespace Go.Proofs.Ytadeghfhjiohnaa.Vf
open Go.ChangeShapes Go.WideShapes Go.ChangeAt Go.RowKit Go.Shelf Ga Va Vb Vd
set_option linter.unusedVariables false
set_option linter.unusedSimpArgs false
set_option maxHeartbeats 4000000
set_option maxRecDepth 10000
attribute [local go_sem] Oper.semAt_some

/-- A piece, by value. -/
def pieceV (x : Nat × Nat) : Value := .agg #[.int .i64 (x.1 : Int), .int .i64 (x.2 : Int)]
def enc1 (x : Nat × Nat) : Array Value := #[.agg #[.int .i64 (x.1 : Int), .int .i64 (x.2 : Int)]]
/-- Where piece k of the words a to e begins. -/
def cutp (a e k : Nat) : Nat := if k = 0 then a else min (8 * (a / 8 + k)) e
def pcs (a e k : Nat) : List (Nat × Nat) := (List.range k).map fun j => (cutp a e j, cutp a e (j + 1) - cutp a e j)
def numP (a e : Nat) : Nat := (e - 1) / 8 - a / 8 + 1
theorem pcs_len (a e k : Nat) : (pcs a e k).length = k := by simp [pcs]
theorem pcs_more (a e k : Nat) : pcs a e (k + 1) = pcs a e k ++ [(cutp a e k, cutp a e (k + 1) - cutp a e k)] := by simp [pcs, List.range_succ]
theorem cut_lt' {a e k : Nat} (h : a < e) (hk : k < numP a e) : cutp a e k < e := by
  unfold cutp; unfold numP at hk; split <;> omega
theorem cut_end {a e : Nat} (h : a < e) : cutp a e (numP a e) = e := by
  unfold cutp numP; rw [if_neg (by omega)]; omega
theorem cut_next {a e k : Nat} (h : a < e) (hk : k < numP a e) : min (8 - cutp a e k % 8) (e - cutp a e k) = cutp a e (k + 1) - cutp a e k ∧ cutp a e k ≤ cutp a e (k + 1) ∧ cutp a e (k + 1) ≤ e := by
  unfold cutp; unfold numP at hk
  rw [if_neg (show ¬ k + 1 = 0 by omega)]
  by_cases h0 : k = 0
  · rw [if_pos h0]; subst h0; omega
  · rw [if_neg h0]
    have h1 : 8 * (a / 8 + k) < e := by omega
    rw [Nat.min_eq_left (Nat.le_of_lt h1)]
    have h2 : 8 * (a / 8 + k) % 8 = 0 := Nat.mul_mod_right 8 _
    omega
section
variable {k nd a n o ne : Int} {wa : Option Addr} {wl cp : Nat} {ky bo : Int} {W : World} {b : Nat}
theorem held_of (h : Bx W b k nd a n o ne wa wl cp ky bo) : (World.cell? W.drew (Addr.mk b 0 none) = some (Value.int IntKind.i64 k) ∧ World.cell? W.drew (Addr.mk b 1 none) = some (Value.int IntKind.i64 nd) ∧ World.cell? W.drew (Addr.mk b 2 none) = some (Value.int IntKind.i64 a) ∧ World.cell? W.drew (Addr.mk b 3 none) = some (Value.int IntKind.i64 n) ∧ World.cell? W.drew (Addr.mk b 4 none) = some (Value.int IntKind.u64 o) ∧ World.cell? W.drew (Addr.mk b 5 none) = some (Value.int IntKind.u64 ne) ∧ World.cell? W.drew (Addr.mk b 6 none) = some (Value.slice wa wl cp) ∧ World.cell? W.drew (Addr.mk b 7 none) = some (Value.int IntKind.u64 ky) ∧ World.cell? W.drew (Addr.mk b 8 none) = some (Value.int IntKind.i64 bo) ∧ Lk (Below (Array.size (World.heap W)) W W.drew)) :=
  ⟨h.c0, h.c1, h.c2, h.c3, h.c4, h.c5, h.c6, h.c7, h.c8, ⟨(Below.refl _ W).drew⟩⟩
theorem held_box {w : World} (h : (World.cell? W (Addr.mk b 0 none) = some (Value.int IntKind.i64 k) ∧ World.cell? W (Addr.mk b 1 none) = some (Value.int IntKind.i64 nd) ∧ World.cell? W (Addr.mk b 2 none) = some (Value.int IntKind.i64 a) ∧ World.cell? W (Addr.mk b 3 none) = some (Value.int IntKind.i64 n) ∧ World.cell? W (Addr.mk b 4 none) = some (Value.int IntKind.u64 o) ∧ World.cell? W (Addr.mk b 5 none) = some (Value.int IntKind.u64 ne) ∧ World.cell? W (Addr.mk b 6 none) = some (Value.slice wa wl cp) ∧ World.cell? W (Addr.mk b 7 none) = some (Value.int IntKind.u64 ky) ∧ World.cell? W (Addr.mk b 8 none) = some (Value.int IntKind.i64 bo) ∧ Lk (Below (Array.size (World.heap w)) w W))) : Bx W b k nd a n o ne wa wl cp ky bo :=
  ⟨h.1, h.2.1, h.2.2.1, h.2.2.2.1, h.2.2.2.2.1, h.2.2.2.2.2.1, h.2.2.2.2.2.2.1, h.2.2.2.2.2.2.2.1, h.2.2.2.2.2.2.2.2.1⟩
end
theorem grown_of_below {A B : World} (h : Below A.heap.size A B) : A.grownBy B none := ⟨h.os, h.tape, h.output, h.size, fun k hk _ => h.block k hk⟩
section
variable (k nd n o ne : Int) (a c : Nat) (wa : Option Addr) (wl cp : Nat) (ky bo : Int)
end
end Go.Proofs.Ytadeghfhjiohnaa.Vf

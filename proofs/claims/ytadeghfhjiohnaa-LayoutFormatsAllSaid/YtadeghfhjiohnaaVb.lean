/-
  Which verbs are valid: the program's answer and the reference's.
-/
import Derived.Test.YtadeghfhjiohnaaVa
namespace Go.Proofs.Ytadeghfhjiohnaa.Vb
open Go.ChangeShapes Go.WideShapes Go.ChangeAt Go.RowKit Ga Va
set_option linter.unusedVariables false
set_option linter.unusedSimpArgs false
set_option maxRecDepth 10000
set_option maxHeartbeats 4000000

def liesB (a c lines : Int) : Bool := decide (0 ≤ a ∧ a + c ≤ 8 * lines ∧ lstL a c - fstL a < 128)
def mixB (k a c : Int) : Bool := decide (fstL a < kf k ∧ kf k ≤ lstL a c)
def validC (k nd a c nodes lines : Int) : Int :=
  if c < 1 then 1 else if 1 ≤ nodes ∧ nodes ≤ 5 ∧ 1 ≤ lines ∧ lines ≤ 256 ∧ 0 ≤ nd ∧ nd < nodes ∧ liesB a c lines = true ∧ mixB k a c = false then 0 else 2
theorem cnt_hi {k n : Int} {wl : Nat} (hn : n ≤ 9223372036854775807) (hw : wl ≤ 9223372036854775807) : cnt k n wl ≤ 9223372036854775807 := by
  unfold cnt; split
  · exact hn
  · split
    · omega
    · split <;> omega
section
variable (k nd a n o ne : Int) (wa : Option Addr) (wl wc : Nat) (ky bo : Int) (w : World)
end
end Go.Proofs.Ytadeghfhjiohnaa.Vb

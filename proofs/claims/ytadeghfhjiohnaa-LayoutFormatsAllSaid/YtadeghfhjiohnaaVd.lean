/-
  Classes, checks, numbers of words returned.
-/
import Derived.Test.YtadeghfhjiohnaaVb
namespace Go.Proofs.Ytadeghfhjiohnaa.Vd
open Go.ChangeShapes Go.WideShapes Go.ChangeAt Go.RowKit Ga Va Vb
set_option linter.unusedVariables false
set_option linter.unusedSimpArgs false
set_option maxHeartbeats 4000000
set_option maxRecDepth 10000
def ctl (k a c : Int) : Bool := decide (lstL a c < kf k)
def classC (k a c : Int) : Int := if ctl k a c = true then 1 else 2
def checkC (k a c ky bo inc door key boot : Int) : Int :=
  if ctl k a c = true ∧ k = 1 then 0 else if inc < 0 ∨ inc < door then 5 else if ctl k a c = true then 0 else if bo < 0 ∨ bo ≠ boot ∨ ky ≠ key then 5 else 0
def retC (k n : Int) (wl : Nat) : Int := if k = 2 then 0 else cnt k n wl
theorem kindR {k n : Int} {wl : Nat} (h : 1 ≤ cnt k n wl) : cntR k n wl = cnt k n wl := by
  unfold cnt at h ⊢
  unfold cntR
  by_cases e1 : k = 1
  · rw [if_pos e1, if_pos e1]
  · rw [if_neg e1] at h ⊢; rw [if_neg e1]
    by_cases e2 : k = 2
    · rw [if_pos e2, if_pos e2]
    · rw [if_neg e2] at h ⊢; rw [if_neg e2]
      by_cases e3 : k = 3 ∨ k = 4
      · rw [if_pos e3]
      · rw [if_neg e3] at h; omega
section
variable (k nd a n o ne : Int) (wa : Option Addr) (wl cp : Nat) (ky bo : Int) (w : World)
end
end Go.Proofs.Ytadeghfhjiohnaa.Vd

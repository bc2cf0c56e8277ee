/-
  The reference's words of a node, doors; completions compared.
-/
import Derived.Test.YtacfmkmiikkppaaNf
import Derived.Test.YtacfmkmiikkppaaVb
namespace Go.Proofs.Ytacfmkmiikkppaa.Qa
open Go.ChangeShapes Go.WideShapes Go.ChangeAt Go.RowKit Ga Na Nb Nc Nf Va
set_option linter.unusedVariables false
set_option linter.unusedSimpArgs false
set_option maxHeartbeats 4000000
set_option maxRecDepth 10000
theorem client_any (c : Int) (w : World) : Calls Try.prog 71 #[.int .i64 c] w fun e w' => e = .returned (.bool (decide (0 ≤ c ∧ c < 6))) ∧ w = w' := by
  go_enter Try.func71, Try.ntmps71
  by_cases h1 : 0 ≤ c
  · go_wp2; go_ret; exact ⟨ret_bool (by simp [h1] <;> omega), rfl⟩
  · go_wp2; go_ret; exact ⟨ret_bool (by simp [h1] <;> omega), rfl⟩
theorem door_any (c : Nat) (w : World) (h : c < 6) : Calls Try.prog 39 #[.int .i64 c] w fun e w' => e = .returned (.int .i64 ((24 + c : Nat) : Int)) ∧ w = w' := by
  have C := client_any c w
  rw [decide_eq_true (show (0 : Int) ≤ c ∧ (c : Int) < 6 by omega)] at C
  go_enter Try.func39, Try.ntmps39
  go_wp2_with (first | (go_at_call 71; refine C.mono ?_; rintro e w' ⟨rfl, rfl⟩))
  go_ret
  exact ⟨ret_int (by omega), rfl⟩
/-- A word of a node, 0 if there is none. -/
def atW (ws : List Nat) (i : Nat) : Nat := ws.getD i 0
theorem at_any (b g n cap : Nat) (ws : List Nat) (up : Bool) (i : Nat) (w : World) (HN : Lk (RN w b g n cap ws up)) (hn : n ≤ 4294967296) (hi : i ≤ 4294967296) :
    Calls Try.prog 68 #[.pointer (some ⟨b, 0, none⟩), .int .i64 i] w fun e w' => e = .returned (.int .u64 (atW ws i : Int)) ∧ w = w' := by
  have hc := HN.out.c0
  have hl := HN.out.row.len
  unfold atW
  by_cases h : i < n
  · have h1 := HN.out.row.cell h
    generalize ws.getD i 0 = v at *
    have hd : decide ((n : Int) ≤ i) = false := decide_eq_false (by omega)
    clear hl
    go_enter Try.func68, Try.ntmps68
    go_wp2
    go_ret
    exact ⟨rfl, rfl⟩
  · have hv : ws.getD i 0 = 0 := by rw [List.getD_eq_getElem?_getD, List.getElem?_eq_none (by omega)]; rfl
    rw [hv]
    have hd : decide ((n : Int) ≤ i) = true := decide_eq_true (by omega)
    clear hl hv
    go_enter Try.func68, Try.ntmps68
    go_wp2
    go_ret
    exact ⟨rfl, rfl⟩
end Go.Proofs.Ytacfmkmiikkppaa.Qa

/-
  A node in memory: a struct of a slice of words and a bool; and the checks of an access.
-/
import Derived.Test.YtadeghfhjiohnaaGa
namespace Go.Proofs.Ytadeghfhjiohnaa.Na
open Go.ChangeShapes Go.WideShapes Go.ChangeAt Go.RowKit Ga
set_option linter.unusedVariables false
set_option linter.unusedSimpArgs false

structure Nd (T : TypeId) (w : World) (b g n cap : Nat) (ws : List Nat) (up : Bool) : Prop where
  node : w.heap[b]? = some (.cells #[.slice (some ⟨g, 0, none⟩) n cap, .bool up] T (0, 0))
  row : Row w g n cap ws
  ne : b ≠ g
section
variable {T : TypeId} {w w' : World} {b g n cap : Nat} {ws : List Nat} {up : Bool}
theorem Nd.c0 (h : Nd T w b g n cap ws up) : w.cell? ⟨b, 0, none⟩ = some (.slice (some ⟨g, 0, none⟩) n cap) := (cell_of_row w b 0 _ _ _ h.node).trans rfl
theorem Nd.c1 (h : Nd T w b g n cap ws up) : w.cell? ⟨b, 1, none⟩ = some (.bool up) := (cell_of_row w b 1 _ _ _ h.node).trans rfl
theorem Nd.f1 (h : Nd T w b g n cap ws up) (j : Nat) : w.frozen? ⟨b, j, none⟩ = false := frozen_of_row w b j _ _ h.node
theorem Nd.size (h : Nd T w b g n cap ws up) : b < w.heap.size := (Array.getElem?_eq_some_iff.1 h.node).1
theorem Nd.keep (h : Nd T w b g n cap ws up) (hb : w'.heap[b]? = w.heap[b]?) (hg : w'.heap[g]? = w.heap[g]?) : Nd T w' b g n cap ws up := ⟨hb.trans h.node, h.row.keep hg, h.ne⟩
theorem Nd.on {S : Nat → Prop} (h : Nd T w b g n cap ws up) (ho : Only S w w') (hb : ¬ S b) (hg : ¬ S g) : Nd T w' b g n cap ws up := h.keep (ho.block b h.size hb) (ho.block g h.row.size hg)
theorem Nd.set (h : Nd T w b g n cap ws up) (j x : Nat) (hx : x < 18446744073709551616) : Nd T (w.setCell ⟨g, j, none⟩ (.int .u64 (x : Int))) b g n cap (ws.set j x) up :=
  ⟨(Below.heap_setCell w ⟨g, j, none⟩ _ b h.ne).trans h.node, h.row.set j x hx, h.ne⟩
theorem Nd.setUp (h : Nd T w b g n cap ws up) (u : Bool) : Nd T (w.setCell ⟨b, 1, none⟩ (.bool u)) b g n cap ws u :=
  ⟨heap_setCell_same w b 1 _ _ _ h.node, h.row.keep (Below.heap_setCell w ⟨b, 1, none⟩ _ g (Ne.symm h.ne)), h.ne⟩
end

theorem Nd.drew {T : TypeId} {w : World} {b g n cap : Nat} {ws : List Nat} {up : Bool} (h : Nd T w b g n cap ws up) (m : Nat) : Nd T (w.drewN m) b g n cap ws up := h.keep rfl rfl
/-- An access of c words at a: may it be? 0 yes, 2 out of range, 4 the node is down. -/
def fits (n : Nat) (a c : Int) : Bool := decide (0 ≤ a ∧ 1 ≤ c ∧ a + c ≤ n)
def codeOf (up : Bool) (n : Nat) (a c : Int) : Int := if fits n a c = true then (if up = true then 0 else 4) else 2
theorem fits_iff {n : Nat} {a c : Int} : fits n a c = true ↔ 0 ≤ a ∧ 1 ≤ c ∧ a + c ≤ n := by unfold fits; exact decide_eq_true_iff
theorem fits_not {n : Nat} {a c : Int} (h : ¬ (0 ≤ a ∧ 1 ≤ c ∧ a + c ≤ n)) : fits n a c = false := by unfold fits; exact decide_eq_false h

theorem holds_any (b g n cap : Nat) (a c : Int) (w : World) (hn : n ≤ 4294967296) (hc : w.cell? ⟨b, 0, none⟩ = some (.slice (some ⟨g, 0, none⟩) n cap)) (a0 : -9223372036854775808 ≤ a) (a1 : a ≤ 9223372036854775807) (c0 : -9223372036854775808 ≤ c) (c1 : c ≤ 9223372036854775807) :
    Calls Try.prog 60 #[.pointer (some ⟨b, 0, none⟩), .int .i64 a, .int .i64 c] w fun e w' => e = .returned (.bool (fits n a c)) ∧ w = w' := by
  go_enter Try.func60, Try.ntmps60
  by_cases h1 : 0 ≤ a
  · by_cases h2 : 1 ≤ c
    · have hw : wrap64 ((n : Int) - c) = n - c := by unfold wrap64; omega
      go_wp2
      go_ret
      refine ⟨ret_bool ?_, rfl⟩
      unfold fits
      simp only [decide_eq_decide]; omega
    · go_wp2
      go_ret
      refine ⟨ret_bool ?_, rfl⟩
      exact (fits_not (by omega)).symm
  · go_wp2
    go_ret
    refine ⟨ret_bool ?_, rfl⟩
    exact (fits_not (by omega)).symm
theorem check_any (b g n cap : Nat) (up : Bool) (a c : Int) (w : World) (hn : n ≤ 4294967296) (hc : w.cell? ⟨b, 0, none⟩ = some (.slice (some ⟨g, 0, none⟩) n cap)) (hu : w.cell? ⟨b, 1, none⟩ = some (.bool up))
    (a0 : -9223372036854775808 ≤ a) (a1 : a ≤ 9223372036854775807) (c0 : -9223372036854775808 ≤ c) (c1 : c ≤ 9223372036854775807) :
    Calls Try.prog 48 #[.pointer (some ⟨b, 0, none⟩), .int .i64 a, .int .i64 c] w fun e w' => e = .returned (.int .i64 (codeOf up n a c)) ∧ w = w' := by
  have C := holds_any b g n cap a c w hn hc a0 a1 c0 c1
  go_enter Try.func48, Try.ntmps48
  by_cases hf : fits n a c = true
  · rw [hf] at C
    cases up with
    | true =>
      go_wp2_with (first | (go_at_call 60; refine C.mono ?_; rintro e w' ⟨rfl, rfl⟩))
      go_ret
      exact ⟨ret_int (by simp [codeOf, hf]), rfl⟩
    | false =>
      go_wp2_with (first | (go_at_call 60; refine C.mono ?_; rintro e w' ⟨rfl, rfl⟩))
      go_ret
      exact ⟨ret_int (by simp [codeOf, hf]), rfl⟩
  · have hf' : fits n a c = false := by simpa using hf
    rw [hf'] at C
    go_wp2_with (first | (go_at_call 60; refine C.mono ?_; rintro e w' ⟨rfl, rfl⟩))
    go_ret
    exact ⟨ret_int (by simp [codeOf, hf']), rfl⟩
end Go.Proofs.Ytadeghfhjiohnaa.Na

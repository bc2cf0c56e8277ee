/-
  Contracts of package layout's addresses, and of the reference's.
-/
import Derived.Test.YtadeghfhjiohnaaGa
namespace Go.Proofs.Ytadeghfhjiohnaa.La
open Go.ChangeShapes Go.WideShapes Go.ChangeAt Go.RowKit Ga
set_option linter.unusedVariables false
set_option linter.unusedSimpArgs false
set_option maxRecDepth 10000

/-- The address of number i of a region; -1 if there is none. -/
def adr (first step least most i : Int) : Int := if least ≤ i ∧ i ≤ most then first + (i - least) * step else -1
theorem adr_yes {first step least most i : Int} (h : least ≤ i ∧ i ≤ most) : adr first step least most i = first + (i - least) * step := if_pos h
theorem adr_no {first step least most i : Int} (h : ¬ (least ≤ i ∧ i ≤ most)) : adr first step least most i = -1 := if_neg h
theorem within_l (x a b : Int) (w : World) : Calls Try.prog 43 #[.int .i64 x, .int .i64 a, .int .i64 b] w fun e w' => e = .returned (.bool (decide (a ≤ x ∧ x ≤ b))) ∧ w = w' := by
  go_enter Try.func43, Try.ntmps43
  by_cases h1 : a ≤ x
  · go_wp2
    go_ret
    exact ⟨ret_bool (by simp [h1]), rfl⟩
  · go_wp2
    go_ret
    exact ⟨ret_bool (by simp; omega), rfl⟩
theorem region1_any (first step least most i : Int) (p1 p2 p3 p4 : Addr) (w : World) (h1 : w.cell? p1 = some (.int .i64 least)) (h2 : w.cell? p2 = some (.int .i64 most)) (h3 : w.cell? p3 = some (.int .i64 first)) (h4 : w.cell? p4 = some (.int .i64 step))
    (b0 : 0 ≤ first ∧ first ≤ 65536) (b1 : 0 ≤ step ∧ step ≤ 4096) (b2 : 0 ≤ least) (b3 : most ≤ 65536) :
    Calls Try.prog 59 #[.int .i64 i, .pointer (some p1), .pointer (some p2), .pointer (some p3), .pointer (some p4)] w fun e w' => e = .returned (.int .i64 (adr first step least most i)) ∧ w = w' := by
  have W := within_l i least most w
  by_cases h : least ≤ i ∧ i ≤ most
  · rw [decide_eq_true h] at W
    have hm0 : 0 ≤ (i - least) * step := Int.mul_nonneg (by omega) (by omega)
    have hm1 : (i - least) * step ≤ 65536 * 4096 := Int.mul_le_mul (by omega) (by omega) (by omega) (by omega)
    go_enter Try.func59, Try.ntmps59
    go_wp2_with (first | (go_at_call 43; refine W.mono ?_; rintro e w' ⟨rfl, rfl⟩))
    go_ret
    refine ⟨ret_int ?_, rfl⟩
    rw [adr_yes h]
  · rw [decide_eq_false h] at W
    go_enter Try.func59, Try.ntmps59
    go_wp2_with (first | (go_at_call 43; refine W.mono ?_; rintro e w' ⟨rfl, rfl⟩))
    go_ret
    exact ⟨ret_int (adr_no h).symm, rfl⟩
/-- What region hands back: a closure over its four arguments' boxes. -/
def regF (b : Nat) : Value := .func (.func 59) #[] #[.pointer (some ⟨b + 2, 0, none⟩), .pointer (some ⟨b + 3, 0, none⟩), .pointer (some ⟨b, 0, none⟩), .pointer (some ⟨b + 1, 0, none⟩)]
def Boxes (w : World) (b : Nat) (first step least most : Int) : Prop :=
  w.cell? ⟨b + 2, 0, none⟩ = some (.int .i64 least) ∧ w.cell? ⟨b + 3, 0, none⟩ = some (.int .i64 most) ∧ w.cell? ⟨b, 0, none⟩ = some (.int .i64 first) ∧ w.cell? ⟨b + 1, 0, none⟩ = some (.int .i64 step)
theorem region_any (first step least most : Int) (w : World) :
    Calls Try.prog 46 #[.int .i64 first, .int .i64 step, .int .i64 least, .int .i64 most] w fun e w' => ∃ b, e = .returned (regF b) ∧ Lk (Below w.heap.size w w') ∧ Boxes w' b first step least most := by
  have hmf : ∀ (fn : Fn) (first cap : Array Value) (w : World), (Instr.makeFunc fn first cap).run Try.prog w = .ok (.func fn first cap) w := fun _ _ _ _ => rfl
  have HB := Lk.mk (((((Below.refl w.heap.size w).alloc (Nat.le_refl _) (.cells #[.int .i64 first] 3)).alloc (by simp) (.cells #[.int .i64 step] 3)).alloc (by simp; omega) (.cells #[.int .i64 least] 3)).alloc (by simp; omega) (.cells #[.int .i64 most] 3))
  go_enter Try.func46, Try.ntmps46
  go_wp2
  go_ret
  refine ⟨w.heap.size, rfl, HB, ?_, ?_, ?_, ?_⟩
  · rw [World.cell?_alloc_past _ _ _ (by simp <;> omega), World.cell?_alloc_at _ _ _ _ (by simp)]; rfl
  · rw [World.cell?_alloc_at _ _ _ _ (by simp)]; rfl
  · rw [World.cell?_alloc_past _ _ _ (by simp <;> omega), World.cell?_alloc_past _ _ _ (by simp <;> omega), World.cell?_alloc_past _ _ _ (by simp <;> omega), World.cell?_alloc_at _ _ _ _ (by simp)]; rfl
  · rw [World.cell?_alloc_past _ _ _ (by simp <;> omega), World.cell?_alloc_past _ _ _ (by simp <;> omega), World.cell?_alloc_at _ _ _ _ (by simp)]; rfl
theorem perClient_any (line : Int) (w : World) (h : 0 ≤ line ∧ line ≤ 256) :
    Calls Try.prog 44 #[.int .i64 line] w fun e w' => ∃ b, e = .returned (regF b) ∧ Lk (Below w.heap.size w w') ∧ Boxes w' b (line * 8) 1 0 5 := by
  go_enter Try.func44, Try.ntmps44
  go_wp2_with (first | (go_at_call 46; refine (region_any _ _ _ _ _).mono ?_; rintro e w' ⟨b, rfl, HB, HC⟩))
  go_ret
  exact ⟨b, rfl, HB, HC⟩
theorem perLog_any (place : Int) (w : World) (h : 0 ≤ place ∧ place ≤ 256) :
    Calls Try.prog 47 #[.int .i64 place] w fun e w' => ∃ b, e = .returned (regF b) ∧ Lk (Below w.heap.size w w') ∧ Boxes w' b (48 + place) 120 0 5 := by
  go_enter Try.func47, Try.ntmps47
  go_wp2_with (first | (go_at_call 46; refine (region_any _ _ _ _ _).mono ?_; rintro e w' ⟨b, rfl, HB, HC⟩))
  go_ret
  exact ⟨b, rfl, HB, HC⟩
theorem door_any (c : Int) (w : World) :
    Calls Try.prog 11 #[.int .i64 c] w fun e w' => e = .returned (.int .i64 (adr 24 1 0 5 c)) ∧ Lk (Below w.heap.size w w') := by
  go_enter Try.func11, Try.ntmps11
  go_wp2_with (first | (go_at_call 44; refine (perClient_any _ _ (by decide)).mono ?_; rintro e w' ⟨b, rfl, HB, h1, h2, h3, h4⟩; unfold regF))
  refine (region1_any _ _ _ _ _ _ _ _ _ _ h1 h2 h3 h4 (by decide) (by decide) (by decide) (by decide)).mono ?_
  rintro e w'' ⟨rfl, rfl⟩
  go_wp2
  go_ret
  exact ⟨rfl, HB⟩
theorem clock_any (c : Int) (w : World) :
    Calls Try.prog 13 #[.int .i64 c] w fun e w' => e = .returned (.int .i64 (adr 32 1 0 5 c)) ∧ Lk (Below w.heap.size w w') := by
  go_enter Try.func13, Try.ntmps13
  go_wp2_with (first | (go_at_call 44; refine (perClient_any _ _ (by decide)).mono ?_; rintro e w' ⟨b, rfl, HB, h1, h2, h3, h4⟩; unfold regF))
  refine (region1_any _ _ _ _ _ _ _ _ _ _ h1 h2 h3 h4 (by decide) (by decide) (by decide) (by decide)).mono ?_
  rintro e w'' ⟨rfl, rfl⟩
  go_wp2
  go_ret
  exact ⟨rfl, HB⟩
theorem lease_any (c : Int) (w : World) :
    Calls Try.prog 15 #[.int .i64 c] w fun e w' => e = .returned (.int .i64 (adr 40 1 0 5 c)) ∧ Lk (Below w.heap.size w w') := by
  go_enter Try.func15, Try.ntmps15
  go_wp2_with (first | (go_at_call 44; refine (perClient_any _ _ (by decide)).mono ?_; rintro e w' ⟨b, rfl, HB, h1, h2, h3, h4⟩; unfold regF))
  refine (region1_any _ _ _ _ _ _ _ _ _ _ h1 h2 h3 h4 (by decide) (by decide) (by decide) (by decide)).mono ?_
  rintro e w'' ⟨rfl, rfl⟩
  go_wp2
  go_ret
  exact ⟨rfl, HB⟩
theorem mark_any (c : Int) (w : World) :
    Calls Try.prog 19 #[.int .i64 c] w fun e w' => e = .returned (.int .i64 (adr 48 120 0 5 c)) ∧ Lk (Below w.heap.size w w') := by
  go_enter Try.func19, Try.ntmps19
  go_wp2_with (first | (go_at_call 47; refine (perLog_any _ _ (by decide)).mono ?_; rintro e w' ⟨b, rfl, HB, h1, h2, h3, h4⟩; unfold regF))
  refine (region1_any _ _ _ _ _ _ _ _ _ _ h1 h2 h3 h4 (by decide) (by decide) (by decide) (by decide)).mono ?_
  rintro e w'' ⟨rfl, rfl⟩
  go_wp2
  go_ret
  exact ⟨rfl, HB⟩
theorem tag_any (c : Int) (w : World) :
    Calls Try.prog 21 #[.int .i64 c] w fun e w' => e = .returned (.int .i64 (adr 49 120 0 5 c)) ∧ Lk (Below w.heap.size w w') := by
  go_enter Try.func21, Try.ntmps21
  go_wp2_with (first | (go_at_call 47; refine (perLog_any _ _ (by decide)).mono ?_; rintro e w' ⟨b, rfl, HB, h1, h2, h3, h4⟩; unfold regF))
  refine (region1_any _ _ _ _ _ _ _ _ _ _ h1 h2 h3 h4 (by decide) (by decide) (by decide) (by decide)).mono ?_
  rintro e w'' ⟨rfl, rfl⟩
  go_wp2
  go_ret
  exact ⟨rfl, HB⟩
theorem body_any (c : Int) (w : World) :
    Calls Try.prog 23 #[.int .i64 c] w fun e w' => e = .returned (.int .i64 (adr 56 120 0 5 c)) ∧ Lk (Below w.heap.size w w') := by
  go_enter Try.func23, Try.ntmps23
  go_wp2_with (first | (go_at_call 47; refine (perLog_any _ _ (by decide)).mono ?_; rintro e w' ⟨b, rfl, HB, h1, h2, h3, h4⟩; unfold regF))
  refine (region1_any _ _ _ _ _ _ _ _ _ _ h1 h2 h3 h4 (by decide) (by decide) (by decide) (by decide)).mono ?_
  rintro e w'' ⟨rfl, rfl⟩
  go_wp2
  go_ret
  exact ⟨rfl, HB⟩
theorem consensus_any (c : Int) (w : World) :
    Calls Try.prog 17 #[.int .i64 c] w fun e w' => e = .returned (.int .i64 (adr 8 1 0 15 c)) ∧ Lk (Below w.heap.size w w') := by
  go_enter Try.func17, Try.ntmps17
  go_wp2_with (first | (go_at_call 46; refine (region_any _ _ _ _ _).mono ?_; rintro e w' ⟨b, rfl, HB, h1, h2, h3, h4⟩; unfold regF))
  refine (region1_any _ _ _ _ _ _ _ _ _ _ h1 h2 h3 h4 (by decide) (by decide) (by decide) (by decide)).mono ?_
  rintro e w'' ⟨rfl, rfl⟩
  go_wp2
  go_ret
  exact ⟨rfl, HB⟩
theorem page_any (c : Int) (w : World) :
    Calls Try.prog 25 #[.int .i64 c] w fun e w' => e = .returned (.int .i64 (adr 768 8 96 255 c)) ∧ Lk (Below w.heap.size w w') := by
  go_enter Try.func25, Try.ntmps25
  go_wp2_with (first | (go_at_call 46; refine (region_any _ _ _ _ _).mono ?_; rintro e w' ⟨b, rfl, HB, h1, h2, h3, h4⟩; unfold regF))
  refine (region1_any _ _ _ _ _ _ _ _ _ _ h1 h2 h3 h4 (by decide) (by decide) (by decide) (by decide)).mono ?_
  rintro e w'' ⟨rfl, rfl⟩
  go_wp2
  go_ret
  exact ⟨rfl, HB⟩
end Go.Proofs.Ytadeghfhjiohnaa.La

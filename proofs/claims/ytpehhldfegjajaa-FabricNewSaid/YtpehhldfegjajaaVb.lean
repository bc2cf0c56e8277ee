/-
  Which verbs are valid: the program's answer and the reference's.
-/
import Derived.Test.YtpehhldfegjajaaVa
namespace Go.Proofs.Ytpehhldfegjajaa.Vb
open Go.ChangeShapes Go.WideShapes Go.ChangeAt Go.RowKit Ga Va
set_option linter.unusedVariables false
set_option linter.unusedSimpArgs false
set_option maxRecDepth 10000
set_option maxHeartbeats 4000000

def liesB (a c lines : Int) : Bool := decide (0 ≤ a ∧ a + c ≤ 8 * lines ∧ lstL a c - fstL a < 128)
def mixB (k a c : Int) : Bool := decide (fstL a < kf k ∧ kf k ≤ lstL a c)
def validC (k nd a c nodes lines : Int) : Int :=
  if c < 1 then 1 else if 1 ≤ nodes ∧ nodes ≤ 5 ∧ 1 ≤ lines ∧ lines ≤ 256 ∧ 0 ≤ nd ∧ nd < nodes ∧ liesB a c lines = true ∧ mixB k a c = false then 0 else 2
theorem cnt_hi {k n : Int} {wl : Nat} (hn : n ≤ 9223372036854775807) (hw : wl ≤ 9223372036854775807) : cnt k n wl ≤ 9223372036854775807 := by
  unfold cnt; split
  · exact hn
  · split
    · omega
    · split <;> omega
section
variable (k nd a n o ne : Int) (wa : Option Addr) (wl wc : Nat) (ky bo : Int) (w : World)
theorem lies_ok (lines : Int) (h1 : 1 ≤ cnt k n wl) (hc2 : cnt k n wl ≤ 9223372036854775807) (hl1 : 1 ≤ lines) (hl2 : lines ≤ 256) :
    Calls Try.prog 71 #[(Value.agg #[Value.int IntKind.i64 k, Value.int IntKind.i64 nd, Value.int IntKind.i64 a, Value.int IntKind.i64 n, Value.int IntKind.u64 o, Value.int IntKind.u64 ne, Value.slice wa wl wc, Value.int IntKind.u64 ky, Value.int IntKind.i64 bo]), .int .i64 lines] w fun e w' => e = .returned (.bool (liesB a (cnt k n wl) lines)) ∧ Lk (Below w.heap.size w w') := by
  have CS := span_ok k nd a n o ne wa wl wc ky bo
  have C := fun w => count_any k nd a n o ne wa wl wc ky bo w
  obtain ⟨c, hc⟩ : ∃ c, cnt k n wl = c := ⟨_, rfl⟩
  rw [hc] at C CS h1 hc2 ⊢
  clear hc
  have w1 : IntKind.i64.wrap (lines * 8) = lines * 8 := IntWalk.i64_in _ (by omega)
  have w2 : IntKind.i64.wrap (lines * 8 - c) = lines * 8 - c := IntWalk.i64_in _ (by omega)
  by_cases hin : 0 ≤ a ∧ a ≤ lines * 8 - c
  · have hd : decide (0 ≤ a ∧ a ≤ lines * 8 - c) = true := decide_eq_true hin
    have CS := fun w => CS w hin.1 h1 (by omega)
    have e3 : wrap64 (lstL a c - fstL a) = lstL a c - fstL a := by unfold wrap64 lstL fstL; omega
    have hr : decide (lstL a c - fstL a < 128) = liesB a c lines := by unfold liesB; simp only [decide_eq_decide]; omega
    generalize lstL a c = l at *
    generalize fstL a = f at *
    clear hin h1 hc2 hl1 hl2
    go_enter Try.func71, Try.ntmps71
    go_wp2_with fail
    generalize hW : w.alloc _ = W
    have HX := Lk.mk (held_start 56 hW.symm)
    clear hW
    go_region_held3 (fun W => (World.cell? W (Addr.mk w.heap.size 0 none) = some (Value.int IntKind.i64 k) ∧ World.cell? W (Addr.mk w.heap.size 1 none) = some (Value.int IntKind.i64 nd) ∧ World.cell? W (Addr.mk w.heap.size 2 none) = some (Value.int IntKind.i64 a) ∧ World.cell? W (Addr.mk w.heap.size 3 none) = some (Value.int IntKind.i64 n) ∧ World.cell? W (Addr.mk w.heap.size 4 none) = some (Value.int IntKind.u64 o) ∧ World.cell? W (Addr.mk w.heap.size 5 none) = some (Value.int IntKind.u64 ne) ∧ World.cell? W (Addr.mk w.heap.size 6 none) = some (Value.slice wa wl wc) ∧ World.cell? W (Addr.mk w.heap.size 7 none) = some (Value.int IntKind.u64 ky) ∧ World.cell? W (Addr.mk w.heap.size 8 none) = some (Value.int IntKind.i64 bo) ∧ Lk (Below (Array.size (World.heap w)) w W))) (first | exact HX.out | assumption | exact held_on (by assumption) (by assumption))
      (first
        | (go_at_call 69; refine (C _).mono ?_; rintro e w2 ⟨rfl, HB2⟩)
        | (go_at_call 70; refine (within_any _ _ _ _).mono ?_; rintro e w2 ⟨rfl, rfl⟩))
    clear C
    go_wp2_with fail
    refine (CS _).mono ?_
    rintro e w3 ⟨rfl, HB3⟩
    have HX3 := Lk.mk (held_below (held_on (by assumption) HB3))
    go_wp2
    go_ret
    exact ⟨rfl, HX3.out⟩
  · have hd : decide (0 ≤ a ∧ a ≤ lines * 8 - c) = false := decide_eq_false hin
    have hr : liesB a c lines = false := by unfold liesB; apply decide_eq_false; omega
    rw [hr]
    clear hin h1 hc2 hl1 hl2 CS
    go_enter Try.func71, Try.ntmps71
    go_wp2_with fail
    generalize hW : w.alloc _ = W
    have HX := Lk.mk (held_start 56 hW.symm)
    clear hW
    go_region_held3 (fun W => (World.cell? W (Addr.mk w.heap.size 0 none) = some (Value.int IntKind.i64 k) ∧ World.cell? W (Addr.mk w.heap.size 1 none) = some (Value.int IntKind.i64 nd) ∧ World.cell? W (Addr.mk w.heap.size 2 none) = some (Value.int IntKind.i64 a) ∧ World.cell? W (Addr.mk w.heap.size 3 none) = some (Value.int IntKind.i64 n) ∧ World.cell? W (Addr.mk w.heap.size 4 none) = some (Value.int IntKind.u64 o) ∧ World.cell? W (Addr.mk w.heap.size 5 none) = some (Value.int IntKind.u64 ne) ∧ World.cell? W (Addr.mk w.heap.size 6 none) = some (Value.slice wa wl wc) ∧ World.cell? W (Addr.mk w.heap.size 7 none) = some (Value.int IntKind.u64 ky) ∧ World.cell? W (Addr.mk w.heap.size 8 none) = some (Value.int IntKind.i64 bo) ∧ Lk (Below (Array.size (World.heap w)) w W))) (first | exact HX.out | assumption | exact held_on (by assumption) (by assumption))
      (first
        | (go_at_call 69; refine (C _).mono ?_; rintro e w2 ⟨rfl, HB2⟩)
        | (go_at_call 70; refine (within_any _ _ _ _).mono ?_; rintro e w2 ⟨rfl, rfl⟩))
    have HX3 := Lk.mk (held_below (by assumption))
    go_wp2
    go_ret
    exact ⟨rfl, HX3.out⟩
theorem mixes_ok (h0 : 0 ≤ a) (h1 : 1 ≤ cnt k n wl) (h2 : a + cnt k n wl ≤ 9223372036854775807) :
    Calls Try.prog 72 #[(Value.agg #[Value.int IntKind.i64 k, Value.int IntKind.i64 nd, Value.int IntKind.i64 a, Value.int IntKind.i64 n, Value.int IntKind.u64 o, Value.int IntKind.u64 ne, Value.slice wa wl wc, Value.int IntKind.u64 ky, Value.int IntKind.i64 bo])] w fun e w' => e = .returned (.bool (mixB k a (cnt k n wl))) ∧ Lk (Below w.heap.size w w') := by
  have CS := fun w => span_ok k nd a n o ne wa wl wc ky bo w h0 h1 h2
  have CK := keyed_any k
  unfold mixB
  generalize cnt k n wl = c at *
  generalize lstL a c = l at *
  generalize fstL a = f at *
  generalize kf k = y at *
  clear h0 h1 h2
  go_enter Try.func72, Try.ntmps72
  go_wp2_with fail
  generalize hW : w.alloc _ = W
  have HX := Lk.mk (Bx.alloc w k nd a n o ne wa wl wc ky bo 56)
  have HB := Lk.mk ((Below.refl _ w).alloc (Nat.le_refl _) (.cells #[Value.int IntKind.i64 k, Value.int IntKind.i64 nd, Value.int IntKind.i64 a, Value.int IntKind.i64 n, Value.int IntKind.u64 o, Value.int IntKind.u64 ne, Value.slice wa wl wc, Value.int IntKind.u64 ky, Value.int IntKind.i64 bo] 56))
  rw [hW] at HX HB
  clear hW
  refine (CS _).mono ?_
  rintro e w3 ⟨rfl, HB3⟩
  have hc0 := (HX.out.on HB3.out).c0
  have HB4 := Lk.mk (HB.out.trans (HB3.out.mono HB.out.size))
  clear HX HB HB3 CS
  by_cases hf : f < y
  · go_wp2_with (go_at_call 80; refine (CK _).mono ?_; rintro e w2 ⟨rfl, rfl⟩)
    go_ret
    exact ⟨ret_bool (by simp [hf]), HB4⟩
  · go_wp2_with (go_at_call 80; refine (CK _).mono ?_; rintro e w2 ⟨rfl, rfl⟩)
    go_ret
    exact ⟨ret_bool (by simp [hf] <;> (intros; omega)), HB4⟩
theorem valid_ok (nodes lines : Int) (hc2 : cnt k n wl ≤ 9223372036854775807) :
    Calls Try.prog 55 #[(Value.agg #[Value.int IntKind.i64 k, Value.int IntKind.i64 nd, Value.int IntKind.i64 a, Value.int IntKind.i64 n, Value.int IntKind.u64 o, Value.int IntKind.u64 ne, Value.slice wa wl wc, Value.int IntKind.u64 ky, Value.int IntKind.i64 bo]), .int .i64 nodes, .int .i64 lines] w fun e w' => e = .returned (.int .i64 (validC k nd a (cnt k n wl) nodes lines)) ∧ Lk (Below w.heap.size w w') := by
  have CC := fun w => count_any k nd a n o ne wa wl wc ky bo w
  have CL := fun w h1 hl1 hl2 => lies_ok k nd a n o ne wa wl wc ky bo w lines h1 hc2 hl1 hl2
  have CM := fun w => mixes_ok k nd a n o ne wa wl wc ky bo w
  unfold validC
  generalize cnt k n wl = c at *
  go_enter Try.func55, Try.ntmps55
  go_wp2_with fail
  generalize hW : w.alloc _ = W
  have HX := Lk.mk (Bx.alloc w k nd a n o ne wa wl wc ky bo 56)
  have HB := Lk.mk ((Below.refl _ w).alloc (Nat.le_refl _) (.cells #[Value.int IntKind.i64 k, Value.int IntKind.i64 nd, Value.int IntKind.i64 a, Value.int IntKind.i64 n, Value.int IntKind.u64 o, Value.int IntKind.u64 ne, Value.slice wa wl wc, Value.int IntKind.u64 ky, Value.int IntKind.i64 bo] 56))
  rw [hW] at HX HB
  clear hW
  refine (CC _).mono ?_
  rintro e w3 ⟨rfl, HB3⟩
  have HX3 := Lk.mk (HX.out.on HB3.out)
  have HB4 := Lk.mk (HB.out.trans (HB3.out.mono HB.out.size))
  obtain ⟨c0, c1, c2, c3, c4, c5, c6, c7, c8⟩ := HX3.out
  clear HX HB HB3 CC
  by_cases hc : c < 1
  · go_wp2
    go_ret
    exact ⟨ret_int (by first | rfl | (simp [hc])), HB4⟩
  have hcc := Lk.mk hc
  by_cases hn : 1 ≤ nodes ∧ nodes ≤ 5
  · have d1 : decide (1 ≤ nodes ∧ nodes ≤ 5) = true := decide_eq_true hn
    have w1 : IntKind.i64.wrap (nodes - 1) = nodes - 1 := IntWalk.i64_in _ (by omega)
    by_cases hl : 1 ≤ lines ∧ lines ≤ 256
    · have d2 : decide (1 ≤ lines ∧ lines ≤ 256) = true := decide_eq_true hl
      by_cases hd : 0 ≤ nd ∧ nd ≤ nodes - 1
      · have d3 : decide (0 ≤ nd ∧ nd ≤ nodes - 1) = true := decide_eq_true hd
        have CL := fun w => CL w (by omega) hl.1 hl.2
        cases hli : liesB a c lines with
        | false =>
          rw [hli] at CL
          go_wp2_with (first
            | (go_at_call 70; refine (within_any _ _ _ _).mono ?_; rintro e w2 ⟨rfl, rfl⟩)
            | (go_at_call 71; refine (CL _).mono ?_; rintro e w4 ⟨rfl, HB5⟩; have HB6 := Lk.mk (HB4.out.trans (HB5.out.mono HB4.out.size))))
          go_ret
          exact ⟨ret_int (by first | rfl | (simp [(show ¬ c < 1 by omega)])), HB6⟩
        | true =>
          rw [hli] at CL
          have hli' := hli
          unfold liesB at hli'
          rw [decide_eq_true_iff] at hli'
          have CM := fun w => CM w hli'.1 (by omega) (by omega)
          cases hmi : mixB k a c with
          | false =>
            rw [hmi] at CM
            go_wp2_with (first
              | (go_at_call 70; refine (within_any _ _ _ _).mono ?_; rintro e w2 ⟨rfl, rfl⟩)
              | (go_at_call 71; refine (CL _).mono ?_; rintro e w4 ⟨rfl, HB5⟩; have HX4 := Lk.mk (HX3.out.on HB5.out); have HB6 := Lk.mk (HB4.out.trans (HB5.out.mono HB4.out.size)); obtain ⟨b0, b1, b2, b3, b4, b5, b6, b7, b8⟩ := HX4.out)
              | (go_at_call 72; refine (CM _).mono ?_; rintro e w5 ⟨rfl, HB7⟩; have HB8 := Lk.mk (HB6.out.trans (HB7.out.mono HB6.out.size))))
            go_ret
            exact ⟨ret_int (by first | rfl | (rw [if_neg (show ¬ c < 1 by omega), if_pos ⟨hn.1, hn.2, hl.1, hl.2, hd.1, by omega, rfl, rfl⟩])), HB8⟩
          | true =>
            rw [hmi] at CM
            go_wp2_with (first
              | (go_at_call 70; refine (within_any _ _ _ _).mono ?_; rintro e w2 ⟨rfl, rfl⟩)
              | (go_at_call 71; refine (CL _).mono ?_; rintro e w4 ⟨rfl, HB5⟩; have HX4 := Lk.mk (HX3.out.on HB5.out); have HB6 := Lk.mk (HB4.out.trans (HB5.out.mono HB4.out.size)); obtain ⟨b0, b1, b2, b3, b4, b5, b6, b7, b8⟩ := HX4.out)
              | (go_at_call 72; refine (CM _).mono ?_; rintro e w5 ⟨rfl, HB7⟩; have HB8 := Lk.mk (HB6.out.trans (HB7.out.mono HB6.out.size))))
            go_ret
            exact ⟨ret_int (by first | rfl | (simp [(show ¬ c < 1 by omega)])), HB8⟩
      · have d3 : decide (0 ≤ nd ∧ nd ≤ nodes - 1) = false := decide_eq_false hd
        clear CL CM
        go_wp2_with (first
          | (go_at_call 70; refine (within_any _ _ _ _).mono ?_; rintro e w2 ⟨rfl, rfl⟩))
        go_ret
        exact ⟨ret_int (by first | rfl | (rw [if_neg (show ¬ c < 1 by omega), if_neg (fun h => hd (by omega))])), HB4⟩
    · have d2 : decide (1 ≤ lines ∧ lines ≤ 256) = false := decide_eq_false hl
      clear CL CM
      go_wp2_with (first
        | (go_at_call 70; refine (within_any _ _ _ _).mono ?_; rintro e w2 ⟨rfl, rfl⟩))
      go_ret
      exact ⟨ret_int (by first | rfl | (rw [if_neg (show ¬ c < 1 by omega), if_neg (fun h => hl (by omega))])), HB4⟩
  · have d1 : decide (1 ≤ nodes ∧ nodes ≤ 5) = false := decide_eq_false hn
    clear CL CM
    go_wp2_with (first
      | (go_at_call 70; refine (within_any _ _ _ _).mono ?_; rintro e w2 ⟨rfl, rfl⟩))
    go_ret
    exact ⟨ret_int (by first | rfl | (rw [if_neg (show ¬ c < 1 by omega), if_neg (fun h => hn (by omega))])), HB4⟩
end
end Go.Proofs.Ytpehhldfegjajaa.Vb

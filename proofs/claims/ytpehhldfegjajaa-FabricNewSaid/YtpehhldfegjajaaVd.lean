/-
  Classes, checks, numbers of words returned.
-/
import Derived.Test.YtpehhldfegjajaaVb
namespace Go.Proofs.Ytpehhldfegjajaa.Vd
open Go.ChangeShapes Go.WideShapes Go.ChangeAt Go.RowKit Ga Va Vb
set_option linter.unusedVariables false
set_option linter.unusedSimpArgs false
set_option maxHeartbeats 4000000
set_option maxRecDepth 10000
def ctl (k a c : Int) : Bool := decide (lstL a c < kf k)
def classC (k a c : Int) : Int := if ctl k a c = true then 1 else 2
def checkC (k a c ky bo inc door key boot : Int) : Int :=
  if ctl k a c = true ∧ k = 1 then 0 else if inc < 0 ∨ inc < door then 5 else if ctl k a c = true then 0 else if bo < 0 ∨ bo ≠ boot ∨ ky ≠ key then 5 else 0
def retC (k n : Int) (wl : Nat) : Int := if k = 2 then 0 else cnt k n wl
theorem kindR {k n : Int} {wl : Nat} (h : 1 ≤ cnt k n wl) : cntR k n wl = cnt k n wl := by
  unfold cnt at h ⊢
  unfold cntR
  by_cases e1 : k = 1
  · rw [if_pos e1, if_pos e1]
  · rw [if_neg e1] at h ⊢; rw [if_neg e1]
    by_cases e2 : k = 2
    · rw [if_pos e2, if_pos e2]
    · rw [if_neg e2] at h ⊢; rw [if_neg e2]
      by_cases e3 : k = 3 ∨ k = 4
      · rw [if_pos e3]
      · rw [if_neg e3] at h; omega
section
variable (k nd a n o ne : Int) (wa : Option Addr) (wl cp : Nat) (ky bo : Int) (w : World)
theorem class_ok (h0 : 0 ≤ a) (h1 : 1 ≤ cnt k n wl) (h2 : a + cnt k n wl ≤ 9223372036854775807) :
    Calls Try.prog 93 #[(Value.agg #[Value.int IntKind.i64 k, Value.int IntKind.i64 nd, Value.int IntKind.i64 a, Value.int IntKind.i64 n, Value.int IntKind.u64 o, Value.int IntKind.u64 ne, Value.slice wa wl cp, Value.int IntKind.u64 ky, Value.int IntKind.i64 bo])] w fun e w' => e = .returned (.int .i64 (classC k a (cnt k n wl))) ∧ Lk (Below w.heap.size w w') := by
  have CS := fun w => span_ok k nd a n o ne wa wl cp ky bo w h0 h1 h2
  have CK := keyed_any k
  generalize cnt k n wl = c at *
  have H1 : Lk (lstL a c < kf k → classC k a c = 1) := ⟨fun h => by unfold classC ctl; rw [if_pos (decide_eq_true h)]⟩
  have H2 : Lk (¬ lstL a c < kf k → classC k a c = 2) := ⟨fun h => by unfold classC ctl; rw [if_neg (by rw [decide_eq_true_iff]; exact h)]⟩
  generalize classC k a c = r at *
  generalize lstL a c = l at *
  generalize fstL a = f at *
  generalize kf k = y at *
  clear h0 h1 h2
  go_enter Try.func93, Try.ntmps93
  go_wp2_with fail
  generalize hW : w.alloc _ = W at *
  have HX := Lk.mk (Bx.alloc w k nd a n o ne wa wl cp ky bo 56)
  have HB := Lk.mk ((Below.refl _ w).alloc (Nat.le_refl _) (.cells #[Value.int IntKind.i64 k, Value.int IntKind.i64 nd, Value.int IntKind.i64 a, Value.int IntKind.i64 n, Value.int IntKind.u64 o, Value.int IntKind.u64 ne, Value.slice wa wl cp, Value.int IntKind.u64 ky, Value.int IntKind.i64 bo] 56))
  rw [hW] at HX HB
  clear hW
  refine (CS _).mono ?_
  rintro e w3 ⟨rfl, HB3⟩
  have HX3 := Lk.mk (HX.out.on HB3.out)
  have HB4 := Lk.mk (HB.out.trans (HB3.out.mono HB.out.size))
  obtain ⟨c0, c1, c2, c3, c4, c5, c6, c7, c8⟩ := HX3.out
  clear HX HB HB3 CS
  by_cases hf : l < y
  · go_wp2_with (go_at_call 80; refine (CK _).mono ?_; rintro e w2 ⟨rfl, rfl⟩)
    go_ret
    exact ⟨ret_int (H1.out hf).symm, HB4⟩
  · go_wp2_with (go_at_call 80; refine (CK _).mono ?_; rintro e w2 ⟨rfl, rfl⟩)
    go_ret
    exact ⟨ret_int (H2.out (by omega)).symm, HB4⟩
theorem check_ok (inc door key boot : Int) (h0 : 0 ≤ a) (h1 : 1 ≤ cnt k n wl) (h2 : a + cnt k n wl ≤ 9223372036854775807) (i1 : inc ≤ 9223372036854775807) (i2 : bo ≤ 9223372036854775807) :
    Calls Try.prog 82 #[(Value.agg #[Value.int IntKind.i64 k, Value.int IntKind.i64 nd, Value.int IntKind.i64 a, Value.int IntKind.i64 n, Value.int IntKind.u64 o, Value.int IntKind.u64 ne, Value.slice wa wl cp, Value.int IntKind.u64 ky, Value.int IntKind.i64 bo]), .int .i64 inc, .int .u64 door, .int .u64 key, .int .u64 boot] w fun e w' => e = .returned (.int .i64 (checkC k a (cnt k n wl) ky bo inc door key boot)) ∧ Lk (Below w.heap.size w w') := by
  have CC := fun w => class_ok k nd a n o ne wa wl cp ky bo w h0 h1 h2
  generalize cnt k n wl = c at *
  obtain ⟨q, hq⟩ : ∃ q, ctl k a c = q := ⟨_, rfl⟩
  have HQ : classC k a c = if q = true then 1 else 2 := by unfold classC; rw [hq]
  rw [HQ] at CC
  clear HQ
  have HR : Lk (checkC k a c ky bo inc door key boot = if q = true ∧ k = 1 then 0 else if inc < 0 ∨ inc < door then 5 else if q = true then 0 else if bo < 0 ∨ bo ≠ boot ∨ ky ≠ key then 5 else 0) := ⟨by unfold checkC; rw [hq]⟩
  generalize checkC k a c ky bo inc door key boot = R at *
  clear h0 h1 h2 hq
  go_enter Try.func82, Try.ntmps82
  go_wp2_with fail
  generalize hW : w.alloc _ = W at *
  have HX := Lk.mk (Bx.alloc w k nd a n o ne wa wl cp ky bo 56)
  have HB := Lk.mk ((Below.refl _ w).alloc (Nat.le_refl _) (.cells #[Value.int IntKind.i64 k, Value.int IntKind.i64 nd, Value.int IntKind.i64 a, Value.int IntKind.i64 n, Value.int IntKind.u64 o, Value.int IntKind.u64 ne, Value.slice wa wl cp, Value.int IntKind.u64 ky, Value.int IntKind.i64 bo] 56))
  rw [hW] at HX HB
  clear hW
  cases q with
  | true =>
    have CC : ∀ w, _ := CC
    simp only [if_true] at CC
    refine (CC _).mono ?_
    rintro e w3 ⟨rfl, HB3⟩
    have HX3 := Lk.mk (HX.out.on HB3.out)
    have HB4 := Lk.mk (HB.out.trans (HB3.out.mono HB.out.size))
    obtain ⟨c0, c1, c2, c3, c4, c5, c6, c7, c8⟩ := HX3.out
    clear HX HB HB3 CC
    by_cases e1 : k = 1
    · subst e1
      have hr : 0 = R := by rw [HR.out]; simp
      go_wp2; go_ret; first | exact ⟨ret_int hr, HB4⟩ | exact ⟨rfl, HB4⟩
    have ht : ¬ (true = true ∧ k = 1) := fun h => e1 h.2
    by_cases hi : inc < 0
    · have hr : Lk (5 = R) := ⟨by rw [HR.out]; rw [if_neg ht, if_pos (.inl hi)]⟩
      go_wp2; go_ret; first | exact ⟨ret_int hr.out, HB4⟩ | exact ⟨rfl, HB4⟩
    by_cases hd : inc < door
    · have hr : Lk (5 = R) := ⟨by rw [HR.out]; rw [if_neg ht, if_pos (.inr hd)]⟩
      go_wp2; go_ret; first | exact ⟨ret_int hr.out, HB4⟩ | exact ⟨rfl, HB4⟩
    have hn : ¬ (inc < 0 ∨ inc < door) := by omega
    have hr : 0 = R := by rw [HR.out, if_neg ht, if_neg hn, if_pos rfl]
    go_wp2; go_ret; first | exact ⟨ret_int hr, HB4⟩ | exact ⟨rfl, HB4⟩
  | false =>
    have CC : ∀ w, _ := CC
    simp only [Bool.false_eq_true, if_false] at CC
    refine (CC _).mono ?_
    rintro e w3 ⟨rfl, HB3⟩
    have HX3 := Lk.mk (HX.out.on HB3.out)
    have HB4 := Lk.mk (HB.out.trans (HB3.out.mono HB.out.size))
    obtain ⟨c0, c1, c2, c3, c4, c5, c6, c7, c8⟩ := HX3.out
    clear HX HB HB3 CC
    have ht : ¬ (false = true ∧ k = 1) := fun h => by cases h.1
    have hf : ¬ (false = true) := fun h => by cases h
    by_cases hi : inc < 0
    · have hr : Lk (5 = R) := ⟨by rw [HR.out]; rw [if_neg ht, if_pos (.inl hi)]⟩
      go_wp2; go_ret; first | exact ⟨ret_int hr.out, HB4⟩ | exact ⟨rfl, HB4⟩
    by_cases hd : inc < door
    · have hr : Lk (5 = R) := ⟨by rw [HR.out]; rw [if_neg ht, if_pos (.inr hd)]⟩
      go_wp2; go_ret; first | exact ⟨ret_int hr.out, HB4⟩ | exact ⟨rfl, HB4⟩
    have hn : ¬ (inc < 0 ∨ inc < door) := by omega
    by_cases b1 : bo < 0
    · have hr : Lk (5 = R) := ⟨by rw [HR.out]; rw [if_neg ht, if_neg hn, if_neg hf, if_pos (.inl b1)]⟩
      go_wp2; go_ret; first | exact ⟨ret_int hr.out, HB4⟩ | exact ⟨rfl, HB4⟩
    by_cases b2 : bo = boot
    · subst b2
      by_cases b3 : ky = key
      · subst b3
        · have hr : Lk (0 = R) := ⟨by rw [HR.out]; rw [if_neg ht, if_neg hn, if_neg hf, if_neg (by omega)]⟩
          go_wp2; go_ret; first | exact ⟨ret_int hr.out, HB4⟩ | exact ⟨rfl, HB4⟩
      have b4 : (ky != key) = true := bne_iff_ne.2 b3
      · have hr : Lk (5 = R) := ⟨by rw [HR.out]; rw [if_neg ht, if_neg hn, if_neg hf, if_pos (.inr (.inr b3))]⟩
        go_wp2; go_ret; first | exact ⟨ret_int hr.out, HB4⟩ | exact ⟨rfl, HB4⟩
    · have hr : Lk (5 = R) := ⟨by rw [HR.out]; rw [if_neg ht, if_neg hn, if_neg hf, if_pos (.inr (.inl b2))]⟩
      go_wp2; go_ret; first | exact ⟨ret_int hr.out, HB4⟩ | exact ⟨rfl, HB4⟩
end
end Go.Proofs.Ytpehhldfegjajaa.Vd

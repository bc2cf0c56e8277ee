/-
  The reference's Valid.
-/
import Derived.Test.YtacfmkmiikkppaaVb
namespace Go.Proofs.Ytacfmkmiikkppaa.Vc
open Go.ChangeShapes Go.WideShapes Go.ChangeAt Go.RowKit Ga Va Vb
set_option linter.unusedVariables false
set_option linter.unusedSimpArgs false
set_option maxHeartbeats 4000000
set_option maxRecDepth 10000
theorem below_drewN {B : Nat} {w w' : World} (h : Below B w w') (m : Nat) : Below B w (w'.drewN m) := ⟨h.os, h.tape, h.output, h.size, h.block⟩
section
variable (k nd a n o ne : Int) (wa : Option Addr) (wl cp : Nat) (ky bo : Int) (w : World)
theorem validR_early (nodes lines : Int) (hk : cnt k n wl < 1) :
    Calls Try.prog 66 #[(Value.agg #[Value.int IntKind.i64 k, Value.int IntKind.i64 nd, Value.int IntKind.i64 a, Value.int IntKind.i64 n, Value.int IntKind.u64 o, Value.int IntKind.u64 ne, Value.slice wa wl cp, Value.int IntKind.u64 ky, Value.int IntKind.i64 bo]), .int .i64 nodes, .int .i64 lines] w fun e w' => e = .returned (.int .i64 1) ∧ Lk (Below w.heap.size w w') := by
  unfold cnt at hk
  have HB := Lk.mk ((Below.refl _ w).alloc (Nat.le_refl _) (.cells #[Value.int IntKind.i64 k, Value.int IntKind.i64 nd, Value.int IntKind.i64 a, Value.int IntKind.i64 n, Value.int IntKind.u64 o, Value.int IntKind.u64 ne, Value.slice wa wl cp, Value.int IntKind.u64 ky, Value.int IntKind.i64 bo] 52))
  go_enter Try.func66, Try.ntmps66
  by_cases h1 : k < 1
  · clear hk; go_wp2; go_ret; exact ⟨rfl, HB⟩
  by_cases h4 : 4 < k
  · clear hk; go_wp2; go_ret; exact ⟨rfl, HB⟩
  by_cases e1 : k = 1
  · rw [if_pos e1] at hk
    subst e1
    go_wp2; go_ret; exact ⟨rfl, HB⟩
  · rw [if_neg e1] at hk
    by_cases e2 : k = 2
    · rw [if_pos e2] at hk
      subst e2
      go_wp2; go_ret; exact ⟨rfl, HB⟩
    · rw [if_neg e2, if_pos (by omega)] at hk
      omega
theorem validR_late (nodes lines : Int) (k1 : 1 ≤ k) (k4 : k ≤ 4) (hn : k = 1 → 1 ≤ n) (hw : k = 2 → 1 ≤ wl) (hc2 : cntR k n wl ≤ 9223372036854775807) :
    Calls Try.prog 66 #[(Value.agg #[Value.int IntKind.i64 k, Value.int IntKind.i64 nd, Value.int IntKind.i64 a, Value.int IntKind.i64 n, Value.int IntKind.u64 o, Value.int IntKind.u64 ne, Value.slice wa wl cp, Value.int IntKind.u64 ky, Value.int IntKind.i64 bo]), .int .i64 nodes, .int .i64 lines] w fun e w' => e = .returned (.int .i64 (validC k nd a (cntR k n wl) nodes lines)) ∧ Lk (Below w.heap.size w w') := by
  have CC := fun w => countR_any k nd a n o ne wa wl cp ky bo w
  have h1 : 1 ≤ cntR k n wl := by
    unfold cntR; split
    · exact hn ‹_›
    · split
      · have := hw ‹_›; omega
      · omega
  generalize cntR k n wl = c at *
  have V2 : (nodes < 1 ∨ 5 < nodes ∨ lines < 1 ∨ 256 < lines ∨ nd < 0 ∨ nodes ≤ nd ∨ liesB a c lines = false ∨ mixB k a c = true) → validC k nd a c nodes lines = 2 := by
    intro h
    unfold validC
    rw [if_neg (by omega), if_neg]
    intro h'
    rw [h'.2.2.2.2.2.2.1, h'.2.2.2.2.2.2.2] at h
    rcases h with h | h | h | h | h | h | h | h
    · omega
    · omega
    · omega
    · omega
    · omega
    · omega
    · cases h
    · cases h
  go_enter Try.func66, Try.ntmps66
  have V2 := Lk.mk V2
  go_upto_region 1 with fail
  have HX := Lk.mk (Bx.alloc w k nd a n o ne wa wl cp ky bo 52)
  have HB := Lk.mk ((Below.refl _ w).alloc (Nat.le_refl _) (.cells #[Value.int IntKind.i64 k, Value.int IntKind.i64 nd, Value.int IntKind.i64 a, Value.int IntKind.i64 n, Value.int IntKind.u64 o, Value.int IntKind.u64 ne, Value.slice wa wl cp, Value.int IntKind.u64 ky, Value.int IntKind.i64 bo] 52))
  generalize hW : w.alloc _ = W at *
  clear hW
  go_cut [38] (fun x W' => x = .bool false ∧ W' = W)
  case first =>
    clear CC V2
    obtain ⟨c0, c1, c2, c3, c4, c5, c6, c7, c8⟩ := HX.out
    clear HX
    by_cases e1 : k = 1
    · have hn := hn e1
      clear hw
      subst e1
      go_wp2_with fail
      go_meet
      first | exact ⟨rfl, rfl⟩ | exact ⟨congrArg Value.bool (decide_eq_false (by omega)), rfl⟩ | exact ⟨congrArg Value.bool (by simp <;> omega), rfl⟩
    by_cases e2 : k = 2
    · have hw := hw e2
      clear hn
      subst e2
      go_wp2
      go_meet
      first | exact ⟨rfl, rfl⟩ | exact ⟨congrArg Value.bool (decide_eq_false (by omega)), rfl⟩ | exact ⟨congrArg Value.bool (by simp <;> omega), rfl⟩
    clear hn hw
    go_wp2
    go_meet
    first | exact ⟨rfl, rfl⟩ | exact ⟨congrArg Value.bool (decide_eq_false (by omega)), rfl⟩ | exact ⟨congrArg Value.bool (by simp <;> omega), rfl⟩
  case rest =>
    obtain ⟨rfl, rfl⟩ := hcut
    clear hn hw
    obtain ⟨c0, c1, c2, c3, c4, c5, c6, c7, c8⟩ := HX.out
    go_wp2_with fail
    clear c0 c1 c2 c3 c4 c5 c6 c7 c8
    refine (CC _).mono ?_
    rintro e w3 ⟨rfl, HB3⟩
    have HX3 := Lk.mk (HX.out.on HB3.out)
    have HB4 := Lk.mk (HB.out.trans (HB3.out.mono HB.out.size))
    obtain ⟨c0, c1, c2, c3, c4, c5, c6, c7, c8⟩ := HX3.out
    clear HX HX3 HB HB3 CC c3 c4 c5 c6 c7 c8
    by_cases d0 : nodes < 1
    · go_wp2; go_ret; exact ⟨ret_int (V2.out (.inl d0)).symm, HB4⟩
    by_cases d1 : 5 < nodes
    · go_wp2; go_ret; exact ⟨ret_int (V2.out (.inr (.inl d1))).symm, HB4⟩
    by_cases d2 : lines < 1
    · go_wp2; go_ret; exact ⟨ret_int (V2.out (.inr (.inr (.inl d2)))).symm, HB4⟩
    by_cases d3 : 256 < lines
    · go_wp2; go_ret; exact ⟨ret_int (V2.out (.inr (.inr (.inr (.inl d3))))).symm, HB4⟩
    by_cases d4 : nd < 0
    · go_wp2; go_ret; exact ⟨ret_int (V2.out (.inr (.inr (.inr (.inr (.inl d4)))))).symm, HB4⟩
    by_cases d5 : nodes ≤ nd
    · go_wp2; go_ret; exact ⟨ret_int (V2.out (.inr (.inr (.inr (.inr (.inr (.inl d5))))))).symm, HB4⟩
    have LF : Lk (¬ (0 ≤ a ∧ a + c ≤ 8 * lines ∧ (a + c - 1) / 8 - a / 8 < 128) → liesB a c lines = false) := ⟨fun h => by unfold liesB lstL fstL; exact decide_eq_false h⟩
    by_cases d6 : a < 0
    · go_wp2; go_ret; exact ⟨ret_int (V2.out (.inr (.inr (.inr (.inr (.inr (.inr (.inl (LF.out (by omega)))))))))).symm, HB4⟩
    by_cases d7 : lines * 8 ≤ a
    · go_wp2; go_ret; exact ⟨ret_int (V2.out (.inr (.inr (.inr (.inr (.inr (.inr (.inl (LF.out (by omega)))))))))).symm, HB4⟩
    by_cases d8 : 1024 < c
    · go_wp2; go_ret; exact ⟨ret_int (V2.out (.inr (.inr (.inr (.inr (.inr (.inr (.inl (LF.out (by omega)))))))))).symm, HB4⟩
    have f0 : 0 ≤ a / 8 := by omega
    have f1 : a / 8 ≤ (a + c - 1) / 8 := by omega
    have l1 : (a + c - 1) / 8 ≤ 100000 := by omega
    have l2 : (a + c ≤ 8 * lines) = ((a + c - 1) / 8 < lines) := by rw [eq_iff_iff]; omega
    rw [l2] at LF
    have q2 : Int.tdiv (a + c - 1) 8 = (a + c - 1) / 8 := Int.tdiv_eq_ediv_of_nonneg (by omega)
    have q1 : Int.tdiv a 8 = a / 8 := Int.tdiv_eq_ediv_of_nonneg (by omega)
    have hat : 0 ≤ a := by omega
    have LT : Lk (0 ≤ a ∧ (a + c - 1) / 8 < lines ∧ (a + c - 1) / 8 - a / 8 < 128 → liesB a c lines = true) := ⟨fun h => by unfold liesB lstL fstL; exact decide_eq_true ⟨h.1, by rw [l2]; exact h.2.1, h.2.2⟩⟩
    have M : Lk (mixB k a c = decide (a / 8 < kf k ∧ kf k ≤ (a + c - 1) / 8)) := ⟨rfl⟩
    have w1 : IntKind.i64.wrap (a / 8) = a / 8 := IntWalk.i64_in _ (by omega)
    have w2 : IntKind.i64.wrap (a + c) = a + c := IntWalk.i64_in _ (by omega)
    have w3 : IntKind.i64.wrap (a + c - 1) = a + c - 1 := IntWalk.i64_in _ (by omega)
    have w4 : IntKind.i64.wrap ((a + c - 1) / 8) = (a + c - 1) / 8 := IntWalk.i64_in _ (by omega)
    clear l2
    go_wp2_with fail
    go_quiet (fail)
    clear w1 w2 w3 w4 q1 q2
    have HB5 := Lk.mk (below_drewN HB4.out nq)
    have c0 : (w3.drewN nq).cell? ⟨w.heap.size, 0, none⟩ = some (.int .i64 k) := c0
    clear HB4 c1 c2
    generalize w3.drewN nq = W4 at *
    have LI : Lk ((a + c - 1) / 8 < lines → (a + c - 1) / 8 - a / 8 < 128 → liesB a c lines = true) := Lk.mk (fun (h1 : (a + c - 1) / 8 < lines) (h2 : (a + c - 1) / 8 - a / 8 < 128) => LT.out ⟨hat, h1, h2⟩)
    have LO := Lk.mk (fun (h : ¬ ((a + c - 1) / 8 < lines ∧ (a + c - 1) / 8 - a / 8 < 128)) => V2.out (.inr (.inr (.inr (.inr (.inr (.inr (.inl (LF.out (fun h' => h h'.2))))))))))
    have MO := Lk.mk (fun h => V2.out (.inr (.inr (.inr (.inr (.inr (.inr (.inr h))))))))
    have VO : Lk (liesB a c lines = true → mixB k a c = false → validC k nd a c nodes lines = 0) := ⟨fun x y => by
      unfold validC
      rw [if_neg (by omega), if_pos ⟨by omega, by omega, by omega, by omega, by omega, by omega, x, y⟩]⟩
    clear V2 LT LF d0 d1 d2 d3 d4 d5 d6 d7 d8
    generalize a / 8 = f at *
    generalize (a + c - 1) / 8 = l at *
    by_cases g1 : lines ≤ l
    · go_wp2; go_ret; exact ⟨ret_int (LO.out (by omega)).symm, HB5⟩
    by_cases g2 : 128 < l - f + 1
    · go_wp2; go_ret; exact ⟨ret_int (LO.out (by omega)).symm, HB5⟩
    have L0 := Lk.mk (LI.out (by omega) (by omega))
    by_cases g3 : f < kf k ∧ kf k ≤ l
    · have := MO.out (M.out.trans (decide_eq_true g3))
      unfold kf at g3
      by_cases e1 : k = 1
      · rw [if_pos e1] at g3
        subst e1
        go_wp2; go_ret; first | exact ⟨rfl, HB5⟩ | exact ⟨ret_int this.symm, HB5⟩
      · rw [if_neg e1] at g3
        go_wp2; go_ret; first | exact ⟨rfl, HB5⟩ | exact ⟨ret_int this.symm, HB5⟩
    · have := VO.out L0.out (M.out.trans (decide_eq_false g3))
      unfold kf at g3
      by_cases e1 : k = 1
      · rw [if_pos e1] at g3
        subst e1
        by_cases g4 : f ≤ 3
        · have g5 : l ≤ 3 := by omega
          go_wp2; go_ret; first | exact ⟨rfl, HB5⟩ | exact ⟨ret_int this.symm, HB5⟩
        · go_wp2; go_ret; first | exact ⟨rfl, HB5⟩ | exact ⟨ret_int this.symm, HB5⟩
      · rw [if_neg e1] at g3
        by_cases g4 : f < 3
        · have g5 : l < 3 := by omega
          go_wp2; go_ret; first | exact ⟨rfl, HB5⟩ | exact ⟨ret_int this.symm, HB5⟩
        · go_wp2; go_ret; first | exact ⟨rfl, HB5⟩ | exact ⟨ret_int this.symm, HB5⟩
theorem validR_ok (nodes lines : Int) (hc2 : cnt k n wl ≤ 9223372036854775807) :
    Calls Try.prog 66 #[(Value.agg #[Value.int IntKind.i64 k, Value.int IntKind.i64 nd, Value.int IntKind.i64 a, Value.int IntKind.i64 n, Value.int IntKind.u64 o, Value.int IntKind.u64 ne, Value.slice wa wl cp, Value.int IntKind.u64 ky, Value.int IntKind.i64 bo]), .int .i64 nodes, .int .i64 lines] w fun e w' => e = .returned (.int .i64 (validC k nd a (cnt k n wl) nodes lines)) ∧ Lk (Below w.heap.size w w') := by
  by_cases h : cnt k n wl < 1
  · refine (validR_early k nd a n o ne wa wl cp ky bo w nodes lines h).mono ?_
    rintro e w' ⟨rfl, hb⟩
    exact ⟨ret_int (by unfold validC; rw [if_pos h]), hb⟩
  · have hk : 1 ≤ k ∧ k ≤ 4 ∧ cntR k n wl = cnt k n wl ∧ (k = 1 → 1 ≤ n) ∧ (k = 2 → 1 ≤ wl) := by
      unfold cnt at h ⊢
      unfold cntR
      by_cases e1 : k = 1
      · rw [if_pos e1] at h ⊢; rw [if_pos e1]; refine ⟨by omega, by omega, rfl, fun _ => by omega, fun _ => by omega⟩
      · rw [if_neg e1] at h ⊢; rw [if_neg e1]
        by_cases e2 : k = 2
        · rw [if_pos e2] at h ⊢; rw [if_pos e2]; refine ⟨by omega, by omega, rfl, fun _ => by omega, fun _ => by omega⟩
        · rw [if_neg e2] at h ⊢; rw [if_neg e2]
          by_cases e3 : k = 3 ∨ k = 4
          · rw [if_pos e3]; refine ⟨by omega, by omega, rfl, fun _ => by omega, fun _ => by omega⟩
          · rw [if_neg e3] at h; omega
    have := validR_late k nd a n o ne wa wl cp ky bo w nodes lines hk.1 hk.2.1 hk.2.2.2.1 hk.2.2.2.2 (by rw [hk.2.2.1]; exact hc2)
    rwa [hk.2.2.1] at this
end
end Go.Proofs.Ytacfmkmiikkppaa.Vc

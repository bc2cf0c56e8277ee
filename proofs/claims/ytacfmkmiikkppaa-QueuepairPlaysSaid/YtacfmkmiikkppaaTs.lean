/-
  When two verbs are the same, for the reference.
-/
import Derived.Test.YtacfmkmiikkppaaTg
import Derived.Test.YtacfmkmiikkppaaVsw
namespace Go.Proofs.Ytacfmkmiikkppaa.Ts
open Go.ChangeShapes Go.WideShapes Go.ChangeAt Go.RowKit Ga Va Vb Vs
set_option linter.unusedVariables false
set_option linter.unusedSimpArgs false
set_option maxHeartbeats 4000000
set_option maxRecDepth 10000
/-- The fields of a verb that are compared. -/
structure Vv where
  k : Int
  nd : Int
  a : Int
  n : Int
  o : Int
  ne : Int
  ky : Int
  bo : Int
  s : List Nat
def sameB (v u : Vv) : Bool := decide (v.k = u.k ∧ v.nd = u.nd ∧ v.a = u.a ∧ v.ky = u.ky ∧ v.bo = u.bo ∧
  (v.k = 1 → v.n = u.n) ∧ (v.k = 2 → v.s = u.s) ∧ (v.k = 3 → v.o = u.o ∧ v.ne = u.ne) ∧ (v.k = 4 → v.ne = u.ne) ∧ (¬ v.k = 1 → ¬ v.k = 2 → ¬ v.k = 3 → ¬ v.k = 4 → v.n = u.n ∧ v.o = u.o ∧ v.ne = u.ne ∧ v.s = u.s))
theorem sameB_self (v : Vv) : sameB v v = true := by unfold sameB; exact decide_eq_true ⟨rfl, rfl, rfl, rfl, rfl, fun _ => rfl, fun _ => rfl, fun _ => ⟨rfl, rfl⟩, fun _ => rfl, fun _ _ _ _ => ⟨rfl, rfl, rfl, rfl⟩⟩
section
variable (k nd a n o ne : Int) (A : Option Addr) (l c : Nat) (ky bo : Int) (s : List Nat) (k' nd' a' n' o' ne' : Int) (A' : Option Addr) (l' c' : Nat) (ky' bo' : Int) (s' : List Nat) (w : World)
theorem SameR_any (h1 : s.length = l) (h2 : s'.length = l') (H1 : Lk (Lies .u64 w w.heap.size A s)) (H2 : Lk (Lies .u64 w w.heap.size A' s')) (hm : l ≤ 4294967296) (hm2 : l' ≤ 4294967296) :
    Calls Try.prog 74 #[(Value.agg #[Value.int IntKind.i64 k, Value.int IntKind.i64 nd, Value.int IntKind.i64 a, Value.int IntKind.i64 n, Value.int IntKind.u64 o, Value.int IntKind.u64 ne, Value.slice A l c, Value.int IntKind.u64 ky, Value.int IntKind.i64 bo]), (Value.agg #[Value.int IntKind.i64 k', Value.int IntKind.i64 nd', Value.int IntKind.i64 a', Value.int IntKind.i64 n', Value.int IntKind.u64 o', Value.int IntKind.u64 ne', Value.slice A' l' c', Value.int IntKind.u64 ky', Value.int IntKind.i64 bo'])] w fun e w' => e = .returned (.bool (sameB ⟨k, nd, a, n, o, ne, ky, bo, s⟩ ⟨k', nd', a', n', o', ne', ky', bo', s'⟩)) ∧ Lk (Below w.heap.size w w') := by
  have EQ := fun w H1 H2 => same_any A A' l c l' c' s s' w h1 h2 H1 H2 hm hm2
  have HR := Lk.mk (show ((k = k' ∧ nd = nd' ∧ a = a' ∧ ky = ky' ∧ bo = bo' ∧ (k = 1 → n = n') ∧ (k = 2 → s = s') ∧ (k = 3 → o = o' ∧ ne = ne') ∧ (k = 4 → ne = ne') ∧ (¬ k = 1 → ¬ k = 2 → ¬ k = 3 → ¬ k = 4 → n = n' ∧ o = o' ∧ ne = ne' ∧ s = s')) → sameB ⟨k, nd, a, n, o, ne, ky, bo, s⟩ ⟨k', nd', a', n', o', ne', ky', bo', s'⟩ = true) ∧
      (¬ (k = k' ∧ nd = nd' ∧ a = a' ∧ ky = ky' ∧ bo = bo' ∧ (k = 1 → n = n') ∧ (k = 2 → s = s') ∧ (k = 3 → o = o' ∧ ne = ne') ∧ (k = 4 → ne = ne') ∧ (¬ k = 1 → ¬ k = 2 → ¬ k = 3 → ¬ k = 4 → n = n' ∧ o = o' ∧ ne = ne' ∧ s = s')) → sameB ⟨k, nd, a, n, o, ne, ky, bo, s⟩ ⟨k', nd', a', n', o', ne', ky', bo', s'⟩ = false) from ⟨fun h => decide_eq_true h, fun h => decide_eq_false h⟩)
  generalize sameB _ _ = R at *
  clear h1 h2 hm hm2
  go_enter Try.func74, Try.ntmps74
  go_upto_region 1 with fail
  have HB0 := Lk.mk (((Below.refl _ w).alloc (Nat.le_refl _) (.cells #[Value.int IntKind.i64 k, Value.int IntKind.i64 nd, Value.int IntKind.i64 a, Value.int IntKind.i64 n, Value.int IntKind.u64 o, Value.int IntKind.u64 ne, Value.slice A l c, Value.int IntKind.u64 ky, Value.int IntKind.i64 bo] 52)))
  have HX0 := Lk.mk (Bx.alloc w k nd a n o ne A l c ky bo 52)
  have hs1 : (w.alloc (.cells #[Value.int IntKind.i64 k, Value.int IntKind.i64 nd, Value.int IntKind.i64 a, Value.int IntKind.i64 n, Value.int IntKind.u64 o, Value.int IntKind.u64 ne, Value.slice A l c, Value.int IntKind.u64 ky, Value.int IntKind.i64 bo] 52)).heap.size = w.heap.size + 1 := by simp
  generalize w.alloc _ = w1 at *
  have HB1 := Lk.mk (HB0.out.alloc HB0.out.size (.cells #[Value.int IntKind.i64 k', Value.int IntKind.i64 nd', Value.int IntKind.i64 a', Value.int IntKind.i64 n', Value.int IntKind.u64 o', Value.int IntKind.u64 ne', Value.slice A' l' c', Value.int IntKind.u64 ky', Value.int IntKind.i64 bo'] 52))
  have HX1 := Lk.mk (HX0.out.on ((Below.refl _ w1).alloc (Nat.le_refl _) (.cells #[Value.int IntKind.i64 k', Value.int IntKind.i64 nd', Value.int IntKind.i64 a', Value.int IntKind.i64 n', Value.int IntKind.u64 o', Value.int IntKind.u64 ne', Value.slice A' l' c', Value.int IntKind.u64 ky', Value.int IntKind.i64 bo'] 52)))
  have HX2 := Lk.mk (Bx.alloc w1 k' nd' a' n' o' ne' A' l' c' ky' bo' 52)
  generalize w1.alloc _ = W at *
  rw [hs1] at HX2
  clear hs1
  have EQ := EQ W (show Lk _ from ⟨(H1.out.below HB1.out).more HB1.out.size⟩) (show Lk _ from ⟨(H2.out.below HB1.out).more HB1.out.size⟩)
  clear HB0 HX0 H1 H2
  obtain ⟨x0, x1, x2, x3, x4, x5, x6, x7, x8⟩ := HX1.out
  obtain ⟨y0, y1, y2, y3, y4, y5, y6, y7, y8⟩ := HX2.out
  clear HX1 HX2
  by_cases hk : k = k'
  rotate_left
  · have hr := Lk.mk (HR.out.2 (fun h => hk (h.1)))
    have hb1 : (k != k') = true := bne_iff_ne.2 hk
    have hb2 : (k == k') = false := beq_eq_false_iff_ne.2 hk
    go_wp2; go_ret; first | exact ⟨rfl, HB1⟩ | exact ⟨ret_bool hr.out.symm, HB1⟩
  subst hk
  by_cases hnd : nd = nd'
  rotate_left
  · have hr := Lk.mk (HR.out.2 (fun h => hnd (h.2.1)))
    have hb1 : (nd != nd') = true := bne_iff_ne.2 hnd
    have hb2 : (nd == nd') = false := beq_eq_false_iff_ne.2 hnd
    go_wp2; go_ret; first | exact ⟨rfl, HB1⟩ | exact ⟨ret_bool hr.out.symm, HB1⟩
  subst hnd
  by_cases ha : a = a'
  rotate_left
  · have hr := Lk.mk (HR.out.2 (fun h => ha (h.2.2.1)))
    have hb1 : (a != a') = true := bne_iff_ne.2 ha
    have hb2 : (a == a') = false := beq_eq_false_iff_ne.2 ha
    go_wp2; go_ret; first | exact ⟨rfl, HB1⟩ | exact ⟨ret_bool hr.out.symm, HB1⟩
  subst ha
  by_cases hky : ky = ky'
  rotate_left
  · have hr := Lk.mk (HR.out.2 (fun h => hky (h.2.2.2.1)))
    have hb1 : (ky != ky') = true := bne_iff_ne.2 hky
    have hb2 : (ky == ky') = false := beq_eq_false_iff_ne.2 hky
    go_wp2; go_ret; first | exact ⟨rfl, HB1⟩ | exact ⟨ret_bool hr.out.symm, HB1⟩
  subst hky
  by_cases hbo : bo = bo'
  rotate_left
  · have hr := Lk.mk (HR.out.2 (fun h => hbo (h.2.2.2.2.1)))
    have hb1 : (bo != bo') = true := bne_iff_ne.2 hbo
    have hb2 : (bo == bo') = false := beq_eq_false_iff_ne.2 hbo
    go_wp2; go_ret; first | exact ⟨rfl, HB1⟩ | exact ⟨ret_bool hr.out.symm, HB1⟩
  subst hbo
  by_cases hk1 : k = 1
  · subst hk1
    by_cases hn : n = n'
    rotate_left
    · have hr := Lk.mk (HR.out.2 (fun h => hn (h.2.2.2.2.2.1 rfl)))
      have hb1 : (n != n') = true := bne_iff_ne.2 hn
      have hb2 : (n == n') = false := beq_eq_false_iff_ne.2 hn
      go_wp2; go_ret; first | exact ⟨rfl, HB1⟩ | exact ⟨ret_bool hr.out.symm, HB1⟩
    subst hn
    have hr := Lk.mk (HR.out.1 ⟨rfl, rfl, rfl, rfl, rfl, fun _ => rfl, fun h => by omega, fun h => by omega, fun h => by omega, fun h => absurd rfl h⟩)
    go_wp2; go_ret; first | exact ⟨rfl, HB1⟩ | exact ⟨ret_bool hr.out.symm, HB1⟩
  by_cases hk2 : k = 2
  · subst hk2
    have hr := Lk.mk (show decide (s = s') = R by
      by_cases hs : s = s'
      · rw [decide_eq_true hs, HR.out.1 ⟨rfl, rfl, rfl, rfl, rfl, fun h => by omega, fun _ => hs, fun h => by omega, fun h => by omega, fun _ h => absurd rfl h⟩]
      · rw [decide_eq_false hs, HR.out.2 (fun h => hs (h.2.2.2.2.2.2.1 rfl))])
    go_wp2_with fail
    refine EQ.mono ?_
    rintro e w4 ⟨rfl, HB4⟩
    have HB5 := Lk.mk (HB1.out.trans (HB4.out.mono HB1.out.size))
    go_wp2; go_ret; first | exact ⟨ret_bool hr.out, HB5⟩ | exact ⟨rfl, HB5⟩
  by_cases hk3 : k = 3
  · subst hk3
    by_cases ho : o = o'
    rotate_left
    · have hr := Lk.mk (HR.out.2 (fun h => ho ((h.2.2.2.2.2.2.2.1 rfl).1)))
      have hb1 : (o != o') = true := bne_iff_ne.2 ho
      have hb2 : (o == o') = false := beq_eq_false_iff_ne.2 ho
      go_wp2; go_ret; first | exact ⟨rfl, HB1⟩ | exact ⟨ret_bool hr.out.symm, HB1⟩
    subst ho
    by_cases hne : ne = ne'
    rotate_left
    · have hr := Lk.mk (HR.out.2 (fun h => hne ((h.2.2.2.2.2.2.2.1 rfl).2)))
      have hb1 : (ne != ne') = true := bne_iff_ne.2 hne
      have hb2 : (ne == ne') = false := beq_eq_false_iff_ne.2 hne
      go_wp2; go_ret; first | exact ⟨rfl, HB1⟩ | exact ⟨ret_bool hr.out.symm, HB1⟩
    subst hne
    have hr := Lk.mk (HR.out.1 ⟨rfl, rfl, rfl, rfl, rfl, fun h => by omega, fun h => by omega, fun _ => ⟨rfl, rfl⟩, fun h => by omega, fun _ _ h => absurd rfl h⟩)
    go_wp2; go_ret; first | exact ⟨rfl, HB1⟩ | exact ⟨ret_bool hr.out.symm, HB1⟩
  by_cases hk4 : k = 4
  · subst hk4
    by_cases hne : ne = ne'
    rotate_left
    · have hr := Lk.mk (HR.out.2 (fun h => hne (h.2.2.2.2.2.2.2.2.1 rfl)))
      have hb1 : (ne != ne') = true := bne_iff_ne.2 hne
      have hb2 : (ne == ne') = false := beq_eq_false_iff_ne.2 hne
      go_wp2; go_ret; first | exact ⟨rfl, HB1⟩ | exact ⟨ret_bool hr.out.symm, HB1⟩
    subst hne
    have hr := Lk.mk (HR.out.1 ⟨rfl, rfl, rfl, rfl, rfl, fun h => by omega, fun h => by omega, fun h => by omega, fun _ => rfl, fun _ _ _ h => absurd rfl h⟩)
    go_wp2; go_ret; first | exact ⟨rfl, HB1⟩ | exact ⟨ret_bool hr.out.symm, HB1⟩
  by_cases hn : n = n'
  rotate_left
  · have hr := Lk.mk (HR.out.2 (fun h => hn ((h.2.2.2.2.2.2.2.2.2 hk1 hk2 hk3 hk4).1)))
    have hb1 : (n != n') = true := bne_iff_ne.2 hn
    have hb2 : (n == n') = false := beq_eq_false_iff_ne.2 hn
    go_wp2; go_ret; first | exact ⟨rfl, HB1⟩ | exact ⟨ret_bool hr.out.symm, HB1⟩
  subst hn
  by_cases ho : o = o'
  rotate_left
  · have hr := Lk.mk (HR.out.2 (fun h => ho ((h.2.2.2.2.2.2.2.2.2 hk1 hk2 hk3 hk4).2.1)))
    have hb1 : (o != o') = true := bne_iff_ne.2 ho
    have hb2 : (o == o') = false := beq_eq_false_iff_ne.2 ho
    go_wp2; go_ret; first | exact ⟨rfl, HB1⟩ | exact ⟨ret_bool hr.out.symm, HB1⟩
  subst ho
  by_cases hne : ne = ne'
  rotate_left
  · have hr := Lk.mk (HR.out.2 (fun h => hne ((h.2.2.2.2.2.2.2.2.2 hk1 hk2 hk3 hk4).2.2.1)))
    have hb1 : (ne != ne') = true := bne_iff_ne.2 hne
    have hb2 : (ne == ne') = false := beq_eq_false_iff_ne.2 hne
    go_wp2; go_ret; first | exact ⟨rfl, HB1⟩ | exact ⟨ret_bool hr.out.symm, HB1⟩
  subst hne
  have hr := Lk.mk (show decide (s = s') = R by
    by_cases hs : s = s'
    · rw [decide_eq_true hs, HR.out.1 ⟨rfl, rfl, rfl, rfl, rfl, fun h => absurd h hk1, fun h => absurd h hk2, fun h => absurd h hk3, fun h => absurd h hk4, fun _ _ _ _ => ⟨rfl, rfl, rfl, hs⟩⟩]
    · rw [decide_eq_false hs, HR.out.2 (fun h => hs ((h.2.2.2.2.2.2.2.2.2 hk1 hk2 hk3 hk4).2.2.2))])
  go_wp2_with fail
  refine EQ.mono ?_
  rintro e w4 ⟨rfl, HB4⟩
  have HB5 := Lk.mk (HB1.out.trans (HB4.out.mono HB1.out.size))
  go_wp2; go_ret; first | exact ⟨ret_bool hr.out, HB5⟩ | exact ⟨rfl, HB5⟩
end
end Go.Proofs.Ytacfmkmiikkppaa.Ts

/-
  The reference's Step at an empty queue.
-/
import Derived.Test.YtacfmkmiikkppaaQj
namespace Go.Proofs.Ytacfmkmiikkppaa.Qk
open Go.ChangeShapes Go.WideShapes Go.ChangeAt Go.RowKit Ga Gb Na Qd Qj
set_option linter.unusedVariables false
set_option linter.unusedSimpArgs false
set_option maxHeartbeats 4000000
set_option maxRecDepth 100000
theorem refStep_empty (F : Nat → Prop) (b : Nat) (cl inc nd : Int) (Q : Value) (N : Value) (w : World) (HR : Lk (RP F w b cl inc nd Q [])) :
    Calls Try.prog 36 #[.pointer (some ⟨b, 0, none⟩), N] w fun e w' => e = .returned (.tuple #[.agg #[.int .i64 0, .slice none 0 0], .int .i64 (-1), .bool false, .bool false]) ∧ Lk (Below w.heap.size w w') := by
  obtain ⟨A, c, hQ⟩ := own_slice HR.out.own
  subst hQ
  go_enter Try.func36, Try.ntmps36
  go_upto_region 1 with fail
  have hB0 := (Below.refl _ w).alloc (Nat.le_refl _) (.cells #[.int .i64 0, .slice none 0 0] 54)
  have HR0 := Lk.mk (HR.out.below hB0)
  have HB0 := Lk.mk hB0
  have HZ0 := Lk.mk (heap_alloc_new w (.cells #[.int .i64 0, .slice none 0 0] 54))
  clear hB0
  generalize w.alloc _ = W0 at *
  have p3 := HR0.out.c3
  have z0 := (cell_of_row W0 w.heap.size 0 _ _ _ HZ0.out).trans rfl
  have z1 := (cell_of_row W0 w.heap.size 1 _ _ _ HZ0.out).trans rfl
  have g0 := frozen_of_row W0 w.heap.size 0 _ _ HZ0.out
  have g1 := frozen_of_row W0 w.heap.size 1 _ _ HZ0.out
  simp only [List.length_nil] at p3
  go_wp2
  have HZ8 : ((W0.setCell ⟨w.heap.size, 0, none⟩ (.int .i64 0)).setCell ⟨w.heap.size, 1, none⟩ (.slice none 0 0)).heap[w.heap.size]? = some (.cells #[.int .i64 0, .slice none 0 0] 54 (0, 0)) := heap_setCell_same _ w.heap.size 1 _ _ _ (heap_setCell_same W0 w.heap.size 0 _ _ _ HZ0.out)
  exact bodyPost_ret (results_four rfl _ _ w.heap.size _ rfl rfl HZ8) rfl ⟨rfl, ⟨(HB0.out.setCell (p := ⟨w.heap.size, 0, none⟩) (Nat.le_refl _) _).setCell (p := ⟨w.heap.size, 1, none⟩) (Nat.le_refl _) _⟩⟩
end Go.Proofs.Ytacfmkmiikkppaa.Qk

/-
  Contracts of the reference's nodes, and of SameWords at equal words.
-/
import Derived.Test.YtadeghfhjiohnaaNd
namespace Go.Proofs.Ytadeghfhjiohnaa.Nf
open Go.ChangeShapes Go.WideShapes Go.ChangeAt Go.RowKit Ga Na Nb Nc Nd_
set_option linter.unusedVariables false
set_option linter.unusedSimpArgs false
set_option maxRecDepth 10000

/-- The reference's node. -/
abbrev RN := Nd 47
theorem owns_more {w : World} {base base' : Nat} {e : TypeId} {sz n g cap : Nat} {xs : List Value} (hb : base ≤ g) (h : w.ownsRow base' e sz (.slice (some ⟨g, 0, none⟩) n cap) n xs) : w.ownsRow base e sz (.slice (some ⟨g, 0, none⟩) n cap) n xs := by
  refine ⟨h.1, ?_⟩
  rcases h.2 with ⟨h', _⟩ | ⟨g', cap', cur, h', h3, h4⟩
  · simp at h'
  · have h'' := h'
    simp only [Value.slice.injEq, Option.some.injEq, Addr.mk.injEq, and_true, true_and] at h''
    exact .inr ⟨g', cap', cur, h', by omega, h4⟩
theorem refNew_any (L : Nat) (w : World) (h1 : 1 ≤ L) (h2 : L ≤ 256) :
    Calls Try.prog 42 #[.int .i64 L] w fun e w' => ∃ g : Nat, e = .returned (.agg #[.slice (some ⟨g, 0, none⟩) (8 * L) (8 * L), .bool true]) ∧ Lk (w.heap.size ≤ g) ∧ Lk (Row w' g (8 * L) (8 * L) (List.replicate (8 * L) 0)) ∧ Lk (Below w.heap.size w w') := by
  obtain ⟨i0, hi, hz0, hz1, hz2⟩ := info_parts u64info
  obtain ⟨n, hn⟩ : ∃ n, 8 * L = n := ⟨_, rfl⟩
  have hm : (L : Int) * 8 = n := by omega
  go_enter Try.func42, Try.ntmps42
  go_wp2_with (first
    | (at_make; refine wpList_make_full _ rfl _ _ 36 rfl w.heap.size 23 i0 (.int .u64 0) 1 Try.underlying36 hi hz0 hz1 .i64 .i64 _ _ n rfl rfl (by first | rfl | exact hm) (by first | rfl | exact hm) ?b2 ?b3 (by simp) ?_))
  case b2 => rw [hz2]; omega
  case b3 => unfold maxLen; omega
  intro w1 hown hgrow
  obtain ⟨g, hg⟩ : ∃ g, w.heap.size = g := ⟨_, rfl⟩
  have hb0 : w1.heap[g]? = some (.cells #[.slice none 0 0, .bool false] 47 (0, 0)) := by
    rw [← hg]; exact (hgrow.block w.heap.size (by simp) (by simp)).trans (heap_alloc_new w _)
  have HR0 : Row w1 (w.heap.size + 1) n n (List.replicate n 0) := by
    refine Row.made (w := w.alloc (.cells #[.slice none 0 0, .bool false] 47)) (owns_more (by simp) (by simpa [Value.cells] using hown))
  have HW0 : Below w.heap.size w w1 := ((Below.refl _ w).alloc (Nat.le_refl _) _).grown hgrow (by simp) (fun k hk => by cases hk)
  have hb1 := heap_setCell_same w1 g 0 _ _ (.slice (some ⟨g + 1, 0, none⟩) n n) hb0
  have hb2 := heap_setCell_same _ g 1 _ _ (.bool true) hb1
  have hc0 := (cell_of_row w1 g 0 _ _ _ hb0).trans rfl
  have hc1 := (cell_of_row w1 g 1 _ _ _ hb0).trans rfl
  have hf := frozen_of_row w1 g 0 _ _ hb0
  have hf1 := frozen_of_row w1 g 1 _ _ hb0
  rw [hg] at HR0 HW0
  have HR := HR0.keep (((Below.heap_setCell (w1.setCell ⟨g, 0, none⟩ (.slice (some ⟨g + 1, 0, none⟩) n n)) ⟨g, 1, none⟩ (.bool true) (g + 1) (by simp))).trans (Below.heap_setCell w1 ⟨g, 0, none⟩ (.slice (some ⟨g + 1, 0, none⟩) n n) (g + 1) (by simp)))
  have HW := (HW0.setCell (p := ⟨g, 0, none⟩) (Nat.le_refl _) (.slice (some ⟨g + 1, 0, none⟩) n n)).setCell (p := ⟨g, 1, none⟩) (Nat.le_refl _) (.bool true)
  have HX : Lk (_ ∧ _ ∧ _) := ⟨hb2, HR, HW⟩
  have HG : Lk (w.heap.size = g) := ⟨hg⟩
  clear HR0 HW0 hown hgrow hb2 HR HW hb1 hb0
  rw [hg]
  clear hg
  go_wp2
  have hg := HG.out
  exact bodyPost_ret (results_cell_row rfl _ _ g 47 _ (0, 0) _ rfl HX.out.1 Try.underlying47 rfl (by kernel_rfl)) rfl ⟨g + 1, by rw [hn]; rfl, ⟨by omega⟩, ⟨by rw [hn]; exact HX.out.2.1⟩, ⟨by rw [hg]; exact HX.out.2.2⟩⟩

end Go.Proofs.Ytadeghfhjiohnaa.Nf

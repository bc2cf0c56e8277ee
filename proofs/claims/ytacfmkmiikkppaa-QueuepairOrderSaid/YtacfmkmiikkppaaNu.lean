/-
  Contract of package memnode's Copy.
-/
import Derived.Test.YtacfmkmiikkppaaNt
import Derived.Deep.AppendLies
namespace Go.Proofs.Ytacfmkmiikkppaa.Nu
open Go.ChangeShapes Go.WideShapes Go.ChangeAt Go.RowKit Ga Na Nb Nc Nd_ Nf
set_option linter.unusedVariables false
set_option linter.unusedSimpArgs false
set_option maxRecDepth 10000

theorem box_node {T : TypeId} {w : World} {g n cap : Nat} {ws : List Nat} {up : Bool} (h : Row w g n cap ws) : Nd T (w.alloc (.cells #[.slice (some ⟨g, 0, none⟩) n cap, .bool up] T)) w.heap.size g n cap ws up :=
  ⟨heap_alloc_new w _, h.keep (Below.heap_alloc w _ g h.size), by have := h.size; omega⟩
theorem copy_any (b g n cap : Nat) (ws : List Nat) (up : Bool) (w : World) (HN : Lk (PN w b g n cap ws up)) (h1 : 1 ≤ n) (h2 : n ≤ 4294967296) :
    Calls Try.prog 27 #[.pointer (some ⟨b, 0, none⟩)] w fun e w' => ∃ b2 g2 cap2 : Nat, e = .returned (.pointer (some ⟨b2, 0, none⟩)) ∧ Lk (w.heap.size ≤ b2 ∧ w.heap.size ≤ g2) ∧ Lk (PN w' b2 g2 n cap2 ws up) ∧ Lk (Below w.heap.size w w') := by
  have HN0 : Lk (PN w.drew b g n cap ws up) := ⟨HN.out.drew 1⟩
  have hc := HN.out.c0
  have hu := HN.out.c1
  have CC := clone_ok ⟨g, 0, none⟩ ws n cap w.drew HN.out.row.len h1 h2 ⟨HN.out.row.lt⟩ ⟨fun j hj => by rw [add_zero_]; exact HN0.out.row.cell hj⟩
  go_enter Try.func27, Try.ntmps27
  go_wp2_with fail
  go_region_with (go_at_call 56; refine CC.mono ?_; rintro e w2 ⟨g2, cap2, rfl, HG2, HR2, HB2⟩; have hu2 := (HB2.out.cell (block_lt_of_cell HN0.out.c1)).trans HN0.out.c1; have HB3 := HB2; have HX := (⟨box_node (T := 90) (up := up) HR2.out⟩ : Lk _); have HS := HB2.out.size)
  all_goals go_wp2
  all_goals go_ret
  all_goals exact ⟨_, g2, cap2, rfl, ⟨HS, HG2.out⟩, HX, ⟨(Below.trans (b := w2) ⟨HB2.out.os, HB2.out.tape, HB2.out.output, HB2.out.size, HB2.out.block⟩ ((Below.refl _ w2).alloc HS _))⟩⟩
/-- The reference's copy: its words appended to nothing, its struct laid behind .. -/
theorem made_after {w5 wx w6 : World} {gs cps : Nat} {ws : List Nat} {up : Bool} (hb : Below w5.heap.size w5 wx) (hg : wx.grownBy w6 none)
    (hown : w6.ownsRow w5.heap.size 33 1 (.slice (some ⟨gs, 0, none⟩) 16 cps) 16 (ws.map u64v)) (hl : ws.length = 16) (hlt : ∀ x ∈ ws, x < 18446744073709551616) :
    RN (w6.alloc (.cells #[.slice (some ⟨gs, 0, none⟩) 16 cps, .bool up] 72)) w6.heap.size gs 16 cps ws up ∧ w5.heap.size ≤ w6.heap.size ∧ w5.heap.size ≤ gs ∧
    Below w5.heap.size w5 (w6.alloc (.cells #[.slice (some ⟨gs, 0, none⟩) 16 cps, .bool up] 72)) := by
  have hB := hb.grown hg hb.size (fun k hk => by cases hk)
  exact ⟨box_node ⟨owns_base hown, hl, hlt⟩, hB.size, (hown.lt gs rfl).1, hB.alloc hB.size _⟩
/-- .. or ahead. -/
theorem made_before {w5 w6 : World} {gs cps : Nat} {ws : List Nat} {up : Bool} (hg : (w5.alloc (.cells #[.slice none 0 0, .bool false] 72)).drew.grownBy w6 none)
    (hown : w6.ownsRow w5.heap.size 33 1 (.slice (some ⟨gs, 0, none⟩) 16 cps) 16 (ws.map u64v)) (hl : ws.length = 16) (hlt : ∀ x ∈ ws, x < 18446744073709551616) :
    w6.cell? ⟨w5.heap.size, 0, none⟩ = some (.slice none 0 0) ∧ w6.cell? ⟨w5.heap.size, 1, none⟩ = some (.bool false) ∧ w6.frozen? ⟨w5.heap.size, 0, none⟩ = false ∧ w6.frozen? ⟨w5.heap.size, 1, none⟩ = false ∧
    Lk (RN ((w6.setCell ⟨w5.heap.size, 0, none⟩ (.slice (some ⟨gs, 0, none⟩) 16 cps)).setCell ⟨w5.heap.size, 1, none⟩ (.bool up)) w5.heap.size gs 16 cps ws up ∧ w5.heap.size ≤ gs ∧
      Below w5.heap.size w5 ((w6.setCell ⟨w5.heap.size, 0, none⟩ (.slice (some ⟨gs, 0, none⟩) 16 cps)).setCell ⟨w5.heap.size, 1, none⟩ (.bool up))) := by
  have hb : Below w5.heap.size w5 (w5.alloc (.cells #[.slice none 0 0, .bool false] 72)).drew := ((Below.refl _ w5).alloc (Nat.le_refl _) _).drew
  have hB := hb.grown hg hb.size (fun k hk => by cases hk)
  have e0 : w6.heap[w5.heap.size]? = some (.cells #[.slice none 0 0, .bool false] 72 (0, 0)) := (hg.block w5.heap.size (show w5.heap.size < (w5.alloc _).heap.size by simp) (by simp)).trans (heap_alloc_new w5 _)
  have e1 := heap_setCell_same w6 w5.heap.size 0 _ _ (.slice (some ⟨gs, 0, none⟩) 16 cps) e0
  have e2 := heap_setCell_same _ w5.heap.size 1 _ _ (.bool up) e1
  have hgs := (hown.lt gs rfl).1
  have hne : w5.heap.size ≠ gs := by
    rintro rfl
    rcases hown.2 with ⟨h', _⟩ | ⟨g', cap', cur, h', _, h4, _⟩
    · simp at h'
    · simp only [Value.slice.injEq, Option.some.injEq, Addr.mk.injEq, and_true, true_and] at h'
      obtain ⟨rfl, rfl⟩ := h'
      rw [e0] at h4
      simp at h4
  have hR : Row w6 gs 16 cps ws := ⟨owns_base hown, hl, hlt⟩
  exact ⟨(cell_of_row _ _ 0 _ _ _ e0).trans rfl, (cell_of_row _ _ 1 _ _ _ e0).trans rfl, frozen_of_row _ _ 0 _ _ e0, frozen_of_row _ _ 1 _ _ e0,
    ⟨⟨e2, hR.keep ((Below.heap_setCell _ ⟨w5.heap.size, 1, none⟩ _ gs (Ne.symm hne)).trans (Below.heap_setCell _ ⟨w5.heap.size, 0, none⟩ _ gs (Ne.symm hne))), hne⟩, hgs,
      (hB.setCell (p := ⟨w5.heap.size, 0, none⟩) (Nat.le_refl _) _).setCell (p := ⟨w5.heap.size, 1, none⟩) (Nat.le_refl _) _⟩⟩
theorem alloc_cell {w : World} {p : Addr} {v : Value} (o : Obj) (h : w.cell? p = some v) : (w.alloc o).cell? p = some v := (World.cell?_of_block (w := w) (Below.heap_alloc w o _ (block_lt_of_cell h))).trans h
theorem grown_cell {wx w6 : World} {p : Addr} {v : Value} (hg : wx.grownBy w6 none) (h : wx.cell? p = some v) : w6.cell? p = some v := hg.cell h (by simp)
end Go.Proofs.Ytacfmkmiikkppaa.Nu

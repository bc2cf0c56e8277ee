/-
  The completion that VerbFits makes for a verb: its box, its words.
-/
import Derived.Test.YtkkeamlpfpcbfaaUb
namespace Go.Proofs.Ytkkeamlpfpcbfaa.Uc
open Go.ChangeShapes Go.WideShapes Go.ChangeAt Go.RowKit Ga Va Vb Vd Ve Vk Vt Vw Vx Vq Ua Ub
set_option linter.unusedVariables false
set_option linter.unusedSimpArgs false
set_option maxHeartbeats 4000000
theorem vinfo : (Try.prog.info? 25).map (fun i => (i.zero, i.size, i.bytes)) = some (some (.agg #[.int .i64 0, .int .i64 0, .int .i64 0, .int .i64 0, .int .u64 0, .int .u64 0, .slice none 0 0, .int .u64 0, .int .i64 0]), 9, 88) := by kernel_rfl
theorem dinfo : (Try.prog.info? 55).map (fun i => (i.zero, i.size, i.bytes)) = some (some (.agg #[.int .i64 0, .slice none 0 0]), 2, 32) := by kernel_rfl
theorem cells_new (w : World) (cs : List Value) (t : TypeId) : ∀ j u, cs[j]? = some u → (w.alloc (.cells cs.toArray t)).cell? ((⟨w.heap.size, 0, none⟩ : Addr).add j) = some u := fun j u hj => by
  rw [add_zero_, cell_of_row _ _ _ _ _ _ (heap_alloc_new w (.cells cs.toArray t))]
  simpa using hj
theorem vcs_one (p : Vp) : ∀ u ∈ vcs p, u.oneCell' = true := fun u hu => by
  simp [vcs] at hu
  rcases hu with rfl | rfl | rfl | rfl | rfl | rfl | rfl | rfl | rfl <;> rfl
theorem dcs_one (d : Dp) : ∀ u ∈ dcs d, u.oneCell' = true := fun u hu => by
  simp [dcs] at hu
  rcases hu with rfl | rfl <;> rfl
theorem bx_grown {W W' : World} {row : Option Nat} {b : Nat} {k nd a n o ne : Int} {wa : Option Addr} {wl wc : Nat} {ky bo : Int} (h : Bx W b k nd a n o ne wa wl wc ky bo) (hg : W.grownBy W' row) (hne : ∀ g, row = some g → g < b) : Bx W' b k nd a n o ne wa wl wc ky bo := by
  have hb : b < W.heap.size := block_lt_of_cell h.c0
  have e : W'.heap[b]? = W.heap[b]? := hg.block b hb (fun e => by have := hne b e.symm; omega)
  have s : ∀ j, W'.cell? ⟨b, j, none⟩ = W.cell? ⟨b, j, none⟩ := fun j => World.cell?_of_block (w := W) (w' := W') (a := ⟨b, j, none⟩) e
  exact ⟨(s 0).trans h.c0, (s 1).trans h.c1, (s 2).trans h.c2, (s 3).trans h.c3, (s 4).trans h.c4, (s 5).trans h.c5, (s 6).trans h.c6, (s 7).trans h.c7, (s 8).trans h.c8⟩
theorem ix0 (w : World) : (Instr.index 56 (.agg #[.int .i64 0, .int .i64 4, .int .i64 5, .int .i64 2, .int .i64 0]) (.int .i64 0)).run Try.prog w = .ok (.int .i64 0) w := by kernel_rfl
theorem ix1 (w : World) : (Instr.index 56 (.agg #[.int .i64 0, .int .i64 4, .int .i64 5, .int .i64 2, .int .i64 0]) (.int .i64 1)).run Try.prog w = .ok (.int .i64 4) w := by kernel_rfl
theorem ix2 (w : World) : (Instr.index 56 (.agg #[.int .i64 0, .int .i64 4, .int .i64 5, .int .i64 2, .int .i64 0]) (.int .i64 2)).run Try.prog w = .ok (.int .i64 5) w := by kernel_rfl
theorem ix3 (w : World) : (Instr.index 56 (.agg #[.int .i64 0, .int .i64 4, .int .i64 5, .int .i64 2, .int .i64 0]) (.int .i64 3)).run Try.prog w = .ok (.int .i64 2) w := by kernel_rfl
theorem ix4 (w : World) : (Instr.index 56 (.agg #[.int .i64 0, .int .i64 4, .int .i64 5, .int .i64 2, .int .i64 0]) (.int .i64 4)).run Try.prog w = .ok (.int .i64 0) w := by kernel_rfl
theorem row_at {w : World} {a : Option Addr} {len cap k : Nat} {zs : List Int} (h : IsRow .i64 w a len cap zs) (hk : k < len) : ∃ p z, a = some p ∧ w.cell? (p.add k) = some (.int .i64 z) ∧ -9223372036854775808 ≤ z ∧ z ≤ 9223372036854775807 := by
  rcases h with ⟨_, h1, _⟩ | ⟨x, rfl, h1, h2, h3, hc, hw⟩
  · omega
  · have hz : k < zs.length := by omega
    have hb := bounds_i64 (hw zs[k] (List.getElem_mem _))
    refine ⟨x, zs[k], rfl, ?_, hb.1, hb.2⟩
    rw [hc k hz]
    simp [hz]
theorem below_grown {W W' : World} (hg : W.grownBy W' none) : Below W.heap.size W W' := ⟨hg.os, hg.tape, hg.output, hg.size, fun k hk => hg.block k hk (by simp)⟩
/-- The box of a completion (block g), its words a row of the call's own. -/
structure Dx (w wr : World) (s t : Value) (vs : List Vp) (ds : List Dp) (k m g : Nat) (code : Int) (A : Option Addr) (l c : Nat) : Prop where
  fx : Fx w wr s t vs ds k m
  z : wr.heap[g]? = some (.cells #[.int .i64 code, .slice A l c] 55 (0, 0))
  lo : w.heap.size ≤ g
  sa : ∀ b, s.ownBlock = some b → b < g
  ta : ∀ b, t.ownBlock = some b → b < g
  r : ∃ xs, wr.ownsRow w.heap.size 22 1 (.slice A l c) l xs
  hl : l ≤ 2049
section
variable {w wr w' : World} {s t : Value} {vs : List Vp} {ds : List Dp} {k m g : Nat} {code : Int} {A : Option Addr} {l c : Nat}
theorem Dx.lt (h : Dx w wr s t vs ds k m g code A l c) : g < wr.heap.size := (Array.getElem?_eq_some_iff.1 h.z).1
theorem Dx.c0 (h : Dx w wr s t vs ds k m g code A l c) : wr.cell? ⟨g, 0, none⟩ = some (.int .i64 code) := (cell_of_row wr g 0 _ _ _ h.z).trans rfl
theorem Dx.c1 (h : Dx w wr s t vs ds k m g code A l c) : wr.cell? ⟨g, 1, none⟩ = some (.slice A l c) := (cell_of_row wr g 1 _ _ _ h.z).trans rfl
theorem Dx.f (h : Dx w wr s t vs ds k m g code A l c) (j : Nat) : wr.frozen? ⟨g, j, none⟩ = false := frozen_of_row wr g j _ _ h.z
theorem Fx.set (h : Fx w wr s t vs ds k m) (sa : ∀ b, s.ownBlock = some b → b < g) (ta : ∀ b, t.ownBlock = some b → b < g) (lo : w.heap.size ≤ g) (j : Nat) (v : Value) : Fx w (wr.setCell ⟨g, j, none⟩ v) s t vs ds k m :=
  ⟨h.na, h.nm, owns_block h.a (fun b hb => Below.heap_setCell wr ⟨g, j, none⟩ _ b (by have := sa b hb; show b ≠ g; omega)), owns_block h.m (fun b hb => Below.heap_setCell wr ⟨g, j, none⟩ _ b (by have := ta b hb; show b ≠ g; omega)), h.below.setCell (p := ⟨g, j, none⟩) lo _, h.ok⟩
theorem Dx.rne (h : Dx w wr s t vs ds k m g code A l c) : ∀ b, (Value.slice A l c).ownBlock = some b → b ≠ g := by
  intro b hb e
  subst e
  obtain ⟨xs, hr⟩ := h.r
  rcases hr.2 with ⟨e, _⟩ | ⟨g1, c1, u1, e, _, b1, _⟩
  · rw [e] at hb; cases hb
  · rw [e] at hb; cases hb
    have hz := h.z
    rw [b1] at hz
    injection hz with hz
    injection hz with _ hz
    exact absurd hz (by decide)
theorem Dx.set0 (h : Dx w wr s t vs ds k m g code A l c) (x : Int) : Dx w (wr.setCell ⟨g, 0, none⟩ (.int .i64 x)) s t vs ds k m g x A l c := by
  obtain ⟨xs, hr⟩ := h.r
  exact ⟨Fx.set h.fx h.sa h.ta h.lo _ _, heap_setCell_same wr g 0 _ _ _ h.z, h.lo, h.sa, h.ta, ⟨xs, owns_block hr fun b hb => Below.heap_setCell wr ⟨g, 0, none⟩ _ b (by have := h.rne b hb; exact this)⟩, h.hl⟩
theorem Dx.set1 (h : Dx w wr s t vs ds k m g code A l c) : Dx w (wr.setCell ⟨g, 1, none⟩ (.slice none 0 0)) s t vs ds k m g code none 0 0 :=
  ⟨Fx.set h.fx h.sa h.ta h.lo _ _, heap_setCell_same wr g 1 _ _ _ h.z, h.lo, h.sa, h.ta, ⟨[], World.ownsRow_nil _ _ _ _⟩, by omega⟩
theorem Dx.on (h : Dx w wr s t vs ds k m g code A l c) (hb : Below wr.heap.size wr w') : Dx w w' s t vs ds k m g code A l c := by
  obtain ⟨xs, hr⟩ := h.r
  exact ⟨h.fx.on hb, (hb.block g h.lt).trans h.z, h.lo, h.sa, h.ta, ⟨xs, owns_on hr (fun b _ hg => hb.block b hg)⟩, h.hl⟩
theorem Dx.new {xs : List Value} (h : Fx w wr s t vs ds k m) (hr : wr.ownsRow w.heap.size 22 1 (.slice A l c) l xs) (hl : l ≤ 2049) : Dx w (wr.alloc (.cells #[.int .i64 0, .slice A l c] 55)) s t vs ds k m wr.heap.size 0 A l c :=
  ⟨h.on ((Below.refl _ _).alloc (Nat.le_refl _) _), heap_alloc_new _ _, h.below.size, fun b hb => (h.a.lt b hb).2, fun b hb => (h.m.lt b hb).2, ⟨xs, hr.alloc _⟩, hl⟩
theorem ret_bd {k n a : Int} {wl : Nat} (h : 1 ≤ cnt k n wl ∧ 0 ≤ a ∧ a + cnt k n wl ≤ 8 * 256) : 0 ≤ retC k n wl ∧ retC k n wl ≤ 2048 := by
  unfold retC; split <;> omega
theorem Dx.app {v : Value} {xs : List Value} (h : Dx w wr s t vs ds k m g code A l c) (hg : wr.grownBy w' (Value.slice A l c).ownBlock) (hl : l + 1 ≤ 2049) (hown : w'.ownsRow w.heap.size 22 1 v (l + 1) xs) :
    ∃ A2 c2, v = .slice A2 (l + 1) c2 ∧ Dx w (w'.setCell ⟨g, 1, none⟩ (.slice A2 (l + 1) c2)) s t vs ds k m g code A2 (l + 1) c2 ∧ w'.frozen? ⟨g, 1, none⟩ = false ∧ w'.cell? ⟨g, 1, none⟩ = some (.slice A l c) := by
  obtain ⟨A2, c2, rfl⟩ := own_slice hown
  obtain ⟨ys, hr⟩ := h.r
  have hz : w'.heap[g]? = wr.heap[g]? := hg.block g h.lt (fun e => h.rne g e.symm rfl)
  have hz' := hz.trans h.z
  have hF : Fx w w' s t vs ds k m := ⟨h.fx.na, h.fx.nm, owns_block h.fx.a (fun b hb => hg.block b (h.fx.a.lt b hb).2 (owns_apart h.fx.a hr (by decide) b hb)), owns_block h.fx.m (fun b hb => hg.block b (h.fx.m.lt b hb).2 (owns_apart h.fx.m hr (by decide) b hb)), h.fx.below.grown hg h.fx.below.size (fun b hb => (hr.lt b hb).1), h.fx.ok⟩
  have hne : ∀ b, (Value.slice A2 (l + 1) c2).ownBlock = some b → b ≠ g := by
    intro b hb e
    subst e
    rcases hown.2 with ⟨e, _⟩ | ⟨g1, c1, u1, e, _, b1, _⟩
    · rw [e] at hb; cases hb
    · rw [e] at hb; cases hb
      rw [b1] at hz'
      injection hz' with hz'
      injection hz' with _ hz'
      exact absurd hz' (by decide)
  exact ⟨A2, c2, rfl, ⟨Fx.set hF h.sa h.ta h.lo _ _, heap_setCell_same w' g 1 _ _ _ hz', h.lo, h.sa, h.ta, ⟨xs, owns_block hown fun b hb => Below.heap_setCell w' ⟨g, 1, none⟩ _ b (hne b hb)⟩, hl⟩, frozen_of_row w' g 1 _ _ hz', (cell_of_row w' g 1 _ _ _ hz').trans rfl⟩
end
end Go.Proofs.Ytkkeamlpfpcbfaa.Uc

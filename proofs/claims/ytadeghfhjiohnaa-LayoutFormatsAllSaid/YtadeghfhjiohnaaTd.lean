/-
  The program's Post.
-/
import Derived.Test.YtadeghfhjiohnaaTc
import Derived.Test.YtadeghfhjiohnaaHq
namespace Go.Proofs.Ytadeghfhjiohnaa.Td
open Go.ChangeShapes Go.WideShapes Go.ChangeAt Go.RowKit Ga Gb Na Nb Nc Va Vb Ve Qd Qf Ta Tb Tc
set_option linter.unusedVariables false
set_option linter.unusedSimpArgs false
set_option maxHeartbeats 1000000
set_option maxRecDepth 100000
/-- F has grown by blocks that the call has laid. -/
structure Grow (F : Nat → Prop) (w : World) (F' : Nat → Prop) (w' : World) : Prop where
  sub : ∀ k, F k → F' k
  new : ∀ k, F' k → F k ∨ (w.heap.size ≤ k ∧ k < w'.heap.size)
theorem Grow.refl (F : Nat → Prop) (w w' : World) : Grow F w F w' := ⟨fun _ h => h, fun _ h => .inl h⟩
section
variable (F : Nat → Prop) (b : Nat) (cl inc pnd : Int) (V : Value) (q : List Pq) (ex : Nat) (B : Option Addr) (cb : Nat) (r : List Nat) (k nd a n o ne : Int) (A : Option Addr) (l c : Nat) (ky bo : Int) (s : List Nat) (lines : Int) (w : World)
end
theorem post_end {F : Nat → Prop} {b : Nat} {cl inc nd : Int} {V V6 : Value} {q : List Pq} {ex : Nat} {B : Option Addr} {cb : Nat} {r : List Nat} {w w3 w4 w5 w6 : World} (p : Pq)
    (HF : Lk (∀ g, w.heap.size ≤ g → ¬ F g)) (HB3 : Lk (Below w.heap.size w w3)) (HB4 : Lk (Below w3.heap.size w3 w4)) (HB5 : Lk (Below w4.heap.size w4 w5)) (HR5 : Lk (PP F w5 b cl inc nd V q ex B cb r)) (HO4 : Lk (Own w3.heap.size w4 p.A p.v.s)) (hs : Lk (wide p.v.s)) (HC4 : Lk (p.v.s.length ≤ p.c ∧ p.c ≤ 9223372036854775807))
    (HT6 : Lk (Tl w6 122 9 V6 (q.length + 1) (q.flatMap qcs ++ qcs p))) (HG6 : Lk (w5.grownBy w6 V.ownBlock)) (HE6 : Lk (V6.ownBlock = V.ownBlock ∨ ∀ g, V6.ownBlock = some g → w5.heap.size ≤ g)) (hwV : Lk (∀ g, V.ownBlock = some g → g < w.heap.size)) :
    Lk (PP (fun k => F k ∨ V6.ownBlock = some k) (w6.setCell ⟨b, 3, none⟩ V6) b cl inc nd V6 (q ++ [p]) ex B cb r) ∧ Lk (Only (fun k => k = b ∨ V.ownBlock = some k) w (w6.setCell ⟨b, 3, none⟩ V6)) ∧ Lk (Grow F w (fun k => F k ∨ V6.ownBlock = some k) (w6.setCell ⟨b, 3, none⟩ V6)) := by
  have hR := HR5.out
  have hG := HG6.out
  have hB := HB3.out.trans ((HB4.out.trans (HB5.out.mono HB4.out.size)).mono HB3.out.size)
  have hs34 := HB4.out.size
  have hs45 := HB5.out.size
  have hs03 := HB3.out.size
  have hn6 : ∀ g, V6.ownBlock = some g → g ≠ b := fun g hg e => by
    rcases HE6.out with h | h
    · exact hR.vb g (h ▸ hg) e
    · have := h g hg
      have := hR.lt
      omega
  have hz6 := (hG.block b hR.lt (fun e => hR.vb b e.symm rfl)).trans hR.z
  have hother : ∀ g, g ≠ b → (w6.setCell ⟨b, 3, none⟩ V6).heap[g]? = w6.heap[g]? := fun g hg => Below.heap_setCell w6 ⟨b, 3, none⟩ V6 g hg
  have hold : ∀ g, g < w5.heap.size → V.ownBlock ≠ some g → g ≠ b → (w6.setCell ⟨b, 3, none⟩ V6).heap[g]? = w5.heap[g]? := fun g h1 h2 h3 => (hother g h3).trans (hG.block g h1 (fun e => h2 e.symm))
  have hkeep : ∀ A l, LiesF F w5 A l → (∀ g, V6.ownBlock = some g → g ≥ w5.heap.size ∨ F g) → LiesF (fun k => F k ∨ V6.ownBlock = some k) (w6.setCell ⟨b, 3, none⟩ V6) A l := fun A l h h6 hl => by
    obtain ⟨ad, e, hn, hb, hc⟩ := h hl
    refine ⟨ad, e, fun hh => hh.elim hn (fun hv => (h6 _ hv).elim (fun h => by omega) hn), by have := hG.size; simp; omega, fun j hj => ?_⟩
    have := World.cell?_of_block (w := w5) (w' := w6.setCell ⟨b, 3, none⟩ V6) (a := ad.add j) (by rw [block_of_add]; exact hold _ hb (fun e => hn (hR.vf _ e)) (fun e => hn (e ▸ hR.f)))
    exact this.trans (hc j hj)
  have h6F : ∀ g, V6.ownBlock = some g → g ≥ w5.heap.size ∨ F g := fun g hg => by
    rcases HE6.out with h | h
    · exact .inr (hR.vf g (h ▸ hg))
    · exact .inl (h g hg)
  have hnew : LiesF F w5 p.A p.v.s := fun hl => by
    obtain ⟨g, c, e, hg, hr⟩ := HO4.out hl
    refine ⟨_, e, HF.out g (by omega), by have := hr.size; show g < _; omega, fun j hj => ?_⟩
    rw [add_zero_]
    exact (HB5.out.cell (p := ⟨g, j, none⟩) hr.size).trans (hr.cell hj)
  refine ⟨⟨heap_setCell_same w6 b 3 _ _ _ hz6, .inl hR.f, ?_, fun g hg => .inr hg, hR.ow.on (fun g hg => hold g (hR.ow.lt g hg) (fun e => hR.vw g e hg.symm) (hR.wb g hg)), fun g hg => .inl (hR.wf g hg), fun p' hp' => ?_, hR.wr⟩, ⟨?_⟩, ⟨fun k hk => .inl hk, fun k hk => ?_⟩⟩
  · have := HT6.out.on (w' := w6.setCell ⟨b, 3, none⟩ V6) (fun g hg => hother g (hn6 g hg))
    rw [List.length_append, List.flatMap_append]
    simpa using this
  · rcases List.mem_append.1 hp' with h | h
    · exact ⟨hkeep _ _ (hR.wd p' h).1 h6F, (hR.wd p' h).2⟩
    · rw [List.mem_singleton] at h
      subst h
      exact ⟨hkeep _ _ hnew h6F, hs.out, HC4.out⟩
  · exact ((Only.of_below hB).grown hG (fun k hk => .inl (.inr hk))).setCell (p := ⟨b, 3, none⟩) (.inl (.inl rfl)) V6
  · rcases hk with h | h
    · exact .inl h
    · rcases HE6.out with h1 | h1
      · exact .inl (hR.vf k (h1 ▸ h))
      · have := h1 k h
        have := HT6.out.lt k h
        exact .inr ⟨by omega, by simpa using this⟩
theorem vinfo : (Try.prog.info? 122).map (fun i => (i.zero, i.size, i.bytes)) = some (some (.agg #[.int .i64 0, .int .i64 0, .int .i64 0, .int .i64 0, .int .u64 0, .int .u64 0, .slice none 0 0, .int .u64 0, .int .i64 0]), 9, 88) := by kernel_rfl
section
variable {w0 W W' : World} {b g nq cq : Nat} {AQ : Option Addr} {q : List Pq} {k nd a n o ne : Int} {A : Option Addr} {l c : Nat} {ky bo : Int} {s : List Nat}
/-- What the region of the append holds: the queue's slice, the box of the verb, where the queue lies. -/
theorem ps_tl (h : World.cell? W ⟨b, 3, none⟩ = some (.slice AQ nq cq) ∧ World.frozen? W ⟨b, 3, none⟩ = false ∧ (World.cell? W (Addr.mk g 0 none) = some (Value.int IntKind.i64 k) ∧ World.cell? W (Addr.mk g 1 none) = some (Value.int IntKind.i64 nd) ∧ World.cell? W (Addr.mk g 2 none) = some (Value.int IntKind.i64 a) ∧ World.cell? W (Addr.mk g 3 none) = some (Value.int IntKind.i64 n) ∧ World.cell? W (Addr.mk g 4 none) = some (Value.int IntKind.u64 o) ∧ World.cell? W (Addr.mk g 5 none) = some (Value.int IntKind.u64 ne) ∧ World.cell? W (Addr.mk g 6 none) = some (Value.slice A l c) ∧ World.cell? W (Addr.mk g 7 none) = some (Value.int IntKind.u64 ky) ∧ World.cell? W (Addr.mk g 8 none) = some (Value.int IntKind.i64 bo)) ∧ Lk (Only (fun k => (Value.slice AQ nq cq).ownBlock = some k) w0 W) ∧ Lk (Tl W 122 9 (.slice AQ nq cq) nq (q.flatMap qcs))) : Tl W 122 9 (.slice AQ nq cq) nq (q.flatMap qcs) := h.2.2.2.2.out
theorem ps_only (h : World.cell? W ⟨b, 3, none⟩ = some (.slice AQ nq cq) ∧ World.frozen? W ⟨b, 3, none⟩ = false ∧ (World.cell? W (Addr.mk g 0 none) = some (Value.int IntKind.i64 k) ∧ World.cell? W (Addr.mk g 1 none) = some (Value.int IntKind.i64 nd) ∧ World.cell? W (Addr.mk g 2 none) = some (Value.int IntKind.i64 a) ∧ World.cell? W (Addr.mk g 3 none) = some (Value.int IntKind.i64 n) ∧ World.cell? W (Addr.mk g 4 none) = some (Value.int IntKind.u64 o) ∧ World.cell? W (Addr.mk g 5 none) = some (Value.int IntKind.u64 ne) ∧ World.cell? W (Addr.mk g 6 none) = some (Value.slice A l c) ∧ World.cell? W (Addr.mk g 7 none) = some (Value.int IntKind.u64 ky) ∧ World.cell? W (Addr.mk g 8 none) = some (Value.int IntKind.i64 bo)) ∧ Lk (Only (fun k => (Value.slice AQ nq cq).ownBlock = some k) w0 W) ∧ Lk (Tl W 122 9 (.slice AQ nq cq) nq (q.flatMap qcs))) : Lk (Only (fun k => (Value.slice AQ nq cq).ownBlock = some k) w0 W) := h.2.2.2.1
theorem ps_on (h : World.cell? W ⟨b, 3, none⟩ = some (.slice AQ nq cq) ∧ World.frozen? W ⟨b, 3, none⟩ = false ∧ (World.cell? W (Addr.mk g 0 none) = some (Value.int IntKind.i64 k) ∧ World.cell? W (Addr.mk g 1 none) = some (Value.int IntKind.i64 nd) ∧ World.cell? W (Addr.mk g 2 none) = some (Value.int IntKind.i64 a) ∧ World.cell? W (Addr.mk g 3 none) = some (Value.int IntKind.i64 n) ∧ World.cell? W (Addr.mk g 4 none) = some (Value.int IntKind.u64 o) ∧ World.cell? W (Addr.mk g 5 none) = some (Value.int IntKind.u64 ne) ∧ World.cell? W (Addr.mk g 6 none) = some (Value.slice A l c) ∧ World.cell? W (Addr.mk g 7 none) = some (Value.int IntKind.u64 ky) ∧ World.cell? W (Addr.mk g 8 none) = some (Value.int IntKind.i64 bo)) ∧ Lk (Only (fun k => (Value.slice AQ nq cq).ownBlock = some k) w0 W) ∧ Lk (Tl W 122 9 (.slice AQ nq cq) nq (q.flatMap qcs))) (hb : Lk (Below W.heap.size W W')) : World.cell? W' ⟨b, 3, none⟩ = some (.slice AQ nq cq) ∧ World.frozen? W' ⟨b, 3, none⟩ = false ∧ (World.cell? W' (Addr.mk g 0 none) = some (Value.int IntKind.i64 k) ∧ World.cell? W' (Addr.mk g 1 none) = some (Value.int IntKind.i64 nd) ∧ World.cell? W' (Addr.mk g 2 none) = some (Value.int IntKind.i64 a) ∧ World.cell? W' (Addr.mk g 3 none) = some (Value.int IntKind.i64 n) ∧ World.cell? W' (Addr.mk g 4 none) = some (Value.int IntKind.u64 o) ∧ World.cell? W' (Addr.mk g 5 none) = some (Value.int IntKind.u64 ne) ∧ World.cell? W' (Addr.mk g 6 none) = some (Value.slice A l c) ∧ World.cell? W' (Addr.mk g 7 none) = some (Value.int IntKind.u64 ky) ∧ World.cell? W' (Addr.mk g 8 none) = some (Value.int IntKind.i64 bo)) ∧ Lk (Only (fun k => (Value.slice AQ nq cq).ownBlock = some k) w0 W') ∧ Lk (Tl W' 122 9 (.slice AQ nq cq) nq (q.flatMap qcs)) :=
  ⟨(hb.out.cell (block_lt_of_cell h.1)).trans h.1, (hb.out.frozen (block_lt_of_cell h.1)).trans h.2.1, ⟨(hb.out.cell (block_lt_of_cell h.2.2.1.1)).trans h.2.2.1.1, (hb.out.cell (block_lt_of_cell h.2.2.1.2.1)).trans h.2.2.1.2.1, (hb.out.cell (block_lt_of_cell h.2.2.1.2.2.1)).trans h.2.2.1.2.2.1, (hb.out.cell (block_lt_of_cell h.2.2.1.2.2.2.1)).trans h.2.2.1.2.2.2.1, (hb.out.cell (block_lt_of_cell h.2.2.1.2.2.2.2.1)).trans h.2.2.1.2.2.2.2.1, (hb.out.cell (block_lt_of_cell h.2.2.1.2.2.2.2.2.1)).trans h.2.2.1.2.2.2.2.2.1, (hb.out.cell (block_lt_of_cell h.2.2.1.2.2.2.2.2.2.1)).trans h.2.2.1.2.2.2.2.2.2.1, (hb.out.cell (block_lt_of_cell h.2.2.1.2.2.2.2.2.2.2.1)).trans h.2.2.1.2.2.2.2.2.2.2.1, (hb.out.cell (block_lt_of_cell h.2.2.1.2.2.2.2.2.2.2.2)).trans h.2.2.1.2.2.2.2.2.2.2.2⟩,
   ⟨h.2.2.2.1.out.trans (Only.of_below hb.out)⟩, ⟨h.2.2.2.2.out.on (fun g' hg' => hb.out.block g' (h.2.2.2.2.out.lt g' hg'))⟩⟩
theorem ps_app (h : World.cell? W ⟨b, 3, none⟩ = some (.slice AQ nq cq) ∧ World.frozen? W ⟨b, 3, none⟩ = false ∧ (World.cell? W (Addr.mk g 0 none) = some (Value.int IntKind.i64 k) ∧ World.cell? W (Addr.mk g 1 none) = some (Value.int IntKind.i64 nd) ∧ World.cell? W (Addr.mk g 2 none) = some (Value.int IntKind.i64 a) ∧ World.cell? W (Addr.mk g 3 none) = some (Value.int IntKind.i64 n) ∧ World.cell? W (Addr.mk g 4 none) = some (Value.int IntKind.u64 o) ∧ World.cell? W (Addr.mk g 5 none) = some (Value.int IntKind.u64 ne) ∧ World.cell? W (Addr.mk g 6 none) = some (Value.slice A l c) ∧ World.cell? W (Addr.mk g 7 none) = some (Value.int IntKind.u64 ky) ∧ World.cell? W (Addr.mk g 8 none) = some (Value.int IntKind.i64 bo)) ∧ Lk (Only (fun k => (Value.slice AQ nq cq).ownBlock = some k) w0 W) ∧ Lk (Tl W 122 9 (.slice AQ nq cq) nq (q.flatMap qcs))) (hb : Lk (W.grownBy W' (Value.slice AQ nq cq).ownBlock)) (hne : Lk ((∀ k, (Value.slice AQ nq cq).ownBlock = some k → k ≠ b) ∧ ∀ k, (Value.slice AQ nq cq).ownBlock = some k → k ≠ g)) (ht : Lk (Tl W' 122 9 (.slice AQ nq cq) nq (q.flatMap qcs))) :
    World.cell? W' ⟨b, 3, none⟩ = some (.slice AQ nq cq) ∧ World.frozen? W' ⟨b, 3, none⟩ = false ∧ (World.cell? W' (Addr.mk g 0 none) = some (Value.int IntKind.i64 k) ∧ World.cell? W' (Addr.mk g 1 none) = some (Value.int IntKind.i64 nd) ∧ World.cell? W' (Addr.mk g 2 none) = some (Value.int IntKind.i64 a) ∧ World.cell? W' (Addr.mk g 3 none) = some (Value.int IntKind.i64 n) ∧ World.cell? W' (Addr.mk g 4 none) = some (Value.int IntKind.u64 o) ∧ World.cell? W' (Addr.mk g 5 none) = some (Value.int IntKind.u64 ne) ∧ World.cell? W' (Addr.mk g 6 none) = some (Value.slice A l c) ∧ World.cell? W' (Addr.mk g 7 none) = some (Value.int IntKind.u64 ky) ∧ World.cell? W' (Addr.mk g 8 none) = some (Value.int IntKind.i64 bo)) ∧ Lk (Only (fun k => (Value.slice AQ nq cq).ownBlock = some k) w0 W') ∧ Lk (Tl W' 122 9 (.slice AQ nq cq) nq (q.flatMap qcs)) := by
  have hg : ∀ j u, W.cell? ⟨g, j, none⟩ = some u → W'.cell? ⟨g, j, none⟩ = some u := fun j u hu => hb.out.cell hu (fun e => hne.out.2 g e.symm rfl)
  refine ⟨hb.out.cell h.1 (fun e => hne.out.1 b e.symm rfl), (World.frozen?_of_block (hb.out.block b (block_lt_of_cell h.1) (fun e => hne.out.1 b e.symm rfl))).trans h.2.1, ⟨hg _ _ h.2.2.1.1, hg _ _ h.2.2.1.2.1, hg _ _ h.2.2.1.2.2.1, hg _ _ h.2.2.1.2.2.2.1, hg _ _ h.2.2.1.2.2.2.2.1, hg _ _ h.2.2.1.2.2.2.2.2.1, hg _ _ h.2.2.1.2.2.2.2.2.2.1, hg _ _ h.2.2.1.2.2.2.2.2.2.2.1, hg _ _ h.2.2.1.2.2.2.2.2.2.2.2⟩, ⟨h.2.2.2.1.out.grown hb.out (fun k hk => .inl hk)⟩, ht⟩
theorem lies_only {S : Nat → Prop} (h : Lies .u64 w0 w0.heap.size A s) (ho : Only S w0 W) (hn : ∀ ad, A = some ad → ¬ S ad.block) : Lies .u64 W W.heap.size A s := fun hp => by
  obtain ⟨ad, e, hb, hc⟩ := h hp
  exact ⟨ad, e, Nat.lt_of_lt_of_le hb ho.size, fun j hj => (World.cell?_of_block (w := w0) (w' := W) (a := ad.add j) (by rw [block_of_add]; exact ho.block _ hb (hn ad e))).trans (hc j hj)⟩
end
section
variable (F : Nat → Prop) (b : Nat) (cl inc : Int) (V : Value) (q : List Pq) (ex : Nat) (B : Option Addr) (cb : Nat) (r : List Nat) (k nd a n : Int) (o ne : Nat) (A : Option Addr) (c : Nat) (ky bo : Int) (s : List Nat) (lines : Int) (w : World)
end
end Go.Proofs.Ytadeghfhjiohnaa.Td

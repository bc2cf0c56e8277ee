/-
  The program's Post.
-/
import Derived.Test.YtpehhldfegjajaaTc
import Derived.Test.YtpehhldfegjajaaHq
namespace Go.Proofs.Ytpehhldfegjajaa.Td
open Go.ChangeShapes Go.WideShapes Go.ChangeAt Go.RowKit Ga Gb Na Nb Nc Va Vb Ve Qd Qf Ta Tb Tc
set_option linter.unusedVariables false
set_option linter.unusedSimpArgs false
set_option maxHeartbeats 1000000
set_option maxRecDepth 100000
/-- F has grown by blocks that the call has laid. -/
structure Grow (F : Nat → Prop) (w : World) (F' : Nat → Prop) (w' : World) : Prop where
  sub : ∀ k, F k → F' k
  new : ∀ k, F' k → F k ∨ (w.heap.size ≤ k ∧ k < w'.heap.size)
theorem Grow.refl (F : Nat → Prop) (w w' : World) : Grow F w F w' := ⟨fun _ h => h, fun _ h => .inl h⟩
section
variable (F : Nat → Prop) (b : Nat) (cl inc pnd : Int) (V : Value) (q : List Pq) (ex : Nat) (B : Option Addr) (cb : Nat) (r : List Nat) (k nd a n o ne : Int) (A : Option Addr) (l c : Nat) (ky bo : Int) (s : List Nat) (lines : Int) (w : World)
theorem post_no (h : Lk (PP F w b cl inc pnd V q ex B cb r)) (hq : q.length ≤ 4294967296) (hc2 : cnt k n l ≤ 9223372036854775807) (hp : postC (validC k nd a (cnt k n l) 5 lines) nd pnd q.length ≠ 0) :
    Calls Try.prog 56 #[.pointer (some ⟨b, 0, none⟩), (Value.agg #[Value.int IntKind.i64 k, Value.int IntKind.i64 nd, Value.int IntKind.i64 a, Value.int IntKind.i64 n, Value.int IntKind.u64 o, Value.int IntKind.u64 ne, Value.slice A l c, Value.int IntKind.u64 ky, Value.int IntKind.i64 bo]), .int .i64 lines] w fun e w' => e = .returned (.int .i64 (postC (validC k nd a (cnt k n l) 5 lines) nd pnd q.length)) ∧ Lk (Below w.heap.size w w') := by
  have CV := fun w => valid_ok k nd a n o ne A l c ky bo w 5 lines hc2
  obtain ⟨AQ, cQ, hQ⟩ := h.out.own.slice
  subst hQ
  have HP := Lk.mk (rfl : postC (validC k nd a (cnt k n l) 5 lines) nd pnd q.length = postC (validC k nd a (cnt k n l) 5 lines) nd pnd q.length)
  generalize hr : postC (validC k nd a (cnt k n l) 5 lines) nd pnd q.length = R at *
  generalize validC k nd a (cnt k n l) 5 lines = vc at *
  have HRR := Lk.mk hr
  clear hr HP
  have HB1 := Lk.mk ((Below.refl _ w).alloc (Nat.le_refl _) (.cells #[Value.int IntKind.i64 k, Value.int IntKind.i64 nd, Value.int IntKind.i64 a, Value.int IntKind.i64 n, Value.int IntKind.u64 o, Value.int IntKind.u64 ne, Value.slice A l c, Value.int IntKind.u64 ky, Value.int IntKind.i64 bo] 56))
  have HX1 := Lk.mk (Bx.alloc w k nd a n o ne A l c ky bo 56)
  go_enter Try.func56, Try.ntmps56
  go_upto_region 1 with fail
  generalize w.alloc _ = w1 at *
  obtain ⟨b0, b1, b2, b3, b4, b5, b6, b7, b8⟩ := HX1.out
  by_cases hv : vc = 0
  · subst hv
    go_upto_region 4 with (first | (go_at_call 55; refine (CV _).mono ?_; rintro e w2 ⟨rfl, HB2⟩))
    have HBB := Lk.mk (HB1.out.trans (HB2.out.mono HB1.out.size))
    have HX2 := Lk.mk (HX1.out.on HB2.out)
    have HR2 := Lk.mk (h.out.below HBB.out)
    clear b0 b1 b2 b3 b4 b5 b6 b7 b8 HB1 HB2 HX1 CV
    obtain ⟨b0, b1, b2, b3, b4, b5, b6, b7, b8⟩ := HX2.out
    have p2 := HR2.out.c2
    have p3 := HR2.out.c3
    by_cases hn : nd = pnd
    · subst hn
      have hlen : ¬ q.length < 1024 := fun h => hp (by rw [← HRR.out]; unfold postC; rw [if_pos rfl, if_pos rfl, if_pos h])
      have hR : R = 12 := by rw [← HRR.out]; unfold postC; rw [if_pos rfl, if_pos rfl, if_neg hlen]
      subst hR
      clear hp
      go_quiet (fail)
      go_wp2
      go_ret
      exact ⟨rfl, ⟨below_drewN HBB.out nq⟩⟩
    · have hR : R = 1 := by rw [← HRR.out]; unfold postC; rw [if_pos rfl, if_neg hn]
      have hb : (nd != pnd) = true := bne_iff_ne.2 hn
      subst hR
      clear hp
      go_quiet (fail)
      go_wp2
      go_ret
      exact ⟨rfl, ⟨below_drewN HBB.out nq⟩⟩
  · have hR : R = vc := by rw [← HRR.out]; unfold postC; rw [if_neg hv]
    have hb : (vc != 0) = true := bne_iff_ne.2 hv
    subst hR
    clear hp
    go_wp2_with (first | (go_at_call 55; refine (CV _).mono ?_; rintro e w2 ⟨rfl, HB2⟩))
    go_ret
    exact ⟨rfl, ⟨HB1.out.trans (HB2.out.mono HB1.out.size)⟩⟩
end
theorem post_end {F : Nat → Prop} {b : Nat} {cl inc nd : Int} {V V6 : Value} {q : List Pq} {ex : Nat} {B : Option Addr} {cb : Nat} {r : List Nat} {w w3 w4 w5 w6 : World} (p : Pq)
    (HF : Lk (∀ g, w.heap.size ≤ g → ¬ F g)) (HB3 : Lk (Below w.heap.size w w3)) (HB4 : Lk (Below w3.heap.size w3 w4)) (HB5 : Lk (Below w4.heap.size w4 w5)) (HR5 : Lk (PP F w5 b cl inc nd V q ex B cb r)) (HO4 : Lk (Own w3.heap.size w4 p.A p.v.s)) (hs : Lk (wide p.v.s)) (HC4 : Lk (p.v.s.length ≤ p.c ∧ p.c ≤ 9223372036854775807))
    (HT6 : Lk (Tl w6 56 9 V6 (q.length + 1) (q.flatMap qcs ++ qcs p))) (HG6 : Lk (w5.grownBy w6 V.ownBlock)) (HE6 : Lk (V6.ownBlock = V.ownBlock ∨ ∀ g, V6.ownBlock = some g → w5.heap.size ≤ g)) (hwV : Lk (∀ g, V.ownBlock = some g → g < w.heap.size)) :
    Lk (PP (fun k => F k ∨ V6.ownBlock = some k) (w6.setCell ⟨b, 3, none⟩ V6) b cl inc nd V6 (q ++ [p]) ex B cb r) ∧ Lk (Only (fun k => k = b ∨ V.ownBlock = some k) w (w6.setCell ⟨b, 3, none⟩ V6)) ∧ Lk (Grow F w (fun k => F k ∨ V6.ownBlock = some k) (w6.setCell ⟨b, 3, none⟩ V6)) := by
  have hR := HR5.out
  have hG := HG6.out
  have hB := HB3.out.trans ((HB4.out.trans (HB5.out.mono HB4.out.size)).mono HB3.out.size)
  have hs34 := HB4.out.size
  have hs45 := HB5.out.size
  have hs03 := HB3.out.size
  have hn6 : ∀ g, V6.ownBlock = some g → g ≠ b := fun g hg e => by
    rcases HE6.out with h | h
    · exact hR.vb g (h ▸ hg) e
    · have := h g hg
      have := hR.lt
      omega
  have hz6 := (hG.block b hR.lt (fun e => hR.vb b e.symm rfl)).trans hR.z
  have hother : ∀ g, g ≠ b → (w6.setCell ⟨b, 3, none⟩ V6).heap[g]? = w6.heap[g]? := fun g hg => Below.heap_setCell w6 ⟨b, 3, none⟩ V6 g hg
  have hold : ∀ g, g < w5.heap.size → V.ownBlock ≠ some g → g ≠ b → (w6.setCell ⟨b, 3, none⟩ V6).heap[g]? = w5.heap[g]? := fun g h1 h2 h3 => (hother g h3).trans (hG.block g h1 (fun e => h2 e.symm))
  have hkeep : ∀ A l, LiesF F w5 A l → (∀ g, V6.ownBlock = some g → g ≥ w5.heap.size ∨ F g) → LiesF (fun k => F k ∨ V6.ownBlock = some k) (w6.setCell ⟨b, 3, none⟩ V6) A l := fun A l h h6 hl => by
    obtain ⟨ad, e, hn, hb, hc⟩ := h hl
    refine ⟨ad, e, fun hh => hh.elim hn (fun hv => (h6 _ hv).elim (fun h => by omega) hn), by have := hG.size; simp; omega, fun j hj => ?_⟩
    have := World.cell?_of_block (w := w5) (w' := w6.setCell ⟨b, 3, none⟩ V6) (a := ad.add j) (by rw [block_of_add]; exact hold _ hb (fun e => hn (hR.vf _ e)) (fun e => hn (e ▸ hR.f)))
    exact this.trans (hc j hj)
  have h6F : ∀ g, V6.ownBlock = some g → g ≥ w5.heap.size ∨ F g := fun g hg => by
    rcases HE6.out with h | h
    · exact .inr (hR.vf g (h ▸ hg))
    · exact .inl (h g hg)
  have hnew : LiesF F w5 p.A p.v.s := fun hl => by
    obtain ⟨g, c, e, hg, hr⟩ := HO4.out hl
    refine ⟨_, e, HF.out g (by omega), by have := hr.size; show g < _; omega, fun j hj => ?_⟩
    rw [add_zero_]
    exact (HB5.out.cell (p := ⟨g, j, none⟩) hr.size).trans (hr.cell hj)
  refine ⟨⟨heap_setCell_same w6 b 3 _ _ _ hz6, .inl hR.f, ?_, fun g hg => .inr hg, hR.ow.on (fun g hg => hold g (hR.ow.lt g hg) (fun e => hR.vw g e hg.symm) (hR.wb g hg)), fun g hg => .inl (hR.wf g hg), fun p' hp' => ?_, hR.wr⟩, ⟨?_⟩, ⟨fun k hk => .inl hk, fun k hk => ?_⟩⟩
  · have := HT6.out.on (w' := w6.setCell ⟨b, 3, none⟩ V6) (fun g hg => hother g (hn6 g hg))
    rw [List.length_append, List.flatMap_append]
    simpa using this
  · rcases List.mem_append.1 hp' with h | h
    · exact ⟨hkeep _ _ (hR.wd p' h).1 h6F, (hR.wd p' h).2⟩
    · rw [List.mem_singleton] at h
      subst h
      exact ⟨hkeep _ _ hnew h6F, hs.out, HC4.out⟩
  · exact ((Only.of_below hB).grown hG (fun k hk => .inl (.inr hk))).setCell (p := ⟨b, 3, none⟩) (.inl (.inl rfl)) V6
  · rcases hk with h | h
    · exact .inl h
    · rcases HE6.out with h1 | h1
      · exact .inl (hR.vf k (h1 ▸ h))
      · have := h1 k h
        have := HT6.out.lt k h
        exact .inr ⟨by omega, by simpa using this⟩
theorem vinfo : (Try.prog.info? 56).map (fun i => (i.zero, i.size, i.bytes)) = some (some (.agg #[.int .i64 0, .int .i64 0, .int .i64 0, .int .i64 0, .int .u64 0, .int .u64 0, .slice none 0 0, .int .u64 0, .int .i64 0]), 9, 88) := by kernel_rfl
section
variable {w0 W W' : World} {b g nq cq : Nat} {AQ : Option Addr} {q : List Pq} {k nd a n o ne : Int} {A : Option Addr} {l c : Nat} {ky bo : Int} {s : List Nat}
/-- What the region of the append holds: the queue's slice, the box of the verb, where the queue lies. -/
theorem ps_tl (h : World.cell? W ⟨b, 3, none⟩ = some (.slice AQ nq cq) ∧ World.frozen? W ⟨b, 3, none⟩ = false ∧ (World.cell? W (Addr.mk g 0 none) = some (Value.int IntKind.i64 k) ∧ World.cell? W (Addr.mk g 1 none) = some (Value.int IntKind.i64 nd) ∧ World.cell? W (Addr.mk g 2 none) = some (Value.int IntKind.i64 a) ∧ World.cell? W (Addr.mk g 3 none) = some (Value.int IntKind.i64 n) ∧ World.cell? W (Addr.mk g 4 none) = some (Value.int IntKind.u64 o) ∧ World.cell? W (Addr.mk g 5 none) = some (Value.int IntKind.u64 ne) ∧ World.cell? W (Addr.mk g 6 none) = some (Value.slice A l c) ∧ World.cell? W (Addr.mk g 7 none) = some (Value.int IntKind.u64 ky) ∧ World.cell? W (Addr.mk g 8 none) = some (Value.int IntKind.i64 bo)) ∧ Lk (Only (fun k => (Value.slice AQ nq cq).ownBlock = some k) w0 W) ∧ Lk (Tl W 56 9 (.slice AQ nq cq) nq (q.flatMap qcs))) : Tl W 56 9 (.slice AQ nq cq) nq (q.flatMap qcs) := h.2.2.2.2.out
theorem ps_only (h : World.cell? W ⟨b, 3, none⟩ = some (.slice AQ nq cq) ∧ World.frozen? W ⟨b, 3, none⟩ = false ∧ (World.cell? W (Addr.mk g 0 none) = some (Value.int IntKind.i64 k) ∧ World.cell? W (Addr.mk g 1 none) = some (Value.int IntKind.i64 nd) ∧ World.cell? W (Addr.mk g 2 none) = some (Value.int IntKind.i64 a) ∧ World.cell? W (Addr.mk g 3 none) = some (Value.int IntKind.i64 n) ∧ World.cell? W (Addr.mk g 4 none) = some (Value.int IntKind.u64 o) ∧ World.cell? W (Addr.mk g 5 none) = some (Value.int IntKind.u64 ne) ∧ World.cell? W (Addr.mk g 6 none) = some (Value.slice A l c) ∧ World.cell? W (Addr.mk g 7 none) = some (Value.int IntKind.u64 ky) ∧ World.cell? W (Addr.mk g 8 none) = some (Value.int IntKind.i64 bo)) ∧ Lk (Only (fun k => (Value.slice AQ nq cq).ownBlock = some k) w0 W) ∧ Lk (Tl W 56 9 (.slice AQ nq cq) nq (q.flatMap qcs))) : Lk (Only (fun k => (Value.slice AQ nq cq).ownBlock = some k) w0 W) := h.2.2.2.1
theorem ps_on (h : World.cell? W ⟨b, 3, none⟩ = some (.slice AQ nq cq) ∧ World.frozen? W ⟨b, 3, none⟩ = false ∧ (World.cell? W (Addr.mk g 0 none) = some (Value.int IntKind.i64 k) ∧ World.cell? W (Addr.mk g 1 none) = some (Value.int IntKind.i64 nd) ∧ World.cell? W (Addr.mk g 2 none) = some (Value.int IntKind.i64 a) ∧ World.cell? W (Addr.mk g 3 none) = some (Value.int IntKind.i64 n) ∧ World.cell? W (Addr.mk g 4 none) = some (Value.int IntKind.u64 o) ∧ World.cell? W (Addr.mk g 5 none) = some (Value.int IntKind.u64 ne) ∧ World.cell? W (Addr.mk g 6 none) = some (Value.slice A l c) ∧ World.cell? W (Addr.mk g 7 none) = some (Value.int IntKind.u64 ky) ∧ World.cell? W (Addr.mk g 8 none) = some (Value.int IntKind.i64 bo)) ∧ Lk (Only (fun k => (Value.slice AQ nq cq).ownBlock = some k) w0 W) ∧ Lk (Tl W 56 9 (.slice AQ nq cq) nq (q.flatMap qcs))) (hb : Lk (Below W.heap.size W W')) : World.cell? W' ⟨b, 3, none⟩ = some (.slice AQ nq cq) ∧ World.frozen? W' ⟨b, 3, none⟩ = false ∧ (World.cell? W' (Addr.mk g 0 none) = some (Value.int IntKind.i64 k) ∧ World.cell? W' (Addr.mk g 1 none) = some (Value.int IntKind.i64 nd) ∧ World.cell? W' (Addr.mk g 2 none) = some (Value.int IntKind.i64 a) ∧ World.cell? W' (Addr.mk g 3 none) = some (Value.int IntKind.i64 n) ∧ World.cell? W' (Addr.mk g 4 none) = some (Value.int IntKind.u64 o) ∧ World.cell? W' (Addr.mk g 5 none) = some (Value.int IntKind.u64 ne) ∧ World.cell? W' (Addr.mk g 6 none) = some (Value.slice A l c) ∧ World.cell? W' (Addr.mk g 7 none) = some (Value.int IntKind.u64 ky) ∧ World.cell? W' (Addr.mk g 8 none) = some (Value.int IntKind.i64 bo)) ∧ Lk (Only (fun k => (Value.slice AQ nq cq).ownBlock = some k) w0 W') ∧ Lk (Tl W' 56 9 (.slice AQ nq cq) nq (q.flatMap qcs)) :=
  ⟨(hb.out.cell (block_lt_of_cell h.1)).trans h.1, (hb.out.frozen (block_lt_of_cell h.1)).trans h.2.1, ⟨(hb.out.cell (block_lt_of_cell h.2.2.1.1)).trans h.2.2.1.1, (hb.out.cell (block_lt_of_cell h.2.2.1.2.1)).trans h.2.2.1.2.1, (hb.out.cell (block_lt_of_cell h.2.2.1.2.2.1)).trans h.2.2.1.2.2.1, (hb.out.cell (block_lt_of_cell h.2.2.1.2.2.2.1)).trans h.2.2.1.2.2.2.1, (hb.out.cell (block_lt_of_cell h.2.2.1.2.2.2.2.1)).trans h.2.2.1.2.2.2.2.1, (hb.out.cell (block_lt_of_cell h.2.2.1.2.2.2.2.2.1)).trans h.2.2.1.2.2.2.2.2.1, (hb.out.cell (block_lt_of_cell h.2.2.1.2.2.2.2.2.2.1)).trans h.2.2.1.2.2.2.2.2.2.1, (hb.out.cell (block_lt_of_cell h.2.2.1.2.2.2.2.2.2.2.1)).trans h.2.2.1.2.2.2.2.2.2.2.1, (hb.out.cell (block_lt_of_cell h.2.2.1.2.2.2.2.2.2.2.2)).trans h.2.2.1.2.2.2.2.2.2.2.2⟩,
   ⟨h.2.2.2.1.out.trans (Only.of_below hb.out)⟩, ⟨h.2.2.2.2.out.on (fun g' hg' => hb.out.block g' (h.2.2.2.2.out.lt g' hg'))⟩⟩
theorem ps_app (h : World.cell? W ⟨b, 3, none⟩ = some (.slice AQ nq cq) ∧ World.frozen? W ⟨b, 3, none⟩ = false ∧ (World.cell? W (Addr.mk g 0 none) = some (Value.int IntKind.i64 k) ∧ World.cell? W (Addr.mk g 1 none) = some (Value.int IntKind.i64 nd) ∧ World.cell? W (Addr.mk g 2 none) = some (Value.int IntKind.i64 a) ∧ World.cell? W (Addr.mk g 3 none) = some (Value.int IntKind.i64 n) ∧ World.cell? W (Addr.mk g 4 none) = some (Value.int IntKind.u64 o) ∧ World.cell? W (Addr.mk g 5 none) = some (Value.int IntKind.u64 ne) ∧ World.cell? W (Addr.mk g 6 none) = some (Value.slice A l c) ∧ World.cell? W (Addr.mk g 7 none) = some (Value.int IntKind.u64 ky) ∧ World.cell? W (Addr.mk g 8 none) = some (Value.int IntKind.i64 bo)) ∧ Lk (Only (fun k => (Value.slice AQ nq cq).ownBlock = some k) w0 W) ∧ Lk (Tl W 56 9 (.slice AQ nq cq) nq (q.flatMap qcs))) (hb : Lk (W.grownBy W' (Value.slice AQ nq cq).ownBlock)) (hne : Lk ((∀ k, (Value.slice AQ nq cq).ownBlock = some k → k ≠ b) ∧ ∀ k, (Value.slice AQ nq cq).ownBlock = some k → k ≠ g)) (ht : Lk (Tl W' 56 9 (.slice AQ nq cq) nq (q.flatMap qcs))) :
    World.cell? W' ⟨b, 3, none⟩ = some (.slice AQ nq cq) ∧ World.frozen? W' ⟨b, 3, none⟩ = false ∧ (World.cell? W' (Addr.mk g 0 none) = some (Value.int IntKind.i64 k) ∧ World.cell? W' (Addr.mk g 1 none) = some (Value.int IntKind.i64 nd) ∧ World.cell? W' (Addr.mk g 2 none) = some (Value.int IntKind.i64 a) ∧ World.cell? W' (Addr.mk g 3 none) = some (Value.int IntKind.i64 n) ∧ World.cell? W' (Addr.mk g 4 none) = some (Value.int IntKind.u64 o) ∧ World.cell? W' (Addr.mk g 5 none) = some (Value.int IntKind.u64 ne) ∧ World.cell? W' (Addr.mk g 6 none) = some (Value.slice A l c) ∧ World.cell? W' (Addr.mk g 7 none) = some (Value.int IntKind.u64 ky) ∧ World.cell? W' (Addr.mk g 8 none) = some (Value.int IntKind.i64 bo)) ∧ Lk (Only (fun k => (Value.slice AQ nq cq).ownBlock = some k) w0 W') ∧ Lk (Tl W' 56 9 (.slice AQ nq cq) nq (q.flatMap qcs)) := by
  have hg : ∀ j u, W.cell? ⟨g, j, none⟩ = some u → W'.cell? ⟨g, j, none⟩ = some u := fun j u hu => hb.out.cell hu (fun e => hne.out.2 g e.symm rfl)
  refine ⟨hb.out.cell h.1 (fun e => hne.out.1 b e.symm rfl), (World.frozen?_of_block (hb.out.block b (block_lt_of_cell h.1) (fun e => hne.out.1 b e.symm rfl))).trans h.2.1, ⟨hg _ _ h.2.2.1.1, hg _ _ h.2.2.1.2.1, hg _ _ h.2.2.1.2.2.1, hg _ _ h.2.2.1.2.2.2.1, hg _ _ h.2.2.1.2.2.2.2.1, hg _ _ h.2.2.1.2.2.2.2.2.1, hg _ _ h.2.2.1.2.2.2.2.2.2.1, hg _ _ h.2.2.1.2.2.2.2.2.2.2.1, hg _ _ h.2.2.1.2.2.2.2.2.2.2.2⟩, ⟨h.2.2.2.1.out.grown hb.out (fun k hk => .inl hk)⟩, ht⟩
theorem lies_only {S : Nat → Prop} (h : Lies .u64 w0 w0.heap.size A s) (ho : Only S w0 W) (hn : ∀ ad, A = some ad → ¬ S ad.block) : Lies .u64 W W.heap.size A s := fun hp => by
  obtain ⟨ad, e, hb, hc⟩ := h hp
  exact ⟨ad, e, Nat.lt_of_lt_of_le hb ho.size, fun j hj => (World.cell?_of_block (w := w0) (w' := W) (a := ad.add j) (by rw [block_of_add]; exact ho.block _ hb (hn ad e))).trans (hc j hj)⟩
end
section
variable (F : Nat → Prop) (b : Nat) (cl inc : Int) (V : Value) (q : List Pq) (ex : Nat) (B : Option Addr) (cb : Nat) (r : List Nat) (k nd a n : Int) (o ne : Nat) (A : Option Addr) (c : Nat) (ky bo : Int) (s : List Nat) (lines : Int) (w : World)
theorem post_ok (h : Lk (PP F w b cl inc nd V q ex B cb r)) (hq : q.length < 1024) (hc2 : cnt k n s.length ≤ 9223372036854775807) (hv : validC k nd a (cnt k n s.length) 5 lines = 0) (HW : Lk (Lies .u64 w w.heap.size A s)) (hs : Lk (wide s)) (HA : Lk (∀ ad, A = some ad → ¬ V.ownBlock = some ad.block)) (HF : Lk (∀ g, w.heap.size ≤ g → ¬ F g)) :
    Calls Try.prog 56 #[.pointer (some ⟨b, 0, none⟩), (Value.agg #[Value.int IntKind.i64 k, Value.int IntKind.i64 nd, Value.int IntKind.i64 a, Value.int IntKind.i64 n, Value.int IntKind.u64 o, Value.int IntKind.u64 ne, Value.slice A s.length c, Value.int IntKind.u64 ky, Value.int IntKind.i64 bo]), .int .i64 lines] w fun e w' => ∃ (F2 : Nat → Prop) (V2 : Value) (A2 : Option Addr) (c2 : Nat), e = .returned (.int .i64 0) ∧ Lk (PP F2 w' b cl inc nd V2 (q ++ [⟨⟨k, nd, a, n, o, ne, ky, bo, s⟩, A2, c2⟩]) ex B cb r) ∧ Lk (Only (fun k => k = b ∨ V.ownBlock = some k) w w') ∧ Lk (Grow F w F2 w') ∧ Lk (∀ k, F2 k → F k ∨ V2.ownBlock = some k) ∧ Lk (V2.ownBlock = V.ownBlock ∨ ∀ g, V2.ownBlock = some g → w.heap.size ≤ g) := by
  obtain ⟨ip, hpi, hp0, hp1, hp2⟩ := info_parts vinfo
  have CV := fun w => valid_ok k nd a n o ne A s.length c ky bo w 5 lines hc2
  rw [hv] at CV
  obtain ⟨AQ, cQ, hQ⟩ := h.out.own.slice
  subst hQ
  have HB1 := Lk.mk ((Below.refl _ w).alloc (Nat.le_refl _) (.cells #[Value.int IntKind.i64 k, Value.int IntKind.i64 nd, Value.int IntKind.i64 a, Value.int IntKind.i64 n, Value.int IntKind.u64 o, Value.int IntKind.u64 ne, Value.slice A s.length c, Value.int IntKind.u64 ky, Value.int IntKind.i64 bo] 56))
  go_enter Try.func56, Try.ntmps56
  go_upto_region 1 with fail
  have HZ1 := Lk.mk (heap_alloc_new w (.cells #[Value.int IntKind.i64 k, Value.int IntKind.i64 nd, Value.int IntKind.i64 a, Value.int IntKind.i64 n, Value.int IntKind.u64 o, Value.int IntKind.u64 ne, Value.slice A s.length c, Value.int IntKind.u64 ky, Value.int IntKind.i64 bo] 56))
  generalize w.alloc _ = w1 at *
  obtain ⟨b0, b1, b2, b3, b4, b5, b6, b7, b8⟩ := Bx.of_heap HZ1.out
  go_upto_region 4 with (first | (go_at_call 55; refine (CV _).mono ?_; rintro e w2 ⟨rfl, HB2⟩))
  have HBB := Lk.mk (HB1.out.trans (HB2.out.mono HB1.out.size))
  have HZ2 := Lk.mk ((HB2.out.block _ (Array.getElem?_eq_some_iff.1 HZ1.out).1).trans HZ1.out)
  have HR2 := Lk.mk (h.out.below HBB.out)
  clear b0 b1 b2 b3 b4 b5 b6 b7 b8 HB1 HB2 HZ1 CV
  obtain ⟨b0, b1, b2, b3, b4, b5, b6, b7, b8⟩ := Bx.of_heap HZ2.out
  have p2 := HR2.out.c2
  have p3 := HR2.out.c3
  go_quiet (fail)
  go_upto_region 8 with fail
  have HB3 : Lk (Below w.heap.size w (w2.drewN nq)) := ⟨below_drewN HBB.out nq⟩
  have HR3 : Lk (PP F (w2.drewN nq) b cl inc nd (.slice AQ q.length cQ) q ex B cb r) := ⟨HR2.out.below (below_drewN (Below.refl _ _) nq)⟩
  have HZ3 : Lk ((w2.drewN nq).heap[w.heap.size]? = _) := HZ2
  clear b0 b1 b2 b3 b4 b5 b6 b7 b8 p2 p3 HBB HR2 HZ2
  generalize w2.drewN nq = w3 at *
  obtain ⟨b0, b1, b2, b3, b4, b5, b6, b7, b8⟩ := Bx.of_heap HZ3.out
  have HLy := Lk.mk (fun (W : World) (ho : Lk (Only (fun k => (Value.slice AQ q.length cQ).ownBlock = some k) w3 W)) => lies_only (HW.out.on_ HB3.out) ho.out HA.out)
  have CC := fun (W : World) (ho : Lk (Only (fun k => (Value.slice AQ q.length cQ).ownBlock = some k) w3 W)) => clone_any k nd a n o ne A s.length c ky bo s W rfl hs.out.1 ⟨hs.out.2⟩ ⟨HLy.out W ho⟩
  have HNe := Lk.mk (show (∀ k, (Value.slice AQ q.length cQ).ownBlock = some k → k ≠ b) ∧ ∀ k, (Value.slice AQ q.length cQ).ownBlock = some k → k ≠ w.heap.size from ⟨HR3.out.vb, fun g hg e => by have := h.out.own.lt g hg; omega⟩)
  have hm1 : q.length + 1 ≤ maxLen := by unfold maxLen; omega
  have hm2 : (q.length + 1) * 88 ≤ 140737488355328 := by omega
  have p3 := HR3.out.c3
  have HR3d : Lk (PP F w3.drew b cl inc nd (.slice AQ q.length cQ) q ex B cb r) := ⟨HR3.out.below (Below.refl _ _).drew⟩
  have HB3d : Lk (Below w.heap.size w w3.drew) := ⟨HB3.out.drew⟩
  have HV := Lk.mk h.out.own.lt
  have C0 := CC w3.drew ⟨(Only.refl _ w3).drew 1⟩
  clear HW HA hq hc2 hv HLy CC
  go_region_law (first
    | (refine step_tl rfl (.tmp 31) (.tmp 34) 36 rfl 56 ip _ 9 88 Try.underlying36 hpi hp0 hp1 hp2 rfl (by decide) (.slice AQ q.length cQ) q.length (q.flatMap qcs) (by simp [Act.eval, Act.put]) HT5.out (some ⟨w4.heap.size, 0, none⟩) 1 1 (qcs ⟨⟨k, nd, a, n, o, ne, ky, bo, s⟩, A4, c4⟩) (by simp [Act.eval, Act.put]) (From.new w4 _ _ 9 rfl) (qcs_one _) hm1 hm2 ?_; intro v6 w6 HT6 HG6 HE6 HK6; have hc6 := HG6.out.cell hc5 (fun e => HNe.out.1 b e.symm rfl); have hf6 := (World.frozen?_of_block (a := ⟨b, 3, none⟩) (HG6.out.block b hlt5 (fun e => HNe.out.1 b e.symm rfl))).trans hf5; have hS6 := HT6.out.slice; obtain ⟨A6, c6, rfl⟩ := hS6)
    | (rw [if_pos (by rfl)]; go_simp; go_at_call 73; refine C0.mono ?_; rintro e w4 ⟨A4, c4, rfl, HO4, HB4, HC4⟩; have HR4 := Lk.mk (HR3d.out.below HB4.out); have hc4 := HR4.out.c3; have hlt4 := HR4.out.lt; have HB5 := Lk.mk ((Below.refl _ w4).alloc (Nat.le_refl _) (.cells #[Value.int IntKind.i64 k, Value.int IntKind.i64 nd, Value.int IntKind.i64 a, Value.int IntKind.i64 n, Value.int IntKind.u64 o, Value.int IntKind.u64 ne, Value.slice A4 s.length c4, Value.int IntKind.u64 ky, Value.int IntKind.i64 bo] 56)); have HR5 := Lk.mk (HR4.out.below HB5.out); have HT5 := Lk.mk HR5.out.own; have hc5 := HR5.out.c3; have hf5 := HR5.out.fr 3; have HB5w := Lk.mk (HB3d.out.trans ((HB4.out.trans (HB5.out.mono HB4.out.size)).mono HB3d.out.size)); have hlt5 := HR5.out.lt; go_simp))
  all_goals go_wp2
  all_goals go_ret
  all_goals (have HE := post_end (V6 := .slice A6 (q.length + 1) c6) ⟨⟨k, nd, a, n, o, ne, ky, bo, s⟩, A4, c4⟩ HF HB3d HB4 HB5 HR5 HO4 hs HC4 HT6 HG6 HE6 HV)
  all_goals exact ⟨_, _, A4, c4, rfl, HE.1, HE.2.1, HE.2.2, ⟨fun k h => h⟩, ⟨HE6.out.imp id (fun h g hg => Nat.le_trans HB5w.out.size (h g hg))⟩⟩
end
end Go.Proofs.Ytpehhldfegjajaa.Td

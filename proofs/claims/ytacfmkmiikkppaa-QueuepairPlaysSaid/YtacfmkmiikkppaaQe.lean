/-
  The reference's Post.
-/
import Derived.Test.YtacfmkmiikkppaaQd
namespace Go.Proofs.Ytacfmkmiikkppaa.Qe
open Go.ChangeShapes Go.WideShapes Go.ChangeAt Go.RowKit Ga Gb Na Nb Nc Nd_ Nf Va Vb Vc Qa Qb Qc Qd
set_option linter.unusedVariables false
set_option linter.unusedSimpArgs false
set_option maxHeartbeats 4000000
set_option maxRecDepth 100000
section
variable {w W W' : World} {b g : Nat} {Q : Value} {k nd a n o ne : Int} {A : Option Addr} {l c : Nat} {ky bo : Int}
theorem pb_below (h : W.cell? ⟨b, 3, none⟩ = some Q ∧ (World.cell? W (Addr.mk g 0 none) = some (Value.int IntKind.i64 k) ∧ World.cell? W (Addr.mk g 1 none) = some (Value.int IntKind.i64 nd) ∧ World.cell? W (Addr.mk g 2 none) = some (Value.int IntKind.i64 a) ∧ World.cell? W (Addr.mk g 3 none) = some (Value.int IntKind.i64 n) ∧ World.cell? W (Addr.mk g 4 none) = some (Value.int IntKind.u64 o) ∧ World.cell? W (Addr.mk g 5 none) = some (Value.int IntKind.u64 ne) ∧ World.cell? W (Addr.mk g 6 none) = some (Value.slice A l c) ∧ World.cell? W (Addr.mk g 7 none) = some (Value.int IntKind.u64 ky) ∧ World.cell? W (Addr.mk g 8 none) = some (Value.int IntKind.i64 bo) ∧ Lk (Below (Array.size (World.heap w)) w W))) : Lk (Below w.heap.size w W) := held_below h.2
theorem pb_on (h : W.cell? ⟨b, 3, none⟩ = some Q ∧ (World.cell? W (Addr.mk g 0 none) = some (Value.int IntKind.i64 k) ∧ World.cell? W (Addr.mk g 1 none) = some (Value.int IntKind.i64 nd) ∧ World.cell? W (Addr.mk g 2 none) = some (Value.int IntKind.i64 a) ∧ World.cell? W (Addr.mk g 3 none) = some (Value.int IntKind.i64 n) ∧ World.cell? W (Addr.mk g 4 none) = some (Value.int IntKind.u64 o) ∧ World.cell? W (Addr.mk g 5 none) = some (Value.int IntKind.u64 ne) ∧ World.cell? W (Addr.mk g 6 none) = some (Value.slice A l c) ∧ World.cell? W (Addr.mk g 7 none) = some (Value.int IntKind.u64 ky) ∧ World.cell? W (Addr.mk g 8 none) = some (Value.int IntKind.i64 bo) ∧ Lk (Below (Array.size (World.heap w)) w W))) (hb : Lk (Below W.heap.size W W')) : W'.cell? ⟨b, 3, none⟩ = some Q ∧ (World.cell? W' (Addr.mk g 0 none) = some (Value.int IntKind.i64 k) ∧ World.cell? W' (Addr.mk g 1 none) = some (Value.int IntKind.i64 nd) ∧ World.cell? W' (Addr.mk g 2 none) = some (Value.int IntKind.i64 a) ∧ World.cell? W' (Addr.mk g 3 none) = some (Value.int IntKind.i64 n) ∧ World.cell? W' (Addr.mk g 4 none) = some (Value.int IntKind.u64 o) ∧ World.cell? W' (Addr.mk g 5 none) = some (Value.int IntKind.u64 ne) ∧ World.cell? W' (Addr.mk g 6 none) = some (Value.slice A l c) ∧ World.cell? W' (Addr.mk g 7 none) = some (Value.int IntKind.u64 ky) ∧ World.cell? W' (Addr.mk g 8 none) = some (Value.int IntKind.i64 bo) ∧ Lk (Below (Array.size (World.heap w)) w W')) := ⟨(hb.out.cell (block_lt_of_cell h.1)).trans h.1, held_on h.2 hb⟩
end
theorem refPost_ok (F : Nat → Prop) (b : Nat) (cl inc nd : Int) (Q : Value) (q : List Pe) (k a n o ne : Int) (A : Option Addr) (l c : Nat) (ky bo : Int) (s : List Nat) (lines slot : Int) (w : World) (HR : Lk (RP F w b cl inc nd Q q)) (hF : Lk (∀ g, w.heap.size ≤ g → ¬ F g))
    (hc2 : cnt k n l ≤ 9223372036854775807) (hv : validC k nd a (cnt k n l) 5 lines = 0) (hq : q.length < 1024) (HW : Lk (Lies .u64 w w.heap.size A s)) (hs : s.length = l) (hl : l ≤ 4294967296) :
    Calls Try.prog 35 #[.pointer (some ⟨b, 0, none⟩), (Value.agg #[Value.int IntKind.i64 k, Value.int IntKind.i64 nd, Value.int IntKind.i64 a, Value.int IntKind.i64 n, Value.int IntKind.u64 o, Value.int IntKind.u64 ne, Value.slice A l c, Value.int IntKind.u64 ky, Value.int IntKind.i64 bo]), .int .i64 lines, .int .i64 slot] w fun e w' => ∃ (Q2 : Value) (A2 : Option Addr) (c2 : Nat), e = .returned (.int .i64 0) ∧ Lk (RP F w' b cl inc nd Q2 (q ++ [⟨k, nd, a, n, o, ne, A2, l, c2, ky, bo, s, 0, none, 0, 0, [], slot⟩])) ∧ Lk (Only (fun k => k = b) w w') := by
  obtain ⟨i0, hi, hz0, hz1, hz2⟩ := info_parts u64info
  obtain ⟨ip, hpi, hp0, hp1, hp2⟩ := info_parts pinfo
  have CV := fun w => validR_ok k nd a n o ne A l c ky bo w 5 lines hc2
  rw [hv] at CV
  obtain ⟨AQ, cQ, hQ⟩ := own_slice HR.out.own
  subst hQ
  have HB1 := Lk.mk ((Below.refl _ w).alloc (Nat.le_refl _) (.cells #[Value.int IntKind.i64 k, Value.int IntKind.i64 nd, Value.int IntKind.i64 a, Value.int IntKind.i64 n, Value.int IntKind.u64 o, Value.int IntKind.u64 ne, Value.slice A l c, Value.int IntKind.u64 ky, Value.int IntKind.i64 bo] 52))
  have HX1 := Lk.mk (Bx.alloc w k nd a n o ne A l c ky bo 52)
  go_enter Try.func35, Try.ntmps35
  go_upto_region 1 with fail
  have HZ1 := Lk.mk (heap_alloc_new w (.cells #[Value.int IntKind.i64 k, Value.int IntKind.i64 nd, Value.int IntKind.i64 a, Value.int IntKind.i64 n, Value.int IntKind.u64 o, Value.int IntKind.u64 ne, Value.slice A l c, Value.int IntKind.u64 ky, Value.int IntKind.i64 bo] 52))
  generalize w.alloc _ = w1 at *
  obtain ⟨b0, b1, b2, b3, b4, b5, b6, b7, b8⟩ := HX1.out
  go_upto_region 4 with (first | (go_at_call 66; refine (CV _).mono ?_; rintro e w2 ⟨rfl, HB2⟩))
  have HBB := Lk.mk (HB1.out.trans (HB2.out.mono HB1.out.size))
  have HZ2 := Lk.mk ((HB2.out.block _ (Array.getElem?_eq_some_iff.1 HZ1.out).1).trans HZ1.out)
  have HR2 := Lk.mk (HR.out.below HBB.out)
  clear b0 b1 b2 b3 b4 b5 b6 b7 b8 HB1 HB2 HX1 HZ1 CV
  obtain ⟨b0, b1, b2, b3, b4, b5, b6, b7, b8⟩ := Bx.of_heap HZ2.out
  have p2 := HR2.out.c2
  have p3 := HR2.out.c3
  go_quiet (fail)
  go_upto_region 8 with fail
  have HB3 : Lk (Below w.heap.size w (w2.drewN nq)) := ⟨below_drewN HBB.out nq⟩
  have HR3 : Lk (RP F (w2.drewN nq) b cl inc nd (.slice AQ q.length cQ) q) := ⟨HR2.out.below (below_drewN (Below.refl _ _) nq)⟩
  have HZ3 : Lk ((w2.drewN nq).heap[w.heap.size]? = _) := HZ2
  clear b0 b1 b2 b3 b4 b5 b6 b7 b8 p2 p3 HBB HR2 HZ2
  generalize w2.drewN nq = w3 at *
  obtain ⟨b0, b1, b2, b3, b4, b5, b6, b7, b8⟩ := Bx.of_heap HZ3.out
  have hfz := frozen_of_row w3 w.heap.size 6 _ _ HZ3.out
  have HFr := Lk.mk (From.words (HW.out.below HB3.out))
  rw [hs] at HFr
  go_wp2_with (first
    | (at_builtin; refine wpList_onto rfl _ _ 49 rfl w3.heap.size 33 i0 (.int .u64 0) 1 8 Try.underlying49 hi hz0 hz1 hz2 rfl (by decide) _ _ _ rfl (World.ownsRow_nil _ _ _ _) A l c (s.map u64v) rfl HFr.out ?c1 ?c2 ?c3 ?c4 ?_))
  case c1 => exact words_one s
  case c2 => unfold maxLen; omega
  case c3 => omega
  case c4 => exact Nat.le_refl _
  intro v4 w4 hown4 hgrow4
  have hB4 := below_none hgrow4
  have hg0 : w.heap.size < w3.heap.size := (Array.getElem?_eq_some_iff.1 HZ3.out).1
  have hz4 := (hB4.block _ hg0).trans HZ3.out
  obtain ⟨A4, c4, rfl⟩ := own_slice hown4
  have hne4 : ∀ g, (Value.slice A4 l c4).ownBlock = some g → g ≠ w.heap.size := fun g hg => by have := (hown4.lt g hg).1; omega
  have HO5 := Lk.mk (owns_block (w' := w4.setCell ⟨w.heap.size, 6, none⟩ (.slice A4 l c4)) hown4 (fun g hg => Below.heap_setCell w4 ⟨w.heap.size, 6, none⟩ _ g (hne4 g hg)))
  have HZ5 := Lk.mk (show (w4.setCell ⟨w.heap.size, 6, none⟩ (.slice A4 l c4)).heap[w.heap.size]? = some (.cells #[Value.int IntKind.i64 k, Value.int IntKind.i64 nd, Value.int IntKind.i64 a, Value.int IntKind.i64 n, Value.int IntKind.u64 o, Value.int IntKind.u64 ne, Value.slice A4 l c4, Value.int IntKind.u64 ky, Value.int IntKind.i64 bo] 52 (0, 0)) from heap_setCell_same w4 w.heap.size 6 _ _ _ hz4)
  have HB5 := Lk.mk ((HB3.out.trans (hB4.mono HB3.out.size)).setCell (p := ⟨w.heap.size, 6, none⟩) (Nat.le_refl _) (.slice A4 l c4))
  have hf4 := frozen_of_row w4 w.heap.size 6 _ _ hz4
  have hc4 := (cell_of_row w4 w.heap.size 6 _ _ _ hz4).trans rfl
  have hs5 : w3.heap.size ≤ (w4.setCell ⟨w.heap.size, 6, none⟩ (.slice A4 l c4)).heap.size := by have := hgrow4.size; simpa using this
  clear hown4 hgrow4 hB4 hz4 hne4 b0 b1 b2 b3 b4 b5 b6 b7 b8 hfz HFr HR3
  go_upto_region 9 with fail
  generalize w4.setCell _ _ = w5 at *
  have HR5 := Lk.mk (HR.out.below HB5.out)
  obtain ⟨b0, b1, b2, b3, b4, b5, b6, b7, b8⟩ := Bx.of_heap HZ5.out
  have p3 := HR5.out.c3
  have HQn := Lk.mk (flat_one pcs pcs_one q)
  have HQf := Lk.mk (From.own HR5.out.own)
  have hm1 : 0 + q.length ≤ maxLen := by unfold maxLen; omega
  have hm2 : (0 + q.length) * 128 ≤ 140737488355328 := by omega
  have hm3 : 0 + q.length + 1 ≤ maxLen := by unfold maxLen; omega
  have hm4 : (0 + q.length + 1) * 128 ≤ 140737488355328 := by omega
  have hb5 : b < w5.heap.size := HR5.out.lt
  have HBa : Lk (Below w5.heap.size w5 w5.drew) := ⟨(Below.refl _ w5).drew⟩
  have HBb : Lk (Below w5.heap.size w5 (w5.alloc (.cells #[Value.int IntKind.i64 k, Value.int IntKind.i64 nd, Value.int IntKind.i64 a, Value.int IntKind.i64 n, Value.int IntKind.u64 o, Value.int IntKind.u64 ne, Value.slice A4 l c4, Value.int IntKind.u64 ky, Value.int IntKind.i64 bo, Value.int IntKind.i64 0, Value.slice none 0 0, Value.int IntKind.i64 slot] 112)).drew) := ⟨((Below.refl _ w5).alloc (Nat.le_refl _) _).drew⟩
  have HFf := Lk.mk (fun (g : Nat) (hg : w5.heap.size ≤ g) => hF.out g (Nat.le_trans HB5.out.size hg))
  have HWp := Lk.mk (fun (W' : World) (hb : Below w5.heap.size w5 W') (p : Pe) (hp : p ∈ q ++ [(⟨k, nd, a, n, o, ne, A4, l, c4, ky, bo, s, 0, none, 0, 0, [], slot⟩ : Pe)]) => show Pw F W' p by
    have hO : Only (fun _ => False) w5 W' := Only.of_below hb
    rcases List.mem_append.1 hp with hp | hp
    · exact (HR5.out.wd p hp).on hO (fun _ h => h.elim)
    · rw [List.mem_singleton] at hp
      subst hp
      exact Pw.on ⟨own_liesF (by simpa using HO5.out) hs (fun g hg => hF.out g (by omega)), ⟨hs, hl⟩, LiesF.nil, rfl, by show 0 ≤ _; omega⟩ hO (fun _ h => h.elim))
  have HP1 := Lk.mk (pcs_one (⟨k, nd, a, n, o, ne, A4, l, c4, ky, bo, s, 0, none, 0, 0, [], slot⟩ : Pe))
  clear hs hl hf4 hc4 hc2 hv hq hs5
  go_region_law (first
    | (refine step_onto rfl (.const (.slice none 0 0)) (.tmp 37) 68 rfl w5.heap.size 112 ip _ 12 128 Try.underlying68 hpi hp0 hp1 hp2 rfl (by decide) (.slice none 0 0) 0 [] rfl (World.ownsRow_nil _ _ _ _) AQ q.length cQ (q.flatMap pcs) (by simp [Act.eval, Act.put]) (HQf.out.on HBa.out) HQn.out hm1 hm2 HBa.out.size ?_; intro v6 w6 hown6 hgrow6; have HO6 := Lk.mk hown6; have HB6 := Lk.mk (HBa.out.grown hgrow6 HBa.out.size (fun k hk => by cases hk)); obtain ⟨b0, b1, b2, b3, b4, b5, b6, b7, b8⟩ := (Bx.of_heap HZ5.out).on HB6.out)
    | (refine step_onto rfl (.const (.slice none 0 0)) (.tmp 37) 68 rfl w5.heap.size 112 ip _ 12 128 Try.underlying68 hpi hp0 hp1 hp2 rfl (by decide) (.slice none 0 0) 0 [] rfl (World.ownsRow_nil _ _ _ _) AQ q.length cQ (q.flatMap pcs) (by simp [Act.eval, Act.put]) (HQf.out.on HBb.out) HQn.out hm1 hm2 HBb.out.size ?_; intro v6 w6 hown6 hgrow6; have HO6 := Lk.mk hown6; have HG6 := Lk.mk hgrow6; have HB6 := Lk.mk (HBb.out.grown hgrow6 HBb.out.size (fun k hk => by cases hk)); obtain ⟨b0, b1, b2, b3, b4, b5, b6, b7, b8⟩ := (Bx.of_heap HZ5.out).on HB6.out)
    | (refine step_onto rfl (.tmp 38) (.tmp 42) 68 rfl w5.heap.size 112 ip _ 12 128 Try.underlying68 hpi hp0 hp1 hp2 rfl (by decide) v6 (0 + q.length) ([] ++ q.flatMap pcs) (by simp [Act.eval, Act.put]) (HO6.out.alloc _) (some ⟨w6.heap.size, 0, none⟩) 1 1 (pcs (⟨k, nd, a, n, o, ne, A4, l, c4, ky, bo, s, 0, none, 0, 0, [], slot⟩ : Pe)) (by simp [Act.eval, Act.put]) (From.new w6 (pcs (⟨k, nd, a, n, o, ne, A4, l, c4, ky, bo, s, 0, none, 0, 0, [], slot⟩ : Pe)) _ 12 rfl) HP1.out hm3 hm4 (HB6.out.alloc HB6.out.size (.cells #[Value.int IntKind.i64 k, Value.int IntKind.i64 nd, Value.int IntKind.i64 a, Value.int IntKind.i64 n, Value.int IntKind.u64 o, Value.int IntKind.u64 ne, Value.slice A4 l c4, Value.int IntKind.u64 ky, Value.int IntKind.i64 bo, Value.int IntKind.i64 0, Value.slice none 0 0, Value.int IntKind.i64 slot] 112)).size ?_; intro v7 w7 hown7 hgrow7; have hS7 := own_slice hown7; obtain ⟨A7, c7, rfl⟩ := hS7; have HB7 := Lk.mk ((HB6.out.alloc HB6.out.size (.cells #[Value.int IntKind.i64 k, Value.int IntKind.i64 nd, Value.int IntKind.i64 a, Value.int IntKind.i64 n, Value.int IntKind.u64 o, Value.int IntKind.u64 ne, Value.slice A4 l c4, Value.int IntKind.u64 ky, Value.int IntKind.i64 bo, Value.int IntKind.i64 0, Value.slice none 0 0, Value.int IntKind.i64 slot] 112)).grown hgrow7 (HB6.out.alloc HB6.out.size (.cells #[Value.int IntKind.i64 k, Value.int IntKind.i64 nd, Value.int IntKind.i64 a, Value.int IntKind.i64 n, Value.int IntKind.u64 o, Value.int IntKind.u64 ne, Value.slice A4 l c4, Value.int IntKind.u64 ky, Value.int IntKind.i64 bo, Value.int IntKind.i64 0, Value.slice none 0 0, Value.int IntKind.i64 slot] 112)).size (fun g hg => (HO6.out.lt g hg).1)); have HPt := Lk.mk (RP.put (q2 := q ++ [(⟨k, nd, a, n, o, ne, A4, l, c4, ky, bo, s, 0, none, 0, 0, [], slot⟩ : Pe)]) HR5.out HB7.out (by have h := hown7; simp only [List.nil_append, Nat.zero_add] at h; rw [List.length_append, List.flatMap_append]; simpa using h) HFf.out (HWp.out _ HB7.out)); have hf7 := HPt.out.2.1; have hc7 := HPt.out.2.2)
    | (refine step_onto rfl (.tmp 38) (.tmp 42) 68 rfl w5.heap.size 112 ip _ 12 128 Try.underlying68 hpi hp0 hp1 hp2 rfl (by decide) v6 (0 + q.length) ([] ++ q.flatMap pcs) (by simp [Act.eval, Act.put]) (HO6.out) (some ⟨w5.heap.size, 0, none⟩) 1 1 (pcs (⟨k, nd, a, n, o, ne, A4, l, c4, ky, bo, s, 0, none, 0, 0, [], slot⟩ : Pe)) (by simp [Act.eval, Act.put]) ((show From (w5.alloc (.cells #[Value.int IntKind.i64 k, Value.int IntKind.i64 nd, Value.int IntKind.i64 a, Value.int IntKind.i64 n, Value.int IntKind.u64 o, Value.int IntKind.u64 ne, Value.slice A4 l c4, Value.int IntKind.u64 ky, Value.int IntKind.i64 bo, Value.int IntKind.i64 0, Value.slice none 0 0, Value.int IntKind.i64 slot] 112)).drew _ 12 1 _ from From.new w5 (pcs (⟨k, nd, a, n, o, ne, A4, l, c4, ky, bo, s, 0, none, 0, 0, [], slot⟩ : Pe)) _ 12 rfl).on (below_none HG6.out)) HP1.out hm3 hm4 (HB6.out).size ?_; intro v7 w7 hown7 hgrow7; have hS7 := own_slice hown7; obtain ⟨A7, c7, rfl⟩ := hS7; have HB7 := Lk.mk ((HB6.out).grown hgrow7 (HB6.out).size (fun g hg => (HO6.out.lt g hg).1)); have HPt := Lk.mk (RP.put (q2 := q ++ [(⟨k, nd, a, n, o, ne, A4, l, c4, ky, bo, s, 0, none, 0, 0, [], slot⟩ : Pe)]) HR5.out HB7.out (by have h := hown7; simp only [List.nil_append, Nat.zero_add] at h; rw [List.length_append, List.flatMap_append]; simpa using h) HFf.out (HWp.out _ HB7.out)); have hf7 := HPt.out.2.1; have hc7 := HPt.out.2.2))
  all_goals go_wp2
  all_goals go_ret
  all_goals exact ⟨_, A4, c4, rfl, ⟨by first | exact HPt.out.1 | simpa using HPt.out.1⟩, ⟨(Only.of_below (S := fun k => k = b) (HB5.out.trans (HB7.out.mono HB5.out.size))).setCell (p := ⟨b, 3, none⟩) (.inl rfl) _⟩⟩
end Go.Proofs.Ytacfmkmiikkppaa.Qe

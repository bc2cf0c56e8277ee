/-
  A verb of a raw record; the laws' check of the chapter's example.
-/
import Derived.Test.YtkkeamlpfpcbfaaVh
import Derived.Test.YtkkeamlpfpcbfaaVe
namespace Go.Proofs.Ytkkeamlpfpcbfaa.Vi
open Go.ChangeShapes Go.WideShapes Go.ChangeAt Go.RowKit Go.Shelf Ga Va Vb Vd Vf Vg Vh Ve
set_option linter.unusedVariables false
set_option linter.unusedSimpArgs false
set_option maxHeartbeats 4000000
set_option maxRecDepth 10000
theorem u64info' : (Try.prog.info? 22).map (fun i => (i.zero, i.size, i.bytes)) = some (some (.int .u64 0), 1, 8) := by kernel_rfl
theorem awake_any (w : World) : Calls Try.prog 11 #[] w fun e w' => e = .returned (.bool true) ∧ Lk (Below w.heap.size w w') := by
  obtain ⟨i0, hi, hz0, hz1, hz2⟩ := info_parts u64info'
  have CP := fun (wa : Option Addr) w => Pieces_ok 2 0 0 0 0 781 10 wa 10 10 0 0 w rfl (by decide) (by decide) (by decide)
  have CV := fun (wa : Option Addr) w => valid_ok 2 0 781 0 0 0 wa 10 10 0 0 w 1 256 (by decide)
  have CC := fun (wa : Option Addr) w => class_ok 2 0 781 0 0 0 wa 10 10 0 0 w (by decide) (by decide) (by decide)
  have CN := fun (wa : Option Addr) w => count_any 2 0 781 0 0 0 wa 10 10 0 0 w
  have e1 : numP 781 (781 + 10) = 2 := by decide
  have e2 : flat (pcs 781 (781 + 10) 2) = [.int .i64 781, .int .i64 3, .int .i64 784, .int .i64 7] := rfl
  have e3 : validC 2 0 781 (cnt 2 0 10) 1 256 = 0 := by decide
  have e4 : classC 2 781 (cnt 2 0 10) = 2 := by decide
  have e5 : cnt 2 0 10 = 10 := by decide
  rw [e1, e2, show ((781 : Nat) : Int) = 781 from rfl] at CP
  clear e1 e2
  rw [e3] at CV
  rw [e4] at CC
  rw [e5] at CN
  clear e3 e4 e5
  go_enter Try.func11, Try.ntmps11
  go_wp2_with (first
    | (at_make; refine wpList_make_full _ rfl _ _ 23 rfl w.heap.size 22 i0 (.int .u64 0) 1 Try.underlying23 hi hz0 hz1 .i64 .i64 _ _ 10 rfl rfl (by first | rfl) (by first | rfl) ?b2 ?b3 (Nat.le_refl _) ?_))
  case b2 => rw [hz2]; omega
  case b3 => unfold maxLen; omega
  intro w1 hown hgrow
  have HB := Lk.mk (((Below.refl _ w).grown hgrow (Nat.le_refl _) (fun k hk => by cases hk)))
  clear hown hgrow
  go_upto_region 2 with fail
  have HX := Lk.mk (Bx.alloc w1 2 0 781 0 0 0 (some ⟨w.heap.size, 0, none⟩) 10 10 0 0 25)
  have HB2 := Lk.mk (HB.out.alloc HB.out.size (.cells #[Value.int IntKind.i64 2, Value.int IntKind.i64 0, Value.int IntKind.i64 781, Value.int IntKind.i64 0, Value.int IntKind.u64 0, Value.int IntKind.u64 0, Value.slice (some ⟨w.heap.size, 0, none⟩) 10 10, Value.int IntKind.u64 0, Value.int IntKind.i64 0] 25))
  generalize w1.alloc _ = W1 at *
  generalize w1.heap.size = b at *
  obtain ⟨c0, c1, c2, c3, c4, c5, c6, c7, c8⟩ := HX.out
  go_wp2_with fail
  clear c0 c1 c2 c3 c4 c5 c6 c7 c8 HB
  refine (CP _ _).mono ?_
  rintro e w2 ⟨v, rfl, HO, HB3⟩
  obtain ⟨g, cap, hv, hs⟩ : ∃ g cap, v = .slice (some ⟨g, 0, none⟩) 2 cap ∧ 2 ≤ cap := by
    rcases HO.out.2 with ⟨_, h0⟩ | ⟨g, cap, cur, rfl, _, _, h2, _⟩
    · cases h0
    · exact ⟨g, cap, rfl, h2⟩
  subst hv
  have p0 : w2.cell? ⟨g, 0, none⟩ = some (.int .i64 781) := HO.out.cellAt 0 (by decide)
  have p1 : w2.cell? ⟨g, 1, none⟩ = some (.int .i64 3) := HO.out.cellAt 1 (by decide)
  have p2 : w2.cell? ⟨g, 2, none⟩ = some (.int .i64 784) := HO.out.cellAt 2 (by decide)
  have p3 : w2.cell? ⟨g, 3, none⟩ = some (.int .i64 7) := HO.out.cellAt 3 (by decide)
  have HX2 := Lk.mk (HX.out.on HB3.out)
  have HB4 := Lk.mk (HB2.out.trans (HB3.out.mono HB2.out.size))
  obtain ⟨c0, c1, c2, c3, c4, c5, c6, c7, c8⟩ := HX2.out
  clear HX HB2 HB3 HO CP
  go_wp2_with fail
  clear c0 c1 c2 c3 c4 c5 c6 c7 c8
  refine (CV _ _).mono ?_
  rintro e w3 ⟨rfl, HB5⟩
  have q0 := (HB5.out.cell (block_lt_of_cell p0)).trans p0
  have q1 := (HB5.out.cell (block_lt_of_cell p1)).trans p1
  have q2 := (HB5.out.cell (block_lt_of_cell p2)).trans p2
  have q3 := (HB5.out.cell (block_lt_of_cell p3)).trans p3
  have HX3 := Lk.mk (HX2.out.on HB5.out)
  have HB6 := Lk.mk (HB4.out.trans (HB5.out.mono HB4.out.size))
  obtain ⟨c0, c1, c2, c3, c4, c5, c6, c7, c8⟩ := HX3.out
  clear HX2 HB4 HB5 CV p0 p1 p2 p3
  go_wp2_with fail
  clear c0 c1 c2 c3 c4 c5 c6 c7 c8
  refine (CC _ _).mono ?_
  rintro e w4 ⟨rfl, HB7⟩
  have HX4 := Lk.mk (HX3.out.on HB7.out)
  have HB8 := Lk.mk (HB6.out.trans (HB7.out.mono HB6.out.size))
  obtain ⟨c0, c1, c2, c3, c4, c5, c6, c7, c8⟩ := HX4.out
  clear HX3 HB6 HB7 CC q0 q1 q2 q3
  go_wp2_with fail
  clear c0 c1 c2 c3 c4 c5 c6 c7 c8
  refine (CN _ _).mono ?_
  rintro e w5 ⟨rfl, HB9⟩
  have HB10 := Lk.mk (HB8.out.trans (HB9.out.mono HB8.out.size))
  clear HX4 HB8 HB9 CN
  go_wp2
  go_ret
  exact ⟨rfl, HB10⟩

section
variable (kind node at_ n key boot : Int) (x y : Nat) (w : World)
/-- A raw record. -/
abbrev rawV (kind node at_ n key boot : Int) (x y : Nat) : Value := .agg #[.int .i64 kind, .int .i64 node, .int .i64 at_, .int .i64 n, .int .i64 key, .int .i64 boot, .int .u64 x, .int .u64 y]
theorem of_any (k0 : -9223372036854775808 ≤ kind) (k1 : kind ≤ 9223372036854775807) (d0 : -9223372036854775808 ≤ node) (d1 : node ≤ 9223372036854775807) (a0 : -9223372036854775808 ≤ at_) (a1 : at_ ≤ 9223372036854775807)
    (n0 : -9223372036854775808 ≤ n) (n1 : n ≤ 9223372036854775807) (e0 : -9223372036854775808 ≤ key) (e1 : key ≤ 9223372036854775807) (b0 : -9223372036854775808 ≤ boot) (b1 : boot ≤ 9223372036854775807) (hx : x < 18446744073709551616) (hy : y < 18446744073709551616) :
    Calls Try.prog 9 #[.agg #[.int .i64 kind, .int .i64 node, .int .i64 at_, .int .i64 n, .int .i64 key, .int .i64 boot, .int .u64 x, .int .u64 y]] w fun e w' => ∃ (A : Option Addr) (cap : Nat), e = .returned (Value.agg #[Value.int IntKind.i64 (pk kind 6), Value.int IntKind.i64 (pk node 7 - 1), Value.int IntKind.i64 (pk at_ 900 - 8), Value.int IntKind.i64 (rawN n), Value.int IntKind.u64 x, Value.int IntKind.u64 y, Value.slice A ((pk n 23)) cap, Value.int IntKind.u64 (pk key 4), Value.int IntKind.i64 (pk boot 3)]) ∧
      (pk n 23 ≤ cap ∧ cap ≤ 9223372036854775807) ∧ Lk (Lies .u64 w' w'.heap.size A (rawW y (pk n 23))) ∧ Lk (Below w.heap.size w w') ∧ Lk (∀ ad, A = some ad → w.heap.size ≤ ad.block) := by
  have C := fun w => verb_any kind node at_ n key boot x y w k0 k1 d0 d1 a0 a1 n0 n1 e0 e1 b0 b1 hx hy
  generalize rawN n = N at *
  have HL := Lk.mk (rawW_len y (pk n 23))
  generalize rawW y (pk n 23) = ws at *
  generalize pk kind 6 = u1 at *
  generalize pk node 7 = u2 at *
  generalize pk at_ 900 = u3 at *
  generalize pk key 4 = u5 at *
  generalize pk boot 3 = u6 at *
  generalize pk n 23 = m at *
  clear k0 k1 d0 d1 a0 a1 n0 n1 e0 e1 b0 b1 hx hy
  go_enter Try.func9, Try.ntmps9
  go_wp2_with fail
  have hZ := Lk.mk (show ((w.alloc (.cells #[Value.int IntKind.i64 kind, Value.int IntKind.i64 node, Value.int IntKind.i64 at_, Value.int IntKind.i64 n, Value.int IntKind.i64 key, Value.int IntKind.i64 boot, Value.int IntKind.u64 x, Value.int IntKind.u64 y] 27)).alloc (.cells #[Value.int IntKind.i64 0, Value.int IntKind.i64 0, Value.int IntKind.i64 0, Value.int IntKind.i64 0, Value.int IntKind.u64 0, Value.int IntKind.u64 0, Value.slice none 0 0, Value.int IntKind.u64 0, Value.int IntKind.i64 0] 25)).heap[w.heap.size + 1]? = some (.cells #[Value.int IntKind.i64 0, Value.int IntKind.i64 0, Value.int IntKind.i64 0, Value.int IntKind.i64 0, Value.int IntKind.u64 0, Value.int IntKind.u64 0, Value.slice none 0 0, Value.int IntKind.u64 0, Value.int IntKind.i64 0] 25 (0, 0)) by
    have := heap_alloc_new (w.alloc (.cells #[Value.int IntKind.i64 kind, Value.int IntKind.i64 node, Value.int IntKind.i64 at_, Value.int IntKind.i64 n, Value.int IntKind.i64 key, Value.int IntKind.i64 boot, Value.int IntKind.u64 x, Value.int IntKind.u64 y] 27)) (.cells #[Value.int IntKind.i64 0, Value.int IntKind.i64 0, Value.int IntKind.i64 0, Value.int IntKind.i64 0, Value.int IntKind.u64 0, Value.int IntKind.u64 0, Value.slice none 0 0, Value.int IntKind.u64 0, Value.int IntKind.i64 0] 25); simpa using this)
  have hB := Lk.mk (show Below w.heap.size w ((w.alloc (.cells #[Value.int IntKind.i64 kind, Value.int IntKind.i64 node, Value.int IntKind.i64 at_, Value.int IntKind.i64 n, Value.int IntKind.i64 key, Value.int IntKind.i64 boot, Value.int IntKind.u64 x, Value.int IntKind.u64 y] 27)).alloc (.cells #[Value.int IntKind.i64 0, Value.int IntKind.i64 0, Value.int IntKind.i64 0, Value.int IntKind.i64 0, Value.int IntKind.u64 0, Value.int IntKind.u64 0, Value.slice none 0 0, Value.int IntKind.u64 0, Value.int IntKind.i64 0] 25)) from ((Below.refl _ w).alloc (Nat.le_refl _) _).alloc (by simp) _)
  generalize (w.alloc _).alloc _ = W at *
  refine (C _).mono ?_
  rintro e w2 ⟨A, cap, rfl, ⟨hc1, hc2⟩, HLi, HB2, HF⟩
  have hs : w.heap.size + 1 < W.heap.size := (Array.getElem?_eq_some_iff.1 hZ.out).1
  have HZ2 := Lk.mk ((HB2.out.block _ hs).trans hZ.out)
  have HS := Lk.mk hs
  have HB3 := Lk.mk (hB.out.trans (HB2.out.mono hB.out.size))
  obtain ⟨g, hg⟩ : ∃ g, w.heap.size + 1 = g := ⟨_, rfl⟩
  rw [hg] at HZ2 HS
  have z0 := (cell_of_row w2 g 0 _ _ _ HZ2.out).trans rfl
  have z1 := (cell_of_row w2 g 1 _ _ _ HZ2.out).trans rfl
  have z2 := (cell_of_row w2 g 2 _ _ _ HZ2.out).trans rfl
  have z3 := (cell_of_row w2 g 3 _ _ _ HZ2.out).trans rfl
  have z4 := (cell_of_row w2 g 4 _ _ _ HZ2.out).trans rfl
  have z5 := (cell_of_row w2 g 5 _ _ _ HZ2.out).trans rfl
  have z6 := (cell_of_row w2 g 6 _ _ _ HZ2.out).trans rfl
  have z7 := (cell_of_row w2 g 7 _ _ _ HZ2.out).trans rfl
  have z8 := (cell_of_row w2 g 8 _ _ _ HZ2.out).trans rfl
  have f0 := frozen_of_row w2 g 0 _ _ HZ2.out
  have f1 := frozen_of_row w2 g 1 _ _ HZ2.out
  have f2 := frozen_of_row w2 g 2 _ _ HZ2.out
  have f3 := frozen_of_row w2 g 3 _ _ HZ2.out
  have f4 := frozen_of_row w2 g 4 _ _ HZ2.out
  have f5 := frozen_of_row w2 g 5 _ _ HZ2.out
  have f6 := frozen_of_row w2 g 6 _ _ HZ2.out
  have f7 := frozen_of_row w2 g 7 _ _ HZ2.out
  have f8 := frozen_of_row w2 g 8 _ _ HZ2.out
  rw [hg]
  have HGe := Lk.mk (show w.heap.size ≤ g by omega)
  clear C hZ hB HB2 hs hg
  go_wp2
  have HFz := Lk.mk (fin_z (k := u1) (nd := u2 - 1) (a := u3 - 8) (n := N) (o := x) (ne := y) (V := .slice A m cap) (ky := u5) (bo := u6) HZ2.out)
  exact bodyPost_ret (results_cell_row rfl _ _ g 25 _ (0, 0) _ rfl HFz.out Try.underlying25 rfl (by kernel_rfl)) rfl ⟨A, cap, rfl, ⟨hc1, hc2⟩,
    ⟨lies_blk HLi.out (fun ad e => fin_o (by have := HF.out ad e; have := HS.out; omega)) (Nat.le_of_eq fin_s.symm)⟩, ⟨fin_b HB3.out HGe.out⟩, ⟨fun ad e => by have := HF.out ad e; have := HS.out; have := HGe.out; omega⟩⟩
end
end Go.Proofs.Ytkkeamlpfpcbfaa.Vi

/-
  The reference's Fit; the first code that is not OK.
-/
import Derived.Test.YtkkeamlpfpcbfaaVx
namespace Go.Proofs.Ytkkeamlpfpcbfaa.Vy
open Go.ChangeShapes Go.WideShapes Go.ChangeAt Go.RowKit Ga Va Vb Vd Vk Vs Vt Vw Vx
set_option linter.unusedVariables false
set_option linter.unusedSimpArgs false
set_option maxHeartbeats 4000000
set_option maxRecDepth 10000
section
variable {pk pnd pa pn po pne : Int} {pA : Option Addr} {pl pc : Nat} {pky pbo : Int} {qc : Int} {qA : Option Addr} {ql qp : Nat} {w W w2 : World} {g1 i1 B : Nat}
theorem three_on (h : (World.cell? W (Addr.mk g1 i1 none) = some (Value.int IntKind.i64 pk) ∧ World.cell? W (Addr.mk g1 (i1 + 1) none) = some (Value.int IntKind.i64 pnd) ∧ World.cell? W (Addr.mk g1 (i1 + 2) none) = some (Value.int IntKind.i64 pa) ∧ World.cell? W (Addr.mk g1 (i1 + 3) none) = some (Value.int IntKind.i64 pn) ∧ World.cell? W (Addr.mk g1 (i1 + 4) none) = some (Value.int IntKind.u64 po) ∧ World.cell? W (Addr.mk g1 (i1 + 5) none) = some (Value.int IntKind.u64 pne) ∧ World.cell? W (Addr.mk g1 (i1 + 6) none) = some (Value.slice pA pl pc) ∧ World.cell? W (Addr.mk g1 (i1 + 7) none) = some (Value.int IntKind.u64 pky) ∧ World.cell? W (Addr.mk g1 (i1 + 8) none) = some (Value.int IntKind.i64 pbo)) ∧ World.cell? W ⟨B, 0, none⟩ = some (Value.int IntKind.i64 qc) ∧ World.cell? W ⟨B, 1, none⟩ = some (Value.slice qA ql qp) ∧ Lk (Below w.heap.size w W)) (hb : Lk (Below W.heap.size W w2)) : (World.cell? w2 (Addr.mk g1 i1 none) = some (Value.int IntKind.i64 pk) ∧ World.cell? w2 (Addr.mk g1 (i1 + 1) none) = some (Value.int IntKind.i64 pnd) ∧ World.cell? w2 (Addr.mk g1 (i1 + 2) none) = some (Value.int IntKind.i64 pa) ∧ World.cell? w2 (Addr.mk g1 (i1 + 3) none) = some (Value.int IntKind.i64 pn) ∧ World.cell? w2 (Addr.mk g1 (i1 + 4) none) = some (Value.int IntKind.u64 po) ∧ World.cell? w2 (Addr.mk g1 (i1 + 5) none) = some (Value.int IntKind.u64 pne) ∧ World.cell? w2 (Addr.mk g1 (i1 + 6) none) = some (Value.slice pA pl pc) ∧ World.cell? w2 (Addr.mk g1 (i1 + 7) none) = some (Value.int IntKind.u64 pky) ∧ World.cell? w2 (Addr.mk g1 (i1 + 8) none) = some (Value.int IntKind.i64 pbo)) ∧ World.cell? w2 ⟨B, 0, none⟩ = some (Value.int IntKind.i64 qc) ∧ World.cell? w2 ⟨B, 1, none⟩ = some (Value.slice qA ql qp) ∧ Lk (Below w.heap.size w w2) := by
  obtain ⟨⟨h0, h1, h2, h3, h4, h5, h6, h7, h8⟩, k0, k1, hB⟩ := h
  have hb := hb.out
  exact ⟨⟨(hb.cell (block_lt_of_cell h0)).trans h0, (hb.cell (block_lt_of_cell h1)).trans h1, (hb.cell (block_lt_of_cell h2)).trans h2, (hb.cell (block_lt_of_cell h3)).trans h3, (hb.cell (block_lt_of_cell h4)).trans h4, (hb.cell (block_lt_of_cell h5)).trans h5, (hb.cell (block_lt_of_cell h6)).trans h6, (hb.cell (block_lt_of_cell h7)).trans h7, (hb.cell (block_lt_of_cell h8)).trans h8⟩,
    (hb.cell (block_lt_of_cell k0)).trans k0, (hb.cell (block_lt_of_cell k1)).trans k1, ⟨hB.out.trans (hb.mono hB.out.size)⟩⟩
theorem three_below (h : (World.cell? W (Addr.mk g1 i1 none) = some (Value.int IntKind.i64 pk) ∧ World.cell? W (Addr.mk g1 (i1 + 1) none) = some (Value.int IntKind.i64 pnd) ∧ World.cell? W (Addr.mk g1 (i1 + 2) none) = some (Value.int IntKind.i64 pa) ∧ World.cell? W (Addr.mk g1 (i1 + 3) none) = some (Value.int IntKind.i64 pn) ∧ World.cell? W (Addr.mk g1 (i1 + 4) none) = some (Value.int IntKind.u64 po) ∧ World.cell? W (Addr.mk g1 (i1 + 5) none) = some (Value.int IntKind.u64 pne) ∧ World.cell? W (Addr.mk g1 (i1 + 6) none) = some (Value.slice pA pl pc) ∧ World.cell? W (Addr.mk g1 (i1 + 7) none) = some (Value.int IntKind.u64 pky) ∧ World.cell? W (Addr.mk g1 (i1 + 8) none) = some (Value.int IntKind.i64 pbo)) ∧ World.cell? W ⟨B, 0, none⟩ = some (Value.int IntKind.i64 qc) ∧ World.cell? W ⟨B, 1, none⟩ = some (Value.slice qA ql qp) ∧ Lk (Below w.heap.size w W)) : Lk (Below w.heap.size w W) := h.2.2.2
theorem three_drew (h1 : (World.cell? W (Addr.mk g1 i1 none) = some (Value.int IntKind.i64 pk) ∧ World.cell? W (Addr.mk g1 (i1 + 1) none) = some (Value.int IntKind.i64 pnd) ∧ World.cell? W (Addr.mk g1 (i1 + 2) none) = some (Value.int IntKind.i64 pa) ∧ World.cell? W (Addr.mk g1 (i1 + 3) none) = some (Value.int IntKind.i64 pn) ∧ World.cell? W (Addr.mk g1 (i1 + 4) none) = some (Value.int IntKind.u64 po) ∧ World.cell? W (Addr.mk g1 (i1 + 5) none) = some (Value.int IntKind.u64 pne) ∧ World.cell? W (Addr.mk g1 (i1 + 6) none) = some (Value.slice pA pl pc) ∧ World.cell? W (Addr.mk g1 (i1 + 7) none) = some (Value.int IntKind.u64 pky) ∧ World.cell? W (Addr.mk g1 (i1 + 8) none) = some (Value.int IntKind.i64 pbo))) (h2 : W.cell? ⟨B, 0, none⟩ = some (Value.int IntKind.i64 qc)) (h3 : W.cell? ⟨B, 1, none⟩ = some (Value.slice qA ql qp)) (hB : Lk (Below w.heap.size w W)) : (World.cell? W.drew (Addr.mk g1 i1 none) = some (Value.int IntKind.i64 pk) ∧ World.cell? W.drew (Addr.mk g1 (i1 + 1) none) = some (Value.int IntKind.i64 pnd) ∧ World.cell? W.drew (Addr.mk g1 (i1 + 2) none) = some (Value.int IntKind.i64 pa) ∧ World.cell? W.drew (Addr.mk g1 (i1 + 3) none) = some (Value.int IntKind.i64 pn) ∧ World.cell? W.drew (Addr.mk g1 (i1 + 4) none) = some (Value.int IntKind.u64 po) ∧ World.cell? W.drew (Addr.mk g1 (i1 + 5) none) = some (Value.int IntKind.u64 pne) ∧ World.cell? W.drew (Addr.mk g1 (i1 + 6) none) = some (Value.slice pA pl pc) ∧ World.cell? W.drew (Addr.mk g1 (i1 + 7) none) = some (Value.int IntKind.u64 pky) ∧ World.cell? W.drew (Addr.mk g1 (i1 + 8) none) = some (Value.int IntKind.i64 pbo)) ∧ World.cell? W.drew ⟨B, 0, none⟩ = some (Value.int IntKind.i64 qc) ∧ World.cell? W.drew ⟨B, 1, none⟩ = some (Value.slice qA ql qp) ∧ Lk (Below w.heap.size w W.drew) := ⟨h1, h2, h3, ⟨hB.out.drew⟩⟩
end
theorem FitR_any (A1 A2 : Option Addr) (n c1 m c2 : Nat) (vs : List Vp) (us : List Dp) (w : World) (hn : vs.length = n) (hm : us.length = m) (H1 : Lk (VRow0 w A1 vs)) (H2 : Lk (DRow w A2 us)) (hn2 : n ≤ 4294967296) (hm2 : m ≤ 4294967296) (hv : Lk (∀ i (h : i < vs.length), 1 ≤ cnt vs[i].v.k vs[i].v.n vs[i].l)) :
    Calls Try.prog 29 #[.slice A1 n c1, .slice A2 m c2] w fun e w' => e = .returned (.bool (fitA vs us)) ∧ Lk (Below w.heap.size w w') := by
  go_enter Try.func29, Try.ntmps29
  by_cases hne : n = m
  · subst hne
    have HN := Lk.mk hn
    have HM := Lk.mk hm
    have h0 : Lk (Below w.heap.size w w) := ⟨Below.refl _ _⟩
    have HP0 : Lk (∀ i, i < 0 → (h : i < vs.length ∧ i < us.length) → fitB (retC (vs[i]'h.1).v.k (vs[i]'h.1).v.n (vs[i]'h.1).l) (us[i]'h.2).code (us[i]'h.2).l = true) := ⟨fun i hi => absurd hi (by omega)⟩
    clear hn hm
    go_wp2_with fail
    go_loopw [5] (fun s wr => ∃ k : Nat, k ≤ n ∧ s = .int .i64 k ∧ Lk (∀ i, i < k → (h : i < vs.length ∧ i < us.length) → fitB (retC (vs[i]'h.1).v.k (vs[i]'h.1).v.n (vs[i]'h.1).l) (us[i]'h.2).code (us[i]'h.2).l = true) ∧ Lk (Below w.heap.size w wr)) (fun s _ => n - (intOf s).toNat)
    case atStart => exact ⟨0, by omega, rfl, HP0, h0⟩
    case round =>
      clear HP0 h0
      obtain ⟨k, hk, rfl, HP, HB⟩ := hrel
      by_cases hlt : k < n
      · have i1 : k < vs.length := by have := HN.out; omega
        have i2 : k < us.length := by have := HM.out; omega
        obtain ⟨g1, rfl, hc1⟩ := H1.out (by omega)
        obtain ⟨g2, rfl, hc2⟩ := H2.out (by omega)
        have HV1 := Lk.mk (((hc1 k i1).on HB.out))
        have HV2 := Lk.mk (((hc2 k i2).on HB.out))
        have HF := Lk.mk (fun (h : fitB (retC vs[k].v.k vs[k].v.n vs[k].l) us[k].code us[k].l = false) => fitA_false (fun (hA : AllFit vs us) => by have := hA.2 k ⟨i1, i2⟩; rw [h] at this; cases this))
        have HT := Lk.mk (fun (h : fitB (retC vs[k].v.k vs[k].v.n vs[k].l) us[k].code us[k].l = true) (i : Nat) (hi : i < k + 1) (hh : i < vs.length ∧ i < us.length) => if hik : i < k then HP.out i hik hh else by
          obtain rfl : i = k := by omega
          exact h)
        have HC := Lk.mk (hv.out k i1)
        clear hc1 hc2 HP
        generalize vs[k] = p at *
        generalize us[k] = q at *
        obtain ⟨⟨pk, pnd, pa, pn, po, pne, pky, pbo, ps⟩, pA, pl, pc⟩ := p
        obtain ⟨qc, qA, ql, qp⟩ := q
        obtain ⟨x0, x1, x2, x3, x4, x5, x6, x7, x8⟩ := HV1.out
        obtain ⟨y0, y1⟩ := HV2.out
        dsimp only at x0 x1 x2 x3 x4 x5 x6 x7 x8 y0 y1
        clear i1 i2 x0 x1 x2 x3 x4 x5 x6 x7 x8
        go_upto_region 7 with fail
        clear y0 y1
        have hba := (Below.refl wr.heap.size wr).alloc (Nat.le_refl _) (.cells #[.int .i64 qc, .slice qA ql qp] 55)
        have HBa := Lk.mk (HB.out.trans (hba.mono HB.out.size))
        have z0 := (cell_of_row _ wr.heap.size 0 _ _ _ (heap_alloc_new wr (.cells #[.int .i64 qc, .slice qA ql qp] 55))).trans rfl
        have z1 := (cell_of_row _ wr.heap.size 1 _ _ _ (heap_alloc_new wr (.cells #[.int .i64 qc, .slice qA ql qp] 55))).trans rfl
        have HVa := Lk.mk (VCells.on (p := ⟨⟨pk, pnd, pa, pn, po, pne, pky, pbo, ps⟩, pA, pl, pc⟩) HV1.out hba)
        have CR := fun wx => returnsR_ok pk pnd pa pn po pne pA pl pc pky pbo wx HC.out
        clear hba HB HV1 HV2 HC
        generalize wr.alloc _ = wa at *
        have HZ := Lk.mk (fun (w2 : World) (h : Lk (Below wa.drew.heap.size wa.drew w2)) => And.intro ((h.out.cell (p := ⟨wr.heap.size, 0, none⟩) (block_lt_of_cell z0)).trans z0) ((h.out.cell (p := ⟨wr.heap.size, 1, none⟩) (block_lt_of_cell z1)).trans z1))
        have HH := Lk.mk (three_drew HVa.out z0 z1 HBa)
        obtain ⟨x0, x1, x2, x3, x4, x5, x6, x7, x8⟩ := HVa.out
        dsimp only at x0 x1 x2 x3 x4 x5 x6 x7 x8
        clear HVa
        have HD := Lk.mk (show fitB (retC pk pn pl) qc ql = decide ((qc = 0 ∧ (ql : Int) = retC pk pn pl) ∨ ((qc = 4 ∨ qc = 5) ∧ ql = 0)) from rfl)
        dsimp only at HF HT
        generalize fitB (retC pk pn pl) qc ql = R at *
        generalize retC pk pn pl = r at *
        by_cases c0 : qc = 0
        · by_cases hq : (ql : Int) = r
          · have HX2 := Lk.mk (HT.out (HD.out.trans (decide_eq_true (.inl ⟨c0, hq⟩))))
            clear HT HF HD
            have hb1 : ((ql : Int) != r) = false := by rw [hq]; simp
            subst c0
            go_upto_region 9 with fail
            first | (go_region_with (go_at_call 21; refine (CR _).mono ?_; rintro e w2 ⟨rfl, HB2⟩; obtain ⟨e0, e1⟩ := HZ.out w2 HB2; have HBn := Lk.mk (HBa.out.drew.trans (HB2.out.mono HBa.out.drew.size)))) | fail
            all_goals go_wp2_with fail
            all_goals (go_roundw; (case rel => exact ⟨k + 1, by omega, (by first | rfl | go_num), HX2, HBn⟩); (case measure => simp [intOf] <;> omega))
          · have HX2 := Lk.mk (HF.out (HD.out.trans (decide_eq_false (by omega))))
            have hb1 : ((ql : Int) != r) = true := bne_iff_ne.2 hq
            have hu : undef = Value.tuple #[] := rfl
            clear HT HF HD
            subst c0
            go_upto_region 9 with fail
            first | (go_region_with (go_at_call 21; refine (CR _).mono ?_; rintro e w2 ⟨rfl, HB2⟩; obtain ⟨e0, e1⟩ := HZ.out w2 HB2; have HBn := Lk.mk (HBa.out.drew.trans (HB2.out.mono HBa.out.drew.size)))) | fail
            all_goals go_wp2
            all_goals go_ret
            all_goals exact ⟨ret_bool HX2.out.symm, HBn⟩
        by_cases c4 : qc = 4
        · by_cases hq : ql = 0
          · have HX2 := Lk.mk (HT.out (HD.out.trans (decide_eq_true (.inr ⟨by omega, hq⟩))))
            clear HT HF HD
            subst c4 hq
            go_upto_region 9 with fail
            go_quiet (fail)
            have HBn := Lk.mk (show Below w.heap.size w (wa.drewN nq) from ⟨HBa.out.os, HBa.out.tape, HBa.out.output, HBa.out.size, HBa.out.block⟩)
            go_wp2_with fail
            go_roundw
            case rel => exact ⟨k + 1, by omega, (by first | rfl | go_num), HX2, HBn⟩
            case measure => simp [intOf] <;> omega
          · have HX2 := Lk.mk (HF.out (HD.out.trans (decide_eq_false (by omega))))
            have hb1 : ((ql : Int) != 0) = true := bne_iff_ne.2 (by omega)
            clear HT HF HD
            subst c4
            go_upto_region 9 with fail
            go_quiet (fail)
            have HBn := Lk.mk (show Below w.heap.size w (wa.drewN nq) from ⟨HBa.out.os, HBa.out.tape, HBa.out.output, HBa.out.size, HBa.out.block⟩)
            all_goals go_wp2
            all_goals go_ret
            all_goals exact ⟨ret_bool HX2.out.symm, HBn⟩
        by_cases c5 : qc = 5
        · by_cases hq : ql = 0
          · have HX2 := Lk.mk (HT.out (HD.out.trans (decide_eq_true (.inr ⟨by omega, hq⟩))))
            clear HT HF HD
            subst c5 hq
            go_upto_region 9 with fail
            go_quiet (fail)
            have HBn := Lk.mk (show Below w.heap.size w (wa.drewN nq) from ⟨HBa.out.os, HBa.out.tape, HBa.out.output, HBa.out.size, HBa.out.block⟩)
            go_wp2_with fail
            go_roundw
            case rel => exact ⟨k + 1, by omega, (by first | rfl | go_num), HX2, HBn⟩
            case measure => simp [intOf] <;> omega
          · have HX2 := Lk.mk (HF.out (HD.out.trans (decide_eq_false (by omega))))
            have hb1 : ((ql : Int) != 0) = true := bne_iff_ne.2 (by omega)
            clear HT HF HD
            subst c5
            go_upto_region 9 with fail
            go_quiet (fail)
            have HBn := Lk.mk (show Below w.heap.size w (wa.drewN nq) from ⟨HBa.out.os, HBa.out.tape, HBa.out.output, HBa.out.size, HBa.out.block⟩)
            all_goals go_wp2
            all_goals go_ret
            all_goals exact ⟨ret_bool HX2.out.symm, HBn⟩
        · have e0 : (qc != 0) = true := bne_iff_ne.2 c0
          have e4 : (qc != 4) = true := bne_iff_ne.2 c4
          have e5 : (qc != 5) = true := bne_iff_ne.2 c5
          have HX2 := Lk.mk (HF.out (HD.out.trans (decide_eq_false (by omega))))
          clear HT HF HD CR
          go_wp2
          go_ret
          exact ⟨ret_bool HX2.out.symm, HBa⟩
      · obtain rfl : k = n := by omega
        have he := Lk.mk (fitA_true (vs := vs) (ds := us) ⟨by rw [HN.out, HM.out], fun i hh => HP.out i (by have := HN.out; omega) hh⟩)
        go_wp2
        go_ret
        exact ⟨ret_bool he.out.symm, HB⟩
  · have hf := Lk.mk (fitA_false (fun h => hne (by rw [← hn, ← hm]; exact h.1)))
    clear hn hm
    go_wp2
    go_ret
    exact ⟨ret_bool hf.out.symm, ⟨Below.refl _ _⟩⟩
end Go.Proofs.Ytkkeamlpfpcbfaa.Vy

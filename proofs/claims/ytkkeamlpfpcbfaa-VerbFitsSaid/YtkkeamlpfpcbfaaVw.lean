/-
  Lists of verbs compared.
-/
import Derived.Test.YtkkeamlpfpcbfaaVt
import Derived.Test.YtkkeamlpfpcbfaaVl
namespace Go.Proofs.Ytkkeamlpfpcbfaa.Vw
open Go.ChangeShapes Go.WideShapes Go.ChangeAt Go.RowKit Ga Va Vb Vs Vt
set_option linter.unusedVariables false
set_option linter.unusedSimpArgs false
set_option maxHeartbeats 4000000
set_option maxRecDepth 10000
structure Vp where
  v : Vv
  A : Option Addr
  l : Nat
  c : Nat
def VCells (w : World) (g i : Nat) (p : Vp) : Prop := (World.cell? w (Addr.mk g (i * 9) none) = some (Value.int IntKind.i64 p.v.k) ∧ World.cell? w (Addr.mk g ((i * 9) + 1) none) = some (Value.int IntKind.i64 p.v.nd) ∧ World.cell? w (Addr.mk g ((i * 9) + 2) none) = some (Value.int IntKind.i64 p.v.a) ∧ World.cell? w (Addr.mk g ((i * 9) + 3) none) = some (Value.int IntKind.i64 p.v.n) ∧ World.cell? w (Addr.mk g ((i * 9) + 4) none) = some (Value.int IntKind.u64 p.v.o) ∧ World.cell? w (Addr.mk g ((i * 9) + 5) none) = some (Value.int IntKind.u64 p.v.ne) ∧ World.cell? w (Addr.mk g ((i * 9) + 6) none) = some (Value.slice p.A p.l p.c) ∧ World.cell? w (Addr.mk g ((i * 9) + 7) none) = some (Value.int IntKind.u64 p.v.ky) ∧ World.cell? w (Addr.mk g ((i * 9) + 8) none) = some (Value.int IntKind.i64 p.v.bo))
def VWords (w : World) (p : Vp) : Prop := p.v.s.length = p.l ∧ p.l ≤ 4294967296 ∧ Lies .u64 w w.heap.size p.A p.v.s
def VRow (w : World) (A : Option Addr) (vs : List Vp) : Prop := 0 < vs.length → ∃ g, A = some ⟨g, 0, none⟩ ∧ ∀ i (h : i < vs.length), VCells w g i vs[i] ∧ VWords w vs[i]
theorem VCells.on {w w' : World} {g i : Nat} {p : Vp} (h : VCells w g i p) (hb : Below w.heap.size w w') : VCells w' g i p := by
  obtain ⟨h0, h1, h2, h3, h4, h5, h6, h7, h8⟩ := h
  exact ⟨(hb.cell (block_lt_of_cell h0)).trans h0, (hb.cell (block_lt_of_cell h1)).trans h1, (hb.cell (block_lt_of_cell h2)).trans h2, (hb.cell (block_lt_of_cell h3)).trans h3, (hb.cell (block_lt_of_cell h4)).trans h4, (hb.cell (block_lt_of_cell h5)).trans h5, (hb.cell (block_lt_of_cell h6)).trans h6, (hb.cell (block_lt_of_cell h7)).trans h7, (hb.cell (block_lt_of_cell h8)).trans h8⟩
theorem VWords.on {w w' : World} {p : Vp} (h : VWords w p) (hb : Below w.heap.size w w') : VWords w' p := ⟨h.1, h.2.1, h.2.2.on_ hb⟩
theorem VRow.on {w w' : World} {A : Option Addr} {vs : List Vp} (h : VRow w A vs) (hb : Below w.heap.size w w') : VRow w' A vs := fun hl => by
  obtain ⟨g, e, hc⟩ := h hl
  exact ⟨g, e, fun i hi => ⟨(hc i hi).1.on hb, (hc i hi).2.on hb⟩⟩
def AllSame (vs us : List Vp) : Prop := vs.length = us.length ∧ ∀ i, (h : i < vs.length ∧ i < us.length) → sameB (vs[i]'h.1).v (us[i]'h.2).v = true
noncomputable def allB (vs us : List Vp) : Bool := @decide (AllSame vs us) (Classical.propDecidable _)
theorem allB_true {vs us : List Vp} (h : AllSame vs us) : allB vs us = true := by unfold allB; exact @decide_eq_true _ (Classical.propDecidable _) h
theorem allB_false {vs us : List Vp} (h : ¬ AllSame vs us) : allB vs us = false := by unfold allB; exact @decide_eq_false _ (Classical.propDecidable _) h

theorem eqf_any (A1 A2 : Option Addr) (n c1 m c2 : Nat) (vs us : List Vp) (w : World) (hn : vs.length = n) (hm : us.length = m) (H1 : Lk (VRow w A1 vs)) (H2 : Lk (VRow w A2 us)) (hn2 : n ≤ 4294967296) (hm2 : m ≤ 4294967296) :
    Calls Try.prog 41 #[.slice A1 n c1, .slice A2 m c2, .func (.func 24) #[] #[]] w fun e w' => e = .returned (.bool (allB vs us)) ∧ Lk (Below w.heap.size w w') := by
  go_enter Try.func41, Try.ntmps41
  by_cases hne : n = m
  · subst hne
    have HN := Lk.mk hn
    have HM := Lk.mk hm
    have h0 : Lk (Below w.heap.size w w) := ⟨Below.refl _ _⟩
    have HP0 : Lk (∀ i, i < 0 → (h : i < vs.length ∧ i < us.length) → sameB (vs[i]'h.1).v (us[i]'h.2).v = true) := ⟨fun i hi => absurd hi (by omega)⟩
    clear hn hm
    go_wp2_with fail
    go_loopw [17] (fun s wr => ∃ k : Nat, k ≤ n ∧ s = .int .i64 k ∧ Lk (∀ i, i < k → (h : i < vs.length ∧ i < us.length) → sameB (vs[i]'h.1).v (us[i]'h.2).v = true) ∧ Lk (Below w.heap.size w wr)) (fun s _ => n - (intOf s).toNat)
    case atStart => exact ⟨0, by omega, rfl, HP0, h0⟩
    case round =>
      clear HP0 h0
      obtain ⟨k, hk, rfl, HP, HB⟩ := hrel
      by_cases hlt : k < n
      · have i1 : k < vs.length := by have := HN.out; omega
        have i2 : k < us.length := by have := HM.out; omega
        obtain ⟨g1, rfl, hc1⟩ := H1.out (by omega)
        obtain ⟨g2, rfl, hc2⟩ := H2.out (by omega)
        have HV1 := Lk.mk (((hc1 k i1).1.on HB.out))
        have HV2 := Lk.mk (((hc2 k i2).1.on HB.out))
        have HW1 := Lk.mk (((hc1 k i1).2.on HB.out))
        have HW2 := Lk.mk (((hc2 k i2).2.on HB.out))
        have HF := Lk.mk (fun (h : sameB vs[k].v us[k].v = false) => allB_false (fun (hA : AllSame vs us) => by have := hA.2 k ⟨i1, i2⟩; rw [h] at this; cases this))
        have HT := Lk.mk (fun (h : sameB vs[k].v us[k].v = true) (i : Nat) (hi : i < k + 1) (hh : i < vs.length ∧ i < us.length) => if hik : i < k then HP.out i hik hh else by
          obtain rfl : i = k := by omega
          exact h)
        clear hc1 hc2 HP
        generalize vs[k] = p at *
        generalize us[k] = q at *
        obtain ⟨⟨pk, pnd, pa, pn, po, pne, pky, pbo, ps⟩, pA, pl, pc⟩ := p
        obtain ⟨⟨qk, qnd, qa, qn, qo, qne, qky, qbo, qs⟩, qA, ql, qc⟩ := q
        obtain ⟨x0, x1, x2, x3, x4, x5, x6, x7, x8⟩ := HV1.out
        obtain ⟨y0, y1, y2, y3, y4, y5, y6, y7, y8⟩ := HV2.out
        dsimp only at x0 x1 x2 x3 x4 x5 x6 x7 x8 y0 y1 y2 y3 y4 y5 y6 y7 y8
        clear HV1 i1 i2
        go_upto_region 6 with fail
        clear x0 x1 x2 x3 x4 x5 x6 x7 x8 y0 y1 y2 y3 y4 y5 y6 y7 y8
        have hba := (Below.refl wr.heap.size wr).alloc (Nat.le_refl _) (.cells #[Value.int IntKind.i64 pk, Value.int IntKind.i64 pnd, Value.int IntKind.i64 pa, Value.int IntKind.i64 pn, Value.int IntKind.u64 po, Value.int IntKind.u64 pne, Value.slice pA pl pc, Value.int IntKind.u64 pky, Value.int IntKind.i64 pbo] 25)
        have HBa := Lk.mk (HB.out.trans (hba.mono HB.out.size))
        have HXa := Lk.mk (Bx.alloc wr pk pnd pa pn po pne pA pl pc pky pbo 25)
        have HWa1 := Lk.mk (HW1.out.on hba)
        have HWa2 := Lk.mk (HW2.out.on hba)
        have HVa2 := Lk.mk (VCells.on (p := ⟨⟨qk, qnd, qa, qn, qo, qne, qky, qbo, qs⟩, qA, ql, qc⟩) HV2.out hba)
        have hsa : (wr.alloc (.cells #[Value.int IntKind.i64 pk, Value.int IntKind.i64 pnd, Value.int IntKind.i64 pa, Value.int IntKind.i64 pn, Value.int IntKind.u64 po, Value.int IntKind.u64 pne, Value.slice pA pl pc, Value.int IntKind.u64 pky, Value.int IntKind.i64 pbo] 25)).heap.size = wr.heap.size + 1 := by simp
        clear hba HB HW1 HW2 HV2
        generalize wr.alloc _ = wa at *
        obtain ⟨y0, y1, y2, y3, y4, y5, y6, y7, y8⟩ := HVa2.out
        dsimp only at y0 y1 y2 y3 y4 y5 y6 y7 y8
        go_upto_region 7 with fail
        clear y0 y1 y2 y3 y4 y5 y6 y7 y8
        have hbb := (Below.refl wa.heap.size wa).alloc (Nat.le_refl _) (.cells #[Value.int IntKind.i64 qk, Value.int IntKind.i64 qnd, Value.int IntKind.i64 qa, Value.int IntKind.i64 qn, Value.int IntKind.u64 qo, Value.int IntKind.u64 qne, Value.slice qA ql qc, Value.int IntKind.u64 qky, Value.int IntKind.i64 qbo] 25)
        have HBb := Lk.mk (HBa.out.trans (hbb.mono HBa.out.size))
        have HXb := Lk.mk (HXa.out.on hbb)
        have HYb := Lk.mk (Bx.alloc wa qk qnd qa qn qo qne qA ql qc qky qbo 25)
        rw [hsa] at HYb
        have HWb1 := Lk.mk (HWa1.out.on hbb)
        have HWb2 := Lk.mk (HWa2.out.on hbb)
        clear hbb HBa HXa HWa1 HWa2 HVa2 hsa
        generalize wa.alloc _ = wb at *
        have CS := Same_any pk pnd pa pn po pne pA pl pc pky pbo ps qk qnd qa qn qo qne qA ql qc qky qbo qs wb HWb1.out.1 HWb2.out.1 ⟨HWb1.out.2.2⟩ ⟨HWb2.out.2.2⟩ HWb1.out.2.1 HWb2.out.2.1
        obtain ⟨x0, x1, x2, x3, x4, x5, x6, x7, x8⟩ := HXb.out
        obtain ⟨y0, y1, y2, y3, y4, y5, y6, y7, y8⟩ := HYb.out
        cases hs : sameB ⟨pk, pnd, pa, pn, po, pne, pky, pbo, ps⟩ ⟨qk, qnd, qa, qn, qo, qne, qky, qbo, qs⟩ with
        | true =>
          rw [hs] at CS
          have HT2 := Lk.mk (HT.out hs)
          clear HT HF hs
          go_wp2_with fail
          refine CS.mono ?_
          rintro e wz ⟨rfl, HBz⟩
          have HBn := Lk.mk (HBb.out.trans (HBz.out.mono HBb.out.size))
          clear HBb HBz HXb HYb HWb1 HWb2 CS x0 x1 x2 x3 x4 x5 x6 x7 x8 y0 y1 y2 y3 y4 y5 y6 y7 y8
          go_wp2_with fail
          go_roundw
          case rel => exact ⟨k + 1, by omega, (by first | rfl | go_num), HT2, HBn⟩
          case measure => simp [intOf] <;> omega
        | false =>
          rw [hs] at CS
          have HF2 := Lk.mk (HF.out hs)
          clear HT HF hs
          go_wp2_with fail
          refine CS.mono ?_
          rintro e wz ⟨rfl, HBz⟩
          have HBn := Lk.mk (HBb.out.trans (HBz.out.mono HBb.out.size))
          go_wp2
          go_ret
          exact ⟨ret_bool HF2.out.symm, HBn⟩
      · obtain rfl : k = n := by omega
        have he := Lk.mk (allB_true (vs := vs) (us := us) ⟨by rw [HN.out, HM.out], fun i hh => HP.out i (by have := HN.out; omega) hh⟩)
        go_wp2
        go_ret
        exact ⟨ret_bool he.out.symm, HB⟩
  · have hf := Lk.mk (allB_false (fun h => hne (by rw [← hn, ← hm]; exact h.1)))
    clear hn hm
    go_wp2
    go_ret
    exact ⟨ret_bool hf.out.symm, ⟨Below.refl _ _⟩⟩

section
variable {pk pnd pa pn po pne : Int} {pA : Option Addr} {pl pc : Nat} {pky pbo : Int} {qk qnd qa qn qo qne : Int} {qA : Option Addr} {ql qc : Nat} {qky qbo : Int} {w W w2 : World} {g1 g2 i1 i2 : Nat}
theorem two_on (h : (World.cell? W (Addr.mk g1 i1 none) = some (Value.int IntKind.i64 pk) ∧ World.cell? W (Addr.mk g1 (i1 + 1) none) = some (Value.int IntKind.i64 pnd) ∧ World.cell? W (Addr.mk g1 (i1 + 2) none) = some (Value.int IntKind.i64 pa) ∧ World.cell? W (Addr.mk g1 (i1 + 3) none) = some (Value.int IntKind.i64 pn) ∧ World.cell? W (Addr.mk g1 (i1 + 4) none) = some (Value.int IntKind.u64 po) ∧ World.cell? W (Addr.mk g1 (i1 + 5) none) = some (Value.int IntKind.u64 pne) ∧ World.cell? W (Addr.mk g1 (i1 + 6) none) = some (Value.slice pA pl pc) ∧ World.cell? W (Addr.mk g1 (i1 + 7) none) = some (Value.int IntKind.u64 pky) ∧ World.cell? W (Addr.mk g1 (i1 + 8) none) = some (Value.int IntKind.i64 pbo)) ∧ (World.cell? W (Addr.mk g2 i2 none) = some (Value.int IntKind.i64 qk) ∧ World.cell? W (Addr.mk g2 (i2 + 1) none) = some (Value.int IntKind.i64 qnd) ∧ World.cell? W (Addr.mk g2 (i2 + 2) none) = some (Value.int IntKind.i64 qa) ∧ World.cell? W (Addr.mk g2 (i2 + 3) none) = some (Value.int IntKind.i64 qn) ∧ World.cell? W (Addr.mk g2 (i2 + 4) none) = some (Value.int IntKind.u64 qo) ∧ World.cell? W (Addr.mk g2 (i2 + 5) none) = some (Value.int IntKind.u64 qne) ∧ World.cell? W (Addr.mk g2 (i2 + 6) none) = some (Value.slice qA ql qc) ∧ World.cell? W (Addr.mk g2 (i2 + 7) none) = some (Value.int IntKind.u64 qky) ∧ World.cell? W (Addr.mk g2 (i2 + 8) none) = some (Value.int IntKind.i64 qbo)) ∧ Lk (Below w.heap.size w W)) (hb : Lk (Below W.heap.size W w2)) : (World.cell? w2 (Addr.mk g1 i1 none) = some (Value.int IntKind.i64 pk) ∧ World.cell? w2 (Addr.mk g1 (i1 + 1) none) = some (Value.int IntKind.i64 pnd) ∧ World.cell? w2 (Addr.mk g1 (i1 + 2) none) = some (Value.int IntKind.i64 pa) ∧ World.cell? w2 (Addr.mk g1 (i1 + 3) none) = some (Value.int IntKind.i64 pn) ∧ World.cell? w2 (Addr.mk g1 (i1 + 4) none) = some (Value.int IntKind.u64 po) ∧ World.cell? w2 (Addr.mk g1 (i1 + 5) none) = some (Value.int IntKind.u64 pne) ∧ World.cell? w2 (Addr.mk g1 (i1 + 6) none) = some (Value.slice pA pl pc) ∧ World.cell? w2 (Addr.mk g1 (i1 + 7) none) = some (Value.int IntKind.u64 pky) ∧ World.cell? w2 (Addr.mk g1 (i1 + 8) none) = some (Value.int IntKind.i64 pbo)) ∧ (World.cell? w2 (Addr.mk g2 i2 none) = some (Value.int IntKind.i64 qk) ∧ World.cell? w2 (Addr.mk g2 (i2 + 1) none) = some (Value.int IntKind.i64 qnd) ∧ World.cell? w2 (Addr.mk g2 (i2 + 2) none) = some (Value.int IntKind.i64 qa) ∧ World.cell? w2 (Addr.mk g2 (i2 + 3) none) = some (Value.int IntKind.i64 qn) ∧ World.cell? w2 (Addr.mk g2 (i2 + 4) none) = some (Value.int IntKind.u64 qo) ∧ World.cell? w2 (Addr.mk g2 (i2 + 5) none) = some (Value.int IntKind.u64 qne) ∧ World.cell? w2 (Addr.mk g2 (i2 + 6) none) = some (Value.slice qA ql qc) ∧ World.cell? w2 (Addr.mk g2 (i2 + 7) none) = some (Value.int IntKind.u64 qky) ∧ World.cell? w2 (Addr.mk g2 (i2 + 8) none) = some (Value.int IntKind.i64 qbo)) ∧ Lk (Below w.heap.size w w2) := by
  obtain ⟨⟨h0, h1, h2, h3, h4, h5, h6, h7, h8⟩, ⟨k0, k1, k2, k3, k4, k5, k6, k7, k8⟩, hB⟩ := h
  have hb := hb.out
  exact ⟨⟨(hb.cell (block_lt_of_cell h0)).trans h0, (hb.cell (block_lt_of_cell h1)).trans h1, (hb.cell (block_lt_of_cell h2)).trans h2, (hb.cell (block_lt_of_cell h3)).trans h3, (hb.cell (block_lt_of_cell h4)).trans h4, (hb.cell (block_lt_of_cell h5)).trans h5, (hb.cell (block_lt_of_cell h6)).trans h6, (hb.cell (block_lt_of_cell h7)).trans h7, (hb.cell (block_lt_of_cell h8)).trans h8⟩,
    ⟨(hb.cell (block_lt_of_cell k0)).trans k0, (hb.cell (block_lt_of_cell k1)).trans k1, (hb.cell (block_lt_of_cell k2)).trans k2, (hb.cell (block_lt_of_cell k3)).trans k3, (hb.cell (block_lt_of_cell k4)).trans k4, (hb.cell (block_lt_of_cell k5)).trans k5, (hb.cell (block_lt_of_cell k6)).trans k6, (hb.cell (block_lt_of_cell k7)).trans k7, (hb.cell (block_lt_of_cell k8)).trans k8⟩, ⟨hB.out.trans (hb.mono hB.out.size)⟩⟩
theorem two_below (h : (World.cell? W (Addr.mk g1 i1 none) = some (Value.int IntKind.i64 pk) ∧ World.cell? W (Addr.mk g1 (i1 + 1) none) = some (Value.int IntKind.i64 pnd) ∧ World.cell? W (Addr.mk g1 (i1 + 2) none) = some (Value.int IntKind.i64 pa) ∧ World.cell? W (Addr.mk g1 (i1 + 3) none) = some (Value.int IntKind.i64 pn) ∧ World.cell? W (Addr.mk g1 (i1 + 4) none) = some (Value.int IntKind.u64 po) ∧ World.cell? W (Addr.mk g1 (i1 + 5) none) = some (Value.int IntKind.u64 pne) ∧ World.cell? W (Addr.mk g1 (i1 + 6) none) = some (Value.slice pA pl pc) ∧ World.cell? W (Addr.mk g1 (i1 + 7) none) = some (Value.int IntKind.u64 pky) ∧ World.cell? W (Addr.mk g1 (i1 + 8) none) = some (Value.int IntKind.i64 pbo)) ∧ (World.cell? W (Addr.mk g2 i2 none) = some (Value.int IntKind.i64 qk) ∧ World.cell? W (Addr.mk g2 (i2 + 1) none) = some (Value.int IntKind.i64 qnd) ∧ World.cell? W (Addr.mk g2 (i2 + 2) none) = some (Value.int IntKind.i64 qa) ∧ World.cell? W (Addr.mk g2 (i2 + 3) none) = some (Value.int IntKind.i64 qn) ∧ World.cell? W (Addr.mk g2 (i2 + 4) none) = some (Value.int IntKind.u64 qo) ∧ World.cell? W (Addr.mk g2 (i2 + 5) none) = some (Value.int IntKind.u64 qne) ∧ World.cell? W (Addr.mk g2 (i2 + 6) none) = some (Value.slice qA ql qc) ∧ World.cell? W (Addr.mk g2 (i2 + 7) none) = some (Value.int IntKind.u64 qky) ∧ World.cell? W (Addr.mk g2 (i2 + 8) none) = some (Value.int IntKind.i64 qbo)) ∧ Lk (Below w.heap.size w W)) : Lk (Below w.heap.size w W) := h.2.2
theorem two_drew (h1 : (World.cell? W (Addr.mk g1 i1 none) = some (Value.int IntKind.i64 pk) ∧ World.cell? W (Addr.mk g1 (i1 + 1) none) = some (Value.int IntKind.i64 pnd) ∧ World.cell? W (Addr.mk g1 (i1 + 2) none) = some (Value.int IntKind.i64 pa) ∧ World.cell? W (Addr.mk g1 (i1 + 3) none) = some (Value.int IntKind.i64 pn) ∧ World.cell? W (Addr.mk g1 (i1 + 4) none) = some (Value.int IntKind.u64 po) ∧ World.cell? W (Addr.mk g1 (i1 + 5) none) = some (Value.int IntKind.u64 pne) ∧ World.cell? W (Addr.mk g1 (i1 + 6) none) = some (Value.slice pA pl pc) ∧ World.cell? W (Addr.mk g1 (i1 + 7) none) = some (Value.int IntKind.u64 pky) ∧ World.cell? W (Addr.mk g1 (i1 + 8) none) = some (Value.int IntKind.i64 pbo))) (h2 : (World.cell? W (Addr.mk g2 i2 none) = some (Value.int IntKind.i64 qk) ∧ World.cell? W (Addr.mk g2 (i2 + 1) none) = some (Value.int IntKind.i64 qnd) ∧ World.cell? W (Addr.mk g2 (i2 + 2) none) = some (Value.int IntKind.i64 qa) ∧ World.cell? W (Addr.mk g2 (i2 + 3) none) = some (Value.int IntKind.i64 qn) ∧ World.cell? W (Addr.mk g2 (i2 + 4) none) = some (Value.int IntKind.u64 qo) ∧ World.cell? W (Addr.mk g2 (i2 + 5) none) = some (Value.int IntKind.u64 qne) ∧ World.cell? W (Addr.mk g2 (i2 + 6) none) = some (Value.slice qA ql qc) ∧ World.cell? W (Addr.mk g2 (i2 + 7) none) = some (Value.int IntKind.u64 qky) ∧ World.cell? W (Addr.mk g2 (i2 + 8) none) = some (Value.int IntKind.i64 qbo))) (hB : Lk (Below w.heap.size w W)) : (World.cell? W.drew (Addr.mk g1 i1 none) = some (Value.int IntKind.i64 pk) ∧ World.cell? W.drew (Addr.mk g1 (i1 + 1) none) = some (Value.int IntKind.i64 pnd) ∧ World.cell? W.drew (Addr.mk g1 (i1 + 2) none) = some (Value.int IntKind.i64 pa) ∧ World.cell? W.drew (Addr.mk g1 (i1 + 3) none) = some (Value.int IntKind.i64 pn) ∧ World.cell? W.drew (Addr.mk g1 (i1 + 4) none) = some (Value.int IntKind.u64 po) ∧ World.cell? W.drew (Addr.mk g1 (i1 + 5) none) = some (Value.int IntKind.u64 pne) ∧ World.cell? W.drew (Addr.mk g1 (i1 + 6) none) = some (Value.slice pA pl pc) ∧ World.cell? W.drew (Addr.mk g1 (i1 + 7) none) = some (Value.int IntKind.u64 pky) ∧ World.cell? W.drew (Addr.mk g1 (i1 + 8) none) = some (Value.int IntKind.i64 pbo)) ∧ (World.cell? W.drew (Addr.mk g2 i2 none) = some (Value.int IntKind.i64 qk) ∧ World.cell? W.drew (Addr.mk g2 (i2 + 1) none) = some (Value.int IntKind.i64 qnd) ∧ World.cell? W.drew (Addr.mk g2 (i2 + 2) none) = some (Value.int IntKind.i64 qa) ∧ World.cell? W.drew (Addr.mk g2 (i2 + 3) none) = some (Value.int IntKind.i64 qn) ∧ World.cell? W.drew (Addr.mk g2 (i2 + 4) none) = some (Value.int IntKind.u64 qo) ∧ World.cell? W.drew (Addr.mk g2 (i2 + 5) none) = some (Value.int IntKind.u64 qne) ∧ World.cell? W.drew (Addr.mk g2 (i2 + 6) none) = some (Value.slice qA ql qc) ∧ World.cell? W.drew (Addr.mk g2 (i2 + 7) none) = some (Value.int IntKind.u64 qky) ∧ World.cell? W.drew (Addr.mk g2 (i2 + 8) none) = some (Value.int IntKind.i64 qbo)) ∧ Lk (Below w.heap.size w W.drew) := ⟨h1, h2, ⟨hB.out.drew⟩⟩
end
theorem SameAll_any (A1 A2 : Option Addr) (n c1 m c2 : Nat) (vs us : List Vp) (w : World) (hn : vs.length = n) (hm : us.length = m) (H1 : Lk (VRow w A1 vs)) (H2 : Lk (VRow w A2 us)) (hn2 : n ≤ 4294967296) (hm2 : m ≤ 4294967296) :
    Calls Try.prog 26 #[.slice A1 n c1, .slice A2 m c2] w fun e w' => e = .returned (.bool (allB vs us)) ∧ Lk (Below w.heap.size w w') := by
  have C := eqf_any A1 A2 n c1 m c2 vs us w hn hm H1 H2 hn2 hm2
  clear hn hm H1 H2
  go_enter Try.func26, Try.ntmps26
  go_wp2_with fail
  refine C.mono ?_
  rintro e w2 ⟨rfl, HB⟩
  go_wp2
  go_ret
  exact ⟨rfl, HB⟩
theorem SameAllR_any (A1 A2 : Option Addr) (n c1 m c2 : Nat) (vs us : List Vp) (w : World) (hn : vs.length = n) (hm : us.length = m) (H1 : Lk (VRow w A1 vs)) (H2 : Lk (VRow w A2 us)) (hn2 : n ≤ 4294967296) (hm2 : m ≤ 4294967296) :
    Calls Try.prog 27 #[.slice A1 n c1, .slice A2 m c2] w fun e w' => e = .returned (.bool (allB vs us)) ∧ Lk (Below w.heap.size w w') := by
  go_enter Try.func27, Try.ntmps27
  by_cases hne : n = m
  · subst hne
    have HN := Lk.mk hn
    have HM := Lk.mk hm
    have h0 : Lk (Below w.heap.size w w) := ⟨Below.refl _ _⟩
    have HP0 : Lk (∀ i, i < 0 → (h : i < vs.length ∧ i < us.length) → sameB (vs[i]'h.1).v (us[i]'h.2).v = true) := ⟨fun i hi => absurd hi (by omega)⟩
    clear hn hm
    go_wp2_with fail
    go_loopw [5] (fun s wr => ∃ k : Nat, k ≤ n ∧ s = .int .i64 k ∧ Lk (∀ i, i < k → (h : i < vs.length ∧ i < us.length) → sameB (vs[i]'h.1).v (us[i]'h.2).v = true) ∧ Lk (Below w.heap.size w wr)) (fun s _ => n - (intOf s).toNat)
    case atStart => exact ⟨0, by omega, rfl, HP0, h0⟩
    case round =>
      clear HP0 h0
      obtain ⟨k, hk, rfl, HP, HB⟩ := hrel
      by_cases hlt : k < n
      · have i1 : k < vs.length := by have := HN.out; omega
        have i2 : k < us.length := by have := HM.out; omega
        obtain ⟨g1, rfl, hc1⟩ := H1.out (by omega)
        obtain ⟨g2, rfl, hc2⟩ := H2.out (by omega)
        have HV1 := Lk.mk (((hc1 k i1).1.on HB.out))
        have HV2 := Lk.mk (((hc2 k i2).1.on HB.out))
        have HW1 := Lk.mk (((hc1 k i1).2.on HB.out))
        have HW2 := Lk.mk (((hc2 k i2).2.on HB.out))
        have HF := Lk.mk (fun (h : sameB vs[k].v us[k].v = false) => allB_false (fun (hA : AllSame vs us) => by have := hA.2 k ⟨i1, i2⟩; rw [h] at this; cases this))
        have HT := Lk.mk (fun (h : sameB vs[k].v us[k].v = true) (i : Nat) (hi : i < k + 1) (hh : i < vs.length ∧ i < us.length) => if hik : i < k then HP.out i hik hh else by
          obtain rfl : i = k := by omega
          exact h)
        have HW0 : ∀ {wb : World}, Lk (Below w.heap.size w wb) → Lk (Lies .u64 wb wb.heap.size vs[k].A vs[k].v.s) ∧ Lk (Lies .u64 wb wb.heap.size us[k].A us[k].v.s) := fun hb => ⟨⟨(hc1 k i1).2.2.2.on_ hb.out⟩, ⟨(hc2 k i2).2.2.2.on_ hb.out⟩⟩
        clear hc1 hc2 HP
        generalize vs[k] = p at *
        generalize us[k] = q at *
        obtain ⟨⟨pk, pnd, pa, pn, po, pne, pky, pbo, ps⟩, pA, pl, pc⟩ := p
        obtain ⟨⟨qk, qnd, qa, qn, qo, qne, qky, qbo, qs⟩, qA, ql, qc⟩ := q
        obtain ⟨x0, x1, x2, x3, x4, x5, x6, x7, x8⟩ := HV1.out
        obtain ⟨y0, y1, y2, y3, y4, y5, y6, y7, y8⟩ := HV2.out
        dsimp only at x0 x1 x2 x3 x4 x5 x6 x7 x8 y0 y1 y2 y3 y4 y5 y6 y7 y8
        clear i1 i2
        have HH := Lk.mk (two_drew (VCells.on (p := ⟨⟨pk, pnd, pa, pn, po, pne, pky, pbo, ps⟩, pA, pl, pc⟩) HV1.out (Below.refl _ _)) (VCells.on (p := ⟨⟨qk, qnd, qa, qn, qo, qne, qky, qbo, qs⟩, qA, ql, qc⟩) HV2.out (Below.refl _ _)) HB)
        have CS := Lk.mk (fun (wb : World) (hb : Lk (Below w.heap.size w wb)) => SameR_any pk pnd pa pn po pne pA pl pc pky pbo ps qk qnd qa qn qo qne qA ql qc qky qbo qs wb HW1.out.1 HW2.out.1 (HW0 hb).1 (HW0 hb).2 HW1.out.2.1 HW2.out.2.1)
        clear x0 x1 x2 x3 x4 x5 x6 x7 x8 y0 y1 y2 y3 y4 y5 y6 y7 y8 HV1 HV2 HW1 HW2
        cases hs : sameB ⟨pk, pnd, pa, pn, po, pne, pky, pbo, ps⟩ ⟨qk, qnd, qa, qn, qo, qne, qky, qbo, qs⟩ with
        | true =>
          rw [hs] at CS
          have HX2 := Lk.mk (HT.out hs)
          clear HT HF hs
          go_wp2_with fail
          go_region_held3 (fun W' => (World.cell? W' (Addr.mk g1 (k * 9) none) = some (Value.int IntKind.i64 pk) ∧ World.cell? W' (Addr.mk g1 ((k * 9) + 1) none) = some (Value.int IntKind.i64 pnd) ∧ World.cell? W' (Addr.mk g1 ((k * 9) + 2) none) = some (Value.int IntKind.i64 pa) ∧ World.cell? W' (Addr.mk g1 ((k * 9) + 3) none) = some (Value.int IntKind.i64 pn) ∧ World.cell? W' (Addr.mk g1 ((k * 9) + 4) none) = some (Value.int IntKind.u64 po) ∧ World.cell? W' (Addr.mk g1 ((k * 9) + 5) none) = some (Value.int IntKind.u64 pne) ∧ World.cell? W' (Addr.mk g1 ((k * 9) + 6) none) = some (Value.slice pA pl pc) ∧ World.cell? W' (Addr.mk g1 ((k * 9) + 7) none) = some (Value.int IntKind.u64 pky) ∧ World.cell? W' (Addr.mk g1 ((k * 9) + 8) none) = some (Value.int IntKind.i64 pbo)) ∧ (World.cell? W' (Addr.mk g2 (k * 9) none) = some (Value.int IntKind.i64 qk) ∧ World.cell? W' (Addr.mk g2 ((k * 9) + 1) none) = some (Value.int IntKind.i64 qnd) ∧ World.cell? W' (Addr.mk g2 ((k * 9) + 2) none) = some (Value.int IntKind.i64 qa) ∧ World.cell? W' (Addr.mk g2 ((k * 9) + 3) none) = some (Value.int IntKind.i64 qn) ∧ World.cell? W' (Addr.mk g2 ((k * 9) + 4) none) = some (Value.int IntKind.u64 qo) ∧ World.cell? W' (Addr.mk g2 ((k * 9) + 5) none) = some (Value.int IntKind.u64 qne) ∧ World.cell? W' (Addr.mk g2 ((k * 9) + 6) none) = some (Value.slice qA ql qc) ∧ World.cell? W' (Addr.mk g2 ((k * 9) + 7) none) = some (Value.int IntKind.u64 qky) ∧ World.cell? W' (Addr.mk g2 ((k * 9) + 8) none) = some (Value.int IntKind.i64 qbo)) ∧ Lk (Below w.heap.size w W')) (first | exact HH.out | assumption | exact two_on (by assumption) (by assumption))
            (first
              | (go_at_call 25; refine (CS.out _ ?_).mono ?_; exact two_below (by assumption); rintro e wz ⟨rfl, HBz⟩))
          all_goals have HBn := Lk.mk (two_below (by assumption))
          all_goals go_wp2_with fail
          all_goals go_roundw
          case rel => exact ⟨k + 1, by omega, (by first | rfl | go_num), HX2, HBn.out⟩
          case measure => simp [intOf] <;> omega
        | false =>
          rw [hs] at CS
          have HX2 := Lk.mk (HF.out hs)
          clear HT HF hs
          go_wp2_with fail
          go_region_held3 (fun W' => (World.cell? W' (Addr.mk g1 (k * 9) none) = some (Value.int IntKind.i64 pk) ∧ World.cell? W' (Addr.mk g1 ((k * 9) + 1) none) = some (Value.int IntKind.i64 pnd) ∧ World.cell? W' (Addr.mk g1 ((k * 9) + 2) none) = some (Value.int IntKind.i64 pa) ∧ World.cell? W' (Addr.mk g1 ((k * 9) + 3) none) = some (Value.int IntKind.i64 pn) ∧ World.cell? W' (Addr.mk g1 ((k * 9) + 4) none) = some (Value.int IntKind.u64 po) ∧ World.cell? W' (Addr.mk g1 ((k * 9) + 5) none) = some (Value.int IntKind.u64 pne) ∧ World.cell? W' (Addr.mk g1 ((k * 9) + 6) none) = some (Value.slice pA pl pc) ∧ World.cell? W' (Addr.mk g1 ((k * 9) + 7) none) = some (Value.int IntKind.u64 pky) ∧ World.cell? W' (Addr.mk g1 ((k * 9) + 8) none) = some (Value.int IntKind.i64 pbo)) ∧ (World.cell? W' (Addr.mk g2 (k * 9) none) = some (Value.int IntKind.i64 qk) ∧ World.cell? W' (Addr.mk g2 ((k * 9) + 1) none) = some (Value.int IntKind.i64 qnd) ∧ World.cell? W' (Addr.mk g2 ((k * 9) + 2) none) = some (Value.int IntKind.i64 qa) ∧ World.cell? W' (Addr.mk g2 ((k * 9) + 3) none) = some (Value.int IntKind.i64 qn) ∧ World.cell? W' (Addr.mk g2 ((k * 9) + 4) none) = some (Value.int IntKind.u64 qo) ∧ World.cell? W' (Addr.mk g2 ((k * 9) + 5) none) = some (Value.int IntKind.u64 qne) ∧ World.cell? W' (Addr.mk g2 ((k * 9) + 6) none) = some (Value.slice qA ql qc) ∧ World.cell? W' (Addr.mk g2 ((k * 9) + 7) none) = some (Value.int IntKind.u64 qky) ∧ World.cell? W' (Addr.mk g2 ((k * 9) + 8) none) = some (Value.int IntKind.i64 qbo)) ∧ Lk (Below w.heap.size w W')) (first | exact HH.out | assumption | exact two_on (by assumption) (by assumption))
            (first
              | (go_at_call 25; refine (CS.out _ ?_).mono ?_; exact two_below (by assumption); rintro e wz ⟨rfl, HBz⟩))
          all_goals have HBn := Lk.mk (two_below (by assumption))
          all_goals go_wp2
          all_goals go_ret
          all_goals exact ⟨ret_bool HX2.out.symm, HBn.out⟩
      · obtain rfl : k = n := by omega
        have he := Lk.mk (allB_true (vs := vs) (us := us) ⟨by rw [HN.out, HM.out], fun i hh => HP.out i (by have := HN.out; omega) hh⟩)
        go_wp2
        go_ret
        exact ⟨ret_bool he.out.symm, HB⟩
  · have hf := Lk.mk (allB_false (fun h => hne (by rw [← hn, ← hm]; exact h.1)))
    clear hn hm
    go_wp2
    go_ret
    exact ⟨ret_bool hf.out.symm, ⟨Below.refl _ _⟩⟩
end Go.Proofs.Ytkkeamlpfpcbfaa.Vw

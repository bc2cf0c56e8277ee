/-
  The reference compares two rows of words.
-/
import Derived.Test.YtacfmkmiikkppaaVb
namespace Go.Proofs.Ytacfmkmiikkppaa.Vs
open Go.ChangeShapes Go.WideShapes Go.ChangeAt Go.RowKit Ga Va Vb
set_option linter.unusedVariables false
set_option linter.unusedSimpArgs false
set_option maxHeartbeats 4000000
theorem lists_ne {l m : List Nat} {k : Nat} (h1 : k < l.length) (h2 : k < m.length) (h : l.getD k 0 ≠ m.getD k 0) : l ≠ m := fun e => h (by rw [e])
theorem lists_eq {l m : List Nat} (hl : l.length = m.length) (h : ∀ j, j < l.length → l.getD j 0 = m.getD j 0) : l = m := by
  apply List.ext_getElem hl
  intro i h1 h2
  have := h i h1
  simpa [List.getD_eq_getElem?_getD, h1, h2] using this

theorem same_any (A1 A2 : Option Addr) (l1 c1 l2 c2 : Nat) (s1 s2 : List Nat) (w : World) (h1 : s1.length = l1) (h2 : s2.length = l2) (H1 : Lk (Lies .u64 w w.heap.size A1 s1)) (H2 : Lk (Lies .u64 w w.heap.size A2 s2)) (hm : l1 ≤ 4294967296) (hm2 : l2 ≤ 4294967296) :
    Calls Try.prog 22 #[.slice A1 l1 c1, .slice A2 l2 c2] w fun e w' => e = .returned (.bool (decide (s1 = s2))) ∧ Lk (Below w.heap.size w w') := by
  go_enter Try.func22, Try.ntmps22
  by_cases hne : l1 = l2
  · subst hne
    have HL1 := Lk.mk h1
    have HL2 := Lk.mk h2
    clear h1 h2
    have h0 : Lk (Below w.heap.size w w) := ⟨Below.refl _ _⟩
    have HP0 : Lk (∀ j, j < 0 → s1.getD j 0 = s2.getD j 0) := ⟨fun j hj => absurd hj (by omega)⟩
    go_wp2_with fail
    go_loopw [5] (fun s wr => ∃ k : Nat, k ≤ l1 ∧ s = .int .i64 k ∧ Lk (∀ j, j < k → s1.getD j 0 = s2.getD j 0) ∧ Lk (Below w.heap.size w wr)) (fun s _ => l1 - (intOf s).toNat)
    case atStart => exact ⟨0, by omega, rfl, HP0, h0⟩
    case round =>
      clear HP0 h0
      obtain ⟨k, hk, rfl, HP, HB⟩ := hrel
      by_cases hlt : k < l1
      · obtain ⟨a1, rfl, hb1, hc1⟩ := H1.out.at_ (show k < s1.length by have := HL1.out; omega)
        obtain ⟨a2, rfl, hb2, hc2⟩ := H2.out.at_ (show k < s2.length by have := HL2.out; omega)
        have d1 := (HB.out.cell (by rw [block_of_add]; exact hb1)).trans hc1
        have d2 := (HB.out.cell (by rw [block_of_add]; exact hb2)).trans hc2
        clear hc1 hc2 hb1 hb2
        have HE := Lk.mk (fun (h : s1.getD k 0 ≠ s2.getD k 0) => lists_ne (k := k) (by have := HL1.out; omega) (by have := HL2.out; omega) h)
        have HPn := Lk.mk (fun (h : s1.getD k 0 = s2.getD k 0) (j : Nat) (hj : j < k + 1) => if hjk : j < k then HP.out j hjk else (show j = k by omega) ▸ h)
        obtain ⟨x, hx⟩ : ∃ x, s1.getD k 0 = x := ⟨_, rfl⟩
        obtain ⟨y, hy⟩ : ∃ y, s2.getD k 0 = y := ⟨_, rfl⟩
        rw [hx] at d1 HE HPn
        rw [hy] at d2 HE HPn
        clear hx hy
        by_cases hxy : x = y
        · have HPm := Lk.mk (HPn.out hxy)
          clear HE HPn
          subst hxy
          go_wp2_with fail
          go_quiet (fail)
          have HB2 := Lk.mk (show Below w.heap.size w (wr.drewN nq) from ⟨HB.out.os, HB.out.tape, HB.out.output, HB.out.size, HB.out.block⟩)
          generalize wr.drewN nq = wq at *
          clear HB d1 d2
          go_wp2_with fail
          go_roundw
          case rel => exact ⟨k + 1, by omega, (by first | rfl | go_num), HPm, HB2⟩
          case measure => simp [intOf] <;> omega
        · have hf := Lk.mk (decide_eq_false (HE.out hxy))
          have hxi : ((x : Int) != (y : Int)) = true := by simp; omega
          clear HPn HE
          go_wp2_with fail
          go_quiet (fail)
          have HB2 := Lk.mk (show Below w.heap.size w (wr.drewN nq) from ⟨HB.out.os, HB.out.tape, HB.out.output, HB.out.size, HB.out.block⟩)
          generalize wr.drewN nq = wq at *
          go_wp2
          go_ret
          exact ⟨ret_bool hf.out.symm, HB2⟩
      · obtain rfl : k = l1 := by omega
        have he := Lk.mk (decide_eq_true (lists_eq (by rw [HL1.out, HL2.out]) (fun j hj => HP.out j (by have := HL1.out; omega))))
        go_wp2
        go_ret
        exact ⟨ret_bool he.out.symm, HB⟩
  · have hf := Lk.mk (decide_eq_false (show ¬ s1 = s2 from fun e => hne (by rw [← h1, ← h2, e])))
    clear h1 h2
    go_wp2
    go_ret
    exact ⟨ret_bool hf.out.symm, ⟨Below.refl _ _⟩⟩
end Go.Proofs.Ytacfmkmiikkppaa.Vs

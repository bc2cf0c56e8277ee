/-
  The first code that is not OK.
-/
import Derived.Test.YtkkeamlpfpcbfaaVx
namespace Go.Proofs.Ytkkeamlpfpcbfaa.Vz
open Go.ChangeShapes Go.WideShapes Go.ChangeAt Go.RowKit Ga Va Vb Vd Vk Vs Vt Vw Vx
set_option linter.unusedVariables false
set_option linter.unusedSimpArgs false
set_option maxHeartbeats 4000000
set_option maxRecDepth 10000
def firstC : List Int → Int
  | [] => 0
  | c :: l => if c = 0 then firstC l else c
theorem firstC_zeros (l : List Int) (h : ∀ i (hi : i < l.length), l[i] = 0) : firstC l = 0 := by
  induction l with
  | nil => rfl
  | cons c l ih =>
    have h0 : c = 0 := h 0 (by simp)
    unfold firstC
    rw [if_pos h0]
    exact ih fun i hi => h (i + 1) (by simpa using hi)
theorem firstC_at (l : List Int) (k : Nat) (hk : k < l.length) (h : ∀ i (hi : i < k), l[i] = 0) (hc : l[k] ≠ 0) : firstC l = l[k] := by
  induction l generalizing k with
  | nil => simp at hk
  | cons c l ih =>
    match k, hk, h, hc with
    | 0, _, _, hc =>
      unfold firstC
      exact if_neg hc
    | k + 1, hk, h, hc =>
      have h0 : c = 0 := h 0 (by omega)
      unfold firstC
      rw [if_pos h0]
      exact ih k (by simpa using hk) (fun i hi => h (i + 1) (by omega)) hc
def codes (us : List Dp) : List Int := us.map (·.code)
theorem first_any (A2 : Option Addr) (n c2 : Nat) (us : List Dp) (w : World) (hm : us.length = n) (H2 : Lk (DRow w A2 us)) (hn2 : n ≤ 4294967296) :
    Calls Try.prog 30 #[.slice A2 n c2] w fun e w' => e = .returned (.int .i64 (firstC (codes us))) ∧ Lk (Below w.heap.size w w') := by
  have HM := Lk.mk hm
  clear hm
  go_enter Try.func30, Try.ntmps30
  have h0 : Lk (Below w.heap.size w w) := ⟨Below.refl _ _⟩
  have HP0 : Lk (∀ i, (hi : i < us.length) → i < 0 → us[i].code = 0) := ⟨fun i _ hi => absurd hi (by omega)⟩
  go_wp2_with fail
  go_loopw [7] (fun s wr => ∃ k : Nat, k ≤ n ∧ s = .int .i64 k ∧ Lk (∀ i, (hi : i < us.length) → i < k → us[i].code = 0) ∧ Lk (Below w.heap.size w wr)) (fun s _ => n - (intOf s).toNat)
  case atStart => exact ⟨0, by omega, rfl, HP0, h0⟩
  case round =>
    clear HP0 h0
    obtain ⟨k, hk, rfl, HP, HB⟩ := hrel
    by_cases hlt : k < n
    · have i2 : k < us.length := by have := HM.out; omega
      obtain ⟨g2, rfl, hc2⟩ := H2.out (by omega)
      have HV2 := Lk.mk (((hc2 k i2).on HB.out))
      have HF := Lk.mk (fun (h : us[k].code ≠ 0) => (firstC_at (codes us) k (by simpa [codes] using i2) (fun i hi => by simpa [codes] using HP.out i (by omega) hi) (by simpa [codes] using h)).trans (by simp [codes] : (codes us)[k]'(by simpa [codes] using i2) = us[k].code))
      have HT := Lk.mk (fun (h : us[k].code = 0) (i : Nat) (hh : i < us.length) (hi : i < k + 1) => if hik : i < k then HP.out i hh hik else by
        obtain rfl : i = k := by omega
        exact h)
      clear hc2 HP
      generalize us[k] = q at *
      obtain ⟨qc, qA, ql, qp⟩ := q
      obtain ⟨y0, y1⟩ := HV2.out
      dsimp only at y0 y1 HF HT
      clear i2 HV2
      go_upto_region 4 with fail
      have z0 := (cell_of_row _ wr.heap.size 0 _ _ _ (heap_alloc_new wr (.cells #[.int .i64 qc, .slice qA ql qp] 55))).trans rfl
      have HBa := Lk.mk (HB.out.trans (((Below.refl wr.heap.size wr).alloc (Nat.le_refl _) (.cells #[.int .i64 qc, .slice qA ql qp] 55)).mono HB.out.size))
      clear y0 y1 HB
      generalize wr.alloc _ = wa at *
      by_cases c0 : qc = 0
      · have HX2 := Lk.mk (HT.out c0)
        clear HT HF
        subst c0
        go_wp2_with fail
        go_roundw
        case rel => exact ⟨k + 1, by omega, (by first | rfl | go_num), HX2, HBa⟩
        case measure => simp [intOf] <;> omega
      · have HX2 := Lk.mk (HF.out c0)
        have hb : (qc != 0) = true := bne_iff_ne.2 c0
        clear HT HF
        go_wp2
        go_ret
        exact ⟨ret_int HX2.out.symm, HBa⟩
    · obtain rfl : k = n := by omega
      have he := Lk.mk (firstC_zeros (codes us) (fun i hi => by
        have hi' : i < us.length := by simpa [codes] using hi
        simpa [codes] using HP.out i hi' (by have := HM.out; omega)))
      go_wp2
      go_ret
      exact ⟨ret_int he.out.symm, HB⟩
theorem firstR_any (A2 : Option Addr) (n c2 : Nat) (us : List Dp) (w : World) (hm : us.length = n) (H2 : Lk (DRow w A2 us)) (hn2 : n ≤ 4294967296) :
    Calls Try.prog 31 #[.slice A2 n c2] w fun e w' => e = .returned (.int .i64 (firstC (codes us))) ∧ Lk (Below w.heap.size w w') := by
  have HM := Lk.mk hm
  clear hm
  go_enter Try.func31, Try.ntmps31
  have h0 : Lk (Below w.heap.size w w) := ⟨Below.refl _ _⟩
  have HP0 : Lk (∀ i, (hi : i < us.length) → i < 0 → us[i].code = 0) := ⟨fun i _ hi => absurd hi (by omega)⟩
  go_wp2_with fail
  go_loopw [3] (fun s wr => ∃ k : Nat, k ≤ n ∧ s = .int .i64 k ∧ Lk (∀ i, (hi : i < us.length) → i < k → us[i].code = 0) ∧ Lk (Below w.heap.size w wr)) (fun s _ => n - (intOf s).toNat)
  case atStart => exact ⟨0, by omega, rfl, HP0, h0⟩
  case round =>
    clear HP0 h0
    obtain ⟨k, hk, rfl, HP, HB⟩ := hrel
    by_cases hlt : k < n
    · have i2 : k < us.length := by have := HM.out; omega
      obtain ⟨g2, rfl, hc2⟩ := H2.out (by omega)
      have HV2 := Lk.mk (((hc2 k i2).on HB.out))
      have HF := Lk.mk (fun (h : us[k].code ≠ 0) => (firstC_at (codes us) k (by simpa [codes] using i2) (fun i hi => by simpa [codes] using HP.out i (by omega) hi) (by simpa [codes] using h)).trans (by simp [codes] : (codes us)[k]'(by simpa [codes] using i2) = us[k].code))
      have HT := Lk.mk (fun (h : us[k].code = 0) (i : Nat) (hh : i < us.length) (hi : i < k + 1) => if hik : i < k then HP.out i hh hik else by
        obtain rfl : i = k := by omega
        exact h)
      clear hc2 HP
      generalize us[k] = q at *
      obtain ⟨qc, qA, ql, qp⟩ := q
      obtain ⟨y0, y1⟩ := HV2.out
      dsimp only at y0 y1 HF HT
      clear i2 HV2
      by_cases c0 : qc = 0
      · have HX2 := Lk.mk (HT.out c0)
        clear HT HF
        subst c0
        go_wp2_with fail
        go_roundw
        case rel => exact ⟨k + 1, by omega, (by first | rfl | go_num), HX2, HB⟩
        case measure => simp [intOf] <;> omega
      · have HX2 := Lk.mk (HF.out c0)
        have hb : (qc != 0) = true := bne_iff_ne.2 c0
        clear HT HF
        go_wp2
        go_ret
        exact ⟨ret_int HX2.out.symm, HB⟩
    · obtain rfl : k = n := by omega
      have he := Lk.mk (firstC_zeros (codes us) (fun i hi => by
        have hi' : i < us.length := by simpa [codes] using hi
        simpa [codes] using HP.out i hi' (by have := HM.out; omega)))
      go_wp2
      go_ret
      exact ⟨ret_int he.out.symm, HB⟩
end Go.Proofs.Ytkkeamlpfpcbfaa.Vz

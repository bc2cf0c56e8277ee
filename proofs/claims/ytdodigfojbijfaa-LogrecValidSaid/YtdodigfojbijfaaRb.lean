/-
  Contracts: two slices of pages compared (slices.Equal, the reference's SamePages), two records compared.
-/
import Derived.Test.YtdodigfojbijfaaRa
namespace Go.Proofs.Ytdodigfojbijfaa.Rb
open Go.ChangeShapes Go.WideShapes Go.ChangeAt Go.RowKit Ga Ra
set_option linter.unusedVariables false
set_option linter.unusedSimpArgs false
set_option maxRecDepth 10000
set_option maxHeartbeats 2000000

theorem same_step {l m : List Pg} {k : Nat} (h : ∀ j, j < k → l.getD j pz = m.getD j pz) (he : l.getD k pz = m.getD k pz) : ∀ j, j < k + 1 → l.getD j pz = m.getD j pz := fun j hj => by
  by_cases e : j = k
  · subst e; exact he
  · exact h j (by omega)
theorem same_all {l m : List Pg} (hl : l.length = m.length) (h : ∀ j, j < l.length → l.getD j pz = m.getD j pz) : decide (l = m) = true := by
  rw [decide_eq_true_eq]
  refine List.ext_getElem hl fun i h1 h2 => ?_
  have := h i h1
  rw [List.getD_eq_getElem?_getD, List.getD_eq_getElem?_getD, List.getElem?_eq_getElem h1, List.getElem?_eq_getElem h2] at this
  simpa using this
theorem same_not {l m : List Pg} {k : Nat} (h : l.getD k pz ≠ m.getD k pz) : decide (l = m) = false := by
  rw [decide_eq_false_iff_not]
  rintro rfl
  exact h rfl
theorem same_len {l m : List Pg} (h : l.length ≠ m.length) : decide (l = m) = false := by
  rw [decide_eq_false_iff_not]
  rintro rfl
  exact h rfl
theorem drewB {B n : Nat} {w w' : World} (h : Below B w w') : Below B w (w'.drewN n) := h.trans ⟨rfl, rfl, rfl, Nat.le_refl _, fun _ _ => rfl⟩
section
variable (A A' : Option Addr) (l m : List Pg) (n n' c c' : Nat) (w : World)
theorem eqPages_any (hn : l.length = n) (hm : m.length = n') (hb : n ≤ 4294967296) (hb' : n' ≤ 4294967296) (h1 : Lk (Pgs w w.heap.size A l)) (h2 : Lk (Pgs w w.heap.size A' m)) :
    Calls Try.prog 44 #[.slice A n c, .slice A' n' c'] w fun e w' => e = .returned (.bool (decide (l = m))) ∧ Lk (Below w.heap.size w w') := by
  by_cases hl : n = n'
  · obtain rfl : n = n' := hl
    go_enter Try.func44, Try.ntmps44
    go_wp2
    go_loopw [13] (fun s wr => ∃ k : Nat, k ≤ n ∧ s = .int .i64 k ∧ Lk (∀ j, j < k → l.getD j pz = m.getD j pz) ∧ Lk (Below w.heap.size w wr)) (fun i _ => n - (intOf i).toNat)
    case atStart => exact ⟨0, by omega, rfl, ⟨fun j hj => by omega⟩, ⟨Below.refl _ _⟩⟩
    case round =>
      obtain ⟨k, hk, rfl, HS, HB⟩ := hrel
      by_cases hlt : k < n
      · obtain ⟨ad, rfl, hab, hp⟩ := h1.out.at_ (k := k) (by omega)
        obtain ⟨ad', rfl, hab', hp'⟩ := h2.out.at_ (k := k) (by omega)
        have P1 := hp.below HB.out (by rw [block_of_add]; exact hab)
        have P2 := hp'.below HB.out (by rw [block_of_add]; exact hab')
        have HN := Lk.mk (fun (he : l.getD k pz = m.getD k pz) => same_step HS.out he)
        have HF := Lk.mk (fun (he : l.getD k pz ≠ m.getD k pz) => same_not he)
        clear hp hp' HS h1 h2
        generalize l.getD k pz = p at *
        generalize m.getD k pz = q at *
        have hq := fun w => page_neq p q w
        unfold Pg.val at hq
        obtain ⟨a0, a1, a2, a3, a4, a5, a6, a7, a8⟩ := P1
        obtain ⟨b0, b1, b2, b3, b4, b5, b6, b7, b8⟩ := P2
        have hki : (k : Int) < n := by omega
        by_cases hpq : p = q
        · have hd : (decide (p = q)) = true := by simp [hpq]
          have HN' := Lk.mk (HN.out hpq)
          rw [hd] at hq
          clear HN HF hd hpq
          go_wp2
          go_quiet (fail)
          go_wp2
          go_roundw
          case rel => exact ⟨k + 1, by omega, by go_num, HN', ⟨drewB HB.out⟩⟩
          case measure => simp [intOf]; omega
        · have hd : (decide (p = q)) = false := by simp [hpq]
          have HF' := Lk.mk (HF.out hpq)
          rw [hd] at hq
          clear HN HF hd hpq
          go_wp2
          go_quiet (fail)
          go_wp2
          go_ret
          exact ⟨ret_bool HF'.out.symm, ⟨drewB HB.out⟩⟩
      · obtain rfl : k = n := by omega
        go_wp2
        go_ret
        exact ⟨ret_bool (same_all (by omega) (by rw [hn]; exact HS.out)).symm, HB⟩
  · have hl' : ¬ (n : Int) = n' := by omega
    go_enter Try.func44, Try.ntmps44
    go_wp2
    go_ret
    exact ⟨ret_bool (same_len (by omega)).symm, ⟨Below.refl _ _⟩⟩
theorem samePages_any (hn : l.length = n) (hm : m.length = n') (hb : n ≤ 4294967296) (hb' : n' ≤ 4294967296) (h1 : Lk (Pgs w w.heap.size A l)) (h2 : Lk (Pgs w w.heap.size A' m)) :
    Calls Try.prog 45 #[.slice A n c, .slice A' n' c'] w fun e w' => e = .returned (.bool (decide (l = m))) ∧ Lk (Below w.heap.size w w') := by
  by_cases hl : n = n'
  · obtain rfl : n = n' := hl
    go_enter Try.func45, Try.ntmps45
    go_wp2
    go_loopw [5] (fun s wr => ∃ k : Nat, k ≤ n ∧ s = .int .i64 k ∧ Lk (∀ j, j < k → l.getD j pz = m.getD j pz) ∧ Lk (Below w.heap.size w wr)) (fun i _ => n - (intOf i).toNat)
    case atStart => exact ⟨0, by omega, rfl, ⟨fun j hj => by omega⟩, ⟨Below.refl _ _⟩⟩
    case round =>
      obtain ⟨k, hk, rfl, HS, HB⟩ := hrel
      by_cases hlt : k < n
      · obtain ⟨ad, rfl, hab, hp⟩ := h1.out.at_ (k := k) (by omega)
        obtain ⟨ad', rfl, hab', hp'⟩ := h2.out.at_ (k := k) (by omega)
        have P1 := hp.below HB.out (by rw [block_of_add]; exact hab)
        have P2 := hp'.below HB.out (by rw [block_of_add]; exact hab')
        have HN := Lk.mk (fun (he : l.getD k pz = m.getD k pz) => same_step HS.out he)
        have HF := Lk.mk (fun (he : l.getD k pz ≠ m.getD k pz) => same_not he)
        clear hp hp' HS h1 h2
        generalize l.getD k pz = p at *
        generalize m.getD k pz = q at *
        have hq := fun w => page_neq p q w
        unfold Pg.val at hq
        obtain ⟨a0, a1, a2, a3, a4, a5, a6, a7, a8⟩ := P1
        obtain ⟨b0, b1, b2, b3, b4, b5, b6, b7, b8⟩ := P2
        have hki : (k : Int) < n := by omega
        by_cases hpq : p = q
        · have hd : (decide (p = q)) = true := by simp [hpq]
          have HN' := Lk.mk (HN.out hpq)
          rw [hd] at hq
          clear HN HF hd hpq
          go_wp2
          go_quiet (fail)
          go_wp2
          go_roundw
          case rel => exact ⟨k + 1, by omega, by go_num, HN', ⟨drewB HB.out⟩⟩
          case measure => simp [intOf]; omega
        · have hd : (decide (p = q)) = false := by simp [hpq]
          have HF' := Lk.mk (HF.out hpq)
          rw [hd] at hq
          clear HN HF hd hpq
          go_wp2
          go_quiet (fail)
          go_wp2
          go_ret
          exact ⟨ret_bool HF'.out.symm, ⟨drewB HB.out⟩⟩
      · obtain rfl : k = n := by omega
        go_wp2
        go_ret
        exact ⟨ret_bool (same_all (by omega) (by rw [hn]; exact HS.out)).symm, HB⟩
  · have hl' : ¬ (n : Int) = n' := by omega
    go_enter Try.func45, Try.ntmps45
    go_wp2
    go_ret
    exact ⟨ret_bool (same_len (by omega)).symm, ⟨Below.refl _ _⟩⟩
def rcv (s : Int) (A : Option Addr) (n c : Nat) : Value := .agg #[.int .i64 s, .slice A n c]
theorem sameOf {s s' : Int} {l m : List Pg} (h : s ≠ s') : false = decide (s = s' ∧ l = m) := by simp [h]
theorem same_any (s s' : Int) (hn : l.length = n) (hm : m.length = n') (hb : n ≤ 4294967296) (hb' : n' ≤ 4294967296) (h1 : Lk (Pgs w w.heap.size A l)) (h2 : Lk (Pgs w w.heap.size A' m)) :
    Calls Try.prog 15 #[rcv s A n c, rcv s' A' n' c'] w fun e w' => e = .returned (.bool (decide (s = s' ∧ l = m))) ∧ Lk (Below w.heap.size w w') := by
  unfold rcv
  have CE := Lk.mk (fun (W : World) (hB : Below w.heap.size w W) => eqPages_any A A' l m n n' c c' W hn hm hb hb' ⟨h1.out.on hB⟩ ⟨h2.out.on hB⟩)
  clear h1 h2
  by_cases hs : s = s'
  · obtain rfl : s = s' := hs
    go_enter Try.func15, Try.ntmps15
    go_wp2_with (first | (go_at_call 44; refine (CE.out _ (((Below.refl _ _).alloc (Nat.le_refl _) _).alloc (by simp) _)).mono ?_; rintro e w' ⟨rfl, HB⟩))
    go_ret
    exact ⟨ret_bool (by simp), ⟨(((Below.refl _ _).alloc (Nat.le_refl _) _).alloc (by simp) _).trans (HB.out.mono (by simp; omega))⟩⟩
  · have hs' : (s == s') = false := by simp [hs]
    go_enter Try.func15, Try.ntmps15
    go_wp2
    go_ret
    exact ⟨ret_bool (sameOf hs), ⟨((Below.refl _ _).alloc (Nat.le_refl _) _).alloc (by simp) _⟩⟩
theorem sameRecord_any (s s' : Int) (hn : l.length = n) (hm : m.length = n') (hb : n ≤ 4294967296) (hb' : n' ≤ 4294967296) (h1 : Lk (Pgs w w.heap.size A l)) (h2 : Lk (Pgs w w.heap.size A' m)) :
    Calls Try.prog 16 #[rcv s A n c, rcv s' A' n' c'] w fun e w' => e = .returned (.bool (decide (s = s' ∧ l = m))) ∧ Lk (Below w.heap.size w w') := by
  unfold rcv
  have CE := Lk.mk (fun (W : World) (hB : Below w.heap.size w W) => samePages_any A A' l m n n' c c' W hn hm hb hb' ⟨h1.out.on hB⟩ ⟨h2.out.on hB⟩)
  clear h1 h2
  by_cases hs : s = s'
  · obtain rfl : s = s' := hs
    go_enter Try.func16, Try.ntmps16
    go_wp2_with (first | (go_at_call 45; refine (CE.out _ (((Below.refl _ _).alloc (Nat.le_refl _) _).alloc (by simp) _)).mono ?_; rintro e w' ⟨rfl, HB⟩))
    go_ret
    exact ⟨ret_bool (by simp), ⟨(((Below.refl _ _).alloc (Nat.le_refl _) _).alloc (by simp) _).trans (HB.out.mono (by simp; omega))⟩⟩
  · have hs' : (s == s') = false := by simp [hs]
    go_enter Try.func16, Try.ntmps16
    go_wp2
    go_ret
    exact ⟨ret_bool (sameOf hs), ⟨((Below.refl _ _).alloc (Nat.le_refl _) _).alloc (by simp) _⟩⟩
end
end Go.Proofs.Ytdodigfojbijfaa.Rb

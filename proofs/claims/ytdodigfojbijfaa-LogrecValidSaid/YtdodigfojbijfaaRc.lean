/-
  Contracts: what makes a record valid: bounds, the program's two tests of a page, a slice that is searched with each.
-/
import Derived.Test.YtdodigfojbijfaaRb
import Derived.Test.YtdodigfojbijfaaWc
namespace Go.Proofs.Ytdodigfojbijfaa.Rc
open Go.ChangeShapes Go.WideShapes Go.ChangeAt Go.RowKit Ga Ra Rb
set_option linter.unusedVariables false
set_option linter.unusedSimpArgs false
set_option maxRecDepth 10000
set_option maxHeartbeats 2000000

theorem within_any (x a b : Int) (w : World) : Calls Try.prog 36 #[.int .i64 x, .int .i64 a, .int .i64 b] w fun e w' => e = .returned (.bool (decide (a ≤ x ∧ x ≤ b))) ∧ w = w' := by
  go_enter Try.func36, Try.ntmps36
  by_cases h1 : a ≤ x
  · go_wp2
    go_ret
    exact ⟨ret_bool (by simp [h1]), rfl⟩
  · go_wp2
    go_ret
    exact ⟨ret_bool (by simp; omega), rfl⟩
def nodeB (lines : Int) : Bool := decide (98 ≤ lines ∧ lines ≤ 256)
theorem isNode_any (x : Int) (w : World) : Calls Try.prog 37 #[.int .i64 x] w fun e w' => e = .returned (.bool (nodeB x)) ∧ w = w' := by
  go_enter Try.func37, Try.ntmps37
  go_wp2_with (first | (go_at_call 36; refine (within_any _ _ _ _).mono ?_; rintro e w' ⟨rfl, rfl⟩))
  go_ret
  exact ⟨ret_bool (by simp [nodeB]), rfl⟩
/-- A page outside the heap. -/
def outB (lines : Int) (p : Pg) : Bool := !decide (96 ≤ p.line ∧ p.line ≤ lines - 1)
/-- A page that cannot be written. -/
def unwB (p : Pg) : Bool := !(Wb.nextE p.head == 0) || !((p.head : Int) % 256 == 0)
theorem valid1_any (p : Pg) (lines : Int) (ad : Addr) (w : World) (hl : 98 ≤ lines ∧ lines ≤ 256) (hc : w.cell? ad = some (.int .i64 lines)) :
    Calls Try.prog 35 #[p.val, .pointer (some ad)] w fun e w' => e = .returned (.bool (outB lines p)) ∧ Lk (Below w.heap.size w w') := by
  have hb := block_lt_of_cell hc
  have hc1 := fun o => (((Below.refl _ w).alloc (Nat.le_refl _) o).cell hb).trans hc
  unfold Pg.val
  go_enter Try.func35, Try.ntmps35
  go_wp2_with (first | (go_at_call 36; refine (within_any _ _ _ _).mono ?_; rintro e w' ⟨rfl, rfl⟩))
  go_ret
  exact ⟨ret_bool (by simp [outB]), ⟨(Below.refl _ w).alloc (Nat.le_refl _) _⟩⟩
theorem unwritable_any (p : Pg) (w : World) (hp : p.Wf) :
    Calls Try.prog 40 #[p.val] w fun e w' => e = .returned (.bool (unwB p)) ∧ Lk (Below w.heap.size w w') := by
  have hh := hp.h
  have C1 := Lk.mk (fun w => Wb.next_any (p.head : Int) w (by omega) (by omega))
  have C2 := Lk.mk (fun w => Wc.unlocked_any (p.head : Int) w (by omega) (by omega))
  have HU := Lk.mk (show unwB p = (!(Wb.nextE p.head == 0) || !((p.head : Int) % 256 == 0)) from rfl)
  unfold Pg.val
  cases h1 : (Wb.nextE p.head == 0)
  · have h2 : ¬ Wb.nextE p.head = 0 := by simpa using h1
    go_enter Try.func40, Try.ntmps40
    go_wp2_with (first | (go_at_call 54; refine (C1.out _).mono ?_; rintro e w' ⟨rfl, rfl⟩) | (go_at_call 56; refine (C2.out _).mono ?_; rintro e w' ⟨rfl, rfl⟩))
    go_ret
    rw [HU.out, h1]
    exact ⟨ret_bool (by simp), ⟨(Below.refl _ w).alloc (Nat.le_refl _) _⟩⟩
  · have h2 : Wb.nextE p.head = 0 := by simpa using h1
    go_enter Try.func40, Try.ntmps40
    go_wp2_with (first | (go_at_call 54; refine (C1.out _).mono ?_; rintro e w' ⟨rfl, rfl⟩) | (go_at_call 56; refine (C2.out _).mono ?_; rintro e w' ⟨rfl, rfl⟩))
    go_ret
    rw [HU.out, h1]
    exact ⟨ret_bool (by simp), ⟨(Below.refl _ w).alloc (Nat.le_refl _) _⟩⟩
theorem any_no {l : List Pg} {f : Pg → Bool} (h : ∀ j, j < l.length → f (l.getD j pz) = false) : l.any f = false := by
  rw [List.any_eq_false]
  intro p hp
  obtain ⟨i, hi, rfl⟩ := List.getElem_of_mem hp
  have := h i hi
  rw [List.getD_eq_getElem?_getD, List.getElem?_eq_getElem hi] at this
  simpa using this
theorem any_yes {l : List Pg} {f : Pg → Bool} {k : Nat} (hk : k < l.length) (h : f (l.getD k pz) = true) : l.any f = true := by
  rw [List.any_eq_true]
  refine ⟨_, List.getElem_mem hk, ?_⟩
  rw [List.getD_eq_getElem?_getD, List.getElem?_eq_getElem hk] at h
  simpa using h
theorem no_step {f : Pg → Bool} {l : List Pg} {k : Nat} (h : ∀ j, j < k → f (l.getD j pz) = false) (he : f (l.getD k pz) = false) : ∀ j, j < k + 1 → f (l.getD j pz) = false := fun j hj => by
  by_cases e : j = k
  · subst e; exact he
  · exact h j (by omega)
theorem indexOut (A : Option Addr) (l : List Pg) (n c : Nat) (w : World) (lines : Int) (ad : Addr) (hl : 98 ≤ lines ∧ lines ≤ 256) (hc : w.cell? ad = some (.int .i64 lines)) (hn : l.length = n) (hb : n ≤ 4294967296) (h1 : Lk (Pgs w w.heap.size A l)) :
    Calls Try.prog 55 #[.slice A n c, .func (.func 35) #[] #[.pointer (some ad)]] w fun e w' => ∃ r : Int, e = .returned (.int .i64 r) ∧ decide (r ≥ 0) = l.any (outB lines) ∧ Lk (Below w.heap.size w w') := by
  go_enter Try.func55, Try.ntmps55
  go_wp2
  go_loopw [8] (fun s wr => ∃ k : Nat, k ≤ n ∧ s = .int .i64 k ∧ Lk (∀ j, j < k → (outB lines) (l.getD j pz) = false) ∧ Lk (Below w.heap.size w wr)) (fun i _ => n - (intOf i).toNat)
  case atStart => exact ⟨0, by omega, rfl, ⟨fun j hj => by omega⟩, ⟨Below.refl _ _⟩⟩
  case round =>
    obtain ⟨k, hk, rfl, HS, HB⟩ := hrel
    by_cases hlt : k < n
    · obtain ⟨ad1, rfl, hab, hp⟩ := h1.out.at_ (k := k) (by omega)
      have P1 := hp.below HB.out (by rw [block_of_add]; exact hab)
      have HN := Lk.mk (fun (he : (outB lines) (l.getD k pz) = false) => no_step HS.out he)
      have HF := Lk.mk (fun (he : (outB lines) (l.getD k pz) = true) => any_yes (by omega) he)
      have hcr := (HB.out.cell (block_lt_of_cell hc)).trans hc
      clear hp HS h1
      generalize l.getD k pz = p at *
      obtain ⟨a0, a1, a2, a3, a4, a5, a6, a7, a8⟩ := P1
      have hki : (k : Int) < n := by omega
      go_wp2_with fail
      refine (valid1_any p lines ad _ hl hcr).mono ?_
      rintro e w2 ⟨rfl, H2⟩
      have HB2 := Lk.mk (HB.out.trans (H2.out.mono HB.out.size))
      clear a0 a1 a2 a3 a4 a5 a6 a7 a8 H2 HB
      cases hf : (outB lines) p
      · have HN' := Lk.mk (HN.out hf)
        go_wp2
        go_roundw
        case rel => exact ⟨k + 1, by omega, by go_num, HN', HB2⟩
        case measure => simp [intOf]; omega
      · have HF' := Lk.mk (HF.out hf)
        go_wp2
        go_ret
        exact ⟨k, rfl, by rw [HF'.out]; simp, HB2⟩
    · obtain rfl : k = n := by omega
      go_wp2
      go_ret
      exact ⟨-1, rfl, by rw [any_no (by rw [hn]; exact HS.out)]; simp, HB⟩
theorem containsOut (A : Option Addr) (l : List Pg) (n c : Nat) (w : World) (lines : Int) (ad : Addr) (hl : 98 ≤ lines ∧ lines ≤ 256) (hc : w.cell? ad = some (.int .i64 lines)) (hn : l.length = n) (hb : n ≤ 4294967296) (h1 : Lk (Pgs w w.heap.size A l)) :
    Calls Try.prog 38 #[.slice A n c, .func (.func 35) #[] #[.pointer (some ad)]] w fun e w' => e = .returned (.bool (l.any (outB lines))) ∧ Lk (Below w.heap.size w w') := by
  have C := indexOut A l n c w lines ad hl hc hn hb h1
  go_enter Try.func38, Try.ntmps38
  go_wp2_with (first | (go_at_call 55; refine C.mono ?_; rintro e w' ⟨r, rfl, hr, HB⟩))
  go_ret
  exact ⟨rfl, HB⟩
theorem indexUnw (A : Option Addr) (l : List Pg) (n c : Nat) (w : World) (hw : Lk (PgsWf l)) (hn : l.length = n) (hb : n ≤ 4294967296) (h1 : Lk (Pgs w w.heap.size A l)) :
    Calls Try.prog 55 #[.slice A n c, .func (.func 40) #[] #[]] w fun e w' => ∃ r : Int, e = .returned (.int .i64 r) ∧ decide (r ≥ 0) = l.any unwB ∧ Lk (Below w.heap.size w w') := by
  go_enter Try.func55, Try.ntmps55
  go_wp2
  go_loopw [8] (fun s wr => ∃ k : Nat, k ≤ n ∧ s = .int .i64 k ∧ Lk (∀ j, j < k → unwB (l.getD j pz) = false) ∧ Lk (Below w.heap.size w wr)) (fun i _ => n - (intOf i).toNat)
  case atStart => exact ⟨0, by omega, rfl, ⟨fun j hj => by omega⟩, ⟨Below.refl _ _⟩⟩
  case round =>
    obtain ⟨k, hk, rfl, HS, HB⟩ := hrel
    by_cases hlt : k < n
    · obtain ⟨ad1, rfl, hab, hp⟩ := h1.out.at_ (k := k) (by omega)
      have P1 := hp.below HB.out (by rw [block_of_add]; exact hab)
      have HN := Lk.mk (fun (he : unwB (l.getD k pz) = false) => no_step HS.out he)
      have HF := Lk.mk (fun (he : unwB (l.getD k pz) = true) => any_yes (by omega) he)
      have hpw := Lk.mk (hw.out.at_ k)
      clear hp HS h1
      generalize l.getD k pz = p at *
      obtain ⟨a0, a1, a2, a3, a4, a5, a6, a7, a8⟩ := P1
      have hki : (k : Int) < n := by omega
      go_wp2_with fail
      refine (unwritable_any p _ hpw.out).mono ?_
      rintro e w2 ⟨rfl, H2⟩
      have HB2 := Lk.mk (HB.out.trans (H2.out.mono HB.out.size))
      clear a0 a1 a2 a3 a4 a5 a6 a7 a8 H2 HB
      cases hf : unwB p
      · have HN' := Lk.mk (HN.out hf)
        go_wp2
        go_roundw
        case rel => exact ⟨k + 1, by omega, by go_num, HN', HB2⟩
        case measure => simp [intOf]; omega
      · have HF' := Lk.mk (HF.out hf)
        go_wp2
        go_ret
        exact ⟨k, rfl, by rw [HF'.out]; simp, HB2⟩
    · obtain rfl : k = n := by omega
      go_wp2
      go_ret
      exact ⟨-1, rfl, by rw [any_no (by rw [hn]; exact HS.out)]; simp, HB⟩
theorem containsUnw (A : Option Addr) (l : List Pg) (n c : Nat) (w : World) (hw : Lk (PgsWf l)) (hn : l.length = n) (hb : n ≤ 4294967296) (h1 : Lk (Pgs w w.heap.size A l)) :
    Calls Try.prog 38 #[.slice A n c, .func (.func 40) #[] #[]] w fun e w' => e = .returned (.bool (l.any unwB)) ∧ Lk (Below w.heap.size w w') := by
  have C := indexUnw A l n c w hw hn hb h1
  go_enter Try.func38, Try.ntmps38
  go_wp2_with (first | (go_at_call 55; refine C.mono ?_; rintro e w' ⟨r, rfl, hr, HB⟩))
  go_ret
  exact ⟨rfl, HB⟩
end Go.Proofs.Ytdodigfojbijfaa.Rc

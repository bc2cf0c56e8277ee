/-
  Contracts: Locked, Applied, the law's in and out, the hand's Page.
-/
import Derived.Test.YtdodigfojbijfaaRk
namespace Go.Proofs.Ytdodigfojbijfaa.Rl
open Go.ChangeShapes Go.WideShapes Go.ChangeAt Go.RowKit Ga Gb Ra Rb Rc Rd Re Rf Rg Rh Ri Rj Rk
set_option linter.unusedVariables false
set_option linter.unusedSimpArgs false
set_option maxRecDepth 10000
set_option maxHeartbeats 1000000

theorem one_alloc (w : World) (o : Obj) : Below w.heap.size w (w.alloc o) := (Below.refl _ _).alloc (Nat.le_refl _) _
theorem two_alloc (w : World) (o o' : Obj) : Below w.heap.size w ((w.alloc o).alloc o') := ((Below.refl _ _).alloc (Nat.le_refl _) _).alloc (by simp) _
theorem rcv_under : Try.prog.underlying 25 = some (.struct (match Try.prog.underlying 25 with | some (.struct fs) => fs | _ => #[])) := by kernel_rfl
theorem page_under : Try.prog.underlying 31 = some (.struct (match Try.prog.underlying 31 with | some (.struct fs) => fs | _ => #[])) := by kernel_rfl
theorem in_any (s : Int) (A : Option Addr) (n c : Nat) (w : World) :
    Calls Try.prog 13 #[rcv s A n c] w fun e w' => e = .returned (rcv s A n c) ∧ Lk (Below w.heap.size w w') := by
  unfold rcv
  go_enter Try.func13, Try.ntmps13
  go_wp2
  refine bodyPost_ret (results_cell_row rfl _ _ (w.heap.size + 1) 35 #[.int .i64 s, .slice A n c] (0, 0) _ rfl (by have := heap_alloc_new (w.alloc (.cells #[.int .i64 s, .slice A n c] 25)) (.cells #[.int .i64 s, .slice A n c] 35); simpa using this) rec_under rfl (by kernel_rfl)) rfl ?_
  exact ⟨rfl, ⟨two_alloc _ _ _⟩⟩
theorem out_any (s : Int) (A : Option Addr) (n c : Nat) (w : World) :
    Calls Try.prog 22 #[rcv s A n c] w fun e w' => e = .returned (rcv s A n c) ∧ Lk (Below w.heap.size w w') := by
  unfold rcv
  go_enter Try.func22, Try.ntmps22
  go_wp2
  refine bodyPost_ret (results_cell_row rfl _ _ (w.heap.size + 1) 25 #[.int .i64 s, .slice A n c] (0, 0) _ rfl (by have := heap_alloc_new (w.alloc (.cells #[.int .i64 s, .slice A n c] 35)) (.cells #[.int .i64 s, .slice A n c] 25); simpa using this) rcv_under rfl (by kernel_rfl)) rfl ?_
  exact ⟨rfl, ⟨two_alloc _ _ _⟩⟩
theorem locked_any (p : Pg) (cl : Int) (w : World) (hp : p.Wf) :
    Calls Try.prog 30 #[p.val, .int .i64 cl] w fun e w' => e = .returned (.tuple #[.int .u64 (Wb.lockV p.head cl), .int .i64 (Wb.lockE p.head cl)]) ∧ Lk (Below w.heap.size w w') := by
  have C := Lk.mk (fun w => Wb.lock_any (p.head : Int) cl w (by omega) (by have := hp.h; omega))
  unfold Pg.val
  go_enter Try.func30, Try.ntmps30
  go_wp2_with (first | (go_at_call 52; refine (C.out _).mono ?_; rintro e w' ⟨rfl, rfl⟩))
  go_ret2
  exact ⟨rfl, ⟨one_alloc _ _⟩⟩
theorem refLocked_any (p : Pg) (cl : Int) (w : World) (hp : p.Wf) :
    Calls Try.prog 31 #[p.val, .int .i64 cl] w fun e w' => e = .returned (.tuple #[.int .u64 (Wb.lockV p.head cl), .int .i64 (Wb.lockE p.head cl)]) ∧ Lk (Below w.heap.size w w') := by
  have C := Lk.mk (fun w => Wb.lock_ref (p.head : Int) cl w (by omega) (by have := hp.h; omega))
  unfold Pg.val
  go_enter Try.func31, Try.ntmps31
  go_wp2_with (first | (go_at_call 53; refine (C.out _).mono ?_; rintro e w' ⟨rfl, rfl⟩))
  go_ret2
  exact ⟨rfl, ⟨one_alloc _ _⟩⟩
/-- The words of a page after the transaction: 8.4. -/
def appl (p : Pg) : List Nat := if Wb.nextE p.head = 0 then (Wb.nextV p.head).toNat :: p.data else []
theorem nextV_range (h : Int) : 0 ≤ Wb.nextV h ∧ Wb.nextV h < 18446744073709551616 := by unfold Wb.nextV; split <;> omega
theorem applied_any (p : Pg) (w : World) (hp : p.Wf) :
    Calls Try.prog 32 #[p.val] w fun e w' => ∃ v, e = .returned (.tuple #[v, .int .i64 (Wb.nextE p.head)]) ∧ Lk (Wt w w' v (appl p)) := by
  obtain ⟨i0, hi, hz0, hz1, hz2⟩ := info_parts u64info
  have C := Lk.mk (fun w => Wb.next_any (p.head : Int) w (by omega) (by have := hp.h; omega))
  have HP := Lk.mk hp
  have HQ0 := Lk.mk (Bp.new w p 31)
  unfold Pg.arr at HQ0
  unfold Pg.val
  by_cases h : Wb.nextE p.head = 0
  · have HA := Lk.mk (show appl p = (Wb.nextV p.head).toNat :: p.data from if_pos h)
    rw [h] at C
    have hv := nextV_range (p.head : Int)
    rw [h]
    obtain ⟨x, hx⟩ : ∃ x : Nat, Wb.nextV p.head = (x : Int) := ⟨(Wb.nextV p.head).toNat, by omega⟩
    rw [hx] at C HA hv
    clear hx h
    have HO : Lk (Wt w ((w.alloc (.cells #[.int .i64 p.line, .int .u64 (p.head : Int), .int .u64 (p.a : Int), .int .u64 (p.b : Int), .int .u64 (p.c : Int), .int .u64 (p.d : Int), .int .u64 (p.e : Int), .int .u64 (p.f : Int), .int .u64 (p.g : Int)] 31)).alloc (.cells #[.int .u64 (x : Int)] 28)) (.slice (some ⟨w.heap.size + 1, 0, none⟩) 1 1) [x]) := ⟨by
      have := World.ownsRow_lit (base := w.heap.size) (e := 28) (size := 1) (w.alloc (.cells #[.int .i64 p.line, .int .u64 (p.head : Int), .int .u64 (p.a : Int), .int .u64 (p.b : Int), .int .u64 (p.c : Int), .int .u64 (p.d : Int), .int .u64 (p.e : Int), .int .u64 (p.f : Int), .int .u64 (p.g : Int)] 31)) #[.int .u64 (x : Int)] 1 (by simp) (by decide) rfl
      refine ⟨by simpa [u64v] using this, two_alloc _ _ _, fun y hy => by simp at hy; omega⟩⟩
    have HQ := Lk.mk (HQ0.out.on (one_alloc _ (.cells #[.int .u64 (x : Int)] 28)))
    go_enter Try.func32, Try.ntmps32
    go_wp2_with (first
      | (go_at_call 54; refine (C.out _).mono ?_; rintro e w' ⟨rfl, rfl⟩)
      | (at_builtin; refine wpList_append_own _ rfl _ _ 41 rfl w.heap.size 28 i0 (.int .u64 0) 1 8 Try.underlying41 hi hz0 hz1 hz2 rfl (by decide) _ _ _ rfl HO.out.own ⟨w.heap.size, 2, none⟩ 7 7 (p.data.map u64v) rfl rfl HQ.out.words ?d2 ?d3 ?d4 HO.out.below.size ?_))
    case d2 => exact words_one _
    case d3 => unfold maxLen; simp
    case d4 => simp
    intro v5 w5 hown hgrow _
    have HW3 : Lk (Wt w w5 v5 (appl p)) := ⟨by rw [HA.out, Int.toNat_natCast]; exact HO.out.after (data_lt HP.out) (by simpa [Pg.data] using hown) hgrow⟩
    clear hown hgrow
    go_wp2
    go_ret2
    exact ⟨_, rfl, HW3⟩
  · have HA := Lk.mk (show appl p = [] from if_neg h)
    go_enter Try.func32, Try.ntmps32
    go_wp2_with (first | (go_at_call 54; refine (C.out _).mono ?_; rintro e w' ⟨rfl, rfl⟩))
    go_ret2
    rw [HA.out]
    exact ⟨_, rfl, ⟨World.ownsRow_nil _ _ _ _, one_alloc _ _, by simp⟩⟩
theorem Bp.word {w : World} {g : Nat} {p : Pg} (h : Bp w g p) {j : Nat} (hj : j < 7) : w.cell? ⟨g, 2 + j, none⟩ = some (.int .u64 ((p.data.getD j 0 : Nat) : Int)) := by
  match j, hj with
  | 0, _ => exact h.c2
  | 1, _ => exact h.c3
  | 2, _ => exact h.c4
  | 3, _ => exact h.c5
  | 4, _ => exact h.c6
  | 5, _ => exact h.c7
  | 6, _ => exact h.c8
theorem refApplied_any (p : Pg) (w : World) (hp : p.Wf) :
    Calls Try.prog 33 #[p.val] w fun e w' => ∃ v, e = .returned (.tuple #[v, .int .i64 (Wb.nextE p.head)]) ∧ Lk (Wt w w' v (appl p)) := by
  obtain ⟨i0, hi, hz0, hz1, hz2⟩ := info_parts u64info
  have C := Lk.mk (fun w => Wb.next_ref (p.head : Int) w (by omega) (by have := hp.h; omega))
  have HP := Lk.mk hp
  have HQ0 := Lk.mk (Bp.new w p 31)
  unfold Pg.arr at HQ0
  unfold Pg.val
  by_cases h : Wb.nextE p.head = 0
  · have HA := Lk.mk (show appl p = (Wb.nextV p.head).toNat :: p.data from if_pos h)
    rw [h] at C
    have hv := nextV_range (p.head : Int)
    rw [h]
    obtain ⟨x, hx⟩ : ∃ x : Nat, Wb.nextV p.head = (x : Int) := ⟨(Wb.nextV p.head).toNat, by omega⟩
    rw [hx] at C HA hv
    clear hx h
    go_enter Try.func33, Try.ntmps33
    go_wp2_with (first
      | (go_at_call 42; refine (C.out _).mono ?_; rintro e w' ⟨rfl, rfl⟩))
    have HO : Lk (Wt (w.alloc (.cells #[.int .i64 p.line, .int .u64 (p.head : Int), .int .u64 (p.a : Int), .int .u64 (p.b : Int), .int .u64 (p.c : Int), .int .u64 (p.d : Int), .int .u64 (p.e : Int), .int .u64 (p.f : Int), .int .u64 (p.g : Int)] 31)) ((w.alloc (.cells #[.int .i64 p.line, .int .u64 (p.head : Int), .int .u64 (p.a : Int), .int .u64 (p.b : Int), .int .u64 (p.c : Int), .int .u64 (p.d : Int), .int .u64 (p.e : Int), .int .u64 (p.f : Int), .int .u64 (p.g : Int)] 31)).alloc (.cells #[.int .u64 (x : Int)] 28)) (.slice (some ⟨w.heap.size + 1, 0, none⟩) 1 1) [x]) := ⟨by
      have := World.ownsRow_lit (base := (w.alloc (.cells #[.int .i64 p.line, .int .u64 (p.head : Int), .int .u64 (p.a : Int), .int .u64 (p.b : Int), .int .u64 (p.c : Int), .int .u64 (p.d : Int), .int .u64 (p.e : Int), .int .u64 (p.f : Int), .int .u64 (p.g : Int)] 31)).heap.size) (e := 28) (size := 1) (w.alloc (.cells #[.int .i64 p.line, .int .u64 (p.head : Int), .int .u64 (p.a : Int), .int .u64 (p.b : Int), .int .u64 (p.c : Int), .int .u64 (p.d : Int), .int .u64 (p.e : Int), .int .u64 (p.f : Int), .int .u64 (p.g : Int)] 31)) #[.int .u64 (x : Int)] 1 (Nat.le_refl _) (by decide) rfl
      refine ⟨by simpa [u64v] using this, one_alloc _ _, fun y hy => by simp at hy; omega⟩⟩
    have H0 : Lk (Wt (w.alloc (.cells #[.int .i64 p.line, .int .u64 (p.head : Int), .int .u64 (p.a : Int), .int .u64 (p.b : Int), .int .u64 (p.c : Int), .int .u64 (p.d : Int), .int .u64 (p.e : Int), .int .u64 (p.f : Int), .int .u64 (p.g : Int)] 31)) _ _ (x :: p.data.take 0)) := ⟨by simpa using HO.out⟩
    have HL := Lk.mk (one_alloc w (.cells #[.int .i64 p.line, .int .u64 (p.head : Int), .int .u64 (p.a : Int), .int .u64 (p.b : Int), .int .u64 (p.c : Int), .int .u64 (p.d : Int), .int .u64 (p.e : Int), .int .u64 (p.f : Int), .int .u64 (p.g : Int)] 31))
    clear HO
    obtain ⟨W0, hW0⟩ : ∃ W0, w.alloc (.cells #[.int .i64 p.line, .int .u64 (p.head : Int), .int .u64 (p.a : Int), .int .u64 (p.b : Int), .int .u64 (p.c : Int), .int .u64 (p.d : Int), .int .u64 (p.e : Int), .int .u64 (p.f : Int), .int .u64 (p.g : Int)] 31) = W0 := ⟨_, rfl⟩
    rw [hW0] at H0 HL HQ0 ⊢
    clear hW0
    go_loopw [6, 7] (fun s6 s7 wx => ∃ j : Nat, j ≤ 7 ∧ s7 = .int .i64 j ∧ Lk (Wt W0 wx s6 (x :: p.data.take j))) (fun _ i _ => 7 - (intOf i).toNat)
    case atStart => exact ⟨0, by omega, rfl, H0⟩
    case round =>
      clear H0
      obtain ⟨j, hj, rfl, HW⟩ := hrel
      by_cases h7 : j < 7
      · have hc := Bp.word (HQ0.out.on HW.out.below) h7
        have hx := getD_lt (data_lt HP.out) (k := j) h7
        have HM := Lk.mk (show x :: p.data.take (j + 1) = (x :: p.data.take j) ++ [p.data.getD j 0] from by rw [take_snoc p.data j h7]; rfl)
        have HLn := Lk.mk (show (x :: p.data.take j).length = 1 + j from by rw [List.length_cons, List.length_take, show p.data.length = 7 from rfl]; omega)
        have hji : (j : Int) < 7 := by omega
        generalize p.data.getD j 0 = y at *
        generalize x :: p.data.take j = acc2 at *
        go_wp2_with (first
          | (at_builtin; refine wpList_append_own _ rfl _ _ 41 rfl W0.heap.size 28 i0 (.int .u64 0) 1 8 Try.underlying41 hi hz0 hz1 hz2 rfl (by decide) _ _ _ rfl (HW.out.alloc _).own ⟨_, 0, none⟩ 1 1 [.int .u64 (y : Int)] rfl rfl ?e1 ?e2 ?e3 ?e4 ?e5 ?_))
        case e1 =>
          intro j u hj
          match j, hj with
          | 0, hj => simp at hj; subst hj; simp [Addr.add]
        case e2 => intro u hu; simp at hu; subst hu; rfl
        case e3 => unfold maxLen; rw [HLn.out]; omega
        case e4 => rw [HLn.out]; omega
        case e5 => have := HW.out.below.size; simp; omega
        intro v6 w6 hown hgrow _
        have HW6 : Lk (Wt W0 w6 v6 (x :: p.data.take (j + 1))) := ⟨by rw [HM.out]; exact (HW.out.alloc _).after (l := [y]) (fun z hz => by simp at hz; omega) (by simpa [u64v] using hown) hgrow⟩
        clear hown hgrow HW hc
        go_wp2
        go_roundw
        case rel => exact ⟨j + 1, by omega, by go_num, HW6⟩
        case measure => simp [intOf]; omega
      · obtain rfl : j = 7 := by omega
        have HW6 : Lk (Wt w _ _ (appl p)) := ⟨by rw [HA.out, Int.toNat_natCast]; exact HW.out.lower HL.out⟩
        clear HW
        go_wp2
        go_ret2
        exact ⟨_, rfl, HW6⟩
  · have HA := Lk.mk (show appl p = [] from if_neg h)
    go_enter Try.func33, Try.ntmps33
    go_wp2_with (first | (go_at_call 42; refine (C.out _).mono ?_; rintro e w' ⟨rfl, rfl⟩))
    go_ret2
    rw [HA.out]
    exact ⟨_, rfl, ⟨World.ownsRow_nil _ _ _ _, one_alloc _ _, by simp⟩⟩
end Go.Proofs.Ytdodigfojbijfaa.Rl

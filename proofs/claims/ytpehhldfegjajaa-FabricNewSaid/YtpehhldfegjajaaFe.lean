/-
  A fabric in memory: busy, check; a row of verbs without words.
-/
import Derived.Test.YtpehhldfegjajaaFd
namespace Go.Proofs.Ytpehhldfegjajaa.Fe
open Go.ChangeShapes Go.WideShapes Go.ChangeAt Go.RowKit Ga Gb Na Nb Va Vb Ve Qb Qd Ta Tc Th Fa Fb Fc Fd_
set_option linter.unusedVariables false
set_option linter.unusedSimpArgs false
set_option maxHeartbeats 1000000
set_option maxRecDepth 100000
/-- A verb without words. -/
structure Nw where
  k : Int
  nd : Int
  a : Int
  n : Int
  o : Nat
  ne : Nat
  ky : Int
  bo : Int
def vcs (v : Nw) : List Value := [.int .i64 v.k, .int .i64 v.nd, .int .i64 v.a, .int .i64 v.n, .int .u64 (v.o : Int), .int .u64 (v.ne : Int), .slice none 0 0, .int .u64 v.ky, .int .i64 v.bo]
theorem busy_any (cv i l c : Nat) (A : Option Addr) (w : World) (h : Lk (w.cell? ⟨cv, i + 3, none⟩ = some (.slice A l c))) : Calls Try.prog 37 #[.pointer (some ⟨cv, i, none⟩)] w fun e w' => e = .returned (.bool (decide (0 < l))) ∧ w = w' := by
  have y := h.out
  go_enter Try.func37, Try.ntmps37
  go_wp2; go_ret; exact ⟨ret_bool (by simp), rfl⟩
theorem check_ok (fb gv n cap : Nat) (L : Nat) (NA CA : Option Addr) (N nc m mc : Nat) (OV : Value) (vs : Nat → Nw) (w : World) (hz : Lk (w.heap[fb]? = some (fbc L (.slice NA N nc) (.slice CA m mc) OV))) (hv : Lk (SR 56 9 w gv n cap (fun i => vcs (vs i)))) (hn : 1 ≤ n ∧ n ≤ 1024)
    (hk : ∀ i, i < n → validC (vs i).k (vs i).nd (vs i).a (cnt (vs i).k (vs i).n 0) N L = 0) (hc : ∀ i, i < n → cnt (vs i).k (vs i).n 0 ≤ 9223372036854775807) :
    Calls Try.prog 38 #[.pointer (some ⟨fb, 0, none⟩), .slice (some ⟨gv, 0, none⟩) n cap] w fun e w' => e = .returned (.int .i64 0) ∧ Lk (Below w.heap.size w w') := by
  go_enter Try.func38, Try.ntmps38
  have hn0 : (n : Int) ≠ 0 := by omega
  have hn1 : ¬ (1024 : Int) < n := by omega
  go_wp2_with fail
  go_loopw [16] (fun s16 wr => ∃ k : Nat, k ≤ n ∧ s16 = .int .i64 k ∧ Lk (Below w.heap.size w wr)) (fun s16 _ => n - (intOf s16).toNat)
  case atStart => exact ⟨0, by omega, rfl, ⟨Below.refl _ _⟩⟩
  case round =>
    obtain ⟨k, hkn, rfl, HB⟩ := hrel
    by_cases hlt : k < n
    · have HV := Lk.mk (hv.out.below HB.out)
      have HZ := Lk.mk ((HB.out.block fb (Array.getElem?_eq_some_iff.1 hz.out).1).trans hz.out)
      have CV := fun W => valid_ok (vs k).k (vs k).nd (vs k).a (vs k).n (vs k).o (vs k).ne none 0 0 (vs k).ky (vs k).bo W N L (hc k hlt)
      rw [hk k hlt] at CV
      have c0 := HV.out.cell0 hlt (by decide)
      have c1 := HV.out.cell hlt (show 1 < 9 by decide)
      have c2 := HV.out.cell hlt (show 2 < 9 by decide)
      have c3 := HV.out.cell hlt (show 3 < 9 by decide)
      have c4 := HV.out.cell hlt (show 4 < 9 by decide)
      have c5 := HV.out.cell hlt (show 5 < 9 by decide)
      have c6 := HV.out.cell hlt (show 6 < 9 by decide)
      have c7 := HV.out.cell hlt (show 7 < 9 by decide)
      have c8 := HV.out.cell hlt (show 8 < 9 by decide)
      simp only [vcs, List.getElem?_cons_zero, List.getElem?_cons_succ] at c0 c1 c2 c3 c4 c5 c6 c7 c8
      generalize vs k = v at *
      have hki : (k : Int) < n := by omega
      go_upto_region 8 with fail
      have hBa := (Below.refl _ wr).alloc (Nat.le_refl _) (.cells #[Value.int IntKind.i64 v.k, Value.int IntKind.i64 v.nd, Value.int IntKind.i64 v.a, Value.int IntKind.i64 v.n, Value.int IntKind.u64 (v.o : Int), Value.int IntKind.u64 (v.ne : Int), Value.slice none 0 0, Value.int IntKind.u64 v.ky, Value.int IntKind.i64 v.bo] 56)
      have HW := Lk.mk (heap_alloc_new wr (.cells #[Value.int IntKind.i64 v.k, Value.int IntKind.i64 v.nd, Value.int IntKind.i64 v.a, Value.int IntKind.i64 v.n, Value.int IntKind.u64 (v.o : Int), Value.int IntKind.u64 (v.ne : Int), Value.slice none 0 0, Value.int IntKind.u64 v.ky, Value.int IntKind.i64 v.bo] 56))
      have HZa := Lk.mk ((hBa.block fb (Array.getElem?_eq_some_iff.1 HZ.out).1).trans HZ.out)
      have HBa := Lk.mk (HB.out.trans (hBa.mono HB.out.size))
      clear hBa c0 c1 c2 c3 c4 c5 c6 c7 c8 HV HZ HB
      generalize wr.alloc _ = W at *
      generalize wr.heap.size = gb at *
      go_cut [7] (fun s7 wx => s7 = .int .i64 0 ∧ Lk (Below w.heap.size w wx))
      case first =>
        have y0 := (cell_of_row W fb 0 _ _ _ HZa.out).trans rfl
        have y1 := (cell_of_row W fb 1 _ _ _ HZa.out).trans rfl
        have x0 := (cell_of_row W gb 0 _ _ _ HW.out).trans rfl
        have x1 := (cell_of_row W gb 1 _ _ _ HW.out).trans rfl
        have x2 := (cell_of_row W gb 2 _ _ _ HW.out).trans rfl
        have x3 := (cell_of_row W gb 3 _ _ _ HW.out).trans rfl
        have x4 := (cell_of_row W gb 4 _ _ _ HW.out).trans rfl
        have x5 := (cell_of_row W gb 5 _ _ _ HW.out).trans rfl
        have x6 := (cell_of_row W gb 6 _ _ _ HW.out).trans rfl
        have x7 := (cell_of_row W gb 7 _ _ _ HW.out).trans rfl
        have x8 := (cell_of_row W gb 8 _ _ _ HW.out).trans rfl
        have CV1 := Lk.mk (CV W.drew)
        clear hk hc hz hv CV HZa HW
        go_region_with (first
          | (go_at_call 55; refine CV1.out.mono ?_; rintro e w2 ⟨rfl, HB2⟩))
        all_goals go_wp2
        all_goals go_meet
        all_goals exact ⟨rfl, ⟨HBa.out.drew.trans (HB2.out.mono (by have := HBa.out.size; exact this))⟩⟩
      case rest =>
        obtain ⟨rfl, HBc⟩ := hcut
        clear hk hc CV HZa HW HBa
        go_wp2_with fail
        go_roundw
        case rel => exact ⟨k + 1, by omega, by go_num, HBc⟩
        case measure => simp [intOf]; omega
    · obtain rfl : k = n := by omega
      go_wp2_with fail
      go_ret
      exact ⟨rfl, HB⟩
end Go.Proofs.Ytpehhldfegjajaa.Fe

/-
  A fabric of one memory node and one compute node: Step, waiting, Take.
-/
import Derived.Test.YtpehhldfegjajaaFg
namespace Go.Proofs.Ytpehhldfegjajaa.Fj
open Go.ChangeShapes Go.WideShapes Go.ChangeAt Go.RowKit Ga Gb Na Nb Va Vb Ve Qb Qd Ta Tc Td Th Fa Fb Fc Fd_ Fe Ff Fg
set_option linter.unusedVariables false
set_option linter.unusedSimpArgs false
set_option maxHeartbeats 2000000
set_option maxRecDepth 100000
theorem dinfo : (Try.prog.info? 67).map (fun i => (i.zero, i.size, i.bytes)) = some (some (.agg #[.int .i64 0, .slice none 0 0]), 2, 32) := by kernel_rfl
theorem step_of (fb : Nat) (w : World) (R : Ending → World → Prop) (hC : Lk (∀ W, Below w.heap.size w W → Calls Try.prog 44 #[.pointer (some ⟨fb, 0, none⟩), .int .i64 0, .int .i64 0] W fun e w' => (∃ b, e = .returned (.bool b)) ∧ R e w')) :
    Calls Try.prog 21 #[.pointer (some ⟨fb, 0, none⟩), .agg #[.int .i64 (-1), .int .i64 0, .int .i64 0]] w fun e w' => R e w' := by
  have HC := Lk.mk (hC.out _ ((Below.refl _ w).alloc (Nat.le_refl _) (.cells #[.int .i64 (-1), .int .i64 0, .int .i64 0] 43)))
  have HW := Lk.mk (heap_alloc_new w (.cells #[.int .i64 (-1), .int .i64 0, .int .i64 0] 43))
  clear hC
  go_enter Try.func21, Try.ntmps21
  go_upto_region 1 with fail
  generalize w.alloc _ = W at *
  generalize w.heap.size = g at *
  have x0 := (cell_of_row W g 0 _ _ _ HW.out).trans rfl
  have x1 := (cell_of_row W g 1 _ _ _ HW.out).trans rfl
  have x2 := (cell_of_row W g 2 _ _ _ HW.out).trans rfl
  go_wp2_with (first
    | (go_at_call 44; refine HC.out.mono ?_; rintro e w2 ⟨⟨b, rfl⟩, HR⟩))
  exact HR
section
variable (B0 : Nat) (F : Nat → Prop) (x : Pl1) (L : Nat) (V : Value) (PA BA : Option Addr) (pl pc bl bc : Nat) (tr po : Int) (ws : List Nat) (w : World)
theorem waiting_zero (hS : Lk (S1 B0 F w x L V [] 0 none 0 [] (.slice PA pl pc) (.slice BA bl bc) tr po ws)) :
    Calls Try.prog 40 #[.pointer (some ⟨x.cv, 0, none⟩)] w fun e w' => e = .returned (.int .i64 0) ∧ Lk (Below w.heap.size w w') := by
  obtain ⟨k0, k1, k2, k3, k4, k5⟩ := six_of hS.out.crow
  go_enter Try.func40, Try.ntmps40
  go_wp2_with fail
  go_loopw [3, 11] (fun s3 s11 wr => ∃ j : Nat, j ≤ 1 ∧ s3 = .int .i64 0 ∧ s11 = .int .i64 j ∧ Lk (Below w.heap.size w wr)) (fun _ s11 _ => 1 - (intOf s11).toNat)
  case atStart => exact ⟨0, by omega, rfl, rfl, ⟨Below.refl _ _⟩⟩
  case round =>
    clear k0 k1 k2 k3 k4 k5
    obtain ⟨j, hj, rfl, rfl, HB⟩ := hrel
    by_cases hlt : j < 1
    · have HSr := Lk.mk (S1.below hS.out HB.out)
      obtain ⟨l0, l1⟩ := two_of (i := j) HSr.out.lrow hlt rfl
      have hji : (j : Int) < 1 := by omega
      go_upto_region 5 with fail
      have hBa := (Below.refl _ wr).alloc (Nat.le_refl _) (.cells #[.pointer (some ⟨x.bp, 0, none⟩), .slice PA pl pc] 82)
      have HW := Lk.mk (heap_alloc_new wr (.cells #[.pointer (some ⟨x.bp, 0, none⟩), .slice PA pl pc] 82))
      have HSa := Lk.mk (S1.below HSr.out hBa)
      have HBa := Lk.mk (HB.out.trans (hBa.mono HB.out.size))
      clear hBa l0 l1 HSr HB
      generalize wr.alloc _ = W at *
      generalize wr.heap.size = gl at *
      have x0 := (cell_of_row W gl 0 _ _ _ HW.out).trans rfl
      have CP := pending_any F x.bp 0 1 0 V [] 0 none 0 [] W ⟨HSa.out.pp⟩
      go_wp2_with (first
        | (go_at_call 41; refine CP.mono ?_; rintro e w' ⟨rfl, rfl⟩))
      go_roundw
      case rel => exact ⟨j + 1, by omega, by go_num, by go_num, HBa⟩
      case measure => simp [intOf]; omega
    · go_wp2_with fail
      go_ret
      exact ⟨rfl, HB⟩
end
/-- The batch is taken. -/
def TkR (x : Pl1) (n : Nat) (Bf : Nat → Option Addr) (lf cf : Nat → Nat) (w : World) (e : Ending) (w' : World) : Prop :=
  ∃ g c : Nat, e = .returned (.tuple #[.slice (some ⟨g, 0, none⟩) n c, .bool true]) ∧ Lk (SR 67 2 w' g n c (fun i => [.int .i64 0, .slice (Bf i) (lf i) (cf i)])) ∧ Lk (Only (fun k => k = x.cv) w w')
theorem take_n (B0 : Nat) (F : Nat → Prop) (x : Pl1) (L : Nat) (V : Value) (PA : Option Addr) (pl pc bb n bc : Nat) (tr po : Int) (ws : List Nat) (Bf : Nat → Option Addr) (lf cf : Nat → Nat) (w : World) (hS : Lk (S1 B0 F w x L V [] 0 none 0 [] (.slice PA pl pc) (.slice (some ⟨bb, 0, none⟩) n bc) tr po ws)) (hA : Lk (SR 86 3 w bb n bc (fun i => [.bool true, .int .i64 0, .slice (Bf i) (lf i) (cf i)]))) (hn : 1 ≤ n ∧ n ≤ 8) :
    Calls Try.prog 22 #[.pointer (some ⟨x.fb, 0, none⟩), .int .i64 0] w fun e w' => TkR x n Bf lf cf w e w' := by
  obtain ⟨i0, hi0, hz0, hz1, hz2⟩ := info_parts dinfo
  obtain ⟨k0, k1, k2, k3, k4, k5⟩ := six_of hS.out.crow
  have CL : Calls Try.prog 34 #[.pointer (some ⟨x.fb, 0, none⟩), .int .i64 0] w (fun e w' => e = .returned (.pointer (some ⟨x.cv, 0, none⟩)) ∧ w = w') := living_at x.fb L (some ⟨x.nv, 0, none⟩) 1 x.nc 1 x.cc (.slice none 0 0) w x.cv 0 true ⟨hS.out.z⟩ (by omega) (by omega) ⟨k0⟩
  have CB := busy_any x.cv 0 n bc (some ⟨bb, 0, none⟩) w ⟨k3⟩
  rw [decide_eq_true (show 0 < n by omega)] at CB
  have CW := waiting_zero B0 F x L V PA (some ⟨bb, 0, none⟩) pl pc n bc tr po ws w hS
  clear k0 k1 k2 k3 k4 k5
  go_enter Try.func22, Try.ntmps22
  go_upto_region 4 with (first
    | (go_at_call 34; refine CL.mono ?_; rintro e w' ⟨rfl, rfl⟩)
    | (go_at_call 37; refine CB.mono ?_; rintro e w' ⟨rfl, rfl⟩)
    | (go_at_call 40; refine CW.mono ?_; rintro e w1 ⟨rfl, HB1⟩))
  clear CL CB CW
  have HS1 := Lk.mk (S1.below hS.out HB1.out)
  have hs1 := HB1.out.size
  obtain ⟨k0, k1, k2, k3, k4, k5⟩ := six_of HS1.out.crow
  clear k0 k1 k2 k4 k5
  go_wp2_with (first
    | (at_make; refine wpList_make_own _ rfl _ _ 44 rfl w.heap.size 67 i0 (.agg #[.int .i64 0, .slice none 0 0]) 2 Try.underlying44 hi0 hz0 hz1 .i64 .i64 _ n rfl rfl rfl ?b2 ?b3 hs1 ?_))
  case b2 => rw [hz2]; omega
  case b3 => unfold maxLen; omega
  intro w2 hown hgrow
  have HB2 := Lk.mk (HB1.out.trans ((below_of_grown hgrow).mono hs1))
  have HR2 := Lk.mk hown
  have k3 := ((below_of_grown hgrow).cell (block_lt_of_cell k3)).trans k3
  clear hown hgrow HS1 HB1
  generalize (Value.slice (some ⟨w1.heap.size, 0, none⟩) 0 n) = v2 at *
  go_wp2_with fail
  go_loopw [7, 36] (fun s7 s36 wr => ∃ k : Nat, k ≤ n ∧ s36 = .int .i64 k ∧ Lk (wr.ownsRow w.heap.size 67 2 s7 k ((List.range k).flatMap (fun i => [Value.int .i64 0, .slice (Bf i) (lf i) (cf i)]))) ∧ Lk (Below w.heap.size w wr)) (fun _ s36 _ => n - (intOf s36).toNat)
  case atStart => exact ⟨0, by omega, rfl, HR2, HB2⟩
  case round =>
    clear HR2 HB2 k3
    obtain ⟨k, hkn, rfl, HR, HB⟩ := hrel
    by_cases hlt : k < n
    · have HAr := Lk.mk (hA.out.below HB.out)
      have a0 := HAr.out.cell0 hlt (by decide)
      have a1 := HAr.out.cell hlt (show 1 < 3 by decide)
      have a2 := HAr.out.cell hlt (show 2 < 3 by decide)
      simp only [List.getElem?_cons_zero, List.getElem?_cons_succ] at a0 a1 a2
      have hfl : (List.range (k + 1)).flatMap (fun i => [Value.int .i64 0, .slice (Bf i) (lf i) (cf i)]) = (List.range k).flatMap (fun i => [Value.int .i64 0, .slice (Bf i) (lf i) (cf i)]) ++ [Value.int .i64 0, .slice (Bf k) (lf k) (cf k)] := by rw [List.range_succ, List.flatMap_append]; simp
      have HFL := Lk.mk hfl
      have hki : (k : Int) < n := by omega
      clear hfl HAr
      generalize Bf k = Bk at *
      generalize lf k = lk at *
      generalize cf k = ck at *
      go_upto_region 8 with fail
      have hBa := (Below.refl _ wr).alloc (Nat.le_refl _) (.cells #[.bool true, .int .i64 0, .slice Bk lk ck] 86)
      have HW := Lk.mk (heap_alloc_new wr (.cells #[.bool true, .int .i64 0, .slice Bk lk ck] 86))
      have HRa := Lk.mk (owns_block HR.out (fun g hg => hBa.block g (HR.out.lt g hg).2))
      have hsr : w.heap.size ≤ wr.heap.size := HB.out.size
      have HBa := Lk.mk (HB.out.trans (hBa.mono hsr))
      clear hBa a0 a1 a2 HR HB
      generalize wr.alloc _ = W at *
      generalize wr.heap.size = ga at *
      have x1 := (cell_of_row W ga 1 _ _ _ HW.out).trans rfl
      have x2 := (cell_of_row W ga 2 _ _ _ HW.out).trans rfl
      have hBb := (Below.refl _ W).alloc (Nat.le_refl _) (.cells #[.int .i64 0, .slice Bk lk ck] 67)
      have HRb := Lk.mk (owns_block HRa.out (fun g hg => hBb.block g (HRa.out.lt g hg).2))
      have hsW : w.heap.size ≤ W.heap.size := HBa.out.size
      have HBb := Lk.mk (HBa.out.trans (hBb.mono hsW))
      clear hBb HRa HBa HW
      go_wp2_with (first
        | (at_builtin; refine wpList_append_own _ rfl _ _ 44 rfl w.heap.size 67 i0 (.agg #[.int .i64 0, .slice none 0 0]) 2 32 Try.underlying44 hi0 hz0 hz1 hz2 rfl (by decide) _ _ _ rfl HRb.out ⟨W.heap.size, 0, none⟩ 1 1 [.int .i64 0, .slice Bk lk ck] rfl rfl ?c1 ?c2 ?c3 ?c4 ?c5 ?_))
      case c1 => intro j u hj; rw [add_zero_, cell_of_row _ W.heap.size j _ _ _ (heap_alloc_new W _)]; simpa using hj
      case c2 => intro u hu; simp at hu; rcases hu with rfl | rfl <;> rfl
      case c3 => unfold maxLen; omega
      case c4 => omega
      case c5 => simp; omega
      intro v' w4 hown hgrow _
      have HB4 := Lk.mk (HBb.out.grown hgrow (by simp; omega) (fun k hk => (HRb.out.lt k hk).1))
      have HR4 := Lk.mk hown
      clear hown hgrow HRb HBb
      go_wp2_with fail
      go_roundw
      case rel => exact ⟨k + 1, by omega, by go_num, ⟨by rw [HFL.out]; exact HR4.out⟩, HB4⟩
      case measure => simp [intOf]; omega
    · obtain rfl : k = n := by omega
      have HSr := Lk.mk (S1.below hS.out HB.out)
      obtain ⟨k0, k1, k2, k3, k4, k5⟩ := six_of HSr.out.crow
      have f3 := HSr.out.crow.fr 3
      obtain ⟨DA, dc, hD⟩ := (Tl.of_own HR.out).slice
      subst hD
      obtain ⟨gd, hgd⟩ : ∃ gd, DA = some ⟨gd, 0, none⟩ := by
        rcases HR.out.2 with ⟨h, h0⟩ | ⟨g, cap, cur, h, _⟩
        · omega
        · injection h with h1
          exact ⟨g, h1⟩
      subst hgd
      have hcvl := HSr.out.crow.lt
      have hcvw := hS.out.crow.lt
      have HD := Lk.mk (SR.of_own (fun i => [Value.int .i64 0, .slice (Bf i) (lf i) (cf i)]) (fun _ => rfl) 0 HR.out (by simp))
      have hgb := (HR.out.lt gd rfl).1
      clear k0 k1 k2 k4 k5 HR
      go_wp2
      go_ret2
      have hO : Only (fun k => k = x.cv) wr (wr.setCell ⟨x.cv, 3, none⟩ (.slice none 0 0)) := (Only.refl (fun k => k = x.cv) wr).setCell (p := ⟨x.cv, 3, none⟩) (.inl rfl) _
      refine ⟨gd, dc, rfl, ⟨(HD.out.on hO (by omega)).eq (fun i hi => ?_)⟩, ⟨(Only.of_below HB.out).trans hO⟩⟩
      rw [List.getD_eq_getElem?_getD, List.getElem?_range hi]
      rfl
end Go.Proofs.Ytpehhldfegjajaa.Fj

/-
  A fabric of one memory node and one compute node: Choices.
-/
import Derived.Test.YtpehhldfegjajaaFg
namespace Go.Proofs.Ytpehhldfegjajaa.Fh
open Go.ChangeShapes Go.WideShapes Go.ChangeAt Go.RowKit Ga Gb Na Nb Va Vb Ve Qb Qd Ta Tc Td Th Fa Fb Fc Fd_ Fe Ff Fg
set_option linter.unusedVariables false
set_option linter.unusedSimpArgs false
set_option maxHeartbeats 2000000
set_option maxRecDepth 100000
theorem chinfo : (Try.prog.info? 43).map (fun i => (i.zero, i.size, i.bytes)) = some (some (.agg #[.int .i64 0, .int .i64 0, .int .i64 0]), 3, 24) := by kernel_rfl
theorem choices_one (B0 : Nat) (F : Nat → Prop) (x : Pl1) (L : Nat) (V : Value) (q : List Pq) (ex : Nat) (B : Option Addr) (cb : Nat) (r : List Nat) (PA BA : Option Addr) (pl pc bl bc : Nat) (tr po : Int) (ws : List Nat) (w : World) (hS : Lk (S1 B0 F w x L V q ex B cb r (.slice PA pl pc) (.slice BA bl bc) tr po ws)) (hq : 0 < q.length) :
    Calls Try.prog 20 #[.pointer (some ⟨x.fb, 0, none⟩)] w fun e w' => ∃ (A : Option Addr) (c : Nat), e = .returned (.slice A 1 c) ∧ Lk (Below w.heap.size w w') := by
  obtain ⟨i0, hi0, hz0, hz1, hz2⟩ := info_parts chinfo
  have y2 := (cell_of_row w x.fb 2 _ _ _ hS.out.z).trans rfl
  have y3 := (cell_of_row w x.fb 3 _ _ _ hS.out.z).trans rfl
  go_enter Try.func20, Try.ntmps20
  go_wp2_with fail
  go_loopw [3, 15] (fun s3 s15 wr => ∃ (k : Nat) (xs : List Value), k ≤ 1 ∧ s15 = .int .i64 k ∧ Lk (wr.ownsRow w.heap.size 43 3 s3 k xs) ∧ Lk (Below w.heap.size w wr)) (fun _ s15 _ => 1 - (intOf s15).toNat)
  case atStart => exact ⟨0, [], by omega, rfl, ⟨World.ownsRow_nil _ _ _ _⟩, ⟨Below.refl _ _⟩⟩
  case round =>
    clear y2 y3
    obtain ⟨k, xs, hk, rfl, HR, HB⟩ := hrel
    have HSr := Lk.mk (S1.below hS.out HB.out)
    by_cases hlt : k < 1
    · have k0 := HSr.out.crow.cell0 hlt (by decide)
      have k1 := HSr.out.crow.cell hlt (show 1 < 6 by decide)
      have k2 := HSr.out.crow.cell hlt (show 2 < 6 by decide)
      have k3 := HSr.out.crow.cell hlt (show 3 < 6 by decide)
      have k4 := HSr.out.crow.cell hlt (show 4 < 6 by decide)
      have k5 := HSr.out.crow.cell hlt (show 5 < 6 by decide)
      simp only [cells1, List.getElem?_cons_zero, List.getElem?_cons_succ] at k0 k1 k2 k3 k4 k5
      have hki : (k : Int) < 1 := by omega
      go_upto_region 5 with fail
      have hBa := (Below.refl _ wr).alloc (Nat.le_refl _) (.cells #[.bool true, .int .i64 1, .slice (some ⟨x.lb, 0, none⟩) 1 x.lc, .slice BA bl bc, .int .i64 tr, .int .i64 po] 75)
      have HW := Lk.mk (heap_alloc_new wr (.cells #[.bool true, .int .i64 1, .slice (some ⟨x.lb, 0, none⟩) 1 x.lc, .slice BA bl bc, .int .i64 tr, .int .i64 po] 75))
      have HSa := Lk.mk (S1.below HSr.out hBa)
      have HRa := Lk.mk (owns_block HR.out (fun g hg => hBa.block g (HR.out.lt g hg).2))
      have hsr : w.heap.size ≤ wr.heap.size := HB.out.size
      have HBa := Lk.mk (HB.out.trans (hBa.mono hsr))
      clear hBa k0 k1 k2 k3 k4 k5 HSr HR HB
      generalize wr.alloc _ = W at *
      generalize wr.heap.size = gb at *
      have x2 := (cell_of_row W gb 2 _ _ _ HW.out).trans rfl
      go_wp2_with fail
      go_loopw [3, 23] (fun s3 s23 wr => ∃ (j : Nat) (xs : List Value), j ≤ 1 ∧ s23 = .int .i64 j ∧ Lk (wr.ownsRow w.heap.size 43 3 s3 (k + j) xs) ∧ Lk (Below w.heap.size w wr)) (fun _ s23 _ => 1 - (intOf s23).toNat)
      case atStart => exact ⟨0, xs, by omega, rfl, HRa, HBa⟩
      case round =>
        clear HW HSa HRa HBa x2
        obtain ⟨j, ys, hj, rfl, HR, HB⟩ := hrel
        have HSr := Lk.mk (S1.below hS.out HB.out)
        by_cases hlt2 : j < 1
        · obtain ⟨l0, l1⟩ := two_of (i := j) HSr.out.lrow hlt2 rfl
          have hji : (j : Int) < 1 := by omega
          go_upto_region 8 with fail
          have hBa := (Below.refl _ wr).alloc (Nat.le_refl _) (.cells #[.pointer (some ⟨x.bp, 0, none⟩), .slice PA pl pc] 82)
          have HW := Lk.mk (heap_alloc_new wr (.cells #[.pointer (some ⟨x.bp, 0, none⟩), .slice PA pl pc] 82))
          have HSa := Lk.mk (S1.below HSr.out hBa)
          have HRa := Lk.mk (owns_block HR.out (fun g hg => hBa.block g (HR.out.lt g hg).2))
          have hsr : w.heap.size ≤ wr.heap.size := HB.out.size
          have HBa := Lk.mk (HB.out.trans (hBa.mono hsr))
          clear hBa l0 l1 HSr HR HB
          generalize wr.alloc _ = W at *
          generalize wr.heap.size = gl at *
          have x0 := (cell_of_row W gl 0 _ _ _ HW.out).trans rfl
          have CP := pending_any F x.bp 0 1 0 V q ex B cb r W ⟨HSa.out.pp⟩
          have hqi : (0 : Int) < q.length := by omega
          go_upto_region 9 with (first
            | (go_at_call 41; refine CP.mono ?_; rintro e w' ⟨rfl, rfl⟩))
          have hBc := (Below.refl _ W).alloc (Nat.le_refl _) (.cells #[.int .i64 (-1), .int .i64 k, .int .i64 j] 43)
          have HRc := Lk.mk (owns_block HRa.out (fun g hg => hBc.block g (HRa.out.lt g hg).2))
          have HSc := Lk.mk (S1.below HSa.out hBc)
          have hsW : w.heap.size ≤ W.heap.size := HBa.out.size
          have HBc := Lk.mk (HBa.out.trans (hBc.mono hsW))
          clear hBc HRa HSa HBa HW x0 CP
          go_wp2_with (first
            | (at_builtin; refine wpList_append_own _ rfl _ _ 39 rfl w.heap.size 43 i0 (.agg #[.int .i64 0, .int .i64 0, .int .i64 0]) 3 24 Try.underlying39 hi0 hz0 hz1 hz2 rfl (by decide) _ _ _ rfl HRc.out ⟨W.heap.size, 0, none⟩ 1 1 [.int .i64 (-1), .int .i64 k, .int .i64 j] rfl rfl ?c1 ?c2 ?c3 ?c4 ?c5 ?_))
          case c1 => intro j u hj; rw [add_zero_, cell_of_row _ W.heap.size j _ _ _ (heap_alloc_new W _)]; simpa using hj
          case c2 => intro u hu; simp at hu; rcases hu with rfl | rfl | rfl <;> rfl
          case c3 => unfold maxLen; omega
          case c4 => omega
          case c5 => simp; omega
          intro v' w4 hown hgrow _
          have HB4 := Lk.mk (HBc.out.grown hgrow (by simp; omega) (fun k hk => (HRc.out.lt k hk).1))
          have HR4 := Lk.mk hown
          clear hown hgrow HRc HSc HBc
          go_wp2_with fail
          go_roundw
          case rel => exact ⟨j + 1, _, by omega, by go_num, HR4, HB4⟩
          case measure => simp [intOf]; omega
        · obtain rfl : j = 1 := by omega
          go_wp2_with fail
          go_roundw
          case rel => exact ⟨k + 1, _, by omega, by go_num, HR, HB⟩
          case measure => simp [intOf]; omega
    · obtain rfl : k = 1 := by omega
      have y3 := (cell_of_row wr x.fb 3 _ _ _ HSr.out.z).trans rfl
      obtain ⟨A, c, hA⟩ := (Tl.of_own HR.out).slice
      subst hA
      go_wp2_with fail
      go_loopw [3, 45] (fun s3 s45 wq => s3 = .slice A 1 c ∧ s45 = .int .i64 0 ∧ Lk (Below w.heap.size w wq)) (fun _ _ _ => 0)
      case atStart => exact ⟨rfl, rfl, HB⟩
      case round =>
        clear HB
        obtain ⟨rfl, rfl, HB⟩ := hrel
        go_wp2_with fail
        go_ret
        exact ⟨A, c, rfl, HB⟩
end Go.Proofs.Ytpehhldfegjajaa.Fh

/-
  Contract of the program's unpacked.
-/
import Derived.Test.YtdodigfojbijfaaRi
namespace Go.Proofs.Ytdodigfojbijfaa.Rj
open Go.ChangeShapes Go.WideShapes Go.ChangeAt Go.RowKit Ga Gb Ra Rb Rc Rd Re Rf Rg Rh Ri
set_option linter.unusedVariables false
set_option linter.unusedSimpArgs false
set_option maxRecDepth 10000
set_option maxHeartbeats 1000000

theorem wrap64_is (x : Nat) : i64w x = wrap64 (x : Int) := by
  unfold i64w wrap64; rw [IntKind.wrap_i64]
/-- The blocks of unpacked while it works: the result's, the record's, the row of the pages that are there. -/
structure Un (w wr : World) (S : Int) (l : List Pg) (v : Value) : Prop where
  z : wr.heap[w.heap.size]? = some (.cells #[.int .i64 0, .slice none 0 0] 35 (0, 0))
  r : wr.heap[w.heap.size + 1]? = some (.cells #[.int .i64 S, v] 35 (0, 0))
  own : wr.ownsRow (w.heap.size + 2) 31 9 v l.length (l.flatMap Pg.cells)
  below : Below w.heap.size w wr
theorem Un.on {w wr w' : World} {S : Int} {l : List Pg} {v : Value} (h : Un w wr S l v) (hb : Below wr.heap.size wr w') : Un w w' S l v :=
  ⟨(hb.block _ (Array.getElem?_eq_some_iff.1 h.z).1).trans h.z, (hb.block _ (Array.getElem?_eq_some_iff.1 h.r).1).trans h.r, owns_on h.own hb, h.below.trans (hb.mono h.below.size)⟩
theorem Un.start (w : World) (S : Int) : Un w ((w.alloc (.cells #[.int .i64 0, .slice none 0 0] 35)).alloc (.cells #[.int .i64 S, .slice none 0 0] 35)) S [] (.slice none 0 0) := by
  refine ⟨(Below.heap_alloc _ _ _ (by simp)).trans (heap_alloc_new w _), ?_, World.ownsRow_nil _ _ _ _, ((Below.refl _ _).alloc (Nat.le_refl _) _).alloc (by simp) _⟩
  have := heap_alloc_new (w.alloc (.cells #[.int .i64 0, .slice none 0 0] 35)) (.cells #[.int .i64 S, .slice none 0 0] 35)
  simpa using this
theorem unp_no {b : List Nat} (h : ¬ okL b) : unpS b = 0 ∧ unpL b = [] := ⟨if_neg h, if_neg h⟩
theorem unpacked_any (A : Option Addr) (b : List Nat) (n c : Nat) (w : World) (hn : b.length = n) (hb : n ≤ 4294967296) (hc : n ≤ c) (hc2 : c ≤ 9223372036854775807) (hw : Lk (∀ x ∈ b, x < 18446744073709551616)) (h1 : Lk (Lies .u64 w w.heap.size A b)) :
    Calls Try.prog 49 #[.slice A n c] w fun e w' => ∃ A' c', e = .returned (rcv (unpS b) A' (unpL b).length c') ∧ Lk (Pt w w.heap.size w' (.slice A' (unpL b).length c') (unpL b)) := by
  unfold rcv
  have hz1 : Try.prog.underlying 35 = some (.struct (Try.prog.fieldsOf 35)) := by kernel_rfl
  obtain ⟨i0, hi, hi0, hi1, hi2⟩ := info_parts pinfo
  by_cases hok : okL b
  · have HO := Lk.mk hok
    obtain ⟨h2, h12, h39⟩ := hok
    obtain ⟨ad, rfl, hab, hcell⟩ := h1.out (by omega)
    have HC := Lk.mk hcell
    have x1 : wd b 1 < 13 := by omega
    have p1 := hcell 1 (by omega)
    have p0 := hcell 0 (by omega)
    obtain ⟨N, hN⟩ : ∃ N, wd b 1 = N := ⟨_, rfl⟩
    have HN := Lk.mk hN
    have p1' : w.cell? ⟨ad.block, ad.off + 1, none⟩ = some (.int .u64 (N : Int)) := by rw [← hN]; exact p1
    obtain ⟨X, hX⟩ : ∃ X, wd b 0 = X := ⟨_, rfl⟩
    have HX := Lk.mk hX
    have p0' : w.cell? ad = some (.int .u64 (X : Int)) := by rw [← hX]; exact p0
    rw [hN] at x1 h39
    have CB := Lk.mk (fun w => bodyWords_any N w (by omega))
    have k2 : ¬ (n : Int) < 2 := by omega
    have k3 : ¬ (12 : Int) < N := by omega
    have k4 : ¬ (n : Int) < ((3 + 9 * N : Nat) : Int) := by omega
    have HS0 := Lk.mk (show wrap64 (X : Int) = unpS b from by
      rw [unpS, if_pos HO.out, hX]; exact (wrap64_is X).symm)
    have hS0 := HS0.out
    have HL0 := Lk.mk (show unpL b = pgsU b N from by rw [unpL, if_pos HO.out, hN])
    generalize unpS b = S at *
    clear hcell p0 p1 hN hX h12 h2
    go_enter Try.func49, Try.ntmps49
    go_wp2_with (first
      | (go_at_call 46; refine (CB.out _).mono ?_; rintro e w' ⟨rfl, rfl⟩))
    clear hS0 HS0 CB p1' p0' HX HN k2 k3 k4
    go_loopw [36] (fun s wr => ∃ (k : Nat) (v : Value), k ≤ N ∧ s = .int .i64 k ∧ Lk (Un w wr S (pgsU b k) v)) (fun i _ => N - (intOf i).toNat)
    case atStart => exact ⟨0, _, by omega, rfl, ⟨Un.start w S⟩⟩
    case round =>
      obtain ⟨k, v, hk, rfl, HU⟩ := hrel
      by_cases hlt : k < N
      · have hki : (k : Int) < N := by omega
        have h9 : 2 + (k : Int) * 9 ≤ n := by omega
        have h10 : 2 + (k : Int) * 9 ≤ c := by omega
        have HCw := Lk.mk (fun j (hj : j < 9) => (HU.out.below.cell (p := ad.add (2 + k * 9 + j)) (by rw [block_of_add]; exact hab)).trans (HC.out (2 + k * 9 + j) (by omega)))
        have HCa := Lk.mk (fun j (hj : j < 9) => show wr.cell? ((ad.add (2 + k * 9)).add j) = some (.int .u64 ((wd b (2 + k * 9 + j) : Nat) : Int)) from by rw [add_of_add]; exact HCw.out j hj)
        have HPn := Lk.mk (pgsU_next b k)
        have hp := Lk.mk (show pgAt b k = ⟨wrap64 (wd b (2 + k * 9) : Nat), wd b (2 + k * 9 + 1), wd b (2 + k * 9 + 2), wd b (2 + k * 9 + 3), wd b (2 + k * 9 + 4), wd b (2 + k * 9 + 5), wd b (2 + k * 9 + 6), wd b (2 + k * 9 + 7), wd b (2 + k * 9 + 8)⟩ from by rw [pgAt, wrap64_is])
        rw [hp.out] at HPn
        have hab2 : (ad.add (2 + k * 9)).block < wr.heap.size := by rw [block_of_add]; have := HU.out.below.size; omega
        have f0 := HCa.out 0 (by decide)
        have f1 := HCa.out 1 (by decide)
        have hD := fun i => wd_lt hw.out i
        have HDl := Lk.mk hD
        have hd0 := hD (2 + k * 9)
        obtain ⟨M, hM⟩ : ∃ M, n - (2 + k * 9) = M := ⟨_, rfl⟩
        obtain ⟨C, hCc⟩ : ∃ C, c - (2 + k * 9) = C := ⟨_, rfl⟩
        have hMC : 9 ≤ M ∧ M ≤ C ∧ C ≤ 9223372036854775807 ∧ M ≤ 4294967296 := by omega
        go_upto_region 8 with fail
        rw [hM, hCc]
        clear hM hCc h9 h10 hp HCw hD
        generalize (wd b (2 + k * 9)) = D0 at *
        generalize (wd b (2 + k * 9 + 1)) = D1 at *
        generalize ad.add (2 + k * 9) = af at *
        have f0' : wr.cell? af = some (.int .u64 (D0 : Int)) := f0
        have f1' : wr.cell? ⟨af.block, af.off + 1, none⟩ = some (.int .u64 (D1 : Int)) := f1
        clear f0 f1
        go_cut [6] (fun s6 wx => ∃ gp, s6 = .pointer (some ⟨gp, 0, none⟩) ∧ Lk (wr.heap.size ≤ gp) ∧ Lk (wx.heap[gp]? = some (.cells [Value.int .i64 (wrap64 (D0 : Int)), .int .u64 (D1 : Int), .int .u64 0, .int .u64 0, .int .u64 0, .int .u64 0, .int .u64 0, .int .u64 0, .int .u64 0].toArray 31 (0, 0))) ∧ Lk (Below wr.heap.size wr wx))
        case first =>
          go_region
          all_goals go_wp2
          all_goals go_meet
          all_goals exact ⟨_, rfl, ⟨Nat.le_refl _⟩, ⟨heap_alloc_new wr _⟩, ⟨((Below.refl _ wr).alloc (Nat.le_refl _) _).drew⟩⟩
        case rest =>
          obtain ⟨gp, rfl, HGl, HGz, HBc⟩ := hcut
          rename_i K aK
          refine aK _ _ ?_
          clear f0' f1' aK
          have HCd := Lk.mk (fun (j : Nat) (u : Value) (hj : [Value.int .u64 (wd b (2 + k * 9 + 2) : Nat), .int .u64 (wd b (2 + k * 9 + 3) : Nat), .int .u64 (wd b (2 + k * 9 + 4) : Nat), .int .u64 (wd b (2 + k * 9 + 5) : Nat), .int .u64 (wd b (2 + k * 9 + 6) : Nat), .int .u64 (wd b (2 + k * 9 + 7) : Nat), .int .u64 (wd b (2 + k * 9 + 8) : Nat)][j]? = some u) => show wc.drew.cell? ((⟨af.block, af.off + 2, none⟩ : Addr).add j) = some u from by
            have h7 : j < 7 := by
              by_cases h : j < 7
              · exact h
              · rw [List.getElem?_eq_none (by simp; omega)] at hj; cases hj
            have hx := (HBc.out.cell (p := af.add (2 + j)) (by rw [block_of_add]; exact hab2)).trans (HCa.out (2 + j) (by omega))
            rw [← add_of_add] at hx
            refine Eq.trans (show wc.drew.cell? ((⟨af.block, af.off + 2, none⟩ : Addr).add j) = wc.cell? ((af.add 2).add j) from rfl) (hx.trans ?_)
            rw [← hj]
            match j, h7 with
            | 0, _ => rfl
            | 1, _ => rfl
            | 2, _ => rfl
            | 3, _ => rfl
            | 4, _ => rfl
            | 5, _ => rfl
            | 6, _ => rfl)
          clear HCa
          generalize (wd b (2 + k * 9 + 2)) = D2 at *
          generalize (wd b (2 + k * 9 + 3)) = D3 at *
          generalize (wd b (2 + k * 9 + 4)) = D4 at *
          generalize (wd b (2 + k * 9 + 5)) = D5 at *
          generalize (wd b (2 + k * 9 + 6)) = D6 at *
          generalize (wd b (2 + k * 9 + 7)) = D7 at *
          generalize (wd b (2 + k * 9 + 8)) = D8 at *
          have hM2 : (2 : Int) ≤ C := by omega
          have hM3 : (2 : Int) ≤ M := by omega
          have HC2 := Lk.mk (show ¬ C = 2 from by omega)
          have HMM := Lk.mk (show Nat.min (M - 2) 7 = 7 from Nat.min_eq_right (by omega))
          go_upto_region 9 with fail
          go_cut [56] (fun _ wx => Lk (wx.heap[gp]? = some (.cells #[Value.int .i64 (wrap64 (D0 : Int)), .int .u64 (D1 : Int), .int .u64 (D2 : Int), .int .u64 (D3 : Int), .int .u64 (D4 : Int), .int .u64 (D5 : Int), .int .u64 (D6 : Int), .int .u64 (D7 : Int), .int .u64 (D8 : Int)] 31 (0, 0))) ∧ Lk (Below wr.heap.size wr wx))
          case first =>
            go_region_law (first
              | (refine step_copy_splice rfl (.tmp 53) (.tmp 55) 41 41 rfl 28 Try.underlying41 (by kernel_rfl) (some ⟨gp, 2, none⟩) (some ⟨af.block, af.off + 2, none⟩) 7 7 (M - 2) (C - 2) (by simp [Act.eval, Act.put]) (by simp [Act.eval, Act.put]; intro h; exact absurd h HC2.out) gp 2 _ 31 HGz.out [Value.int .u64 (D2 : Int), .int .u64 (D3 : Int), .int .u64 (D4 : Int), .int .u64 (D5 : Int), .int .u64 (D6 : Int), .int .u64 (D7 : Int), .int .u64 (D8 : Int)] (by rw [HMM.out]; rfl) (fun _ => ⟨rfl, _, rfl, HCd.out⟩) (by simp) (by intro u hu; simp at hu; rcases hu with rfl | rfl | rfl | rfl | rfl | rfl | rfl <;> rfl) wr.heap.size wr HBc.out.drew HGl.out ?_; intro w5 H5 HB5))
            all_goals go_wp2
            all_goals go_meet
            all_goals exact ⟨⟨H5.out⟩, ⟨HB5⟩⟩
          case rest =>
            obtain ⟨HP5, HB5⟩ := hcut
            rename_i K2 aK2
            refine aK2 _ _ ?_
            clear HGz HCd HBc aK2 HMM HC2 hM2 hM3 hab2
            have HU5 := Lk.mk (HU.out.on HB5.out)
            clear HU HB5 HGl
            have HK := Lk.mk (pgsU_len b k)
            generalize pgsU b k = l at *
            obtain ⟨A5, c5, rfl⟩ := own_slice HU5.out.own
            rw [HK.out] at HU5
            have r1 := (cell_of_row wc (w.heap.size + 1) 1 _ _ _ HU5.out.r).trans rfl
            have m0 := (cell_of_row wc gp 0 _ _ _ HP5.out).trans rfl
            have m1 := (cell_of_row wc gp 1 _ _ _ HP5.out).trans rfl
            have m2 := (cell_of_row wc gp 2 _ _ _ HP5.out).trans rfl
            have m3 := (cell_of_row wc gp 3 _ _ _ HP5.out).trans rfl
            have m4 := (cell_of_row wc gp 4 _ _ _ HP5.out).trans rfl
            have m5 := (cell_of_row wc gp 5 _ _ _ HP5.out).trans rfl
            have m6 := (cell_of_row wc gp 6 _ _ _ HP5.out).trans rfl
            have m7 := (cell_of_row wc gp 7 _ _ _ HP5.out).trans rfl
            have m8 := (cell_of_row wc gp 8 _ _ _ HP5.out).trans rfl
            have hk12 : k < 12 := by omega
            go_wp2_with (first
              | (at_builtin; refine wpList_onto rfl _ _ 22 rfl (w.heap.size + 2) 31 i0 pz.val 9 72 Try.underlying22 hi hi0 hi1 hi2 rfl (by decide) (.slice A5 k c5) l.length (l.flatMap Pg.cells) rfl (HU5.out.own.alloc _) _ 1 1 [Value.int .i64 (wrap64 (D0 : Int)), .int .u64 (D1 : Int), .int .u64 (D2 : Int), .int .u64 (D3 : Int), .int .u64 (D4 : Int), .int .u64 (D5 : Int), .int .u64 (D6 : Int), .int .u64 (D7 : Int), .int .u64 (D8 : Int)] rfl (From.new _ _ _ 9 rfl) ?c2 ?c3 ?c4 ?c5 ?_))
            case c2 => intro u hu; simp at hu; rcases hu with rfl | rfl | rfl | rfl | rfl | rfl | rfl | rfl | rfl <;> rfl
            case c3 => rw [HK.out]; unfold maxLen; omega
            case c4 => rw [HK.out]; omega
            case c5 => have h1 := (Array.getElem?_eq_some_iff.1 HU5.out.r).1; simp; omega
            intro v6 w6 hown6 hgrow6
            have hr6 := (hgrow6.block (w.heap.size + 1) (by have h1 := (Array.getElem?_eq_some_iff.1 HU5.out.r).1; simp; omega) (fun e => by have := (HU5.out.own.lt _ e.symm).1; omega)).trans ((Below.heap_alloc _ _ _ (Array.getElem?_eq_some_iff.1 HU5.out.r).1).trans HU5.out.r)
            have hz6 := (hgrow6.block w.heap.size (by have h1 := (Array.getElem?_eq_some_iff.1 HU5.out.z).1; simp; omega) (fun e => by have := (HU5.out.own.lt _ e.symm).1; omega)).trans ((Below.heap_alloc _ _ _ (Array.getElem?_eq_some_iff.1 HU5.out.z).1).trans HU5.out.z)
            rw [HK.out] at hown6
            obtain ⟨A6, c6, rfl⟩ := own_slice hown6
            have hB6 : Below w.heap.size w w6 := (HU5.out.below.alloc HU5.out.below.size _).grown hgrow6 (by have := HU5.out.below.size; simp; omega) (fun g hg => by have := (HU5.out.own.lt _ hg).1; omega)
            have HU6 : Lk (Un w (w6.setCell ⟨w.heap.size + 1, 1, none⟩ (.slice A6 (k + 1) c6)) S (pgsU b (k + 1)) (.slice A6 (k + 1) c6)) := ⟨by
              refine ⟨(Below.heap_setCell w6 ⟨w.heap.size + 1, 1, none⟩ _ w.heap.size (by show w.heap.size ≠ w.heap.size + 1; omega)).trans hz6, heap_setCell_same w6 (w.heap.size + 1) 1 _ _ _ hr6, ?_, hB6.setCell (p := ⟨w.heap.size + 1, 1, none⟩) (by show w.heap.size ≤ w.heap.size + 1; omega) _⟩
              rw [pgsU_len]
              refine owns_block (w := w6) ?_ (fun g hg => Below.heap_setCell w6 ⟨w.heap.size + 1, 1, none⟩ _ g (by have := (hown6.lt _ hg).1; show g ≠ w.heap.size + 1; omega))
              rw [HPn.out, List.flatMap_append]
              simpa [Pg.cells] using hown6⟩
            have hc6 := (cell_of_row w6 (w.heap.size + 1) 1 _ _ _ hr6).trans rfl
            have hf6 := frozen_of_row w6 (w.heap.size + 1) 1 _ _ hr6
            clear hown6 hgrow6 hr6 hz6 hB6 HU5 HP5 HPn r1 m0 m1 m2 m3 m4 m5 m6 m7 m8
            go_wp2
            go_roundw
            case rel => exact ⟨k + 1, _, by omega, by go_num, HU6⟩
            case measure => simp [intOf]; omega
      · obtain rfl : N = k := by omega
        rw [← HL0.out] at HU
        have HK := Lk.mk (show (unpL b).length = N from by rw [HL0.out, pgsU_len])
        clear HL0
        obtain ⟨l, hl⟩ : ∃ l, unpL b = l := ⟨_, rfl⟩
        have HLe := Lk.mk hl
        rw [hl] at HU HK
        clear hl
        obtain ⟨A5, c5, rfl⟩ := own_slice HU.out.own
        have r0 := (cell_of_row wr (w.heap.size + 1) 0 _ _ _ HU.out.r).trans rfl
        have r1 := (cell_of_row wr (w.heap.size + 1) 1 _ _ _ HU.out.r).trans rfl
        have z0 := (cell_of_row wr w.heap.size 0 _ _ _ HU.out.z).trans rfl
        have z1 := (cell_of_row wr w.heap.size 1 _ _ _ HU.out.z).trans rfl
        have fz0 := frozen_of_row wr w.heap.size 0 _ _ HU.out.z
        have fz1 := frozen_of_row wr w.heap.size 1 _ _ HU.out.z
        have hzz := heap_setCell_same (wr.setCell ⟨w.heap.size, 0, none⟩ (.int .i64 S)) w.heap.size 1 _ _ (.slice A5 l.length c5) (heap_setCell_same wr w.heap.size 0 _ _ (.int .i64 S) HU.out.z)
        have HE : Lk (Pt w w.heap.size ((wr.setCell ⟨w.heap.size, 0, none⟩ (.int .i64 S)).setCell ⟨w.heap.size, 1, none⟩ (.slice A5 l.length c5)) (.slice A5 l.length c5) l) := ⟨⟨owns_block (owns_block (owns_lower HU.out.own (by omega)) (fun g hg => Below.heap_setCell wr ⟨w.heap.size, 0, none⟩ _ g (by have := (HU.out.own.lt _ hg).1; show g ≠ w.heap.size; omega))) (fun g hg => Below.heap_setCell _ ⟨w.heap.size, 1, none⟩ _ g (by have := (HU.out.own.lt _ hg).1; show g ≠ w.heap.size; omega)), (HU.out.below.setCell (p := ⟨w.heap.size, 0, none⟩) (Nat.le_refl _) _).setCell (p := ⟨w.heap.size, 1, none⟩) (Nat.le_refl _) _⟩⟩
        have HZ := Lk.mk hzz
        have hki : ¬ (N : Int) < N := by omega
        clear HU hzz
        go_wp2
        refine bodyPost_ret (results_cell_row rfl _ _ w.heap.size 35 _ (0, 0) _ rfl HZ.out hz1 rfl (by kernel_rfl)) rfl ?_
        rw [HLe.out]
        exact ⟨A5, c5, rfl, HE⟩
  · obtain ⟨e1, e2⟩ := unp_no hok
    have HE1 := Lk.mk e1
    have HE2 := Lk.mk e2
    have HB := Lk.mk ((Below.refl w.heap.size w).alloc (Nat.le_refl _) (.cells #[.int .i64 0, .slice none 0 0] 35))
    clear e1 e2 hi hi0 hi1 hi2
    by_cases h2 : n < 2
    · have k2 : (n : Int) < 2 := by omega
      clear hok h1 hw
      go_enter Try.func49, Try.ntmps49
      go_wp2
      refine bodyPost_ret (results_cell_row rfl _ _ w.heap.size 35 _ (0, 0) _ rfl (heap_alloc_new _ _) hz1 rfl (by kernel_rfl)) rfl ?_
      rw [HE1.out, HE2.out]
      exact ⟨none, 0, rfl, ⟨World.ownsRow_nil _ _ _ _, HB.out⟩⟩
    · have k2 : ¬ (n : Int) < 2 := by omega
      obtain ⟨ad, rfl, hab, hcell⟩ := h1.out (by omega)
      have p1 := hcell 1 (by omega)
      obtain ⟨N, hN⟩ : ∃ N, wd b 1 = N := ⟨_, rfl⟩
      have p1' : w.cell? ⟨ad.block, ad.off + 1, none⟩ = some (.int .u64 (N : Int)) := by rw [← hN]; exact p1
      clear hcell p1
      by_cases h12 : 12 < N
      · have k3 : (12 : Int) < N := by omega
        clear hok h1 hw hN
        go_enter Try.func49, Try.ntmps49
        go_wp2
        refine bodyPost_ret (results_cell_row rfl _ _ w.heap.size 35 _ (0, 0) _ rfl (heap_alloc_new _ _) hz1 rfl (by kernel_rfl)) rfl ?_
        rw [HE1.out, HE2.out]
        exact ⟨none, 0, rfl, ⟨World.ownsRow_nil _ _ _ _, HB.out⟩⟩
      · have k3 : ¬ (12 : Int) < N := by omega
        have h39 : n < 3 + 9 * N := by
          have : ¬ (2 ≤ b.length ∧ wd b 1 ≤ 12 ∧ 3 + 9 * wd b 1 ≤ b.length) := hok
          rw [hN] at this
          omega
        have k4 : (n : Int) < ((3 + 9 * N : Nat) : Int) := by omega
        have CB := Lk.mk (fun w => bodyWords_any N w (by omega))
        clear hok h1 hw hN
        go_enter Try.func49, Try.ntmps49
        go_wp2_with (first
          | (go_at_call 46; refine (CB.out _).mono ?_; rintro e w' ⟨rfl, rfl⟩))
        refine bodyPost_ret (results_cell_row rfl _ _ w.heap.size 35 _ (0, 0) _ rfl (heap_alloc_new _ _) hz1 rfl (by kernel_rfl)) rfl ?_
        rw [HE1.out, HE2.out]
        exact ⟨none, 0, rfl, ⟨World.ownsRow_nil _ _ _ _, HB.out⟩⟩
end Go.Proofs.Ytdodigfojbijfaa.Rj

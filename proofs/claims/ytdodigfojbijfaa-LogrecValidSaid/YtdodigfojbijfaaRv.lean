/-
  Contract of the reference's Parse.
-/
import Derived.Test.YtdodigfojbijfaaRu
namespace Go.Proofs.Ytdodigfojbijfaa.Rv
open Go.ChangeShapes Go.WideShapes Go.ChangeAt Go.RowKit Ga Gb Ra Rb Rc Rd Re Rf Rg Rh Ri Rj Rk Rl Rm Rn Ro Rp Rr Rs Rt Ru Un
set_option linter.unusedVariables false
set_option linter.unusedSimpArgs false
set_option maxRecDepth 10000
set_option maxHeartbeats 2000000

theorem ref_two {fn : Func} {p u : Tmp} (h : fn.results = #[.cell p 25, .tmp u]) (tmps : Array Value) (w : World) (g : Nat) (cs : Array Value) (hcs : cs.size = 2) (hp : tmps.getD p undef = .pointer (some ⟨g, 0, none⟩)) (hg : w.heap[g]? = some (.cells cs 25 (0, 0))) :
    (results fn tmps).run Try.prog w = .ok (.tuple #[.agg cs, tmps.getD u undef]) w := by
  rw [results_cell_tmp h, hp]
  have hi : (Try.prog.info? 25).map (·.size) = some cs.size := by rw [hcs]; kernel_rfl
  have hl := run_loadVar_row (P := Try.prog) w g 25 25 cs (0, 0) _ hg rcv_under rfl hi
  simp [asAddr, hl, Result.andThen]
theorem small_wrap {x : Nat} (h : x < 256) : wrap64 (x : Int) = x ∧ IntKind.i64.wrap (x : Int) = x ∧ i64w x = x := by
  have h1 := i64w_small (x := x) (by omega)
  exact ⟨by rw [← wrap64_is]; exact h1, h1, h1⟩
theorem Bp.of_heap {w : World} {g : Nat} {p : Pg} {T : TypeId} (h : w.heap[g]? = some (.cells p.arr T (0, 0))) : Bp w g p := by
  have k : ∀ j, w.cell? ⟨g, j, none⟩ = p.arr[j]? := fun j => cell_of_row _ _ _ _ _ _ h
  exact ⟨(k 0).trans rfl, (k 1).trans rfl, (k 2).trans rfl, (k 3).trans rfl, (k 4).trans rfl, (k 5).trans rfl, (k 6).trans rfl, (k 7).trans rfl, (k 8).trans rfl⟩
/-- A box of two cells as calls go on. -/
theorem rd_on {w0 W1 W2 : World} {g : Nat} {x y : Value} (h : W1.cell? ⟨g, 0, none⟩ = some x ∧ W1.cell? ⟨g, 1, none⟩ = some y ∧ Lk (Below w0.heap.size w0 W1)) (hb : Lk (Below W1.heap.size W1 W2)) : W2.cell? ⟨g, 0, none⟩ = some x ∧ W2.cell? ⟨g, 1, none⟩ = some y ∧ Lk (Below w0.heap.size w0 W2) :=
  ⟨(hb.out.cell (block_lt_of_cell h.1)).trans h.1, (hb.out.cell (block_lt_of_cell h.2.1)).trans h.2.1, ⟨btr h.2.2.out hb.out⟩⟩
theorem rd_below {w0 W1 : World} {g : Nat} {x y : Value} (h : W1.cell? ⟨g, 0, none⟩ = some x ∧ W1.cell? ⟨g, 1, none⟩ = some y ∧ Lk (Below w0.heap.size w0 W1)) : Below w0.heap.size w0 W1 := h.2.2.out
/-- What Parse hands back. -/
def ParsePost (b : List Nat) (lines : Int) (w : World) (e : Ending) (w' : World) : Prop :=
  ∃ A' c', e = .returned (.tuple #[rcv (parseS b lines) A' (parseL b lines).length c', .int .i64 (parseE b lines)]) ∧ Lk (Pt w w.heap.size w' (.slice A' (parseL b lines).length c') (parseL b lines))
theorem post_no {b : List Nat} {lines : Int} {w w' : World} {c : Int} (h : parseE b lines = c) (hc : c ≠ 0) (hb : Below w.heap.size w w') : ParsePost b lines w (.returned (.tuple #[.agg #[.int .i64 0, .slice none 0 0], .int .i64 c])) w' := by
  have h' := parse_no (b := b) (lines := lines) (by rw [h]; exact hc)
  unfold ParsePost
  rw [h'.1, h'.2, h]
  exact ⟨none, 0, rfl, ⟨World.ownsRow_nil _ _ _ _, hb⟩⟩
theorem refParse_any (A : Option Addr) (b : List Nat) (lines : Int) (n c : Nat) (w : World) (hn : b.length = n) (hb : n ≤ 4294967296) (hc : n ≤ c) (hc2 : c ≤ 9223372036854775807) (hw : Lk (∀ x ∈ b, x < 18446744073709551616)) (h1 : Lk (Lies .u64 w w.heap.size A b)) :
    Calls Try.prog 21 #[.slice A n c, .int .i64 lines] w (ParsePost b lines w) := by
  obtain ⟨i0, hi, hi0, hi1, hi2⟩ := info_parts pinfo
  have HZ0 := Lk.mk (Zt.start 25 w)
  by_cases hN : 98 ≤ lines ∧ lines ≤ 256
  · have k1 : ¬ lines < 98 := by omega
    have k2 : ¬ 256 < lines := by omega
    have HNN := Lk.mk (show nodeB lines = true from decide_eq_true hN)
    clear hN
    by_cases h3 : n < 3
    · have HE := Lk.mk (parse_bad HNN.out hw.out (by omega))
      have k3 : (n : Int) < 3 := by omega
      go_enter Try.func21, Try.ntmps21
      go_wp2
      refine bodyPost_ret (ref_two rfl _ _ w.heap.size #[.int .i64 0, .slice none 0 0] rfl rfl HZ0.out.z) rfl ?_
      exact post_no HE.out (by decide) HZ0.out.below
    · have k3 : ¬ (n : Int) < 3 := by omega
      obtain ⟨ad, rfl, hab, hcell⟩ := h1.out (by omega)
      have HC := Lk.mk hcell
      have q1 := hcell 1 (by omega)
      have q0 := hcell 0 (by omega)
      obtain ⟨N, hNw⟩ : ∃ N, wd b 1 = N := ⟨_, rfl⟩
      have q1' : w.cell? ⟨ad.block, ad.off + 1, none⟩ = some (.int .u64 (N : Int)) := by rw [← hNw]; exact q1
      obtain ⟨X, hX⟩ : ∃ X, wd b 0 = X := ⟨_, rfl⟩
      have q0' : w.cell? ad = some (.int .u64 (X : Int)) := by rw [← hX]; exact q0
      have HB := Lk.mk (fun (h : ¬ (3 ≤ b.length ∧ wd b 0 < 1073741824 ∧ 1 ≤ wd b 1 ∧ wd b 1 ≤ 12 ∧ 3 + 9 * wd b 1 ≤ b.length)) => parse_bad HNN.out hw.out h)
      have HNw := Lk.mk hNw
      have HXw := Lk.mk hX
      have HX64 : X < 18446744073709551616 := by rw [← hX]; exact wd_lt hw.out 0
      have HN64 : N < 18446744073709551616 := by rw [← hNw]; exact wd_lt hw.out 1
      rw [hNw, hX, hn] at HB
      clear hcell q0 q1 hNw hX
      by_cases hx : 1073741824 ≤ X
      · have HE := Lk.mk (HB.out (by omega))
        have k4 : (1073741824 : Int) ≤ X := by omega
        clear HB
        go_enter Try.func21, Try.ntmps21
        go_wp2
        refine bodyPost_ret (ref_two rfl _ _ w.heap.size #[.int .i64 0, .slice none 0 0] rfl rfl HZ0.out.z) rfl ?_
        exact post_no HE.out (by decide) HZ0.out.below
      · have k4 : ¬ (1073741824 : Int) ≤ X := by omega
        by_cases hn1 : N < 1
        · have HE := Lk.mk (HB.out (by omega))
          have k5 : (N : Int) < 1 := by omega
          clear HB
          go_enter Try.func21, Try.ntmps21
          go_wp2
          refine bodyPost_ret (ref_two rfl _ _ w.heap.size #[.int .i64 0, .slice none 0 0] rfl rfl HZ0.out.z) rfl ?_
          exact post_no HE.out (by decide) HZ0.out.below
        · have k5 : ¬ (N : Int) < 1 := by omega
          by_cases h12 : 12 < N
          · have HE := Lk.mk (HB.out (by omega))
            have k6 : (12 : Int) < N := by omega
            clear HB
            go_enter Try.func21, Try.ntmps21
            go_wp2
            refine bodyPost_ret (ref_two rfl _ _ w.heap.size #[.int .i64 0, .slice none 0 0] rfl rfl HZ0.out.z) rfl ?_
            exact post_no HE.out (by decide) HZ0.out.below
          · have k6 : ¬ (12 : Int) < N := by omega
            by_cases h39 : n < 3 + 9 * N
            · have HE := Lk.mk (HB.out (by omega))
              have k7 : (n : Int) < 3 + 9 * (N : Int) := by omega
              clear HB
              go_enter Try.func21, Try.ntmps21
              go_wp2
              refine bodyPost_ret (ref_two rfl _ _ w.heap.size #[.int .i64 0, .slice none 0 0] rfl rfl HZ0.out.z) rfl ?_
              exact post_no HE.out (by decide) HZ0.out.below
            · have k7 : ¬ (n : Int) < 3 + 9 * (N : Int) := by omega
              clear HB
              go_enter Try.func21, Try.ntmps21
              go_wp2_with fail
              have hok : okL b := ⟨by omega, by rw [HNw.out]; omega, by rw [HNw.out]; omega⟩
              have HO := Lk.mk hok
              have hS : unpS b = (X : Int) := by rw [unpS, if_pos hok, HXw.out, i64w_small (by omega)]
              have HLu := Lk.mk (show unpL b = pgsU b N from by rw [unpL, if_pos hok, HNw.out])
              have HSu := Lk.mk hS
              have H0 : Lk (Uf 25 w _ (X : Int) (pgsU b 0) (.slice none 0 0)) := ⟨Uf.start 25 w (X : Int)⟩
              have HD := Lk.mk (fun i => wd_lt hw.out i)
              have HBad := Lk.mk (fun i (hi : i < N) (h : 256 ≤ wd b (2 + i * 9)) => parse_bad2 HNN.out hw.out (i := i) (by rw [HNw.out]; exact hi) h)
              clear HZ0 hok hS q0' k1 k2 k3 k4 k5 k6 k7
              go_loopw [7] (fun s wr => ∃ (k : Nat) (v : Value), k ≤ N ∧ s = .int .i64 k ∧ Lk (Uf 25 w wr (X : Int) (pgsU b k) v)) (fun i _ => N - (intOf i).toNat)
              case atStart => exact ⟨0, _, by omega, rfl, H0⟩
              case round =>
                clear H0
                obtain ⟨k, v, hk, rfl, HU⟩ := hrel
                have q1k := (HU.out.below.cell (p := ⟨ad.block, ad.off + 1, none⟩) hab).trans q1'
                by_cases hlt : k < N
                · have hki : (k : Int) < N := by omega
                  have g9 : 2 + 9 * (k : Int) ≤ n := by omega
                  have g10 : 2 + 9 * (k : Int) ≤ c := by omega
                  have HCa := Lk.mk (fun j (hj : j < 9) => show wr.cell? ((ad.add (2 + 9 * k)).add j) = some (.int .u64 ((wd b (2 + k * 9 + j) : Nat) : Int)) from by
                    have h := (HU.out.below.cell (p := ad.add (2 + k * 9 + j)) (by rw [block_of_add]; exact hab)).trans (HC.out (2 + k * 9 + j) (by omega))
                    rw [add_of_add, show 2 + 9 * k + j = 2 + k * 9 + j by omega]; exact h)
                  have HPn := Lk.mk (pgsU_next b k)
                  have hab2 : (ad.add (2 + 9 * k)).block < wr.heap.size := by rw [block_of_add]; have := HU.out.below.size; omega
                  have f0 := HCa.out 0 (by decide)
                  have f1 := HCa.out 1 (by decide)
                  have HBk := Lk.mk (HBad.out k hlt)
                  have hd0 := HD.out (2 + k * 9)
                  obtain ⟨M, hM⟩ : ∃ M, n - (2 + 9 * k) = M := ⟨_, rfl⟩
                  obtain ⟨C, hCc⟩ : ∃ C, c - (2 + 9 * k) = C := ⟨_, rfl⟩
                  have hMC : 9 ≤ M ∧ M ≤ C ∧ C ≤ 9223372036854775807 ∧ M ≤ 4294967296 := by omega
                  go_upto_region 10 with fail
                  rw [hM, hCc]
                  clear hM hCc g9 g10
                  have hpg : pgAt b k = ⟨i64w (wd b (2 + k * 9)), wd b (2 + k * 9 + 1), wd b (2 + k * 9 + 2 + 0), wd b (2 + k * 9 + 2 + 1), wd b (2 + k * 9 + 2 + 2), wd b (2 + k * 9 + 2 + 3), wd b (2 + k * 9 + 2 + 4), wd b (2 + k * 9 + 2 + 5), wd b (2 + k * 9 + 2 + 6)⟩ := rfl
                  rw [hpg] at HPn
                  clear hpg
                  generalize (wd b (2 + k * 9)) = D0 at *
                  generalize (wd b (2 + k * 9 + 1)) = D1 at *
                  generalize ad.add (2 + 9 * k) = af at *
                  have f0' : wr.cell? af = some (.int .u64 (D0 : Int)) := f0
                  have f1' : wr.cell? ⟨af.block, af.off + 1, none⟩ = some (.int .u64 (D1 : Int)) := f1
                  clear f0 f1
                  by_cases hD : 256 ≤ D0
                  · have HE := Lk.mk (HBk.out hD)
                    have hDi : (256 : Int) ≤ D0 := by omega
                    obtain ⟨z0, z1, z2, z3⟩ := two_cells HU.out.z
                    clear HPn HBk HCa
                    go_wp2
                    refine bodyPost_ret (ref_two rfl _ _ w.heap.size #[.int .i64 0, .slice none 0 0] rfl rfl (two_set _ _ _ _ HU.out.z)) rfl ?_
                    exact post_no HE.out (by decide) (two_below _ _ HU.out.below (Nat.le_refl _))
                  · have hDi : ¬ (256 : Int) ≤ D0 := by omega
                    obtain ⟨hDw, hDw2, hDs⟩ := small_wrap (x := D0) (by omega)
                    have HDs := Lk.mk hDs
                    clear hDs
                    obtain ⟨wo, rfl⟩ : ∃ wo : World, wo = wr := ⟨_, rfl⟩
                    clear HBk
                    rw [HDs.out] at HPn
                    go_upto_region 12 with fail
                    go_cut [9] (fun s9 wx => ∃ gp, s9 = .pointer (some ⟨gp, 0, none⟩) ∧ Lk (wo.heap.size ≤ gp) ∧ Lk (wx.heap[gp]? = some (.cells (wdK (D0 : Int) D1 (fun m => wd b (2 + k * 9 + 2 + m)) 0) 31 (0, 0))) ∧ Lk (Below wo.heap.size wo wx))
                    case first =>
                      go_region
                      all_goals go_wp2
                      all_goals go_meet
                      all_goals exact ⟨_, rfl, ⟨Nat.le_refl _⟩, ⟨heap_alloc_new wo _⟩, ⟨((Below.refl _ wo).alloc (Nat.le_refl _) _).drew⟩⟩
                    case rest =>
                      obtain ⟨gp, rfl, HGl, HGz, HBc⟩ := hcut
                      rename_i K aK
                      refine aK _ _ ?_
                      clear f0' f1' aK hDw hDw2 HDs
                      go_wp2_with fail
                      go_loopw [10] (fun s10 wx => ∃ m : Nat, m ≤ 7 ∧ s10 = .int .i64 m ∧ Lk (wx.heap[gp]? = some (.cells (wdK (D0 : Int) D1 (fun m => wd b (2 + k * 9 + 2 + m)) m) 31 (0, 0))) ∧ Lk (Below wo.heap.size wo wx)) (fun i _ => 7 - (intOf i).toNat)
                      case atStart => exact ⟨0, by omega, rfl, HGz, HBc⟩
                      case round =>
                        clear HGz HBc
                        obtain ⟨m, hm, rfl, HGz, HBc⟩ := hrel
                        by_cases h7 : m < 7
                        · have hmi : (m : Int) < 7 := by omega
                          have hmM : 2 + (m : Int) < M := by omega
                          have fm := (HBc.out.cell (p := af.add (2 + m)) (by rw [block_of_add]; exact hab2)).trans (HCa.out (2 + m) (by omega))
                          obtain ⟨vv, hc⟩ : ∃ v, wr.cell? ⟨gp, 2 + m, none⟩ = some v := ⟨_, (cell_of_row wr gp (2 + m) _ _ _ HGz.out).trans (Array.getElem?_eq_getElem (by rw [wdK_size]; omega))⟩
                          have hf := frozen_of_row wr gp (2 + m) _ _ HGz.out
                          have HG2 := Lk.mk (heap_setCell_same wr gp (2 + m) _ _ (.int .u64 ((wd b (2 + k * 9 + 2 + m) : Nat) : Int)) HGz.out)
                          have HG2 : Lk ((wr.setCell ⟨gp, 2 + m, none⟩ (.int .u64 ((wd b (2 + k * 9 + 2 + m) : Nat) : Int))).heap[gp]? = some (.cells (wdK (D0 : Int) D1 (fun m => wd b (2 + k * 9 + 2 + m)) (m + 1)) 31 (0, 0))) := HG2
                          have HB2 := Lk.mk (HBc.out.setCell (p := ⟨gp, 2 + m, none⟩) HGl.out (.int .u64 ((wd b (2 + k * 9 + 2 + m) : Nat) : Int)))
                          rw [show 2 + k * 9 + (2 + m) = 2 + k * 9 + 2 + m by omega] at fm
                          clear HGz HBc
                          generalize wd b (2 + k * 9 + 2 + m) = dm at *
                          go_wp2
                          go_roundw
                          case rel => exact ⟨m + 1, by omega, by go_num, HG2, HB2⟩
                          case measure => simp [intOf]; omega
                        · obtain rfl : m = 7 := by omega
                          rw [wdK_all] at HGz
                          obtain ⟨q, hq⟩ : ∃ q : Pg, q = ⟨(D0 : Int), D1, wd b (2 + k * 9 + 2 + 0), wd b (2 + k * 9 + 2 + 1), wd b (2 + k * 9 + 2 + 2), wd b (2 + k * 9 + 2 + 3), wd b (2 + k * 9 + 2 + 4), wd b (2 + k * 9 + 2 + 5), wd b (2 + k * 9 + 2 + 6)⟩ := ⟨_, rfl⟩
                          rw [← hq] at HPn HGz
                          have HBp := Lk.mk (Bp.of_heap HGz.out)
                          have HU5 := Lk.mk (HU.out.on HBc.out)
                          clear HU HBc HGz HCa HGl hq q1k hab2
                          have HK := Lk.mk (pgsU_len b k)
                          have HKn := Lk.mk (pgsU_len b (k + 1))
                          generalize pgsU b k = l at *
                          obtain ⟨A5, c5, rfl⟩ := own_slice HU5.out.own
                          rw [HK.out] at HU5
                          have r1 := (cell_of_row wr (w.heap.size + 1) 1 _ _ _ HU5.out.r).trans rfl
                          obtain ⟨m0, m1, m2, m3, m4, m5, m6, m7, m8⟩ := HBp.out
                          have hk12 : k < 12 := by omega
                          go_wp2_with (first
                            | (at_builtin; refine wpList_onto rfl _ _ 22 rfl (w.heap.size + 2) 31 i0 pz.val 9 72 Try.underlying22 hi hi0 hi1 hi2 rfl (by decide) (.slice A5 k c5) l.length (l.flatMap Pg.cells) rfl (HU5.out.own.alloc _) _ 1 1 [Value.int .i64 q.line, .int .u64 (q.head : Int), .int .u64 (q.a : Int), .int .u64 (q.b : Int), .int .u64 (q.c : Int), .int .u64 (q.d : Int), .int .u64 (q.e : Int), .int .u64 (q.f : Int), .int .u64 (q.g : Int)] rfl (From.new _ _ _ 9 rfl) ?c2 ?c3 ?c4 ?c5 ?_))
                          case c2 => exact pages_one [q]
                          case c3 => rw [HK.out]; unfold maxLen; omega
                          case c4 => rw [HK.out]; omega
                          case c5 => have h1 := HU5.out.big; simp; omega
                          intro v6 w6 hown6 hgrow6
                          rw [HK.out] at hown6
                          obtain ⟨A6, c6, rfl⟩ := own_slice hown6
                          have hPut := (HU5.out.on (one_alloc wr (.cells [Value.int .i64 q.line, .int .u64 (q.head : Int), .int .u64 (q.a : Int), .int .u64 (q.b : Int), .int .u64 (q.c : Int), .int .u64 (q.d : Int), .int .u64 (q.e : Int), .int .u64 (q.f : Int), .int .u64 (q.g : Int)].toArray 31))).put (l' := pgsU b (k + 1)) (A6 := A6) (c6 := c6) (.inr hgrow6) HKn.out (by rw [HPn.out, List.flatMap_append]; simpa [Pg.cells] using hown6)
                          have HU6 := Lk.mk hPut.1
                          have hc6 := (cell_of_row w6 (w.heap.size + 1) 1 _ _ _ hPut.2).trans rfl
                          have hf6 := frozen_of_row w6 (w.heap.size + 1) 1 _ _ hPut.2
                          clear hPut hown6 hgrow6 HU5 HBp HPn r1 m0 m1 m2 m3 m4 m5 m6 m7 m8
                          go_wp2
                          go_roundw
                          case rel => exact ⟨k + 1, _, by omega, by go_num, HU6⟩
                          case measure => simp [intOf]; omega
                · obtain rfl : N = k := by omega
                  rw [← HLu.out, ← HSu.out] at HU
                  have HK := Lk.mk (show (unpL b).length = N from by rw [HLu.out, pgsU_len])
                  have hki : ¬ (N : Int) < N := by omega
                  obtain ⟨A5, c5, rfl⟩ := own_slice HU.out.own
                  rw [HK.out] at HU
                  have HPt : Lk (Pt w (w.heap.size + 2) wr (.slice A5 N c5) (unpL b)) := ⟨HU.out.own, HU.out.below⟩
                  have HWf := Lk.mk (unpL_wf hw.out)
                  have hN12 : N ≤ 12 := by omega
                  have HPg := Lk.mk (fun (W : World) (hB : Below wr.heap.size wr W) => (show Pgs W W.heap.size A5 (unpL b) from by obtain ⟨A', c', e, _, _, hP⟩ := (HPt.out.on hB).form; rw [HK.out] at e; cases e; exact hP))
                  have CV := Lk.mk (fun (W : World) (hB : Below wr.heap.size wr W) => validRecord_any (unpS b) lines A5 (unpL b) N c5 W HK.out (by omega) HWf ⟨HPg.out W hB⟩)
                  have CB := Lk.mk (fun (W : World) (hB : Below wr.heap.size wr W) => refBody_any (unpS b) A5 (unpL b) N c5 W HK.out (by omega) HWf ⟨HPg.out W hB⟩)
                  have HR := Lk.mk (fun (W : World) (hB : Below wr.heap.size wr W) => (HU.out.on hB))
                  have HRc := Lk.mk (fun (W : World) (hB : Below wr.heap.size wr W) => two_cells (HU.out.on hB).r)
                  have HZc := Lk.mk (fun (W : World) (hB : Below wr.heap.size wr W) => two_cells (HU.out.on hB).z)
                  have HBa : Lk (Below wr.heap.size wr wr) := ⟨Below.refl _ _⟩
                  have HBd : Lk (Below wr.heap.size wr wr.drew) := ⟨(Below.refl _ wr).drew⟩
                  obtain ⟨r0, r1, _, _⟩ := HRc.out wr HBa.out
                  have hu : undef = Value.tuple #[] := rfl
                  have hw1 : IntKind.i64.wrap (9 * (N : Int)) = 9 * (N : Int) := by rw [IntKind.wrap_i64]; omega
                  have hw2 : IntKind.i64.wrap (3 + 9 * (N : Int)) = 3 + 9 * (N : Int) := by rw [IntKind.wrap_i64]; omega
                  have HS0 := Lk.mk (show wr.drew.cell? ⟨w.heap.size + 1, 0, none⟩ = some (.int .i64 (unpS b)) ∧ wr.drew.cell? ⟨w.heap.size + 1, 1, none⟩ = some (.slice A5 N c5) ∧ Lk (Below wr.heap.size wr wr.drew) from ⟨r0, r1, HBd⟩)
                  have h39' : 3 + 9 * N ≤ n := by omega
                  have hqq : True := trivial
                  by_cases hV : validR (unpS b) (unpL b) lines = 0
                  · have hX : bodyX (unpS b) (unpL b) = bodyW (unpS b) (unpL b) := if_pos (valid_more hV)
                    have hT : (bodyW (unpS b) (unpL b)).length = 3 + 9 * N := by rw [bodyW_len, HK.out]
                    have HT := Lk.mk hT
                    have HEq := Lk.mk (show parseE b lines = if bodyW (unpS b) (unpL b) = b.take (3 + 9 * N) then 0 else 14 from by
                      rw [parseE, if_pos HNN.out, HK.out]
                      by_cases hq : bodyW (unpS b) (unpL b) = b.take (3 + 9 * N)
                      · rw [if_pos ⟨hV, hq⟩, if_pos hq]
                      · rw [if_neg (fun h => hq h.2), if_neg hq])
                    rw [hX] at CB
                    rw [hV] at CV
                    unfold rcv at CV CB
                    have HLT := Lk.mk (fun (W : World) (hB : Below wr.heap.size wr W) => show Lies .u64 W W.heap.size (some ad) (b.take (3 + 9 * N)) from lies_take (((h1.out.below HU.out.below).more HU.out.below.size |>.below hB).more hB.size) (by omega))
                    have CE := Lk.mk (fun (W : World) (A3 : Option Addr) (c3 : Nat) (hB : Below wr.heap.size wr W) (hL : Lies .u64 W W.heap.size A3 (bodyW (unpS b) (unpL b))) => sameWords_any A3 (some ad) (3 + 9 * N) c3 (3 + 9 * N) c (bodyW (unpS b) (unpL b)) (b.take (3 + 9 * N)) W hT (by simp; omega) ⟨hL⟩ ⟨HLT.out W hB⟩ (by omega) (by omega))
                    have hs1 : ∀ w : World, (Instr.sliceAt 41 (.slice (some ad) n c) none (some (.int .i64 (3 + 9 * (N : Int)))) none).run Try.prog w = .ok (.slice (some ad) (3 + 9 * N) c) w := fun w => by
                      have := slice_headW (some ad) n c (3 + 9 * N) w (by omega)
                      rwa [show (((3 + 9 * N : Nat)) : Int) = 3 + 9 * (N : Int) from by omega] at this
                    clear hX hT hV
                    by_cases hq : bodyW (unpS b) (unpL b) = b.take (3 + 9 * N)
                    · rw [if_pos hq] at HEq
                      have HE := parse_yes HEq.out
                      rw [decide_eq_true hq] at CE
                      clear hq
                      go_upto_region 18 with fail
                      go_cut [116] (fun s wx => s = .bool false ∧ Lk (Below wr.heap.size wr wx))
                      case first =>
                        go_region_held3 (fun W' => W'.cell? ⟨w.heap.size + 1, 0, none⟩ = some (.int .i64 (unpS b)) ∧ W'.cell? ⟨w.heap.size + 1, 1, none⟩ = some (.slice A5 N c5) ∧ Lk (Below wr.heap.size wr W')) (first | with_reducible exact HS0.out | with_reducible assumption | with_reducible exact rd_on (by assumption) (by assumption))
                          (first
                            | (go_at_call 14; with_reducible refine (CV.out _ (rd_below (by assumption))).mono ?_; rintro e w2 ⟨rfl, H2⟩)
                            | (go_at_call 19; with_reducible refine (CB.out _ (rd_below (by assumption))).mono ?_; rintro e w3 ⟨v3, rfl, HW3⟩; have H3 := Lk.mk HW3.out.below; have hF3 := HW3.out.form; rw [HT.out] at hF3; obtain ⟨A3, c3, rfl, hc3, hc3', hL3⟩ := hF3; have HL3 := Lk.mk hL3; clear hL3)
                            | (go_at_call 18; with_reducible refine (CE.out _ A3 c3 (rd_below (by assumption)) HL3.out).mono ?_; rintro e w4 ⟨rfl, H4⟩))
                        all_goals have HB4 := rd_below (by assumption)
                        all_goals go_wp2
                        all_goals go_meet
                        all_goals exact ⟨rfl, ⟨HB4⟩⟩
                      case rest =>
                        obtain ⟨rfl, HBc⟩ := hcut
                        obtain ⟨r0, r1, _, _⟩ := HRc.out wc HBc.out
                        obtain ⟨z0, z1, z2, z3⟩ := HZc.out wc HBc.out
                        have HUc := Lk.mk (HU.out.on HBc.out)
                        go_wp2
                        refine bodyPost_ret (ref_two rfl _ _ w.heap.size #[.int .i64 (unpS b), .slice A5 N c5] rfl rfl (two_set _ _ _ _ HUc.out.z)) rfl ?_
                        unfold ParsePost
                        rw [HE.1, HE.2, HEq.out, HK.out]
                        exact ⟨A5, c5, rfl, ⟨pt_two (W0 := w) (B := w.heap.size + 2) _ _ ⟨HUc.out.own, HUc.out.below⟩ HUc.out.below (by omega)⟩⟩
                    · rw [if_neg hq] at HEq
                      rw [decide_eq_false hq] at CE
                      clear hq
                      go_upto_region 18 with fail
                      go_cut [116] (fun s wx => s = .bool true ∧ Lk (Below wr.heap.size wr wx))
                      case first =>
                        go_region_held3 (fun W' => W'.cell? ⟨w.heap.size + 1, 0, none⟩ = some (.int .i64 (unpS b)) ∧ W'.cell? ⟨w.heap.size + 1, 1, none⟩ = some (.slice A5 N c5) ∧ Lk (Below wr.heap.size wr W')) (first | with_reducible exact HS0.out | with_reducible assumption | with_reducible exact rd_on (by assumption) (by assumption))
                          (first
                            | (go_at_call 14; with_reducible refine (CV.out _ (rd_below (by assumption))).mono ?_; rintro e w2 ⟨rfl, H2⟩)
                            | (go_at_call 19; with_reducible refine (CB.out _ (rd_below (by assumption))).mono ?_; rintro e w3 ⟨v3, rfl, HW3⟩; have H3 := Lk.mk HW3.out.below; have hF3 := HW3.out.form; rw [HT.out] at hF3; obtain ⟨A3, c3, rfl, hc3, hc3', hL3⟩ := hF3; have HL3 := Lk.mk hL3; clear hL3)
                            | (go_at_call 18; with_reducible refine (CE.out _ A3 c3 (rd_below (by assumption)) HL3.out).mono ?_; rintro e w4 ⟨rfl, H4⟩))
                        all_goals have HB4 := rd_below (by assumption)
                        all_goals go_wp2
                        all_goals go_meet
                        all_goals exact ⟨rfl, ⟨HB4⟩⟩
                      case rest =>
                        obtain ⟨rfl, HBc⟩ := hcut
                        obtain ⟨r0, r1, _, _⟩ := HRc.out wc HBc.out
                        obtain ⟨z0, z1, z2, z3⟩ := HZc.out wc HBc.out
                        have HUc := Lk.mk (HU.out.on HBc.out)
                        go_wp2
                        refine bodyPost_ret (ref_two rfl _ _ w.heap.size #[.int .i64 0, .slice none 0 0] rfl rfl (two_set _ _ _ _ HUc.out.z)) rfl ?_
                        exact post_no HEq.out (by decide) (two_below _ _ HUc.out.below (Nat.le_refl _))
                  · have HE := Lk.mk (parse_14 HNN.out hV)
                    have hvb : (validR (unpS b) (unpL b) lines != 0) = true := by simpa using hV
                    unfold rcv at CV
                    generalize validR (unpS b) (unpL b) lines = vr at *
                    clear CB hV
                    go_upto_region 18 with fail
                    go_cut [116] (fun s wx => s = .bool true ∧ Lk (Below wr.heap.size wr wx))
                    case first =>
                      refine wp_region_held_drew (S := fun W' => W'.cell? ⟨w.heap.size + 1, 0, none⟩ = some (.int .i64 (unpS b)) ∧ W'.cell? ⟨w.heap.size + 1, 1, none⟩ = some (.slice A5 N c5) ∧ Lk (Below wr.heap.size wr W')) (by kernel_rfl) HS0.out (fun hHeld => ?_)
                      refine wpAnyH_take (i := 0) (v := ?_) (by simp only [List.getElem?_toArray, List.getElem?_cons_succ, List.getElem?_cons_zero] <;> rfl) (by kernel_rfl) (by kernel_rfl) (by kernel_rfl) (by exact fun _ _ _ h => h) (Or.inl ⟨by rfl, ?_⟩) (by assumption) ?_
                      rotate_left
                      · (intro w' hSw; (try dsimp only at hSw); go_simp <;> with_reducible rfl)
                      (try simp only [Act.put, List.setIfInBounds_toArray, List.set_cons_zero, List.set_cons_succ])
                      refine wpAnyH_take (i := 1) (v := ?_) (by simp only [List.getElem?_toArray, List.getElem?_cons_succ, List.getElem?_cons_zero] <;> rfl) (by kernel_rfl) (by kernel_rfl) (by kernel_rfl) (by exact fun _ _ _ h => h) (Or.inl ⟨by rfl, ?_⟩) (by assumption) ?_
                      rotate_left
                      · (intro w' hSw; (try dsimp only at hSw); go_simp <;> with_reducible rfl)
                      (try simp only [Act.put, List.setIfInBounds_toArray, List.set_cons_zero, List.set_cons_succ])
                      refine wpAnyH_ready (rs := [2]) (by kernel_rfl) (by simp) ?_
                      refine AllReadyH.cons rfl (fun K hK => ?_) AllReadyH.nil
                      go_simp
                      go_at_call 14
                      with_reducible refine (CV.out _ (rd_below (by assumption))).mono ?_
                      rintro e w2 ⟨rfl, H2⟩
                      refine hK.out _ _ ?_ (fun hHeld => ?_)
                      · exact rd_on (by assumption) (by assumption)
                      clear hK K
                      (try simp only [Act.put, List.setIfInBounds_toArray, List.set_cons_zero, List.set_cons_succ])
                      refine wpAnyH_take (i := 3) (v := ?_) (by simp only [List.getElem?_toArray, List.getElem?_cons_succ, List.getElem?_cons_zero] <;> rfl) (by kernel_rfl) (by kernel_rfl) (by kernel_rfl) (by exact fun _ _ _ h => h) (Or.inl ⟨by rfl, ?_⟩) (by assumption) ?_
                      rotate_left
                      · (intro w' hSw; (try dsimp only at hSw); go_simp <;> with_reducible rfl)
                      (try simp only [Act.put, List.setIfInBounds_toArray, List.set_cons_zero, List.set_cons_succ])
                      refine wpAnyH_take (i := 4) (v := ?_) (by simp only [List.getElem?_toArray, List.getElem?_cons_succ, List.getElem?_cons_zero] <;> rfl) (by kernel_rfl) (by kernel_rfl) (by kernel_rfl) (by exact fun _ _ _ h => h) (Or.inl ⟨by rfl, ?_⟩) (by assumption) ?_
                      rotate_left
                      · (intro w' hSw; (try dsimp only at hSw); go_simp <;> with_reducible rfl)
                      (try simp only [Act.put, List.setIfInBounds_toArray, List.set_cons_zero, List.set_cons_succ])
                      refine wpAnyH_take (i := 5) (v := undef) (by simp only [List.getElem?_toArray, List.getElem?_cons_succ, List.getElem?_cons_zero] <;> rfl) (by kernel_rfl) (by kernel_rfl) (by kernel_rfl) (by exact fun _ _ _ h => h) (Or.inr ⟨by rfl, rfl⟩) (by assumption) ?_
                      (try simp only [Act.put, List.setIfInBounds_toArray, List.set_cons_zero, List.set_cons_succ])
                      refine wpAnyH_take (i := 7) (v := undef) (by simp only [List.getElem?_toArray, List.getElem?_cons_succ, List.getElem?_cons_zero] <;> rfl) (by kernel_rfl) (by kernel_rfl) (by kernel_rfl) (by exact fun _ _ _ h => h) (Or.inr ⟨by rfl, rfl⟩) (by assumption) ?_
                      (try simp only [Act.put, List.setIfInBounds_toArray, List.set_cons_zero, List.set_cons_succ])
                      refine wpAnyH_take (i := 8) (v := undef) (by simp only [List.getElem?_toArray, List.getElem?_cons_succ, List.getElem?_cons_zero] <;> rfl) (by kernel_rfl) (by kernel_rfl) (by kernel_rfl) (by exact fun _ _ _ h => h) (Or.inr ⟨by rfl, rfl⟩) (by assumption) ?_
                      (try simp only [Act.put, List.setIfInBounds_toArray, List.set_cons_zero, List.set_cons_succ])
                      refine wpAnyH_take (i := 9) (v := undef) (by simp only [List.getElem?_toArray, List.getElem?_cons_succ, List.getElem?_cons_zero] <;> rfl) (by kernel_rfl) (by kernel_rfl) (by kernel_rfl) (by exact fun _ _ _ h => h) (Or.inr ⟨by rfl, rfl⟩) (by assumption) ?_
                      (try simp only [Act.put, List.setIfInBounds_toArray, List.set_cons_zero, List.set_cons_succ])
                      refine wpAnyH_take (i := 10) (v := undef) (by simp only [List.getElem?_toArray, List.getElem?_cons_succ, List.getElem?_cons_zero] <;> rfl) (by kernel_rfl) (by kernel_rfl) (by kernel_rfl) (by exact fun _ _ _ h => h) (Or.inr ⟨by rfl, rfl⟩) (by assumption) ?_
                      (try simp only [Act.put, List.setIfInBounds_toArray, List.set_cons_zero, List.set_cons_succ])
                      refine wpAnyH_take (i := 11) (v := undef) (by simp only [List.getElem?_toArray, List.getElem?_cons_succ, List.getElem?_cons_zero] <;> rfl) (by kernel_rfl) (by kernel_rfl) (by kernel_rfl) (by exact fun _ _ _ h => h) (Or.inr ⟨by rfl, rfl⟩) (by assumption) ?_
                      (try simp only [Act.put, List.setIfInBounds_toArray, List.set_cons_zero, List.set_cons_succ])
                      refine wpAnyH_take (i := 12) (v := undef) (by simp only [List.getElem?_toArray, List.getElem?_cons_succ, List.getElem?_cons_zero] <;> rfl) (by kernel_rfl) (by kernel_rfl) (by kernel_rfl) (by exact fun _ _ _ h => h) (Or.inr ⟨by rfl, rfl⟩) (by assumption) ?_
                      (try simp only [Act.put, List.setIfInBounds_toArray, List.set_cons_zero, List.set_cons_succ])
                      refine wpAnyH_take (i := 13) (v := undef) (by simp only [List.getElem?_toArray, List.getElem?_cons_succ, List.getElem?_cons_zero] <;> rfl) (by kernel_rfl) (by kernel_rfl) (by kernel_rfl) (by exact fun _ _ _ h => h) (Or.inr ⟨by rfl, rfl⟩) (by assumption) ?_
                      (try simp only [Act.put, List.setIfInBounds_toArray, List.set_cons_zero, List.set_cons_succ])
                      refine wpAnyH_ready (rs := [6]) (by kernel_rfl) (by simp) ?_
                      refine AllReadyH.cons (by simp only [List.getElem?_toArray, List.getElem?_cons_succ, List.getElem?_cons_zero] <;> rfl) (fun K hK => ?_) AllReadyH.nil
                      go_simp
                      refine hK.out _ _ hHeld (fun hHeld => ?_)
                      clear hK K
                      (try simp only [Act.put, List.setIfInBounds_toArray, List.set_cons_zero, List.set_cons_succ])
                      refine wpAnyH_ready (rs := [14]) (by kernel_rfl) (by simp) ?_
                      refine AllReadyH.cons (by simp only [List.getElem?_toArray, List.getElem?_cons_succ, List.getElem?_cons_zero] <;> rfl) (fun K hK => ?_) AllReadyH.nil
                      go_simp
                      refine hK.out _ _ hHeld (fun hHeld => ?_)
                      clear hK K
                      (try simp only [Act.put, List.setIfInBounds_toArray, List.set_cons_zero, List.set_cons_succ])
                      refine wpAnyH_take (i := 15) (v := undef) (by simp only [List.getElem?_toArray, List.getElem?_cons_succ, List.getElem?_cons_zero] <;> rfl) (by kernel_rfl) (by kernel_rfl) (by kernel_rfl) (by exact fun _ _ _ h => h) (Or.inr ⟨by rfl, rfl⟩) (by assumption) ?_
                      (try simp only [Act.put, List.setIfInBounds_toArray, List.set_cons_zero, List.set_cons_succ])
                      refine wpAnyH_take (i := 16) (v := ?_) (by simp only [List.getElem?_toArray, List.getElem?_cons_succ, List.getElem?_cons_zero] <;> rfl) (by kernel_rfl) (by kernel_rfl) (by kernel_rfl) (by exact fun _ _ _ h => h) (Or.inl ⟨by rfl, ?_⟩) (by assumption) ?_
                      rotate_left
                      · (intro w' hSw; (try dsimp only at hSw); go_simp <;> with_reducible rfl)
                      (try simp only [Act.put, List.setIfInBounds_toArray, List.set_cons_zero, List.set_cons_succ])
                      refine wpAnyH_done (by kernel_rfl) ?_ _
                      have HB2 := rd_below (by assumption)
                      all_goals go_wp2
                      all_goals go_meet
                      all_goals exact ⟨rfl, ⟨HB2⟩⟩
                    case rest =>
                      obtain ⟨rfl, HBc⟩ := hcut
                      obtain ⟨z0, z1, z2, z3⟩ := HZc.out wc HBc.out
                      have HUc := Lk.mk (HU.out.on HBc.out)
                      go_wp2
                      refine bodyPost_ret (ref_two rfl _ _ w.heap.size #[.int .i64 0, .slice none 0 0] rfl rfl (two_set _ _ _ _ HUc.out.z)) rfl ?_
                      exact post_no HE.out (by decide) (two_below _ _ HUc.out.below (Nat.le_refl _))
  · have HE := Lk.mk (show parseE b lines = 18 from if_neg (by simp only [nodeB, decide_eq_true_eq]; exact hN))
    by_cases k1 : lines < 98
    · go_enter Try.func21, Try.ntmps21
      go_wp2
      refine bodyPost_ret (ref_two rfl _ _ w.heap.size #[.int .i64 0, .slice none 0 0] rfl rfl HZ0.out.z) rfl ?_
      exact post_no HE.out (by decide) HZ0.out.below
    · have k2 : 256 < lines := by omega
      go_enter Try.func21, Try.ntmps21
      go_wp2
      refine bodyPost_ret (ref_two rfl _ _ w.heap.size #[.int .i64 0, .slice none 0 0] rfl rfl HZ0.out.z) rfl ?_
      exact post_no HE.out (by decide) HZ0.out.below
end Go.Proofs.Ytdodigfojbijfaa.Rv

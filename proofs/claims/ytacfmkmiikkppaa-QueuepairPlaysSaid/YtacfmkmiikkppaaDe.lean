/-
  do: Drop, Fail, Back, nothing.
-/
import Derived.Test.YtacfmkmiikkppaaDd
namespace Go.Proofs.Ytacfmkmiikkppaa.De
open Go.ChangeShapes Go.WideShapes Go.ChangeAt Go.RowKit Ga Gb Na Nb Nc Nd_ Nf Va Vb Vd Ve Vf Vg Qa Qb Qc Qd Qe Qf Qg Qh Qj Qk Ta Tb Tc Td Te Tf Tg Th Ti Tk To Tp Tq Tt Tu Tv Tw Tx Da Dd
set_option linter.unusedVariables false
set_option linter.unusedSimpArgs false
set_option maxHeartbeats 1000000
set_option maxRecDepth 100000
section
variable (F : Nat → Prop) (x : Plc) (cl inc m : Nat) (kd rk ra rn ry rb at_ : Int) (ro re wd : Nat) (w : World)
theorem do_drop (h : Lk (Okk F w x cl inc m)) (hm : m < 1000) (d0 : -9223372036854775808 ≤ kd) (d1 : kd ≤ 9223372036854775807) (hp : pk kd 13 = 9) (hw : wd % 4 = 0) : Calls Try.prog 10 #[pairV x, .agg #[.int .i64 kd, .int .i64 rk, .int .i64 ra, .int .i64 rn, .int .i64 ry, .int .i64 rb, .int .u64 (ro : Int), .int .u64 (re : Int), .int .i64 at_, .int .u64 (wd : Int)]] w fun e w' => e = .returned (.bool true) ∧ Lk (Nx F w x cl inc (m + 1) w') := by
  have C0 := fun W => pick_any kd 13 W (by decide) (by decide) d0 d1
  simp only [hp] at C0
  clear hp
  have hfb := Okk.fb h.out
  have HM := Lk.mk (Bx2.made (x := x) (kd := kd) (rk := rk) (ra := ra) (rn := rn) (ry := ry) (rb := rb) (at_ := at_) (ro := ro) (re := re) (wd := wd) w)
  have HX := Lk.mk HM.out.1
  have HI := Lk.mk (Okk.below h.out HM.out.2.1)
  have HB := Lk.mk HM.out.2.1
  have hsz := HM.out.2.2
  clear HM
  unfold pairV
  go_enter Try.func10, Try.ntmps10
  go_upto_region 1 with fail
  generalize (w.alloc _).alloc _ = W at *
  have HFg := Lk.mk (show ¬ F w.heap.size ∧ ¬ F (w.heap.size + 1) from ⟨fun hh => by have := hfb _ hh; omega, fun hh => by have := hfb _ hh; omega⟩)
  clear hfb hsz h
  have HFB := Lk.mk (Okk.fb HI.out)
  generalize hg : w.heap.size = g at *
  have o0 := HX.out.o.1
  go_upto_region 2 with (first
    | (go_at_call 13; refine (C0 _).mono ?_; rintro e w' ⟨rfl, rfl⟩))
  clear C0 o0
  obtain ⟨_, _, _, _, _, _, _, _, _, o9⟩ := HX.out.o
  have hw4 : (wd : Int).tmod 4 = 0 := by rw [Int.tmod_eq_emod_of_nonneg (by omega)]; omega
  have hw5 : (wd : Int) % 4 = 0 := by omega
  go_upto_region 12 with fail
  obtain ⟨y0, _, _, _⟩ := HX.out.p
  have CD := Lk.mk (drop_both F x cl inc m W HI)
  go_upto_region 13 with (first
    | (go_at_call 38; (with_reducible refine CD.out.mono ?_); rintro e w4 ⟨rfl, HO4, HZ4, HN4⟩))
  clear CD y0 o9
  have HX4 := Lk.mk (HX.out.on HO4.out HFg.out.1 HFg.out.2)
  obtain ⟨_, _, y2, _⟩ := HX4.out.p
  obtain ⟨z1, u, z2⟩ := HZ4.out
  go_upto_region 26 with fail
  clear z1 z2 y2 HX4 HZ4 HO4
  have HNc := Lk.mk (Nx.more HN4.out (show m ≤ m + 1 by omega))
  clear HN4
  generalize w4.setCell _ _ = wc at *
  have HXc := Lk.mk (HX.out.on (Nx.only HNc.out) HFg.out.1 HFg.out.2)
  have HNw := Lk.mk (show Nx F w x cl inc (m + 1) wc from Nx.ahead HNc.out (by rw [hg]; exact HB.out))
  obtain ⟨y0, y1, y2, y3⟩ := HXc.out.p
  have CS : Lk (Calls Try.prog 41 #[.agg #[.pointer (some ⟨x.bp, 0, none⟩), .pointer (some ⟨x.bn, 0, none⟩), .pointer (some ⟨x.rb, 0, none⟩), .pointer (some ⟨x.rn, 0, none⟩)]] wc fun e w' => e = .returned (.bool true) ∧ Lk (Below wc.heap.size wc w')) := by
    obtain ⟨F', HO', hF', hon'⟩ := HNc.out
    exact ⟨same_okk ⟨HO'⟩⟩
  clear HNc HXc HX HI HB HFg HFB
  go_wp2_with (first
    | (go_at_call 41; (with_reducible refine CS.out.mono ?_); rintro e w9 ⟨rfl, HB9⟩))
  go_ret
  exact ⟨rfl, ⟨Nx.below HNw.out HB9.out⟩⟩
theorem do_fail (h : Lk (Okk F w x cl inc m)) (hm : m < 1000) (d0 : -9223372036854775808 ≤ kd) (d1 : kd ≤ 9223372036854775807) (hp : pk kd 13 = 11) (hw : wd % 3 = 0) : Calls Try.prog 10 #[pairV x, .agg #[.int .i64 kd, .int .i64 rk, .int .i64 ra, .int .i64 rn, .int .i64 ry, .int .i64 rb, .int .u64 (ro : Int), .int .u64 (re : Int), .int .i64 at_, .int .u64 (wd : Int)]] w fun e w' => e = .returned (.bool true) ∧ Lk (Nx F w x cl inc (m + 1) w') := by
  have C0 := fun W => pick_any kd 13 W (by decide) (by decide) d0 d1
  simp only [hp] at C0
  clear hp
  have hfb := Okk.fb h.out
  have HM := Lk.mk (Bx2.made (x := x) (kd := kd) (rk := rk) (ra := ra) (rn := rn) (ry := ry) (rb := rb) (at_ := at_) (ro := ro) (re := re) (wd := wd) w)
  have HX := Lk.mk HM.out.1
  have HI := Lk.mk (Okk.below h.out HM.out.2.1)
  have HB := Lk.mk HM.out.2.1
  have hsz := HM.out.2.2
  clear HM
  unfold pairV
  go_enter Try.func10, Try.ntmps10
  go_upto_region 1 with fail
  generalize (w.alloc _).alloc _ = W at *
  have HFg := Lk.mk (show ¬ F w.heap.size ∧ ¬ F (w.heap.size + 1) from ⟨fun hh => by have := hfb _ hh; omega, fun hh => by have := hfb _ hh; omega⟩)
  clear hfb hsz h
  have HFB := Lk.mk (Okk.fb HI.out)
  generalize hg : w.heap.size = g at *
  have o0 := HX.out.o.1
  go_upto_region 2 with (first
    | (go_at_call 13; refine (C0 _).mono ?_; rintro e w' ⟨rfl, rfl⟩))
  clear C0 o0
  obtain ⟨_, _, _, _, _, _, _, _, _, o9⟩ := HX.out.o
  have hw4 : (wd : Int).tmod 3 = 0 := by rw [Int.tmod_eq_emod_of_nonneg (by omega)]; omega
  have hw5 : (wd : Int) % 3 = 0 := by omega
  go_upto_region 21 with fail
  obtain ⟨_, y1, _, _⟩ := HX.out.p
  have CD := Lk.mk (fail_both F x cl inc m W HI)
  go_upto_region 22 with (first
    | (go_at_call 24; (with_reducible refine CD.out.mono ?_); rintro e w4 ⟨rfl, HO4, HZ4, HN4⟩))
  clear CD y1 o9
  have HX4 := Lk.mk (HX.out.on HO4.out HFg.out.1 HFg.out.2)
  obtain ⟨_, _, _, y3⟩ := HX4.out.p
  obtain ⟨z1, u, z2⟩ := HZ4.out
  go_upto_region 26 with fail
  clear z1 z2 y3 HX4 HZ4 HO4
  have HNc := Lk.mk (Nx.more HN4.out (show m ≤ m + 1 by omega))
  clear HN4
  generalize w4.setCell _ _ = wc at *
  have HXc := Lk.mk (HX.out.on (Nx.only HNc.out) HFg.out.1 HFg.out.2)
  have HNw := Lk.mk (show Nx F w x cl inc (m + 1) wc from Nx.ahead HNc.out (by rw [hg]; exact HB.out))
  obtain ⟨y0, y1, y2, y3⟩ := HXc.out.p
  have CS : Lk (Calls Try.prog 41 #[.agg #[.pointer (some ⟨x.bp, 0, none⟩), .pointer (some ⟨x.bn, 0, none⟩), .pointer (some ⟨x.rb, 0, none⟩), .pointer (some ⟨x.rn, 0, none⟩)]] wc fun e w' => e = .returned (.bool true) ∧ Lk (Below wc.heap.size wc w')) := by
    obtain ⟨F', HO', hF', hon'⟩ := HNc.out
    exact ⟨same_okk ⟨HO'⟩⟩
  clear HNc HXc HX HI HB HFg HFB
  go_wp2_with (first
    | (go_at_call 41; (with_reducible refine CS.out.mono ?_); rintro e w9 ⟨rfl, HB9⟩))
  go_ret
  exact ⟨rfl, ⟨Nx.below HNw.out HB9.out⟩⟩
theorem do_back (h : Lk (Okk F w x cl inc m)) (hm : m < 1000) (d0 : -9223372036854775808 ≤ kd) (d1 : kd ≤ 9223372036854775807) (hp : pk kd 13 = 12) : Calls Try.prog 10 #[pairV x, .agg #[.int .i64 kd, .int .i64 rk, .int .i64 ra, .int .i64 rn, .int .i64 ry, .int .i64 rb, .int .u64 (ro : Int), .int .u64 (re : Int), .int .i64 at_, .int .u64 (wd : Int)]] w fun e w' => e = .returned (.bool true) ∧ Lk (Nx F w x cl inc (m + 1) w') := by
  have C0 := fun W => pick_any kd 13 W (by decide) (by decide) d0 d1
  simp only [hp] at C0
  clear hp
  have hfb := Okk.fb h.out
  have HM := Lk.mk (Bx2.made (x := x) (kd := kd) (rk := rk) (ra := ra) (rn := rn) (ry := ry) (rb := rb) (at_ := at_) (ro := ro) (re := re) (wd := wd) w)
  have HX := Lk.mk HM.out.1
  have HI := Lk.mk (Okk.below h.out HM.out.2.1)
  have HB := Lk.mk HM.out.2.1
  have hsz := HM.out.2.2
  clear HM
  unfold pairV
  go_enter Try.func10, Try.ntmps10
  go_upto_region 1 with fail
  generalize (w.alloc _).alloc _ = W at *
  have HFg := Lk.mk (show ¬ F w.heap.size ∧ ¬ F (w.heap.size + 1) from ⟨fun hh => by have := hfb _ hh; omega, fun hh => by have := hfb _ hh; omega⟩)
  clear hfb hsz h
  have HFB := Lk.mk (Okk.fb HI.out)
  generalize hg : w.heap.size = g at *
  have o0 := HX.out.o.1
  go_upto_region 2 with (first
    | (go_at_call 13; refine (C0 _).mono ?_; rintro e w' ⟨rfl, rfl⟩))
  clear C0 o0
  go_upto_region 24 with fail
  have CP := Lk.mk (back_both F x cl inc m W.drew ⟨Okk.below HI.out (Below.refl _ W).drew⟩)
  go_cut [147] (fun s32 wx => s32 = .bool false ∧ Lk (Nx F W x cl inc (m + 1) wx))
  case first =>
    obtain ⟨_, y1, _, y3⟩ := HX.out.p
    go_region_with (first
      | (go_at_call 25; (with_reducible refine CP.out.mono ?_); rintro e w5 ⟨z, rfl, HO5, HR5⟩; have HX5 := Lk.mk ((HX.out.below (Below.refl _ W).drew).on HO5.out HFg.out.1 HFg.out.2); have p3 := HX5.out.p.2.2.2; have CR := Lk.mk (HR5.out w5 (Below.refl _ w5)))
      | (go_at_call 40; (with_reducible refine CR.out.mono ?_); rintro e w6 ⟨rfl, HN6⟩))
    all_goals go_wp2
    all_goals go_meet
    all_goals exact ⟨by simp, ⟨Nx.more (Nx.ahead HN6.out (Below.refl _ W).drew) (by omega)⟩⟩
  case rest =>
    obtain ⟨rfl, HNc⟩ := hcut
    clear CP
    have HXc := Lk.mk (HX.out.on (Nx.only HNc.out) HFg.out.1 HFg.out.2)
    have HNw := Lk.mk (show Nx F w x cl inc (m + 1) wc from Nx.ahead HNc.out (by rw [hg]; exact HB.out))
    obtain ⟨y0, y1, y2, y3⟩ := HXc.out.p
    have CS : Lk (Calls Try.prog 41 #[.agg #[.pointer (some ⟨x.bp, 0, none⟩), .pointer (some ⟨x.bn, 0, none⟩), .pointer (some ⟨x.rb, 0, none⟩), .pointer (some ⟨x.rn, 0, none⟩)]] wc fun e w' => e = .returned (.bool true) ∧ Lk (Below wc.heap.size wc w')) := by
      obtain ⟨F', HO', hF', hon'⟩ := HNc.out
      exact ⟨same_okk ⟨HO'⟩⟩
    clear HNc HXc HX HI HB HFg HFB
    go_wp2_with (first
      | (go_at_call 41; (with_reducible refine CS.out.mono ?_); rintro e w9 ⟨rfl, HB9⟩))
    go_ret
    exact ⟨rfl, ⟨Nx.below HNw.out HB9.out⟩⟩
theorem do_skip9 (h : Lk (Okk F w x cl inc m)) (hm : m < 1000) (d0 : -9223372036854775808 ≤ kd) (d1 : kd ≤ 9223372036854775807) (hp : pk kd 13 = 9) (hw : wd % 4 ≠ 0) : Calls Try.prog 10 #[pairV x, .agg #[.int .i64 kd, .int .i64 rk, .int .i64 ra, .int .i64 rn, .int .i64 ry, .int .i64 rb, .int .u64 (ro : Int), .int .u64 (re : Int), .int .i64 at_, .int .u64 (wd : Int)]] w fun e w' => e = .returned (.bool true) ∧ Lk (Nx F w x cl inc (m + 1) w') := by
  have C0 := fun W => pick_any kd 13 W (by decide) (by decide) d0 d1
  simp only [hp] at C0
  clear hp
  have hfb := Okk.fb h.out
  have HM := Lk.mk (Bx2.made (x := x) (kd := kd) (rk := rk) (ra := ra) (rn := rn) (ry := ry) (rb := rb) (at_ := at_) (ro := ro) (re := re) (wd := wd) w)
  have HX := Lk.mk HM.out.1
  have HI := Lk.mk (Okk.below h.out HM.out.2.1)
  have HB := Lk.mk HM.out.2.1
  have hsz := HM.out.2.2
  clear HM
  unfold pairV
  go_enter Try.func10, Try.ntmps10
  go_upto_region 1 with fail
  generalize (w.alloc _).alloc _ = W at *
  have HFg := Lk.mk (show ¬ F w.heap.size ∧ ¬ F (w.heap.size + 1) from ⟨fun hh => by have := hfb _ hh; omega, fun hh => by have := hfb _ hh; omega⟩)
  clear hfb hsz h
  have HFB := Lk.mk (Okk.fb HI.out)
  generalize hg : w.heap.size = g at *
  have o0 := HX.out.o.1
  go_upto_region 2 with (first
    | (go_at_call 13; refine (C0 _).mono ?_; rintro e w' ⟨rfl, rfl⟩))
  clear C0 o0
  obtain ⟨_, _, _, _, _, _, _, _, _, o9⟩ := HX.out.o
  have hw4 : ¬ (wd : Int).tmod 4 = 0 := by rw [Int.tmod_eq_emod_of_nonneg (by omega)]; omega
  have hw5 : ¬ (wd : Int) % 4 = 0 := by omega
  go_upto_region 26 with fail
  clear o9
  have HNc := Lk.mk (Nx.more (Okk.nx HI.out (Below.refl _ W)) (show m ≤ m + 1 by omega))
  generalize W = wc at HX HI HB HFB HNc ⊢
  have HXc := Lk.mk (HX.out.on (Nx.only HNc.out) HFg.out.1 HFg.out.2)
  have HNw := Lk.mk (show Nx F w x cl inc (m + 1) wc from Nx.ahead HNc.out (by rw [hg]; exact HB.out))
  obtain ⟨y0, y1, y2, y3⟩ := HXc.out.p
  have CS : Lk (Calls Try.prog 41 #[.agg #[.pointer (some ⟨x.bp, 0, none⟩), .pointer (some ⟨x.bn, 0, none⟩), .pointer (some ⟨x.rb, 0, none⟩), .pointer (some ⟨x.rn, 0, none⟩)]] wc fun e w' => e = .returned (.bool true) ∧ Lk (Below wc.heap.size wc w')) := by
    obtain ⟨F', HO', hF', hon'⟩ := HNc.out
    exact ⟨same_okk ⟨HO'⟩⟩
  clear HNc HXc HX HI HB HFg HFB
  go_wp2_with (first
    | (go_at_call 41; (with_reducible refine CS.out.mono ?_); rintro e w9 ⟨rfl, HB9⟩))
  go_ret
  exact ⟨rfl, ⟨Nx.below HNw.out HB9.out⟩⟩
theorem do_skip11 (h : Lk (Okk F w x cl inc m)) (hm : m < 1000) (d0 : -9223372036854775808 ≤ kd) (d1 : kd ≤ 9223372036854775807) (hp : pk kd 13 = 11) (hw : wd % 3 ≠ 0) : Calls Try.prog 10 #[pairV x, .agg #[.int .i64 kd, .int .i64 rk, .int .i64 ra, .int .i64 rn, .int .i64 ry, .int .i64 rb, .int .u64 (ro : Int), .int .u64 (re : Int), .int .i64 at_, .int .u64 (wd : Int)]] w fun e w' => e = .returned (.bool true) ∧ Lk (Nx F w x cl inc (m + 1) w') := by
  have C0 := fun W => pick_any kd 13 W (by decide) (by decide) d0 d1
  simp only [hp] at C0
  clear hp
  have hfb := Okk.fb h.out
  have HM := Lk.mk (Bx2.made (x := x) (kd := kd) (rk := rk) (ra := ra) (rn := rn) (ry := ry) (rb := rb) (at_ := at_) (ro := ro) (re := re) (wd := wd) w)
  have HX := Lk.mk HM.out.1
  have HI := Lk.mk (Okk.below h.out HM.out.2.1)
  have HB := Lk.mk HM.out.2.1
  have hsz := HM.out.2.2
  clear HM
  unfold pairV
  go_enter Try.func10, Try.ntmps10
  go_upto_region 1 with fail
  generalize (w.alloc _).alloc _ = W at *
  have HFg := Lk.mk (show ¬ F w.heap.size ∧ ¬ F (w.heap.size + 1) from ⟨fun hh => by have := hfb _ hh; omega, fun hh => by have := hfb _ hh; omega⟩)
  clear hfb hsz h
  have HFB := Lk.mk (Okk.fb HI.out)
  generalize hg : w.heap.size = g at *
  have o0 := HX.out.o.1
  go_upto_region 2 with (first
    | (go_at_call 13; refine (C0 _).mono ?_; rintro e w' ⟨rfl, rfl⟩))
  clear C0 o0
  obtain ⟨_, _, _, _, _, _, _, _, _, o9⟩ := HX.out.o
  have hw4 : ¬ (wd : Int).tmod 3 = 0 := by rw [Int.tmod_eq_emod_of_nonneg (by omega)]; omega
  have hw5 : ¬ (wd : Int) % 3 = 0 := by omega
  go_upto_region 26 with fail
  clear o9
  have HNc := Lk.mk (Nx.more (Okk.nx HI.out (Below.refl _ W)) (show m ≤ m + 1 by omega))
  generalize W = wc at HX HI HB HFB HNc ⊢
  have HXc := Lk.mk (HX.out.on (Nx.only HNc.out) HFg.out.1 HFg.out.2)
  have HNw := Lk.mk (show Nx F w x cl inc (m + 1) wc from Nx.ahead HNc.out (by rw [hg]; exact HB.out))
  obtain ⟨y0, y1, y2, y3⟩ := HXc.out.p
  have CS : Lk (Calls Try.prog 41 #[.agg #[.pointer (some ⟨x.bp, 0, none⟩), .pointer (some ⟨x.bn, 0, none⟩), .pointer (some ⟨x.rb, 0, none⟩), .pointer (some ⟨x.rn, 0, none⟩)]] wc fun e w' => e = .returned (.bool true) ∧ Lk (Below wc.heap.size wc w')) := by
    obtain ⟨F', HO', hF', hon'⟩ := HNc.out
    exact ⟨same_okk ⟨HO'⟩⟩
  clear HNc HXc HX HI HB HFg HFB
  go_wp2_with (first
    | (go_at_call 41; (with_reducible refine CS.out.mono ?_); rintro e w9 ⟨rfl, HB9⟩))
  go_ret
  exact ⟨rfl, ⟨Nx.below HNw.out HB9.out⟩⟩
end
end Go.Proofs.Ytacfmkmiikkppaa.De

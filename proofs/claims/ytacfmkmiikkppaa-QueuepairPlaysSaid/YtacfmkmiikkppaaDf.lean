/-
  do: a word of the node that is up.
-/
import Derived.Test.YtacfmkmiikkppaaDd
namespace Go.Proofs.Ytacfmkmiikkppaa.Df
open Go.ChangeShapes Go.WideShapes Go.ChangeAt Go.RowKit Ga Gb Na Nb Nc Nd_ Nf Va Vb Vd Ve Vf Vg Qa Qb Qc Qd Qe Qf Qg Qh Qj Qk Ta Tb Tc Td Te Tf Tg Th Ti Tk To Tp Tq Tt Tu Tv Tw Tx Da Dd
set_option linter.unusedVariables false
set_option linter.unusedSimpArgs false
set_option maxHeartbeats 8000000
set_option maxRecDepth 100000
theorem ix4 (z : Int) (w : World) : (Instr.index 86 (.agg #[.int .i64 0, .int .i64 1, .int .i64 z, .int .i64 100]) (.int .i64 0)).run Try.prog w = .ok (.int .i64 0) w ∧ (Instr.index 86 (.agg #[.int .i64 0, .int .i64 1, .int .i64 z, .int .i64 100]) (.int .i64 1)).run Try.prog w = .ok (.int .i64 1) w ∧ (Instr.index 86 (.agg #[.int .i64 0, .int .i64 1, .int .i64 z, .int .i64 100]) (.int .i64 2)).run Try.prog w = .ok (.int .i64 z) w ∧ (Instr.index 86 (.agg #[.int .i64 0, .int .i64 1, .int .i64 z, .int .i64 100]) (.int .i64 3)).run Try.prog w = .ok (.int .i64 100) w := ⟨by kernel_rfl, by kernel_rfl, by kernel_rfl, by kernel_rfl⟩
section
variable (F : Nat → Prop) (x : Plc) (cl inc m : Nat) (kd rk ra rn ry rb at_ : Int) (ro re wd : Nat) (w : World)
theorem do_word_true (V : Value) (q : List Pq) (ex : Nat) (B : Option Addr) (cb : Nat) (r : List Nat) (Q : Value) (qe : List Pe) (ws : List Nat) (hI : Lk (Iv F w x cl inc V q ex B cb r Q qe ws true)) (hq : q.length ≤ m) (hm : m < 1000) (d0 : -9223372036854775808 ≤ kd) (d1 : kd ≤ 9223372036854775807) (hp : pk kd 13 = 10) (a0 : -9223372036854775808 ≤ at_) (a1 : at_ ≤ 9223372036854775807) : Calls Try.prog 10 #[pairV x, .agg #[.int .i64 kd, .int .i64 rk, .int .i64 ra, .int .i64 rn, .int .i64 ry, .int .i64 rb, .int .u64 (ro : Int), .int .u64 (re : Int), .int .i64 at_, .int .u64 (wd : Int)]] w fun e w' => e = .returned (.bool true) ∧ Lk (Nx F w x cl inc (m + 1) w') := by
  have h : Lk (Okk F w x cl inc m) := ⟨Iv.nx hI.out hq⟩
  have C0 := fun W => pick_any kd 13 W (by decide) (by decide) d0 d1
  simp only [hp] at C0
  clear hp
  have CA := fun W => pick_any at_ 4 W (by decide) (by decide) a0 a1
  have hj := pk_lt at_ 4 (by decide)
  generalize pk at_ 4 = j at *
  clear a0 a1
  have hfb := Okk.fb h.out
  have HM := Lk.mk (Bx2.made (x := x) (kd := kd) (rk := rk) (ra := ra) (rn := rn) (ry := ry) (rb := rb) (at_ := at_) (ro := ro) (re := re) (wd := wd) w)
  have HX := Lk.mk HM.out.1
  have HI := Lk.mk (Okk.below h.out HM.out.2.1)
  have HB := Lk.mk HM.out.2.1
  have hsz := HM.out.2.2
  have HIv := Lk.mk (hI.out.below HM.out.2.1)
  clear hI
  clear HM
  unfold pairV
  go_enter Try.func10, Try.ntmps10
  go_upto_region 1 with fail
  generalize (w.alloc _).alloc _ = W at *
  have HFg := Lk.mk (show ¬ F w.heap.size ∧ ¬ F (w.heap.size + 1) from ⟨fun hh => by have := hfb _ hh; omega, fun hh => by have := hfb _ hh; omega⟩)
  clear hfb hsz h
  have HFB := Lk.mk (Okk.fb HI.out)
  generalize hg : w.heap.size = g at *
  have o0 := HX.out.o.1
  go_upto_region 2 with (first
    | (go_at_call 13; refine (C0 _).mono ?_; rintro e w' ⟨rfl, rfl⟩))
  clear C0 o0
  obtain ⟨_, _, _, _, _, _, _, _, o8, o9⟩ := HX.out.o
  go_upto_region 15 with fail
  have hIv := HIv.out
  have hcl := hIv.cl.1
  have q0 := hIv.st.rp.c0
  clear hIv
  have CD := fun W => door_any cl W (by omega)
  obtain ⟨y, hy⟩ : ∃ y : Nat, wd % 5 = y := ⟨_, rfl⟩
  have hw5 : (wd : Int).tmod 5 = (y : Int) := by rw [Int.tmod_eq_emod_of_nonneg (by omega)]; omega
  have hw6 : (wd : Int) % 5 = (y : Int) := by omega
  have hy5 : y < 18446744073709551616 := by omega
  clear hy
  go_cut [13, 14] (fun s13 s14 wx => ∃ jj : Nat, jj < 320 ∧ s13 = .int .i64 jj ∧ s14 = .int .u64 (y : Int) ∧ Lk (Below W.heap.size W wx))
  case first =>
    obtain ⟨_, _, y2, _⟩ := HX.out.p
    obtain ⟨z, hz⟩ : ∃ z : Nat, 24 + cl = z := ⟨_, rfl⟩
    simp only [hz] at CD
    have hz30 : z < 320 := by omega
    clear hz hcl HIv HI HFB HFg hq
    have hj4 : j = 0 ∨ j = 1 ∨ j = 2 ∨ j = 3 := by omega
    rcases hj4 with rfl | rfl | rfl | rfl
    · have hi := fun w => (ix4 (z : Int) w).1
      go_quiet (first
        | (go_at_call 39; exact Calls.quiet_of_same ((CD _).mono fun e w1 h => ⟨h.1, h.2.symm⟩))
        | (go_at_call 13; exact Calls.quiet_of_same ((CA _).mono fun e w1 h => ⟨h.1, h.2.symm⟩)))
      go_wp2
      go_meet
      exact ⟨0, by omega, rfl, rfl, ⟨below_drewN (Below.refl _ W) nq⟩⟩
    · have hi := fun w => (ix4 (z : Int) w).2.1
      go_quiet (first
        | (go_at_call 39; exact Calls.quiet_of_same ((CD _).mono fun e w1 h => ⟨h.1, h.2.symm⟩))
        | (go_at_call 13; exact Calls.quiet_of_same ((CA _).mono fun e w1 h => ⟨h.1, h.2.symm⟩)))
      go_wp2
      go_meet
      exact ⟨1, by omega, rfl, rfl, ⟨below_drewN (Below.refl _ W) nq⟩⟩
    · have hi := fun w => (ix4 (z : Int) w).2.2.1
      go_quiet (first
        | (go_at_call 39; exact Calls.quiet_of_same ((CD _).mono fun e w1 h => ⟨h.1, h.2.symm⟩))
        | (go_at_call 13; exact Calls.quiet_of_same ((CA _).mono fun e w1 h => ⟨h.1, h.2.symm⟩)))
      go_wp2
      go_meet
      exact ⟨z, hz30, rfl, rfl, ⟨below_drewN (Below.refl _ W) nq⟩⟩
    · have hi := fun w => (ix4 (z : Int) w).2.2.2
      go_quiet (first
        | (go_at_call 39; exact Calls.quiet_of_same ((CD _).mono fun e w1 h => ⟨h.1, h.2.symm⟩))
        | (go_at_call 13; exact Calls.quiet_of_same ((CA _).mono fun e w1 h => ⟨h.1, h.2.symm⟩)))
      go_wp2
      go_meet
      exact ⟨100, by omega, rfl, rfl, ⟨below_drewN (Below.refl _ W) nq⟩⟩
  case rest =>
    obtain ⟨jj, hjj, rfl, rfl, HBc⟩ := hcut
    have HIc := Lk.mk (HIv.out.below HBc.out)
    have HXc := Lk.mk (HX.out.below HBc.out)
    clear CA CD hw5 hw6 q0 o8 o9 HI HIv hcl hj
    have hjl : (jj : Int) < 320 := by omega
    obtain ⟨_, y1, _, y3⟩ := HXc.out.p
    have n0 := HIc.out.st.rn.c0
    have n1 := HIc.out.st.rn.c1
    have s0 := HIc.out.st.rn.row.cell (j := jj) (by omega)
    have f0 := HIc.out.st.rn.row.free jj
    go_upto_region 18 with fail
    clear s0 f0 y1 y3 n0 n1
    obtain ⟨W5, hW5⟩ : ∃ W5, wc.setCell ⟨x.rg, jj, none⟩ (.int .u64 (y : Int)) = W5 := ⟨_, rfl⟩
    have hOs : Only (fun k => k = x.rg) wc W5 := by rw [← hW5]; exact (Only.refl (fun k => k = x.rg) wc).setCell (p := ⟨x.rg, jj, none⟩) (.inl rfl) _
    have hap := St.ap HIc.out.st
    have hR5 : RN W5 x.rn x.rg 320 x.cr (ws.set jj y) true := by rw [← hW5]; exact HIc.out.st.rn.set jj y hy5
    have hX5 := HXc.out.on hOs (fun e => HFg.out.1 (by rw [e]; exact hap.f.2.2.2.2.2)) (fun e => HFg.out.2 (by rw [e]; exact hap.f.2.2.2.2.2))
    have hBa : Below W5.heap.size W5 (W5.alloc (.cells #[.int .u64 (y : Int)] 33)) := (Below.refl _ W5).alloc (Nat.le_refl _) _
    have hBb := hBa.drew
    have hXa := hX5.below hBa
    have hRa := Nd.below hR5 hBa
    have hsz5 : wc.heap.size = W5.heap.size := by rw [← hW5]; simp
    have CW := Lk.mk (word_up F x cl inc m wc HIc hq jj y hjj hy5 (W5.alloc (.cells #[.int .u64 (y : Int)] 33)).drew ⟨by rw [hW5, hsz5]; exact hBb⟩ W5.heap.size ⟨(cell_of_row _ W5.heap.size 0 _ _ _ (heap_alloc_new W5 (.cells #[.int .u64 (y : Int)] 33))).trans rfl⟩)
    have HXc' := Lk.mk (fun w2 (h : Only F wc w2) => HXc.out.on h HFg.out.1 HFg.out.2)
    rw [hW5]
    clear hOs hap hBa hBb hsz5 hW5
    obtain ⟨_, y1, _, y3⟩ := hX5.p
    obtain ⟨_, z1, _, z3⟩ := hXa.p
    have n1 := hR5.c1
    have m1 := hRa.c1
    clear hX5 hXa hR5 hRa
    go_cut [121] (fun s32 wx => s32 = .bool false ∧ Lk (Nx F W x cl inc (m + 1) wx))
    case first =>
      have HNf := Lk.mk (fun (w6 : World) (h : Nx F wc x cl inc m w6) => show Lk (Nx F W x cl inc (m + 1) w6) from ⟨Nx.more (Nx.ahead h HBc.out) (by omega)⟩)
      clear HX HB HFB HFg hm d0 d1 hg HIc HXc HBc hq hy5 hjj
      go_region_with (first
        | (go_at_call 33; refine CW.out.mono ?_; rintro e w6 ⟨rfl, HN6, HU6⟩; have p3 := (HXc'.out w6 (Nx.only HN6.out)).p.2.2.2; have u1 := HU6.out))
      all_goals go_wp2
      all_goals go_meet
      all_goals exact ⟨by simp, HNf.out _ HN6.out⟩
    case rest =>
      obtain ⟨rfl, HNc⟩ := hcut
      clear CW HXc' HXc y1 y3 z1 z3 n1 m1 HIc
      have HXc := Lk.mk (HX.out.on (Nx.only HNc.out) HFg.out.1 HFg.out.2)
      have HNw := Lk.mk (show Nx F w x cl inc (m + 1) wc from Nx.ahead HNc.out (by rw [hg]; exact HB.out))
      obtain ⟨y0, y1, y2, y3⟩ := HXc.out.p
      have CS : Lk (Calls Try.prog 41 #[.agg #[.pointer (some ⟨x.bp, 0, none⟩), .pointer (some ⟨x.bn, 0, none⟩), .pointer (some ⟨x.rb, 0, none⟩), .pointer (some ⟨x.rn, 0, none⟩)]] wc fun e w' => e = .returned (.bool true) ∧ Lk (Below wc.heap.size wc w')) := by
        obtain ⟨F', HO', hF', hon'⟩ := HNc.out
        exact ⟨same_okk ⟨HO'⟩⟩
      clear HNc HXc HX HB HFg HFB
      go_wp2_with (first
        | (go_at_call 41; (with_reducible refine CS.out.mono ?_); rintro e w9 ⟨rfl, HB9⟩))
      go_ret
      exact ⟨rfl, ⟨Nx.below HNw.out HB9.out⟩⟩
end
end Go.Proofs.Ytacfmkmiikkppaa.Df

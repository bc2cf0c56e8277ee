/-
  do: Step on both.
-/
import Derived.Test.YtacfmkmiikkppaaDa
namespace Go.Proofs.Ytacfmkmiikkppaa.Dc
open Go.ChangeShapes Go.WideShapes Go.ChangeAt Go.RowKit Ga Gb Na Nb Nc Nd_ Nf Va Vb Vd Ve Vf Vg Qa Qb Qc Qd Qe Qf Qg Qh Qj Qk Ta Tb Tc Td Te Tf Tg Th Ti Tk To Tp Tq Tt Tu Tv Tw Tx Da
set_option linter.unusedVariables false
set_option linter.unusedSimpArgs false
set_option maxHeartbeats 1000000
set_option maxRecDepth 100000
section
variable (F : Nat → Prop) (x : Plc) (cl inc m : Nat) (kd rk ra rn ry rb at_ : Int) (ro re wd : Nat) (w : World)
theorem do_step (h : Lk (Okk F w x cl inc m)) (hm : m < 1000) (d0 : -9223372036854775808 ≤ kd) (d1 : kd ≤ 9223372036854775807) (hp : 4 ≤ pk kd 13 ∧ pk kd 13 < 9) : Calls Try.prog 10 #[pairV x, .agg #[.int .i64 kd, .int .i64 rk, .int .i64 ra, .int .i64 rn, .int .i64 ry, .int .i64 rb, .int .u64 (ro : Int), .int .u64 (re : Int), .int .i64 at_, .int .u64 (wd : Int)]] w fun e w' => e = .returned (.bool true) ∧ Lk (Nx F w x cl inc (m + 1) w') := by
  have C0 := fun W => pick_any kd 13 W (by decide) (by decide) d0 d1
  have hpi : ¬ ((pk kd 13 : Nat) : Int) < 4 := by omega
  have hpj : ((pk kd 13 : Nat) : Int) < 9 := by omega
  generalize pk kd 13 = p at *
  clear hp
  have hfb := Okk.fb h.out
  have HM := Lk.mk (Bx2.made (x := x) (kd := kd) (rk := rk) (ra := ra) (rn := rn) (ry := ry) (rb := rb) (at_ := at_) (ro := ro) (re := re) (wd := wd) w)
  have HX := Lk.mk HM.out.1
  have HI := Lk.mk (Okk.below h.out HM.out.2.1)
  have HB := Lk.mk HM.out.2.1
  have hsz := HM.out.2.2
  clear HM
  unfold pairV
  go_enter Try.func10, Try.ntmps10
  go_upto_region 1 with fail
  generalize (w.alloc _).alloc _ = W at *
  have HFg := Lk.mk (show ¬ F w.heap.size ∧ ¬ F (w.heap.size + 1) from ⟨fun hh => by have := hfb _ hh; omega, fun hh => by have := hfb _ hh; omega⟩)
  clear hfb hsz h
  have HFB := Lk.mk (Okk.fb HI.out)
  generalize hg : w.heap.size = g at *
  have o0 := HX.out.o.1
  go_upto_region 2 with (first
    | (go_at_call 13; refine (C0 _).mono ?_; rintro e w' ⟨rfl, rfl⟩))
  clear C0 o0
  have hd : decide ((p : Int) < 4) = false := decide_eq_false (by omega)
  have hd9 : decide ((p : Int) < 9) = true := decide_eq_true (by omega)
  go_upto_region 7 with fail
  obtain ⟨V, q, ex, B, cb, r, Q, qe, ws, up, hIv, hq⟩ := HI.out
  have CP := Lk.mk (step_both F x cl inc m V q ex B cb r Q qe ws up W ⟨hIv⟩ hq (by omega))
  have hFr : x.rb < W.heap.size ∧ x.rg < W.heap.size := ⟨hIv.st.rp.lt, hIv.st.rn.row.size⟩
  have hFf : F x.rb ∧ F x.rg := ⟨hIv.st.rp.f, hIv.st.ff.2.2⟩
  clear hIv hq
  obtain ⟨y0, y1, _, _⟩ := HX.out.p
  go_upto_region 8 with (first
    | (go_at_call 20; (with_reducible refine CP.out.mono ?_); rintro e w4 ⟨k, A4, c4, out, dn, rfl, hol, HO4, HL4, HR4⟩))
  have hB5 := (Below.refl _ w4).alloc (Nat.le_refl _) (.cells #[.int .i64 k, .slice A4 out.length c4] 54)
  have HD5 := Lk.mk (heap_alloc_new w4 (.cells #[.int .i64 k, .slice A4 out.length c4] 54))
  have HX5 := Lk.mk ((HX.out.on HO4.out HFg.out.1 HFg.out.2).below hB5)
  have CR := Lk.mk (HR4.out _ hB5)
  have hs4 : W.heap.size ≤ w4.heap.size := HO4.out.size
  clear hB5 HR4 HL4 HO4 CP y0 y1
  generalize w4.alloc _ = W5 at *
  generalize w4.heap.size = bd at *
  obtain ⟨_, _, y2, y3⟩ := HX5.out.p
  go_upto_region 9 with (first
    | (go_at_call 36; (with_reducible refine CR.out.mono ?_); rintro e w6 ⟨A6, c6, sl, i4, rfl, HLa, HLb, HN6, HO6⟩))
  have hB7 := (Below.refl _ w6).alloc (Nat.le_refl _) (.cells #[.int .i64 k, .slice A6 out.length c6] 54)
  have HD7 := Lk.mk ((hB7.block bd (Nat.lt_of_lt_of_le (Array.getElem?_eq_some_iff.1 HD5.out).1 HO6.out.size)).trans ((HO6.out.block bd (Array.getElem?_eq_some_iff.1 HD5.out).1 (fun hh => hh.elim (fun e => by omega) (fun e => by omega))).trans HD5.out))
  have HE7 := Lk.mk (heap_alloc_new w6 (.cells #[.int .i64 k, .slice A6 out.length c6] 54))
  have HL7 := Lk.mk (HLa.out.on_ hB7)
  have HM7 := Lk.mk (HLb.out.on_ hB7)
  have HNc := Lk.mk (Nx.more (Nx.below HN6.out hB7) (show m ≤ m + 1 by omega))
  clear hB7 HLa HLb HN6 HO6 CR y2 y3 HX5 HD5
  generalize w6.alloc _ = wc at *
  generalize w6.heap.size = be at *
  have CD := Lk.mk (sameDone_any k A4 out.length c4 out k A6 out.length c6 out wc rfl rfl HL7 HM7 hol.out hol.out)
  have z0 := (cell_of_row wc bd 0 _ _ _ HD7.out).trans rfl
  have z1 := (cell_of_row wc bd 1 _ _ _ HD7.out).trans rfl
  have e0 := (cell_of_row wc be 0 _ _ _ HE7.out).trans rfl
  have e1 := (cell_of_row wc be 1 _ _ _ HE7.out).trans rfl
  have hdn : (dn != dn) = false := by cases dn <;> rfl
  rw [decide_eq_true (show k = k ∧ out = out from ⟨rfl, rfl⟩)] at CD
  go_upto_region 26 with (first
    | (go_at_call 37; (with_reducible refine CD.out.mono ?_); rintro e w8 ⟨rfl, HB8⟩))
  have HNc := Lk.mk (Nx.below HNc.out HB8.out)
  clear CD z0 z1 e0 e1 HL7 HM7 HD7 HE7 HB8
  generalize w8 = wc at *
  have HXc := Lk.mk (HX.out.on (Nx.only HNc.out) HFg.out.1 HFg.out.2)
  have HNw := Lk.mk (show Nx F w x cl inc (m + 1) wc from Nx.ahead HNc.out (by rw [hg]; exact HB.out))
  obtain ⟨y0, y1, y2, y3⟩ := HXc.out.p
  have CS : Lk (Calls Try.prog 41 #[.agg #[.pointer (some ⟨x.bp, 0, none⟩), .pointer (some ⟨x.bn, 0, none⟩), .pointer (some ⟨x.rb, 0, none⟩), .pointer (some ⟨x.rn, 0, none⟩)]] wc fun e w' => e = .returned (.bool true) ∧ Lk (Below wc.heap.size wc w')) := by
    obtain ⟨F', HO', hF', hon'⟩ := HNc.out
    exact ⟨same_okk ⟨HO'⟩⟩
  clear HNc HXc HX HI HB HFg HFB
  go_wp2_with (first
    | (go_at_call 41; (with_reducible refine CS.out.mono ?_); rintro e w9 ⟨rfl, HB9⟩))
  go_ret
  exact ⟨rfl, ⟨Nx.below HNw.out HB9.out⟩⟩
end
end Go.Proofs.Ytacfmkmiikkppaa.Dc

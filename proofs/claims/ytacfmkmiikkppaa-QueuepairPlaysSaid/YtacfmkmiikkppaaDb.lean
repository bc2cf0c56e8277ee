/-
  do: Post on both.
-/
import Derived.Test.YtacfmkmiikkppaaDa
namespace Go.Proofs.Ytacfmkmiikkppaa.Db
open Go.ChangeShapes Go.WideShapes Go.ChangeAt Go.RowKit Ga Gb Na Nb Nc Nd_ Nf Va Vb Vd Ve Vf Vg Qa Qb Qc Qd Qe Qf Qg Qh Qj Qk Ta Tb Tc Td Te Tf Tg Th Ti Tk To Tp Tq Tt Tu Tv Tw Tx Da
set_option linter.unusedVariables false
set_option linter.unusedSimpArgs false
set_option maxHeartbeats 8000000
set_option maxRecDepth 100000
section
variable (F : Nat → Prop) (x : Plc) (cl inc m : Nat) (kd rk ra rn ry rb at_ : Int) (ro re wd : Nat) (w : World)
theorem do_post (h : Lk (Okk F w x cl inc m)) (hm : m < 1000) (d0 : -9223372036854775808 ≤ kd) (d1 : kd ≤ 9223372036854775807) (hp : pk kd 13 < 4) (ra0 : -9223372036854775808 ≤ rk ∧ rk ≤ 9223372036854775807) (ra1 : -9223372036854775808 ≤ ra ∧ ra ≤ 9223372036854775807) (ra2 : -9223372036854775808 ≤ rn ∧ rn ≤ 9223372036854775807) (ra3 : -9223372036854775808 ≤ ry ∧ ry ≤ 9223372036854775807) (ra4 : -9223372036854775808 ≤ rb ∧ rb ≤ 9223372036854775807) (hro : ro < 18446744073709551616) (hre : re < 18446744073709551616) : Calls Try.prog 10 #[pairV x, .agg #[.int .i64 kd, .int .i64 rk, .int .i64 ra, .int .i64 rn, .int .i64 ry, .int .i64 rb, .int .u64 (ro : Int), .int .u64 (re : Int), .int .i64 at_, .int .u64 (wd : Int)]] w fun e w' => e = .returned (.bool true) ∧ Lk (Nx F w x cl inc (m + 1) w') := by
  have C0 := fun W => pick_any kd 13 W (by decide) (by decide) d0 d1
  have hpi : ((pk kd 13 : Nat) : Int) < 4 := by omega
  generalize pk kd 13 = p at *
  clear hp
  have CO := fun W => of5_any rk ra rn ry rb ro re W ra0.1 ra0.2 ra1.1 ra1.2 ra2.1 ra2.2 ra3.1 ra3.2 ra4.1 ra4.2 hro hre
  have hvN : rawN rn ≤ 9223372036854775807 := by
    unfold rawN
    have h1 := pk_lt (rn.tdiv 7) 2100 (by decide)
    have h2 := pk_lt rn 40 (by decide)
    split <;> omega
  have hvb : ((pk rb 3 : Nat) : Int) ≤ 9223372036854775807 := by
    have := pk_lt rb 3 (by decide)
    omega
  obtain ⟨s, hs⟩ : ∃ s, rawW re (pk rn 23) = s := ⟨_, rfl⟩
  have hsl : s.length = pk rn 23 := by rw [← hs]; exact rawW_len _ _
  have hsw : wide s := ⟨by have := pk_lt rn 23 (by decide); omega, by rw [← hs]; exact rawW_lt _ _⟩
  simp only [hs] at CO
  simp only [← hsl] at CO
  clear hs hsl ra0 ra1 ra2 ra3 ra4
  generalize ((pk rk 6 : Nat) : Int) = vk at CO
  generalize ndOf ry = vn at CO
  generalize ((pk ra 900 : Nat) : Int) - 8 = va at CO
  generalize rawN rn = vN at *
  generalize ((pk ry 4 : Nat) : Int) = vy at CO
  generalize ((pk rb 3 : Nat) : Int) = vb at *
  have HSW := Lk.mk hsw
  clear hsw
  have hfb := Okk.fb h.out
  have HM := Lk.mk (Bx2.made (x := x) (kd := kd) (rk := rk) (ra := ra) (rn := rn) (ry := ry) (rb := rb) (at_ := at_) (ro := ro) (re := re) (wd := wd) w)
  have HX := Lk.mk HM.out.1
  have HI := Lk.mk (Okk.below h.out HM.out.2.1)
  have HB := Lk.mk HM.out.2.1
  have hsz := HM.out.2.2
  clear HM
  unfold pairV
  go_enter Try.func10, Try.ntmps10
  go_upto_region 1 with fail
  generalize (w.alloc _).alloc _ = W at *
  have HFg := Lk.mk (show ¬ F w.heap.size ∧ ¬ F (w.heap.size + 1) from ⟨fun hh => by have := hfb _ hh; omega, fun hh => by have := hfb _ hh; omega⟩)
  clear hfb hsz h
  have HFB := Lk.mk (Okk.fb HI.out)
  generalize hg : w.heap.size = g at *
  have o0 := HX.out.o.1
  go_upto_region 2 with (first
    | (go_at_call 13; refine (C0 _).mono ?_; rintro e w' ⟨rfl, rfl⟩))
  clear C0 o0
  have hd : decide ((p : Int) < 4) = true := decide_eq_true (by omega)
  go_upto_region 3 with fail
  obtain ⟨_, o1, o2, o3, o4, o5, o6, o7, _, _⟩ := HX.out.o
  go_upto_region 4 with (first
    | (go_at_call 34; refine (CO _).mono ?_; rintro e w3 ⟨A, cap, rfl, hcap, HL3, HB3, HA3⟩))
  clear CO o1 o2 o3 o4 o5 o6 o7 hcap
  have hBv := (Below.refl _ w3).alloc (Nat.le_refl _) (.cells #[Value.int IntKind.i64 vk, Value.int IntKind.i64 vn, Value.int IntKind.i64 va, Value.int IntKind.i64 vN, Value.int IntKind.u64 ((ro : Int)), Value.int IntKind.u64 ((re : Int)), Value.slice A s.length cap, Value.int IntKind.u64 vy, Value.int IntKind.i64 vb] 52)
  have HV4 := Lk.mk (heap_alloc_new w3 (.cells #[Value.int IntKind.i64 vk, Value.int IntKind.i64 vn, Value.int IntKind.i64 va, Value.int IntKind.i64 vN, Value.int IntKind.u64 ((ro : Int)), Value.int IntKind.u64 ((re : Int)), Value.slice A s.length cap, Value.int IntKind.u64 vy, Value.int IntKind.i64 vb] 52))
  have HB4 := Lk.mk (HB3.out.trans (hBv.mono HB3.out.size))
  have HL4 := Lk.mk (HL3.out.on_ hBv)
  have hvl : W.heap.size ≤ w3.heap.size := HB3.out.size
  clear hBv HL3 HB3
  generalize w3.alloc _ = W4 at *
  generalize w3.heap.size = bv at *
  have HX4 := Lk.mk (HX.out.below HB4.out)
  have hFv : ¬ F bv := fun hh => by have := HFB.out _ hh; omega
  have HA4 := Lk.mk (show ∀ ad, A = some ad → ¬ F ad.block from fun ad e hh => by have := HFB.out _ hh; have := HA3.out ad e; omega)
  clear HA3 hvl
  obtain ⟨V, q, ex, B, cb, r, Q, qe, ws, up, hIv, hq⟩ := Okk.below HI.out HB4.out.drew
  have CP := Lk.mk (post_both F x cl inc m V q ex B cb r Q qe ws up vk vn va vN ro re A cap vy vb s W4.drew ⟨hIv⟩ hq (by omega) hro hre hvb hvN HSW ⟨HL4.out.on_ (Below.refl _ W4).drew⟩ HA4)
  clear hIv hq HSW HL4 HA4 hvN hvb hro hre
  go_cut [32] (fun s32 wx => s32 = .bool false ∧ Lk (Nx F W x cl inc (m + 1) wx))
  case first =>
    have HQ := Lk.mk (fun (w5 : World) (h : Only F W4.drew w5) => show w5.cell? ⟨g, 2, none⟩ = some (.pointer (some ⟨x.rb, 0, none⟩)) ∧ (World.cell? w5 (Addr.mk bv 0 none) = some (Value.int IntKind.i64 vk) ∧ World.cell? w5 (Addr.mk bv 1 none) = some (Value.int IntKind.i64 vn) ∧ World.cell? w5 (Addr.mk bv 2 none) = some (Value.int IntKind.i64 va) ∧ World.cell? w5 (Addr.mk bv 3 none) = some (Value.int IntKind.i64 vN) ∧ World.cell? w5 (Addr.mk bv 4 none) = some (Value.int IntKind.u64 ((ro : Int))) ∧ World.cell? w5 (Addr.mk bv 5 none) = some (Value.int IntKind.u64 ((re : Int))) ∧ World.cell? w5 (Addr.mk bv 6 none) = some (Value.slice A s.length cap) ∧ World.cell? w5 (Addr.mk bv 7 none) = some (Value.int IntKind.u64 vy) ∧ World.cell? w5 (Addr.mk bv 8 none) = some (Value.int IntKind.i64 vb)) from by
      have HX5 := (HX4.out.below (Below.refl _ W4).drew).on h HFg.out.1 HFg.out.2
      have HV5 := (h.block bv (Array.getElem?_eq_some_iff.1 HV4.out).1 hFv).trans HV4.out
      exact ⟨HX5.p.2.2.1, (cell_of_row w5 bv 0 _ _ _ HV5).trans rfl, (cell_of_row w5 bv 1 _ _ _ HV5).trans rfl, (cell_of_row w5 bv 2 _ _ _ HV5).trans rfl, (cell_of_row w5 bv 3 _ _ _ HV5).trans rfl, (cell_of_row w5 bv 4 _ _ _ HV5).trans rfl, (cell_of_row w5 bv 5 _ _ _ HV5).trans rfl, (cell_of_row w5 bv 6 _ _ _ HV5).trans rfl, (cell_of_row w5 bv 7 _ _ _ HV5).trans rfl, (cell_of_row w5 bv 8 _ _ _ HV5).trans rfl⟩)
    have HNf := Lk.mk (fun (w6 : World) (h : Nx F W4.drew x cl inc (m + 1) w6) => show Lk (Nx F W x cl inc (m + 1) w6) from ⟨Nx.ahead h HB4.out.drew⟩)
    obtain ⟨y0, _, y2, _⟩ := HX4.out.p
    have c0 := (cell_of_row W4 bv 0 _ _ _ HV4.out).trans rfl
    have c1 := (cell_of_row W4 bv 1 _ _ _ HV4.out).trans rfl
    have c2 := (cell_of_row W4 bv 2 _ _ _ HV4.out).trans rfl
    have c3 := (cell_of_row W4 bv 3 _ _ _ HV4.out).trans rfl
    have c4 := (cell_of_row W4 bv 4 _ _ _ HV4.out).trans rfl
    have c5 := (cell_of_row W4 bv 5 _ _ _ HV4.out).trans rfl
    have c6 := (cell_of_row W4 bv 6 _ _ _ HV4.out).trans rfl
    have c7 := (cell_of_row W4 bv 7 _ _ _ HV4.out).trans rfl
    have c8 := (cell_of_row W4 bv 8 _ _ _ HV4.out).trans rfl
    clear HX4 HV4 HB4 HX HI HB HFB HFg hFv hm d0 d1 hd hpi hg
    go_region_with (first
      | (go_at_call 19; (with_reducible refine CP.out.mono ?_); rintro e w5 ⟨z, rfl, HO5, HR5⟩; have hq5 := HQ.out w5 HO5.out; obtain ⟨p2, b0, b1, b2, b3, b4, b5, b6, b7, b8⟩ := hq5; have CR := Lk.mk (HR5.out w5 (Below.refl _ w5)); clear HO5 HR5)
      | (go_at_call 35; (with_reducible refine CR.out.mono ?_); rintro e w6 ⟨rfl, HN6⟩))
    all_goals go_wp2
    all_goals go_meet
    all_goals exact ⟨by simp, HNf.out _ HN6.out⟩
  case rest =>
    obtain ⟨rfl, HNc⟩ := hcut
    clear HX4 HV4 HB4 CP
    have HXc := Lk.mk (HX.out.on (Nx.only HNc.out) HFg.out.1 HFg.out.2)
    have HNw := Lk.mk (show Nx F w x cl inc (m + 1) wc from Nx.ahead HNc.out (by rw [hg]; exact HB.out))
    obtain ⟨y0, y1, y2, y3⟩ := HXc.out.p
    have CS : Lk (Calls Try.prog 41 #[.agg #[.pointer (some ⟨x.bp, 0, none⟩), .pointer (some ⟨x.bn, 0, none⟩), .pointer (some ⟨x.rb, 0, none⟩), .pointer (some ⟨x.rn, 0, none⟩)]] wc fun e w' => e = .returned (.bool true) ∧ Lk (Below wc.heap.size wc w')) := by
      obtain ⟨F', HO', hF', hon'⟩ := HNc.out
      exact ⟨same_okk ⟨HO'⟩⟩
    clear HNc HXc HX HI HB HFg HFB
    go_wp2_with (first
      | (go_at_call 41; (with_reducible refine CS.out.mono ?_); rintro e w9 ⟨rfl, HB9⟩))
    go_ret
    exact ⟨rfl, ⟨Nx.below HNw.out HB9.out⟩⟩
end
end Go.Proofs.Ytacfmkmiikkppaa.Db

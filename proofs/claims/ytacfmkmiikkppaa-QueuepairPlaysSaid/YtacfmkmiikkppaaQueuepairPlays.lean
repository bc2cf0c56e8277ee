/-
  For every input QueuepairPlays returns true, and each argument reads afterwards as before: package queuepair keeps the document here. No condition.
-/
import Derived.Test.YtacfmkmiikkppaaRows
import Derived.Test.YtacfmkmiikkppaaDh
import Derived.Test.YtacfmkmiikkppaaNu
import Derived.WalkKit
import Derived.ProofKit
import Derived.OpenShut
import Derived.ShutString
import Derived.ChangeOld
import Derived.Below
namespace Go.Proofs.Ytacfmkmiikkppaa.queuepairPlays
open Go.ChangeShapes Go.WideShapes Go.ChangeAt Go.RowKit Ga Gb Na Nb Nc Nd_ Nf Nq Nr Ns Nt Va Vb Vc Vd Ve Vf Qa Qb Qd Qj Ta Tb Tc Td Te Tf Tg Tj Tk Tt Tv Da Dg Dh
set_option linter.unusedSimpArgs false
set_option linter.unusedVariables false

theorem own : ownKnob Try.prog.godebug = none := by kernel_rfl
theorem laidOut : laidOutB Try.prog = true := of_decide_eq_true (by kernel_rfl)

set_option maxRecDepth 100000 in
set_option maxHeartbeats 4000000 in
theorem walk (a0 : Int) (a1 : Int) (a2 : Option Addr) (len2 cap2 : Nat) (w : World) (w0 : (Lit.int .i64 a0).wf = true) (w1 : (Lit.int .i64 a1).wf = true) (w2 : IsO5 w a2 len2 cap2) :
    Calls Try.prog 3 #[.int .i64 a0, .int .i64 a1, .slice a2 len2 cap2] w fun e w' => e = .returned (.bool true) ∧ Below w.heap.size w w' := by
  have hlen := w2.len
  have b0 := bounds_i64 w0
  have b1 := bounds_i64 w1
  have CF := fresh_any a0 a1 w b0.1 b0.2 b1.1 b1.2
  have hc0 := pk_lt a0 6 (by decide)
  have hc1 := pk_lt a1 4 (by decide)
  clear b0 b1 w0 w1
  generalize pk a0 6 = cl at *
  generalize pk a1 4 = inc at *
  unfold pairV at CF
  go_enter Try.func3, Try.ntmps3
  by_cases h60 : len2 ≤ 60
  · go_upto_region 3 with fail
    go_upto_region 4 with (first
      | (go_at_call 8; refine CF.mono ?_; rintro e w1 ⟨F, x, rfl, HS, HF, HB⟩))
    have HI : Lk (Okk F w1 x cl inc 0) := ⟨_, [], 0, none, 0, [], _, [], _, _, ⟨HS.out, ⟨rfl, rfl, rfl⟩, (fun p hp => by cases hp), (fun p t e => by cases e), by simp, by omega⟩, by simp⟩
    have hBa := (Below.refl _ w1).alloc (Nat.le_refl _) (.cells #[.pointer (some ⟨x.bp, 0, none⟩), .pointer (some ⟨x.bn, 0, none⟩), .pointer (some ⟨x.rb, 0, none⟩), .pointer (some ⟨x.rn, 0, none⟩)] 28)
    have HX2 := Lk.mk (heap_alloc_new w1 (.cells #[.pointer (some ⟨x.bp, 0, none⟩), .pointer (some ⟨x.bn, 0, none⟩), .pointer (some ⟨x.rb, 0, none⟩), .pointer (some ⟨x.rn, 0, none⟩)] 28))
    have HI2 := Lk.mk (Okk.below HI.out hBa)
    have HB2 := Lk.mk (HB.out.trans (hBa.mono HB.out.size))
    have HF2 := Lk.mk (show ∀ b, F b → w.heap.size ≤ b ∧ b ≠ w1.heap.size from fun b hb => ⟨HF.out b hb, by have := Okk.fb HI.out b hb; omega⟩)
    clear hBa HS HF HB HI CF
    generalize w1.alloc _ = W2 at *
    generalize w1.heap.size = gx at *
    go_upto_region 6 with (first
      | (go_at_call 9; refine (awake_any _).mono ?_; rintro e W3 ⟨rfl, HB3⟩))
    have HX3 := Lk.mk ((HB3.out.block gx (Array.getElem?_eq_some_iff.1 HX2.out).1).trans HX2.out)
    have HI3 := Lk.mk (Okk.below HI2.out HB3.out)
    have HBB := Lk.mk (HB2.out.trans (HB3.out.mono HB2.out.size))
    clear HX2 HI2 HB2 HB3
    go_wp2_with fail
    go_loopw [9] (fun i wr => ∃ (k : Nat) (F : Nat → Prop), k ≤ len2 ∧ i = .int .i64 k ∧ Lk (Okk F wr x cl inc k) ∧ Lk (∀ b, F b → w.heap.size ≤ b ∧ b ≠ gx) ∧ Lk (wr.heap[gx]? = some (.cells #[.pointer (some ⟨x.bp, 0, none⟩), .pointer (some ⟨x.bn, 0, none⟩), .pointer (some ⟨x.rb, 0, none⟩), .pointer (some ⟨x.rn, 0, none⟩)] 28 (0, 0))) ∧ Lk (Below w.heap.size w wr)) (fun i _ => len2 - (intOf i).toNat)
    case atStart => exact ⟨0, F, by omega, rfl, HI3, HF2, HX3, HBB⟩
    case round =>
      clear HX3 HI3 HBB HF2
      obtain ⟨k, F, hk, rfl, HIr, HFr, HXr, HBr⟩ := hrel
      have y0 := (cell_of_row wr gx 0 _ _ _ HXr.out).trans rfl
      have y1 := (cell_of_row wr gx 1 _ _ _ HXr.out).trans rfl
      have y2 := (cell_of_row wr gx 2 _ _ _ HXr.out).trans rfl
      have y3 := (cell_of_row wr gx 3 _ _ _ HXr.out).trans rfl
      by_cases hlt : k < len2
      · obtain ⟨p, rfl, hop⟩ := w2.at_ hlt
        have hop2 : OneO5 wr p (k * 10) := by
          obtain ⟨kd, rk, ra, rn, ry, rb, at_, ro, re, wd, h0, h1, h2, h3, h4, h5, h6, h7, h8, h9, hw⟩ := hop
          exact ⟨kd, rk, ra, rn, ry, rb, at_, ro, re, wd, (HBr.out.cell (block_lt_of_cell h0)).trans h0, (HBr.out.cell (block_lt_of_cell h1)).trans h1, (HBr.out.cell (block_lt_of_cell h2)).trans h2, (HBr.out.cell (block_lt_of_cell h3)).trans h3, (HBr.out.cell (block_lt_of_cell h4)).trans h4, (HBr.out.cell (block_lt_of_cell h5)).trans h5, (HBr.out.cell (block_lt_of_cell h6)).trans h6, (HBr.out.cell (block_lt_of_cell h7)).trans h7, (HBr.out.cell (block_lt_of_cell h8)).trans h8, (HBr.out.cell (block_lt_of_cell h9)).trans h9, hw⟩
        obtain ⟨kd, rk, ra, rn, ry, rb, at_, ro, re, wd, e0, e1, e2, e3, e4, e5, e6, e7, e8, e9, hw, hro, hre, hwd⟩ := hop2
        clear hop
        have CD := Lk.mk (do_any F x cl inc k kd rk ra rn ry rb at_ ro re wd wr.drew ⟨Okk.below HIr.out (Below.refl _ wr).drew⟩ (by omega) hw hro hre hwd)
        unfold pairV at CD
        clear hw hro hre hwd
        go_upto_region 9 with fail
        go_cut [37] (fun s wx => s = .bool false ∧ ∃ (F' : Nat → Prop), Lk (Okk F' wx x cl inc (k + 1)) ∧ Lk (∀ b, F' b → w.heap.size ≤ b ∧ b ≠ gx) ∧ Lk (wx.heap[gx]? = some (.cells #[.pointer (some ⟨x.bp, 0, none⟩), .pointer (some ⟨x.bn, 0, none⟩), .pointer (some ⟨x.rb, 0, none⟩), .pointer (some ⟨x.rn, 0, none⟩)] 28 (0, 0))) ∧ Lk (Below w.heap.size w wx))
        case first =>
          go_region_with (first
            | (go_at_call 10; refine CD.out.mono ?_; rintro e w4 ⟨rfl, HN4⟩))
          all_goals go_wp2
          all_goals go_meet
          all_goals obtain ⟨F', h1, h2, h3⟩ := HN4.out
          all_goals have hgl : gx < wr.heap.size := (Array.getElem?_eq_some_iff.1 HXr.out).1
          all_goals exact ⟨rfl, F', ⟨h1⟩, ⟨fun b hb => (h2 b hb).elim (fun h => HFr.out b h) (fun h => by have h := (show wr.heap.size ≤ b from h); have := HBr.out.size; exact ⟨by omega, by omega⟩)⟩, ⟨(h3.block gx hgl (fun hh => (HFr.out gx hh).2 rfl)).trans HXr.out⟩, ⟨h3.below_on (HBr.out.drew) (fun b hb => (HFr.out b hb).1) HBr.out.size⟩⟩
        case rest =>
          obtain ⟨rfl, F', HI4, HF4, HX4, HB4⟩ := hcut
          clear e0 e1 e2 e3 e4 e5 e6 e7 e8 e9 y0 y1 y2 y3 CD HIr HFr HXr HBr
          go_wp2_with fail
          go_roundw
          case rel => exact ⟨k + 1, F', by omega, by go_num, HI4, HF4, HX4, HB4⟩
          case measure => simp [intOf]; omega
      · obtain rfl : len2 = k := by omega
        obtain ⟨V, q, ex, B, cb, r, Q, qe, ws, up, hIv, hq⟩ := HIr.out
        have HNr := Lk.mk hIv.st.pn
        have HRr := Lk.mk hIv.st.rn
        clear hIv hq HIr HFr
        go_upto_region 11 with fail
        have CI := Lk.mk (image_any x.bn x.gn 320 x.cp ws up wr.drew 40 ⟨Nd.drew HNr.out 1⟩ rfl (by omega) (by omega))
        go_region_with (first
          | (go_at_call 12; refine CI.out.mono ?_; rintro e w5 ⟨v5, rfl, HB5⟩; obtain ⟨A5, c5, rfl, hc5, hL5⟩ := HB5.out.form; have HLi := Lk.mk hL5; clear hL5; have HR5 : Lk (RN w5 x.rn x.rg 320 x.cr ws up) := ⟨HRr.out.keep (HB5.out.below.block x.rn HRr.out.size) (HB5.out.below.block x.rg HRr.out.row.size)⟩; have z3 := (HB5.out.below.cell (p := ⟨gx, 3, none⟩) (block_lt_of_cell y3)).trans y3)
          | (go_at_call 11; refine (sameImage_any A5 (img ws up 40) _ c5 x.rn x.rg 320 x.cr ws up w5 40 rfl HLi ⟨rfl⟩ HR5 rfl (by omega) (by omega)).mono ?_; rintro e w6 ⟨rfl, HB6⟩))
        all_goals go_wp2
        all_goals go_ret
        all_goals exact ⟨rfl, HBr.out.drew.trans ((HB5.out.below.trans (HB6.out.mono HB5.out.below.size)).mono HBr.out.size)⟩
  · go_wp2_with fail
    go_ret
    exact ⟨rfl, Below.refl _ w⟩

set_option maxRecDepth 100000 in
theorem lifted (os : Os) (started : os.Started) (H : Type) (enc : TypeId × Value → H) :
    ReturnsInHanded {} Try.checked os 3 .any (Rows.queuepairPlaysSpec.pre6 enc Try.prog Try.f3 Rows.queuepairPlaysRow.domain false) (Rows.queuepairPlaysSpec.post enc Try.prog Try.f3 false true false false) := by
  refine returnsInHanded_of_change (C := Try.checked) own started (by kernel_rfl) Try.func3
    (ChangeSpec.witness6 (enc := enc) (C := Try.checked) false ⟨#[], #[.int .i64 0, .int .i64 0, .slice none 0 0], []⟩ 8 (by kernel_rfl) (by kernel_rfl) (by kernel_rfl) (by kernel_rfl)) ?_
  intro W base args ds gs before hval0 hW hcnd _
  have hval : ∀ (j : Nat) t v, Try.f3.params[j]? = some t → args[j]? = some v → Value.okWide Try.prog W .any base t v := hval0
  have hW' := hW
  obtain ⟨p, q, hA0, hV, rfl, hfz, hnd⟩ := hW
  have hA : DataW.TrodAll enc Try.prog W 0 (fun _ => true) true Try.f3.params.toList args.toList ds p := hA0
  rw [Try.params3] at hA hval
  obtain ⟨v0, vs0, d0, ds0, p0, q0, hargs, rfl, rfl, h0, r0⟩ := trodAll_cons hA
  obtain ⟨v1, vs1, d1, ds1, p1, q1, rfl, rfl, rfl, h1, r1⟩ := trodAll_cons r0
  obtain ⟨v2, vs2, d2, ds2, p2, q2, rfl, rfl, rfl, h2, r2⟩ := trodAll_cons r1
  obtain ⟨rfl, rfl, rfl⟩ := trodAll_nil r2
  obtain rfl : args = #[v0, v1, v2] := by cases args; simp_all
  obtain ⟨rfl, rfl⟩ := trodVars_none hV
  obtain ⟨a0, rfl, rfl, rfl, w0⟩ := open_int Try.underlying3 (hval 0 3 v0 rfl rfl) h0
  obtain ⟨a1, rfl, rfl, rfl, w1⟩ := open_int Try.underlying3 (hval 1 3 v1 rfl rfl) h1
  obtain ⟨a2, len2, cap2, rfl⟩ := okWide_slice Try.underlying22 (hval 2 22 v2 rfl rfl)
  have k2 := h2
  have lt2 : ∀ x ∈ p2, x.block < W.heap.size := by obtain ⟨m, hm⟩ := k2; exact DataW.trod_lt m _ _ _ hm
  have w2 : IsO5 W a2 len2 cap2 := by
    obtain ⟨fuel, hf⟩ := h2
    exact ops5_of hf
  clear hA0 hval0
  refine (walk a0 a1 a2 len2 cap2 W w0 w1 w2).mono fun e W' ⟨he, bel⟩ => ?_
  subst he
  exact ⟨_, rfl, _, _, _, [], _, [], hW', trodAll_mk1 (shut_bool Try.underlying4 _), (trodAll_cons_mk (shut_int Try.underlying3 w0) (trodAll_cons_mk (shut_int Try.underlying3 w1) (trodAll_cons_mk (Below.trod laidOut (by kernel_rfl) (of_decide_eq_true (by kernel_rfl)) k2 bel lt2) trodAll_mk0))), rfl, bel.frame _, fun h => by cases h⟩

theorem over : Rows.queuepairPlaysRow.holds Try.pinned (OpenSpec.ofChange Rows.queuepairPlaysSpec) :=
  OpenClaim.holds_of_wide 3 Try.f3 rfl rfl rfl rfl rfl rfl rfl ⟨rfl, rfl, rfl, rfl, rfl⟩ rfl rfl rfl rfl rfl (by kernel_rfl) Try.func3 (by kernel_rfl)
    (of_decide_eq_true (by kernel_rfl)) (by unfold Func.isWrapper; first | (rw [if_pos (by decide +kernel)]; kernel_rfl) | (rw [if_neg (by decide +kernel)]; exact ⟨rfl, rfl⟩))
    (fun os started H enc _ => lifted os started H enc)

/-- ████ THE STATEMENT ████ -/
theorem proved : Rows.QueuepairPlaysSaid := over
end Go.Proofs.Ytacfmkmiikkppaa.queuepairPlays

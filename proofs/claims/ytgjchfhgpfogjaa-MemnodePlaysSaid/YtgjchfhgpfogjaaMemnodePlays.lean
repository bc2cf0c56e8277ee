/-
  For every input MemnodePlays returns true, and each argument reads afterwards as before: package memnode keeps the document here. No condition.
-/
import Derived.Test.YtgjchfhgpfogjaaRows
import Derived.Test.YtgjchfhgpfogjaaNt
import Derived.WalkKit
import Derived.ProofKit
import Derived.OpenShut
import Derived.ShutString
import Derived.ChangeOld
import Derived.Below
namespace Go.Proofs.Ytgjchfhgpfogjaa.memnodePlays
open Go.ChangeShapes Go.WideShapes Go.ChangeAt Go.RowKit Ga Ma Ca Cb Cc Cd Ce Na Nb Nc Nd_ Nk Nf Ng Nh No Np Nq Nr Ns Nt
set_option linter.unusedSimpArgs false
set_option linter.unusedVariables false

theorem own : ownKnob Try.prog.godebug = none := by kernel_rfl
theorem laidOut : laidOutB Try.prog = true := of_decide_eq_true (by kernel_rfl)

set_option maxRecDepth 100000 in
set_option maxHeartbeats 4000000 in
theorem walk (a0 : Int) (a1 : Option Addr) (len1 cap1 : Nat) (w : World) (w0 : (Lit.int .i64 a0).wf = true) (w1 : IsOps w a1 len1 cap1) :
    Calls Try.prog 3 #[.int .i64 a0, .slice a1 len1 cap1] w fun e w' => e = .returned (.bool true) ∧ Below w.heap.size w w' := by
  have hlen := w1.len
  have hwf := bounds_i64 w0
  have hL5 := pk_lt a0 5 (by decide)
  have C0 := pick_any a0 5 w (by decide) (by decide) hwf.1 hwf.2
  obtain ⟨L, hL⟩ : ∃ L, Lk (pk a0 5 + 1 = L) := ⟨_, ⟨rfl⟩⟩
  generalize pk a0 5 = p5 at *
  have hL1 : 1 ≤ L := by have := hL.out; omega
  have hL2 : L ≤ 5 := by have := hL.out; omega
  have hpL : (p5 : Int) + 1 = L := by have := hL.out; omega
  have HPL := Lib.hid hpL
  clear hpL hL hL5 hwf w0
  obtain ⟨n, hn⟩ : ∃ n, 8 * L = n := ⟨_, rfl⟩
  have HN8 : Lk (n = 8 * L) := ⟨hn.symm⟩
  have CN := new_ok L w hL1 (by omega)
  have CR := fun wx => refNew_any L wx hL1 (by omega)
  rw [hn] at CN
  simp only [hn] at CR
  have HCR := Lib.hid CR
  have hn8 : 8 ≤ n := by omega
  have hn40 : n ≤ 40 := by omega
  clear hn CR
  go_enter Try.func3, Try.ntmps3
  go_wp2_with fail
  refine C0.mono ?_
  rintro e w' ⟨rfl, rfl⟩
  go_upto_region 2 with fail
  rw [HPL.out, show wrap64 (L : Int) = L from by unfold wrap64; omega]
  go_wp2_with fail
  refine CN.mono ?_
  rintro e v1 ⟨b, g, rfl, hb, hg, HN, HB⟩
  by_cases h60 : len1 ≤ 60
  · go_wp2_with fail
    refine (awake_any v1).mono ?_
    rintro e v2 ⟨rfl, hB2⟩
    have HN2 : Lk (PN v2 b g n n (List.replicate n 0) true) := ⟨HN.out.keep (hB2.block b HN.out.size) (hB2.block g HN.out.row.size)⟩
    have HB2 : Lk (Below w.heap.size w v2) := ⟨HB.out.trans (hB2.mono HB.out.size)⟩
    clear HN HB hB2 C0 CN
    go_wp2_with fail
    refine (HCR.out v2).mono ?_
    rintro e v3 ⟨gr, rfl, HG, HR, HB⟩
    have HX := pair_made (HN2.out.keep (HB.out.block b HN2.out.size) (HB.out.block g HN2.out.row.size)) HR.out (by have := HN2.out.size; have := HG.out; omega) (by have := HN2.out.row.size; have := HG.out; omega)
    have HP : Lk (Pr _ b g n _ gr n n (List.replicate n 0) true) := ⟨HX.1⟩
    have HB3 : Lk (Below w.heap.size w _) := ⟨HB2.out.trans ((HB.out.trans (HX.2.mono HB.out.size)).mono HB2.out.size)⟩
    have HO : Lk (∀ i, Of b g v3.heap.size gr i → w.heap.size ≤ i) := ⟨fun i hi => by
      have := hb.out
      have := hg.out
      have := HG.out
      have := HB2.out.size
      have := HB.out.size
      unfold Of at hi; omega⟩
    clear HX HB HB2 HN2 HR HG hb hg HCR
    go_wp2_with fail
    generalize hW : v3.alloc (.cells #[.slice (some ⟨gr, 0, none⟩) n n, .bool true] 31) = W at *
    clear hW
    generalize v3.heap.size = br at *
    go_loopw [8] (fun i wr => ∃ (k : Nat) (ws : List Nat) (up : Bool), k ≤ len1 ∧ i = .int .i64 k ∧ Lk (Pr wr b g n br gr n n ws up) ∧ Lk (Below w.heap.size w wr)) (fun i _ => len1 - (intOf i).toNat)
    case atStart => exact ⟨0, _, _, by omega, rfl, HP, HB3⟩
    case round =>
      clear HP HB3
      obtain ⟨k, ws, up, hk, rfl, HP, HB⟩ := hrel
      by_cases hlt : k < len1
      · obtain ⟨p, rfl, hop⟩ := w1.at_ hlt
        have hop2 : OneOp wr p (k * 5) := by
          obtain ⟨q, a, c, x, y, e0, e1, e2, e3, e4, e5⟩ := hop
          exact ⟨q, a, c, x, y, (HB.out.cell (block_lt_of_cell e0)).trans e0, (HB.out.cell (block_lt_of_cell e1)).trans e1, (HB.out.cell (block_lt_of_cell e2)).trans e2, (HB.out.cell (block_lt_of_cell e3)).trans e3, (HB.out.cell (block_lt_of_cell e4)).trans e4, e5⟩
        obtain ⟨q, a, c, x, y, e0, e1, e2, e3, e4, q0, q1, a0, a1, c0, c1, hx, hy⟩ := hop2
        clear hop
        have HPd : Lk (Pr wr.drew b g n br gr n n ws up) := ⟨HP.out.on (S := fun _ => False) ((Only.refl _ wr).drew 1) (fun _ e => e.elim)⟩
        have HBd : Lk (Below w.heap.size w wr.drew) := ⟨HB.out.drew⟩
        go_upto_region 11 with fail
        go_cut [66] (fun s66 wx => s66 = .bool false ∧ ∃ (ws' : List Nat) (up' : Bool), Lk (Pr wx b g n br gr n n ws' up') ∧ Lk (Below w.heap.size w wx))
        case first =>
          go_region_with (first
            | (go_at_call 12; refine (do_any b g n br gr n n ws up q a c x y wr.drew HPd (by omega) hn8 q0 q1 a0 a1 c0 c1 hx hy).mono ?_; rintro e w4 ⟨rfl, ws', up', HP4, HO4, Hup⟩; have hU := HP4.out.r.c1; have hr0 := HP4.out.r.c0; have hr1 := HP4.out.r.row.cell (j := 1) (by omega))
            | (go_at_call 13; refine (up_any b g n n ws' up' w4 ⟨HP4.out.p⟩).mono ?_; rintro e w' ⟨rfl, rfl⟩)
            | (go_at_call 14; refine (boot_any b g n n ws' up' w4 ⟨HP4.out.p⟩ (by omega) (by omega)).mono ?_; rintro e w' ⟨rfl, rfl⟩)
            | (go_at_call 15; refine (lines_any b g n n ws' up' w4 ⟨HP4.out.p⟩ L HN8.out (by omega)).mono ?_; rintro e w' ⟨rfl, rfl⟩))
          all_goals go_wp2
          all_goals go_meet
          all_goals exact ⟨rfl, ws', up', HP4, ⟨HO4.out.below_on HBd.out HO.out HBd.out.size⟩⟩
        case rest =>
          obtain ⟨rfl, ws', up', HP4, HB4⟩ := hcut
          go_wp2_with fail
          go_roundw
          case rel => exact ⟨k + 1, _, _, by omega, by go_num, HP4, HB4⟩
          case measure => simp [intOf]; omega
      · obtain rfl : len1 = k := by omega
        go_wp2_with fail
        refine (image_any b g n n ws up wr L ⟨HP.out.p⟩ HN8.out hL1 (by omega)).mono ?_
        rintro e w5 ⟨v5, rfl, HB5⟩
        obtain ⟨A5, c5, rfl, hc5, hL5⟩ := HB5.out.form
        have HLi := Lib.hid hL5
        clear hL5
        have HR5 : Lk (RN w5 br gr n n ws up) := ⟨HP.out.r.keep (HB5.out.below.block br HP.out.r.size) (HB5.out.below.block gr HP.out.r.row.size)⟩
        go_wp2_with fail
        refine (sameImage_any A5 (img ws up L) _ c5 br gr n n ws up w5 L rfl ⟨HLi.out⟩ ⟨rfl⟩ HR5 HN8.out hL1 (by omega)).mono ?_
        rintro e w6 ⟨rfl, HB6⟩
        go_wp2_with fail
        go_ret
        exact ⟨rfl, HB.out.trans ((HB5.out.below.trans (HB6.out.mono HB5.out.below.size)).mono HB.out.size)⟩
  · go_wp2_with fail
    go_ret
    exact ⟨rfl, HB.out⟩

set_option maxRecDepth 100000 in
theorem lifted (os : Os) (started : os.Started) (H : Type) (enc : TypeId × Value → H) :
    ReturnsInHanded {} Try.checked os 3 .any (Rows.memnodePlaysSpec.pre6 enc Try.prog Try.f3 Rows.memnodePlaysRow.domain false) (Rows.memnodePlaysSpec.post enc Try.prog Try.f3 false true false false) := by
  refine returnsInHanded_of_change (C := Try.checked) own started (by kernel_rfl) Try.func3
    (ChangeSpec.witness6 (enc := enc) (C := Try.checked) false ⟨#[], #[.int .i64 0, .slice none 0 0], []⟩ 8 (by kernel_rfl) (by kernel_rfl) (by kernel_rfl) (by kernel_rfl)) ?_
  intro W base args ds gs before hval0 hW hcnd _
  have hval : ∀ (j : Nat) t v, Try.f3.params[j]? = some t → args[j]? = some v → Value.okWide Try.prog W .any base t v := hval0
  have hW' := hW
  obtain ⟨p, q, hA0, hV, rfl, hfz, hnd⟩ := hW
  have hA : DataW.TrodAll enc Try.prog W 0 (fun _ => true) true Try.f3.params.toList args.toList ds p := hA0
  rw [Try.params3] at hA hval
  obtain ⟨v0, vs0, d0, ds0, p0, q0, hargs, rfl, rfl, h0, r0⟩ := trodAll_cons hA
  obtain ⟨v1, vs1, d1, ds1, p1, q1, rfl, rfl, rfl, h1, r1⟩ := trodAll_cons r0
  obtain ⟨rfl, rfl, rfl⟩ := trodAll_nil r1
  obtain rfl : args = #[v0, v1] := by cases args; simp_all
  obtain ⟨rfl, rfl⟩ := trodVars_none hV
  obtain ⟨a0, rfl, rfl, rfl, w0⟩ := open_int Try.underlying3 (hval 0 3 v0 rfl rfl) h0
  obtain ⟨a1, len1, cap1, rfl⟩ := okWide_slice Try.underlying22 (hval 1 22 v1 rfl rfl)
  have k1 := h1
  have lt1 : ∀ x ∈ p1, x.block < W.heap.size := by obtain ⟨m, hm⟩ := k1; exact DataW.trod_lt m _ _ _ hm
  have w1 : IsOps W a1 len1 cap1 := by
    obtain ⟨fuel, hf⟩ := h1
    exact ops_of hf
  clear hA0 hval0
  refine (walk a0 a1 len1 cap1 W w0 w1).mono fun e W' ⟨he, bel⟩ => ?_
  subst he
  exact ⟨_, rfl, _, _, _, [], _, [], hW', trodAll_mk1 (shut_bool Try.underlying4 _), (trodAll_cons_mk (shut_int Try.underlying3 w0) (trodAll_cons_mk (Below.trod laidOut (by kernel_rfl) (of_decide_eq_true (by kernel_rfl)) k1 bel lt1) trodAll_mk0)), rfl, bel.frame _, fun h => by cases h⟩

theorem over : Rows.memnodePlaysRow.holds Try.pinned (OpenSpec.ofChange Rows.memnodePlaysSpec) :=
  OpenClaim.holds_of_wide 3 Try.f3 rfl rfl rfl rfl rfl rfl rfl ⟨rfl, rfl, rfl, rfl, rfl⟩ rfl rfl rfl rfl rfl (by kernel_rfl) Try.func3 (by kernel_rfl)
    (of_decide_eq_true (by kernel_rfl)) (by unfold Func.isWrapper; first | (rw [if_pos (by decide +kernel)]; kernel_rfl) | (rw [if_neg (by decide +kernel)]; exact ⟨rfl, rfl⟩))
    (fun os started H enc _ => lifted os started H enc)

/-- ████ THE STATEMENT ████ -/
theorem proved : Rows.MemnodePlaysSaid := over
end Go.Proofs.Ytgjchfhgpfogjaa.memnodePlays

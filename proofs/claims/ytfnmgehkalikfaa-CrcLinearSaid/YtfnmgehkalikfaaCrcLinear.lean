/-
  For every input CrcLinear returns true, and each argument reads afterwards as before: package crc keeps the document here. No condition.
-/
import Derived.Test.YtfnmgehkalikfaaRows
import Derived.Test.YtfnmgehkalikfaaPj
import Derived.WalkKit
import Derived.ProofKit
import Derived.OpenShut
import Derived.ShutString
import Derived.ChangeOld
import Derived.Below
namespace Go.Proofs.Ytfnmgehkalikfaa.crcLinear
open Go.ChangeShapes Go.WideShapes Go.ChangeAt Go.RowKit Ma Pa Pb Pc Pd Pe Pf Pg Ph Pl Pj
set_option linter.unusedSimpArgs false
open Go.ChangeMaps (open_string shut_string)
set_option linter.unusedVariables false

theorem own : ownKnob Try.prog.godebug = none := by kernel_rfl
theorem laidOut : laidOutB Try.prog = true := by kernel_rfl

set_option maxRecDepth 100000 in
set_option maxHeartbeats 1000000 in
theorem walk (a0 : Option Addr) (len0 cap0 : Nat) (z0 : List Int) (a1 : Option Addr) (len1 cap1 : Nat) (z1 : List Int) (a2 : Option Addr) (len2 cap2 : Nat) (z2 : List Int) (w : World) (w0 : IsRow .u8 w a0 len0 cap0 z0) (w1 : IsRow .u8 w a1 len1 cap1 z1) (w2 : IsRow .u8 w a2 len2 cap2 z2) :
    Calls Try.prog 7 #[.slice a0 len0 cap0, .slice a1 len1 cap1, .slice a2 len2 cap2] w fun e w' => e = .returned (.bool true) ∧ Below w.heap.size w w' := by
  obtain ⟨la, rfl, hba, hla, hca, hma⟩ := w0.open8
  obtain ⟨lb, rfl, hbb, hlb, hcb, hmb⟩ := w1.open8
  obtain ⟨lc, rfl, hbc, hlc, hcc, hmc⟩ := w2.open8
  clear w0 w1 w2
  obtain ⟨i0, hi, hz0, hz1, hz2⟩ := info_parts u8info
  obtain ⟨n, hn⟩ : ∃ n : Nat, Lk (n = min la.length (min lb.length lc.length)) := ⟨_, ⟨rfl⟩⟩
  have hna : n ≤ la.length := by have := hn.out; omega
  have hnb : n ≤ lb.length := by have := hn.out; omega
  have hnc : n ≤ lc.length := by have := hn.out; omega
  go_enter Try.func7, Try.ntmps7
  go_upto_region 1 with fail
  go_cut [7] (fun s7 wx => s7 = .int .i64 n ∧ wx = w)
  case first =>
    go_wp2
    all_goals go_meet
    all_goals exact ⟨congrArg (Value.int .i64) (by have := hn.out; omega), rfl⟩
  case rest =>
    obtain ⟨rfl, rfl⟩ := hcut
    by_cases h400 : n ≤ 400
    · go_wp2_with (first
        | (at_make; refine wpList_make_full _ rfl _ _ 22 rfl wc.heap.size 5 i0 (.int .u8 0) 1 Try.underlying22 hi hz0 hz1 .i64 .i64 _ _ n rfl rfl rfl rfl ?b2 ?b3 (Nat.le_refl _) ?_))
      case b2 => rw [hz2]; omega
      case b3 => unfold maxLen; omega
      intro w1 hown hgrow
      have HM : Lk (Mine wc w1 wc.heap.size n n (List.replicate n 0)) := ⟨Mine.made rfl (by simpa [Value.cells] using hown) hgrow⟩
      clear hown hgrow
      go_wp2_with fail
      go_loopw [9] (fun i wr => ∃ (k : Nat) (bs : List Nat), k ≤ n ∧ i = .int .i64 k ∧ Lk (Mine wc wr wc.heap.size n n bs) ∧ Lk (Part (mix n la lb lc) bs k)) (fun i _ => n - (intOf i).toNat)
      case atStart => exact ⟨0, _, by omega, rfl, HM, ⟨Part.start _ _⟩⟩
      case round =>
        clear HM
        obtain ⟨k, bs, hk, rfl, HM, HQ⟩ := hrel
        by_cases hlt : k < n
        · obtain ⟨aa, rfl, hba1, hca1⟩ := hla.out.at_ (show k < la.length by omega)
          obtain ⟨ab, rfl, hbb1, hcb1⟩ := hlb.out.at_ (show k < lb.length by omega)
          obtain ⟨ac, rfl, hbc1, hcc1⟩ := hlc.out.at_ (show k < lc.length by omega)
          have ca := (HM.out.below.cell (p := aa.add k) (by rw [block_of_add]; exact hba1)).trans hca1
          have cb := (HM.out.below.cell (p := ab.add k) (by rw [block_of_add]; exact hbb1)).trans hcb1
          have cc := (HM.out.below.cell (p := ac.add k) (by rw [block_of_add]; exact hbc1)).trans hcc1
          have cx := HM.out.cell hlt
          have cf := HM.out.free k
          have xa := getD_lt hba.out (show k < la.length by omega)
          have xb := getD_lt hbb.out (show k < lb.length by omega)
          have xc := getD_lt hbc.out (show k < lc.length by omega)
          have HX : Lk (la.getD k 0 ^^^ lb.getD k 0 ^^^ lc.getD k 0 = (mix n la lb lc).getD k 0) := ⟨(mix_at hna hnb hnc hlt).symm⟩
          generalize la.getD k 0 = va at *
          generalize lb.getD k 0 = vb at *
          generalize lc.getD k 0 = vc at *
          generalize bs.getD k 0 = vx at *
          clear hca1 hcb1 hcc1 hba1 hbb1 hbc1
          have HV : Lk (Value.int .u8 (bits .xor .u8 (bits .xor .u8 (va : Int) (vb : Int)) (vc : Int)) = u8v (va ^^^ vb ^^^ vc)) := ⟨mix_num xa xb xc⟩
          have HM2 : Lk (Mine wc _ wc.heap.size n n (bs.set k (va ^^^ vb ^^^ vc))) := ⟨(HM.out.set k _ (mix_bound xa xb xc)).drew 1⟩
          have HQ2 : Lk (Part (mix n la lb lc) (bs.set k (va ^^^ vb ^^^ vc)) (k + 1)) := ⟨HQ.out.more (by rw [HM.out.len]; exact hlt) HX.out⟩
          clear HM HQ HX
          go_wp2_with fail
          go_region
          go_wp2
          go_roundw
          case rel => exact ⟨k + 1, _, by omega, by go_num, by rw [HV.out]; exact HM2, HQ2⟩
          case measure => simp [intOf]; omega
        · obtain rfl : k = n := by omega
          have HX : Lk (bs = mix k la lb lc) := ⟨HQ.out.whole HM.out.len (mix_len hna hnb hnc)⟩
          obtain rfl := HX.out
          have HA : Hid (Lies .u8 wr wr.heap.size a0 (la.take k)) := lies_take (Lies.on hla (Lib.hid HM.out.below)).out hna
          have HB : Hid (Lies .u8 wr wr.heap.size a1 (lb.take k)) := lies_take (Lies.on hlb (Lib.hid HM.out.below)).out hnb
          have HC : Hid (Lies .u8 wr wr.heap.size a2 (lc.take k)) := lies_take (Lies.on hlc (Lib.hid HM.out.below)).out hnc
          have HXl : Hid (Lies .u8 wr wr.heap.size (some ⟨wc.heap.size, 0, none⟩) (mix k la lb lc)) := HM.out.lies
          have HAb : Hid (∀ x ∈ la.take k, x < 256) := take_lt hba.out k
          have HBb : Hid (∀ x ∈ lb.take k, x < 256) := take_lt hbb.out k
          have HCb : Hid (∀ x ∈ lc.take k, x < 256) := take_lt hbc.out k
          have HXb : Hid (∀ x ∈ mix k la lb lc, x < 256) := HM.out.lt
          have HAn : Lk ((la.take k).length = k) := ⟨by rw [List.length_take]; omega⟩
          have HBn : Lk ((lb.take k).length = k) := ⟨by rw [List.length_take]; omega⟩
          have HCn : Lk ((lc.take k).length = k) := ⟨by rw [List.length_take]; omega⟩
          have HXn : Lk ((mix k la lb lc).length = k) := ⟨HM.out.len⟩
          have HF := Lk.mk (mix_crc hna hnb hnc hba.out hbb.out hbc.out)
          have H00 := Lk.mk HM.out.below
          have H0 := lk_refl wr
          generalize la.take k = xa at *
          generalize lb.take k = xb at *
          generalize lc.take k = xc at *
          generalize mix k la lb lc = xx at *
          clear HM HQ HX hla hlb hlc hba hbb hbc hlt hk hn
          have s0 : (0 : Int) ≤ (k : Int) := by omega
          have s1 : (k : Int) ≤ (cap0 : Int) := by omega
          have s2 : (k : Int) ≤ (cap1 : Int) := by omega
          have s3 : (k : Int) ≤ (cap2 : Int) := by omega
          have sl := fun (A : Option Addr) (n c : Nat) (w : World) => slice_head A n c k w
          go_wp2_with fail
          go_region_held3 (fun _ => True) (exact trivial) (first
            | (go_at_call 8; refine (awake_on wr _ ?_).mono ?_; (first | assumption | exact lk_drew (by assumption)); rintro e w5 ⟨rfl, H5⟩)
            | (go_at_call 9; ((with_reducible refine (bytes_on wr _ _ xx k _ HXn (by omega) HXb HXl ?_).mono ?_)); (first | assumption | exact lk_drew (by assumption)); rintro e w6 ⟨rfl, H6⟩)
            | (go_at_call 9; ((with_reducible refine (bytes_on wr _ _ xa k _ HAn (by omega) HAb HA ?_).mono ?_)); (first | assumption | exact lk_drew (by assumption)); rintro e w7 ⟨rfl, H7⟩)
            | (go_at_call 9; ((with_reducible refine (bytes_on wr _ _ xb k _ HBn (by omega) HBb HB ?_).mono ?_)); (first | assumption | exact lk_drew (by assumption)); rintro e w8 ⟨rfl, H8⟩)
            | (go_at_call 9; ((with_reducible refine (bytes_on wr _ _ xc k _ HCn (by omega) HCb HC ?_).mono ?_)); (first | assumption | exact lk_drew (by assumption)); rintro e w9 ⟨rfl, H9⟩))
          go_wp2
          go_ret
          exact ⟨congrArg (fun b => Ending.returned (.bool b)) (by rw [HF.out]; simp), H00.out.trans (H9.out.mono H00.out.size)⟩
    · go_wp2
      go_ret
      exact ⟨rfl, Below.refl _ _⟩

set_option maxRecDepth 100000 in
theorem lifted (os : Os) (started : os.Started) (H : Type) (enc : TypeId × Value → H) :
    ReturnsInHanded {} Try.checked os 7 .any (Rows.crcLinearSpec.pre6 enc Try.prog Try.f7 Rows.crcLinearRow.domain false) (Rows.crcLinearSpec.post enc Try.prog Try.f7 false true false false) := by
  refine returnsInHanded_of_change (C := Try.checked) own started (by kernel_rfl) Try.func7
    (ChangeSpec.witness6 (enc := enc) (C := Try.checked) false ⟨#[], #[.slice none 0 0, .slice none 0 0, .slice none 0 0], []⟩ 8 (by kernel_rfl) (by kernel_rfl) (by kernel_rfl) (by kernel_rfl)) ?_
  intro W base args ds gs before hval0 hW hcnd _
  have hval : ∀ (j : Nat) t v, Try.f7.params[j]? = some t → args[j]? = some v → Value.okWide Try.prog W .any base t v := hval0
  have hW' := hW
  obtain ⟨p, q, hA0, hV, rfl, hfz, hnd⟩ := hW
  have hA : DataW.TrodAll enc Try.prog W 0 (fun _ => true) true Try.f7.params.toList args.toList ds p := hA0
  rw [Try.params7] at hA hval
  obtain ⟨v0, vs0, d0, ds0, p0, q0, hargs, rfl, rfl, h0, r0⟩ := trodAll_cons hA
  obtain ⟨v1, vs1, d1, ds1, p1, q1, rfl, rfl, rfl, h1, r1⟩ := trodAll_cons r0
  obtain ⟨v2, vs2, d2, ds2, p2, q2, rfl, rfl, rfl, h2, r2⟩ := trodAll_cons r1
  obtain ⟨rfl, rfl, rfl⟩ := trodAll_nil r2
  obtain rfl : args = #[v0, v1, v2] := by cases args; simp_all
  obtain ⟨rfl, rfl⟩ := trodVars_none hV
  obtain ⟨a0, len0, cap0, rfl⟩ := okWide_slice Try.underlying22 (hval 0 22 v0 rfl rfl)
  have k0 := h0
  have lt0 : ∀ x ∈ p0, x.block < W.heap.size := by obtain ⟨m, hm⟩ := k0; exact DataW.trod_lt m _ _ _ hm
  obtain ⟨z0, w0⟩ : ∃ zs, IsRow .u8 W a0 len0 cap0 zs := by
    obtain ⟨fuel, hf⟩ := h0
    rcases open_ints Try.underlying22 Try.underlying5 (by kernel_rfl) hf with ⟨hcs, _⟩ | ⟨x, l, c, zs, hcs, _, hl, hm, hz, _, hcell, hwz⟩
    · simp [Value.cells] at hcs
      obtain ⟨rfl, rfl, rfl⟩ := hcs
      exact ⟨[], .inl ⟨rfl, rfl, rfl, rfl⟩⟩
    · simp [Value.cells] at hcs
      obtain ⟨rfl, rfl, rfl⟩ := hcs
      exact ⟨zs, .inr ⟨_, rfl, hl, hm, by simpa using hz, hcell, hwz⟩⟩
  obtain ⟨a1, len1, cap1, rfl⟩ := okWide_slice Try.underlying22 (hval 1 22 v1 rfl rfl)
  have k1 := h1
  have lt1 : ∀ x ∈ p1, x.block < W.heap.size := by obtain ⟨m, hm⟩ := k1; exact DataW.trod_lt m _ _ _ hm
  obtain ⟨z1, w1⟩ : ∃ zs, IsRow .u8 W a1 len1 cap1 zs := by
    obtain ⟨fuel, hf⟩ := h1
    rcases open_ints Try.underlying22 Try.underlying5 (by kernel_rfl) hf with ⟨hcs, _⟩ | ⟨x, l, c, zs, hcs, _, hl, hm, hz, _, hcell, hwz⟩
    · simp [Value.cells] at hcs
      obtain ⟨rfl, rfl, rfl⟩ := hcs
      exact ⟨[], .inl ⟨rfl, rfl, rfl, rfl⟩⟩
    · simp [Value.cells] at hcs
      obtain ⟨rfl, rfl, rfl⟩ := hcs
      exact ⟨zs, .inr ⟨_, rfl, hl, hm, by simpa using hz, hcell, hwz⟩⟩
  obtain ⟨a2, len2, cap2, rfl⟩ := okWide_slice Try.underlying22 (hval 2 22 v2 rfl rfl)
  have k2 := h2
  have lt2 : ∀ x ∈ p2, x.block < W.heap.size := by obtain ⟨m, hm⟩ := k2; exact DataW.trod_lt m _ _ _ hm
  obtain ⟨z2, w2⟩ : ∃ zs, IsRow .u8 W a2 len2 cap2 zs := by
    obtain ⟨fuel, hf⟩ := h2
    rcases open_ints Try.underlying22 Try.underlying5 (by kernel_rfl) hf with ⟨hcs, _⟩ | ⟨x, l, c, zs, hcs, _, hl, hm, hz, _, hcell, hwz⟩
    · simp [Value.cells] at hcs
      obtain ⟨rfl, rfl, rfl⟩ := hcs
      exact ⟨[], .inl ⟨rfl, rfl, rfl, rfl⟩⟩
    · simp [Value.cells] at hcs
      obtain ⟨rfl, rfl, rfl⟩ := hcs
      exact ⟨zs, .inr ⟨_, rfl, hl, hm, by simpa using hz, hcell, hwz⟩⟩
  clear hA0 hval0
  refine (walk a0 len0 cap0 z0 a1 len1 cap1 z1 a2 len2 cap2 z2 W w0 w1 w2).mono fun e W' ⟨he, bel⟩ => ?_
  subst he
  exact ⟨_, rfl, _, _, _, [], _, [], hW', trodAll_mk1 (shut_bool Try.underlying4 _), (trodAll_cons_mk (Below.trod laidOut (by kernel_rfl) (of_decide_eq_true (by kernel_rfl)) k0 bel lt0) (trodAll_cons_mk (Below.trod laidOut (by kernel_rfl) (of_decide_eq_true (by kernel_rfl)) k1 bel lt1) (trodAll_cons_mk (Below.trod laidOut (by kernel_rfl) (of_decide_eq_true (by kernel_rfl)) k2 bel lt2) trodAll_mk0))), rfl, bel.frame _, fun h => by cases h⟩

theorem over : Rows.crcLinearRow.holds Try.pinned (OpenSpec.ofChange Rows.crcLinearSpec) :=
  OpenClaim.holds_of_wide 7 Try.f7 rfl rfl rfl rfl rfl rfl rfl ⟨rfl, rfl, rfl, rfl, rfl⟩ rfl rfl rfl rfl rfl (by kernel_rfl) Try.func7 (by kernel_rfl)
    (of_decide_eq_true (by kernel_rfl)) (by unfold Func.isWrapper; first | (rw [if_pos (by decide +kernel)]; kernel_rfl) | (rw [if_neg (by decide +kernel)]; exact ⟨rfl, rfl⟩))
    (fun os started H enc _ => lifted os started H enc)

/-- ████ THE STATEMENT ████ -/
theorem proved : Rows.CrcLinearSaid := over
end Go.Proofs.Ytfnmgehkalikfaa.crcLinear

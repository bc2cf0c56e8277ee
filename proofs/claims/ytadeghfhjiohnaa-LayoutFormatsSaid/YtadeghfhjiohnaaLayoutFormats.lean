/-
  For every input LayoutFormats returns true, and each argument reads afterwards as before: package layout keeps the document here. No condition.
-/
import Derived.Test.YtadeghfhjiohnaaRows
import Derived.Test.YtadeghfhjiohnaaLf
import Derived.WalkKit
import Derived.ProofKit
import Derived.OpenShut
import Derived.ShutString
import Derived.ChangeOld
import Derived.Below
namespace Go.Proofs.Ytadeghfhjiohnaa.layoutFormats
open Go.ChangeShapes Go.WideShapes Go.ChangeAt Go.RowKit Ga Na Nb Nc Nd_ Nf Nq Nr Ns Nt La Lb Le Lf
set_option linter.unusedSimpArgs false
set_option linter.unusedVariables false

theorem own : ownKnob Try.prog.godebug = none := by kernel_rfl
theorem laidOut : laidOutB Try.prog = true := of_decide_eq_true (by kernel_rfl)

set_option maxRecDepth 100000 in
set_option maxHeartbeats 4000000 in
theorem walk (a0 : Int) (a1 : Int) (a2 : Bool) (a3 : Option Addr) (len3 cap3 : Nat) (z3 : List Int) (w : World) (w0 : (Lit.int .i64 a0).wf = true) (w1 : (Lit.int .i64 a1).wf = true) (w3 : IsRow .u64 w a3 len3 cap3 z3) :
    Calls Try.prog 5 #[.int .i64 a0, .int .i64 a1, .bool a2, .slice a3 len3 cap3] w fun e w' => e = .returned (.bool true) ∧ Below w.heap.size w w' := by
  have hw0 := bounds_i64 w0
  have hw1 := bounds_i64 w1
  have C0 := pick_any a0 12 w (by decide) (by decide) (by omega) (by omega)
  have p0 := pk_lt a0 12 (by omega)
  generalize pk a0 12 = k0 at *
  obtain ⟨L, hLk⟩ : ∃ L : Nat, L = k0 + 94 := ⟨_, rfl⟩
  have hL : 94 ≤ L ∧ L ≤ 105 := by omega
  have hLi : (k0 : Int) + 98 - 4 = L := by omega
  have hlen := w3.len
  have HLs := Lk.mk (w3.lies wf64)
  have HLt := Lk.mk (w3.lt wf64)
  generalize nats len3 z3 = l at *
  have CA := Lk.mk (fun W => awake_l W)
  go_enter Try.func5, Try.ntmps5
  go_upto_region 1 with fail
  go_cut [0] (fun s0 wx => wx = w ∧ s0 = .int .i64 L)
  case first =>
    go_wp2_with (first | (go_at_call 7; (with_reducible refine C0.mono ?_); rintro e w' ⟨rfl, rfl⟩))
    go_meet
    exact ⟨rfl, by congr 1 <;> omega⟩
  case rest =>
  obtain ⟨hwc, rfl⟩ := hcut
  obtain rfl : w = wc := hwc.symm
  clear hLi
  clear hLk
  by_cases hbig : 200 < len3
  · have hbi : 200 < (len3 : Int) := by omega
    go_wp2
    go_ret
    exact ⟨rfl, Below.refl _ _⟩
  have hbi : ¬ 200 < (len3 : Int) := by omega
  have CN := new_ok L w (by omega) (by omega)
  clear hbig hw0 w0 p0 C0
  go_upto_region 7 with (first
    | (go_at_call 31; refine CN.mono ?_; rintro e w1 ⟨b, g, rfl, hb, hg, HN, HB⟩)
    | (go_at_call 10; refine (CA.out _).mono ?_; rintro e w2 ⟨rfl, H2⟩))
  obtain ⟨N, hNN⟩ : ∃ N, 8 * L = N := ⟨_, rfl⟩
  rw [hNN] at HN
  have hN : 752 ≤ N ∧ N ≤ 840 := by omega
  have HNN := Lk.mk hNN
  have HP2 := Lk.mk (HN.out.keep (H2.out.block b HN.out.size) (H2.out.block g HN.out.row.size))
  have HB2 := Lk.mk (HB.out.trans (H2.out.mono HB.out.size))
  have hbb := hb.out
  have hgg := hg.out
  clear hNN CN HN HB hb hg
  go_cut [45] (fun s45 wx => s45 = .bool false ∧ ∃ ws, Lk (PN wx b g N N ws true) ∧ Lk (Below w.heap.size w wx))
  case first =>
    by_cases h0 : len3 = 0
    · have h0i : ¬ 0 < (len3 : Int) := by omega
      clear h0
      go_wp2
      go_meet
      exact ⟨rfl, _, HP2, HB2⟩
    · obtain ⟨ad, had, hab, hac⟩ := HLs.out (by omega)
      have h0i : 0 < (len3 : Int) := by omega
      have CW := write_ok b g N N _ 20 ad l len3 cap3 w2 HP2 (by omega) hlen.1 (by omega) (by omega) HLt ⟨fun i hi => (HB2.out.cell (p := ad.add i) (by rw [block_of_add]; exact hab)).trans (hac i (by omega))⟩
      rw [← had] at CW
      clear had
      go_wp2_with (first | (go_at_call 32; refine CW.mono ?_; rintro e w3 ⟨rfl, HP3, HO3⟩))
      go_meet
      exact ⟨rfl, _, HP3, ⟨HO3.out.below_on HB2.out (fun k hk => by rcases hk with rfl | rfl <;> assumption) HB2.out.size⟩⟩
  case rest =>
  obtain ⟨rfl, ws1, HP3, HB3⟩ := hcut
  clear HP2 HB2 H2 HLs HLt hlen hbi
  obtain ⟨w4, hw4⟩ : ∃ x, x = wc := ⟨_, rfl⟩
  subst hw4
  cases a2 with
  | true =>
    have CFa := fail_any b g N N ws1 true w4 HP3
    go_upto_region 11 with (first | (go_at_call 33; refine CFa.mono ?_; rintro e w5 ⟨rfl, HP4, HO5⟩))
    have HB4 := Lk.mk (HO5.out.below_on HB3.out (fun k hk => by rw [hk]; exact hbb) HB3.out.size)
    clear CFa HP3 HB3 HO5
    have hp4 := HP4.out
    have hil : 0 < (img ws1 false L).length := by rw [img_len]; omega
    have CI := image_any b g N N ws1 false w5 L HP4 HNN.out.symm (by omega) (by omega)
    have CI2 := Lk.mk (fun W (hP : Lk (PN W b g N N ws1 false)) => image_any b g N N ws1 false W L hP HNN.out.symm (by omega) (by omega))
    go_upto_region 12 with (first | (go_at_call 34; refine CI.mono ?_; rintro e w6 ⟨v6, rfl, HI⟩))
    have HP6 := Lk.mk (HP4.out.keep (HI.out.below.block b HP4.out.size) (HI.out.below.block g HP4.out.row.size))
    have HB6 := Lk.mk (HB4.out.trans (HI.out.below.mono HB4.out.size))
    clear CI HP4 HB4 hp4
    by_cases h1 : a1 < 1
    · skip
      have CF := format_arg (.pointer (some ⟨b, 0, none⟩)) a1 w6 (by omega)
      go_wp2_with (first
          | (go_at_call 35; refine CF.mono ?_; rintro e w' ⟨rfl, rfl⟩)
          | (go_at_call 34; refine (CI2.out _ HP6).mono ?_; rintro e w9 ⟨v9, rfl, HI2⟩)
          | (go_at_call 36; refine (sameBytes_any _ _ _ _ _ _ HI2 ⟨Bt.on HI.out HI2.out.below⟩ hil).mono ?_; rintro e w' ⟨rfl, rfl⟩))
      go_ret
      exact ⟨rfl, HB6.out.trans (HI2.out.below.mono HB6.out.size)⟩
    by_cases h2 : 5 < a1
    · skip
      have CF := format_arg (.pointer (some ⟨b, 0, none⟩)) a1 w6 (by omega)
      go_wp2_with (first
          | (go_at_call 35; refine CF.mono ?_; rintro e w' ⟨rfl, rfl⟩)
          | (go_at_call 34; refine (CI2.out _ HP6).mono ?_; rintro e w9 ⟨v9, rfl, HI2⟩)
          | (go_at_call 36; refine (sameBytes_any _ _ _ _ _ _ HI2 ⟨Bt.on HI.out HI2.out.below⟩ hil).mono ?_; rintro e w' ⟨rfl, rfl⟩))
      go_ret
      exact ⟨rfl, HB6.out.trans (HI2.out.below.mono HB6.out.size)⟩
    obtain ⟨n, rfl⟩ : ∃ n : Nat, a1 = n := ⟨a1.toNat, by omega⟩
    have hn : 1 ≤ n ∧ n ≤ 5 := by omega
    by_cases h3 : L < 98
    · have h3i : (L : Int) < 98 := by omega
      have CF := format_low b g N N ws1 w6 L n false HP6 HNN.out.symm (by omega) hn
      go_wp2_with (first
          | (go_at_call 35; refine CF.mono ?_; rintro e w' ⟨rfl, rfl⟩)
          | (go_at_call 34; refine (CI2.out _ HP6).mono ?_; rintro e w9 ⟨v9, rfl, HI2⟩)
          | (go_at_call 36; refine (sameBytes_any _ _ _ _ _ _ HI2 ⟨Bt.on HI.out HI2.out.below⟩ hil).mono ?_; rintro e w' ⟨rfl, rfl⟩))
      go_ret
      exact ⟨rfl, HB6.out.trans (HI2.out.below.mono HB6.out.size)⟩
    have h3i : ¬ (L : Int) < 98 := by omega
    have CF := format_down b g N N ws1 w6 L n HP6 HNN.out.symm (by omega) hn
    go_wp2_with (first
        | (go_at_call 35; refine CF.mono ?_; rintro e w7 ⟨rfl, H7⟩; have HP7 := Lk.mk (HP6.out.keep (H7.out.block b HP6.out.size) (H7.out.block g HP6.out.row.size)))
        | (go_at_call 34; refine (CI2.out _ HP7).mono ?_; rintro e w9 ⟨v9, rfl, HI2⟩)
        | (go_at_call 36; refine (sameBytes_any _ _ _ _ _ _ HI2 ⟨Bt.on (Bt.on HI.out H7.out) HI2.out.below⟩ hil).mono ?_; rintro e w' ⟨rfl, rfl⟩))
    go_ret
    exact ⟨rfl, HB6.out.trans ((H7.out.trans (HI2.out.below.mono H7.out.size)).mono HB6.out.size)⟩
  | false =>
    have HP4 := HP3
    have HB4 := HB3
    obtain ⟨w5, hw5⟩ : ∃ x, x = w4 := ⟨_, rfl⟩
    subst hw5
    go_upto_region 11 with fail
    clear HP3 HB3
    have hp4 := HP4.out
    have hil : 0 < (img ws1 true L).length := by rw [img_len]; omega
    have CI := image_any b g N N ws1 true w5 L HP4 HNN.out.symm (by omega) (by omega)
    have CI2 := Lk.mk (fun W (hP : Lk (PN W b g N N ws1 true)) => image_any b g N N ws1 true W L hP HNN.out.symm (by omega) (by omega))
    go_upto_region 12 with (first | (go_at_call 34; refine CI.mono ?_; rintro e w6 ⟨v6, rfl, HI⟩))
    have HP6 := Lk.mk (HP4.out.keep (HI.out.below.block b HP4.out.size) (HI.out.below.block g HP4.out.row.size))
    have HB6 := Lk.mk (HB4.out.trans (HI.out.below.mono HB4.out.size))
    clear CI HP4 HB4 hp4
    by_cases h1 : a1 < 1
    · skip
      have CF := format_arg (.pointer (some ⟨b, 0, none⟩)) a1 w6 (by omega)
      go_wp2_with (first
          | (go_at_call 35; refine CF.mono ?_; rintro e w' ⟨rfl, rfl⟩)
          | (go_at_call 34; refine (CI2.out _ HP6).mono ?_; rintro e w9 ⟨v9, rfl, HI2⟩)
          | (go_at_call 36; refine (sameBytes_any _ _ _ _ _ _ HI2 ⟨Bt.on HI.out HI2.out.below⟩ hil).mono ?_; rintro e w' ⟨rfl, rfl⟩))
      go_ret
      exact ⟨rfl, HB6.out.trans (HI2.out.below.mono HB6.out.size)⟩
    by_cases h2 : 5 < a1
    · skip
      have CF := format_arg (.pointer (some ⟨b, 0, none⟩)) a1 w6 (by omega)
      go_wp2_with (first
          | (go_at_call 35; refine CF.mono ?_; rintro e w' ⟨rfl, rfl⟩)
          | (go_at_call 34; refine (CI2.out _ HP6).mono ?_; rintro e w9 ⟨v9, rfl, HI2⟩)
          | (go_at_call 36; refine (sameBytes_any _ _ _ _ _ _ HI2 ⟨Bt.on HI.out HI2.out.below⟩ hil).mono ?_; rintro e w' ⟨rfl, rfl⟩))
      go_ret
      exact ⟨rfl, HB6.out.trans (HI2.out.below.mono HB6.out.size)⟩
    obtain ⟨n, rfl⟩ : ∃ n : Nat, a1 = n := ⟨a1.toNat, by omega⟩
    have hn : 1 ≤ n ∧ n ≤ 5 := by omega
    by_cases h3 : L < 98
    · have h3i : (L : Int) < 98 := by omega
      have CF := format_low b g N N ws1 w6 L n true HP6 HNN.out.symm (by omega) hn
      go_wp2_with (first
          | (go_at_call 35; refine CF.mono ?_; rintro e w' ⟨rfl, rfl⟩)
          | (go_at_call 34; refine (CI2.out _ HP6).mono ?_; rintro e w9 ⟨v9, rfl, HI2⟩)
          | (go_at_call 36; refine (sameBytes_any _ _ _ _ _ _ HI2 ⟨Bt.on HI.out HI2.out.below⟩ hil).mono ?_; rintro e w' ⟨rfl, rfl⟩))
      go_ret
      exact ⟨rfl, HB6.out.trans (HI2.out.below.mono HB6.out.size)⟩
    have h3i : ¬ (L : Int) < 98 := by omega
    have CF := format_ok b g N N ws1 w6 L n HP6 HNN.out.symm (by omega) hn
    go_upto_region 24 with (first
        | (go_at_call 35; refine CF.mono ?_; rintro e w7 ⟨rfl, HP7, HO7⟩)
        | (go_at_call 37; refine (refFormatted_any L n _ (by omega) hn).mono ?_; rintro e w8 ⟨gr, rfl, hgr, HR8, H8⟩))
    have HP8 := Lk.mk (HP7.out.keep (H8.out.block b HP7.out.size) (H8.out.block g HP7.out.row.size))
    have HRN : Lk (Nf.RN (w8.alloc (.cells #[.slice (some ⟨gr, 0, none⟩) (8 * L) (8 * L), .bool true] 47)) w8.heap.size gr (8 * L) (8 * L) (fmtW L (civ n)) true) :=
      ⟨⟨heap_alloc_new _ _, HR8.out.keep (Below.heap_alloc _ _ _ HR8.out.size), by have := HR8.out.size; omega⟩⟩
    have HP9 := Lk.mk (HP8.out.keep (w' := w8.alloc (.cells #[.slice (some ⟨gr, 0, none⟩) (8 * L) (8 * L), .bool true] 47)) (Below.heap_alloc _ _ _ HP8.out.size) (Below.heap_alloc _ _ _ HP8.out.row.size))
    have HB8 := Lk.mk (HO7.out.below_on HB6.out (fun k hk => by rcases hk with rfl | rfl <;> assumption) HB6.out.size)
    have HB9 := Lk.mk ((HB8.out.trans (H8.out.mono HB8.out.size)).alloc (HB8.out.trans (H8.out.mono HB8.out.size)).size (.cells #[.slice (some ⟨gr, 0, none⟩) (8 * L) (8 * L), .bool true] 47))
    clear CF HP7 HO7 H8 HR8 hgr HP8 HB8 CI2 HI HP6 HB6
    generalize w8.alloc _ = w9 at *
    generalize w8.heap.size = o at *
    have CI3 := image_any b g N N (fmtW L (civ n)) true w9 L HP9 HNN.out.symm (by omega) (by omega)
    go_wp2_with (first | (go_at_call 34; refine CI3.mono ?_; rintro e w10 ⟨v10, rfl, HI⟩))
    obtain ⟨A, c, rfl, hc, hLi⟩ := HI.out.form
    have CS := sameImage_any A _ _ c o gr (8 * L) (8 * L) (fmtW L (civ n)) true w10 L rfl ⟨hLi⟩ ⟨rfl⟩ ⟨HRN.out.keep (HI.out.below.block o HRN.out.size) (HI.out.below.block gr HRN.out.row.size)⟩ rfl (by omega) (by omega)
    go_wp2_with (first | (go_at_call 38; refine CS.mono ?_; rintro e w11 ⟨rfl, HB⟩))
    go_ret
    exact ⟨rfl, (HB9.out.trans (HI.out.below.mono HB9.out.size)).trans (HB.out.mono (HB9.out.trans (HI.out.below.mono HB9.out.size)).size)⟩

set_option maxRecDepth 100000 in
theorem lifted (os : Os) (started : os.Started) (H : Type) (enc : TypeId × Value → H) :
    ReturnsInHanded {} Try.checked os 5 .any (Rows.layoutFormatsSpec.pre6 enc Try.prog Try.f5 Rows.layoutFormatsRow.domain false) (Rows.layoutFormatsSpec.post enc Try.prog Try.f5 false true false false) := by
  refine returnsInHanded_of_change (C := Try.checked) own started (by kernel_rfl) Try.func5
    (ChangeSpec.witness6 (enc := enc) (C := Try.checked) false ⟨#[], #[.int .i64 0, .int .i64 0, .bool false, .slice none 0 0], []⟩ 8 (by kernel_rfl) (by kernel_rfl) (by kernel_rfl) (by kernel_rfl)) ?_
  intro W base args ds gs before hval0 hW hcnd _
  have hval : ∀ (j : Nat) t v, Try.f5.params[j]? = some t → args[j]? = some v → Value.okWide Try.prog W .any base t v := hval0
  have hW' := hW
  obtain ⟨p, q, hA0, hV, rfl, hfz, hnd⟩ := hW
  have hA : DataW.TrodAll enc Try.prog W 0 (fun _ => true) true Try.f5.params.toList args.toList ds p := hA0
  rw [Try.params5] at hA hval
  obtain ⟨v0, vs0, d0, ds0, p0, q0, hargs, rfl, rfl, h0, r0⟩ := trodAll_cons hA
  obtain ⟨v1, vs1, d1, ds1, p1, q1, rfl, rfl, rfl, h1, r1⟩ := trodAll_cons r0
  obtain ⟨v2, vs2, d2, ds2, p2, q2, rfl, rfl, rfl, h2, r2⟩ := trodAll_cons r1
  obtain ⟨v3, vs3, d3, ds3, p3, q3, rfl, rfl, rfl, h3, r3⟩ := trodAll_cons r2
  obtain ⟨rfl, rfl, rfl⟩ := trodAll_nil r3
  obtain rfl : args = #[v0, v1, v2, v3] := by cases args; simp_all
  obtain ⟨rfl, rfl⟩ := trodVars_none hV
  obtain ⟨a0, rfl, rfl, rfl, w0⟩ := open_int Try.underlying3 (hval 0 3 v0 rfl rfl) h0
  obtain ⟨a1, rfl, rfl, rfl, w1⟩ := open_int Try.underlying3 (hval 1 3 v1 rfl rfl) h1
  obtain ⟨a2, rfl, rfl, rfl⟩ := open_bool Try.underlying4 (hval 2 4 v2 rfl rfl) h2
  obtain ⟨a3, len3, cap3, rfl⟩ := okWide_slice Try.underlying36 (hval 3 36 v3 rfl rfl)
  have k3 := h3
  have lt3 : ∀ x ∈ p3, x.block < W.heap.size := by obtain ⟨m, hm⟩ := k3; exact DataW.trod_lt m _ _ _ hm
  obtain ⟨z3, w3⟩ : ∃ zs, IsRow .u64 W a3 len3 cap3 zs := by
    obtain ⟨fuel, hf⟩ := h3
    rcases open_ints Try.underlying36 Try.underlying23 (by kernel_rfl) hf with ⟨hcs, _⟩ | ⟨x, l, c, zs, hcs, _, hl, hm, hz, _, hcell, hwz⟩
    · simp [Value.cells] at hcs
      obtain ⟨rfl, rfl, rfl⟩ := hcs
      exact ⟨[], .inl ⟨rfl, rfl, rfl, rfl⟩⟩
    · simp [Value.cells] at hcs
      obtain ⟨rfl, rfl, rfl⟩ := hcs
      exact ⟨zs, .inr ⟨_, rfl, hl, hm, by simpa using hz, hcell, hwz⟩⟩
  clear hA0 hval0
  refine (walk a0 a1 a2 a3 len3 cap3 z3 W w0 w1 w3).mono fun e W' ⟨he, bel⟩ => ?_
  subst he
  exact ⟨_, rfl, _, _, _, [], _, [], hW', trodAll_mk1 (shut_bool Try.underlying4 _), (trodAll_cons_mk (shut_int Try.underlying3 w0) (trodAll_cons_mk (shut_int Try.underlying3 w1) (trodAll_cons_mk (shut_bool Try.underlying4 _) (trodAll_cons_mk (Below.trod laidOut (by kernel_rfl) (of_decide_eq_true (by kernel_rfl)) k3 bel lt3) trodAll_mk0)))), rfl, bel.frame _, fun h => by cases h⟩

theorem over : Rows.layoutFormatsRow.holds Try.pinned (OpenSpec.ofChange Rows.layoutFormatsSpec) :=
  OpenClaim.holds_of_wide 5 Try.f5 rfl rfl rfl rfl rfl rfl rfl ⟨rfl, rfl, rfl, rfl, rfl⟩ rfl rfl rfl rfl rfl (by kernel_rfl) Try.func5 (by kernel_rfl)
    (of_decide_eq_true (by kernel_rfl)) (by unfold Func.isWrapper; first | (rw [if_pos (by decide +kernel)]; kernel_rfl) | (rw [if_neg (by decide +kernel)]; exact ⟨rfl, rfl⟩))
    (fun os started H enc _ => lifted os started H enc)

/-- ████ THE STATEMENT ████ -/
theorem proved : Rows.LayoutFormatsSaid := over
end Go.Proofs.Ytadeghfhjiohnaa.layoutFormats

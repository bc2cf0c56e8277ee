/-
  For every input MemnodeReturns returns true, and each argument reads afterwards as before: package memnode keeps the document here. No condition.
-/
import Derived.Test.YtgjchfhgpfogjaaRows
import Derived.Test.YtgjchfhgpfogjaaNp
import Derived.WalkKit
import Derived.ProofKit
import Derived.OpenShut
import Derived.ShutString
import Derived.ChangeOld
import Derived.Below
namespace Go.Proofs.Ytgjchfhgpfogjaa.memnodeReturns
open Go.ChangeShapes Go.WideShapes Go.ChangeAt Go.RowKit Ga Na Nb Nc Nd_ Nk Nf Ng Nh No Np
set_option linter.unusedSimpArgs false
set_option linter.unusedVariables false

theorem own : ownKnob Try.prog.godebug = none := by kernel_rfl
theorem laidOut : laidOutB Try.prog = true := of_decide_eq_true (by kernel_rfl)

set_option maxRecDepth 100000 in
set_option maxHeartbeats 2000000 in
theorem walk (a0 : Option Addr) (len0 cap0 : Nat) (a1 : Int) (w : World) (w0 : IsOps w a0 len0 cap0) (w1 : (Lit.int .i64 a1).wf = true) :
    Calls Try.prog 7 #[.slice a0 len0 cap0, .int .i64 a1] w fun e w' => e = .returned (.bool true) ∧ Below w.heap.size w w' := by
  have hlen := w0.len
  have hwf := bounds_i64 w1
  by_cases h30 : len0 ≤ 30
  · go_enter Try.func7, Try.ntmps7
    go_wp2_with fail
    refine (new_ok 2 w (by decide) (by decide)).mono ?_
    rintro e v1 ⟨b, g, rfl, hb, hg, HN, HB⟩
    go_wp2_with fail
    refine (awake_any v1).mono ?_
    rintro e v2 ⟨rfl, hB2⟩
    have HN2 : Lk (PN v2 b g 16 16 (List.replicate 16 0) true) := ⟨HN.out.keep (hB2.block b HN.out.size) (hB2.block g HN.out.row.size)⟩
    have HB2 : Lk (Below w.heap.size w v2) := ⟨HB.out.trans (hB2.mono HB.out.size)⟩
    clear HN HB hB2
    go_wp2_with fail
    refine (refNew_any 2 v2 (by decide) (by decide)).mono ?_
    rintro e v3 ⟨gr, rfl, HG, HR, HB⟩
    have HX := pair_made (HN2.out.keep (HB.out.block b HN2.out.size) (HB.out.block g HN2.out.row.size)) HR.out (by have := HN2.out.size; have := HG.out; omega) (by have := HN2.out.row.size; have := HG.out; omega)
    have HP : Lk (Pr _ b g 16 _ gr 16 16 (List.replicate 16 0) true) := ⟨HX.1⟩
    have HB3 : Lk (Below w.heap.size w _) := ⟨HB2.out.trans ((HB.out.trans (HX.2.mono HB.out.size)).mono HB2.out.size)⟩
    have HO : Lk (∀ i, Of b g v3.heap.size gr i → w.heap.size ≤ i) := ⟨fun i hi => by
      have := hb.out
      have := hg.out
      have := HG.out
      have := HB2.out.size
      have := HB.out.size
      unfold Of at hi; omega⟩
    clear HX HB HB2 HN2 HR HG hb hg
    go_wp2_with fail
    generalize hW : v3.alloc (.cells #[.slice (some ⟨gr, 0, none⟩) 16 16, .bool true] 31) = W at *
    clear hW
    generalize v3.heap.size = br at *
    go_loopw [8] (fun i wr => ∃ (k : Nat) (ws : List Nat), k ≤ len0 ∧ i = .int .i64 k ∧ Lk (Pr wr b g 16 br gr 16 16 ws true) ∧ Lk (Below w.heap.size w wr)) (fun i _ => len0 - (intOf i).toNat)
    case atStart => exact ⟨0, _, by omega, rfl, HP, HB3⟩
    case round =>
      clear HP HB3
      obtain ⟨k, ws, hk, rfl, HP, HB⟩ := hrel
      by_cases hlt : k < len0
      · obtain ⟨p, rfl, hop⟩ := w0.at_ hlt
        have hop2 : OneOp wr p (k * 5) := by
          obtain ⟨q, a, c, x, y, e0, e1, e2, e3, e4, e5⟩ := hop
          exact ⟨q, a, c, x, y, (HB.out.cell (block_lt_of_cell e0)).trans e0, (HB.out.cell (block_lt_of_cell e1)).trans e1, (HB.out.cell (block_lt_of_cell e2)).trans e2, (HB.out.cell (block_lt_of_cell e3)).trans e3, (HB.out.cell (block_lt_of_cell e4)).trans e4, e5⟩
        obtain ⟨q, a, c, x, y, e0, e1, e2, e3, e4, q0, q1, a0, a1, c0, c1, hx, hy⟩ := hop2
        clear hop
        go_wp2_with fail
        have HB1 : Lk (Below w.heap.size w (wr.alloc (.cells #[.int .i64 q, .int .i64 a, .int .i64 c, .int .u64 x, .int .u64 y] 37))) := ⟨HB.out.alloc HB.out.size _⟩
        have HP1 : Lk (Pr (wr.alloc (.cells #[.int .i64 q, .int .i64 a, .int .i64 c, .int .u64 x, .int .u64 y] 37)) b g 16 br gr 16 16 ws true) := ⟨HP.out.on0 ((Below.refl _ wr).alloc (Nat.le_refl _) _)⟩
        refine (pick_any q 10 _ (by omega) (by omega) q0 q1).mono ?_
        rintro e w' ⟨rfl, rfl⟩
        by_cases h6 : pk q 10 < 6
        · have CD := do_any b g 16 br gr 16 16 ws true q a c x y _ HP1 (by decide) (by decide) q0 q1 a0 a1 c0 c1 hx hy
          generalize pk q 10 = m at *
          go_wp2_with fail
          refine CD.mono ?_
          rintro e w4 ⟨rfl, ws', up', HP4, HO4, Hup⟩
          obtain rfl := Hup.out h6
          have HB4 : Lk (Below w.heap.size w w4) := ⟨HO4.out.below_on HB1.out HO.out HB1.out.size⟩
          clear CD
          go_wp2_with fail
          go_roundw
          case rel => exact ⟨k + 1, _, by omega, by go_num, HP4, HB4⟩
          case measure => simp [intOf]; omega
        · generalize pk q 10 = m at *
          go_wp2_with fail
          go_roundw
          case rel => exact ⟨k + 1, _, by omega, by go_num, HP1, HB1⟩
          case measure => simp [intOf]; omega
      · obtain rfl : len0 = k := by omega
        go_wp2_with fail
        have HN1 : Lk (PN (wr.alloc (.cells #[.int .u64 1] 35)) b g 16 16 ws true) := ⟨(HP.out.on0 ((Below.refl _ wr).alloc (Nat.le_refl _) _)).p⟩
        have HB1 : Lk (Below w.heap.size w (wr.alloc (.cells #[.int .u64 1] 35))) := ⟨HB.out.alloc HB.out.size _⟩
        have hva : Lk ((wr.alloc (.cells #[.int .u64 1] 35)).cell? ⟨wr.heap.size, 0, none⟩ = some (.int .u64 ((1 : Nat) : Int))) := ⟨(cell_of_row _ wr.heap.size 0 _ _ _ (heap_alloc_new wr _)).trans rfl⟩
        have HOb : Lk (∀ i, i = b ∨ i = g → w.heap.size ≤ i) := ⟨fun i hi => HO.out i (hi.elim .inl (fun e => .inr (.inl e)))⟩
        have hlw := HP.out.p.row.len
        generalize wr.alloc (.cells #[.int .u64 1] 35) = V at *
        refine (write_ok b g 16 16 ws 1 ⟨wr.heap.size, 0, none⟩ [1] 1 1 V HN1 (by decide) rfl (by decide) (by decide) ⟨by decide⟩ ⟨fun i hi => by
          have h0 : i = 0 := (by omega)
          subst h0
          exact hva.out⟩).mono ?_
        rintro e v4 ⟨rfl, HN4, HO4⟩
        have e1 : putW ws 1 [1] = ws.set 1 1 := by
          have := putW_more (ws := ws) (j := 1) (l := [1]) (k := 0) (by simp; omega) (by simp)
          simpa [putW_nil] using this.symm
        rw [e1] at HN4
        have HB4 : Lk (Below w.heap.size w v4) := ⟨HO4.out.below_on HB1.out HOb.out HB1.out.size⟩
        clear HP HB HN1 HB1 hva HO4 e1 HO W v1 v2 v3
        have HL1 : Lk ((ws.set 1 1).length = 16) := ⟨by simp [hlw]⟩
        have HG1 : Lk ((ws.set 1 1).getD 1 0 = 1) := ⟨by simp [hlw]⟩
        clear hlw
        generalize ws.set 1 1 = us at *
        go_wp2_with fail
        refine (read_ok b g 16 16 us 0 16 v4 HN4 (by decide) (by decide) (by decide)).mono ?_
        rintro e v5 ⟨g5, cap5, rfl, HG5, HR5, HB5⟩
        have HR5' : Lk (Row v5 g5 16 cap5 us) := ⟨by have := HR5.out; rwa [List.drop_zero, List.take_of_length_le (Nat.le_of_eq HL1.out)] at this⟩
        have HN5 : Lk (PN v5 b g 16 16 us true) := ⟨HN4.out.keep (HB5.out.block b HN4.out.size) (HB5.out.block g HN4.out.row.size)⟩
        have hne5 : Lk (¬ (g5 = b ∨ g5 = g) ∧ w.heap.size ≤ g5) := ⟨by have h1 := HN4.out.size; have h2 := HN4.out.row.size; have h3 := HG5.out; omega, by have h1 := HB4.out.size; have h3 := HG5.out; omega⟩
        have HB5' : Lk (Below w.heap.size w v5) := ⟨HB4.out.trans (HB5.out.mono HB4.out.size)⟩
        clear HR5 HB5 HG5 HN4 HB4
        have hm5 := pk_lt a1 5 (by omega)
        have HPK := Lib.hid (fun wx => pick_any a1 5 wx (by omega) (by omega) hwf.1 hwf.2)
        generalize pk a1 5 = m at *
        have HU : Lk (us.set 1 (1 + 0) = us) := ⟨by
          apply List.ext_getElem?
          intro i
          rw [List.getElem?_set]
          by_cases hi : 1 = i
          · subst hi
            have := HG1.out
            have hl := HL1.out
            rw [List.getD_eq_getElem?_getD] at this
            simp [hl]
            have h16 : (1 : Nat) < us.length := by omega
            simp [h16] at this ⊢
            omega
          · rw [if_neg hi]⟩
        go_wp2_with fail
        go_loopw [12] (fun i wr => ∃ j : Nat, j ≤ m + 1 ∧ i = .int .i64 j ∧ Lk (PN wr b g 16 16 (us.set 1 (1 + j)) true) ∧ Lk (Row wr g5 16 cap5 us) ∧ Lk (Below w.heap.size w wr)) (fun i _ => m + 1 - (intOf i).toNat)
        case atStart => exact ⟨0, by omega, rfl, by rw [HU.out]; exact HN5, HR5', HB5'⟩
        case round =>
          clear HN5 HR5' HB5'
          obtain ⟨j, hj, rfl, HN, HR, HB⟩ := hrel
          by_cases hlt2 : j < m + 1
          · go_wp2_with fail
            refine (HPK.out _).mono ?_
            rintro e w' ⟨rfl, rfl⟩
            go_wp2_with fail
            refine (fail_any b g 16 16 _ true _ HN).mono ?_
            rintro e x1 ⟨rfl, HN1, HO1⟩
            have e4 : codeOf false 16 0 1 = 4 := by decide
            have CR := read_no b g 16 16 _ false 0 1 x1 HN1 (by decide) (by decide) (by decide) (by decide) (by decide) (by decide)
            have CC := cas_no b g 16 16 _ false 0 0 1 x1 HN1 (by decide) (by decide) (by decide) (by decide)
            have CA := add_no b g 16 16 _ false 0 1 x1 HN1 (by decide) (by decide) (by decide) (by decide)
            rw [e4] at CR CC CA
            have HB1 : Lk (Below w.heap.size w x1) := ⟨HO1.out.below_on HB.out (fun i hi => HOb.out i (.inl hi)) HB.out.size⟩
            have HR1 : Lk (Row x1 g5 16 cap5 us) := ⟨HR.out.on HO1.out (fun e => hne5.out.1 (.inl e))⟩
            clear HN HR HB HO1 e4
            have HG : Lk ((us.set 1 (1 + j)).getD 1 0 = 1 + j) := ⟨by have := HL1.out; simp [this]⟩
            go_wp2_with (first
              | (go_at_call 18; refine CR.mono ?_; rintro e w' ⟨rfl, rfl⟩)
              | (go_at_call 24; refine CC.mono ?_; rintro e w' ⟨rfl, rfl⟩)
              | (go_at_call 25; refine CA.mono ?_; rintro e w' ⟨rfl, rfl⟩))
            clear CR CC CA
            have HN2 : Lk (PN (x1.alloc (.cells #[.int .u64 9] 35)) b g 16 16 (us.set 1 (1 + j)) false) := ⟨HN1.out.keep (Below.heap_alloc x1 _ b HN1.out.size) (Below.heap_alloc x1 _ g HN1.out.row.size)⟩
            have HB2 : Lk (Below w.heap.size w (x1.alloc (.cells #[.int .u64 9] 35))) := ⟨HB1.out.alloc HB1.out.size _⟩
            have HR2 : Lk (Row (x1.alloc (.cells #[.int .u64 9] 35)) g5 16 cap5 us) := ⟨HR1.out.keep (Below.heap_alloc x1 _ g5 HR1.out.size)⟩
            generalize x1.alloc (.cells #[.int .u64 9] 35) = x2 at *
            clear HN1 HB1 HR1
            have CW := write_no b g 16 16 _ false 0 (some ⟨x1.heap.size, 0, none⟩) 1 1 x2 HN2 (by decide) (by decide) (by decide) (by decide) (by decide)
            have e4 : codeOf false 16 0 ((1 : Nat) : Int) = 4 := by decide
            rw [e4] at CW
            clear e4
            have CU := up_any b g 16 16 _ false x2 HN2
            have CB := back_any b g 16 16 _ false x2 HN2 (by decide) (by decide)
            have e5 : canBack false ((us.set 1 (1 + j)).getD 1 0) = true := by rw [HG.out]; unfold canBack; simp; omega
            have e6 : backW false (us.set 1 (1 + j)) = us.set 1 (1 + (j + 1)) := by
              unfold backW
              rw [e5, if_pos rfl, HG.out, List.set_set]
              rfl
            rw [e5, e6] at CB
            clear e5 e6
            go_wp2_with (first
              | (go_at_call 22; refine CW.mono ?_; rintro e w' ⟨rfl, rfl⟩)
              | (go_at_call 13; refine CU.mono ?_; rintro e w' ⟨rfl, rfl⟩))
            refine CB.mono ?_
            clear CB CU CW
            rintro e x3 ⟨rfl, HN3, HO3⟩
            have HB3 : Lk (Below w.heap.size w x3) := ⟨HO3.out.below_on HB2.out HOb.out HB2.out.size⟩
            have HR3 : Lk (Row x3 g5 16 cap5 us) := ⟨HR2.out.on HO3.out hne5.out.1⟩
            clear HN2 HB2 HR2 HO3
            have CB := back_any b g 16 16 _ true x3 HN3 (by decide) (by decide)
            go_wp2_with fail
            refine CB.mono ?_
            clear CB
            rintro e x4 ⟨rfl, HN4, HO4⟩
            have HN4' : Lk (PN x4 b g 16 16 (us.set 1 (1 + (j + 1))) true) := HN4
            have HB4 : Lk (Below w.heap.size w x4) := ⟨HO4.out.below_on HB3.out HOb.out HB3.out.size⟩
            have HR4 : Lk (Row x4 g5 16 cap5 us) := ⟨HR3.out.on HO4.out hne5.out.1⟩
            clear HN3 HB3 HR3 HO4 HN4
            have e7 : ∀ v, canBack true v = false := fun _ => rfl
            rw [e7]
            clear e7
            go_wp2_with fail
            go_roundw
            case rel => exact ⟨j + 1, by omega, by go_num, HN4', HR4, HB4⟩
            case measure => simp [intOf]; omega
          · obtain rfl : m + 1 = j := by omega
            go_wp2_with fail
            refine (HPK.out _).mono ?_
            rintro e w' ⟨rfl, rfl⟩
            go_wp2_with fail
            refine (read_ok b g 16 16 _ 0 16 _ HN (by decide) (by decide) (by decide)).mono ?_
            rintro e v6 ⟨g6, cap6, rfl, HG6, HR6, HB6⟩
            have HX : Lk (Row v6 g6 16 cap6 (us.set 1 (1 + (m + 1)))) := ⟨by have := HR6.out; rwa [List.drop_zero, List.take_of_length_le (by simp [HL1.out])] at this⟩
            have HR5 : Lk (Row v6 g5 16 cap5 us) := ⟨HR.out.keep (HB6.out.block g5 HR.out.size)⟩
            have HB7 : Lk (Below w.heap.size w v6) := ⟨HB.out.trans (HB6.out.mono HB.out.size)⟩
            have hne6 : Lk (g5 ≠ g6 ∧ w.heap.size ≤ g6) := ⟨by have h1 := HR.out.size; have h3 := HG6.out; omega, by have h1 := HB.out.size; have h3 := HG6.out; omega⟩
            clear HR6 HB6 HG6 HN HR HB
            have hc := HX.out.cell (j := 1) (by decide)
            rw [show (us.set 1 (1 + (m + 1))).getD 1 0 = m + 2 by have := HL1.out; simp [this]; omega] at hc
            go_wp2_with fail
            go_quiet ((go_at_call 8; exact Calls.quiet_of_same ((HPK.out _).mono fun e w1 h => ⟨h.1, h.2.symm⟩)))
            have HX7 : Lk (Row (v6.drewN nq) g6 16 cap6 (us.set 1 (1 + (m + 1)))) := ⟨HX.out.keep rfl⟩
            have HR7 : Lk (Row (v6.drewN nq) g5 16 cap5 us) := ⟨HR5.out.keep rfl⟩
            have HB8 : Lk (Below w.heap.size w (v6.drewN nq)) := ⟨HB7.out.trans ⟨rfl, rfl, rfl, Nat.le_refl _, fun _ _ => rfl⟩⟩
            generalize v6.drewN nq = v7 at *
            clear hc HX HR5 HB7 v6
            have hc := HX7.out.cell (j := 1) (by decide)
            have hf := HX7.out.free 1
            have hw := HR7.out.cell (j := 1) (by decide)
            rw [HG1.out] at hw
            have HX8 : Lk (Row (v7.setCell ⟨g6, 1, none⟩ (.int .u64 ((1 : Nat) : Int))) g6 16 cap6 us) := ⟨by
              have := HX7.out.set 1 1 (by decide)
              rw [List.set_set] at this
              have h2 := HU.out
              rw [Nat.add_zero] at h2
              rwa [h2] at this⟩
            have HR8 : Lk (Row (v7.setCell ⟨g6, 1, none⟩ (.int .u64 ((1 : Nat) : Int))) g5 16 cap5 us) := ⟨HR7.out.keep (Below.heap_setCell v7 ⟨g6, 1, none⟩ _ g5 hne6.out.1)⟩
            have HB9 : Lk (Below w.heap.size w (v7.setCell ⟨g6, 1, none⟩ (.int .u64 ((1 : Nat) : Int)))) := ⟨HB8.out.setCell (p := ⟨g6, 1, none⟩) hne6.out.2 _⟩
            go_wp2_with fail
            refine (same_any ⟨g5, 0, none⟩ ⟨g6, 0, none⟩ us 16 cap5 cap6 _ (by decide) ⟨fun i hi => by rw [add_zero_]; exact HR8.out.cell hi⟩ ⟨fun i hi => by rw [add_zero_]; exact HX8.out.cell hi⟩).mono ?_
            rintro e v9 ⟨rfl, HB10⟩
            go_wp2_with fail
            go_ret
            exact ⟨rfl, HB9.out.trans (HB10.out.mono HB9.out.size)⟩
  · go_enter Try.func7, Try.ntmps7
    go_wp2
    go_ret
    exact ⟨rfl, Below.refl _ _⟩

set_option maxRecDepth 100000 in
theorem lifted (os : Os) (started : os.Started) (H : Type) (enc : TypeId × Value → H) :
    ReturnsInHanded {} Try.checked os 7 .any (Rows.memnodeReturnsSpec.pre6 enc Try.prog Try.f7 Rows.memnodeReturnsRow.domain false) (Rows.memnodeReturnsSpec.post enc Try.prog Try.f7 false true false false) := by
  refine returnsInHanded_of_change (C := Try.checked) own started (by kernel_rfl) Try.func7
    (ChangeSpec.witness6 (enc := enc) (C := Try.checked) false ⟨#[], #[.slice none 0 0, .int .i64 0], []⟩ 8 (by kernel_rfl) (by kernel_rfl) (by kernel_rfl) (by kernel_rfl)) ?_
  intro W base args ds gs before hval0 hW hcnd _
  have hval : ∀ (j : Nat) t v, Try.f7.params[j]? = some t → args[j]? = some v → Value.okWide Try.prog W .any base t v := hval0
  have hW' := hW
  obtain ⟨p, q, hA0, hV, rfl, hfz, hnd⟩ := hW
  have hA : DataW.TrodAll enc Try.prog W 0 (fun _ => true) true Try.f7.params.toList args.toList ds p := hA0
  rw [Try.params7] at hA hval
  obtain ⟨v0, vs0, d0, ds0, p0, q0, hargs, rfl, rfl, h0, r0⟩ := trodAll_cons hA
  obtain ⟨v1, vs1, d1, ds1, p1, q1, rfl, rfl, rfl, h1, r1⟩ := trodAll_cons r0
  obtain ⟨rfl, rfl, rfl⟩ := trodAll_nil r1
  obtain rfl : args = #[v0, v1] := by cases args; simp_all
  obtain ⟨rfl, rfl⟩ := trodVars_none hV
  obtain ⟨a0, len0, cap0, rfl⟩ := okWide_slice Try.underlying22 (hval 0 22 v0 rfl rfl)
  have k0 := h0
  have lt0 : ∀ x ∈ p0, x.block < W.heap.size := by obtain ⟨m, hm⟩ := k0; exact DataW.trod_lt m _ _ _ hm
  have w0 : IsOps W a0 len0 cap0 := by
    obtain ⟨fuel, hf⟩ := h0
    exact ops_of hf
  obtain ⟨a1, rfl, rfl, rfl, w1⟩ := open_int Try.underlying3 (hval 1 3 v1 rfl rfl) h1
  clear hA0 hval0
  refine (walk a0 len0 cap0 a1 W w0 w1).mono fun e W' ⟨he, bel⟩ => ?_
  subst he
  exact ⟨_, rfl, _, _, _, [], _, [], hW', trodAll_mk1 (shut_bool Try.underlying4 _), (trodAll_cons_mk (Below.trod laidOut (by kernel_rfl) (of_decide_eq_true (by kernel_rfl)) k0 bel lt0) (trodAll_cons_mk (shut_int Try.underlying3 w1) trodAll_mk0)), rfl, bel.frame _, fun h => by cases h⟩

theorem over : Rows.memnodeReturnsRow.holds Try.pinned (OpenSpec.ofChange Rows.memnodeReturnsSpec) :=
  OpenClaim.holds_of_wide 7 Try.f7 rfl rfl rfl rfl rfl rfl rfl ⟨rfl, rfl, rfl, rfl, rfl⟩ rfl rfl rfl rfl rfl (by kernel_rfl) Try.func7 (by kernel_rfl)
    (of_decide_eq_true (by kernel_rfl)) (by unfold Func.isWrapper; first | (rw [if_pos (by decide +kernel)]; kernel_rfl) | (rw [if_neg (by decide +kernel)]; exact ⟨rfl, rfl⟩))
    (fun os started H enc _ => lifted os started H enc)

/-- ████ THE STATEMENT ████ -/
theorem proved : Rows.MemnodeReturnsSaid := over
end Go.Proofs.Ytgjchfhgpfogjaa.memnodeReturns

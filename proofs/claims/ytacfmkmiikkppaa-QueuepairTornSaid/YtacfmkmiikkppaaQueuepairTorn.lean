/-
  For every input QueuepairTorn returns true, and each argument reads afterwards as before: package queuepair keeps the document here. No condition.
-/
import Derived.Test.YtacfmkmiikkppaaRows
import Derived.Test.YtacfmkmiikkppaaTm
import Derived.WalkKit
import Derived.ProofKit
import Derived.OpenShut
import Derived.ShutString
import Derived.ChangeOld
import Derived.Below
namespace Go.Proofs.Ytacfmkmiikkppaa.queuepairTorn
open Go.ChangeShapes Go.WideShapes Go.ChangeAt Go.RowKit Ga Gb Na Nb Nc Nd_ Va Ve Vf Vg Vh Qa Qb Ta Tb Tc Td Te Tf Tg Th Ti Tj Tk Tl_ Tm
set_option linter.unusedSimpArgs false
set_option linter.unusedVariables false

theorem own : ownKnob Try.prog.godebug = none := by kernel_rfl
theorem laidOut : laidOutB Try.prog = true := of_decide_eq_true (by kernel_rfl)

set_option maxRecDepth 100000 in
set_option maxHeartbeats 4000000 in
theorem walk (a0 : Int) (a1 : Int) (a2 : Int) (a3 : Int) (w : World) (w0 : (Lit.int .i64 a0).wf = true) (w1 : (Lit.int .i64 a1).wf = true) (w2 : (Lit.int .i64 a2).wf = true) (w3 : (Lit.int .u64 a3).wf = true) :
    Calls Try.prog 6 #[.int .i64 a0, .int .i64 a1, .int .i64 a2, .int .u64 a3] w fun e w' => e = .returned (.bool true) ∧ Below w.heap.size w w' := by
  have hw0 := bounds_i64 w0
  have hw1 := bounds_i64 w1
  have hw2 := bounds_i64 w2
  have hw3 := bounds_u64 w3
  obtain ⟨sd, rfl⟩ := Int.eq_ofNat_of_zero_le hw3.1
  have hsd : sd < 18446744073709551616 := by omega
  have C0 := fun W => pick_any a0 100 W (by decide) (by decide) (by omega) (by omega)
  have C1 := fun W => pick_any a1 60 W (by decide) (by decide) (by omega) (by omega)
  have p0 := pk_lt a0 100 (by omega)
  have p1 := pk_lt a1 60 (by omega)
  have CF := fresh_any 0 1 w (by decide) (by decide) (by decide) (by decide)
  rw [show pk 0 6 = 0 from rfl, show pk 1 4 = 1 from rfl] at CF
  have CA := Lk.mk (fun W => awake_any W)
  have CPk := Lk.mk (fun W (k : Int) (h : 1 ≤ k) (h2 : k ≤ 4294967296) => pick_any a2 k W h h2 (by omega) (by omega))
  generalize pk a0 100 = fr at *
  generalize pk a1 60 = nn at *
  go_enter Try.func6, Try.ntmps6
  go_upto_region 3 with (first
    | (go_at_call 13; (with_reducible refine (C0 _).mono ?_); rintro e w' ⟨rfl, rfl⟩)
    | (go_at_call 13; (with_reducible refine (C1 _).mono ?_); rintro e w' ⟨rfl, rfl⟩)
    | (go_at_call 8; refine CF.mono ?_; rintro e w1 ⟨F, x, rfl, HS, HF, HB1⟩; unfold pairV))
  have HX2 := Lk.mk (show Xb _ w1.heap.size x from heap_alloc_new w1 _)
  have hB2 := (Below.refl _ w1).alloc (Nat.le_refl _) (.cells #[.pointer (some ⟨x.bp, 0, none⟩), .pointer (some ⟨x.bn, 0, none⟩), .pointer (some ⟨x.rb, 0, none⟩), .pointer (some ⟨x.rn, 0, none⟩)] 28)
  have hs2 : w1.heap.size < (w1.alloc (.cells #[.pointer (some ⟨x.bp, 0, none⟩), .pointer (some ⟨x.bn, 0, none⟩), .pointer (some ⟨x.rb, 0, none⟩), .pointer (some ⟨x.rn, 0, none⟩)] 28)).heap.size := by simp
  have HB2 := Lk.mk (HB1.out.trans (hB2.mono HB1.out.size))
  have HPP := Lk.mk (HS.out.pp.below hB2)
  have HPN := Lk.mk (Nd.below HS.out.pn hB2)
  have HFf := Lk.mk (show (F x.bn ∧ F x.gn) ∧ (∀ k, F k → k < w1.heap.size) ∧ (x.bp < w1.heap.size ∧ x.bn < w1.heap.size ∧ x.gn < w1.heap.size) from ⟨HS.out.ff.1, HS.out.fb, HS.out.pp.lt, HS.out.pn.size, HS.out.pn.row.size⟩)
  clear hB2 HS CF HB1
  rw [show (40 : Int) + fr = ((40 + fr : Nat) : Int) from by omega, show (nn : Int) + 1 = ((nn + 1 : Nat) : Int) from by omega]
  have hfr : 40 ≤ 40 + fr ∧ 40 + fr < 140 := by omega
  have hnn : 1 ≤ nn + 1 ∧ nn + 1 ≤ 60 := by omega
  generalize 40 + fr = fm at *
  generalize nn + 1 = n at *
  generalize w1.heap.size = gx at *
  generalize w1.alloc _ = w2 at *
  clear p0 p1 C0 C1 hw0 hw1 w0 w1 w3
  obtain ⟨i0, hi, hz0, hz1, hz2⟩ := info_parts u64info
  go_upto_region 6 with (first
    | (go_at_call 9; refine (CA.out _).mono ?_; rintro e w3 ⟨rfl, HB3⟩)
    | (at_make; refine wpList_make_full _ rfl _ _ 49 rfl w3.heap.size 33 i0 (.int .u64 0) 1 Try.underlying49 hi hz0 hz1 .i64 .i64 _ _ n rfl rfl rfl rfl ?b2 ?b3 (Nat.le_refl _) ?_))
  case b2 => rw [hz2]; omega
  case b3 => unfold maxLen; omega
  intro w4 hown hgrow
  have HR4 : Lk (Row w4 w3.heap.size n n (fillW sd n 0)) := ⟨by rw [fill_zero]; exact Row.made (by simpa [Value.cells] using hown)⟩
  have HB4 := Lk.mk (HB3.out.trans ((below_none hgrow).mono HB3.out.size))
  have hs4 : w3.heap.size < w4.heap.size := HR4.out.size
  have hs3 : w2.heap.size ≤ w3.heap.size := HB3.out.size
  clear hown hgrow HB3
  generalize w3.heap.size = gw at *
  go_wp2
  go_loopw [12] (fun u wr => ∃ k : Nat, k ≤ n ∧ u = .int .i64 k ∧ Lk (Row wr gw n n (fillW sd n k)) ∧ Lk (Below w2.heap.size w2 wr)) (fun u _ => n - (intOf u).toNat)
  case atStart => exact ⟨0, by omega, rfl, HR4, HB4⟩
  case round =>
    obtain ⟨k, hk, rfl, HRk, HBk⟩ := hrel
    by_cases hlt : k < n
    · have hc := HRk.out.cell hlt
      have hf := HRk.out.free k
      have hw : (sd + k) % 18446744073709551616 < 18446744073709551616 := Nat.mod_lt _ (by omega)
      have HS := Lk.mk (HRk.out.set k ((sd + k) % 18446744073709551616) hw)
      rw [fill_next hlt] at HS
      have e : IntKind.u64.wrap ((sd : Int) + k) = (((sd + k) % 18446744073709551616 : Nat) : Int) := by simp [IntKind.wrap, IntKind.signed, IntKind.bits]
      have e2 : ((sd : Int) + k) % 18446744073709551616 = (((sd + k) % 18446744073709551616 : Nat) : Int) := by omega
      have HE := Lk.mk e
      have HE2 := Lk.mk e2
      clear e e2
      go_wp2
      go_roundw
      case rel =>
        refine ⟨k + 1, by omega, by go_num, ?_, ⟨?_⟩⟩
        · first | exact HS | (rw [HE.out]; exact HS) | (rw [HE2.out]; exact HS)
        · exact HBk.out.setCell (p := ⟨gw, k, none⟩) (by show w2.heap.size ≤ gw; omega) _
      case measure => simp [intOf]; omega
    · obtain rfl : n = k := by omega
      rw [fill_all] at HRk
      have hgwv : gw < wr.heap.size := HRk.out.size
      have hBr := HBk.out
      have hB5 := (Below.refl _ wr).alloc (Nat.le_refl _) (.cells #[Value.int IntKind.i64 2, Value.int IntKind.i64 0, Value.int IntKind.i64 fm, Value.int IntKind.i64 0, Value.int IntKind.u64 0, Value.int IntKind.u64 0, Value.slice ((some ⟨gw, 0, none⟩)) n n, Value.int IntKind.u64 1, Value.int IntKind.i64 1] 52)
      have HV5 := Lk.mk (heap_alloc_new wr (.cells #[Value.int IntKind.i64 2, Value.int IntKind.i64 0, Value.int IntKind.i64 fm, Value.int IntKind.i64 0, Value.int IntKind.u64 0, Value.int IntKind.u64 0, Value.slice ((some ⟨gw, 0, none⟩)) n n, Value.int IntKind.u64 1, Value.int IntKind.i64 1] 52))
      have hBw := hBr.trans (hB5.mono hBr.size)
      have HP5 := Lk.mk (HPP.out.below hBw)
      have HN5 := Lk.mk (Nd.below HPN.out hBw)
      have HX5 := Lk.mk (HX2.out.below hBw)
      have HR5 := Lk.mk (HRk.out.keep (hB5.block gw HRk.out.size))
      have HB5 := Lk.mk (HB2.out.trans (hBw.mono HB2.out.size))
      have hsz := hBr.size
      have hs5 : wr.heap.size < (wr.alloc (.cells #[Value.int IntKind.i64 2, Value.int IntKind.i64 0, Value.int IntKind.i64 fm, Value.int IntKind.i64 0, Value.int IntKind.u64 0, Value.int IntKind.u64 0, Value.slice ((some ⟨gw, 0, none⟩)) n n, Value.int IntKind.u64 1, Value.int IntKind.i64 1] 52)).heap.size := by simp
      have HB2w := Lk.mk (show F x.bp ∧ w.heap.size ≤ gx from ⟨HP5.out.f, by have := HF.out x.bp HP5.out.f; have := HFf.out.2.2; omega⟩)
      clear hBr hB5 hBw HBk HRk HR4 HB4 HB2 HPP HPN HX2 hi hz0 hz1 hz2 hw3 hk hlt
      go_upto_region 11 with fail
      generalize hgv : wr.heap.size = gv at *
      generalize wr.alloc _ = w5 at *
      have CP := post_ok F x.bp 0 1 (.slice none 0 0) [] 0 none 0 [] 2 0 fm 0 0 0 (some ⟨gw, 0, none⟩) n 1 1 (rawW sd n) 40 w5 HP5 (by show 0 < 1024; omega) (by rw [rawW_len]; unfold cnt; rw [if_neg (by decide), if_pos rfl]; omega) (by
        have := wv_valid (fm := fm) (n := n) (L := 40) hnn.1 hfr.1 (by omega) (by omega) hnn.2
        rw [rawW_len]
        exact this) ⟨HR5.out.lies⟩ ⟨⟨by rw [rawW_len]; omega, rawW_lt sd n⟩⟩ ⟨fun ad h => by intro h2; cases h2⟩ ⟨fun k hk hh => by have := HFf.out.2.1 k hh; have := HP5.out.lt; omega⟩
      rw [rawW_len] at CP
      obtain ⟨b0, b1, b2, b3, b4, b5, b6, b7, b8⟩ := Bx.of_heap HV5.out
      obtain ⟨x0, x1, x2, x3⟩ := HX5.out.c
      go_upto_region 13 with (first
        | (go_at_call 19; refine CP.mono ?_; rintro e w6 ⟨F6, V6, A6, c6, rfl, HP6, HO6, HG6, HF6, HE6⟩))
      have hbpl := HFf.out.2.2
      have HX6 := Lk.mk (HX5.out.on HO6.out (fun hh => hh.elim (fun e => by omega) (fun e => by cases e)))
      have HV6 := Lk.mk ((HO6.out.block gv hs5 (fun hh => hh.elim (fun e => by omega) (fun e => by cases e))).trans HV5.out)
      have HR6 := Lk.mk (HR5.out.on HO6.out (fun hh => hh.elim (fun e => by omega) (fun e => by cases e)))
      have HN6 := Lk.mk (HN5.out.on HO6.out (fun hh => hh.elim (fun e => ne_typed HN5.out.node HP5.out.z (by decide) e) (fun e => by cases e)) (fun hh => hh.elim (fun e => by obtain ⟨cur, hc⟩ := Row.typed HN5.out.row; exact ne_typed hc HP5.out.z (by decide) e) (fun e => by cases e)))
      have HO6w := Lk.mk (HB5.out.trans (HO6.out.to_below (B := w.heap.size) (fun k hk => hk.elim (fun e => by subst e; have := HF.out x.bp HP5.out.f; omega) (fun e => by cases e)) HB5.out.size))
      have HF6' : Lk ((F6 x.bn ∧ F6 x.gn) ∧ ∀ k, F6 k → k < w6.heap.size) := ⟨⟨HG6.out.sub _ HFf.out.1.1, HG6.out.sub _ HFf.out.1.2⟩, fun k hk => (HG6.out.new k hk).elim (fun h => by have := HFf.out.2.1 k h; have := HN6.out.size; have := HO6.out.size; have := HP5.out.lt; have := HX5.out.lt; omega) (fun h => h.2)⟩
      have HV6b := Lk.mk (show ∀ k, V6.ownBlock = some k → gv < k ∧ k < w6.heap.size from fun k hk => by
        have hl := HP6.out.own.lt k hk
        rcases HE6.out with h | h
        · rw [h] at hk; cases hk
        · have := h k hk; omega)
      clear HX5 HV5 HR5 HB5 HG6 HF6 CP b0 b1 b2 b3 b4 b5 b6 b7 b8 x0 x1 x2 x3
      obtain ⟨b0, b1, b2, b3, b4, b5, b6, b7, b8⟩ := Bx.of_heap HV6.out
      have CPs := PiecesR_ok 2 0 0 0 0 fm n (some ⟨gw, 0, none⟩) n n 1 1 w6 (by unfold cnt; rw [if_neg (by decide), if_pos rfl]) hnn.1 (by omega)
      go_upto_region 14 with (first
        | (go_at_call 23; refine CPs.mono ?_; rintro e w7 ⟨vl, rfl, HL7, HB7⟩))
      clear b0 b1 b2 b3 b4 b5 b6 b7 b8 HV6 CPs
      obtain ⟨gl, cl, hvl⟩ : ∃ gl cl, vl = .slice (some ⟨gl, 0, none⟩) (numP fm (fm + n)) cl := by
        rcases HL7.out.2 with ⟨_, h0⟩ | ⟨gl, cl, cur, e, _⟩
        · unfold numP at h0; omega
        · exact ⟨gl, cl, e⟩
      subst hvl
      have hN := wv_n fm sd n
      have hNp : 1 ≤ numP fm (fm + n) ∧ numP fm (fm + n) ≤ 60 := by unfold numP; omega
      have HX7 := Lk.mk (HX6.out.below HB7.out)
      have HR7 := Lk.mk (HR6.out.keep (HB7.out.block gw HR6.out.size))
      have HW7 : Lk (Wr w7 w7 x V6.ownBlock [⟨wv fm sd n, A6, c6⟩] 0 (wsI wsF (wv fm sd n) 0) true) := ⟨by
        rw [wsI_zero]
        exact ⟨⟨F6, V6, none, 0, HP6.out.below HB7.out, rfl, HF6'.out.1, (fun g hg => by cases hg), fun k hk => Nat.lt_of_lt_of_le (HF6'.out.2 k hk) HB7.out.size⟩, Nd.below HN6.out HB7.out, Only.refl _ _, Nat.lt_of_lt_of_le HN6.out.row.size HB7.out.size⟩⟩
      have HB7w := Lk.mk (HO6w.out.trans (HB7.out.mono HO6w.out.size))
      have HLb := Lk.mk (show w6.heap.size ≤ gl ∧ gl < w7.heap.size from HL7.out.lt gl rfl)
      have hord : gv < w6.heap.size ∧ gx < w6.heap.size ∧ x.bn < w6.heap.size ∧ x.gn < w6.heap.size := ⟨Nat.lt_of_lt_of_le hs5 HO6.out.size, HX6.out.lt, HN6.out.size, HN6.out.row.size⟩
      clear HX6 HR6 HP6 HN6 HO6 HE6 HB7 HO6w HF6' hs5
      go_upto_region 16 with (first
        | (go_at_call 13; refine (CPk.out _ _ (by omega) (by omega)).mono ?_; rintro e w8 ⟨rfl, rfl⟩))
      have haf : (pk a2 (numP fm (fm + n) : Nat) : Int) < (numP fm (fm + n) : Nat) := pk_lt _ _ (by omega)
      generalize pk a2 (numP fm (fm + n) : Nat) = af at *
      have HP_ := Lk.mk (rfl : (⟨wv fm sd n, A6, c6⟩ : Pq) = ⟨wv fm sd n, A6, c6⟩)
      go_loopw [15] (fun u wr => ∃ i : Nat, i ≤ af ∧ u = .int .i64 i ∧ Lk (Wr w7 wr x V6.ownBlock [⟨wv fm sd n, A6, c6⟩] i (wsI wsF (wv fm sd n) i) true)) (fun u _ => af - (intOf u).toNat)
      case atStart => exact ⟨0, by omega, rfl, HW7⟩
      case round =>
        obtain ⟨i, hi, rfl, HWi⟩ := hrel
        have HXi := Lk.mk (HX7.out.on HWi.out.only (fun hh => by
          rcases hh with e | e | e | e
          · omega
          · have := HV6b.out _ e; omega
          · omega
          · omega))
        by_cases hlt : i < af
        · obtain ⟨x0, x1, _, _⟩ := HXi.out.c
          have CS := wr_step HWi ⟨wv_ok hnn.1 hfr.1 (by omega) hnn.2⟩ rfl (wsI_code hnn.1 hfr.1 (by omega) hnn.2 (by rw [hN]; omega)) (by show i < nP (wv fm sd n); rw [hN]; omega)
          have HN2 := Lk.mk (wsI_next (ws := wsF) (i := i) (wv_ok (fm := fm) (sd := sd) (n := n) hnn.1 hfr.1 (by omega) hnn.2) rfl (by rw [hN]; omega) (by rw [wv_a, wv_c, wsF_len]; omega))
          rw [HN2.out] at CS
          go_upto_region 17 with (first
            | (go_at_call 20; refine CS.mono ?_; rintro e w9 (⟨_, rfl, HW9⟩ | ⟨h9, _⟩); rotate_left; (exact absurd (show i + 1 = nP (wv fm sd n) from h9) (by rw [hN]; omega))))
          go_wp2
          go_roundw
          case rel => exact ⟨i + 1, by omega, by go_num, ⟨HW9.out.on ((Below.refl _ _).alloc (Nat.le_refl _) _)⟩⟩
          case measure => simp [intOf]; omega
        · obtain rfl : af = i := by omega
          obtain ⟨x0, x1, _, _⟩ := HXi.out.c
          go_upto_region 22 with (first
            | (go_at_call 24; refine (fail_any x.bn x.gn 320 x.cp _ true wr ⟨HWi.out.pn⟩).mono ?_; rintro e wf ⟨rfl, HNf, HOf⟩))
          have HWf := Lk.mk (HWi.out.onS HOf.out (fun k hk => .inl hk) _ false HNf.out)
          have HXf := Lk.mk (HXi.out.on HOf.out (fun hh => by omega))
          have CG := wr_gone HWf ⟨wv_ok hnn.1 hfr.1 (by omega) hnn.2⟩
          clear x0 x1
          obtain ⟨x0, x1, _, _⟩ := HXf.out.c
          go_upto_region 23 with (first
            | (go_at_call 20; refine CG.mono ?_; rintro e wg ⟨rfl, HNg, HOg⟩))
          have hBh := (Below.refl _ wg).alloc (Nat.le_refl _) (.cells #[.int .i64 4, .slice none 0 0] 54)
          have HOh := Lk.mk (((HWf.out.only.trans (HOg.out.mono (fun k hk => hk.elim .inl (fun e => .inr (.inl e))))).trans (Only.of_below hBh)))
          have HNh := Lk.mk (Nd.below HNg.out hBh)
          have z0 := (cell_of_row _ wg.heap.size 0 _ _ _ (heap_alloc_new wg (.cells #[.int .i64 4, .slice none 0 0] 54))).trans rfl
          clear x0 x1 hBh CG HNg HOg HNf HOf HWf HWi HXi HXf
          generalize wg.heap.size = gd at *
          generalize wg.alloc _ = wh at *
          have hS : ∀ k, (k = gx ∨ k = gw ∨ k = gl) → ¬ (k = x.bp ∨ V6.ownBlock = some k ∨ k = x.bn ∨ k = x.gn) := fun k hk hh => by
            have h1 := HFf.out.2.2
            have h2 := HLb.out
            rcases hh with e | e | e | e
            · omega
            · have := HV6b.out k e
              omega
            · omega
            · omega
          have HXh := Lk.mk (HX7.out.on HOh.out (hS gx (.inl rfl)))
          have HRh := Lk.mk (HR7.out.on HOh.out (hS gw (.inr (.inl rfl))))
          have HGh := Lk.mk (HOh.out.block gl HLb.out.2 (hS gl (.inr (.inr rfl))))
          obtain ⟨x0, x1, _, _⟩ := HXh.out.c
          have hg1 : (wsI wsF (wv fm sd n) af).getD 1 0 = 1 := by
            have := wsI_get (ws := wsF) (wv_ok (fm := fm) (sd := sd) (n := n) hnn.1 hfr.1 (by omega) hnn.2) rfl (i := af) (by rw [hN]; omega) (by rw [wv_a, wv_c, wsF_len]; omega) 1
            rw [List.getD_eq_getElem?_getD, this, if_neg (by rw [wv_a]; omega)]
            rfl
          have CBk := back_any x.bn x.gn 320 x.cp _ false wh HNh (by omega) (by omega)
          rw [hg1, show canBack false 1 = true from rfl] at CBk
          go_upto_region 25 with (first
            | (go_at_call 25; refine CBk.mono ?_; rintro e wi ⟨rfl, HNi, HOi⟩))
          have HXi := Lk.mk (HXh.out.on HOi.out (fun hh => hS gx (.inl rfl) (.inr (.inr hh))))
          have HRi := Lk.mk (HRh.out.on HOi.out (fun hh => hS gw (.inr (.inl rfl)) (.inr (.inr hh))))
          have HGi := Lk.mk ((HOi.out.block gl (by have := HOh.out.size; have := HLb.out.2; omega) (fun hh => hS gl (.inr (.inr rfl)) (.inr (.inr hh)))).trans HGh.out)
          have HOi' := Lk.mk (HOh.out.trans (HOi.out.mono (fun k hk => .inr (.inr hk))))
          have hxl : af < (Vf.pcs fm (fm + n) (numP fm (fm + n))).length := by rw [Vf.pcs_len]; omega
          have hc := (flat_at2 _ af hxl).1
          have he : (Vf.pcs fm (fm + n) (numP fm (fm + n)))[af]'hxl = (atM (wv fm sd n) af, mM (wv fm sd n) af) := by simp [Vf.pcs, atM, mM, wv_a, wv_c]
          rw [he] at hc
          have hcl := HL7.out.cells (g := gl) rfl (af * 2) _ hc
          rw [add_zero_] at hcl
          have hpc : wi.cell? ⟨gl, af * 2, none⟩ = some (.int .i64 (atM (wv fm sd n) af : Nat)) := (World.cell?_of_block (a := ⟨gl, af * 2, none⟩) HGi.out).trans hcl
          have hcb := own_cap HL7.out
          have hat := at_le (wv_ok (fm := fm) (sd := sd) (n := n) hnn.1 hfr.1 (by omega) hnn.2) (i := af) (by rw [hN]; omega)
          rw [wv_a, wv_c] at hat
          clear x0 x1 z0 CBk HXh HRh HGh HNh HOh hxl he hcl HL7 HX7 HR7 HW7 hc
          obtain ⟨x0, x1, _, _⟩ := HXi.out.c
          have hafn : (af : Int) < (numP fm (fm + n) : Nat) := by omega
          generalize hend : atM (wv fm sd n) af = ed at *
          go_upto_region 26 with fail
          have hbl : (backW false (wsI wsF (wv fm sd n) af)).length = 320 := by have := HNi.out.row.len; exact this
          have hbg : ∀ j, 32 ≤ j → j < 232 → (backW false (wsI wsF (wv fm sd n) af))[j]? = if fm ≤ j ∧ j < ed then (rawW sd n)[j - fm]? else some 0 := fun j h1 h2 => by
            have h3 := wsI_get (ws := wsF) (wv_ok (fm := fm) (sd := sd) (n := n) hnn.1 hfr.1 (by omega) hnn.2) rfl (i := af) (by rw [hN]; omega) (by rw [wv_a, wv_c, wsF_len]; omega) j
            unfold backW
            rw [if_pos (by rw [hg1]; rfl), List.getElem?_set, if_neg (by omega), h3, wv_a, hend]
            split
            · rfl
            · exact wsF_get (by omega) (by omega)
          generalize backW false (wsI wsF (wv fm sd n) af) = wb at *
          have CRd := read_ok x.bn x.gn 320 x.cp wb 32 200 wi HNi (by omega) (by omega) (by omega)
          clear hg1 hend HOi HNi
          go_upto_region 30 with (first
            | (go_at_call 21; refine CRd.mono ?_; rintro e wj ⟨g1, cap1, rfl, HGj, HRj, HBj⟩))
          have HGt := Lk.mk (fun (i : Nat) (hi : i < 200) => show ((wb.drop 32).take 200).getD i 0 = if fm ≤ 32 + i ∧ 32 + i < ed then (rawW sd n).getD (32 + i - fm) 0 else 0 by
            rw [List.getD_eq_getElem?_getD, List.getElem?_take, if_pos hi, List.getElem?_drop, hbg (32 + i) (by omega) (by omega)]
            split
            · rw [List.getD_eq_getElem?_getD]
            · rfl)
          have HRw := Lk.mk (HRi.out.keep (HBj.out.block gw HRi.out.size))
          have HBf := Lk.mk (show Below w.heap.size w wj by
            have h1 : Below w.heap.size w wi := HOi'.out.below_on (B := w.heap.size) HB7w.out (fun k hk => by
              have h1 := HB2w.out
              rcases hk with e | e | e | e
              · have := HF.out x.bp h1.1; show w.heap.size ≤ k; omega
              · have := HV6b.out k e; show w.heap.size ≤ k; omega
              · have := HF.out x.bn HFf.out.1.1; show w.heap.size ≤ k; omega
              · have := HF.out x.gn HFf.out.1.2; show w.heap.size ≤ k; omega) HB7w.out.size
            exact h1.trans (HBj.out.mono h1.size))
          have hcap1 := HRj.out.cap_
          clear x0 x1 hpc hcb HXi HRi HGi HOi' HB7w HBj CRd hbg hbl HFf HV6b HLb
          go_loop [23] (fun u => ∃ i : Nat, i ≤ 200 ∧ u = .int .i64 i) (fun u => 200 - (intOf u).toNat)
          case atStart => exact ⟨0, by omega, rfl⟩
          case round =>
            obtain ⟨i, hi, rfl⟩ := hrel
            by_cases hlt : i < 200
            · have hcj := HRj.out.cell hlt
              rw [HGt.out i hlt] at hcj
              by_cases h1 : fm ≤ 32 + i
              · have h1i : (fm : Int) ≤ 32 + i := by omega
                by_cases h2 : 32 + i < ed
                · have h2i : 32 + (i : Int) < ed := by omega
                  rw [if_pos ⟨h1, h2⟩] at hcj
                  have hidx : (32 : Int) + i - fm = ((32 + i - fm : Nat) : Int) := by omega
                  have hwc := HRw.out.cell (j := 32 + i - fm) (by omega)
                  have hjl : 32 + i - fm < n := by omega
                  generalize (rawW sd n).getD (32 + i - fm) 0 = v at *
                  go_wp2
                  go_round
                  case rel => exact ⟨i + 1, by omega, by go_num⟩
                  case measure => simp [intOf]; omega
                · have h2i : ¬ 32 + (i : Int) < ed := by omega
                  rw [if_neg (fun hh => h2 hh.2)] at hcj
                  go_wp2
                  go_round
                  case rel => exact ⟨i + 1, by omega, by go_num⟩
                  case measure => simp [intOf]; omega
              · have h1i : ¬ (fm : Int) ≤ 32 + i := by omega
                rw [if_neg (fun hh => h1 hh.1)] at hcj
                go_wp2
                go_round
                case rel => exact ⟨i + 1, by omega, by go_num⟩
                case measure => simp [intOf]; omega
            · obtain rfl : 200 = i := by omega
              go_wp2
              go_ret
              exact ⟨rfl, HBf.out⟩

set_option maxRecDepth 100000 in
theorem lifted (os : Os) (started : os.Started) (H : Type) (enc : TypeId × Value → H) :
    ReturnsInHanded {} Try.checked os 6 .any (Rows.queuepairTornSpec.pre6 enc Try.prog Try.f6 Rows.queuepairTornRow.domain false) (Rows.queuepairTornSpec.post enc Try.prog Try.f6 false true false false) := by
  refine returnsInHanded_of_change (C := Try.checked) own started (by kernel_rfl) Try.func6
    (ChangeSpec.witness6 (enc := enc) (C := Try.checked) false ⟨#[], #[.int .i64 0, .int .i64 0, .int .i64 0, .int .u64 0], []⟩ 8 (by kernel_rfl) (by kernel_rfl) (by kernel_rfl) (by kernel_rfl)) ?_
  intro W base args ds gs before hval0 hW hcnd _
  have hval : ∀ (j : Nat) t v, Try.f6.params[j]? = some t → args[j]? = some v → Value.okWide Try.prog W .any base t v := hval0
  have hW' := hW
  obtain ⟨p, q, hA0, hV, rfl, hfz, hnd⟩ := hW
  have hA : DataW.TrodAll enc Try.prog W 0 (fun _ => true) true Try.f6.params.toList args.toList ds p := hA0
  rw [Try.params6] at hA hval
  obtain ⟨v0, vs0, d0, ds0, p0, q0, hargs, rfl, rfl, h0, r0⟩ := trodAll_cons hA
  obtain ⟨v1, vs1, d1, ds1, p1, q1, rfl, rfl, rfl, h1, r1⟩ := trodAll_cons r0
  obtain ⟨v2, vs2, d2, ds2, p2, q2, rfl, rfl, rfl, h2, r2⟩ := trodAll_cons r1
  obtain ⟨v3, vs3, d3, ds3, p3, q3, rfl, rfl, rfl, h3, r3⟩ := trodAll_cons r2
  obtain ⟨rfl, rfl, rfl⟩ := trodAll_nil r3
  obtain rfl : args = #[v0, v1, v2, v3] := by cases args; simp_all
  obtain ⟨rfl, rfl⟩ := trodVars_none hV
  obtain ⟨a0, rfl, rfl, rfl, w0⟩ := open_int Try.underlying3 (hval 0 3 v0 rfl rfl) h0
  obtain ⟨a1, rfl, rfl, rfl, w1⟩ := open_int Try.underlying3 (hval 1 3 v1 rfl rfl) h1
  obtain ⟨a2, rfl, rfl, rfl, w2⟩ := open_int Try.underlying3 (hval 2 3 v2 rfl rfl) h2
  obtain ⟨a3, rfl, rfl, rfl, w3⟩ := open_int Try.underlying33 (hval 3 33 v3 rfl rfl) h3
  clear hA0 hval0
  refine (walk a0 a1 a2 a3 W w0 w1 w2 w3).mono fun e W' ⟨he, bel⟩ => ?_
  subst he
  exact ⟨_, rfl, _, _, _, [], _, [], hW', trodAll_mk1 (shut_bool Try.underlying4 _), (trodAll_cons_mk (shut_int Try.underlying3 w0) (trodAll_cons_mk (shut_int Try.underlying3 w1) (trodAll_cons_mk (shut_int Try.underlying3 w2) (trodAll_cons_mk (shut_int Try.underlying33 w3) trodAll_mk0)))), rfl, bel.frame _, fun h => by cases h⟩

theorem over : Rows.queuepairTornRow.holds Try.pinned (OpenSpec.ofChange Rows.queuepairTornSpec) :=
  OpenClaim.holds_of_wide 6 Try.f6 rfl rfl rfl rfl rfl rfl rfl ⟨rfl, rfl, rfl, rfl, rfl⟩ rfl rfl rfl rfl rfl (by kernel_rfl) Try.func6 (by kernel_rfl)
    (of_decide_eq_true (by kernel_rfl)) (by unfold Func.isWrapper; first | (rw [if_pos (by decide +kernel)]; kernel_rfl) | (rw [if_neg (by decide +kernel)]; exact ⟨rfl, rfl⟩))
    (fun os started H enc _ => lifted os started H enc)

/-- ████ THE STATEMENT ████ -/
theorem proved : Rows.QueuepairTornSaid := over
end Go.Proofs.Ytacfmkmiikkppaa.queuepairTorn

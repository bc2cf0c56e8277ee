/-
  For every input FabricNew returns true, and each argument reads afterwards as before: package fabric keeps the document here. No condition.
-/
import Derived.Test.YtpehhldfegjajaaRows
import Derived.Test.YtpehhldfegjajaaFl
import Derived.WalkKit
import Derived.ProofKit
import Derived.OpenShut
import Derived.ShutString
import Derived.ChangeOld
import Derived.Below
namespace Go.Proofs.Ytpehhldfegjajaa.fabricNew
open Go.ChangeShapes Go.WideShapes Go.ChangeAt Go.RowKit Ga Gb Na Nb Nc Va Vb Ve Qb Qd Ta Tc Th Fa Fb Fc Fd_ Fk Fl
set_option linter.unusedSimpArgs false
set_option linter.unusedVariables false

theorem own : ownKnob Try.prog.godebug = none := by kernel_rfl
theorem laidOut : laidOutB Try.prog = true := of_decide_eq_true (by kernel_rfl)

set_option maxRecDepth 100000 in
set_option maxHeartbeats 4000000 in
theorem walk (a0 : Int) (a1 : Int) (a2 : Int) (a3 : Bool) (w : World) (w0 : (Lit.int .i64 a0).wf = true) (w1 : (Lit.int .i64 a1).wf = true) (w2 : (Lit.int .i64 a2).wf = true) :
    Calls Try.prog 3 #[.int .i64 a0, .int .i64 a1, .int .i64 a2, .bool a3] w fun e w' => e = .returned (.bool true) ∧ Below w.heap.size w w' := by
  have hw0 := bounds_i64 w0
  have hw1 := bounds_i64 w1
  have hw2 := bounds_i64 w2
  have C0 := pick_any a0 8 w (by decide) (by decide) (by omega) (by omega)
  have C1' := pick_any a1 9 w (by decide) (by decide) (by omega) (by omega)
  have C2 := pick_any a2 300 w (by decide) (by decide) (by omega) (by omega)
  have p0 := pk_lt a0 8 (by omega)
  have p1 := pk_lt a1 9 (by omega)
  have p2 := pk_lt a2 300 (by omega)
  generalize pk a0 8 = k0 at *
  generalize pk a1 9 = k1 at *
  generalize pk a2 300 = k2 at *
  go_enter Try.func3, Try.ntmps3
  go_upto_if 14 with fail
  go_cut [0, 1, 2] (fun s0 s1 s2 wx => wx = w ∧ ∃ x y z : Int, s0 = .int .i64 x ∧ s1 = .int .i64 y ∧ s2 = .int .i64 z)
  case first =>
    cases a3 with
    | true =>
      go_wp2_with (first
        | (go_at_call 6; (with_reducible refine C0.mono ?_); rintro e w' ⟨rfl, rfl⟩)
        | (go_at_call 6; (with_reducible refine C1'.mono ?_); rintro e w' ⟨rfl, rfl⟩)
        | (go_at_call 6; (with_reducible refine C2.mono ?_); rintro e w' ⟨rfl, rfl⟩))
      go_meet
      exact ⟨rfl, _, _, _, rfl, rfl, rfl⟩
    | false =>
      go_wp2
      go_meet
      exact ⟨rfl, _, _, _, rfl, rfl, rfl⟩
  case rest =>
  obtain ⟨rfl, x, y, z, rfl, rfl, rfl⟩ := hcut
  clear C0 C1' C2 p0 p1 p2 hw0 hw1 hw2 w0 w1 w2
  have CA := Lk.mk (fun W => awake_any W)
  by_cases hbad : x < 1 ∨ 5 < x ∨ y < 1 ∨ 6 < y
  · have C := newf_arg x y z wc hbad
    by_cases x0 : x < 1
    · go_wp2_with (first
        | (go_at_call 7; refine C.mono ?_; rintro e w' ⟨rfl, rfl⟩)
        | (go_at_call 8; refine (CA.out _).mono ?_; rintro e w' ⟨rfl, HB⟩))
      go_ret
      exact ⟨rfl, HB.out⟩
    by_cases x1 : 5 < x
    · go_wp2_with (first
        | (go_at_call 7; refine C.mono ?_; rintro e w' ⟨rfl, rfl⟩)
        | (go_at_call 8; refine (CA.out _).mono ?_; rintro e w' ⟨rfl, HB⟩))
      go_ret
      exact ⟨rfl, HB.out⟩
    by_cases y0 : y < 1
    · go_wp2_with (first
        | (go_at_call 7; refine C.mono ?_; rintro e w' ⟨rfl, rfl⟩)
        | (go_at_call 8; refine (CA.out _).mono ?_; rintro e w' ⟨rfl, HB⟩))
      go_ret
      exact ⟨rfl, HB.out⟩
    · have y1 : 6 < y := by omega
      go_wp2_with (first
        | (go_at_call 7; refine C.mono ?_; rintro e w' ⟨rfl, rfl⟩)
        | (go_at_call 8; refine (CA.out _).mono ?_; rintro e w' ⟨rfl, HB⟩))
      go_ret
      exact ⟨rfl, HB.out⟩
  have hx0 : ¬ x < 1 := by omega
  have hx1 : ¬ 5 < x := by omega
  have hy0 : ¬ y < 1 := by omega
  have hy1 : ¬ 6 < y := by omega
  by_cases hrng : z < 1 ∨ 256 < z
  · have C := newf_rng x y z wc (by omega) (by omega) hrng
    clear hbad
    by_cases z0 : z < 1
    · go_wp2_with (first
        | (go_at_call 7; refine C.mono ?_; rintro e w' ⟨rfl, HB1⟩)
        | (go_at_call 8; refine (CA.out _).mono ?_; rintro e w' ⟨rfl, HB⟩))
      go_ret
      exact ⟨rfl, HB1.out.trans (HB.out.mono HB1.out.size)⟩
    · have z1 : 256 < z := by omega
      go_wp2_with (first
        | (go_at_call 7; refine C.mono ?_; rintro e w' ⟨rfl, HB1⟩)
        | (go_at_call 8; refine (CA.out _).mono ?_; rintro e w' ⟨rfl, HB⟩))
      go_ret
      exact ⟨rfl, HB1.out.trans (HB.out.mono HB1.out.size)⟩
  have hz0 : ¬ z < 1 := by omega
  have hz1 : ¬ 256 < z := by omega
  obtain ⟨n, rfl⟩ : ∃ n : Nat, x = n := ⟨x.toNat, by omega⟩
  obtain ⟨m, rfl⟩ : ∃ m : Nat, y = m := ⟨y.toNat, by omega⟩
  obtain ⟨L, rfl⟩ : ∃ L : Nat, z = L := ⟨z.toNat, by omega⟩
  have hn : 1 ≤ n ∧ n ≤ 5 := by omega
  have hm : 1 ≤ m ∧ m ≤ 6 := by omega
  have hL : 1 ≤ L ∧ L ≤ 256 := by omega
  have C := newf_ok n m L wc hn hm hL
  clear hbad hrng
  go_upto_region 4 with (first
    | (go_at_call 7; refine C.mono ?_; rintro e W1 ⟨fb, cv, ccap, nds, NV, lv, bss, bs, rfl, HC, HB1⟩))
  go_upto_region 11 with (first
    | (go_at_call 8; refine (CA.out _).mono ?_; rintro e W2 ⟨rfl, HB2⟩))
  obtain ⟨nv, nc, hnv⟩ : ∃ nv nc, NV = .slice (some ⟨nv, 0, none⟩) n nc := by
    have hrow := HC.out.n1.row
    rw [HC.out.nl] at hrow
    rcases hrow.2 with ⟨h, h0⟩ | ⟨g, cap, cur, h, _⟩
    · omega
    · exact ⟨g, cap, h⟩
  subst hnv
  have hrow := HC.out.n1.row
  rw [HC.out.nl] at hrow
  have HZ := Lk.mk ((HB2.out.block fb (Array.getElem?_eq_some_iff.1 HC.out.z).1).trans HC.out.z)
  have HNr := Lk.mk (SR.below (SR.of_own ncs (fun _ => rfl) (0, 0) hrow HC.out.nl) HB2.out)
  have HCr := Lk.mk (SR.below HC.out.crow HB2.out)
  have HPn := Lk.mk (show ∀ i, i < n → PN0 W2 L (nds.getD i (0, 0)) from fun i hi => by
    have hp := HC.out.n1.nodes (nds.getD i (0, 0)) (by
      rw [List.getD_eq_getElem?_getD, List.getElem?_eq_getElem (by rw [HC.out.nl]; exact hi)]
      exact List.getElem_mem _)
    exact Nd.below hp HB2.out)
  have HBw := Lk.mk (HB1.out.trans (HB2.out.mono HB1.out.size))
  have CN1 := node_no fb L (some ⟨nv, 0, none⟩) (some ⟨cv, 0, none⟩) n nc m ccap (.slice none 0 0) W2 (-1) HZ (by omega) (by omega)
  have CN2 := node_no fb L (some ⟨nv, 0, none⟩) (some ⟨cv, 0, none⟩) n nc m ccap (.slice none 0 0) W2 n HZ (by omega) (by omega)
  have CNs := nodes_any fb L (some ⟨nv, 0, none⟩) (some ⟨cv, 0, none⟩) n nc m ccap (.slice none 0 0) W2 HZ
  have CCs := clients_any fb L (some ⟨nv, 0, none⟩) (some ⟨cv, 0, none⟩) n nc m ccap (.slice none 0 0) W2 HZ
  have CLs := Fd_.lines_any fb L (some ⟨nv, 0, none⟩) (some ⟨cv, 0, none⟩) n nc m ccap (.slice none 0 0) W2 HZ
  have hci : ((m : Int) - 1) = ((m - 1 : Nat) : Int) := by omega
  have b0 : W2.cell? ⟨cv, (m - 1) * 6, none⟩ = some (.bool true) := by
    rw [HCr.out.cell0 (c := m - 1) (by omega) (by decide), if_pos (by omega)]
    rfl
  have b1 : W2.cell? ⟨cv, (m - 1) * 6 + 1, none⟩ = some (.int .i64 1) := by
    rw [HCr.out.cell (c := m - 1) (j := 1) (by omega) (by decide), if_pos (by omega)]
    rfl
  have CAl : Calls Try.prog 15 #[.pointer (some ⟨fb, 0, none⟩), .int .i64 ((m : Int) - 1)] W2 (fun e w' => e = .returned (.bool true) ∧ W2 = w') := by
    rw [hci]; exact alive_at fb L (some ⟨nv, 0, none⟩) n nc m ccap (.slice none 0 0) W2 cv (m - 1) HZ (by omega) (by omega) ⟨b0⟩
  have CIn : Calls Try.prog 16 #[.pointer (some ⟨fb, 0, none⟩), .int .i64 ((m : Int) - 1)] W2 (fun e w' => e = .returned (.int .i64 1) ∧ W2 = w') := by
    rw [hci]; exact inc_at fb L (some ⟨nv, 0, none⟩) n nc m ccap (.slice none 0 0) W2 cv (m - 1) 1 HZ (by omega) (by omega) ⟨b1⟩
  have CAn := alive_no fb L (some ⟨nv, 0, none⟩) (some ⟨cv, 0, none⟩) n nc m ccap (.slice none 0 0) W2 m HZ (by omega) (by omega)
  clear hci b0 b1 hrow HC HB1 HB2 HCr C CA
  go_wp2_with fail
  go_loopw [12] (fun s12 wr => ∃ k : Nat, k ≤ n ∧ s12 = .int .i64 k ∧ wr = W2) (fun s12 _ => n - (intOf s12).toNat)
  case atStart => exact ⟨0, by omega, rfl, rfl⟩
  case round =>
    obtain ⟨k, hk, rfl, rfl⟩ := hrel
    by_cases hlt : k < n
    · have hc := (HNr.out.cell0 hlt (by decide)).trans rfl
      rw [Nat.mul_one] at hc
      have CNk := node_at fb L (some ⟨cv, 0, none⟩) n nc m ccap (.slice none 0 0) wr nv (nds.getD k (0, 0)).1 k HZ (by omega) hlt ⟨hc⟩
      have CLk := Nb.lines_any (nds.getD k (0, 0)).1 (nds.getD k (0, 0)).2 (8 * L) (8 * L) (List.replicate (8 * L) 0) true wr ⟨HPn.out k hlt⟩ L rfl (by omega)
      have CUk := up_any (nds.getD k (0, 0)).1 (nds.getD k (0, 0)).2 (8 * L) (8 * L) (List.replicate (8 * L) 0) true wr ⟨HPn.out k hlt⟩
      generalize (nds.getD k (0, 0)).1 = nb at *
      have hps := fun w => Fl.ptr_same nb w
      clear hc CN1 CN2 CNs CCs CLs CAl CIn CAn
      have hki : (k : Int) < n := by omega
      go_wp2_with (first
        | (go_at_call 9; (with_reducible refine CNk.mono ?_); rintro e w' ⟨rfl, rfl⟩)
        | (go_at_call 10; (with_reducible refine CLk.mono ?_); rintro e w' ⟨rfl, rfl⟩)
        | (go_at_call 11; (with_reducible refine CUk.mono ?_); rintro e w' ⟨rfl, rfl⟩))
      go_roundw
      case rel => exact ⟨k + 1, by omega, by go_num, by first | trivial | rfl⟩
      case measure => simp [intOf]; omega
    · obtain rfl : k = n := by omega
      clear HNr HPn HZ
      go_wp2_with (first
        | (go_at_call 9; (with_reducible refine CN1.mono ?_); rintro e w' ⟨rfl, rfl⟩)
        | (go_at_call 9; (with_reducible refine CN2.mono ?_); rintro e w' ⟨rfl, rfl⟩)
        | (go_at_call 12; (with_reducible refine CNs.mono ?_); rintro e w' ⟨rfl, rfl⟩)
        | (go_at_call 13; (with_reducible refine CCs.mono ?_); rintro e w' ⟨rfl, rfl⟩)
        | (go_at_call 14; (with_reducible refine CLs.mono ?_); rintro e w' ⟨rfl, rfl⟩)
        | (go_at_call 15; (with_reducible refine CAl.mono ?_); rintro e w' ⟨rfl, rfl⟩)
        | (go_at_call 15; (with_reducible refine CAn.mono ?_); rintro e w' ⟨rfl, rfl⟩)
        | (go_at_call 16; (with_reducible refine CIn.mono ?_); rintro e w' ⟨rfl, rfl⟩))
      go_ret
      exact ⟨rfl, HBw.out⟩

set_option maxRecDepth 100000 in
theorem lifted (os : Os) (started : os.Started) (H : Type) (enc : TypeId × Value → H) :
    ReturnsInHanded {} Try.checked os 3 .any (Rows.fabricNewSpec.pre6 enc Try.prog Try.f3 Rows.fabricNewRow.domain false) (Rows.fabricNewSpec.post enc Try.prog Try.f3 false true false false) := by
  refine returnsInHanded_of_change (C := Try.checked) own started (by kernel_rfl) Try.func3
    (ChangeSpec.witness6 (enc := enc) (C := Try.checked) false ⟨#[], #[.int .i64 0, .int .i64 0, .int .i64 0, .bool false], []⟩ 8 (by kernel_rfl) (by kernel_rfl) (by kernel_rfl) (by kernel_rfl)) ?_
  intro W base args ds gs before hval0 hW hcnd _
  have hval : ∀ (j : Nat) t v, Try.f3.params[j]? = some t → args[j]? = some v → Value.okWide Try.prog W .any base t v := hval0
  have hW' := hW
  obtain ⟨p, q, hA0, hV, rfl, hfz, hnd⟩ := hW
  have hA : DataW.TrodAll enc Try.prog W 0 (fun _ => true) true Try.f3.params.toList args.toList ds p := hA0
  rw [Try.params3] at hA hval
  obtain ⟨v0, vs0, d0, ds0, p0, q0, hargs, rfl, rfl, h0, r0⟩ := trodAll_cons hA
  obtain ⟨v1, vs1, d1, ds1, p1, q1, rfl, rfl, rfl, h1, r1⟩ := trodAll_cons r0
  obtain ⟨v2, vs2, d2, ds2, p2, q2, rfl, rfl, rfl, h2, r2⟩ := trodAll_cons r1
  obtain ⟨v3, vs3, d3, ds3, p3, q3, rfl, rfl, rfl, h3, r3⟩ := trodAll_cons r2
  obtain ⟨rfl, rfl, rfl⟩ := trodAll_nil r3
  obtain rfl : args = #[v0, v1, v2, v3] := by cases args; simp_all
  obtain ⟨rfl, rfl⟩ := trodVars_none hV
  obtain ⟨a0, rfl, rfl, rfl, w0⟩ := open_int Try.underlying3 (hval 0 3 v0 rfl rfl) h0
  obtain ⟨a1, rfl, rfl, rfl, w1⟩ := open_int Try.underlying3 (hval 1 3 v1 rfl rfl) h1
  obtain ⟨a2, rfl, rfl, rfl, w2⟩ := open_int Try.underlying3 (hval 2 3 v2 rfl rfl) h2
  obtain ⟨a3, rfl, rfl, rfl⟩ := open_bool Try.underlying4 (hval 3 4 v3 rfl rfl) h3
  clear hA0 hval0
  refine (walk a0 a1 a2 a3 W w0 w1 w2).mono fun e W' ⟨he, bel⟩ => ?_
  subst he
  exact ⟨_, rfl, _, _, _, [], _, [], hW', trodAll_mk1 (shut_bool Try.underlying4 _), (trodAll_cons_mk (shut_int Try.underlying3 w0) (trodAll_cons_mk (shut_int Try.underlying3 w1) (trodAll_cons_mk (shut_int Try.underlying3 w2) (trodAll_cons_mk (shut_bool Try.underlying4 _) trodAll_mk0)))), rfl, bel.frame _, fun h => by cases h⟩

theorem over : Rows.fabricNewRow.holds Try.pinned (OpenSpec.ofChange Rows.fabricNewSpec) :=
  OpenClaim.holds_of_wide 3 Try.f3 rfl rfl rfl rfl rfl rfl rfl ⟨rfl, rfl, rfl, rfl, rfl⟩ rfl rfl rfl rfl rfl (by kernel_rfl) Try.func3 (by kernel_rfl)
    (of_decide_eq_true (by kernel_rfl)) (by unfold Func.isWrapper; first | (rw [if_pos (by decide +kernel)]; kernel_rfl) | (rw [if_neg (by decide +kernel)]; exact ⟨rfl, rfl⟩))
    (fun os started H enc _ => lifted os started H enc)

/-- ████ THE STATEMENT ████ -/
theorem proved : Rows.FabricNewSaid := over
end Go.Proofs.Ytpehhldfegjajaa.fabricNew

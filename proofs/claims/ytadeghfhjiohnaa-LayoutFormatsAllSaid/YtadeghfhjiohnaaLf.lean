/-
  Contracts of package layout's Format, and of SameBytes at equal bytes.
-/
import Derived.Test.YtadeghfhjiohnaaLe
import Derived.Test.YtadeghfhjiohnaaNd
import Derived.Test.YtadeghfhjiohnaaNt
namespace Go.Proofs.Ytadeghfhjiohnaa.Lf
open Go.ChangeShapes Go.WideShapes Go.ChangeAt Go.RowKit Ga Na Nb Nc Nd_ Nq Nr Ns Nt La Lb Le
set_option linter.unusedVariables false
set_option linter.unusedSimpArgs false
set_option maxRecDepth 10000
set_option maxHeartbeats 2000000

theorem format_arg (p : Value) (m : Int) (w : World) (h : ¬ (1 ≤ m ∧ m ≤ 5)) :
    Calls Try.prog 35 #[p, .int .i64 m] w fun e w' => e = .returned (.int .i64 1) ∧ w = w' := by
  have C := iv_no m w h
  go_enter Try.func35, Try.ntmps35
  go_wp2_with (first | (go_at_call 8; refine C.mono ?_; rintro e w' ⟨rfl, rfl⟩))
  go_ret
  exact ⟨rfl, rfl⟩
section
variable (b g N cap : Nat) (ws : List Nat) (w : World) (L n : Nat)
theorem format_low (up : Bool) (HN : Lk (PN w b g N cap ws up)) (hL : N = 8 * L) (h : L < 98) (hn : 1 ≤ n ∧ n ≤ 5) :
    Calls Try.prog 35 #[.pointer (some ⟨b, 0, none⟩), .int .i64 n] w fun e w' => e = .returned (.int .i64 18) ∧ w = w' := by
  have C := iv_ok n w hn
  have CL := lines_any b g N cap ws up w HN L hL (by omega)
  have hl : (L : Int) < 98 := by omega
  clear hL
  go_enter Try.func35, Try.ntmps35
  go_wp2_with (first | (go_at_call 8; refine C.mono ?_; rintro e w' ⟨rfl, rfl⟩) | (go_at_call 50; refine CL.mono ?_; rintro e w' ⟨rfl, rfl⟩))
  go_ret
  exact ⟨rfl, rfl⟩
theorem fmtW_len (C : Nat) : (fmtW L C).length = 8 * L := by
  have hd : ∀ k l, (dr k l).length = l.length := fun k l => by
    induction k with
    | zero => rfl
    | succ k ih => rw [dr, List.length_set, ih]
  have hp : ∀ k l, (pg k l).length = l.length := fun k l => by
    induction k with
    | zero => rfl
    | succ k ih => rw [pg, List.length_set, ih]
  rw [fmtW, hp, hd]
  simp [base0]
theorem putW_all {ws l : List Nat} (h : l.length = ws.length) : putW ws 0 l = l := by
  unfold putW
  rw [List.drop_eq_nil_of_le (by omega)]
  simp
theorem format_down (HN : Lk (PN w b g N cap ws false)) (hL : N = 8 * L) (h : 98 ≤ L ∧ L ≤ 256) (hn : 1 ≤ n ∧ n ≤ 5) :
    Calls Try.prog 35 #[.pointer (some ⟨b, 0, none⟩), .int .i64 n] w fun e w' => e = .returned (.int .i64 4) ∧ Lk (Below w.heap.size w w') := by
  have C := iv_ok n w hn
  have CL := lines_any b g N cap ws false w HN L hL (by omega)
  have hl : ¬ (L : Int) < 98 := by omega
  have CF := formatted_any L n w h hn
  have HL := Lk.mk hL
  have hN : N ≤ 2048 := by omega
  clear hL
  go_enter Try.func35, Try.ntmps35
  go_wp2_with (first
    | (go_at_call 8; refine C.mono ?_; rintro e w' ⟨rfl, rfl⟩)
    | (go_at_call 50; refine CL.mono ?_; rintro e w' ⟨rfl, rfl⟩)
    | (go_at_call 54; refine CF.mono ?_; rintro e w1 ⟨gf, rfl, hlow, HR, HB⟩)
    | (go_at_call 32; refine (write_no b g N cap ws false 0 _ (8 * L) _ w1 ⟨Nd.keep HN.out (HB.out.block b HN.out.size) (HB.out.block g HN.out.row.size)⟩ (by omega) (by omega) (by omega) (by omega) (by unfold codeOf fits; have := HL.out; simp; omega)).mono ?_; rintro e w' ⟨rfl, rfl⟩))
  go_ret
  have hco : codeOf false N 0 ((8 * L : Nat) : Int) = 4 := by
    have h1 := HL.out
    rw [codeOf, fits_iff.2 (by omega)]; rfl
  exact ⟨ret_int hco, HB⟩
theorem format_ok (HN : Lk (PN w b g N cap ws true)) (hL : N = 8 * L) (h : 98 ≤ L ∧ L ≤ 256) (hn : 1 ≤ n ∧ n ≤ 5) :
    Calls Try.prog 35 #[.pointer (some ⟨b, 0, none⟩), .int .i64 n] w fun e w' => e = .returned (.int .i64 0) ∧ Lk (PN w' b g N cap (fmtW L (civ n)) true) ∧ Lk (Only (fun k => k = b ∨ k = g) w w') := by
  have C := iv_ok n w hn
  have CL := lines_any b g N cap ws true w HN L hL (by omega)
  have hl : ¬ (L : Int) < 98 := by omega
  have CF := formatted_any L n w h hn
  have HL := Lk.mk hL
  have hN : N ≤ 2048 := by omega
  have hlw := HN.out.row.len
  have HE := Lk.mk (show putW ws 0 (fmtW L (civ n)) = fmtW L (civ n) from putW_all (by rw [fmtW_len]; omega))
  clear hL
  go_enter Try.func35, Try.ntmps35
  go_wp2_with (first
    | (go_at_call 8; refine C.mono ?_; rintro e w' ⟨rfl, rfl⟩)
    | (go_at_call 50; refine CL.mono ?_; rintro e w' ⟨rfl, rfl⟩)
    | (go_at_call 54; refine CF.mono ?_; rintro e w1 ⟨gf, rfl, hlow, HR, HB⟩)
    | (go_at_call 32; refine (write_ok b g N cap ws 0 ⟨gf, 0, none⟩ (fmtW L (civ n)) (8 * L) _ w1 ⟨Nd.keep HN.out (HB.out.block b HN.out.size) (HB.out.block g HN.out.row.size)⟩ (by omega) (fmtW_len L _) (by omega) (by have := HL.out; omega) ⟨HR.out.lt⟩ ⟨fun i hi => by rw [add_zero_]; exact HR.out.cell hi⟩).mono ?_; rintro e w2 ⟨rfl, HP, HO⟩))
  go_ret
  rw [HE.out] at HP
  exact ⟨rfl, HP, ⟨(Only.of_below HB.out).trans HO.out⟩⟩
end
theorem sameBytes_any (w0 w1 w : World) (v1 v2 : Value) (l : List Nat) (h1 : Lk (Bt w0 w v1 l)) (h2 : Lk (Bt w1 w v2 l)) (hl : 0 < l.length) :
    Calls Try.prog 36 #[v1, v2] w fun e w' => e = .returned (.bool true) ∧ w = w' := by
  obtain ⟨A, c, rfl, _, hL⟩ := h1.out.form
  obtain ⟨A2, c2, rfl, _, hL2⟩ := h2.out.form
  have q1 := conv_run (w := w) (c := c) rfl hl hL
  have q2 := conv_run (w := w) (c := c2) rfl hl hL2
  go_enter Try.func36, Try.ntmps36
  go_wp2
  go_ret
  exact ⟨ret_bool (by simp), rfl⟩
end Go.Proofs.Ytadeghfhjiohnaa.Lf

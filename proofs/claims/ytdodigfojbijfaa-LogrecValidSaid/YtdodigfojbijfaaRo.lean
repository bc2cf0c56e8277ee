/-
  Contract of the sanity check of package logrec's laws: it holds.
-/
import Derived.Test.YtdodigfojbijfaaRn
import Derived.Test.YtdodigfojbijfaaRm
namespace Go.Proofs.Ytdodigfojbijfaa.Ro
open Go.ChangeShapes Go.WideShapes Go.ChangeAt Go.RowKit Ga Gb Ra Rb Rc Rd Re Rf Rg Rh Ri Rj Rk Rl Rm Rn
set_option linter.unusedVariables false
set_option linter.unusedSimpArgs false
set_option maxRecDepth 10000
set_option maxHeartbeats 1000000

theorem btr {w w1 w2 : World} (h : Below w.heap.size w w1) (k : Below w1.heap.size w1 w2) : Below w.heap.size w w2 := h.trans (k.mono h.size)
def p96 : Pg := ⟨96, 256, 0, 0, 0, 0, 0, 0, 0⟩
theorem p96_wf : PgsWf [p96] := fun p hp => by
  rw [List.mem_singleton] at hp
  subst hp
  constructor <;> decide
theorem p96_valid : validR 1 [p96] 256 = 0 := by decide
theorem p96_valid98 : validR 1 [p96] 98 = 0 := by decide
theorem p96_body : bodyW 1 [p96] = [1, 1, 96, 256, 0, 0, 0, 0, 0, 0, 0, Cf.crcW (heads 1 [p96])] := rfl
theorem p96_parse : parseE (bodyW 1 [p96]) 98 = 0 ∧ parseS (bodyW 1 [p96]) 98 = 1 ∧ parseL (bodyW 1 [p96]) 98 = [p96] := by
  have h := parse_body p96_valid [] 98
  obtain ⟨_, e1, e2⟩ := unp_body p96_valid []
  rw [List.append_nil] at h e1 e2
  rw [if_pos (by decide), if_pos p96_valid98] at h
  obtain ⟨e3, e4⟩ := parse_yes h
  exact ⟨h, by rw [e3, e1], by rw [e4, e2]⟩
/-- One page in a block of its own, as a slice. -/
theorem Bp.one {w : World} {g : Nat} {p : Pg} (h : Bp w g p) : Pgs w w.heap.size (some ⟨g, 0, none⟩) [p] := fun _ => ⟨_, rfl, h.lt, fun i hi => by
  have : i = 0 := by simpa using hi
  subst this
  exact ⟨h.c0, h.c1, h.c2, h.c3, h.c4, h.c5, h.c6, h.c7, h.c8⟩⟩
theorem awake_any (w : World) : Calls Try.prog 11 #[] w fun e w' => e = .returned (.bool true) ∧ Lk (Below w.heap.size w w') := by
  have HQ0 := Lk.mk (Bp.new w p96 31)
  have HB1 := Lk.mk (one_alloc (w.alloc (.cells p96.arr 31)) (.cells #[.int .i64 1, .slice (some ⟨w.heap.size, 0, none⟩) 1 1] 35))
  have HQ := Lk.mk (Bp.one (Bp.on HQ0.out HB1.out))
  have HR0 := Lk.mk (Br.start (w.alloc (.cells p96.arr 31)) 1 (some ⟨w.heap.size, 0, none⟩) 1 1 35)
  have HBw := Lk.mk (two_alloc w (.cells p96.arr 31) (.cells #[.int .i64 1, .slice (some ⟨w.heap.size, 0, none⟩) 1 1] 35))
  rw [show ((w.alloc (.cells p96.arr 31)).heap.size) = w.heap.size + 1 from by simp] at HR0
  have eX : bodyX 1 [p96] = bodyW 1 [p96] := if_pos p96_valid
  have CB := Lk.mk (fun (W : World) (hP : Pgs W W.heap.size (some ⟨w.heap.size, 0, none⟩) [p96]) => body_any 1 (some ⟨w.heap.size, 0, none⟩) [p96] 1 1 W rfl (by decide) ⟨p96_wf⟩ ⟨hP⟩)
  rw [eX] at CB
  have CV := Lk.mk (fun (W : World) (hP : Pgs W W.heap.size (some ⟨w.heap.size, 0, none⟩) [p96]) => valid_any 1 98 (some ⟨w.heap.size, 0, none⟩) [p96] 1 1 W rfl (by decide) ⟨p96_wf⟩ ⟨hP⟩)
  rw [p96_valid98] at CV
  obtain ⟨e1, e2, e3⟩ := p96_parse
  have hlen : (bodyW 1 [p96]).length = 12 := by rw [bodyW_len]; rfl
  have hlt := bodyW_lt p96_valid p96_wf
  have CP := Lk.mk (fun (W : World) (A : Option Addr) (c : Nat) (hc : 12 ≤ c) (hc2 : c ≤ 9223372036854775807) (hL : Lies .u64 W W.heap.size A (bodyW 1 [p96])) => parse_any A (bodyW 1 [p96]) 98 12 c W hlen (by decide) hc hc2 ⟨hlt⟩ ⟨hL⟩)
  rw [e1, e2, e3] at CP
  have HBy := Lk.mk p96_body
  have HLen := Lk.mk hlen
  clear e1 e2 e3 hlen hlt eX
  have CS := Lk.mk (fun (W : World) (A' : Option Addr) (c' : Nat) (hP : Pgs W W.heap.size (some ⟨w.heap.size, 0, none⟩) [p96]) (hP' : Pgs W W.heap.size A' [p96]) => same_any (some ⟨w.heap.size, 0, none⟩) A' [p96] [p96] 1 1 1 c' W 1 1 rfl rfl (by decide) (by decide) ⟨hP⟩ ⟨hP'⟩)
  rw [show decide ((1 : Int) = 1 ∧ [p96] = [p96]) = true from by simp] at CS
  generalize bodyW 1 [p96] = bd at *
  unfold rcv at *
  have HQ : Lk (Pgs ((w.alloc (.cells p96.arr 31)).alloc (.cells #[.int .i64 1, .slice (some ⟨w.heap.size, 0, none⟩) 1 1] 35)) ((w.alloc (.cells p96.arr 31)).alloc (.cells #[.int .i64 1, .slice (some ⟨w.heap.size, 0, none⟩) 1 1] 35)).heap.size (some ⟨w.heap.size, 0, none⟩) [p96]) := HQ
  simp only [List.length_singleton] at CP
  clear HQ0 HB1
  obtain ⟨W0, hW0⟩ : ∃ W0, (w.alloc (.cells p96.arr 31)).alloc (.cells #[.int .i64 1, .slice (some ⟨w.heap.size, 0, none⟩) 1 1] 35) = W0 := ⟨_, rfl⟩
  obtain ⟨W1, hW1⟩ : ∃ W1, w.alloc (.cells p96.arr 31) = W1 := ⟨_, rfl⟩
  rw [hW0] at HQ HBw HR0
  rw [hW1] at HR0
  clear hW1
  have hW0' : (w.alloc (.cells #[.int .i64 96, .int .u64 256, .int .u64 0, .int .u64 0, .int .u64 0, .int .u64 0, .int .u64 0, .int .u64 0, .int .u64 0] 31)).alloc (.cells #[.int .i64 1, .slice (some ⟨w.heap.size, 0, none⟩) 1 1] 35) = W0 := hW0
  clear hW0
  have r0 := HR0.out.c0
  have r1 := HR0.out.c1
  go_enter Try.func11, Try.ntmps11
  go_upto_region 2 with fail
  clear hW0'
  go_wp2_with (first
    | (go_at_call 17; refine (CB.out _ HQ.out).mono ?_; rintro e w2 ⟨v2, rfl, HW2⟩; have hF := HW2.out.row (by rw [HLen.out]; decide); rw [HLen.out] at hF; obtain ⟨g2, c2, rfl, hc, hc', hg2, hrow⟩ := hF; have HRow := Lk.mk hrow; have HQ2 := Lk.mk (HQ.out.on HW2.out.below); have HR2 := Lk.mk (HR0.out.on HW2.out.below); clear hrow hg2)
    | (go_at_call 20; refine (CP.out _ _ c2 hc hc' HRow.out.lies).mono ?_; rintro e w3 ⟨A3, c3, rfl, HP3⟩; have HQ3 := Lk.mk ((HQ2.out.on HP3.out.below).on (one_alloc _ (.cells #[.int .i64 1, .slice A3 1 c3] 35))); have HR3 := Lk.mk ((HR2.out.on HP3.out.below).on (one_alloc _ (.cells #[.int .i64 1, .slice A3 1 c3] 35))); have HRo3 := Lk.mk ((HRow.out.on (Only.of_below (S := fun _ => False) HP3.out.below) (fun h => h)).on (Only.of_below (S := fun _ => False) (one_alloc w3 (.cells #[.int .i64 1, .slice A3 1 c3] 35))) (fun h => h)); have HP3a := Lk.mk (HP3.out.on (one_alloc _ (.cells #[.int .i64 1, .slice A3 1 c3] 35))); have HS3 := Lk.mk (Br.start w3 1 A3 1 c3 35); have r0 := HR3.out.c0; have r1 := HR3.out.c1)
    | (go_at_call 12; refine (CV.out _ HQ3.out).mono ?_; rintro e w4 ⟨rfl, H4⟩; have HQ4 := Lk.mk (HQ3.out.on H4.out); have HR4 := Lk.mk (HR3.out.on H4.out); have HS4 := Lk.mk (HS3.out.on H4.out); have HP4 := Lk.mk (HP3a.out.on H4.out); have HRo4 := Lk.mk (HRo3.out.on (Only.of_below (S := fun _ => False) H4.out) (fun h => h)); have r0 := HR4.out.c0; have r1 := HR4.out.c1; have s0 := HS4.out.c0; have s1 := HS4.out.c1; have b0 := HRo4.out.cell (j := 0) (by decide); have b1 := HRo4.out.cell (j := 1) (by decide); have b2 := HRo4.out.cell (j := 2) (by decide); have b3 := HRo4.out.cell (j := 3) (by decide); rw [HBy.out] at b0 b1 b2 b3)
    | (go_at_call 15; refine (CS.out _ A3 c3 HQ4.out (by obtain ⟨A', c', e, _, _, hP⟩ := HP4.out.form; cases e; exact hP)).mono ?_; rintro e w5 ⟨rfl, H5⟩))
  go_ret
  exact ⟨rfl, ⟨btr (btr (btr HBw.out HW2.out.below) HP4.out.below) H5.out⟩⟩
end Go.Proofs.Ytdodigfojbijfaa.Ro

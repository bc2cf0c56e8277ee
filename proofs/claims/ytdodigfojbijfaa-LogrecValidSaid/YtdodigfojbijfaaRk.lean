/-
  Contract of the program's Parse.
-/
import Derived.Test.YtdodigfojbijfaaRj
namespace Go.Proofs.Ytdodigfojbijfaa.Rk
open Go.ChangeShapes Go.WideShapes Go.ChangeAt Go.RowKit Ga Gb Ra Rb Rc Rd Re Rf Rg Rh Ri Rj
set_option linter.unusedVariables false
set_option linter.unusedSimpArgs false
set_option maxRecDepth 10000
set_option maxHeartbeats 1000000

/-- The code of words that are read as a record: 8.2. -/
def parseE (b : List Nat) (lines : Int) : Int :=
  if nodeB lines = true then (if validR (unpS b) (unpL b) lines = 0 ∧ bodyW (unpS b) (unpL b) = b.take (3 + 9 * (unpL b).length) then 0 else 14) else 18
def parseS (b : List Nat) (lines : Int) : Int := if parseE b lines = 0 then unpS b else 0
def parseL (b : List Nat) (lines : Int) : List Pg := if parseE b lines = 0 then unpL b else []
theorem parse_no {b : List Nat} {lines : Int} (h : parseE b lines ≠ 0) : parseS b lines = 0 ∧ parseL b lines = [] := ⟨if_neg h, if_neg h⟩
theorem parse_yes {b : List Nat} {lines : Int} (h : parseE b lines = 0) : parseS b lines = unpS b ∧ parseL b lines = unpL b := ⟨if_pos h, if_pos h⟩
theorem valid_more {s lines : Int} {l : List Pg} (h : validR s l lines = 0) : validR s l 256 = 0 := by
  obtain ⟨h1, h2, h3, h4, h5, h6⟩ := valid_zero h
  have hO : l.any (outB 256) = false := by
    rw [List.any_eq_false]
    intro p hp
    have := h4 p hp
    simp only [outB, Bool.not_eq_true, Bool.not_eq_false', decide_eq_true_eq]
    omega
  rw [validR, if_pos (by decide), if_pos ⟨h2, h3⟩, if_neg (by simp [hO]), if_pos ⟨h5, h6⟩]
theorem valid_ok {b : List Nat} {lines : Int} (h : validR (unpS b) (unpL b) lines = 0) : okL b := by
  by_cases hok : okL b
  · exact hok
  · obtain ⟨_, _, h3, _⟩ := valid_zero h
    rw [(unp_no hok).2] at h3
    simp at h3
theorem unpL_len {b : List Nat} (h : okL b) : (unpL b).length = wd b 1 := by rw [unpL, if_pos h, pgsU_len]
theorem unpL_wf {b : List Nat} (h : ∀ x ∈ b, x < 18446744073709551616) : PgsWf (unpL b) := by
  unfold unpL
  split
  · exact pgsU_wf h _
  · intro p hp; cases hp
theorem unpL_le (b : List Nat) : (unpL b).length ≤ 12 := by
  unfold unpL
  split
  · rename_i h; rw [pgsU_len]; exact h.2.1
  · simp
theorem rec_under : Try.prog.underlying 35 = some (.struct (match Try.prog.underlying 35 with | some (.struct fs) => fs | _ => #[])) := by kernel_rfl
theorem results_two {fn : Func} {p u : Tmp} (h : fn.results = #[.cell p 35, .tmp u]) (tmps : Array Value) (w : World) (g : Nat) (cs : Array Value) (hcs : cs.size = 2) (hp : tmps.getD p undef = .pointer (some ⟨g, 0, none⟩)) (hg : w.heap[g]? = some (.cells cs 35 (0, 0))) :
    (results fn tmps).run Try.prog w = .ok (.tuple #[.agg cs, tmps.getD u undef]) w := by
  rw [results_cell_tmp h, hp]
  have hi : (Try.prog.info? 35).map (·.size) = some cs.size := by rw [hcs]; kernel_rfl
  have hl := run_loadVar_row (P := Try.prog) w g 35 35 cs (0, 0) _ hg rec_under rfl hi
  simp [asAddr, hl, Result.andThen]
/-- A result's block of two cells that has been stored into. -/
theorem two_set {w' : World} {g : Nat} {T : TypeId} (x y x' y' : Value) (hz : w'.heap[g]? = some (.cells #[x, y] T (0, 0))) : ((w'.setCell ⟨g, 0, none⟩ x').setCell ⟨g, 1, none⟩ y').heap[g]? = some (.cells #[x', y'] T (0, 0)) :=
  heap_setCell_same _ g 1 _ _ _ (heap_setCell_same w' g 0 _ _ _ hz)
theorem two_below {w w' : World} {g : Nat} {B : Nat} (x' y' : Value) (h : Below B w w') (hg : B ≤ g) : Below B w ((w'.setCell ⟨g, 0, none⟩ x').setCell ⟨g, 1, none⟩ y') :=
  (h.setCell (p := ⟨g, 0, none⟩) hg _).setCell (p := ⟨g, 1, none⟩) hg _
theorem two_other {w' : World} {g k : Nat} (x' y' : Value) (hk : k ≠ g) : ((w'.setCell ⟨g, 0, none⟩ x').setCell ⟨g, 1, none⟩ y').heap[k]? = w'.heap[k]? :=
  (Below.heap_setCell _ ⟨g, 1, none⟩ _ k hk).trans (Below.heap_setCell _ ⟨g, 0, none⟩ _ k hk)
/-- The block of a result of two cells, at its zero value, as calls go on. -/
structure Zb (w W : World) : Prop where
  z : W.heap[w.heap.size]? = some (.cells #[.int .i64 0, .slice none 0 0] 35 (0, 0))
  below : Below w.heap.size w W
theorem Zb.start (w : World) : Zb w (w.alloc (.cells #[.int .i64 0, .slice none 0 0] 35)) := ⟨heap_alloc_new _ _, (Below.refl _ _).alloc (Nat.le_refl _) _⟩
theorem Zb.on {w W W' : World} (h : Zb w W) (hb : Below W.heap.size W W') : Zb w W' := ⟨(hb.block _ (Array.getElem?_eq_some_iff.1 h.z).1).trans h.z, h.below.trans (hb.mono h.below.size)⟩
/-- The cells of a box of two. -/
theorem two_cells {W : World} {g : Nat} {x y : Value} {T : TypeId} (h : W.heap[g]? = some (.cells #[x, y] T (0, 0))) : W.cell? ⟨g, 0, none⟩ = some x ∧ W.cell? ⟨g, 1, none⟩ = some y ∧ W.frozen? ⟨g, 0, none⟩ = false ∧ W.frozen? ⟨g, 1, none⟩ = false :=
  ⟨(cell_of_row W g 0 _ _ _ h).trans rfl, (cell_of_row W g 1 _ _ _ h).trans rfl, frozen_of_row W g 0 _ _ h, frozen_of_row W g 1 _ _ h⟩
theorem pt_two {w W0 w4 : World} {B : Nat} {v : Value} {l : List Pg} (x' y' : Value) (h : Pt W0 B w4 v l) (hb : Below w.heap.size w w4) (hB : w.heap.size < B) : Pt w w.heap.size ((w4.setCell ⟨w.heap.size, 0, none⟩ x').setCell ⟨w.heap.size, 1, none⟩ y') v l :=
  ⟨owns_block (w := w4) (owns_lower h.own (by omega)) (fun g hg => two_other x' y' (by have := (h.own.lt _ hg).1; omega)), two_below x' y' hb (Nat.le_refl _)⟩
theorem lies_take {k : IntKind} {w : World} {B : Nat} {A : Option Addr} {l : List Nat} (h : Lies k w B A l) {n : Nat} (hn : n ≤ l.length) : Lies k w B A (l.take n) := by
  intro hp
  have hlen : (l.take n).length = n := by simp; omega
  obtain ⟨ad, rfl, hb, hcell⟩ := h (by omega)
  refine ⟨ad, rfl, hb, fun j hj => ?_⟩
  rw [hcell j (by omega)]
  have : (l.take n).getD j 0 = l.getD j 0 := by
    rw [List.getD_eq_getElem?_getD, List.getD_eq_getElem?_getD, List.getElem?_take, if_pos (by omega)]
  rw [this]
theorem under_words : Try.prog.underlying 41 = some (.slice (Try.prog.elem 41)) := by kernel_rfl
theorem size_word (w : World) : (sizeOf (Try.prog.elem 41)).run Try.prog w = .ok 1 w := by kernel_rfl
theorem slice_headW (A : Option Addr) (n c k : Nat) (w : World) (h : (k : Int) ≤ (c : Int)) :
    (Instr.sliceAt 41 (.slice A n c) none (some (.int .i64 (k : Int))) none).run Try.prog w = .ok (.slice A k c) w := by
  rw [run_sliceAt_slice _ _ _ _ _ _ under_words, run_slice_h _ _ _ _ _ under_words _ _ (by omega) h, size_word]
  have e : (if c = 0 then A else A.map (·.add (0 * 1))) = A := by
    split
    · rfl
    · cases A <;> simp [Addr.add]
  simp only [Result.andThen, sliced, e, Nat.sub_zero, Int.toNat_natCast]
theorem parse_any (A : Option Addr) (b : List Nat) (lines : Int) (n c : Nat) (w : World) (hn : b.length = n) (hb : n ≤ 4294967296) (hc : n ≤ c) (hc2 : c ≤ 9223372036854775807) (hw : Lk (∀ x ∈ b, x < 18446744073709551616)) (h1 : Lk (Lies .u64 w w.heap.size A b)) :
    Calls Try.prog 20 #[.slice A n c, .int .i64 lines] w fun e w' => ∃ A' c', e = .returned (.tuple #[rcv (parseS b lines) A' (parseL b lines).length c', .int .i64 (parseE b lines)]) ∧ Lk (Pt w w.heap.size w' (.slice A' (parseL b lines).length c') (parseL b lines)) := by
  have HZ0 := Lk.mk (Zb.start w)
  have CN := Lk.mk (isNode_any lines)
  have CU := Lk.mk (fun (W : World) (hB : Below w.heap.size w W) => unpacked_any A b n c W hn hb hc hc2 hw ⟨(h1.out.below hB).more hB.size⟩)
  unfold rcv at *
  cases hN : nodeB lines
  · rw [hN] at CN
    have HE := Lk.mk (show parseE b lines = 18 from if_neg (by simp [hN]))
    have HE' := parse_no (b := b) (lines := lines) (by rw [HE.out]; decide)
    go_enter Try.func20, Try.ntmps20
    go_wp2_with (first | (go_at_call 37; refine (CN.out _).mono ?_; rintro e w' ⟨rfl, rfl⟩))
    refine bodyPost_ret (results_two rfl _ _ w.heap.size #[.int .i64 0, .slice none 0 0] rfl rfl HZ0.out.z) rfl ?_
    rw [HE'.1, HE'.2, HE.out]
    exact ⟨none, 0, rfl, ⟨World.ownsRow_nil _ _ _ _, HZ0.out.below⟩⟩
  · rw [hN] at CN
    have HNN := Lk.mk hN
    by_cases hV : validR (unpS b) (unpL b) lines = 0
    · have hok := valid_ok hV
      have hX : bodyX (unpS b) (unpL b) = bodyW (unpS b) (unpL b) := if_pos (valid_more hV)
      have HWf := Lk.mk (unpL_wf hw.out)
      have HLe := Lk.mk (unpL_le b)
      have CV := Lk.mk (fun (W : World) (A' : Option Addr) (c' : Nat) (hP : Pgs W W.heap.size A' (unpL b)) => valid_any (unpS b) lines A' (unpL b) (unpL b).length c' W rfl (by have := HLe.out; omega) HWf ⟨hP⟩)
      have CB := Lk.mk (fun (W : World) (A' : Option Addr) (c' : Nat) (hP : Pgs W W.heap.size A' (unpL b)) => body_any (unpS b) A' (unpL b) (unpL b).length c' W rfl (by have := HLe.out; omega) HWf ⟨hP⟩)
      rw [hX] at CB
      rw [hV] at CV
      unfold rcv at CV CB
      have hT : (bodyW (unpS b) (unpL b)).length = 3 + 9 * (unpL b).length := bodyW_len _ _
      have h39 : 3 + 9 * (unpL b).length ≤ n := by rw [unpL_len hok, ← hn]; exact hok.2.2
      obtain ⟨m, hm⟩ : ∃ m, (unpL b).length = m := ⟨_, rfl⟩
      rw [hm] at CU CV CB HLe hT h39
      obtain ⟨T, hTT⟩ : ∃ T, 3 + 9 * m = T := ⟨_, rfl⟩
      rw [hTT] at hT h39
      have hTb : T ≤ 111 := by have := HLe.out; omega
      have HT := Lk.mk hT
      have HEq := Lk.mk (show parseE b lines = if bodyW (unpS b) (unpL b) = b.take T then 0 else 14 from by
        rw [parseE, if_pos hN, hm, hTT]
        by_cases hq : bodyW (unpS b) (unpL b) = b.take T
        · rw [if_pos ⟨hV, hq⟩, if_pos hq]
        · rw [if_neg (fun h => hq h.2), if_neg hq])
      have HLT := Lk.mk (fun (W : World) (hB : Below w.heap.size w W) => show Lies .u64 W W.heap.size A (b.take T) from lies_take ((h1.out.below hB).more hB.size) (by omega))
      have CE := Lk.mk (fun (W : World) (A3 : Option Addr) (c3 : Nat) (hB : Below w.heap.size w W) (hL : Lies .u64 W W.heap.size A3 (bodyW (unpS b) (unpL b))) => eqWords_any A3 A T c3 T c (bodyW (unpS b) (unpL b)) (b.take T) W hT (by simp; omega) ⟨hL⟩ ⟨HLT.out W hB⟩ (by omega) (by omega))
      have hs1 := fun (w : World) => slice_headW A n c T w (by omega)
      have hTi : (T : Int) ≤ c := by omega
      clear hX hT hV hN hok h39 hTT
      by_cases hq : bodyW (unpS b) (unpL b) = b.take T
      · rw [if_pos hq] at HEq
        have HE := parse_yes HEq.out
        rw [decide_eq_true hq] at CE
        clear hq
        go_enter Try.func20, Try.ntmps20
        go_wp2_with (first
        | (go_at_call 37; refine (CN.out _).mono ?_; rintro e w' ⟨rfl, rfl⟩)
        | (go_at_call 49; refine (CU.out _ HZ0.out.below).mono ?_; rintro e w1 ⟨A1, c1, rfl, HP1⟩; have HZ1 := Lk.mk (HZ0.out.on HP1.out.below); have HZ1a := Lk.mk (HZ1.out.on ((Below.refl _ w1).alloc (Nat.le_refl _) (.cells #[.int .i64 (unpS b), .slice A1 m c1] 35))); have HP1a := Lk.mk (HP1.out.on ((Below.refl _ w1).alloc (Nat.le_refl _) (.cells #[.int .i64 (unpS b), .slice A1 m c1] 35))); have HR1 := Lk.mk (Br.start w1 (unpS b) A1 m c1 35))
        | (go_at_call 12; refine (CV.out _ A1 c1 (by obtain ⟨A', c', e, _, _, hP⟩ := HP1a.out.form; rw [hm] at e; cases e; exact hP)).mono ?_; rintro e w2 ⟨rfl, H2⟩; have HZ2 := Lk.mk (HZ1a.out.on H2.out); have HP2 := Lk.mk (HP1a.out.on H2.out); have HR2 := Lk.mk (HR1.out.on H2.out); have r0 := HR2.out.c0; have r1 := HR2.out.c1)
        | (go_at_call 17; refine (CB.out _ A1 c1 (by obtain ⟨A', c', e, _, _, hP⟩ := HP2.out.form; rw [hm] at e; cases e; exact hP)).mono ?_; rintro e w3 ⟨v3, rfl, HW3⟩; have HZ3 := Lk.mk (HZ2.out.on HW3.out.below); have HP3 := Lk.mk (HP2.out.on HW3.out.below); have HR3 := Lk.mk (HR2.out.on HW3.out.below); have hF3 := HW3.out.form; rw [HT.out] at hF3; obtain ⟨A3, c3, rfl, hc3, hc3', hL3⟩ := hF3; have HL3 := Lk.mk hL3; clear hL3)
        | (go_at_call 50; refine (CE.out _ A3 c3 (HZ3.out.below) HL3.out).mono ?_; rintro e w4 ⟨rfl, H4⟩; have HZ4 := Lk.mk (HZ3.out.on H4.out); have HP4 := Lk.mk (HP3.out.on H4.out); have HR4 := Lk.mk (HR3.out.on H4.out); have r0 := HR4.out.c0; have r1 := HR4.out.c1; obtain ⟨z0, z1, z2, z3⟩ := two_cells HZ4.out.z))
        refine bodyPost_ret (results_two rfl _ _ w.heap.size #[.int .i64 (unpS b), .slice A1 m c1] rfl rfl (two_set _ _ _ _ HZ4.out.z)) rfl ?_
        rw [HE.1, HE.2, HEq.out, hm]
        exact ⟨A1, c1, rfl, ⟨pt_two _ _ HP4.out HZ4.out.below (by simp)⟩⟩
      · rw [if_neg hq] at HEq
        have HE := parse_no (b := b) (lines := lines) (by rw [HEq.out]; decide)
        rw [decide_eq_false hq] at CE
        clear hq
        go_enter Try.func20, Try.ntmps20
        go_wp2_with (first
        | (go_at_call 37; refine (CN.out _).mono ?_; rintro e w' ⟨rfl, rfl⟩)
        | (go_at_call 49; refine (CU.out _ HZ0.out.below).mono ?_; rintro e w1 ⟨A1, c1, rfl, HP1⟩; have HZ1 := Lk.mk (HZ0.out.on HP1.out.below); have HZ1a := Lk.mk (HZ1.out.on ((Below.refl _ w1).alloc (Nat.le_refl _) (.cells #[.int .i64 (unpS b), .slice A1 m c1] 35))); have HP1a := Lk.mk (HP1.out.on ((Below.refl _ w1).alloc (Nat.le_refl _) (.cells #[.int .i64 (unpS b), .slice A1 m c1] 35))); have HR1 := Lk.mk (Br.start w1 (unpS b) A1 m c1 35))
        | (go_at_call 12; refine (CV.out _ A1 c1 (by obtain ⟨A', c', e, _, _, hP⟩ := HP1a.out.form; rw [hm] at e; cases e; exact hP)).mono ?_; rintro e w2 ⟨rfl, H2⟩; have HZ2 := Lk.mk (HZ1a.out.on H2.out); have HP2 := Lk.mk (HP1a.out.on H2.out); have HR2 := Lk.mk (HR1.out.on H2.out); have r0 := HR2.out.c0; have r1 := HR2.out.c1)
        | (go_at_call 17; refine (CB.out _ A1 c1 (by obtain ⟨A', c', e, _, _, hP⟩ := HP2.out.form; rw [hm] at e; cases e; exact hP)).mono ?_; rintro e w3 ⟨v3, rfl, HW3⟩; have HZ3 := Lk.mk (HZ2.out.on HW3.out.below); have HP3 := Lk.mk (HP2.out.on HW3.out.below); have HR3 := Lk.mk (HR2.out.on HW3.out.below); have hF3 := HW3.out.form; rw [HT.out] at hF3; obtain ⟨A3, c3, rfl, hc3, hc3', hL3⟩ := hF3; have HL3 := Lk.mk hL3; clear hL3)
        | (go_at_call 50; refine (CE.out _ A3 c3 (HZ3.out.below) HL3.out).mono ?_; rintro e w4 ⟨rfl, H4⟩; have HZ4 := Lk.mk (HZ3.out.on H4.out); have HP4 := Lk.mk (HP3.out.on H4.out); have HR4 := Lk.mk (HR3.out.on H4.out); have r0 := HR4.out.c0; have r1 := HR4.out.c1; obtain ⟨z0, z1, z2, z3⟩ := two_cells HZ4.out.z))
        refine bodyPost_ret (results_two rfl _ _ w.heap.size #[.int .i64 0, .slice none 0 0] rfl rfl (two_set _ _ _ _ HZ4.out.z)) rfl ?_
        rw [HE.1, HE.2, HEq.out]
        exact ⟨none, 0, rfl, ⟨World.ownsRow_nil _ _ _ _, two_below _ _ HZ4.out.below (Nat.le_refl _)⟩⟩
    · have HV := Lk.mk hV
      have HE := Lk.mk (show parseE b lines = 14 from by rw [parseE, if_pos hN, if_neg (fun h => hV h.1)])
      have HE' := parse_no (b := b) (lines := lines) (by rw [HE.out]; decide)
      have HWf := Lk.mk (unpL_wf hw.out)
      have HLe := Lk.mk (unpL_le b)
      have CV := Lk.mk (fun (W : World) (A' : Option Addr) (c' : Nat) (hP : Pgs W W.heap.size A' (unpL b)) => valid_any (unpS b) lines A' (unpL b) (unpL b).length c' W rfl (by have := HLe.out; omega) HWf ⟨hP⟩)
      generalize validR (unpS b) (unpL b) lines = vr at *
      unfold rcv at CV
      obtain ⟨m, hm⟩ : ∃ m, (unpL b).length = m := ⟨_, rfl⟩
      rw [hm] at CU CV HLe
      go_enter Try.func20, Try.ntmps20
      go_wp2_with (first
        | (go_at_call 37; refine (CN.out _).mono ?_; rintro e w' ⟨rfl, rfl⟩)
        | (go_at_call 49; refine (CU.out _ HZ0.out.below).mono ?_; rintro e w1 ⟨A1, c1, rfl, HP1⟩; have HZ1 := Lk.mk (HZ0.out.on HP1.out.below); have HZ1a := Lk.mk (HZ1.out.on ((Below.refl _ w1).alloc (Nat.le_refl _) (.cells #[.int .i64 (unpS b), .slice A1 m c1] 35))); have HP1a := Lk.mk (HP1.out.on ((Below.refl _ w1).alloc (Nat.le_refl _) (.cells #[.int .i64 (unpS b), .slice A1 m c1] 35))))
        | (go_at_call 12; refine (CV.out _ A1 c1 (by obtain ⟨A', c', e, _, _, hP⟩ := HP1a.out.form; rw [hm] at e; cases e; exact hP)).mono ?_; rintro e w2 ⟨rfl, H2⟩; have HZ2 := Lk.mk (HZ1a.out.on H2.out); obtain ⟨z0, z1, z2, z3⟩ := two_cells HZ2.out.z))
      refine bodyPost_ret (results_two rfl _ _ w.heap.size #[.int .i64 0, .slice none 0 0] rfl rfl (two_set _ _ _ _ HZ2.out.z)) rfl ?_
      rw [HE'.1, HE'.2, HE.out]
      exact ⟨none, 0, rfl, ⟨World.ownsRow_nil _ _ _ _, two_below _ _ HZ2.out.below (Nat.le_refl _)⟩⟩
end Go.Proofs.Ytdodigfojbijfaa.Rk

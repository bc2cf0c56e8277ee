/-
  The program's Pieces.
-/
import Derived.Test.YtpehhldfegjajaaVr
namespace Go.Proofs.Ytpehhldfegjajaa.Vg
open Go.ChangeShapes Go.WideShapes Go.ChangeAt Go.RowKit Go.Shelf Ga Va Vb Vd Vf Vr
set_option linter.unusedVariables false
set_option linter.unusedSimpArgs false
set_option maxHeartbeats 4000000
set_option maxRecDepth 10000
attribute [local go_sem] Oper.semAt_some

/-- The cells of a row of pieces. -/
def flat (l : List (Nat × Nat)) : List Value := l.flatMap fun x => [.int .i64 (x.1 : Int), .int .i64 (x.2 : Int)]
theorem flat_more (l : List (Nat × Nat)) (x : Nat × Nat) : flat (l ++ [x]) = flat l ++ [.int .i64 (x.1 : Int), .int .i64 (x.2 : Int)] := by simp [flat]
theorem pinfo : (Try.prog.info? 119).map (fun i => (i.zero, i.size, i.bytes)) = some (some (.agg #[.int .i64 0, .int .i64 0]), 2, 16) := by kernel_rfl
/-- What has come: a row of pieces in the box of l. -/
def Got (n₀ L : Nat) (w : World) (pre : List (Nat × Nat)) (W : World) : Prop := (∃ v, Boxed W L 115 v ∧ W.ownsRow n₀ 119 2 v pre.length (flat pre) ∧ True) ∧ Below n₀ w W

theorem got_own {n₀ L B : Nat} {w : World} (h1 : n₀ ≤ w.heap.size) (h2 : n₀ ≤ B) : OwnFrom B (Got n₀ L w) :=
  OwnFrom.and (Own.from (holdsRow_own n₀ L 115 119 2 List.length flat (fun _ _ => True)) _) (ownFrom_below h1 h2)
/-- Behind the assignment of a round: the frame, the variable's box, what has come. -/
def Mid (n₀ L : Nat) (w : World) (f : Nat → Act) (pre : List (Nat × Nat)) (x : Nat × Nat) (b : Act) (W : World) : Prop :=
  ∃ Pb, b = f Pb ∧ W.heap[Pb]? = some (.cells #[.int .i64 (x.1 : Int), .int .i64 (x.2 : Int)] 119 (0, 0)) ∧ Got n₀ L w pre W
theorem mid_own {n₀ L B : Nat} {w : World} {f : Nat → Act} {pre : List (Nat × Nat)} {x : Nat × Nat} {b : Act} (h1 : n₀ ≤ w.heap.size) (h2 : n₀ ≤ B) : OwnFrom B (fun (_ : Unit) W => Mid n₀ L w f pre x b W) := by
  rintro s W W' row ⟨Pb, hb, hp, hg⟩ hgr hr
  refine ⟨Pb, hb, (hgr.block Pb (Array.getElem?_eq_some_iff.1 hp).1 fun e => ?_).trans hp, got_own h1 h2 pre W W' row hg hgr hr⟩
  obtain ⟨_, o, ho, hc⟩ := hr Pb e.symm
  rw [hp] at ho; cases ho; cases hc
theorem Pieces_ok (k nd n o ne : Int) (a c : Nat) (wa : Option Addr) (wl cp : Nat) (ky bo : Int) (w : World) (hc : cnt k n wl = c) (hc1 : 1 ≤ c) (hmax : a + c ≤ 2048) (hv : validC k nd a c 5 256 = 0) :
    Calls Try.prog 76 #[(Value.agg #[Value.int IntKind.i64 k, Value.int IntKind.i64 nd, Value.int IntKind.i64 a, Value.int IntKind.i64 n, Value.int IntKind.u64 o, Value.int IntKind.u64 ne, Value.slice wa wl cp, Value.int IntKind.u64 ky, Value.int IntKind.i64 bo])] w fun e w' => ∃ v, e = .returned v ∧ Lk (w'.ownsRow w.heap.size 119 2 v (numP a (a + c)) (flat (pcs a (a + c) (numP a (a + c))))) ∧ Lk (Below w.heap.size w w') := by
  obtain ⟨i0, hi, hz0, hz1, hz2⟩ := info_parts pinfo
  have C1 := fun w => valid_ok k nd a n o ne wa wl cp ky bo w 5 256 (by omega)
  have C2 := fun w => span_ok k nd a n o ne wa wl cp ky bo w (by omega) (by omega) (by omega)
  have C3 := fun w => pieces_any k nd a n o ne wa wl cp ky bo w
  rw [hc, hv] at C1
  rw [hc] at C2
  have e1 : fstL a = ((a / 8 : Nat) : Int) := by unfold fstL; omega
  have e2 : lstL a c = (((a + c - 1) / 8 : Nat) : Int) := by unfold lstL; omega
  rw [e1, e2] at C2
  obtain ⟨K, hK⟩ : ∃ K, numP a (a + c) = K := ⟨_, rfl⟩
  have hK1 : (((a + c - 1) / 8 : Nat) : Int) - ((a / 8 : Nat) : Int) + 1 = K := by rw [← hK]; unfold numP; omega
  have hK2 : K ≤ 256 := by rw [← hK]; unfold numP; omega
  have HK := Lk.mk hK
  generalize (a + c - 1) / 8 = l at *
  generalize a / 8 = f at *
  have hl : (l : Int) - f = K - 1 := by omega
  have hK0 : 1 ≤ K := by rw [← hK]; unfold numP; omega
  clear e1 e2 hK1 hK hv
  refine (callsIn_wide (n := 8)).1 ?_
  refine callsIn_of_wp_marks Try.func76 rfl trivial ?_ rfl
  simp only [Try.ntmps76, List.size_toArray, List.length_cons, List.length_nil, Nat.reduceAdd, Nat.reduceSub, Array.replicate_succ, Array.replicate_zero, List.push_toArray, List.append_toArray, List.nil_append, List.cons_append]
  refine wpIn_wide.2 ?_
  go_wp2_with fail
  generalize hW : w.alloc _ = W at *
  have HX := Lk.mk (Bx.alloc w k nd a n o ne wa wl cp ky bo 56)
  have HB := Lk.mk ((Below.refl _ w).alloc (Nat.le_refl _) (.cells #[Value.int IntKind.i64 k, Value.int IntKind.i64 nd, Value.int IntKind.i64 a, Value.int IntKind.i64 n, Value.int IntKind.u64 o, Value.int IntKind.u64 ne, Value.slice wa wl cp, Value.int IntKind.u64 ky, Value.int IntKind.i64 bo] 56))
  rw [hW] at HX HB
  clear hW
  refine (C1 _).mono ?_
  rintro e w3 ⟨rfl, HB3⟩
  have HX3 := Lk.mk (HX.out.on HB3.out)
  have HB4 := Lk.mk (HB.out.trans (HB3.out.mono HB.out.size))
  obtain ⟨c0, c1, c2, c3, c4, c5, c6, c7, c8⟩ := HX3.out
  clear HX HB HB3 C1
  go_wp2_with fail
  clear c0 c1 c2 c3 c4 c5 c6 c7 c8
  refine (C2 _).mono ?_
  rintro e w4 ⟨rfl, HB3⟩
  have HX4 := Lk.mk (HX3.out.on HB3.out)
  have HB5 := Lk.mk (HB4.out.trans (HB3.out.mono HB4.out.size))
  clear HX3 HB4 HB3 C2
  go_wp2_with (first
    | (at_make; refine wpList_make_own _ rfl _ _ 115 rfl w.heap.size 119 i0 (.agg #[.int .i64 0, .int .i64 0]) 2 Try.underlying115 hi hz0 hz1 .i64 .i64 _ K rfl rfl (by first | rfl | omega) ?b2 ?b3 ?b4 ?_))
  case b2 => rw [hz2]; omega
  case b3 => unfold maxLen; omega
  case b4 => exact HB5.out.size
  intro w5 hown hgrow
  have HO5 := Lk.mk hown
  have HB6 := Lk.mk (HB5.out.grown hgrow HB5.out.size (fun k hk => by cases hk))
  have HX5 := Lk.mk (HX4.out.on ⟨hgrow.os, hgrow.tape, hgrow.output, hgrow.size, fun k hk => hgrow.block k hk (by simp)⟩)
  clear hown hgrow HX4 HB5
  generalize w4.heap.size = gs at *
  go_upto_region 5 with fail
  have HGot := Lk.mk (show Got w.heap.size w5.heap.size w [] (w5.alloc (.cells #[.slice (some ⟨gs, 0, none⟩) 0 K] 115)) from
    ⟨⟨_, Boxed.new w5 115 _, HO5.out.kept (World.grownBy_alloc w5 _ none) (.inr (by simp [Value.ownBlock])), trivial⟩, HB6.out.alloc HB6.out.size _⟩)
  have HX6 := Lk.mk (HX5.out.on ((Below.refl _ w5).alloc (Nat.le_refl _) (.cells #[.slice (some ⟨gs, 0, none⟩) 0 K] 115)))
  have HL := Lk.mk HB6.out.size
  generalize w5.alloc _ = w6 at *
  generalize w5.heap.size = L at *
  clear HX5 HB6 HO5
  obtain ⟨c0, c1, c2, c3, c4, c5, c6, c7, c8⟩ := HX6.out
  go_wp2_with fail
  clear c0 c1 c2 c3 c4 c5 c6 c7 c8
  refine (C3 _).mono ?_
  rintro e w7 ⟨rfl, rfl⟩
  go_wp2_with fail
  have HX7 := Lk.mk (Bx.alloc w6 k nd a n o ne wa wl cp ky bo 56)
  have HG7 := Lk.mk (show Got w.heap.size L w [] (w6.alloc (.cells #[Value.int IntKind.i64 k, Value.int IntKind.i64 nd, Value.int IntKind.i64 a, Value.int IntKind.i64 n, Value.int IntKind.u64 o, Value.int IntKind.u64 ne, Value.slice wa wl cp, Value.int IntKind.u64 ky, Value.int IntKind.i64 bo] 56)) from by
    obtain ⟨⟨v, hb, ho, _⟩, hB⟩ := HGot.out
    refine ⟨⟨v, hb.alloc _, ho.kept (World.grownBy_alloc w6 _ none) ?_, trivial⟩, hB.alloc hB.size _⟩
    rcases ho.2 with ⟨rfl, _⟩ | ⟨g, cap, cur, rfl, _⟩
    · exact .inl rfl
    · exact .inr (by simp [Value.ownBlock]))
  have HS := Lk.mk (show w.heap.size ≤ w6.heap.size from HGot.out.2.size)
  generalize w6.alloc _ = w7 at *
  generalize hg7 : w6.heap.size = G at *
  clear HX6 HGot C3 hl
  have hsz : w.heap.size ≤ w7.heap.size := HG7.out.2.size
  refine (wpIn_wide (n := 8)).1 ?_
  refine range_lays (m := 8) (by decide) (gf := 95) (lb := #[.pointer (some ⟨G, 0, none⟩)]) rfl (enters_of Try.func95 (by kernel_rfl) rfl)
    (pieces_stops k nd n o ne a c wa wl cp ky bo 7 (by decide) G w.heap.size hc hc1 (by omega) w7 hsz HX7.out) hsz (fun _ => rfl)
    (Got w.heap.size L w) (fun pre x b W => Mid w.heap.size L w (fun Pb => { tmps := #[(Value.agg #[Value.int IntKind.i64 k, Value.int IntKind.i64 nd, Value.int IntKind.i64 ((a : Int)), Value.int IntKind.i64 n, Value.int IntKind.u64 o, Value.int IntKind.u64 ne, Value.slice wa wl cp, Value.int IntKind.u64 ky, Value.int IntKind.i64 bo]), Value.pointer (some ⟨w.heap.size, 0, none⟩), Value.slice none 0 0, Value.int IntKind.i64 f, Value.int IntKind.i64 l, Value.pointer (some ⟨L, 0, none⟩), Value.pointer (some ⟨Pb, 0, none⟩), (Value.agg #[Value.int IntKind.i64 k, Value.int IntKind.i64 nd, Value.int IntKind.i64 ((a : Int)), Value.int IntKind.i64 n, Value.int IntKind.u64 o, Value.int IntKind.u64 ne, Value.slice wa wl cp, Value.int IntKind.u64 ky, Value.int IntKind.i64 bo]),
          Value.int IntKind.i64 0, Value.bool false, Value.tuple #[Value.int IntKind.i64 f, Value.int IntKind.i64 l],
          (Value.agg #[Value.int IntKind.i64 k, Value.int IntKind.i64 nd, Value.int IntKind.i64 ((a : Int)), Value.int IntKind.i64 n, Value.int IntKind.u64 o, Value.int IntKind.u64 ne, Value.slice wa wl cp, Value.int IntKind.u64 ky, Value.int IntKind.i64 bo]),
          Value.tuple #[Value.int IntKind.i64 f, Value.int IntKind.i64 l], Value.int IntKind.i64 f,
          Value.int IntKind.i64 l, Value.int IntKind.i64 l, Value.int IntKind.i64 f, Value.int IntKind.i64 (K - 1),
          Value.int IntKind.i64 K, Value.slice (some ⟨gs, 0, none⟩) 0 K,
          (Value.agg #[Value.int IntKind.i64 k, Value.int IntKind.i64 nd, Value.int IntKind.i64 ((a : Int)), Value.int IntKind.i64 n, Value.int IntKind.u64 o, Value.int IntKind.u64 ne, Value.slice wa wl cp, Value.int IntKind.u64 ky, Value.int IntKind.i64 bo]),
          Value.func (Fn.func 95) #[] #[Value.pointer (some ⟨G, 0, none⟩)], pieceV x, undef, undef, undef, undef, undef], defers := [] }) pre x b W)
    (got_own (Nat.le_refl _) hsz) (fun _ _ _ => mid_own (Nat.le_refl _) hsz) HG7.out ?assign ?body ?done
  case assign =>
    intro q pre x W K' hG _ hK'
    simp only [enc1]
    gi_wp2
    exact hK' _ _ (KeepsOthers.alloc W _) ((Below.refl _ W).alloc hG.2.size _) ⟨W.heap.size, rfl, heap_alloc_new _ _, (got_own (B := w.heap.size) (Nat.le_refl _) (Nat.le_refl _)).alloc _ hG⟩
  case body =>
    rintro q pre x b W ⟨Pb, rfl, hp, ⟨v, hv, ho, _⟩, hB⟩ hlen
    have hlen : pre.length < 256 := by rw [HK.out] at hlen; omega
    have hc0 : W.cell? ⟨L, 0, none⟩ = some v := hv.cell
    have hp0 : W.cell? ⟨Pb, 0, none⟩ = some (.int .i64 (x.1 : Int)) := (cell_of_row W Pb 0 _ _ _ hp).trans rfl
    have hp1 : W.cell? ⟨Pb, 1, none⟩ = some (.int .i64 (x.2 : Int)) := (cell_of_row W Pb 1 _ _ _ hp).trans rfl
    have HV := Lk.mk hv
    have HO := Lk.mk ho
    have HB' := Lk.mk hB
    clear hv ho hB
    gi_wp2_with (first
      | (gi_at_builtin; refine wpListIn_append_own _ rfl _ _ 115 rfl w.heap.size 119 i0 (.agg #[.int .i64 0, .int .i64 0]) 2 16 Try.underlying115 hi hz0 hz1 hz2 rfl (by decide) _ _ _ rfl (HO.out.alloc _) ⟨W.heap.size, 0, none⟩ 1 1 [.int .i64 (x.1 : Int), .int .i64 (x.2 : Int)] rfl rfl ?c1 ?c2 ?c3 ?c4 ?c5 ?_))
    case c1 =>
      intro j u hj
      match j, hj with
      | 0, hj => simp at hj; subst hj; simp [Addr.add]
      | 1, hj => simp at hj; subst hj; simp [Addr.add]
    case c2 => intro u hu; simp at hu; rcases hu with rfl | rfl <;> rfl
    case c3 => unfold maxLen; omega
    case c4 => omega
    case c5 => have := HB'.out.size; simp; omega
    intro v' w1 hown' hgrow _
    obtain ⟨h1, h2, h3, h4, h5⟩ := HV.out.appended (by decide) HO.out HB'.out.size HL.out hown' hgrow
    obtain ⟨g', cap', rfl⟩ := ownsRow_succ hown'
    have s0 : w1.cell? ⟨L, 0, none⟩ = some v := h1.cell
    have s1 : w1.frozen? ⟨L, 0, none⟩ = false := h1.frozen
    have H2 := Lk.mk h2
    have H3 := Lk.mk h3
    have H4 := Lk.mk h4
    have H5 := Lk.mk h5
    clear h1 h2 h3 h4 h5 hown' hgrow
    gi_wp2
    refine ⟨H4.out, H5.out, ⟨_, H2.out, ?_, trivial⟩, HB'.out.trans H5.out⟩
    rw [List.length_append, flat_more]
    exact H3.out
  case done =>
    rintro D ys W hD rfl ⟨⟨v, hv, ho, _⟩, hB⟩ hKD
    have hc0 : W.cell? ⟨L, 0, none⟩ = some v := hv.cell
    rw [pcs_len] at ho
    have HO := Lk.mk ho
    have HB' := Lk.mk hB
    clear hv ho hB
    go_wp2
    refine ⟨by simp, .inl ⟨_, _, rfl, run_takeDeferred hKD, ?_⟩⟩
    exact ⟨_, results_tmp rfl _ _ _, v, rfl, ⟨ownsRow_putObj HO.out _ hKD rfl⟩, ⟨HB'.out.trans (belowK_b (w := w) (Nat.le_refl _) W D _ _ (by omega) hKD rfl rfl)⟩⟩
end Go.Proofs.Ytpehhldfegjajaa.Vg

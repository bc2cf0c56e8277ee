/-
  A pair and its node, the program's and the reference's, side by side; fresh ones.
-/
import Derived.Test.YtacfmkmiikkppaaTj
import Derived.Test.YtacfmkmiikkppaaNu
import Derived.Test.YtacfmkmiikkppaaQk
namespace Go.Proofs.Ytacfmkmiikkppaa.Tk
open Go.ChangeShapes Go.WideShapes Go.ChangeAt Go.RowKit Ga Gb Na Nb Nc Nd_ Nf Nu Va Ve Qb Qd Ta Tb Tc Td Te Tf Tg Th Ti Tj
set_option linter.unusedVariables false
set_option linter.unusedSimpArgs false
set_option maxHeartbeats 1000000
set_option maxRecDepth 100000
/-- Where the four lie, and what they have for memory. -/
structure Plc where
  bp : Nat
  bn : Nat
  gn : Nat
  cp : Nat
  rb : Nat
  rn : Nat
  rg : Nat
  cr : Nat
structure St (F : Nat → Prop) (w : World) (x : Plc) (cl inc : Nat) (V : Value) (q : List Pq) (ex : Nat) (B : Option Addr) (cb : Nat) (r : List Nat) (Q : Value) (qe : List Pe) (ws : List Nat) (up : Bool) : Prop where
  pp : PP F w x.bp cl inc 0 V q ex B cb r
  pn : PN w x.bn x.gn 320 x.cp ws up
  rp : RP F w x.rb cl inc 0 Q qe
  rn : RN w x.rn x.rg 320 x.cr ws up
  ff : (F x.bn ∧ F x.gn) ∧ (F x.rn ∧ F x.rg)
  bb : ∀ g, (Value.slice B r.length cb).ownBlock = some g → g ≠ x.gn ∧ g ≠ x.rg
  gg : x.gn ≠ x.rg
  fb : ∀ k, F k → k < w.heap.size
def wsF : List Nat := ((List.replicate 320 0).set 0 1).set 1 1
theorem wsF_put : putW (List.replicate 320 0) 0 [1, 1] = wsF := by decide +kernel
theorem results_pair {fn : Func} {p u : Tmp} (h : fn.results = #[.cell p 28, .tmp u]) (tmps : Array Value) (w : World) (g : Nat) (cs : Array Value) (hcs : cs.size = 4) (hp : tmps.getD p undef = .pointer (some ⟨g, 0, none⟩)) (hg : w.heap[g]? = some (.cells cs 28 (0, 0))) :
    (results fn tmps).run Try.prog w = .ok (.tuple #[.agg cs, tmps.getD u undef]) w := by
  have hi : (Try.prog.info? 28).map (·.size) = some cs.size := by rw [hcs]; kernel_rfl
  have hu : Try.prog.underlying 28 = some (.struct (match Try.prog.underlying 28 with | some (.struct fs) => fs | _ => #[])) := by kernel_rfl
  have hl := run_loadVar_row (P := Try.prog) w g 28 28 cs (0, 0) _ hg hu rfl hi
  have hp' : tmps[p]?.getD undef = .pointer (some ⟨g, 0, none⟩) := by simpa using hp
  simp [results, h, hp', asAddr, hl, Result.andThen]
def pairV (x : Plc) : Value := .agg #[.pointer (some ⟨x.bp, 0, none⟩), .pointer (some ⟨x.bn, 0, none⟩), .pointer (some ⟨x.rb, 0, none⟩), .pointer (some ⟨x.rn, 0, none⟩)]
theorem fresh_any (client inc : Int) (w : World) (c0 : -9223372036854775808 ≤ client) (c1 : client ≤ 9223372036854775807) (i0 : -9223372036854775808 ≤ inc) (i1 : inc ≤ 9223372036854775807) :
    Calls Try.prog 8 #[.int .i64 client, .int .i64 inc] w fun e w' => ∃ (F : Nat → Prop) (x : Plc), e = .returned (.tuple #[pairV x, .bool true]) ∧ Lk (St F w' x (pk client 6) (pk inc 4) (.slice none 0 0) [] 0 none 0 [] (.slice none 0 0) [] wsF true) ∧ Lk (∀ k, F k → w.heap.size ≤ k) ∧ Lk (Below w.heap.size w w') := by
  have C0 := fun W => pick_any client 6 W (by decide) (by decide) c0 c1
  have C1 := fun W => pick_any inc 4 W (by decide) (by decide) i0 i1
  have p0 := pk_lt client 6 (by omega)
  have p1 := pk_lt inc 4 (by omega)
  generalize pk client 6 = cl at *
  generalize pk inc 4 = ic at *
  clear c0 c1 i0 i1
  have hB0 := (Below.refl _ w).alloc (Nat.le_refl _) (.cells #[.pointer none, .pointer none, .pointer none, .pointer none] 28)
  have HZ0 := Lk.mk (heap_alloc_new w (.cells #[.pointer none, .pointer none, .pointer none, .pointer none] 28))
  have hs0 : w.heap.size < (w.alloc (.cells #[.pointer none, .pointer none, .pointer none, .pointer none] 28)).heap.size := by simp
  have HB0 := Lk.mk hB0
  clear hB0
  go_enter Try.func8, Try.ntmps8
  go_upto_region 2 with (first
    | (go_at_call 13; (with_reducible refine (C0 _).mono ?_); rintro e w' ⟨rfl, rfl⟩)
    | (go_at_call 13; (with_reducible refine (C1 _).mono ?_); rintro e w' ⟨rfl, rfl⟩))
  generalize w.alloc _ = w0 at *
  have CN := Tc.new_ok cl ic 0 w0 (by omega) (by omega) (by omega)
  go_upto_region 5 with (first
    | (go_at_call 14; refine CN.mono ?_; rintro e w1 ⟨rfl, HP1, HB1⟩)
    | (go_at_call 31; refine (Nb.new_ok 40 _ (by omega) (by omega)).mono ?_; rintro e w2 ⟨nb, ng, rfl, HG1, HG2, HN2, HB2⟩)
    | (go_at_call 32; refine (refNew_any 40 _ (by omega) (by omega)).mono ?_; rintro e w3 ⟨rg, rfl, HG3, HR3, HB3⟩))
  have HR4 := Lk.mk (box_node (T := 72) (up := true) HR3.out)
  have hB4 := (Below.refl _ w3).alloc (Nat.le_refl _) (.cells #[.slice (some ⟨rg, 0, none⟩) (8 * 40) (8 * 40), .bool true] 72)
  have hb1 := HB1.out
  have hb2 := HB2.out
  have hb3 := HB3.out
  have HP4 := Lk.mk (((HP1.out.below hb2).below hb3).below hB4)
  have HN4 := Lk.mk (Nd.below (Nd.below HN2.out hb3) hB4)
  have HZ4 := Lk.mk ((hB4.block _ (Nat.lt_of_lt_of_le hs0 (Nat.le_trans hb1.size (Nat.le_trans hb2.size hb3.size)))).trans ((hb3.block _ (Nat.lt_of_lt_of_le hs0 (Nat.le_trans hb1.size hb2.size))).trans ((hb2.block _ (Nat.lt_of_lt_of_le hs0 hb1.size)).trans ((hb1.block _ hs0).trans HZ0.out))))
  have HB4 := Lk.mk ((((HB0.out.trans (hb1.mono HB0.out.size)).trans (hb2.mono (Nat.le_trans HB0.out.size hb1.size))).trans (hb3.mono (Nat.le_trans HB0.out.size (Nat.le_trans hb1.size hb2.size)))).trans (hB4.mono (Nat.le_trans HB0.out.size (Nat.le_trans hb1.size (Nat.le_trans hb2.size hb3.size)))))
  have hord : w.heap.size < w0.heap.size ∧ w0.heap.size < w1.heap.size ∧ (w1.heap.size ≤ nb ∧ nb < w2.heap.size) ∧ (w1.heap.size ≤ ng ∧ ng < w2.heap.size) ∧ (w2.heap.size ≤ rg ∧ rg < w3.heap.size) :=
    ⟨hs0, HP1.out.lt, ⟨HG1.out, HN2.out.size⟩, ⟨HG2.out, HN2.out.row.size⟩, ⟨HG3.out, HR3.out.size⟩⟩
  have hnn : nb ≠ ng := HN2.out.ne
  clear hb1 hb2 hb3 hB4 HP1 HN2 HR3 HB0 HB1 HB2 HB3 HG1 HG2 HG3 HZ0 hs0 CN
  generalize hrn : w3.heap.size = rn at *
  generalize hbp : w0.heap.size = bp at *
  generalize w3.alloc _ = w4 at *
  have r0 := HR4.out.c0
  have s0 := HR4.out.row.cell (j := 0) (by omega)
  have s1 := HR4.out.row.cell (j := 1) (by omega)
  have f0 := HR4.out.row.free 0
  have f1 := HR4.out.row.free 1
  go_upto_region 6 with fail
  have HR5 : Lk (RN ((w4.setCell ⟨rg, 0, none⟩ (.int .u64 1)).setCell ⟨rg, 1, none⟩ (.int .u64 1)) rn rg 320 320 wsF true) := ⟨(HR4.out.set 0 1 (by omega)).set 1 1 (by omega)⟩
  have hO5 := ((Only.refl (fun k => k = rg) w4).setCell (p := ⟨rg, 0, none⟩) (.inl rfl) (.int .u64 1)).setCell (p := ⟨rg, 1, none⟩) (.inl rfl) (.int .u64 1)
  have HP5 := Lk.mk ((HP4.out.none_ (F' := fun k => k = bp ∨ k = nb ∨ k = ng ∨ k = rn ∨ k = rg) (fun k hk => .inl hk)).on hO5 (fun e => by omega) (fun g hg => by cases hg) (fun g hg => by cases hg) (fun k hk => .inr (.inr (.inr (.inr hk)))))
  have HN5 := Lk.mk (HN4.out.on hO5 (fun e => by omega) (fun e => by omega))
  have HZ5 := Lk.mk ((hO5.block w.heap.size (by have := HP4.out.lt; omega) (fun e => by omega)).trans HZ4.out)
  have HB5 := Lk.mk ((HB4.out.setCell (p := ⟨rg, 0, none⟩) (by show w.heap.size ≤ rg; omega) (.int .u64 1)).setCell (p := ⟨rg, 1, none⟩) (by show w.heap.size ≤ rg; omega) (.int .u64 1))
  clear r0 s0 s1 f0 f1 hO5 HR4 HP4 HN4 HZ4 HB4
  generalize (w4.setCell _ _).setCell _ _ = w5 at *
  have hB6 := (Below.refl _ w5).alloc (Nat.le_refl _) (.cells #[.int .u64 1, .int .u64 1] 33)
  have CW := write_ok nb ng 320 320 (List.replicate 320 0) 0 ⟨w5.heap.size, 0, none⟩ [1, 1] 2 2 (w5.alloc (.cells #[.int .u64 1, .int .u64 1] 33)) ⟨Nd.below HN5.out hB6⟩ (by omega) rfl (by omega) (by omega) ⟨fun x hx => by simp at hx; omega⟩ ⟨fun i hi => by
    rw [add_zero_, cell_of_row _ w5.heap.size i _ _ _ (heap_alloc_new w5 (.cells #[.int .u64 1, .int .u64 1] 33))]
    match i, hi with
    | 0, _ => rfl
    | 1, _ => rfl⟩
  rw [wsF_put] at CW
  have HP6 := Lk.mk (HP5.out.below hB6)
  have HR6 := Lk.mk (Nd.below HR5.out hB6)
  have HZ6 := Lk.mk ((hB6.block w.heap.size (by have := HP5.out.lt; omega)).trans HZ5.out)
  have HB6 := Lk.mk (HB5.out.trans (hB6.mono HB5.out.size))
  clear hB6 HN5 HB5
  go_upto_region 8 with (first
    | (go_at_call 33; refine CW.mono ?_; rintro e w7 ⟨rfl, HN7, HO7⟩))
  have hs7 : w5.heap.size < w7.heap.size := by have := HO7.out.size; simp at this; omega
  have HP7 := Lk.mk (HP6.out.on HO7.out (fun hh => by omega) (fun g hg => by cases hg) (fun g hg => by cases hg) (fun k hk => hk.elim (fun e => .inr (.inl e)) (fun e => .inr (.inr (.inl e)))))
  have HR7 := Lk.mk (HR6.out.on HO7.out (fun hh => by omega) (fun hh => by omega))
  have hP5l := HP5.out.lt
  have hR5l := HR5.out.size
  have hR5g := HR5.out.row.size
  have HZ7 := Lk.mk ((HO7.out.block w.heap.size (by simp; omega) (fun hh => by omega)).trans HZ6.out)
  have HB7 := Lk.mk (HO7.out.below_on (B := w.heap.size) HB6.out (fun k hk => by show w.heap.size ≤ k; omega) (by simp; omega))
  have hN7l := HN7.out.size
  have hN7g := HN7.out.row.size
  clear HP5 HR5 HP6 HR6 HZ5 HZ6 HB6 HO7 CW
  have hB8 := (Below.refl _ w7).alloc (Nat.le_refl _) (.cells #[.int .i64 cl, .int .i64 ic, .int .i64 0, .slice none 0 0] 70)
  have HQ8 := Lk.mk (heap_alloc_new w7 (.cells #[.int .i64 cl, .int .i64 ic, .int .i64 0, .slice none 0 0] 70))
  have HP8 := Lk.mk (HP7.out.below hB8)
  have HN8 := Lk.mk (Nd.below HN7.out hB8)
  have HR8 := Lk.mk (Nd.below HR7.out hB8)
  have HZ8 := Lk.mk ((hB8.block w.heap.size (by omega)).trans HZ7.out)
  have HB8 := Lk.mk (HB7.out.trans (hB8.mono HB7.out.size))
  have hs8 : (w7.alloc (.cells #[.int .i64 cl, .int .i64 ic, .int .i64 0, .slice none 0 0] 70)).heap.size = w7.heap.size + 1 := by simp
  have z0 := (cell_of_row _ w.heap.size 0 _ _ _ HZ8.out).trans rfl
  have z1 := (cell_of_row _ w.heap.size 1 _ _ _ HZ8.out).trans rfl
  have z2 := (cell_of_row _ w.heap.size 2 _ _ _ HZ8.out).trans rfl
  have z3 := (cell_of_row _ w.heap.size 3 _ _ _ HZ8.out).trans rfl
  have g0 := frozen_of_row _ w.heap.size 0 _ _ HZ8.out
  have g1 := frozen_of_row _ w.heap.size 1 _ _ HZ8.out
  have g2 := frozen_of_row _ w.heap.size 2 _ _ HZ8.out
  have g3 := frozen_of_row _ w.heap.size 3 _ _ HZ8.out
  go_wp2
  clear z0 z1 z2 z3 g0 g1 g2 g3
  generalize w7.alloc _ = w8 at *
  have hZf := heap_setCell_same _ w.heap.size 3 _ _ (.pointer (some ⟨rn, 0, none⟩)) (heap_setCell_same _ w.heap.size 2 _ _ (.pointer (some ⟨w7.heap.size, 0, none⟩)) (heap_setCell_same _ w.heap.size 1 _ _ (.pointer (some ⟨nb, 0, none⟩)) (heap_setCell_same w8 w.heap.size 0 _ _ (.pointer (some ⟨bp, 0, none⟩)) HZ8.out)))
  have hOf := ((((Only.refl (fun k => k = w.heap.size) w8).setCell (p := ⟨w.heap.size, 0, none⟩) (.inl rfl) (.pointer (some ⟨bp, 0, none⟩))).setCell (p := ⟨w.heap.size, 1, none⟩) (.inl rfl) (.pointer (some ⟨nb, 0, none⟩))).setCell (p := ⟨w.heap.size, 2, none⟩) (.inl rfl) (.pointer (some ⟨w7.heap.size, 0, none⟩))).setCell (p := ⟨w.heap.size, 3, none⟩) (.inl rfl) (.pointer (some ⟨rn, 0, none⟩))
  have hBf := (((HB8.out.setCell (p := ⟨w.heap.size, 0, none⟩) (Nat.le_refl _) (.pointer (some ⟨bp, 0, none⟩))).setCell (p := ⟨w.heap.size, 1, none⟩) (Nat.le_refl _) (.pointer (some ⟨nb, 0, none⟩))).setCell (p := ⟨w.heap.size, 2, none⟩) (Nat.le_refl _) (.pointer (some ⟨w7.heap.size, 0, none⟩))).setCell (p := ⟨w.heap.size, 3, none⟩) (Nat.le_refl _) (.pointer (some ⟨rn, 0, none⟩))
  have hPf := (HP8.out.none_ (F' := fun k => k = bp ∨ k = nb ∨ k = ng ∨ k = rn ∨ k = rg ∨ k = w7.heap.size ∨ k = w.heap.size) (fun k hk => by omega)).on hOf (fun e => by omega) (fun g hg => by cases hg) (fun g hg => by cases hg) (fun k hk => .inr (.inr (.inr (.inr (.inr (.inr hk))))))
  have hNf := HN8.out.on hOf (fun e => by omega) (fun e => by omega)
  have hRf := HR8.out.on hOf (fun e => by omega) (fun e => by omega)
  have hQf := (hOf.block w7.heap.size (by omega) (fun e => by omega)).trans HQ8.out
  refine bodyPost_ret (results_pair rfl _ _ w.heap.size _ rfl rfl hZf) rfl ⟨(fun k => k = bp ∨ k = nb ∨ k = ng ∨ k = rn ∨ k = rg ∨ k = w7.heap.size), ⟨bp, nb, ng, 320, w7.heap.size, rn, rg, 320⟩, rfl, ⟨?_⟩, ⟨fun k hk => by omega⟩, ⟨hBf⟩⟩
  exact ⟨hPf.less (fun k hk => by omega) (.inl rfl) (fun g hg => by cases hg) (fun g hg => by cases hg), hNf, ⟨hQf, .inr (.inr (.inr (.inr (.inr rfl)))), World.ownsRow_nil _ _ _ _, (fun g hg => by cases hg), fun p hp => by cases hp⟩, hRf,
    ⟨⟨.inr (.inl rfl), .inr (.inr (.inl rfl))⟩, ⟨.inr (.inr (.inr (.inl rfl))), .inr (.inr (.inr (.inr (.inl rfl))))⟩⟩, (fun g hg => by cases hg), (by show ng ≠ rg; omega), (fun k hk => by have := hOf.size; omega)⟩
end Go.Proofs.Ytacfmkmiikkppaa.Tk

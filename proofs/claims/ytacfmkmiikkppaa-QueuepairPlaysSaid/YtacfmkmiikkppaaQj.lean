/-
  The reference's Step at a node that is down.
-/
import Derived.Test.YtacfmkmiikkppaaQd
import Derived.Test.YtacfmkmiikkppaaQe
namespace Go.Proofs.Ytacfmkmiikkppaa.Qi
open Go.ChangeShapes Go.WideShapes Go.ChangeAt Go.RowKit Ga Gb Na Nb Nc Nd_ Qd
set_option linter.unusedVariables false
set_option linter.unusedSimpArgs false
set_option maxRecDepth 100000
theorem under_pend : Try.prog.underlying 68 = some (.slice (Try.prog.elem 68)) := by kernel_rfl
theorem size_pend (w : World) : (sizeOf (Try.prog.elem 68)).run Try.prog w = .ok 12 w := by kernel_rfl
/-- The address of 'q[1:]': the model keeps it where nothing is left to stand behind it. -/
def tailA (A : Option Addr) (c : Nat) : Option Addr := if c = 1 then A else A.map (·.add (1 * 12))
theorem tail_pend (g n c : Nat) (w : World) (h1 : 1 ≤ n) (h3 : n ≤ c) (h4 : c ≤ 9223372036854775807) :
    (Instr.sliceAt 68 (.slice (some ⟨g, 0, none⟩) n c) (some (.int .i64 1)) none none).run Try.prog w = .ok (.slice (tailA (some ⟨g, 0, none⟩) c) (n - 1) (c - 1)) w := by
  have e : (Value.int IntKind.i64 1) = Value.int IntKind.i64 ((1 : Nat) : Int) := rfl
  rw [e, run_sliceAt_slice _ _ _ _ _ _ under_pend, run_slice_l _ _ _ _ _ under_pend _ _ (by omega) (by omega), size_pend]
  simp only [Result.andThen, sliced, Int.toNat_natCast]
  rfl
theorem From.tail {w : World} {A : Option Addr} {n c : Nat} {p : Pe} {q : List Pe} (h : From w A 12 (n + 1) ((p :: q).flatMap pcs)) (hc : n + 1 ≤ c) : From w (tailA A c) 12 n (q.flatMap pcs) := by
  have hl := h.1
  rw [List.flatMap_cons, List.length_append] at hl
  have hp : (pcs p).length = 12 := rfl
  refine ⟨by omega, fun hn => ?_⟩
  obtain ⟨ad, rfl, hcell⟩ := h.2 (by omega)
  refine ⟨ad.add 12, by unfold tailA; rw [if_neg (by omega)]; rfl, fun j u hj => ?_⟩
  rw [add_of_add]
  refine hcell (12 + j) u ?_
  rw [List.flatMap_cons, List.getElem?_append_right (by omega), hp, Nat.add_sub_cancel_left]
  exact hj
end Go.Proofs.Ytacfmkmiikkppaa.Qi
namespace Go.Proofs.Ytacfmkmiikkppaa.Qj
open Go.ChangeShapes Go.WideShapes Go.ChangeAt Go.RowKit Ga Gb Na Nb Nc Nd_ Nf Qa Qb Qd Qi
set_option linter.unusedVariables false
set_option linter.unusedSimpArgs false
set_option maxHeartbeats 4000000
set_option maxRecDepth 100000
section
variable {F F' : Nat → Prop} {w : World} {A : Option Addr} {l : List Nat} {b m : Nat} {cl inc nd : Int} {Q : Value} {q : List Pe}
theorem _root_.Go.Proofs.Ytacfmkmiikkppaa.Qd.LiesF.more_ (h : LiesF F w A l) (hm : w.heap.size ≤ m) : LiesF (fun k => F k ∨ k = m) w A l := fun hl => by
  obtain ⟨ad, e, hf, hb, hc⟩ := h hl
  exact ⟨ad, e, fun hh => hh.elim hf (fun e => by omega), hb, hc⟩
theorem _root_.Go.Proofs.Ytacfmkmiikkppaa.Qd.LiesF.less_ (h : LiesF F' w A l) (hs : ∀ k, F k → F' k) : LiesF F w A l := fun hl => by
  obtain ⟨ad, e, hf, hb, hc⟩ := h hl
  exact ⟨ad, e, fun hh => hf (hs _ hh), hb, hc⟩
/-- A block that is not there yet may turn, too. -/
theorem _root_.Go.Proofs.Ytacfmkmiikkppaa.Qd.RP.more_ (h : RP F w b cl inc nd Q q) (hm : w.heap.size ≤ m) : RP (fun k => F k ∨ k = m) w b cl inc nd Q q :=
  ⟨h.z, .inl h.f, h.own, fun g hg hh => hh.elim (h.nf g hg) (fun e => by have := (h.own.lt g hg).2; omega), fun p hp => ⟨LiesF.more_ (h.wd p hp).a hm, (h.wd p hp).la, LiesF.more_ (h.wd p hp).b hm, (h.wd p hp).lb⟩⟩
theorem _root_.Go.Proofs.Ytacfmkmiikkppaa.Qd.RP.less_ (h : RP F' w b cl inc nd Q q) (hs : ∀ k, F k → F' k) (hb : F b) : RP F w b cl inc nd Q q :=
  ⟨h.z, hb, h.own, fun g hg hh => h.nf g hg (hs g hh), fun p hp => ⟨LiesF.less_ (h.wd p hp).a hs, (h.wd p hp).la, LiesF.less_ (h.wd p hp).b hs, (h.wd p hp).lb⟩⟩
end
/-- The first of a queue, cell by cell. -/
theorem first_of {F : Nat → Prop} {w : World} {b : Nat} {cl inc nd : Int} {Q : Value} {p : Pe} {q : List Pe} (h : RP F w b cl inc nd Q (p :: q)) : ∃ g c, Q = .slice (some ⟨g, 0, none⟩) (q.length + 1) c ∧ q.length + 1 ≤ c ∧ c ≤ 9223372036854775807 ∧ ∀ j u, (pcs p)[j]? = some u → w.cell? ⟨g, j, none⟩ = some u := by
  rcases h.own.2 with ⟨_, h0⟩ | ⟨g, cap, cur, rfl, hb, hg, hn, hm, _⟩
  · simp at h0
  · refine ⟨g, cap, rfl, by simpa using hn, by unfold maxLen at hm; omega, fun j u hj => ?_⟩
    have := h.own.cells (g := g) rfl j u (by
      rw [List.flatMap_cons, List.getElem?_append_left (by
        have hjl : j < (pcs p).length := by
          rcases Nat.lt_or_ge j (pcs p).length with h | h
          · exact h
          · rw [List.getElem?_eq_none h] at hj; cases hj
        exact hjl)]
      exact hj)
    rwa [add_zero_] at this
theorem done_under : Try.prog.underlying 54 = some (.struct (match Try.prog.underlying 54 with | some (.struct fs) => fs | _ => #[])) := by kernel_rfl
theorem results_four {fn : Func} {p u v x : Tmp} (h : fn.results = #[.cell p 54, .tmp u, .tmp v, .tmp x]) (tmps : Array Value) (w : World) (g : Nat) (cs : Array Value) (hcs : cs.size = 2) (hp : tmps.getD p undef = .pointer (some ⟨g, 0, none⟩)) (hg : w.heap[g]? = some (.cells cs 54 (0, 0))) :
    (results fn tmps).run Try.prog w = .ok (.tuple #[.agg cs, tmps.getD u undef, tmps.getD v undef, tmps.getD x undef]) w := by
  have hi : (Try.prog.info? 54).map (·.size) = some cs.size := by rw [hcs]; kernel_rfl
  have hl := run_loadVar_row (P := Try.prog) w g 54 54 cs (0, 0) _ hg done_under rfl hi
  have hp' : tmps[p]?.getD undef = .pointer (some ⟨g, 0, none⟩) := by simpa using hp
  simp [results, h, hp', asAddr, hl, Result.andThen]
theorem refStep_gone (F : Nat → Prop) (b : Nat) (cl inc nd : Int) (Q : Value) (p : Pe) (q : List Pe) (nb ng n cap : Nat) (ws : List Nat) (w : World) (HR : Lk (RP F w b cl inc nd Q (p :: q))) (hF : Lk (∀ g, w.heap.size ≤ g → ¬ F g)) (HN : Lk (RN w nb ng n cap ws false)) (hq : q.length < 1024) :
    Calls Try.prog 36 #[.pointer (some ⟨b, 0, none⟩), .pointer (some ⟨nb, 0, none⟩)] w fun e w' => ∃ Q2 : Value, e = .returned (.tuple #[.agg #[.int .i64 4, .slice none 0 0], .int .i64 p.slot, .bool true, .bool true]) ∧ Lk (RP F w' b cl inc nd Q2 q) ∧ Lk (Only (fun k => k = b) w w') := by
  obtain ⟨ip, hpi, hp0, hp1, hp2⟩ := info_parts pinfo
  have HFb := Lk.mk HR.out.f
  have HR := Lk.mk (RP.more_ HR.out (Nat.le_refl w.heap.size))
  go_enter Try.func36, Try.ntmps36
  go_upto_region 1 with fail
  have hB0 := (Below.refl _ w).alloc (Nat.le_refl _) (.cells #[.int .i64 0, .slice none 0 0] 54)
  have HR0 := Lk.mk (HR.out.below hB0)
  have HN0 := Lk.mk (Nd.below HN.out hB0)
  have HB0 := Lk.mk hB0
  have HZ0 := Lk.mk (heap_alloc_new w (.cells #[.int .i64 0, .slice none 0 0] 54))
  clear hB0
  generalize w.alloc _ = W0 at *
  obtain ⟨g, c, hQ, hc1, hc2, hcell⟩ := first_of HR0.out
  subst hQ
  have HTl := fun w => tail_pend g (q.length + 1) c w (by omega) hc1 hc2
  simp only [Nat.add_sub_cancel] at HTl
  have HFt := Lk.mk (From.tail (From.own (by simpa using HR0.out.own)) hc1)
  obtain ⟨x0, x1, x2, x3, x4, x5, x6, x7, x8, x9, x10, x11⟩ : W0.cell? ⟨g, 0, none⟩ = some (.int .i64 p.k) ∧ W0.cell? ⟨g, 1, none⟩ = some (.int .i64 p.nd) ∧ W0.cell? ⟨g, 2, none⟩ = some (.int .i64 p.a) ∧ W0.cell? ⟨g, 3, none⟩ = some (.int .i64 p.n) ∧ W0.cell? ⟨g, 4, none⟩ = some (.int .u64 p.o) ∧ W0.cell? ⟨g, 5, none⟩ = some (.int .u64 p.ne) ∧ W0.cell? ⟨g, 6, none⟩ = some (.slice p.A p.l p.c) ∧ W0.cell? ⟨g, 7, none⟩ = some (.int .u64 p.ky) ∧ W0.cell? ⟨g, 8, none⟩ = some (.int .i64 p.bo) ∧ W0.cell? ⟨g, 9, none⟩ = some (.int .i64 p.ex) ∧ W0.cell? ⟨g, 10, none⟩ = some (.slice p.B p.lb p.cb) ∧ W0.cell? ⟨g, 11, none⟩ = some (.int .i64 p.slot) :=
    ⟨hcell 0 _ rfl, hcell 1 _ rfl, hcell 2 _ rfl, hcell 3 _ rfl, hcell 4 _ rfl, hcell 5 _ rfl, hcell 6 _ rfl, hcell 7 _ rfl, hcell 8 _ rfl, hcell 9 _ rfl, hcell 10 _ rfl, hcell 11 _ rfl⟩
  have p3 := HR0.out.c3
  have nu := HN0.out.c1
  clear hcell
  go_upto_region 6 with fail
  clear x0 x1 x2 x3 x4 x5 x6 x7 x8 x9 x10 x11 p3 nu
  have hB1 := (Below.refl _ W0).alloc (Nat.le_refl _) (.cells #[Value.int IntKind.i64 p.k, Value.int IntKind.i64 p.nd, Value.int IntKind.i64 p.a, Value.int IntKind.i64 p.n, Value.int IntKind.u64 p.o, Value.int IntKind.u64 p.ne, Value.slice p.A p.l p.c, Value.int IntKind.u64 p.ky, Value.int IntKind.i64 p.bo, Value.int IntKind.i64 p.ex, Value.slice p.B p.lb p.cb, Value.int IntKind.i64 p.slot] 112)
  have HR1 := Lk.mk (HR0.out.below hB1)
  have HN1 := Lk.mk (Nd.below HN0.out hB1)
  have HB1 := Lk.mk (HB0.out.trans (hB1.mono HB0.out.size))
  have HZ1 := Lk.mk ((hB1.block _ (Array.getElem?_eq_some_iff.1 HZ0.out).1).trans HZ0.out)
  have HS1 := Lk.mk (show World.cell? _ ⟨W0.heap.size, 11, none⟩ = some (.int .i64 p.slot) from (cell_of_row _ W0.heap.size 11 _ _ _ (heap_alloc_new W0 (.cells #[Value.int IntKind.i64 p.k, Value.int IntKind.i64 p.nd, Value.int IntKind.i64 p.a, Value.int IntKind.i64 p.n, Value.int IntKind.u64 p.o, Value.int IntKind.u64 p.ne, Value.slice p.A p.l p.c, Value.int IntKind.u64 p.ky, Value.int IntKind.i64 p.bo, Value.int IntKind.i64 p.ex, Value.slice p.B p.lb p.cb, Value.int IntKind.i64 p.slot] 112))).trans rfl)
  have HFt1 := Lk.mk (HFt.out.on hB1)
  have HQ1 := Lk.mk (fun (pp : Pe) (hpp : pp ∈ q) => HR1.out.wd pp (List.mem_cons_of_mem _ hpp))
  have HPb := Lk.mk (show w.heap.size < W0.heap.size from (Array.getElem?_eq_some_iff.1 HZ0.out).1)
  have HBl := Lk.mk HR.out.lt
  clear hB1 HR0 HN0 HB0 HZ0 HFt
  generalize W0.alloc _ = W1 at *
  generalize W0.heap.size = pb at *
  have p3 := HR1.out.c3
  have nu := HN1.out.c1
  have s11 := HS1.out
  go_upto_region 11 with fail
  have hm1 : 0 + q.length ≤ maxLen := by unfold maxLen; omega
  have hm2 : (0 + q.length) * 128 ≤ 140737488355328 := by omega
  have HQn := Lk.mk (flat_one pcs pcs_one q)
  go_wp2_with (first
    | (at_builtin; refine wpList_onto rfl _ _ 68 rfl W1.heap.size 112 ip _ 12 128 Try.underlying68 hpi hp0 hp1 hp2 rfl (by decide) _ _ _ rfl (World.ownsRow_nil _ _ _ _) (tailA (some ⟨g, 0, none⟩) c) q.length (c - 1) (q.flatMap pcs) rfl HFt1.out HQn.out hm1 hm2 (Nat.le_refl _) ?_))
  intro v6 w6 hown6 hgrow6
  have hB6 := below_none hgrow6
  have hS6 := own_slice hown6
  obtain ⟨A6, c6, rfl⟩ := hS6
  have HPt := Lk.mk (RP.put (q2 := q) HR1.out hB6 (by simpa using hown6) (fun g hg hh => hh.elim (hF.out g (Nat.le_trans HB1.out.size hg)) (fun e => by have := (Array.getElem?_eq_some_iff.1 HZ1.out).1; omega)) (fun pp hpp => (HQ1.out pp hpp).on (Only.of_below (S := fun _ => False) hB6) (fun _ h => h.elim)))
  have hf6 := HPt.out.2.1
  have hc6 := HPt.out.2.2
  have HZ7 := Lk.mk ((Below.heap_setCell w6 ⟨b, 3, none⟩ (.slice A6 (0 + q.length) c6) w.heap.size (by have := HBl.out; show w.heap.size ≠ b; omega)).trans ((hB6.block _ (Array.getElem?_eq_some_iff.1 HZ1.out).1).trans HZ1.out))
  have HS7 := Lk.mk ((World.cell?_of_block (w := w6) (w' := w6.setCell ⟨b, 3, none⟩ (.slice A6 (0 + q.length) c6)) (a := ⟨pb, 11, none⟩) (Below.heap_setCell w6 ⟨b, 3, none⟩ _ pb (by have := HBl.out; have := HPb.out; show pb ≠ b; omega))).trans ((hB6.cell (block_lt_of_cell HS1.out)).trans HS1.out))
  have HO7 := Lk.mk ((Only.of_below (S := fun k => k = b) (HB1.out.trans (hB6.mono HB1.out.size))).setCell (p := ⟨b, 3, none⟩) (.inl rfl) (.slice A6 (0 + q.length) c6))
  have HR7 := Lk.mk HPt.out.1
  clear HPt hown6 hgrow6 hB6 p3 nu s11 HS1 HZ1 HFt1 HQ1 HR1 HN1 HQn
  rw [Nat.zero_add] at *
  go_upto_region 12 with fail
  generalize w6.setCell _ _ = W7 at *
  have z0 := (cell_of_row W7 w.heap.size 0 _ _ _ HZ7.out).trans rfl
  have z1 := (cell_of_row W7 w.heap.size 1 _ _ _ HZ7.out).trans rfl
  have g0 := frozen_of_row W7 w.heap.size 0 _ _ HZ7.out
  have g1 := frozen_of_row W7 w.heap.size 1 _ _ HZ7.out
  have hne : w.heap.size ≠ pb := Nat.ne_of_lt HPb.out
  have hne2 : pb ≠ w.heap.size := Nat.ne_of_gt HPb.out
  have HH := Lk.mk (show W7.drew.cell? ⟨pb, 11, none⟩ = some (.int .i64 p.slot) from HS7.out)
  go_region_held3 (fun W' => World.cell? W' ⟨pb, 11, none⟩ = some (.int .i64 p.slot)) (first | with_reducible exact HH.out | with_reducible assumption | exact ((World.cell?_of_block ((Below.heap_setCell _ ⟨w.heap.size, 1, none⟩ _ pb hne2).trans (Below.heap_setCell W7.drew ⟨w.heap.size, 0, none⟩ _ pb hne2))).trans HH.out))
    (fail)
  go_wp2
  have HZ8 : ((W7.setCell ⟨w.heap.size, 0, none⟩ (.int .i64 4)).setCell ⟨w.heap.size, 1, none⟩ (.slice none 0 0)).heap[w.heap.size]? = some (.cells #[.int .i64 4, .slice none 0 0] 54 (0, 0)) := heap_setCell_same _ w.heap.size 1 _ _ _ (heap_setCell_same W7 w.heap.size 0 _ _ _ HZ7.out)
  have hO := ((Only.refl (fun k => k = w.heap.size) W7).setCell (p := ⟨w.heap.size, 0, none⟩) (.inl rfl) (.int .i64 4)).setCell (p := ⟨w.heap.size, 1, none⟩) (.inl rfl) (.slice none 0 0)
  have hO2 := (HO7.out.setCell (p := ⟨w.heap.size, 0, none⟩) (.inr (Nat.le_refl _)) (.int .i64 4)).setCell (p := ⟨w.heap.size, 1, none⟩) (.inr (Nat.le_refl _)) (.slice none 0 0)
  have hR8 := RP.less_ (HR7.out.on hO (fun k hk => .inr hk) (by have := HBl.out; omega)) (fun k hk => .inl hk) HFb.out
  exact bodyPost_ret (results_four rfl _ _ w.heap.size _ rfl rfl HZ8) rfl ⟨_, rfl, ⟨hR8.below (Below.refl _ _).drew⟩, ⟨⟨hO2.os, hO2.tape, hO2.output, hO2.size, hO2.block⟩⟩⟩
end Go.Proofs.Ytacfmkmiikkppaa.Qj

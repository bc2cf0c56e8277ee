/-
  The program's Step: a piece is executed; the walk.
-/
import Derived.Test.YtpehhldfegjajaaTh
namespace Go.Proofs.Ytpehhldfegjajaa.Ti
open Go.ChangeShapes Go.WideShapes Go.ChangeAt Go.RowKit Ga Gb Na Nb Nc Nd_ Va Vb Vd Ve Vf Vg Qa Qb Qd Qj Ta Tb Tc Td Te Tf Tg Th
set_option linter.unusedVariables false
set_option linter.unusedSimpArgs false
set_option maxHeartbeats 1000000
set_option maxRecDepth 100000
theorem flat_at2 (l : List (Nat × Nat)) (i : Nat) (h : i < l.length) : (flat l)[i * 2]? = some (.int .i64 ((l[i]).1 : Int)) ∧ (flat l)[i * 2 + 1]? = some (.int .i64 ((l[i]).2 : Int)) := by
  unfold flat
  have h0 := flat_at (fun x : Nat × Nat => [Value.int .i64 (x.1 : Int), .int .i64 (x.2 : Int)]) 2 (fun _ => rfl) l i 0 h (by omega)
  have h1 := flat_at (fun x : Nat × Nat => [Value.int .i64 (x.1 : Int), .int .i64 (x.2 : Int)]) 2 (fun _ => rfl) l i 1 h (by omega)
  exact ⟨h0, h1⟩
section
variable (F : Nat → Prop) (b : Nat) (cl inc : Nat) (pnd : Int) (V : Value) (p : Pq) (q : List Pq) (ex : Nat) (B : Option Addr) (cb : Nat) (r : List Nat) (nb ng nn ncap : Nat) (ws : List Nat) (L : Nat) (w : World)
theorem ex_facts {F : Nat → Prop} {W w4 : World} {b : Nat} {cl inc pnd : Int} {V : Value} {q : List Pq} {ex : Nat} {B : Option Addr} {cb : Nat} {r : List Nat} {nb ng nn ncap : Nat} {ws0 : List Nat}
    (HP : Lk (PP F W b cl inc pnd V q ex B cb r)) (HN : Lk (PN W nb ng nn ncap ws0 true)) (HBn : Lk (∀ g, (Value.slice B r.length cb).ownBlock = some g → g ≠ ng)) (HO4 : Lk (Only (fun k => k = nb ∨ k = ng) W w4)) :
    Lk (Only (fun k => k = nb ∨ k = ng) W w4) ∧ Lk (Tl w4 53 1 (.slice B r.length cb) r.length (r.map u64v)) ∧ w4.cell? ⟨b, 5, none⟩ = some (.slice B r.length cb) ∧ w4.frozen? ⟨b, 5, none⟩ = false := by
  have hR := HP.out
  have hnb : nb ≠ b := ne_typed HN.out.node hR.z (by decide)
  have hng : ng ≠ b := by obtain ⟨cur, hc⟩ := Row.typed HN.out.row; exact ne_typed hc hR.z (by decide)
  have hbnb : ∀ g, (Value.slice B r.length cb).ownBlock = some g → g ≠ nb := fun g hg => by obtain ⟨cur, hc⟩ := hR.ow.typed g hg; exact ne_typed hc HN.out.node (by decide)
  have hb4 := HO4.out.block b hR.lt (fun hh => hh.elim (fun e => hnb e.symm) (fun e => hng e.symm))
  exact ⟨HO4, ⟨hR.ow.on (fun g hg => HO4.out.block g (hR.ow.lt g hg) (fun hh => hh.elim (hbnb g hg) (HBn.out g hg)))⟩, (World.cell?_of_block (a := ⟨b, 5, none⟩) hb4).trans hR.c5, (World.frozen?_of_block (a := ⟨b, 5, none⟩) hb4).trans (hR.fr 5)⟩
theorem _root_.Go.Proofs.Ytpehhldfegjajaa.Tc.PP.setEx {F : Nat → Prop} {w : World} {b : Nat} {cl inc nd : Int} {V : Value} {q : List Pq} {ex : Nat} {B : Option Addr} {cb : Nat} {r : List Nat} (h : PP F w b cl inc nd V q ex B cb r) (m : Nat) : PP F (w.setCell ⟨b, 4, none⟩ (.int .i64 (m : Int))) b cl inc nd V q m B cb r := by
  have hO := (Only.refl (fun k => k = b) w).setCell (p := ⟨b, 4, none⟩) (.inl rfl) (.int .i64 (m : Int))
  exact ⟨heap_setCell_same w b 4 _ _ _ h.z, h.f, h.own.on (fun g hg => hO.block g (h.own.lt g hg) (h.vb g hg)), h.vf, h.ow.on (fun g hg => hO.block g (h.ow.lt g hg) (h.wb g hg)), h.wf, fun p hp => ⟨(h.wd p hp).1.on hO (fun k hk => by subst hk; exact h.f), (h.wd p hp).2⟩, h.wr⟩
theorem tl_lies {w : World} {B : Option Addr} {n c : Nat} {l : List Nat} (h : Tl w 53 1 (.slice B n c) n (l.map u64v)) : Lies .u64 w w.heap.size B l := fun hp => by
  have hl := h.1
  rw [List.length_map, Nat.mul_one] at hl
  obtain ⟨g, off, c', e, _, _, _, hc⟩ := h.cells (by omega)
  simp only [Value.slice.injEq] at e
  obtain ⟨rfl, _, _⟩ := e
  refine ⟨_, rfl, h.lt g rfl, fun j hj => ?_⟩
  rw [add_at]
  refine hc j _ ?_
  rw [List.getElem?_map, List.getElem?_eq_getElem hj]
  simp [hj, u64v]
/-- What a Step that executes a piece returns and leaves. -/
def Ran (F : Nat → Prop) (b : Nat) (cl inc : Nat) (pnd : Int) (V : Value) (p : Pq) (q : List Pq) (ex : Nat) (B : Option Addr) (cb : Nat) (r : List Nat) (nb ng nn ncap : Nat) (ws : List Nat) (w : World) (e : Ending) (w' : World) : Prop :=
  Lk (PN w' nb ng nn ncap (wsS p.v ws ex) true) ∧ Lk (Only (fun k => k = b ∨ V.ownBlock = some k ∨ (Value.slice B r.length cb).ownBlock = some k ∨ k = nb ∨ k = ng) w w') ∧
  ((ex + 1 < nP p.v ∧ ∃ (B2 : Option Addr) (cb2 : Nat), e = .returned (.tuple #[.agg #[.int .i64 0, .slice none 0 0], .bool false]) ∧ Lk (PP (fun k => F k ∨ (Value.slice B2 (r ++ outS p.v ws ex).length cb2).ownBlock = some k) w' b cl inc pnd V (p :: q) (ex + 1) B2 cb2 (r ++ outS p.v ws ex)) ∧ Lk (∀ k, (Value.slice B2 (r ++ outS p.v ws ex).length cb2).ownBlock = some k → (Value.slice B r.length cb).ownBlock = some k ∨ (w.heap.size ≤ k ∧ k < w'.heap.size))) ∨
   (ex + 1 = nP p.v ∧ ∃ (V2 : Value) (B2 : Option Addr) (cb2 : Nat), e = .returned (.tuple #[.agg #[.int .i64 0, .slice B2 (r ++ outS p.v ws ex).length cb2], .bool true]) ∧ Lk (PP F w' b cl inc pnd V2 q 0 none 0 []) ∧ Lk (Lies .u64 w' w'.heap.size B2 (r ++ outS p.v ws ex) ∧ ∀ k, (Value.slice B2 (r ++ outS p.v ws ex).length cb2).ownBlock = some k → (Value.slice B r.length cb).ownBlock = some k ∨ w.heap.size ≤ k) ∧ Lk (V2.ownBlock = V.ownBlock)))
theorem step_run (h : Lk (PP F w b cl inc pnd V (p :: q) ex B cb r)) (HN : Lk (PN w nb ng nn ncap ws true)) (hL : nn = 8 * L) (hL1 : 1 ≤ L ∧ L ≤ 256) (hcl : cl ≤ 5) (hinc : inc ≤ 59) (hok : Lk (OkV p.v)) (hk : codeV cl inc L ws true p.v = 0) (hx : ex < nP p.v)
    (HFn : Lk (F nb ∧ F ng)) (HBn : Lk (∀ g, (Value.slice B r.length cb).ownBlock = some g → g ≠ ng)) (HF : Lk (∀ g, w.heap.size ≤ g → ¬ F g)) (hrl : r.length + mM p.v ex ≤ 4294967296) :
    Calls Try.prog 57 #[.pointer (some ⟨b, 0, none⟩), .pointer (some ⟨nb, 0, none⟩)] w fun e w' => Ran F b cl inc pnd V p q ex B cb r nb ng nn ncap ws w e w' := by
  obtain ⟨g, off, c, hV, hcell, hlen⟩ := first_q h.out
  have hbo := hok.out.bo
  have hpos := hok.out.pos
  have hpc := hok.out.piece hx
  have hcn : cnt p.v.k p.v.n p.v.s.length ≤ 9223372036854775807 := by
    have : cnt p.v.k p.v.n p.v.s.length = cM p.v := hpos.2.1
    omega
  have h1 := Lk.mk (h.out.to (F' := fun k => F k ∨ k = w.heap.size) (fun k hk => .inl hk) (fun k hk => hk.imp id (fun e => by omega)))
  have HC := Lk.mk (fun W (hb : Below w.heap.size w W) => check_q F b cl inc pnd V (p :: q) ex B cb r p.v.k p.v.nd p.v.a p.v.n p.v.o p.v.ne p.A p.v.s.length p.c p.v.ky p.v.bo nb ng nn ncap ws true L W ⟨h.out.below hb⟩ ⟨Nd.below HN.out hb⟩ hL hL1 hcl hinc hcn hbo)
  have hR : codeM cl inc p.v.k p.v.nd p.v.a (cnt p.v.k p.v.n p.v.s.length) p.v.ky p.v.bo L ws true = 0 := hk
  rw [hR] at HC
  have hin : (aM p.v : Int) + cM p.v ≤ nn := by
    have := valid_pos (codeV_ok hk).2
    rw [hpos.1, hpos.2.1] at this
    omega
  have HPc : Lk (∀ W, Calls Try.prog 76 #[(Value.agg #[Value.int IntKind.i64 p.v.k, Value.int IntKind.i64 p.v.nd, Value.int IntKind.i64 p.v.a, Value.int IntKind.i64 p.v.n, Value.int IntKind.u64 ((p.v.o : Int)), Value.int IntKind.u64 ((p.v.ne : Int)), Value.slice p.A p.v.s.length p.c, Value.int IntKind.u64 p.v.ky, Value.int IntKind.i64 p.v.bo])] W fun e w' => ∃ v, e = .returned v ∧ Lk (w'.ownsRow W.heap.size 119 2 v (nP p.v) (flat (Vf.pcs (aM p.v) (aM p.v + cM p.v) (nP p.v)))) ∧ Lk (Below W.heap.size W w')) := ⟨fun W => by
    have := Pieces_ok p.v.k p.v.nd p.v.n p.v.o p.v.ne (aM p.v) (cM p.v) p.A p.v.s.length p.c p.v.ky p.v.bo W hpos.2.1 hpos.2.2.1 hpos.2.2.2.1 (by have h := hok.out.ok; rw [hpos.1, hpos.2.1] at h; exact h)
    rw [← hpos.1] at this
    exact this⟩
  have hwd := h.out.wd p (List.mem_cons_self ..)
  have HX : Lk (∀ W, Below w.heap.size w W → Calls Try.prog 77 #[(Value.agg #[Value.int IntKind.i64 p.v.k, Value.int IntKind.i64 p.v.nd, Value.int IntKind.i64 p.v.a, Value.int IntKind.i64 p.v.n, Value.int IntKind.u64 ((p.v.o : Int)), Value.int IntKind.u64 ((p.v.ne : Int)), Value.slice p.A p.v.s.length p.c, Value.int IntKind.u64 p.v.ky, Value.int IntKind.i64 p.v.bo]), .agg #[.int .i64 (atM p.v ex : Nat), .int .i64 (mM p.v ex : Nat)], .pointer (some ⟨nb, 0, none⟩)] W fun e w' =>
      ∃ (A2 : Option Addr) (c2 : Nat), e = .returned (.slice A2 (outS p.v ws ex).length c2) ∧ Lk (Tb.Own W.heap.size w' A2 (outS p.v ws ex)) ∧ Lk (PN w' nb ng nn ncap (wsS p.v ws ex) true) ∧ Lk (Only (fun k => k = nb ∨ k = ng) W w')) := ⟨fun W hb => by
    have := exec_any nb ng nn ncap ws p.v.nd p.v.n (aM p.v) p.v.o p.v.ne p.A p.c p.v.ky p.v.bo p.v.s (atM p.v ex) (mM p.v ex) W p.v.k hpos.2.2.2.2 ⟨Nd.below HN.out hb⟩ (by omega) hpc.2.1 (by omega) hpc.2.2.2.1 hpc.2.2.2.2 hwd.2.2.1 hwd.2.2.2 ⟨hwd.2.1⟩ ⟨(hwd.1.lies).on_ hb⟩ hok.out.o hok.out.ne
    rw [← hpos.1] at this
    exact this⟩
  have hol : (outS p.v ws ex).length ≤ mM p.v ex := by
    unfold outS outM
    split
    · simp
    · rw [List.length_take]; omega
  have HOx := Lk.mk (show ∀ x ∈ outS p.v ws ex, x < 18446744073709551616 from fun x hx => by
    unfold outS outM at hx
    split at hx
    · cases hx
    · exact cut_lt HN.out.row.lt _ _ x hx)
  have hxl : ex < (Vf.pcs (aM p.v) (aM p.v + cM p.v) (nP p.v)).length := by rw [Vf.pcs_len]; exact hx
  have HPx := Lk.mk (show (flat (Vf.pcs (aM p.v) (aM p.v + cM p.v) (nP p.v)))[ex * 2]? = some (.int .i64 (atM p.v ex : Nat)) ∧ (flat (Vf.pcs (aM p.v) (aM p.v + cM p.v) (nP p.v)))[ex * 2 + 1]? = some (.int .i64 (mM p.v ex : Nat)) by
    have hc := flat_at2 _ ex hxl
    have he : (Vf.pcs (aM p.v) (aM p.v + cM p.v) (nP p.v))[ex]'hxl = (atM p.v ex, mM p.v ex) := by simp [Vf.pcs, atM, mM]
    rw [he] at hc
    exact hc)
  unfold Ran
  have HNP := Lk.mk (Nat.lt_or_ge (ex + 1) (nP p.v))
  generalize flat (Vf.pcs (aM p.v) (aM p.v + cM p.v) (nP p.v)) = fl at *
  clear hxl hR hk hbo hcn hL hL1 hcl hinc hin hwd hpc hpos hok
  subst hV
  go_enter Try.func57, Try.ntmps57
  go_upto_region 1 with fail
  have hB0 := (Below.refl _ w).alloc (Nat.le_refl _) (.cells #[.int .i64 0, .slice none 0 0] 67)
  have HR0 := Lk.mk (h.out.below hB0)
  have HB0 := Lk.mk hB0
  have HZ0 := Lk.mk (heap_alloc_new w (.cells #[.int .i64 0, .slice none 0 0] 67))
  have HX0 := Lk.mk (show (World.cell? ((w.alloc (.cells #[.int .i64 0, .slice none 0 0] 67))) (Addr.mk g off none) = some (Value.int IntKind.i64 p.v.k) ∧ World.cell? ((w.alloc (.cells #[.int .i64 0, .slice none 0 0] 67))) (Addr.mk g (off + 1) none) = some (Value.int IntKind.i64 p.v.nd) ∧ World.cell? ((w.alloc (.cells #[.int .i64 0, .slice none 0 0] 67))) (Addr.mk g (off + 2) none) = some (Value.int IntKind.i64 p.v.a) ∧ World.cell? ((w.alloc (.cells #[.int .i64 0, .slice none 0 0] 67))) (Addr.mk g (off + 3) none) = some (Value.int IntKind.i64 p.v.n) ∧ World.cell? ((w.alloc (.cells #[.int .i64 0, .slice none 0 0] 67))) (Addr.mk g (off + 4) none) = some (Value.int IntKind.u64 ((p.v.o : Int))) ∧ World.cell? ((w.alloc (.cells #[.int .i64 0, .slice none 0 0] 67))) (Addr.mk g (off + 5) none) = some (Value.int IntKind.u64 ((p.v.ne : Int))) ∧ World.cell? ((w.alloc (.cells #[.int .i64 0, .slice none 0 0] 67))) (Addr.mk g (off + 6) none) = some (Value.slice p.A p.v.s.length p.c) ∧ World.cell? ((w.alloc (.cells #[.int .i64 0, .slice none 0 0] 67))) (Addr.mk g (off + 7) none) = some (Value.int IntKind.u64 p.v.ky) ∧ World.cell? ((w.alloc (.cells #[.int .i64 0, .slice none 0 0] 67))) (Addr.mk g (off + 8) none) = some (Value.int IntKind.i64 p.v.bo)) from
    ⟨(hB0.cell (block_lt_of_cell hcell.1)).trans hcell.1, (hB0.cell (block_lt_of_cell hcell.2.1)).trans hcell.2.1, (hB0.cell (block_lt_of_cell hcell.2.2.1)).trans hcell.2.2.1, (hB0.cell (block_lt_of_cell hcell.2.2.2.1)).trans hcell.2.2.2.1, (hB0.cell (block_lt_of_cell hcell.2.2.2.2.1)).trans hcell.2.2.2.2.1, (hB0.cell (block_lt_of_cell hcell.2.2.2.2.2.1)).trans hcell.2.2.2.2.2.1, (hB0.cell (block_lt_of_cell hcell.2.2.2.2.2.2.1)).trans hcell.2.2.2.2.2.2.1, (hB0.cell (block_lt_of_cell hcell.2.2.2.2.2.2.2.1)).trans hcell.2.2.2.2.2.2.2.1, (hB0.cell (block_lt_of_cell hcell.2.2.2.2.2.2.2.2)).trans hcell.2.2.2.2.2.2.2.2⟩)
  clear hB0 hcell
  generalize w.alloc _ = W0 at *
  have p3 := HR0.out.c3
  obtain ⟨x0, x1, x2, x3, x4, x5, x6, x7, x8⟩ := HX0.out
  go_upto_region 4 with fail
  clear x0 x1 x2 x3 x4 x5 x6 x7 x8 p3 HX0
  have hB1 := (Below.refl _ W0).alloc (Nat.le_refl _) (.cells #[Value.int IntKind.i64 p.v.k, Value.int IntKind.i64 p.v.nd, Value.int IntKind.i64 p.v.a, Value.int IntKind.i64 p.v.n, Value.int IntKind.u64 ((p.v.o : Int)), Value.int IntKind.u64 ((p.v.ne : Int)), Value.slice p.A p.v.s.length p.c, Value.int IntKind.u64 p.v.ky, Value.int IntKind.i64 p.v.bo] 56)
  have HX1 := Lk.mk (Bx.alloc W0 p.v.k p.v.nd p.v.a p.v.n p.v.o p.v.ne p.A p.v.s.length p.c p.v.ky p.v.bo 56)
  have HB1 := Lk.mk (HB0.out.trans (hB1.mono HB0.out.size))
  have HZ1 := Lk.mk ((hB1.block _ (Array.getElem?_eq_some_iff.1 HZ0.out).1).trans HZ0.out)
  clear hB1 HB0 HZ0 HR0
  generalize W0.alloc _ = W1 at *
  generalize W0.heap.size = bv at *
  obtain ⟨b0, b1, b2, b3, b4, b5, b6, b7, b8⟩ := HX1.out
  have hcast : (decide ((q.length : Int) + 1 = 0)) = false := decide_eq_false (by omega)
  have hcast2 : ((q.length : Int) + 1 == 0) = false := by simp; omega
  go_upto_region 8 with (first
    | (go_at_call 74; refine (HC.out _ HB1.out).mono ?_; rintro e w2 ⟨rfl, HB2⟩))
  have HB2w := Lk.mk (HB1.out.trans (HB2.out.mono HB1.out.size))
  have HZ2 := Lk.mk ((HB2.out.block _ (Array.getElem?_eq_some_iff.1 HZ1.out).1).trans HZ1.out)
  have HX2 := Lk.mk (HX1.out.on HB2.out)
  clear b0 b1 b2 b3 b4 b5 b6 b7 b8 HX1 HB1 HZ1 HB2 HC
  obtain ⟨b0, b1, b2, b3, b4, b5, b6, b7, b8⟩ := HX2.out
  go_upto_region 9 with (first
    | (go_at_call 76; refine (HPc.out _).mono ?_; rintro e w3 ⟨vp, rfl, HPw, HB3⟩))
  have HB3w := Lk.mk (HB2w.out.trans (HB3.out.mono HB2w.out.size))
  have HZ3 := Lk.mk ((HB3.out.block _ (Array.getElem?_eq_some_iff.1 HZ2.out).1).trans HZ2.out)
  have HX3 := Lk.mk (HX2.out.on HB3.out)
  obtain ⟨gp, cp, hvp, hcp, hp0, hp1⟩ : ∃ gp cp, vp = .slice (some ⟨gp, 0, none⟩) (nP p.v) cp ∧ (nP p.v ≤ cp ∧ cp ≤ 9223372036854775807) ∧ w3.cell? ⟨gp, ex * 2, none⟩ = some (.int .i64 (atM p.v ex : Nat)) ∧ w3.cell? ⟨gp, ex * 2 + 1, none⟩ = some (.int .i64 (mM p.v ex : Nat)) := by
    have h0 := HPw.out
    rcases h0.2 with ⟨_, h0⟩ | ⟨gp, cp, cur, rfl, _, _, h2, h3, _⟩
    · omega
    · have hc := HPx.out
      refine ⟨gp, cp, rfl, ⟨h2, by unfold maxLen at h3; omega⟩, ?_, ?_⟩
      · have := h0.cells (g := gp) rfl (ex * 2) _ hc.1
        rwa [add_zero_] at this
      · have := h0.cells (g := gp) rfl (ex * 2 + 1) _ hc.2
        rwa [add_zero_] at this
  subst hvp
  clear b0 b1 b2 b3 b4 b5 b6 b7 b8 HX2 HB2w HZ2 HB3 HPw HPc HPx
  have HP3 := Lk.mk (h1.out.below HB3w.out)
  have HN3 := Lk.mk (Nd.below HN.out HB3w.out)
  have HFn3 := Lk.mk (show (F nb ∨ nb = w.heap.size) ∧ (F ng ∨ ng = w.heap.size) from ⟨.inl HFn.out.1, .inl HFn.out.2⟩)
  have HF3 : Lk (∀ k, w3.heap.size ≤ k → ¬ (F k ∨ k = w.heap.size)) := ⟨fun k hk hh => hh.elim (HF.out k (Nat.le_trans HB3w.out.size hk)) (fun e => by have := (Array.getElem?_eq_some_iff.1 HZ3.out).1; omega)⟩
  have hrl2 : (r ++ outS p.v ws ex).length ≤ 4294967296 := by rw [List.length_append]; omega
  have hrl3 : r.length + (outS p.v ws ex).length ≤ 4294967296 := by omega
  have HOUT := Lk.mk (rfl : outS p.v ws ex = outS p.v ws ex)
  have HWS2 := Lk.mk (rfl : wsS p.v ws ex = wsS p.v ws ex)
  generalize hout : outS p.v ws ex = out at *
  generalize hws2 : wsS p.v ws ex = ws2 at *
  clear HOUT HWS2
  have HOUT := Lk.mk hout
  have HWS2 := Lk.mk hws2
  clear hout hws2
  go_cut [49] (fun _ wx => ∃ (B2 : Option Addr) (cb2 : Nat), Lk (R9 (fun k => F k ∨ k = w.heap.size) w3 wx b cl inc pnd (.slice (some ⟨g, off, none⟩) (q.length + 1) c) (p :: q) ex B cb r nb ng nn ncap out ws2 B2 cb2))
  case first =>
    obtain ⟨i0, hi, hz0, hz1, hz2⟩ := info_parts u64info
    have hm1 : r.length + out.length ≤ maxLen := by unfold maxLen; omega
    have hm2 : (r.length + out.length) * 8 ≤ 140737488355328 := by omega
    obtain ⟨b0, b1, b2, b3, b4, b5, b6, b7, b8⟩ := HX3.out
    have q4 := HP3.out.c4
    have q5 := HP3.out.c5
    have C9 := HX.out w3.drew HB3w.out.drew
    have HE := Lk.mk (fun (w4 w6 : World) (A6 : Option Addr) (c6 : Nat) (HN4 : Lk (PN w4 nb ng nn ncap ws2 true)) HO4 HT6 HG6 HE6 => Lk.mk (r9_end (w4 := w4) (w6 := w6) (A6 := A6) (c6 := c6) HP3 HN3 HFn3 HBn HF3 HN4 HO4 HOx ⟨hrl2⟩ HT6 HG6 HE6))
    have HQ := Lk.mk (fun (w4 : World) (HO4 : Lk (Only (fun k => k = nb ∨ k = ng) w3.drew w4)) => ex_facts HP3 HN3 HBn (w4 := w4) ⟨⟨HO4.out.os, HO4.out.tape, HO4.out.output, HO4.out.size, HO4.out.block⟩⟩)
    have HBb := Lk.mk (show some b ≠ (Value.slice B r.length cb).ownBlock from fun e => HP3.out.wb b e.symm rfl)
    have hexi : (0 : Int) ≤ ex := by omega
    have hexl : (ex : Int) < (nP p.v : Nat) := by omega
    clear HX HX3 hlen h h1 HN HFn HF HZ3 HNP HP3 HN3 HFn3 HF3 HBn HOx
    go_region_law (first
      | (refine step_tl rfl (.tmp 38) (.tmp 48) 54 rfl 53 i0 (.int .u64 0) 1 8 Try.underlying54 hi hz0 hz1 hz2 rfl (by decide) (.slice B r.length cb) r.length (r.map u64v) (by simp [Act.eval, Act.put]) HT4.out A2 out.length c2 (out.map u64v) (by simp [Act.eval, Act.put]) HF4.out (words_one _) hm1 hm2 ?_; intro v6 w6 HT6 HG6 HE6 HK6; have hc6 := HG6.out.cell hc4 HBb.out; have hf6 := (World.frozen?_of_block (a := ⟨b, 5, none⟩) (HG6.out.block b (block_lt_of_cell hc4) HBb.out)).trans hf4; have hS6 := HT6.out.slice; obtain ⟨A6, c6, rfl⟩ := hS6)
      | (rw [if_pos (by rfl)]; go_simp; go_at_call 77; refine C9.mono ?_; rintro e w4 ⟨A2, c2, rfl, HO4, HN4, HOn4⟩; have HQ4 := HQ.out w4 HOn4; have HOn := HQ4.1; have HT4 := HQ4.2.1; have hc4 := HQ4.2.2.1; have hf4 := HQ4.2.2.2; clear HQ4; have HF4 := Lk.mk (From.words HO4.out.lies); go_simp))
    all_goals go_wp2
    all_goals go_meet
    all_goals exact ⟨A6, c6, HE.out _ _ _ _ HN4 HOn HT6 HG6 HE6⟩
  case rest =>
    obtain ⟨B2, cb2, H9⟩ := hcut
    have hpp := H9.out.pp
    have hzs : w.heap.size < w3.heap.size := (Array.getElem?_eq_some_iff.1 HZ3.out).1
    have hbl : b < w.heap.size := h.out.lt
    have hnl : nb < w.heap.size ∧ ng < w.heap.size := ⟨HN.out.size, HN.out.row.size⟩
    have hBl : ∀ k, (Value.slice B r.length cb).ownBlock = some k → k < w.heap.size := h.out.ow.lt
    have hVl : ∀ k, (Value.slice (some ⟨g, off, none⟩) (q.length + 1) c).ownBlock = some k → k < w.heap.size := h.out.own.lt
    have hzc := (H9.out.only.block w.heap.size hzs (fun hh => by
      rcases hh with e | e | e | e
      · omega
      · have := hBl _ e; omega
      · omega
      · omega)).trans HZ3.out
    have HZc := Lk.mk hzc
    have HBz := Lk.mk (show ∀ k, (Value.slice B2 (r ++ out).length cb2).ownBlock = some k → k ≠ w.heap.size from fun k hk e => by
      obtain ⟨cur, hc⟩ := hpp.ow.typed k hk
      exact ne_typed hc hzc (by decide) e)
    have HPc4 := Lk.mk (hpp.setEx (ex + 1))
    have HNc := Lk.mk (H9.out.pn.on (S := fun k => k = b) (w' := wc.setCell ⟨b, 4, none⟩ (.int .i64 ((ex + 1 : Nat) : Int))) ((Only.refl (fun k => k = b) wc).setCell (p := ⟨b, 4, none⟩) (.inl rfl) _) (ne_typed H9.out.pn.node hpp.z (by decide)) (by obtain ⟨cur, hc⟩ := Row.typed H9.out.pn.row; exact ne_typed hc hpp.z (by decide)))
    have HOc := Lk.mk (((Only.of_below (S := fun k => k = b ∨ (Value.slice (some ⟨g, off, none⟩) (q.length + 1) c).ownBlock = some k ∨ (Value.slice B r.length cb).ownBlock = some k ∨ k = nb ∨ k = ng) HB3w.out).trans (H9.out.only.mono (fun k hk => hk.imp id .inr))).setCell (p := ⟨b, 4, none⟩) (.inl (.inl rfl)) (.int .i64 ((ex + 1 : Nat) : Int)))
    have HZ4 := Lk.mk ((Below.heap_setCell wc ⟨b, 4, none⟩ (.int .i64 ((ex + 1 : Nat) : Int)) w.heap.size (by show w.heap.size ≠ b; omega)).trans hzc)
    have q4 := hpp.c4
    have fq4 := hpp.fr 4
    have hexl : (ex : Int) + 1 ≤ nP p.v := by omega
    have hnpl : nP p.v ≤ 9223372036854775807 := by omega
    have HNew := Lk.mk (fun k (hk : (Value.slice B2 (r ++ out).length cb2).ownBlock = some k) => show (Value.slice B r.length cb).ownBlock = some k ∨ (w.heap.size ≤ k ∧ k < wc.heap.size) from (H9.out.new k hk).imp id (fun h => ⟨by omega, h.2⟩))
    clear hpp hzc H9 HX HX3 HP3 HN3 HFn3 HF3 HBn HFn HF hzs
    have he1 : ((ex + 1 : Nat) : Int) = ex + 1 := by omega
    rw [he1] at HPc4 HNc HOc HZ4
    clear he1
    have hlt0 : b < (wc.setCell ⟨b, 4, none⟩ (.int .i64 ((ex : Int) + 1))).heap.size := HPc4.out.lt
    have HNew : Lk (∀ k, (Value.slice B2 (r ++ out).length cb2).ownBlock = some k → (Value.slice B r.length cb).ownBlock = some k ∨ (w.heap.size ≤ k ∧ k < (wc.setCell ⟨b, 4, none⟩ (.int .i64 ((ex : Int) + 1))).heap.size)) := ⟨fun k hk => (HNew.out k hk).imp id (fun h => ⟨h.1, by simpa using h.2⟩)⟩
    go_upto_region 11 with fail
    generalize wc.setCell _ _ = w5 at *
    have q4 := HPc4.out.c4
    have hV5 := HPc4.out
    by_cases hm : ex + 1 < nP p.v
    · have hd : decide (ex + 1 < nP p.v) = true := decide_eq_true hm
      have hd2 : decide ((ex : Int) + 1 < (nP p.v : Nat)) = true := decide_eq_true (by omega)
      have z0 := (cell_of_row w5 w.heap.size 0 _ _ _ HZ4.out).trans rfl
      have z1 := (cell_of_row w5 w.heap.size 1 _ _ _ HZ4.out).trans rfl
      have g0 := frozen_of_row w5 w.heap.size 0 _ _ HZ4.out
      have g1 := frozen_of_row w5 w.heap.size 1 _ _ HZ4.out
      go_wp2
      have HZ8 : ((w5.setCell ⟨w.heap.size, 0, none⟩ (.int .i64 0)).setCell ⟨w.heap.size, 1, none⟩ (.slice none 0 0)).heap[w.heap.size]? = some (.cells #[.int .i64 0, .slice none 0 0] 67 (0, 0)) := heap_setCell_same _ w.heap.size 1 _ _ _ (heap_setCell_same w5 w.heap.size 0 _ _ _ HZ4.out)
      have hO8 := ((Only.refl (fun k => k = w.heap.size) w5).setCell (p := ⟨w.heap.size, 0, none⟩) (.inl rfl) (.int .i64 0)).setCell (p := ⟨w.heap.size, 1, none⟩) (.inl rfl) (.slice none 0 0)
      have hP8 := HPc4.out.on hO8 (fun e => by omega) (fun g' hg' e => by have := hVl g' hg'; omega) HBz.out (fun k hk => .inl (.inr hk))
      have hN8 := HNc.out.on hO8 (fun e => by omega) (fun e => by omega)
      have hOf := (HOc.out.setCell (p := ⟨w.heap.size, 0, none⟩) (.inr (Nat.le_refl _)) (.int .i64 0)).setCell (p := ⟨w.heap.size, 1, none⟩) (.inr (Nat.le_refl _)) (.slice none 0 0)
      have hout := HOUT.out
      have hws2 := HWS2.out
      clear HOUT HWS2
      subst hout hws2
      refine bodyPost_ret (results_done rfl _ _ w.heap.size _ rfl rfl HZ8) rfl ⟨⟨hN8⟩, ⟨hOf⟩, .inl ⟨hm, B2, cb2, rfl, ⟨hP8.less (fun k hk => hk.elim (fun h => .inl (.inl h)) .inr) (.inl h.out.f) (fun g' hg' => .inl (h.out.vf g' hg')) (fun g' hg' => .inr hg')⟩, ⟨fun k hk => (HNew.out k hk).imp id (fun h => ⟨h.1, by simpa using h.2⟩)⟩⟩⟩
    · have hme : ex + 1 = nP p.v := by omega
      have hd : decide (ex + 1 < nP p.v) = false := decide_eq_false hm
      have hd2 : decide ((ex : Int) + 1 < (nP p.v : Nat)) = false := decide_eq_false (by omega)
      have z0 := (cell_of_row w5 w.heap.size 0 _ _ _ HZ4.out).trans rfl
      have z1 := (cell_of_row w5 w.heap.size 1 _ _ _ HZ4.out).trans rfl
      have g0 := frozen_of_row w5 w.heap.size 0 _ _ HZ4.out
      have g1 := frozen_of_row w5 w.heap.size 1 _ _ HZ4.out
      generalize hro : r ++ out = ro at *
      have HRO := Lk.mk hro
      clear hro
      have q5 := hV5.c5
      have HLB := Lk.mk (tl_lies hV5.ow)
      have HVW := Lk.mk hV5.vw
      have HWB := Lk.mk hV5.wb
      clear hV5
      go_upto_region 14 with fail
      have hz6 : ((w5.setCell ⟨w.heap.size, 0, none⟩ (.int .i64 0)).setCell ⟨w.heap.size, 1, none⟩ (.slice B2 ro.length cb2)).heap[w.heap.size]? = some (.cells #[.int .i64 0, .slice B2 ro.length cb2] 67 (0, 0)) := heap_setCell_same _ w.heap.size 1 _ _ _ (heap_setCell_same w5 w.heap.size 0 _ _ _ HZ4.out)
      have hO6 := ((Only.refl (fun k => k = w.heap.size) w5).setCell (p := ⟨w.heap.size, 0, none⟩) (.inl rfl) (.int .i64 0)).setCell (p := ⟨w.heap.size, 1, none⟩) (.inl rfl) (.slice B2 ro.length cb2)
      have HZ6 := Lk.mk hz6
      have HP6 := Lk.mk (HPc4.out.on hO6 (fun e => by omega) (fun g' hg' e => by have := hVl g' hg'; omega) HBz.out (fun k hk => .inl (.inr hk)))
      have HN6 := Lk.mk (HNc.out.on hO6 (fun e => by omega) (fun e => by omega))
      have HO6 := Lk.mk ((HOc.out.setCell (p := ⟨w.heap.size, 0, none⟩) (.inr (Nat.le_refl _)) (.int .i64 0)).setCell (p := ⟨w.heap.size, 1, none⟩) (.inr (Nat.le_refl _)) (.slice B2 ro.length cb2))
      have HL6 := Lk.mk (lies_only HLB.out hO6 (fun ad e hh => HBz.out ad.block (by rw [e]; rfl) hh))
      clear hz6 hO6 HZ4 HPc4 HNc HOc HLB z0 z1 g0 g1 q4 q5
      generalize (w5.setCell _ _).setCell _ _ = w6 at *
      have HLv := Lk.mk (leave_any _ b cl inc pnd _ p q (ex + 1) B2 cb2 ro w6 HP6)
      go_upto_region 15 with (first
        | (go_at_call 75; refine HLv.out.mono ?_; rintro e w7 ⟨V2, rfl, HP7, HO7, HE7⟩))
      have hz7 := (HO7.out.block w.heap.size (Array.getElem?_eq_some_iff.1 HZ6.out).1 (fun hh => hh.elim (fun e => by omega) (fun e => by have := hVl _ e; omega))).trans HZ6.out
      have HZ7 := Lk.mk hz7
      have HN7 := Lk.mk (HN6.out.on HO7.out (fun hh => hh.elim (fun e => ne_typed HN6.out.node HP6.out.z (by decide) e) (fun e => by obtain ⟨cur, hc⟩ := HP6.out.own.typed _ e; exact ne_typed HN6.out.node hc (by decide) rfl)) (fun hh => by
        obtain ⟨cur2, hc2⟩ := Row.typed HN6.out.row
        exact hh.elim (fun e => ne_typed hc2 HP6.out.z (by decide) e) (fun e => by obtain ⟨cur, hc⟩ := HP6.out.own.typed _ e; exact ne_typed hc2 hc (by decide) rfl)))
      have HL7 := Lk.mk (lies_only HL6.out HO7.out (fun ad e hh => hh.elim (fun e' => HWB.out ad.block (by rw [e]; rfl) e') (fun e' => HVW.out ad.block e' (by rw [e]; rfl))))
      have HO7w := Lk.mk (HO6.out.trans (HO7.out.mono (fun k hk => hk.imp id .inl)))
      clear hz7 HZ6 HP6 HN6 HO6 HL6 HLv
      have z0 := (cell_of_row w7 w.heap.size 0 _ _ _ HZ7.out).trans rfl
      have z1 := (cell_of_row w7 w.heap.size 1 _ _ _ HZ7.out).trans rfl
      have g0 := frozen_of_row w7 w.heap.size 0 _ _ HZ7.out
      have g1 := frozen_of_row w7 w.heap.size 1 _ _ HZ7.out
      go_wp2
      have HZ8 : ((w7.setCell ⟨w.heap.size, 0, none⟩ (.int .i64 0)).setCell ⟨w.heap.size, 1, none⟩ (.slice B2 ro.length cb2)).heap[w.heap.size]? = some (.cells #[.int .i64 0, .slice B2 ro.length cb2] 67 (0, 0)) := heap_setCell_same _ w.heap.size 1 _ _ _ (heap_setCell_same w7 w.heap.size 0 _ _ _ HZ7.out)
      have hO8 := ((Only.refl (fun k => k = w.heap.size) w7).setCell (p := ⟨w.heap.size, 0, none⟩) (.inl rfl) (.int .i64 0)).setCell (p := ⟨w.heap.size, 1, none⟩) (.inl rfl) (.slice B2 ro.length cb2)
      have hP8 := HP7.out.on hO8 (fun e => by omega) (fun g' hg' e => by rw [HE7.out] at hg'; have := hVl g' hg'; omega) (fun g' hg' => by cases hg') (fun k hk => .inl (.inr hk))
      have hN8 := HN7.out.on hO8 (fun e => by omega) (fun e => by omega)
      have hL8 := lies_only HL7.out hO8 (fun ad e hh => HBz.out ad.block (by rw [e]; rfl) hh)
      have hOf := (HO7w.out.setCell (p := ⟨w.heap.size, 0, none⟩) (.inr (Nat.le_refl _)) (.int .i64 0)).setCell (p := ⟨w.heap.size, 1, none⟩) (.inr (Nat.le_refl _)) (.slice B2 ro.length cb2)
      have hro := HRO.out
      clear HRO
      subst hro
      have hout := HOUT.out
      have hws2 := HWS2.out
      clear HOUT HWS2
      subst hout hws2
      refine bodyPost_ret (results_done rfl _ _ w.heap.size _ rfl rfl HZ8) rfl ⟨⟨hN8⟩, ⟨hOf⟩, .inr ⟨hme, V2, B2, cb2, rfl, ⟨hP8.less (fun k hk => .inl (.inl hk)) h.out.f (fun g' hg' => h.out.vf g' (by rw [← HE7.out]; exact hg')) (fun g' hg' => by cases hg')⟩, ⟨hL8, fun k hk => (HNew.out k hk).imp id (fun h => h.1)⟩, HE7⟩⟩
end
end Go.Proofs.Ytpehhldfegjajaa.Ti

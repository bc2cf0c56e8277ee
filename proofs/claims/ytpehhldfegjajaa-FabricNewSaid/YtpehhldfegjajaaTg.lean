/-
  The program's Step: at an empty queue, and where the node refuses.
-/
import Derived.Test.YtpehhldfegjajaaTf
import Derived.Test.YtpehhldfegjajaaHq
import Derived.Test.YtpehhldfegjajaaVg
namespace Go.Proofs.Ytpehhldfegjajaa.Tg
open Go.ChangeShapes Go.WideShapes Go.ChangeAt Go.RowKit Ga Gb Na Nb Nc Nd_ Va Vb Vd Ve Vf Vg Qa Qb Qd Qj Ta Tb Tc Td Te Tf
set_option linter.unusedVariables false
set_option linter.unusedSimpArgs false
set_option maxHeartbeats 1000000
set_option maxRecDepth 100000
def cntM (v : Mv) : Int := cnt v.k v.n v.s.length
/-- A verb that a pair takes. -/
structure OkV (v : Mv) : Prop where
  o : v.o < 18446744073709551616
  ne : v.ne < 18446744073709551616
  bo : v.bo ≤ 9223372036854775807
  s : wide v.s
  ok : validC v.k v.nd v.a (cntM v) 5 256 = 0
def aM (v : Mv) : Nat := v.a.toNat
def cM (v : Mv) : Nat := (cntM v).toNat
def nP (v : Mv) : Nat := numP (aM v) (aM v + cM v)
def atM (v : Mv) (ex : Nat) : Nat := cutp (aM v) (aM v + cM v) ex
def mM (v : Mv) (ex : Nat) : Nat := cutp (aM v) (aM v + cM v) (ex + 1) - cutp (aM v) (aM v + cM v) ex
theorem OkV.pos {v : Mv} (h : OkV v) : v.a = aM v ∧ cntM v = cM v ∧ 1 ≤ cM v ∧ aM v + cM v ≤ 2048 ∧ (v.k = 1 ∨ v.k = 2 ∨ v.k = 3 ∨ v.k = 4) := by
  have hp := valid_pos h.ok
  refine ⟨by unfold aM; omega, by unfold cM; omega, by unfold cM; omega, by unfold aM cM; omega, ?_⟩
  have h1 := hp.2.1
  unfold cntM cnt at h1
  by_cases e1 : v.k = 1
  · exact .inl e1
  · rw [if_neg e1] at h1
    by_cases e2 : v.k = 2
    · exact .inr (.inl e2)
    · rw [if_neg e2] at h1
      by_cases e3 : v.k = 3 ∨ v.k = 4
      · exact .inr (.inr e3)
      · rw [if_neg e3] at h1; omega
theorem OkV.piece {v : Mv} {ex : Nat} (h : OkV v) (hx : ex < nP v) : aM v ≤ atM v ex ∧ 1 ≤ mM v ex ∧ atM v ex + mM v ex ≤ aM v + cM v ∧ (v.k = 3 ∨ v.k = 4 → mM v ex = 1) ∧ (v.k = 2 → aM v ≤ atM v ex ∧ atM v ex - aM v + mM v ex ≤ v.s.length) := by
  obtain ⟨h1, h2, h3, h4, h5⟩ := h.pos
  have hlt := cut_lt' (a := aM v) (e := aM v + cM v) (by omega) hx
  have hn := cut_next (a := aM v) (e := aM v + cM v) (by omega) hx
  have ha : aM v ≤ atM v ex := by
    unfold atM cutp
    unfold nP numP at hx
    split
    · omega
    · omega
  have hm1 : 1 ≤ mM v ex := by unfold mM; omega
  have hm2 : atM v ex + mM v ex ≤ aM v + cM v := by unfold mM atM; omega
  refine ⟨ha, hm1, hm2, fun hk => ?_, fun hk => ⟨ha, ?_⟩⟩
  · have : cM v = 1 := by
      unfold cM cntM cnt
      rw [if_neg (by omega), if_neg (by omega), if_pos hk]
      rfl
    omega
  · have : cM v = v.s.length := by
      unfold cM cntM cnt
      rw [if_neg (by omega), if_pos hk]
      rfl
    omega
/-- The node's answer to a verb; what the next piece reads, and what it makes of the node's words. -/
def codeV (cl inc L : Nat) (ws : List Nat) (up : Bool) (v : Mv) : Int := codeM cl inc v.k v.nd v.a (cntM v) v.ky v.bo L ws up
def outS (v : Mv) (ws : List Nat) (ex : Nat) : List Nat := outM v.k ws (atM v ex) (mM v ex)
def wsS (v : Mv) (ws : List Nat) (ex : Nat) : List Nat := wsM v.k (aM v) v.o v.ne v.s ws (atM v ex) (mM v ex)
theorem codeV_ok {cl inc L : Nat} {ws : List Nat} {up : Bool} {v : Mv} (h : codeV cl inc L ws up v = 0) : up = true ∧ validC v.k v.nd v.a (cntM v) 5 L = 0 := by
  unfold codeV codeM at h
  cases up with
  | false => rw [if_pos rfl] at h; omega
  | true =>
    rw [if_neg (by simp)] at h
    by_cases hv : validC v.k v.nd v.a (cntM v) 5 L = 0
    · exact ⟨rfl, hv⟩
    · rw [if_pos hv] at h; omega
theorem results_done {fn : Func} {p u : Tmp} (h : fn.results = #[.cell p 67, .tmp u]) (tmps : Array Value) (w : World) (g : Nat) (cs : Array Value) (hcs : cs.size = 2) (hp : tmps.getD p undef = .pointer (some ⟨g, 0, none⟩)) (hg : w.heap[g]? = some (.cells cs 67 (0, 0))) :
    (results fn tmps).run Try.prog w = .ok (.tuple #[.agg cs, tmps.getD u undef]) w := by
  have hi : (Try.prog.info? 67).map (·.size) = some cs.size := by rw [hcs]; kernel_rfl
  have hl := run_loadVar_row (P := Try.prog) w g 67 67 cs (0, 0) _ hg done_under rfl hi
  have hp' : tmps[p]?.getD undef = .pointer (some ⟨g, 0, none⟩) := by simpa using hp
  simp [results, h, hp', asAddr, hl, Result.andThen]
theorem _root_.Go.Proofs.Ytpehhldfegjajaa.Tc.PP.less {F F' : Nat → Prop} {w : World} {b : Nat} {cl inc nd : Int} {V : Value} {q : List Pq} {ex : Nat} {B : Option Addr} {cb : Nat} {r : List Nat} (h : PP F' w b cl inc nd V q ex B cb r) (hs : ∀ k, F k → F' k) (hb : F b) (hv : ∀ g, V.ownBlock = some g → F g) (hw : ∀ g, (Value.slice B r.length cb).ownBlock = some g → F g) : PP F w b cl inc nd V q ex B cb r :=
  ⟨h.z, hb, h.own, hv, h.ow, hw, fun p hp => ⟨LiesF.less_ (h.wd p hp).1 hs, (h.wd p hp).2⟩, h.wr⟩
/-- The first of the queue, cell by cell. -/
theorem first_q {F : Nat → Prop} {w : World} {b : Nat} {cl inc nd : Int} {V : Value} {p : Pq} {q : List Pq} {ex : Nat} {B : Option Addr} {cb : Nat} {r : List Nat} (h : PP F w b cl inc nd V (p :: q) ex B cb r) : ∃ g off c, V = .slice (some ⟨g, off, none⟩) (q.length + 1) c ∧ (World.cell? w (Addr.mk g off none) = some (Value.int IntKind.i64 p.v.k) ∧ World.cell? w (Addr.mk g (off + 1) none) = some (Value.int IntKind.i64 p.v.nd) ∧ World.cell? w (Addr.mk g (off + 2) none) = some (Value.int IntKind.i64 p.v.a) ∧ World.cell? w (Addr.mk g (off + 3) none) = some (Value.int IntKind.i64 p.v.n) ∧ World.cell? w (Addr.mk g (off + 4) none) = some (Value.int IntKind.u64 ((p.v.o : Int))) ∧ World.cell? w (Addr.mk g (off + 5) none) = some (Value.int IntKind.u64 ((p.v.ne : Int))) ∧ World.cell? w (Addr.mk g (off + 6) none) = some (Value.slice p.A p.v.s.length p.c) ∧ World.cell? w (Addr.mk g (off + 7) none) = some (Value.int IntKind.u64 p.v.ky) ∧ World.cell? w (Addr.mk g (off + 8) none) = some (Value.int IntKind.i64 p.v.bo)) ∧ q.length + 1 ≤ 9223372036854775807 := by
  obtain ⟨g, off, c, rfl, h1, h2, hfz, hc⟩ := h.own.cells (by simp)
  rw [List.length_cons] at h1
  refine ⟨g, off, c, rfl, ⟨hc 0 _ rfl, hc 1 _ rfl, hc 2 _ rfl, hc 3 _ rfl, hc 4 _ rfl, hc 5 _ rfl, hc 6 _ rfl, hc 7 _ rfl, hc 8 _ rfl⟩, by unfold maxLen at h2; omega⟩
section
variable (F : Nat → Prop) (b : Nat) (cl inc : Nat) (pnd : Int) (V : Value) (p : Pq) (q : List Pq) (ex : Nat) (B : Option Addr) (cb : Nat) (r : List Nat) (nb ng nn ncap : Nat) (ws : List Nat) (up : Bool) (L : Nat) (w : World)
theorem step_empty (N : Value) (h : Lk (PP F w b cl inc pnd V [] ex B cb r)) :
    Calls Try.prog 57 #[.pointer (some ⟨b, 0, none⟩), N] w fun e w' => e = .returned (.tuple #[.agg #[.int .i64 0, .slice none 0 0], .bool false]) ∧ Lk (Below w.heap.size w w') := by
  obtain ⟨A, c, hQ⟩ := h.out.own.slice
  subst hQ
  go_enter Try.func57, Try.ntmps57
  go_upto_region 1 with fail
  have hB0 := (Below.refl _ w).alloc (Nat.le_refl _) (.cells #[.int .i64 0, .slice none 0 0] 67)
  have HR0 := Lk.mk (h.out.below hB0)
  have HB0 := Lk.mk hB0
  have HZ0 := Lk.mk (heap_alloc_new w (.cells #[.int .i64 0, .slice none 0 0] 67))
  clear hB0
  generalize w.alloc _ = W0 at *
  have p3 := HR0.out.c3
  have z0 := (cell_of_row W0 w.heap.size 0 _ _ _ HZ0.out).trans rfl
  have z1 := (cell_of_row W0 w.heap.size 1 _ _ _ HZ0.out).trans rfl
  have g0 := frozen_of_row W0 w.heap.size 0 _ _ HZ0.out
  have g1 := frozen_of_row W0 w.heap.size 1 _ _ HZ0.out
  simp only [List.length_nil] at p3
  go_wp2
  have HZ8 : ((W0.setCell ⟨w.heap.size, 0, none⟩ (.int .i64 0)).setCell ⟨w.heap.size, 1, none⟩ (.slice none 0 0)).heap[w.heap.size]? = some (.cells #[.int .i64 0, .slice none 0 0] 67 (0, 0)) := heap_setCell_same _ w.heap.size 1 _ _ _ (heap_setCell_same W0 w.heap.size 0 _ _ _ HZ0.out)
  exact bodyPost_ret (results_done rfl _ _ w.heap.size _ rfl rfl HZ8) rfl ⟨rfl, ⟨(HB0.out.setCell (p := ⟨w.heap.size, 0, none⟩) (Nat.le_refl _) _).setCell (p := ⟨w.heap.size, 1, none⟩) (Nat.le_refl _) _⟩⟩
theorem step_no (h : Lk (PP F w b cl inc pnd V (p :: q) ex B cb r)) (HN : Lk (PN w nb ng nn ncap ws up)) (hL : nn = 8 * L) (hL1 : 1 ≤ L ∧ L ≤ 256) (hcl : cl ≤ 5) (hinc : inc ≤ 59) (hok : Lk (OkV p.v)) (hk : codeV cl inc L ws up p.v ≠ 0) :
    Calls Try.prog 57 #[.pointer (some ⟨b, 0, none⟩), .pointer (some ⟨nb, 0, none⟩)] w fun e w' => ∃ V2 : Value, e = .returned (.tuple #[.agg #[.int .i64 (codeV cl inc L ws up p.v), .slice none 0 0], .bool true]) ∧ Lk (PP F w' b cl inc pnd V2 q 0 none 0 []) ∧ Lk (Only (fun k => k = b ∨ V.ownBlock = some k) w w') ∧ Lk (V2.ownBlock = V.ownBlock) := by
  obtain ⟨g, off, c, hV, hcell, hlen⟩ := first_q h.out
  have hbo := hok.out.bo
  have hcn : cnt p.v.k p.v.n p.v.s.length ≤ 9223372036854775807 := by
    have h1 := hok.out.pos
    have : cnt p.v.k p.v.n p.v.s.length = cM p.v := h1.2.1
    omega
  have HC := Lk.mk (fun W (hb : Below w.heap.size w W) => check_q F b cl inc pnd V (p :: q) ex B cb r p.v.k p.v.nd p.v.a p.v.n p.v.o p.v.ne p.A p.v.s.length p.c p.v.ky p.v.bo nb ng nn ncap ws up L W ⟨h.out.below hb⟩ ⟨Nd.below HN.out hb⟩ hL hL1 hcl hinc hcn hbo)
  have h1 := Lk.mk (h.out.to (F' := fun k => F k ∨ k = w.heap.size) (fun k hk => .inl hk) (fun k hk => hk.imp id (fun e => by omega)))
  have HLv := Lk.mk (fun W (hp : Lk (PP (fun k => F k ∨ k = w.heap.size) W b cl inc pnd V (p :: q) ex B cb r)) => leave_any (fun k => F k ∨ k = w.heap.size) b cl inc pnd V p q ex B cb r W hp)
  have hR : codeM cl inc p.v.k p.v.nd p.v.a (cnt p.v.k p.v.n p.v.s.length) p.v.ky p.v.bo L ws up = codeV cl inc L ws up p.v := rfl
  rw [hR] at HC
  generalize codeV cl inc L ws up p.v = R at *
  have hbt : (R != 0) = true := bne_iff_ne.2 hk
  clear hR hk hbo hcn HN hL hL1 hcl hinc
  subst hV
  go_enter Try.func57, Try.ntmps57
  go_upto_region 1 with fail
  have hB0 := (Below.refl _ w).alloc (Nat.le_refl _) (.cells #[.int .i64 0, .slice none 0 0] 67)
  have HR0 := Lk.mk (h.out.below hB0)
  have HB0 := Lk.mk hB0
  have HZ0 := Lk.mk (heap_alloc_new w (.cells #[.int .i64 0, .slice none 0 0] 67))
  have HX0 := Lk.mk (show (World.cell? ((w.alloc (.cells #[.int .i64 0, .slice none 0 0] 67))) (Addr.mk g off none) = some (Value.int IntKind.i64 p.v.k) ∧ World.cell? ((w.alloc (.cells #[.int .i64 0, .slice none 0 0] 67))) (Addr.mk g (off + 1) none) = some (Value.int IntKind.i64 p.v.nd) ∧ World.cell? ((w.alloc (.cells #[.int .i64 0, .slice none 0 0] 67))) (Addr.mk g (off + 2) none) = some (Value.int IntKind.i64 p.v.a) ∧ World.cell? ((w.alloc (.cells #[.int .i64 0, .slice none 0 0] 67))) (Addr.mk g (off + 3) none) = some (Value.int IntKind.i64 p.v.n) ∧ World.cell? ((w.alloc (.cells #[.int .i64 0, .slice none 0 0] 67))) (Addr.mk g (off + 4) none) = some (Value.int IntKind.u64 ((p.v.o : Int))) ∧ World.cell? ((w.alloc (.cells #[.int .i64 0, .slice none 0 0] 67))) (Addr.mk g (off + 5) none) = some (Value.int IntKind.u64 ((p.v.ne : Int))) ∧ World.cell? ((w.alloc (.cells #[.int .i64 0, .slice none 0 0] 67))) (Addr.mk g (off + 6) none) = some (Value.slice p.A p.v.s.length p.c) ∧ World.cell? ((w.alloc (.cells #[.int .i64 0, .slice none 0 0] 67))) (Addr.mk g (off + 7) none) = some (Value.int IntKind.u64 p.v.ky) ∧ World.cell? ((w.alloc (.cells #[.int .i64 0, .slice none 0 0] 67))) (Addr.mk g (off + 8) none) = some (Value.int IntKind.i64 p.v.bo)) from
    ⟨(hB0.cell (block_lt_of_cell hcell.1)).trans hcell.1, (hB0.cell (block_lt_of_cell hcell.2.1)).trans hcell.2.1, (hB0.cell (block_lt_of_cell hcell.2.2.1)).trans hcell.2.2.1, (hB0.cell (block_lt_of_cell hcell.2.2.2.1)).trans hcell.2.2.2.1, (hB0.cell (block_lt_of_cell hcell.2.2.2.2.1)).trans hcell.2.2.2.2.1, (hB0.cell (block_lt_of_cell hcell.2.2.2.2.2.1)).trans hcell.2.2.2.2.2.1, (hB0.cell (block_lt_of_cell hcell.2.2.2.2.2.2.1)).trans hcell.2.2.2.2.2.2.1, (hB0.cell (block_lt_of_cell hcell.2.2.2.2.2.2.2.1)).trans hcell.2.2.2.2.2.2.2.1, (hB0.cell (block_lt_of_cell hcell.2.2.2.2.2.2.2.2)).trans hcell.2.2.2.2.2.2.2.2⟩)
  clear hB0 hcell
  generalize w.alloc _ = W0 at *
  have p3 := HR0.out.c3
  obtain ⟨x0, x1, x2, x3, x4, x5, x6, x7, x8⟩ := HX0.out
  go_upto_region 4 with fail
  clear x0 x1 x2 x3 x4 x5 x6 x7 x8 p3 HX0
  have hB1 := (Below.refl _ W0).alloc (Nat.le_refl _) (.cells #[Value.int IntKind.i64 p.v.k, Value.int IntKind.i64 p.v.nd, Value.int IntKind.i64 p.v.a, Value.int IntKind.i64 p.v.n, Value.int IntKind.u64 ((p.v.o : Int)), Value.int IntKind.u64 ((p.v.ne : Int)), Value.slice p.A p.v.s.length p.c, Value.int IntKind.u64 p.v.ky, Value.int IntKind.i64 p.v.bo] 56)
  have HX1 := Lk.mk (Bx.alloc W0 p.v.k p.v.nd p.v.a p.v.n p.v.o p.v.ne p.A p.v.s.length p.c p.v.ky p.v.bo 56)
  have HB1 := Lk.mk (HB0.out.trans (hB1.mono HB0.out.size))
  have HZ1 := Lk.mk ((hB1.block _ (Array.getElem?_eq_some_iff.1 HZ0.out).1).trans HZ0.out)
  clear hB1 HB0 HZ0 HR0
  generalize W0.alloc _ = W1 at *
  generalize W0.heap.size = bv at *
  obtain ⟨b0, b1, b2, b3, b4, b5, b6, b7, b8⟩ := HX1.out
  have hcast : (decide ((q.length : Int) + 1 = 0)) = false := decide_eq_false (by omega)
  have hcast2 : ((q.length : Int) + 1 == 0) = false := by simp; omega
  go_upto_region 6 with (first
    | (go_at_call 74; refine (HC.out _ HB1.out).mono ?_; rintro e w2 ⟨rfl, HB2⟩))
  have HB2w := Lk.mk (HB1.out.trans (HB2.out.mono HB1.out.size))
  have HZ2 := Lk.mk ((HB2.out.block _ (Array.getElem?_eq_some_iff.1 HZ1.out).1).trans HZ1.out)
  have HP2 := Lk.mk (h1.out.below HB2w.out)
  have HVl := Lk.mk (h.out.own.lt g rfl)
  have HBl := Lk.mk h.out.lt
  clear b0 b1 b2 b3 b4 b5 b6 b7 b8 HX1 HB1 HZ1 HB2 HC
  go_upto_region 7 with (first
    | (go_at_call 75; refine (HLv.out _ HP2).mono ?_; rintro e w3 ⟨V2, rfl, HP3, HO3, HE3⟩))
  have hz3 := (HO3.out.block w.heap.size (Array.getElem?_eq_some_iff.1 HZ2.out).1 (fun hh => hh.elim (fun e => by have := HBl.out; omega) (fun e => by have := HVl.out; have e2 := Option.some.inj e; have e3 : g = w.heap.size := e2; omega))).trans HZ2.out
  have HZ3 := Lk.mk hz3
  have HO3w := Lk.mk ((Only.of_below (S := fun k => k = b ∨ (Value.slice (some ⟨g, off, none⟩) (q.length + 1) c).ownBlock = some k) HB2w.out).trans HO3.out)
  clear HO3 HZ2 HP2 HB2w HLv hz3
  have z0 := (cell_of_row w3 w.heap.size 0 _ _ _ HZ3.out).trans rfl
  have z1 := (cell_of_row w3 w.heap.size 1 _ _ _ HZ3.out).trans rfl
  have g0 := frozen_of_row w3 w.heap.size 0 _ _ HZ3.out
  have g1 := frozen_of_row w3 w.heap.size 1 _ _ HZ3.out
  go_wp2
  have HZ8 : ((w3.setCell ⟨w.heap.size, 0, none⟩ (.int .i64 R)).setCell ⟨w.heap.size, 1, none⟩ (.slice none 0 0)).heap[w.heap.size]? = some (.cells #[.int .i64 R, .slice none 0 0] 67 (0, 0)) := heap_setCell_same _ w.heap.size 1 _ _ _ (heap_setCell_same w3 w.heap.size 0 _ _ _ HZ3.out)
  have hO8 := ((Only.refl (fun k => k = w.heap.size) w3).setCell (p := ⟨w.heap.size, 0, none⟩) (.inl rfl) (.int .i64 R)).setCell (p := ⟨w.heap.size, 1, none⟩) (.inl rfl) (.slice none 0 0)
  have hP8 := HP3.out.on hO8 (fun e => by have := HBl.out; omega) (fun g' hg' e => by rw [HE3.out] at hg'; have := HVl.out; have e2 : g = g' := Option.some.inj hg'; omega) (fun g' hg' => by cases hg') (fun k hk => .inr hk)
  exact bodyPost_ret (results_done rfl _ _ w.heap.size _ rfl rfl HZ8) rfl ⟨V2, rfl, ⟨hP8.less (fun k hk => .inl hk) h.out.f (fun g' hg' => h.out.vf g' (by rw [← HE3.out]; exact hg')) (fun g' hg' => by cases hg')⟩, ⟨(HO3w.out.setCell (p := ⟨w.heap.size, 0, none⟩) (.inr (Nat.le_refl _)) _).setCell (p := ⟨w.heap.size, 1, none⟩) (.inr (Nat.le_refl _)) _⟩, HE3⟩
end
end Go.Proofs.Ytpehhldfegjajaa.Tg

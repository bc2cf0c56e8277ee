/-
  The program's First.
-/
import Derived.Test.YtacfmkmiikkppaaTg
namespace Go.Proofs.Ytacfmkmiikkppaa.Tr
open Go.ChangeShapes Go.WideShapes Go.ChangeAt Go.RowKit Ga Gb Na Nb Nc Nd_ Va Vb Vd Ve Vf Vg Qa Qb Qd Qj Ta Tb Tc Td Te Tf Tg
set_option linter.unusedVariables false
set_option linter.unusedSimpArgs false
set_option maxHeartbeats 1000000
set_option maxRecDepth 100000
theorem results_first {fn : Func} {p u v : Tmp} (h : fn.results = #[.cell p 52, .tmp u, .tmp v]) (tmps : Array Value) (w : World) (g : Nat) (cs : Array Value) (hcs : cs.size = 9) (hp : tmps.getD p undef = .pointer (some ⟨g, 0, none⟩)) (hg : w.heap[g]? = some (.cells cs 52 (0, 0))) :
    (results fn tmps).run Try.prog w = .ok (.tuple #[.agg cs, tmps.getD u undef, tmps.getD v undef]) w := by
  have hi : (Try.prog.info? 52).map (·.size) = some cs.size := by rw [hcs]; kernel_rfl
  have hl := run_loadVar_row (P := Try.prog) w g 52 52 cs (0, 0) _ hg Try.underlying52 rfl hi
  have hp' : tmps[p]?.getD undef = .pointer (some ⟨g, 0, none⟩) := by simpa using hp
  simp [results, h, hp', asAddr, hl, Result.andThen]
/-- What First reads, in a world. -/
def Fs (w0 W : World) (b g z : Nat) : Prop :=
  Lk (Below w0.heap.size w0 W) ∧ (b ≠ z ∧ g ≠ z ∧ w0.heap.size ≤ z) ∧ ∃ z0 z1 z2 z3 z4 z5 z6 z7 z8 : Value, W.heap[z]? = some (.cells #[z0, z1, z2, z3, z4, z5, z6, z7, z8] 52 (0, 0))
section
variable {w0 W W' : World} {b g off z : Nat} {V E : Value} {k nd a n o ne : Int} {A : Option Addr} {l c : Nat} {ky bo : Int}
theorem vcl_on (h : (World.cell? W (Addr.mk g off none) = some (Value.int IntKind.i64 k) ∧ World.cell? W (Addr.mk g (off + 1) none) = some (Value.int IntKind.i64 nd) ∧ World.cell? W (Addr.mk g (off + 2) none) = some (Value.int IntKind.i64 a) ∧ World.cell? W (Addr.mk g (off + 3) none) = some (Value.int IntKind.i64 n) ∧ World.cell? W (Addr.mk g (off + 4) none) = some (Value.int IntKind.u64 o) ∧ World.cell? W (Addr.mk g (off + 5) none) = some (Value.int IntKind.u64 ne) ∧ World.cell? W (Addr.mk g (off + 6) none) = some (Value.slice A l c) ∧ World.cell? W (Addr.mk g (off + 7) none) = some (Value.int IntKind.u64 ky) ∧ World.cell? W (Addr.mk g (off + 8) none) = some (Value.int IntKind.i64 bo))) (hb : Below W.heap.size W W') : (World.cell? W' (Addr.mk g off none) = some (Value.int IntKind.i64 k) ∧ World.cell? W' (Addr.mk g (off + 1) none) = some (Value.int IntKind.i64 nd) ∧ World.cell? W' (Addr.mk g (off + 2) none) = some (Value.int IntKind.i64 a) ∧ World.cell? W' (Addr.mk g (off + 3) none) = some (Value.int IntKind.i64 n) ∧ World.cell? W' (Addr.mk g (off + 4) none) = some (Value.int IntKind.u64 o) ∧ World.cell? W' (Addr.mk g (off + 5) none) = some (Value.int IntKind.u64 ne) ∧ World.cell? W' (Addr.mk g (off + 6) none) = some (Value.slice A l c) ∧ World.cell? W' (Addr.mk g (off + 7) none) = some (Value.int IntKind.u64 ky) ∧ World.cell? W' (Addr.mk g (off + 8) none) = some (Value.int IntKind.i64 bo)) := by
  obtain ⟨x0, x1, x2, x3, x4, x5, x6, x7, x8⟩ := h
  exact ⟨(hb.cell (block_lt_of_cell x0)).trans x0, (hb.cell (block_lt_of_cell x1)).trans x1, (hb.cell (block_lt_of_cell x2)).trans x2, (hb.cell (block_lt_of_cell x3)).trans x3, (hb.cell (block_lt_of_cell x4)).trans x4, (hb.cell (block_lt_of_cell x5)).trans x5, (hb.cell (block_lt_of_cell x6)).trans x6, (hb.cell (block_lt_of_cell x7)).trans x7, (hb.cell (block_lt_of_cell x8)).trans x8⟩
theorem fs_below (h : World.cell? W ⟨b, 3, none⟩ = some V ∧ World.cell? W ⟨b, 4, none⟩ = some E ∧ (World.cell? W (Addr.mk g off none) = some (Value.int IntKind.i64 k) ∧ World.cell? W (Addr.mk g (off + 1) none) = some (Value.int IntKind.i64 nd) ∧ World.cell? W (Addr.mk g (off + 2) none) = some (Value.int IntKind.i64 a) ∧ World.cell? W (Addr.mk g (off + 3) none) = some (Value.int IntKind.i64 n) ∧ World.cell? W (Addr.mk g (off + 4) none) = some (Value.int IntKind.u64 o) ∧ World.cell? W (Addr.mk g (off + 5) none) = some (Value.int IntKind.u64 ne) ∧ World.cell? W (Addr.mk g (off + 6) none) = some (Value.slice A l c) ∧ World.cell? W (Addr.mk g (off + 7) none) = some (Value.int IntKind.u64 ky) ∧ World.cell? W (Addr.mk g (off + 8) none) = some (Value.int IntKind.i64 bo)) ∧ Lk (Fs w0 W b g z)) : Lk (Below w0.heap.size w0 W) := h.2.2.2.out.1
theorem fs_z (h : World.cell? W ⟨b, 3, none⟩ = some V ∧ World.cell? W ⟨b, 4, none⟩ = some E ∧ (World.cell? W (Addr.mk g off none) = some (Value.int IntKind.i64 k) ∧ World.cell? W (Addr.mk g (off + 1) none) = some (Value.int IntKind.i64 nd) ∧ World.cell? W (Addr.mk g (off + 2) none) = some (Value.int IntKind.i64 a) ∧ World.cell? W (Addr.mk g (off + 3) none) = some (Value.int IntKind.i64 n) ∧ World.cell? W (Addr.mk g (off + 4) none) = some (Value.int IntKind.u64 o) ∧ World.cell? W (Addr.mk g (off + 5) none) = some (Value.int IntKind.u64 ne) ∧ World.cell? W (Addr.mk g (off + 6) none) = some (Value.slice A l c) ∧ World.cell? W (Addr.mk g (off + 7) none) = some (Value.int IntKind.u64 ky) ∧ World.cell? W (Addr.mk g (off + 8) none) = some (Value.int IntKind.i64 bo)) ∧ Lk (Fs w0 W b g z)) : ∃ z0 z1 z2 z3 z4 z5 z6 z7 z8 : Value, W.heap[z]? = some (.cells #[z0, z1, z2, z3, z4, z5, z6, z7, z8] 52 (0, 0)) := h.2.2.2.out.2.2
theorem fs_on (h : World.cell? W ⟨b, 3, none⟩ = some V ∧ World.cell? W ⟨b, 4, none⟩ = some E ∧ (World.cell? W (Addr.mk g off none) = some (Value.int IntKind.i64 k) ∧ World.cell? W (Addr.mk g (off + 1) none) = some (Value.int IntKind.i64 nd) ∧ World.cell? W (Addr.mk g (off + 2) none) = some (Value.int IntKind.i64 a) ∧ World.cell? W (Addr.mk g (off + 3) none) = some (Value.int IntKind.i64 n) ∧ World.cell? W (Addr.mk g (off + 4) none) = some (Value.int IntKind.u64 o) ∧ World.cell? W (Addr.mk g (off + 5) none) = some (Value.int IntKind.u64 ne) ∧ World.cell? W (Addr.mk g (off + 6) none) = some (Value.slice A l c) ∧ World.cell? W (Addr.mk g (off + 7) none) = some (Value.int IntKind.u64 ky) ∧ World.cell? W (Addr.mk g (off + 8) none) = some (Value.int IntKind.i64 bo)) ∧ Lk (Fs w0 W b g z)) (hb : Lk (Below W.heap.size W W')) :
    World.cell? W' ⟨b, 3, none⟩ = some V ∧ World.cell? W' ⟨b, 4, none⟩ = some E ∧ (World.cell? W' (Addr.mk g off none) = some (Value.int IntKind.i64 k) ∧ World.cell? W' (Addr.mk g (off + 1) none) = some (Value.int IntKind.i64 nd) ∧ World.cell? W' (Addr.mk g (off + 2) none) = some (Value.int IntKind.i64 a) ∧ World.cell? W' (Addr.mk g (off + 3) none) = some (Value.int IntKind.i64 n) ∧ World.cell? W' (Addr.mk g (off + 4) none) = some (Value.int IntKind.u64 o) ∧ World.cell? W' (Addr.mk g (off + 5) none) = some (Value.int IntKind.u64 ne) ∧ World.cell? W' (Addr.mk g (off + 6) none) = some (Value.slice A l c) ∧ World.cell? W' (Addr.mk g (off + 7) none) = some (Value.int IntKind.u64 ky) ∧ World.cell? W' (Addr.mk g (off + 8) none) = some (Value.int IntKind.i64 bo)) ∧ Lk (Fs w0 W' b g z) := by
  obtain ⟨h3, h4, hv, ⟨hB, hne, z0, z1, z2, z3, z4, z5, z6, z7, z8, hz⟩⟩ := h
  have hb := hb.out
  exact ⟨(hb.cell (block_lt_of_cell h3)).trans h3, (hb.cell (block_lt_of_cell h4)).trans h4, vcl_on hv hb, ⟨⟨hB.out.trans (hb.mono hB.out.size)⟩, hne, z0, z1, z2, z3, z4, z5, z6, z7, z8, (hb.block _ (Array.getElem?_eq_some_iff.1 hz).1).trans hz⟩⟩
theorem fs_fin (k' nd' a' n' o' ne' : Int) (A' : Option Addr) (l' c' : Nat) (ky' bo' : Int) (h : World.cell? W ⟨b, 3, none⟩ = some V ∧ World.cell? W ⟨b, 4, none⟩ = some E ∧ (World.cell? W (Addr.mk g off none) = some (Value.int IntKind.i64 k) ∧ World.cell? W (Addr.mk g (off + 1) none) = some (Value.int IntKind.i64 nd) ∧ World.cell? W (Addr.mk g (off + 2) none) = some (Value.int IntKind.i64 a) ∧ World.cell? W (Addr.mk g (off + 3) none) = some (Value.int IntKind.i64 n) ∧ World.cell? W (Addr.mk g (off + 4) none) = some (Value.int IntKind.u64 o) ∧ World.cell? W (Addr.mk g (off + 5) none) = some (Value.int IntKind.u64 ne) ∧ World.cell? W (Addr.mk g (off + 6) none) = some (Value.slice A l c) ∧ World.cell? W (Addr.mk g (off + 7) none) = some (Value.int IntKind.u64 ky) ∧ World.cell? W (Addr.mk g (off + 8) none) = some (Value.int IntKind.i64 bo)) ∧ Lk (Fs w0 W b g z)) :
    World.cell? (fin9 W z k' nd' a' n' o' ne' (.slice A' l' c') ky' bo') ⟨b, 3, none⟩ = some V ∧ World.cell? (fin9 W z k' nd' a' n' o' ne' (.slice A' l' c') ky' bo') ⟨b, 4, none⟩ = some E ∧ (World.cell? ((fin9 W z k' nd' a' n' o' ne' (.slice A' l' c') ky' bo')) (Addr.mk g off none) = some (Value.int IntKind.i64 k) ∧ World.cell? ((fin9 W z k' nd' a' n' o' ne' (.slice A' l' c') ky' bo')) (Addr.mk g (off + 1) none) = some (Value.int IntKind.i64 nd) ∧ World.cell? ((fin9 W z k' nd' a' n' o' ne' (.slice A' l' c') ky' bo')) (Addr.mk g (off + 2) none) = some (Value.int IntKind.i64 a) ∧ World.cell? ((fin9 W z k' nd' a' n' o' ne' (.slice A' l' c') ky' bo')) (Addr.mk g (off + 3) none) = some (Value.int IntKind.i64 n) ∧ World.cell? ((fin9 W z k' nd' a' n' o' ne' (.slice A' l' c') ky' bo')) (Addr.mk g (off + 4) none) = some (Value.int IntKind.u64 o) ∧ World.cell? ((fin9 W z k' nd' a' n' o' ne' (.slice A' l' c') ky' bo')) (Addr.mk g (off + 5) none) = some (Value.int IntKind.u64 ne) ∧ World.cell? ((fin9 W z k' nd' a' n' o' ne' (.slice A' l' c') ky' bo')) (Addr.mk g (off + 6) none) = some (Value.slice A l c) ∧ World.cell? ((fin9 W z k' nd' a' n' o' ne' (.slice A' l' c') ky' bo')) (Addr.mk g (off + 7) none) = some (Value.int IntKind.u64 ky) ∧ World.cell? ((fin9 W z k' nd' a' n' o' ne' (.slice A' l' c') ky' bo')) (Addr.mk g (off + 8) none) = some (Value.int IntKind.i64 bo)) ∧ Lk (Fs w0 (fin9 W z k' nd' a' n' o' ne' (.slice A' l' c') ky' bo') b g z) := by
  obtain ⟨h3, h4, ⟨x0, x1, x2, x3, x4, x5, x6, x7, x8⟩, ⟨hB, hne, z0, z1, z2, z3, z4, z5, z6, z7, z8, hz⟩⟩ := h
  have hbk : ∀ (j : Nat), (fin9 W z k' nd' a' n' o' ne' (.slice A' l' c') ky' bo').cell? ⟨b, j, none⟩ = W.cell? ⟨b, j, none⟩ := fun j => World.cell?_of_block (a := ⟨b, j, none⟩) (fin_o hne.1)
  have hgk : ∀ (j : Nat), (fin9 W z k' nd' a' n' o' ne' (.slice A' l' c') ky' bo').cell? ⟨g, j, none⟩ = W.cell? ⟨g, j, none⟩ := fun j => World.cell?_of_block (a := ⟨g, j, none⟩) (fin_o hne.2.1)
  exact ⟨(hbk 3).trans h3, (hbk 4).trans h4, ⟨(hgk _).trans x0, (hgk _).trans x1, (hgk _).trans x2, (hgk _).trans x3, (hgk _).trans x4, (hgk _).trans x5, (hgk _).trans x6, (hgk _).trans x7, (hgk _).trans x8⟩, ⟨⟨fin_b hB.out hne.2.2⟩, hne, _, _, _, _, _, _, _, _, _, fin_z hz⟩⟩
end
section
variable (F : Nat → Prop) (b : Nat) (cl inc pnd : Int) (V : Value) (ex : Nat) (B : Option Addr) (cb : Nat) (r : List Nat) (w : World)
theorem first_none (h : Lk (PP F w b cl inc pnd V [] ex B cb r)) :
    Calls Try.prog 73 #[.pointer (some ⟨b, 0, none⟩)] w fun e w' => e = .returned (.tuple #[(Value.agg #[Value.int IntKind.i64 0, Value.int IntKind.i64 0, Value.int IntKind.i64 0, Value.int IntKind.i64 0, Value.int IntKind.u64 0, Value.int IntKind.u64 0, Value.slice none 0 0, Value.int IntKind.u64 0, Value.int IntKind.i64 0]), .int .i64 0, .bool false]) ∧ Lk (Below w.heap.size w w') := by
  obtain ⟨AQ, cq, hV⟩ := h.out.own.slice
  subst hV
  go_enter Try.func73, Try.ntmps73
  go_upto_region 1 with fail
  have hB0 := (Below.refl _ w).alloc (Nat.le_refl _) (.cells #[Value.int IntKind.i64 0, Value.int IntKind.i64 0, Value.int IntKind.i64 0, Value.int IntKind.i64 0, Value.int IntKind.u64 0, Value.int IntKind.u64 0, Value.slice none 0 0, Value.int IntKind.u64 0, Value.int IntKind.i64 0] 52)
  have HR0 := Lk.mk (h.out.below hB0)
  have HB0 := Lk.mk hB0
  have HZ0 := Lk.mk (heap_alloc_new w (.cells #[Value.int IntKind.i64 0, Value.int IntKind.i64 0, Value.int IntKind.i64 0, Value.int IntKind.i64 0, Value.int IntKind.u64 0, Value.int IntKind.u64 0, Value.slice none 0 0, Value.int IntKind.u64 0, Value.int IntKind.i64 0] 52))
  clear hB0
  generalize w.alloc _ = W0 at *
  have p3 := HR0.out.c3
  simp only [List.length_nil] at p3
  have z0 := (cell_of_row W0 w.heap.size 0 _ _ _ HZ0.out).trans rfl
  have g0 := frozen_of_row W0 w.heap.size 0 _ _ HZ0.out
  have z1 := (cell_of_row W0 w.heap.size 1 _ _ _ HZ0.out).trans rfl
  have g1 := frozen_of_row W0 w.heap.size 1 _ _ HZ0.out
  have z2 := (cell_of_row W0 w.heap.size 2 _ _ _ HZ0.out).trans rfl
  have g2 := frozen_of_row W0 w.heap.size 2 _ _ HZ0.out
  have z3 := (cell_of_row W0 w.heap.size 3 _ _ _ HZ0.out).trans rfl
  have g3 := frozen_of_row W0 w.heap.size 3 _ _ HZ0.out
  have z4 := (cell_of_row W0 w.heap.size 4 _ _ _ HZ0.out).trans rfl
  have g4 := frozen_of_row W0 w.heap.size 4 _ _ HZ0.out
  have z5 := (cell_of_row W0 w.heap.size 5 _ _ _ HZ0.out).trans rfl
  have g5 := frozen_of_row W0 w.heap.size 5 _ _ HZ0.out
  have z6 := (cell_of_row W0 w.heap.size 6 _ _ _ HZ0.out).trans rfl
  have g6 := frozen_of_row W0 w.heap.size 6 _ _ HZ0.out
  have z7 := (cell_of_row W0 w.heap.size 7 _ _ _ HZ0.out).trans rfl
  have g7 := frozen_of_row W0 w.heap.size 7 _ _ HZ0.out
  have z8 := (cell_of_row W0 w.heap.size 8 _ _ _ HZ0.out).trans rfl
  have g8 := frozen_of_row W0 w.heap.size 8 _ _ HZ0.out
  go_wp2
  have HFz := Lk.mk (fin_z (wr := W0) (g := w.heap.size) (k := 0) (nd := 0) (a := 0) (n := 0) (o := 0) (ne := 0) (V := .slice none 0 0) (ky := 0) (bo := 0) HZ0.out)
  exact bodyPost_ret (results_first rfl _ _ w.heap.size _ rfl rfl HFz.out) rfl ⟨rfl, ⟨fin_b HB0.out (Nat.le_refl _)⟩⟩
theorem first_some (p : Pq) (q : List Pq) (h : Lk (PP F w b cl inc pnd V (p :: q) ex B cb r)) :
    Calls Try.prog 73 #[.pointer (some ⟨b, 0, none⟩)] w fun e w' => ∃ (A2 : Option Addr) (c2 : Nat), e = .returned (.tuple #[(Value.agg #[Value.int IntKind.i64 p.v.k, Value.int IntKind.i64 p.v.nd, Value.int IntKind.i64 p.v.a, Value.int IntKind.i64 p.v.n, Value.int IntKind.u64 ((p.v.o : Int)), Value.int IntKind.u64 ((p.v.ne : Int)), Value.slice A2 p.v.s.length c2, Value.int IntKind.u64 p.v.ky, Value.int IntKind.i64 p.v.bo]), .int .i64 (ex : Int), .bool true]) ∧ Lk (Tb.Own w.heap.size w' A2 p.v.s) ∧ Lk (Below w.heap.size w w') ∧ Lk (p.v.s.length ≤ c2 ∧ c2 ≤ 9223372036854775807) := by
  obtain ⟨g, off, c, hV, hcell, hc1⟩ := first_q h.out
  have hne : b ≠ w.heap.size ∧ g ≠ w.heap.size ∧ w.heap.size ≤ w.heap.size := ⟨Nat.ne_of_lt h.out.lt, Nat.ne_of_lt (block_lt_of_cell hcell.1), Nat.le_refl _⟩
  subst hV
  have hwd := h.out.wd p (List.mem_cons_self ..)
  have CC := Lk.mk (fun W (hb : Below w.heap.size w W) => clone_any p.v.k p.v.nd p.v.a p.v.n p.v.o p.v.ne p.A p.v.s.length p.c p.v.ky p.v.bo p.v.s W rfl hwd.2.1.1 ⟨hwd.2.1.2⟩ ⟨(LiesF.lies hwd.1).on_ hb⟩)
  clear hwd
  go_enter Try.func73, Try.ntmps73
  go_upto_region 1 with fail
  have hB0 := (Below.refl _ w).alloc (Nat.le_refl _) (.cells #[Value.int IntKind.i64 0, Value.int IntKind.i64 0, Value.int IntKind.i64 0, Value.int IntKind.i64 0, Value.int IntKind.u64 0, Value.int IntKind.u64 0, Value.slice none 0 0, Value.int IntKind.u64 0, Value.int IntKind.i64 0] 52)
  have HR0 := Lk.mk (h.out.below hB0)
  have HX0 := Lk.mk (vcl_on hcell hB0)
  have HB0 := Lk.mk hB0
  have HZ0 := Lk.mk (heap_alloc_new w (.cells #[Value.int IntKind.i64 0, Value.int IntKind.i64 0, Value.int IntKind.i64 0, Value.int IntKind.i64 0, Value.int IntKind.u64 0, Value.int IntKind.u64 0, Value.slice none 0 0, Value.int IntKind.u64 0, Value.int IntKind.i64 0] 52))
  clear hB0 hcell
  generalize w.alloc _ = W0 at *
  have p3 := HR0.out.c3
  go_upto_region 3 with fail
  have HH := Lk.mk (show World.cell? W0.drew ⟨b, 3, none⟩ = some (.slice (some ⟨g, off, none⟩) (q.length + 1) c) ∧ World.cell? W0.drew ⟨b, 4, none⟩ = some (.int .i64 (ex : Int)) ∧ (World.cell? W0.drew (Addr.mk g off none) = some (Value.int IntKind.i64 p.v.k) ∧ World.cell? W0.drew (Addr.mk g (off + 1) none) = some (Value.int IntKind.i64 p.v.nd) ∧ World.cell? W0.drew (Addr.mk g (off + 2) none) = some (Value.int IntKind.i64 p.v.a) ∧ World.cell? W0.drew (Addr.mk g (off + 3) none) = some (Value.int IntKind.i64 p.v.n) ∧ World.cell? W0.drew (Addr.mk g (off + 4) none) = some (Value.int IntKind.u64 ((p.v.o : Int))) ∧ World.cell? W0.drew (Addr.mk g (off + 5) none) = some (Value.int IntKind.u64 ((p.v.ne : Int))) ∧ World.cell? W0.drew (Addr.mk g (off + 6) none) = some (Value.slice p.A p.v.s.length p.c) ∧ World.cell? W0.drew (Addr.mk g (off + 7) none) = some (Value.int IntKind.u64 p.v.ky) ∧ World.cell? W0.drew (Addr.mk g (off + 8) none) = some (Value.int IntKind.i64 p.v.bo)) ∧ Lk (Fs w W0.drew b g w.heap.size) from ⟨HR0.out.c3, HR0.out.c4, HX0.out, ⟨⟨HB0.out.drew⟩, hne, _, _, _, _, _, _, _, _, _, HZ0.out⟩⟩)
  clear p3
  go_region_held3 (fun W' => World.cell? W' ⟨b, 3, none⟩ = some (.slice (some ⟨g, off, none⟩) (q.length + 1) c) ∧ World.cell? W' ⟨b, 4, none⟩ = some (.int .i64 (ex : Int)) ∧ (World.cell? W' (Addr.mk g off none) = some (Value.int IntKind.i64 p.v.k) ∧ World.cell? W' (Addr.mk g (off + 1) none) = some (Value.int IntKind.i64 p.v.nd) ∧ World.cell? W' (Addr.mk g (off + 2) none) = some (Value.int IntKind.i64 p.v.a) ∧ World.cell? W' (Addr.mk g (off + 3) none) = some (Value.int IntKind.i64 p.v.n) ∧ World.cell? W' (Addr.mk g (off + 4) none) = some (Value.int IntKind.u64 ((p.v.o : Int))) ∧ World.cell? W' (Addr.mk g (off + 5) none) = some (Value.int IntKind.u64 ((p.v.ne : Int))) ∧ World.cell? W' (Addr.mk g (off + 6) none) = some (Value.slice p.A p.v.s.length p.c) ∧ World.cell? W' (Addr.mk g (off + 7) none) = some (Value.int IntKind.u64 p.v.ky) ∧ World.cell? W' (Addr.mk g (off + 8) none) = some (Value.int IntKind.i64 p.v.bo)) ∧ Lk (Fs w W' b g w.heap.size)) (first | with_reducible exact HH.out | with_reducible assumption | with_reducible exact fs_on (by assumption) (by assumption) | exact fs_fin (w0 := w) (z := w.heap.size) _ _ _ _ _ _ _ _ _ _ _ (by assumption))
    (first
      | (go_at_call 50; (with_reducible refine (CC.out _ (fs_below (by assumption)).out).mono ?_); rintro e w4 ⟨A2, c2, rfl, HOw, HBc, HCc⟩; obtain ⟨y0, y1, y2, y3, y4, y5, y6, y7, y8, HZ4⟩ := fs_z (fs_on (w0 := w) (z := w.heap.size) (by assumption) HBc); have g0 := frozen_of_row w4 w.heap.size 0 _ _ HZ4; have z0 := (cell_of_row w4 w.heap.size 0 _ _ _ HZ4).trans rfl; have g1 := frozen_of_row w4 w.heap.size 1 _ _ HZ4; have z1 := (cell_of_row w4 w.heap.size 1 _ _ _ HZ4).trans rfl; have g2 := frozen_of_row w4 w.heap.size 2 _ _ HZ4; have z2 := (cell_of_row w4 w.heap.size 2 _ _ _ HZ4).trans rfl; have g3 := frozen_of_row w4 w.heap.size 3 _ _ HZ4; have z3 := (cell_of_row w4 w.heap.size 3 _ _ _ HZ4).trans rfl; have g4 := frozen_of_row w4 w.heap.size 4 _ _ HZ4; have z4 := (cell_of_row w4 w.heap.size 4 _ _ _ HZ4).trans rfl; have g5 := frozen_of_row w4 w.heap.size 5 _ _ HZ4; have z5 := (cell_of_row w4 w.heap.size 5 _ _ _ HZ4).trans rfl; have g6 := frozen_of_row w4 w.heap.size 6 _ _ HZ4; have z6 := (cell_of_row w4 w.heap.size 6 _ _ _ HZ4).trans rfl; have g7 := frozen_of_row w4 w.heap.size 7 _ _ HZ4; have z7 := (cell_of_row w4 w.heap.size 7 _ _ _ HZ4).trans rfl; have g8 := frozen_of_row w4 w.heap.size 8 _ _ HZ4; have z8 := (cell_of_row w4 w.heap.size 8 _ _ _ HZ4).trans rfl))
  go_wp2
  have hz0 : w.heap.size < W0.drew.heap.size := (Array.getElem?_eq_some_iff.1 HZ0.out).1
  have hbb : Below w.heap.size w w4 := HB0.out.drew.trans (HBc.out.mono (Nat.le_of_lt hz0))
  exact bodyPost_ret (results_first rfl _ _ w.heap.size _ rfl rfl (fin_z HZ4)) rfl ⟨A2, c2, rfl, ⟨(HOw.out.on (w' := fin9 w4 w.heap.size p.v.k p.v.nd p.v.a p.v.n p.v.o p.v.ne (.slice A2 p.v.s.length c2) p.v.ky p.v.bo) (fun k hk _ => fin_o (by omega))).more (Nat.le_of_lt hz0)⟩, ⟨fin_b hbb (Nat.le_refl _)⟩, HCc⟩
end
end Go.Proofs.Ytacfmkmiikkppaa.Tr

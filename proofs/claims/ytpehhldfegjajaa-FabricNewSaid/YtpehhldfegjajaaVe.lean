/-
  A verb made of raw numbers.
-/
import Derived.Test.YtpehhldfegjajaaVb
import Derived.Laws.ResultCell
namespace Go.Proofs.Ytpehhldfegjajaa.Ve
open Go.ChangeShapes Go.WideShapes Go.ChangeAt Go.RowKit Ga Va Vb
set_option linter.unusedVariables false
set_option linter.unusedSimpArgs false
set_option maxHeartbeats 4000000
set_option maxRecDepth 10000

/-- A row of words of a call's own: blocks from B on. -/
structure Wt (B : Nat) (wr : World) (v : Value) (ws : List Nat) : Prop where
  own : wr.ownsRow B 53 1 v ws.length (ws.map u64v)
  lt : ∀ x ∈ ws, x < 18446744073709551616
section
variable {B : Nat} {wr w' : World} {v v' : Value} {ws : List Nat}
theorem Wt.form (h : Wt B wr v ws) : ∃ A c, v = .slice A ws.length c ∧ ws.length ≤ c ∧ c ≤ 9223372036854775807 ∧ Lies .u64 wr wr.heap.size A ws := by
  rcases h.own.2 with ⟨rfl, h0⟩ | ⟨g, cap, cur, rfl, hb, hg, hn, hm, hs, ht⟩
  · have : ws = [] := List.eq_nil_of_length_eq_zero h0
    subst this
    exact ⟨none, 0, rfl, Nat.le_refl _, by omega, Lies.none_⟩
  · refine ⟨some ⟨g, 0, none⟩, cap, rfl, hn, by unfold maxLen at hm; omega, fun hl => ⟨_, rfl, (Array.getElem?_eq_some_iff.1 hg).1, fun j hj => ?_⟩⟩
    rw [add_zero_, h.own.cellAt j (by omega)]
    simp [hj, u64v]
theorem owns_on {base : Nat} {e : TypeId} {sz n : Nat} {xs : List Value} (h : wr.ownsRow base e sz v n xs) (hb : ∀ g, base ≤ g → g < wr.heap.size → w'.heap[g]? = wr.heap[g]?) : w'.ownsRow base e sz v n xs := by
  refine ⟨h.1, ?_⟩
  rcases h.2 with h' | ⟨g', cap', cur, h', h3, h4, h5⟩
  · exact .inl h'
  · exact .inr ⟨g', cap', cur, h', h3, (hb g' h3 (Array.getElem?_eq_some_iff.1 h4).1).trans h4, h5⟩
theorem Wt.keep (h : Wt B wr v ws) (hb : ∀ g, B ≤ g → g < wr.heap.size → w'.heap[g]? = wr.heap[g]?) : Wt B w' v ws := ⟨owns_on h.own hb, h.lt⟩
theorem Wt.nil (B : Nat) (w : World) : Wt B w (.slice none 0 0) [] := ⟨⟨by simp, .inl ⟨rfl, rfl⟩⟩, fun _ h => by simp at h⟩
theorem Wt.after {l : List Nat} (h : Wt B wr v ws) (hl : ∀ x ∈ l, x < 18446744073709551616) (hown : w'.ownsRow B 53 1 v' (ws.length + l.length) (ws.map u64v ++ l.map u64v)) : Wt B w' v' (ws ++ l) := by
  refine ⟨?_, fun x hx => (List.mem_append.1 hx).elim (h.lt x) (hl x)⟩
  rw [List.length_append, List.map_append]
  exact hown
end
/-- The local verb (block b) and the result's cells (block g), as the walk of bodegahand.Verb leaves them. -/
structure Vx (w0 wr : World) (g b : Nat) (k nd a n o ne : Int) (V : Value) (ky bo : Int) (ws : List Nat) : Prop where
  z : wr.heap[g]? = some (.cells #[Value.int IntKind.i64 0, Value.int IntKind.i64 0, Value.int IntKind.i64 0, Value.int IntKind.i64 0, Value.int IntKind.u64 0, Value.int IntKind.u64 0, Value.slice none 0 0, Value.int IntKind.u64 0, Value.int IntKind.i64 0] 56 (0, 0))
  v : wr.heap[b]? = some (.cells #[Value.int IntKind.i64 k, Value.int IntKind.i64 nd, Value.int IntKind.i64 a, Value.int IntKind.i64 n, Value.int IntKind.u64 o, Value.int IntKind.u64 ne, V, Value.int IntKind.u64 ky, Value.int IntKind.i64 bo] 56 (0, 0))
  row : Wt (b + 1) wr V ws
  below : Below w0.heap.size w0 wr
  ord : w0.heap.size ≤ g ∧ g < b
section
variable {w0 wr w' : World} {g b : Nat} {k nd a n o ne : Int} {V V' : Value} {ky bo : Int} {ws : List Nat}
theorem Vx.c (h : Vx w0 wr g b k nd a n o ne V ky bo ws) : wr.cell? ⟨b, 0, none⟩ = some (.int .i64 k) ∧ wr.cell? ⟨b, 1, none⟩ = some (.int .i64 nd) ∧ wr.cell? ⟨b, 2, none⟩ = some (.int .i64 a) ∧ wr.cell? ⟨b, 3, none⟩ = some (.int .i64 n) ∧ wr.cell? ⟨b, 4, none⟩ = some (.int .u64 o) ∧ wr.cell? ⟨b, 5, none⟩ = some (.int .u64 ne) ∧ wr.cell? ⟨b, 6, none⟩ = some V ∧ wr.cell? ⟨b, 7, none⟩ = some (.int .u64 ky) ∧ wr.cell? ⟨b, 8, none⟩ = some (.int .i64 bo) := by
  refine ⟨?_, ?_, ?_, ?_, ?_, ?_, ?_, ?_, ?_⟩ <;> exact (cell_of_row wr b _ _ _ _ h.v).trans rfl
theorem Vx.zc (h : Vx w0 wr g b k nd a n o ne V ky bo ws) : wr.cell? ⟨g, 0, none⟩ = some (.int .i64 0) ∧ wr.cell? ⟨g, 1, none⟩ = some (.int .i64 0) ∧ wr.cell? ⟨g, 2, none⟩ = some (.int .i64 0) ∧ wr.cell? ⟨g, 3, none⟩ = some (.int .i64 0) ∧ wr.cell? ⟨g, 4, none⟩ = some (.int .u64 0) ∧ wr.cell? ⟨g, 5, none⟩ = some (.int .u64 0) ∧ wr.cell? ⟨g, 6, none⟩ = some (.slice none 0 0) ∧ wr.cell? ⟨g, 7, none⟩ = some (.int .u64 0) ∧ wr.cell? ⟨g, 8, none⟩ = some (.int .i64 0) := by
  refine ⟨?_, ?_, ?_, ?_, ?_, ?_, ?_, ?_, ?_⟩ <;> exact (cell_of_row wr g _ _ _ _ h.z).trans rfl
theorem Vx.fz (h : Vx w0 wr g b k nd a n o ne V ky bo ws) (j : Nat) : wr.frozen? ⟨g, j, none⟩ = false := frozen_of_row wr g j _ _ h.z
theorem Vx.fr (h : Vx w0 wr g b k nd a n o ne V ky bo ws) (j : Nat) : wr.frozen? ⟨b, j, none⟩ = false := frozen_of_row wr b j _ _ h.v
theorem Vx.size (h : Vx w0 wr g b k nd a n o ne V ky bo ws) : b < wr.heap.size := (Array.getElem?_eq_some_iff.1 h.v).1
theorem Vx.setN (h : Vx w0 wr g b k nd a n o ne V ky bo ws) (n' : Int) : Vx w0 (wr.setCell ⟨b, 3, none⟩ (.int .i64 n')) g b k nd a n' o ne V ky bo ws :=
  ⟨(Below.heap_setCell wr ⟨b, 3, none⟩ _ g (by have := h.ord; show g ≠ b; omega)).trans h.z, heap_setCell_same wr b 3 _ _ _ h.v,
    h.row.keep fun g' hb _ => Below.heap_setCell wr ⟨b, 3, none⟩ _ g' (by show g' ≠ b; omega),
    h.below.setCell (p := ⟨b, 3, none⟩) (by have := h.ord; show w0.heap.size ≤ b; omega) _, h.ord⟩
theorem Vx.alloc (h : Vx w0 wr g b k nd a n o ne V ky bo ws) (ob : Obj) : Vx w0 (wr.alloc ob) g b k nd a n o ne V ky bo ws :=
  ⟨(Below.heap_alloc wr ob g (by have := h.ord; have := h.size; omega)).trans h.z, (Below.heap_alloc wr ob b h.size).trans h.v, h.row.keep fun g' _ hs => Below.heap_alloc wr ob g' hs, h.below.alloc h.below.size ob, h.ord⟩
theorem Vx.app (h : Vx w0 wr g b k nd a n o ne V ky bo ws) {l : List Nat} (hl : ∀ x ∈ l, x < 18446744073709551616) (hg : wr.grownBy w' V.ownBlock) (hown : w'.ownsRow (b + 1) 53 1 V' (ws.length + l.length) (ws.map u64v ++ l.map u64v)) :
    Vx w0 (w'.setCell ⟨b, 6, none⟩ V') g b k nd a n o ne V' ky bo (ws ++ l) ∧ w'.frozen? ⟨b, 6, none⟩ = false ∧ w'.cell? ⟨b, 6, none⟩ = some V := by
  have hr : ∀ i, V.ownBlock = some i → b + 1 ≤ i := fun i hi => (h.row.own.lt i hi).1
  have hz : w'.heap[g]? = wr.heap[g]? := hg.block g (by have := h.ord; have := h.size; omega) (fun e => by have := hr g e.symm; have := h.ord; omega)
  have hv : w'.heap[b]? = wr.heap[b]? := hg.block b h.size (fun e => by have := hr b e.symm; omega)
  have hv' := hv.trans h.v
  have hR := h.row.after hl hown
  refine ⟨⟨(Below.heap_setCell w' ⟨b, 6, none⟩ _ g (by have := h.ord; show g ≠ b; omega)).trans (hz.trans h.z), heap_setCell_same w' b 6 _ _ _ hv', ?_, ?_, h.ord⟩, frozen_of_row w' b 6 _ _ hv', (cell_of_row w' b 6 _ _ _ hv').trans rfl⟩
  · exact hR.keep fun g' hb _ => Below.heap_setCell w' ⟨b, 6, none⟩ _ g' (by show g' ≠ b; omega)
  · refine Below.setCell (p := ⟨b, 6, none⟩) (h.below.grown hg h.below.size fun i hi => ?_) (by have := h.ord; show w0.heap.size ≤ b; omega) _
    have := hr i hi; have := h.ord; omega
def fin9 (wr : World) (g : Nat) (k nd a n o ne : Int) (V : Value) (ky bo : Int) : World :=
  ((((((((wr.setCell ⟨g, 0, none⟩ (.int .i64 k)).setCell ⟨g, 1, none⟩ (.int .i64 nd)).setCell ⟨g, 2, none⟩ (.int .i64 a)).setCell ⟨g, 3, none⟩ (.int .i64 n)).setCell ⟨g, 4, none⟩ (.int .u64 o)).setCell ⟨g, 5, none⟩ (.int .u64 ne)).setCell ⟨g, 6, none⟩ V).setCell ⟨g, 7, none⟩ (.int .u64 ky)).setCell ⟨g, 8, none⟩ (.int .i64 bo)
theorem fin_z {z0 z1 z2 z3 z4 z5 z6 z7 z8 : Value} (z : wr.heap[g]? = some (.cells #[z0, z1, z2, z3, z4, z5, z6, z7, z8] 56 (0, 0))) :
    (fin9 wr g k nd a n o ne V ky bo).heap[g]? = some (.cells #[Value.int IntKind.i64 k, Value.int IntKind.i64 nd, Value.int IntKind.i64 a, Value.int IntKind.i64 n, Value.int IntKind.u64 o, Value.int IntKind.u64 ne, V, Value.int IntKind.u64 ky, Value.int IntKind.i64 bo] 56 (0, 0)) := by
  unfold fin9
  have e0 : (wr.setCell ⟨g, 0, none⟩ (.int .i64 k)).heap[g]? = some (.cells #[(.int .i64 k : Value), z1, z2, z3, z4, z5, z6, z7, z8] 56 (0, 0)) := heap_setCell_same _ g 0 _ _ _ z
  have e1 : ((wr.setCell ⟨g, 0, none⟩ (.int .i64 k)).setCell ⟨g, 1, none⟩ (.int .i64 nd)).heap[g]? = some (.cells #[(.int .i64 k : Value), (.int .i64 nd : Value), z2, z3, z4, z5, z6, z7, z8] 56 (0, 0)) := heap_setCell_same _ g 1 _ _ _ e0
  have e2 : (((wr.setCell ⟨g, 0, none⟩ (.int .i64 k)).setCell ⟨g, 1, none⟩ (.int .i64 nd)).setCell ⟨g, 2, none⟩ (.int .i64 a)).heap[g]? = some (.cells #[(.int .i64 k : Value), (.int .i64 nd : Value), (.int .i64 a : Value), z3, z4, z5, z6, z7, z8] 56 (0, 0)) := heap_setCell_same _ g 2 _ _ _ e1
  have e3 : ((((wr.setCell ⟨g, 0, none⟩ (.int .i64 k)).setCell ⟨g, 1, none⟩ (.int .i64 nd)).setCell ⟨g, 2, none⟩ (.int .i64 a)).setCell ⟨g, 3, none⟩ (.int .i64 n)).heap[g]? = some (.cells #[(.int .i64 k : Value), (.int .i64 nd : Value), (.int .i64 a : Value), (.int .i64 n : Value), z4, z5, z6, z7, z8] 56 (0, 0)) := heap_setCell_same _ g 3 _ _ _ e2
  have e4 : (((((wr.setCell ⟨g, 0, none⟩ (.int .i64 k)).setCell ⟨g, 1, none⟩ (.int .i64 nd)).setCell ⟨g, 2, none⟩ (.int .i64 a)).setCell ⟨g, 3, none⟩ (.int .i64 n)).setCell ⟨g, 4, none⟩ (.int .u64 o)).heap[g]? = some (.cells #[(.int .i64 k : Value), (.int .i64 nd : Value), (.int .i64 a : Value), (.int .i64 n : Value), (.int .u64 o : Value), z5, z6, z7, z8] 56 (0, 0)) := heap_setCell_same _ g 4 _ _ _ e3
  have e5 : ((((((wr.setCell ⟨g, 0, none⟩ (.int .i64 k)).setCell ⟨g, 1, none⟩ (.int .i64 nd)).setCell ⟨g, 2, none⟩ (.int .i64 a)).setCell ⟨g, 3, none⟩ (.int .i64 n)).setCell ⟨g, 4, none⟩ (.int .u64 o)).setCell ⟨g, 5, none⟩ (.int .u64 ne)).heap[g]? = some (.cells #[(.int .i64 k : Value), (.int .i64 nd : Value), (.int .i64 a : Value), (.int .i64 n : Value), (.int .u64 o : Value), (.int .u64 ne : Value), z6, z7, z8] 56 (0, 0)) := heap_setCell_same _ g 5 _ _ _ e4
  have e6 : (((((((wr.setCell ⟨g, 0, none⟩ (.int .i64 k)).setCell ⟨g, 1, none⟩ (.int .i64 nd)).setCell ⟨g, 2, none⟩ (.int .i64 a)).setCell ⟨g, 3, none⟩ (.int .i64 n)).setCell ⟨g, 4, none⟩ (.int .u64 o)).setCell ⟨g, 5, none⟩ (.int .u64 ne)).setCell ⟨g, 6, none⟩ (V)).heap[g]? = some (.cells #[(.int .i64 k : Value), (.int .i64 nd : Value), (.int .i64 a : Value), (.int .i64 n : Value), (.int .u64 o : Value), (.int .u64 ne : Value), (V : Value), z7, z8] 56 (0, 0)) := heap_setCell_same _ g 6 _ _ _ e5
  have e7 : ((((((((wr.setCell ⟨g, 0, none⟩ (.int .i64 k)).setCell ⟨g, 1, none⟩ (.int .i64 nd)).setCell ⟨g, 2, none⟩ (.int .i64 a)).setCell ⟨g, 3, none⟩ (.int .i64 n)).setCell ⟨g, 4, none⟩ (.int .u64 o)).setCell ⟨g, 5, none⟩ (.int .u64 ne)).setCell ⟨g, 6, none⟩ (V)).setCell ⟨g, 7, none⟩ (.int .u64 ky)).heap[g]? = some (.cells #[(.int .i64 k : Value), (.int .i64 nd : Value), (.int .i64 a : Value), (.int .i64 n : Value), (.int .u64 o : Value), (.int .u64 ne : Value), (V : Value), (.int .u64 ky : Value), z8] 56 (0, 0)) := heap_setCell_same _ g 7 _ _ _ e6
  have e8 : (((((((((wr.setCell ⟨g, 0, none⟩ (.int .i64 k)).setCell ⟨g, 1, none⟩ (.int .i64 nd)).setCell ⟨g, 2, none⟩ (.int .i64 a)).setCell ⟨g, 3, none⟩ (.int .i64 n)).setCell ⟨g, 4, none⟩ (.int .u64 o)).setCell ⟨g, 5, none⟩ (.int .u64 ne)).setCell ⟨g, 6, none⟩ (V)).setCell ⟨g, 7, none⟩ (.int .u64 ky)).setCell ⟨g, 8, none⟩ (.int .i64 bo)).heap[g]? = some (.cells #[(.int .i64 k : Value), (.int .i64 nd : Value), (.int .i64 a : Value), (.int .i64 n : Value), (.int .u64 o : Value), (.int .u64 ne : Value), (V : Value), (.int .u64 ky : Value), (.int .i64 bo : Value)] 56 (0, 0)) := heap_setCell_same _ g 8 _ _ _ e7
  exact e8
theorem fin_o {g' : Nat} (hg : g' ≠ g) : (fin9 wr g k nd a n o ne V ky bo).heap[g']? = wr.heap[g']? := by
  have s : ∀ (W : World) (j : Nat) (u : Value), (W.setCell ⟨g, j, none⟩ u).heap[g']? = W.heap[g']? := fun W j u => Below.heap_setCell W ⟨g, j, none⟩ u g' hg
  unfold fin9
  simp only [s]
theorem fin_s : (fin9 wr g k nd a n o ne V ky bo).heap.size = wr.heap.size := by
  unfold fin9
  simp
theorem fin_b {B : Nat} (hB : Below B w0 wr) (hg : B ≤ g) : Below B w0 (fin9 wr g k nd a n o ne V ky bo) := by
  have sb : ∀ (W : World) (j : Nat) (u : Value), Below B w0 W → Below B w0 (W.setCell ⟨g, j, none⟩ u) := fun W j u h => h.setCell (p := ⟨g, j, none⟩) hg u
  unfold fin9
  exact sb _ _ _ (sb _ _ _ (sb _ _ _ (sb _ _ _ (sb _ _ _ (sb _ _ _ (sb _ _ _ (sb _ _ _ (sb _ _ _ hB))))))))
theorem lies_blk {kd : IntKind} {w w' : World} {B : Nat} {A : Option Addr} {l : List Nat} (h : Lies kd w B A l) (hne : ∀ ad, A = some ad → w'.heap[ad.block]? = w.heap[ad.block]?) (hs : B ≤ w'.heap.size) : Lies kd w' w'.heap.size A l := fun hp => by
  obtain ⟨ad, e, hb, hc⟩ := h hp
  refine ⟨ad, e, by omega, fun j hj => ?_⟩
  have := World.cell?_of_block (w := w) (w' := w') (a := ad.add j) (by rw [block_of_add]; exact hne ad e)
  exact this.trans (hc j hj)
theorem Vx.fin {A : Option Addr} {m cp : Nat} (h : Vx w0 wr g b k nd a n o ne (.slice A m cp) ky bo ws) :
    (fin9 wr g k nd a n o ne (.slice A m cp) ky bo).heap[g]? = some (.cells #[Value.int IntKind.i64 k, Value.int IntKind.i64 nd, Value.int IntKind.i64 a, Value.int IntKind.i64 n, Value.int IntKind.u64 o, Value.int IntKind.u64 ne, .slice A m cp, Value.int IntKind.u64 ky, Value.int IntKind.i64 bo] 56 (0, 0)) ∧
    Lies .u64 (fin9 wr g k nd a n o ne (.slice A m cp) ky bo) (fin9 wr g k nd a n o ne (.slice A m cp) ky bo).heap.size A ws ∧ Below w0.heap.size w0 (fin9 wr g k nd a n o ne (.slice A m cp) ky bo) ∧ (∀ ad, A = some ad → w0.heap.size ≤ ad.block) := by
  refine ⟨fin_z h.z, ?_, fin_b h.below h.ord.1, fun ad e => by
    subst e
    have := (h.row.own.lt ad.block rfl).1
    have := h.ord; omega⟩
  · have hk : ∀ g', b + 1 ≤ g' → g' < wr.heap.size → (fin9 wr g k nd a n o ne (.slice A m cp) ky bo).heap[g']? = wr.heap[g']? := fun g' hg _ => by
      have hne : g' ≠ g := by have := h.ord; omega
      exact fin_o hne
    obtain ⟨A', c', e, _, _, hL⟩ := (h.row.keep hk).form
    simp only [Value.slice.injEq] at e
    obtain ⟨rfl, _, _⟩ := e
    exact hL
end
/-- The words of a verb made of raw numbers: m of them, from y on. -/
def rawW (y m : Nat) : List Nat := (List.range m).map fun j => (y + j) % 18446744073709551616
theorem rawW_len (y m : Nat) : (rawW y m).length = m := by simp [rawW]
theorem rawW_more (y m : Nat) : rawW y (m + 1) = rawW y m ++ [(y + m) % 18446744073709551616] := by simp [rawW, List.range_succ]
theorem rawW_lt (y m : Nat) : ∀ x ∈ rawW y m, x < 18446744073709551616 := fun x hx => by
  unfold rawW at hx
  rw [List.mem_map] at hx
  obtain ⟨j, _, rfl⟩ := hx
  exact Nat.mod_lt _ (by decide)
theorem tdiv7 (n : Int) (n0 : -9223372036854775808 ≤ n) (n1 : n ≤ 9223372036854775807) : -9223372036854775808 ≤ n.tdiv 7 ∧ n.tdiv 7 ≤ 9223372036854775807 := by
  by_cases h : 0 ≤ n
  · rw [Int.tdiv_eq_ediv_of_nonneg h]; omega
  · have e : n.tdiv 7 = -((-n).tdiv 7) := by rw [Int.neg_tdiv]; omega
    rw [e, Int.tdiv_eq_ediv_of_nonneg (by omega)]; omega
def rawN (n : Int) : Int := if pk n 7 = 6 then pk (n.tdiv 7) 2100 - 20 else pk n 40

section
variable (kind node at_ n key boot : Int) (x y : Nat) (w : World)
theorem verb_any (k0 : -9223372036854775808 ≤ kind) (k1 : kind ≤ 9223372036854775807) (d0 : -9223372036854775808 ≤ node) (d1 : node ≤ 9223372036854775807) (a0 : -9223372036854775808 ≤ at_) (a1 : at_ ≤ 9223372036854775807)
    (n0 : -9223372036854775808 ≤ n) (n1 : n ≤ 9223372036854775807) (e0 : -9223372036854775808 ≤ key) (e1 : key ≤ 9223372036854775807) (b0 : -9223372036854775808 ≤ boot) (b1 : boot ≤ 9223372036854775807) (hx : x < 18446744073709551616) (hy : y < 18446744073709551616) :
    Calls Try.prog 36 #[.int .i64 kind, .int .i64 node, .int .i64 at_, .int .i64 n, .int .i64 key, .int .i64 boot, .int .u64 x, .int .u64 y] w fun e w' => ∃ (A : Option Addr) (cap : Nat), e = .returned (Value.agg #[Value.int IntKind.i64 (pk kind 6), Value.int IntKind.i64 (pk node 7 - 1), Value.int IntKind.i64 (pk at_ 900 - 8), Value.int IntKind.i64 (rawN n), Value.int IntKind.u64 x, Value.int IntKind.u64 y, Value.slice A ((pk n 23)) cap, Value.int IntKind.u64 (pk key 4), Value.int IntKind.i64 (pk boot 3)]) ∧
      (pk n 23 ≤ cap ∧ cap ≤ 9223372036854775807) ∧ Lk (Lies .u64 w' w'.heap.size A (rawW y (pk n 23))) ∧ Lk (Below w.heap.size w w') ∧ Lk (∀ ad, A = some ad → w.heap.size ≤ ad.block) := by
  have ht := tdiv7 n n0 n1
  have C1 := fun w => pick_any kind 6 w (by omega) (by omega) k0 k1
  have C2 := fun w => pick_any node 7 w (by omega) (by omega) d0 d1
  have C3 := fun w => pick_any at_ 900 w (by omega) (by omega) a0 a1
  have C4 := fun w => pick_any n 40 w (by omega) (by omega) n0 n1
  have C5 := fun w => pick_any key 4 w (by omega) (by omega) e0 e1
  have C6 := fun w => pick_any boot 3 w (by omega) (by omega) b0 b1
  have C7 := fun w => pick_any n 7 w (by omega) (by omega) n0 n1
  have C8 := fun w => pick_any (n.tdiv 7) 2100 w (by omega) (by omega) (by omega) (by omega)
  have C9 := fun w => pick_any n 23 w (by omega) (by omega) n0 n1
  have l1 := pk_lt kind 6 (by omega)
  have l2 := pk_lt node 7 (by omega)
  have l3 := pk_lt at_ 900 (by omega)
  have l4 := pk_lt n 40 (by omega)
  have l5 := pk_lt key 4 (by omega)
  have l6 := pk_lt boot 3 (by omega)
  have l8 := pk_lt (n.tdiv 7) 2100 (by omega)
  have l9 := pk_lt n 23 (by omega)
  have hq : IntKind.i64.wrap (n.tdiv 7) = n.tdiv 7 := IntWalk.i64_in _ (by omega)
  have HN : Lk (rawN n = if pk n 7 = 6 then ((pk (n.tdiv 7) 2100 : Nat) : Int) - 20 else ((pk n 40 : Nat) : Int)) := ⟨rfl⟩
  generalize rawN n = N at *
  generalize pk kind 6 = u1 at *
  generalize pk node 7 = u2 at *
  generalize pk at_ 900 = u3 at *
  generalize pk n 40 = u4 at *
  generalize pk key 4 = u5 at *
  generalize pk boot 3 = u6 at *
  generalize pk n 7 = u7 at *
  generalize pk (n.tdiv 7) 2100 = u8 at *
  generalize pk n 23 = m at *
  clear k0 k1 d0 d1 a0 a1 e0 e1 b0 b1
  obtain ⟨i0, hi, hz0, hz1, hz2⟩ := info_parts u64info
  go_enter Try.func36, Try.ntmps36
  go_upto_region 2 with (first
    | (go_at_call_of 6 (Value.int .i64 kind); refine (C1 _).mono ?_; rintro e w' ⟨rfl, rfl⟩)
    | (go_at_call_of 6 (Value.int .i64 node); refine (C2 _).mono ?_; rintro e w' ⟨rfl, rfl⟩)
    | (go_at_call_of 6 (Value.int .i64 at_); refine (C3 _).mono ?_; rintro e w' ⟨rfl, rfl⟩)
    | (go_at_call_of 6 (Value.int .i64 n); refine (C4 _).mono ?_; rintro e w' ⟨rfl, rfl⟩)
    | (go_at_call_of 6 (Value.int .i64 key); refine (C5 _).mono ?_; rintro e w' ⟨rfl, rfl⟩)
    | (go_at_call_of 6 (Value.int .i64 boot); refine (C6 _).mono ?_; rintro e w' ⟨rfl, rfl⟩))
  clear C1 C2 C3 C4 C5 C6
  have HX : Lk (Vx w ((w.alloc (.cells #[Value.int IntKind.i64 0, Value.int IntKind.i64 0, Value.int IntKind.i64 0, Value.int IntKind.i64 0, Value.int IntKind.u64 0, Value.int IntKind.u64 0, Value.slice none 0 0, Value.int IntKind.u64 0, Value.int IntKind.i64 0] 56)).alloc (.cells #[Value.int IntKind.i64 u1, Value.int IntKind.i64 (u2 - 1), Value.int IntKind.i64 (u3 - 8), Value.int IntKind.i64 u4, Value.int IntKind.u64 x, Value.int IntKind.u64 y, Value.slice none 0 0, Value.int IntKind.u64 u5, Value.int IntKind.i64 u6] 56)) w.heap.size (w.heap.size + 1) u1 (u2 - 1) (u3 - 8) u4 x y (.slice none 0 0) u5 u6 []) :=
    ⟨⟨(Below.heap_alloc _ _ _ (by simp)).trans (heap_alloc_new _ _), by have := heap_alloc_new (w.alloc (.cells #[Value.int IntKind.i64 0, Value.int IntKind.i64 0, Value.int IntKind.i64 0, Value.int IntKind.i64 0, Value.int IntKind.u64 0, Value.int IntKind.u64 0, Value.slice none 0 0, Value.int IntKind.u64 0, Value.int IntKind.i64 0] 56)) (.cells #[Value.int IntKind.i64 u1, Value.int IntKind.i64 (u2 - 1), Value.int IntKind.i64 (u3 - 8), Value.int IntKind.i64 u4, Value.int IntKind.u64 x, Value.int IntKind.u64 y, Value.slice none 0 0, Value.int IntKind.u64 u5, Value.int IntKind.i64 u6] 56); simpa using this, Wt.nil _ _, ((Below.refl _ w).alloc (Nat.le_refl _) _).alloc (by simp) _, by omega, by omega⟩⟩
  generalize hW : (w.alloc _).alloc _ = W2 at *
  clear hW
  go_upto_if 39 with (go_at_call_of 6 (Value.int .i64 n); refine (C7 _).mono ?_; rintro e w' ⟨rfl, rfl⟩)
  generalize w.heap.size + 1 = b at *
  have HG : Lk (w.heap.size = w.heap.size) := ⟨rfl⟩
  go_cut [39] (fun _ W => Lk (Vx w W w.heap.size b u1 (u2 - 1) (u3 - 8) N x y (.slice none 0 0) u5 u6 []))
  case first =>
    by_cases h7 : u7 = 6
    · have hN : N = u8 - 20 := by rw [HN.out, if_pos h7]
      have HX2 := Lk.mk (HX.out.setN N)
      have hf := HX.out.fr 3
      have hc := HX.out.c.2.2.2.1
      subst h7
      rw [hN] at HX2
      go_wp2_with (go_at_call 6; refine (C8 _).mono ?_; rintro e w' ⟨rfl, rfl⟩)
      go_meet
      rw [hN]
      exact HX2
    · have hN : N = u4 := by rw [HN.out, if_neg h7]
      go_wp2
      go_meet
      rw [hN]
      exact HX
  case rest =>
    clear C7 C8 HX HN l4 l8 hq ht
    go_wp2_with fail
    go_loopw [18] (fun i wr => ∃ (k : Nat) (V : Value), k ≤ m ∧ i = .int .i64 k ∧ Lk (Vx w wr w.heap.size b u1 (u2 - 1) (u3 - 8) N x y V u5 u6 (rawW y k))) (fun i _ => m - (intOf i).toNat)
    case atStart => exact ⟨0, _, by omega, rfl, hcut⟩
    case round =>
      clear hcut
      obtain ⟨k, V, hk, rfl, HX⟩ := hrel
      obtain ⟨c0, c1, c2, c3, c4, c5, c6, c7, c8⟩ := HX.out.c
      by_cases hlt : k < m
      · clear c0 c1 c2 c3 c4 c5 c7 c8
        go_upto_region 7 with (go_at_call_of 6 (Value.int .i64 n); refine (C9 _).mono ?_; rintro e w' ⟨rfl, rfl⟩)
        clear C9
        have HL : Lk ((rawW y k).length = k) := ⟨rawW_len y k⟩
        have HM : Lk (rawW y (k + 1) = rawW y k ++ [(y + k) % 18446744073709551616]) := ⟨rawW_more y k⟩
        generalize rawW y k = acc at *
        go_wp2_with (first
          | (at_builtin; refine wpList_append_own _ rfl _ _ 54 rfl (b + 1) 53 i0 (.int .u64 0) 1 8 Try.underlying54 hi hz0 hz1 hz2 rfl (by decide) _ _ _ rfl (HX.out.alloc _).row.own ⟨wr.heap.size, 0, none⟩ 1 1 [.int .u64 (IntKind.u64.wrap ((y : Int) + k))] rfl rfl ?c1 ?c2 ?c3 ?c4 ?c5 ?_))
        case c1 =>
          intro j u hj
          match j, hj with
          | 0, hj => simp at hj; subst hj; simp [Addr.add]
        case c2 => intro u hu; simp at hu; subst hu; rfl
        case c3 => rw [HL.out]; unfold maxLen; omega
        case c4 => rw [HL.out]; omega
        case c5 => have := HX.out.size; simp; omega
        intro v' w1 hown' hgrow _
        have HX2 := Lk.mk ((HX.out.alloc _).app (l := [(y + k) % 18446744073709551616]) (fun z hz => by rw [List.mem_singleton] at hz; omega) hgrow (by
          have e : IntKind.u64.wrap ((y : Int) + k) = (((y + k) % 18446744073709551616 : Nat) : Int) := by simp [IntKind.wrap, IntKind.signed, IntKind.bits]
          rw [e] at hown'
          simpa [u64v] using hown'))
        clear hown' hgrow
        rw [← HM.out] at HX2
        have hf := HX2.out.2.1
        have hc := HX2.out.2.2
        have HX3 := Lk.mk HX2.out.1
        clear HX2 HX
        obtain ⟨A2, cp2, hv2, _, _, _⟩ := HX3.out.row.form
        generalize (rawW y (k + 1)).length = L2 at hv2
        subst hv2
        go_wp2_with fail
        go_roundw
        case rel => exact ⟨k + 1, _, by omega, by go_num, HX3⟩
        case measure => simp [intOf]; omega
      · obtain rfl : m = k := by omega
        obtain ⟨A, cp, rfl, hcp, hcp2, hL⟩ := HX.out.row.form
        have HL := Lk.mk hL
        clear hL
        rw [rawW_len] at *
        obtain ⟨z0, z1, z2, z3, z4, z5, z6, z7, z8⟩ := HX.out.zc
        have f0 := HX.out.fz 0
        have f1 := HX.out.fz 1
        have f2 := HX.out.fz 2
        have f3 := HX.out.fz 3
        have f4 := HX.out.fz 4
        have f5 := HX.out.fz 5
        have f6 := HX.out.fz 6
        have f7 := HX.out.fz 7
        have f8 := HX.out.fz 8
        generalize w.heap.size = g at *
        go_wp2_with (go_at_call_of 6 (Value.int .i64 n); refine (C9 _).mono ?_; rintro e w' ⟨rfl, rfl⟩)
        have HF := Lk.mk HX.out.fin
        exact bodyPost_ret (results_cell_row rfl _ _ g 56 _ (0, 0) _ rfl HF.out.1 Try.underlying56 rfl (by kernel_rfl)) rfl ⟨A, cp, rfl, ⟨hcp, hcp2⟩, ⟨HF.out.2.1⟩, ⟨HF.out.2.2.1⟩, ⟨HF.out.2.2.2⟩⟩
end
end Go.Proofs.Ytpehhldfegjajaa.Ve

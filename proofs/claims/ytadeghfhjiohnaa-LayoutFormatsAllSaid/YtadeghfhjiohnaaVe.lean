/-
  A verb made of raw numbers.
-/
import Derived.Test.YtadeghfhjiohnaaVb
import Derived.Laws.ResultCell
namespace Go.Proofs.Ytadeghfhjiohnaa.Ve
open Go.ChangeShapes Go.WideShapes Go.ChangeAt Go.RowKit Ga Va Vb
set_option linter.unusedVariables false
set_option linter.unusedSimpArgs false
set_option maxHeartbeats 4000000
set_option maxRecDepth 10000

/-- A row of words of a call's own: blocks from B on. -/
structure Wt (B : Nat) (wr : World) (v : Value) (ws : List Nat) : Prop where
  own : wr.ownsRow B 23 1 v ws.length (ws.map u64v)
  lt : ∀ x ∈ ws, x < 18446744073709551616
section
variable {B : Nat} {wr w' : World} {v v' : Value} {ws : List Nat}
theorem Wt.form (h : Wt B wr v ws) : ∃ A c, v = .slice A ws.length c ∧ ws.length ≤ c ∧ c ≤ 9223372036854775807 ∧ Lies .u64 wr wr.heap.size A ws := by
  rcases h.own.2 with ⟨rfl, h0⟩ | ⟨g, cap, cur, rfl, hb, hg, hn, hm, hs, ht⟩
  · have : ws = [] := List.eq_nil_of_length_eq_zero h0
    subst this
    exact ⟨none, 0, rfl, Nat.le_refl _, by omega, Lies.none_⟩
  · refine ⟨some ⟨g, 0, none⟩, cap, rfl, hn, by unfold maxLen at hm; omega, fun hl => ⟨_, rfl, (Array.getElem?_eq_some_iff.1 hg).1, fun j hj => ?_⟩⟩
    rw [add_zero_, h.own.cellAt j (by omega)]
    simp [hj, u64v]
theorem owns_on {base : Nat} {e : TypeId} {sz n : Nat} {xs : List Value} (h : wr.ownsRow base e sz v n xs) (hb : ∀ g, base ≤ g → g < wr.heap.size → w'.heap[g]? = wr.heap[g]?) : w'.ownsRow base e sz v n xs := by
  refine ⟨h.1, ?_⟩
  rcases h.2 with h' | ⟨g', cap', cur, h', h3, h4, h5⟩
  · exact .inl h'
  · exact .inr ⟨g', cap', cur, h', h3, (hb g' h3 (Array.getElem?_eq_some_iff.1 h4).1).trans h4, h5⟩
theorem Wt.keep (h : Wt B wr v ws) (hb : ∀ g, B ≤ g → g < wr.heap.size → w'.heap[g]? = wr.heap[g]?) : Wt B w' v ws := ⟨owns_on h.own hb, h.lt⟩
theorem Wt.nil (B : Nat) (w : World) : Wt B w (.slice none 0 0) [] := ⟨⟨by simp, .inl ⟨rfl, rfl⟩⟩, fun _ h => by simp at h⟩
theorem Wt.after {l : List Nat} (h : Wt B wr v ws) (hl : ∀ x ∈ l, x < 18446744073709551616) (hown : w'.ownsRow B 23 1 v' (ws.length + l.length) (ws.map u64v ++ l.map u64v)) : Wt B w' v' (ws ++ l) := by
  refine ⟨?_, fun x hx => (List.mem_append.1 hx).elim (h.lt x) (hl x)⟩
  rw [List.length_append, List.map_append]
  exact hown
end
/-- The local verb (block b) and the result's cells (block g), as the walk of bodegahand.Verb leaves them. -/
structure Vx (w0 wr : World) (g b : Nat) (k nd a n o ne : Int) (V : Value) (ky bo : Int) (ws : List Nat) : Prop where
  z : wr.heap[g]? = some (.cells #[Value.int IntKind.i64 0, Value.int IntKind.i64 0, Value.int IntKind.i64 0, Value.int IntKind.i64 0, Value.int IntKind.u64 0, Value.int IntKind.u64 0, Value.slice none 0 0, Value.int IntKind.u64 0, Value.int IntKind.i64 0] 122 (0, 0))
  v : wr.heap[b]? = some (.cells #[Value.int IntKind.i64 k, Value.int IntKind.i64 nd, Value.int IntKind.i64 a, Value.int IntKind.i64 n, Value.int IntKind.u64 o, Value.int IntKind.u64 ne, V, Value.int IntKind.u64 ky, Value.int IntKind.i64 bo] 122 (0, 0))
  row : Wt (b + 1) wr V ws
  below : Below w0.heap.size w0 wr
  ord : w0.heap.size ≤ g ∧ g < b
section
variable {w0 wr w' : World} {g b : Nat} {k nd a n o ne : Int} {V V' : Value} {ky bo : Int} {ws : List Nat}
theorem Vx.c (h : Vx w0 wr g b k nd a n o ne V ky bo ws) : wr.cell? ⟨b, 0, none⟩ = some (.int .i64 k) ∧ wr.cell? ⟨b, 1, none⟩ = some (.int .i64 nd) ∧ wr.cell? ⟨b, 2, none⟩ = some (.int .i64 a) ∧ wr.cell? ⟨b, 3, none⟩ = some (.int .i64 n) ∧ wr.cell? ⟨b, 4, none⟩ = some (.int .u64 o) ∧ wr.cell? ⟨b, 5, none⟩ = some (.int .u64 ne) ∧ wr.cell? ⟨b, 6, none⟩ = some V ∧ wr.cell? ⟨b, 7, none⟩ = some (.int .u64 ky) ∧ wr.cell? ⟨b, 8, none⟩ = some (.int .i64 bo) := by
  refine ⟨?_, ?_, ?_, ?_, ?_, ?_, ?_, ?_, ?_⟩ <;> exact (cell_of_row wr b _ _ _ _ h.v).trans rfl
theorem Vx.zc (h : Vx w0 wr g b k nd a n o ne V ky bo ws) : wr.cell? ⟨g, 0, none⟩ = some (.int .i64 0) ∧ wr.cell? ⟨g, 1, none⟩ = some (.int .i64 0) ∧ wr.cell? ⟨g, 2, none⟩ = some (.int .i64 0) ∧ wr.cell? ⟨g, 3, none⟩ = some (.int .i64 0) ∧ wr.cell? ⟨g, 4, none⟩ = some (.int .u64 0) ∧ wr.cell? ⟨g, 5, none⟩ = some (.int .u64 0) ∧ wr.cell? ⟨g, 6, none⟩ = some (.slice none 0 0) ∧ wr.cell? ⟨g, 7, none⟩ = some (.int .u64 0) ∧ wr.cell? ⟨g, 8, none⟩ = some (.int .i64 0) := by
  refine ⟨?_, ?_, ?_, ?_, ?_, ?_, ?_, ?_, ?_⟩ <;> exact (cell_of_row wr g _ _ _ _ h.z).trans rfl
theorem Vx.fz (h : Vx w0 wr g b k nd a n o ne V ky bo ws) (j : Nat) : wr.frozen? ⟨g, j, none⟩ = false := frozen_of_row wr g j _ _ h.z
theorem Vx.fr (h : Vx w0 wr g b k nd a n o ne V ky bo ws) (j : Nat) : wr.frozen? ⟨b, j, none⟩ = false := frozen_of_row wr b j _ _ h.v
theorem Vx.size (h : Vx w0 wr g b k nd a n o ne V ky bo ws) : b < wr.heap.size := (Array.getElem?_eq_some_iff.1 h.v).1
theorem Vx.setN (h : Vx w0 wr g b k nd a n o ne V ky bo ws) (n' : Int) : Vx w0 (wr.setCell ⟨b, 3, none⟩ (.int .i64 n')) g b k nd a n' o ne V ky bo ws :=
  ⟨(Below.heap_setCell wr ⟨b, 3, none⟩ _ g (by have := h.ord; show g ≠ b; omega)).trans h.z, heap_setCell_same wr b 3 _ _ _ h.v,
    h.row.keep fun g' hb _ => Below.heap_setCell wr ⟨b, 3, none⟩ _ g' (by show g' ≠ b; omega),
    h.below.setCell (p := ⟨b, 3, none⟩) (by have := h.ord; show w0.heap.size ≤ b; omega) _, h.ord⟩
theorem Vx.alloc (h : Vx w0 wr g b k nd a n o ne V ky bo ws) (ob : Obj) : Vx w0 (wr.alloc ob) g b k nd a n o ne V ky bo ws :=
  ⟨(Below.heap_alloc wr ob g (by have := h.ord; have := h.size; omega)).trans h.z, (Below.heap_alloc wr ob b h.size).trans h.v, h.row.keep fun g' _ hs => Below.heap_alloc wr ob g' hs, h.below.alloc h.below.size ob, h.ord⟩
theorem Vx.app (h : Vx w0 wr g b k nd a n o ne V ky bo ws) {l : List Nat} (hl : ∀ x ∈ l, x < 18446744073709551616) (hg : wr.grownBy w' V.ownBlock) (hown : w'.ownsRow (b + 1) 23 1 V' (ws.length + l.length) (ws.map u64v ++ l.map u64v)) :
    Vx w0 (w'.setCell ⟨b, 6, none⟩ V') g b k nd a n o ne V' ky bo (ws ++ l) ∧ w'.frozen? ⟨b, 6, none⟩ = false ∧ w'.cell? ⟨b, 6, none⟩ = some V := by
  have hr : ∀ i, V.ownBlock = some i → b + 1 ≤ i := fun i hi => (h.row.own.lt i hi).1
  have hz : w'.heap[g]? = wr.heap[g]? := hg.block g (by have := h.ord; have := h.size; omega) (fun e => by have := hr g e.symm; have := h.ord; omega)
  have hv : w'.heap[b]? = wr.heap[b]? := hg.block b h.size (fun e => by have := hr b e.symm; omega)
  have hv' := hv.trans h.v
  have hR := h.row.after hl hown
  refine ⟨⟨(Below.heap_setCell w' ⟨b, 6, none⟩ _ g (by have := h.ord; show g ≠ b; omega)).trans (hz.trans h.z), heap_setCell_same w' b 6 _ _ _ hv', ?_, ?_, h.ord⟩, frozen_of_row w' b 6 _ _ hv', (cell_of_row w' b 6 _ _ _ hv').trans rfl⟩
  · exact hR.keep fun g' hb _ => Below.heap_setCell w' ⟨b, 6, none⟩ _ g' (by show g' ≠ b; omega)
  · refine Below.setCell (p := ⟨b, 6, none⟩) (h.below.grown hg h.below.size fun i hi => ?_) (by have := h.ord; show w0.heap.size ≤ b; omega) _
    have := hr i hi; have := h.ord; omega
def fin9 (wr : World) (g : Nat) (k nd a n o ne : Int) (V : Value) (ky bo : Int) : World :=
  ((((((((wr.setCell ⟨g, 0, none⟩ (.int .i64 k)).setCell ⟨g, 1, none⟩ (.int .i64 nd)).setCell ⟨g, 2, none⟩ (.int .i64 a)).setCell ⟨g, 3, none⟩ (.int .i64 n)).setCell ⟨g, 4, none⟩ (.int .u64 o)).setCell ⟨g, 5, none⟩ (.int .u64 ne)).setCell ⟨g, 6, none⟩ V).setCell ⟨g, 7, none⟩ (.int .u64 ky)).setCell ⟨g, 8, none⟩ (.int .i64 bo)
theorem fin_z {z0 z1 z2 z3 z4 z5 z6 z7 z8 : Value} (z : wr.heap[g]? = some (.cells #[z0, z1, z2, z3, z4, z5, z6, z7, z8] 122 (0, 0))) :
    (fin9 wr g k nd a n o ne V ky bo).heap[g]? = some (.cells #[Value.int IntKind.i64 k, Value.int IntKind.i64 nd, Value.int IntKind.i64 a, Value.int IntKind.i64 n, Value.int IntKind.u64 o, Value.int IntKind.u64 ne, V, Value.int IntKind.u64 ky, Value.int IntKind.i64 bo] 122 (0, 0)) := by
  unfold fin9
  have e0 : (wr.setCell ⟨g, 0, none⟩ (.int .i64 k)).heap[g]? = some (.cells #[(.int .i64 k : Value), z1, z2, z3, z4, z5, z6, z7, z8] 122 (0, 0)) := heap_setCell_same _ g 0 _ _ _ z
  have e1 : ((wr.setCell ⟨g, 0, none⟩ (.int .i64 k)).setCell ⟨g, 1, none⟩ (.int .i64 nd)).heap[g]? = some (.cells #[(.int .i64 k : Value), (.int .i64 nd : Value), z2, z3, z4, z5, z6, z7, z8] 122 (0, 0)) := heap_setCell_same _ g 1 _ _ _ e0
  have e2 : (((wr.setCell ⟨g, 0, none⟩ (.int .i64 k)).setCell ⟨g, 1, none⟩ (.int .i64 nd)).setCell ⟨g, 2, none⟩ (.int .i64 a)).heap[g]? = some (.cells #[(.int .i64 k : Value), (.int .i64 nd : Value), (.int .i64 a : Value), z3, z4, z5, z6, z7, z8] 122 (0, 0)) := heap_setCell_same _ g 2 _ _ _ e1
  have e3 : ((((wr.setCell ⟨g, 0, none⟩ (.int .i64 k)).setCell ⟨g, 1, none⟩ (.int .i64 nd)).setCell ⟨g, 2, none⟩ (.int .i64 a)).setCell ⟨g, 3, none⟩ (.int .i64 n)).heap[g]? = some (.cells #[(.int .i64 k : Value), (.int .i64 nd : Value), (.int .i64 a : Value), (.int .i64 n : Value), z4, z5, z6, z7, z8] 122 (0, 0)) := heap_setCell_same _ g 3 _ _ _ e2
  have e4 : (((((wr.setCell ⟨g, 0, none⟩ (.int .i64 k)).setCell ⟨g, 1, none⟩ (.int .i64 nd)).setCell ⟨g, 2, none⟩ (.int .i64 a)).setCell ⟨g, 3, none⟩ (.int .i64 n)).setCell ⟨g, 4, none⟩ (.int .u64 o)).heap[g]? = some (.cells #[(.int .i64 k : Value), (.int .i64 nd : Value), (.int .i64 a : Value), (.int .i64 n : Value), (.int .u64 o : Value), z5, z6, z7, z8] 122 (0, 0)) := heap_setCell_same _ g 4 _ _ _ e3
  have e5 : ((((((wr.setCell ⟨g, 0, none⟩ (.int .i64 k)).setCell ⟨g, 1, none⟩ (.int .i64 nd)).setCell ⟨g, 2, none⟩ (.int .i64 a)).setCell ⟨g, 3, none⟩ (.int .i64 n)).setCell ⟨g, 4, none⟩ (.int .u64 o)).setCell ⟨g, 5, none⟩ (.int .u64 ne)).heap[g]? = some (.cells #[(.int .i64 k : Value), (.int .i64 nd : Value), (.int .i64 a : Value), (.int .i64 n : Value), (.int .u64 o : Value), (.int .u64 ne : Value), z6, z7, z8] 122 (0, 0)) := heap_setCell_same _ g 5 _ _ _ e4
  have e6 : (((((((wr.setCell ⟨g, 0, none⟩ (.int .i64 k)).setCell ⟨g, 1, none⟩ (.int .i64 nd)).setCell ⟨g, 2, none⟩ (.int .i64 a)).setCell ⟨g, 3, none⟩ (.int .i64 n)).setCell ⟨g, 4, none⟩ (.int .u64 o)).setCell ⟨g, 5, none⟩ (.int .u64 ne)).setCell ⟨g, 6, none⟩ (V)).heap[g]? = some (.cells #[(.int .i64 k : Value), (.int .i64 nd : Value), (.int .i64 a : Value), (.int .i64 n : Value), (.int .u64 o : Value), (.int .u64 ne : Value), (V : Value), z7, z8] 122 (0, 0)) := heap_setCell_same _ g 6 _ _ _ e5
  have e7 : ((((((((wr.setCell ⟨g, 0, none⟩ (.int .i64 k)).setCell ⟨g, 1, none⟩ (.int .i64 nd)).setCell ⟨g, 2, none⟩ (.int .i64 a)).setCell ⟨g, 3, none⟩ (.int .i64 n)).setCell ⟨g, 4, none⟩ (.int .u64 o)).setCell ⟨g, 5, none⟩ (.int .u64 ne)).setCell ⟨g, 6, none⟩ (V)).setCell ⟨g, 7, none⟩ (.int .u64 ky)).heap[g]? = some (.cells #[(.int .i64 k : Value), (.int .i64 nd : Value), (.int .i64 a : Value), (.int .i64 n : Value), (.int .u64 o : Value), (.int .u64 ne : Value), (V : Value), (.int .u64 ky : Value), z8] 122 (0, 0)) := heap_setCell_same _ g 7 _ _ _ e6
  have e8 : (((((((((wr.setCell ⟨g, 0, none⟩ (.int .i64 k)).setCell ⟨g, 1, none⟩ (.int .i64 nd)).setCell ⟨g, 2, none⟩ (.int .i64 a)).setCell ⟨g, 3, none⟩ (.int .i64 n)).setCell ⟨g, 4, none⟩ (.int .u64 o)).setCell ⟨g, 5, none⟩ (.int .u64 ne)).setCell ⟨g, 6, none⟩ (V)).setCell ⟨g, 7, none⟩ (.int .u64 ky)).setCell ⟨g, 8, none⟩ (.int .i64 bo)).heap[g]? = some (.cells #[(.int .i64 k : Value), (.int .i64 nd : Value), (.int .i64 a : Value), (.int .i64 n : Value), (.int .u64 o : Value), (.int .u64 ne : Value), (V : Value), (.int .u64 ky : Value), (.int .i64 bo : Value)] 122 (0, 0)) := heap_setCell_same _ g 8 _ _ _ e7
  exact e8
theorem fin_o {g' : Nat} (hg : g' ≠ g) : (fin9 wr g k nd a n o ne V ky bo).heap[g']? = wr.heap[g']? := by
  have s : ∀ (W : World) (j : Nat) (u : Value), (W.setCell ⟨g, j, none⟩ u).heap[g']? = W.heap[g']? := fun W j u => Below.heap_setCell W ⟨g, j, none⟩ u g' hg
  unfold fin9
  simp only [s]
theorem fin_s : (fin9 wr g k nd a n o ne V ky bo).heap.size = wr.heap.size := by
  unfold fin9
  simp
theorem fin_b {B : Nat} (hB : Below B w0 wr) (hg : B ≤ g) : Below B w0 (fin9 wr g k nd a n o ne V ky bo) := by
  have sb : ∀ (W : World) (j : Nat) (u : Value), Below B w0 W → Below B w0 (W.setCell ⟨g, j, none⟩ u) := fun W j u h => h.setCell (p := ⟨g, j, none⟩) hg u
  unfold fin9
  exact sb _ _ _ (sb _ _ _ (sb _ _ _ (sb _ _ _ (sb _ _ _ (sb _ _ _ (sb _ _ _ (sb _ _ _ (sb _ _ _ hB))))))))
theorem lies_blk {kd : IntKind} {w w' : World} {B : Nat} {A : Option Addr} {l : List Nat} (h : Lies kd w B A l) (hne : ∀ ad, A = some ad → w'.heap[ad.block]? = w.heap[ad.block]?) (hs : B ≤ w'.heap.size) : Lies kd w' w'.heap.size A l := fun hp => by
  obtain ⟨ad, e, hb, hc⟩ := h hp
  refine ⟨ad, e, by omega, fun j hj => ?_⟩
  have := World.cell?_of_block (w := w) (w' := w') (a := ad.add j) (by rw [block_of_add]; exact hne ad e)
  exact this.trans (hc j hj)
theorem Vx.fin {A : Option Addr} {m cp : Nat} (h : Vx w0 wr g b k nd a n o ne (.slice A m cp) ky bo ws) :
    (fin9 wr g k nd a n o ne (.slice A m cp) ky bo).heap[g]? = some (.cells #[Value.int IntKind.i64 k, Value.int IntKind.i64 nd, Value.int IntKind.i64 a, Value.int IntKind.i64 n, Value.int IntKind.u64 o, Value.int IntKind.u64 ne, .slice A m cp, Value.int IntKind.u64 ky, Value.int IntKind.i64 bo] 122 (0, 0)) ∧
    Lies .u64 (fin9 wr g k nd a n o ne (.slice A m cp) ky bo) (fin9 wr g k nd a n o ne (.slice A m cp) ky bo).heap.size A ws ∧ Below w0.heap.size w0 (fin9 wr g k nd a n o ne (.slice A m cp) ky bo) ∧ (∀ ad, A = some ad → w0.heap.size ≤ ad.block) := by
  refine ⟨fin_z h.z, ?_, fin_b h.below h.ord.1, fun ad e => by
    subst e
    have := (h.row.own.lt ad.block rfl).1
    have := h.ord; omega⟩
  · have hk : ∀ g', b + 1 ≤ g' → g' < wr.heap.size → (fin9 wr g k nd a n o ne (.slice A m cp) ky bo).heap[g']? = wr.heap[g']? := fun g' hg _ => by
      have hne : g' ≠ g := by have := h.ord; omega
      exact fin_o hne
    obtain ⟨A', c', e, _, _, hL⟩ := (h.row.keep hk).form
    simp only [Value.slice.injEq] at e
    obtain ⟨rfl, _, _⟩ := e
    exact hL
end
/-- The words of a verb made of raw numbers: m of them, from y on. -/
def rawW (y m : Nat) : List Nat := (List.range m).map fun j => (y + j) % 18446744073709551616
theorem rawW_len (y m : Nat) : (rawW y m).length = m := by simp [rawW]
theorem rawW_more (y m : Nat) : rawW y (m + 1) = rawW y m ++ [(y + m) % 18446744073709551616] := by simp [rawW, List.range_succ]
theorem rawW_lt (y m : Nat) : ∀ x ∈ rawW y m, x < 18446744073709551616 := fun x hx => by
  unfold rawW at hx
  rw [List.mem_map] at hx
  obtain ⟨j, _, rfl⟩ := hx
  exact Nat.mod_lt _ (by decide)
theorem tdiv7 (n : Int) (n0 : -9223372036854775808 ≤ n) (n1 : n ≤ 9223372036854775807) : -9223372036854775808 ≤ n.tdiv 7 ∧ n.tdiv 7 ≤ 9223372036854775807 := by
  by_cases h : 0 ≤ n
  · rw [Int.tdiv_eq_ediv_of_nonneg h]; omega
  · have e : n.tdiv 7 = -((-n).tdiv 7) := by rw [Int.neg_tdiv]; omega
    rw [e, Int.tdiv_eq_ediv_of_nonneg (by omega)]; omega
def rawN (n : Int) : Int := if pk n 7 = 6 then pk (n.tdiv 7) 2100 - 20 else pk n 40

section
variable (kind node at_ n key boot : Int) (x y : Nat) (w : World)
end
end Go.Proofs.Ytadeghfhjiohnaa.Ve

/-
  Pages in memory: their cells, a slice of them that is read, two of them compared.
-/
import Derived.Test.YtdodigfojbijfaaGa
import Derived.Deep.Slices
import Derived.DeepKeys
namespace Go.Proofs.Ytdodigfojbijfaa.Ra
open Go.ChangeShapes Go.WideShapes Go.ChangeAt Go.RowKit Ga
set_option linter.unusedVariables false
set_option linter.unusedSimpArgs false
set_option maxRecDepth 100000

/-- A page: its line, its header, its seven words. -/
structure Pg where
  line : Int
  head : Nat
  a : Nat
  b : Nat
  c : Nat
  d : Nat
  e : Nat
  f : Nat
  g : Nat
def pz : Pg := ⟨0, 0, 0, 0, 0, 0, 0, 0, 0⟩
def Pg.data (p : Pg) : List Nat := [p.a, p.b, p.c, p.d, p.e, p.f, p.g]
theorem pg_ext (p q : Pg) : p = q ↔ p.line = q.line ∧ p.head = q.head ∧ p.data = q.data := by
  obtain ⟨l, h, a, b, c, d, e, f, g⟩ := p
  obtain ⟨l', h', a', b', c', d', e', f', g'⟩ := q
  simp [Pg.data]
instance : DecidableEq Pg := fun p q => decidable_of_iff (p.line = q.line ∧ p.head = q.head ∧ p.data = q.data) (pg_ext p q).symm
def Pg.cells (p : Pg) : List Value := [.int .i64 p.line, .int .u64 (p.head : Int), .int .u64 (p.a : Int), .int .u64 (p.b : Int), .int .u64 (p.c : Int), .int .u64 (p.d : Int), .int .u64 (p.e : Int), .int .u64 (p.f : Int), .int .u64 (p.g : Int)]
def Pg.val (p : Pg) : Value := .agg #[.int .i64 p.line, .int .u64 (p.head : Int), .int .u64 (p.a : Int), .int .u64 (p.b : Int), .int .u64 (p.c : Int), .int .u64 (p.d : Int), .int .u64 (p.e : Int), .int .u64 (p.f : Int), .int .u64 (p.g : Int)]
def Pg.lits (p : Pg) : List Lit := [.int .i64 p.line, .int .u64 (p.head : Int), .int .u64 (p.a : Int), .int .u64 (p.b : Int), .int .u64 (p.c : Int), .int .u64 (p.d : Int), .int .u64 (p.e : Int), .int .u64 (p.f : Int), .int .u64 (p.g : Int)]
theorem Pg.len (p : Pg) : p.cells.length = 9 := rfl
structure Pg.Wf (p : Pg) : Prop where
  l0 : -9223372036854775808 ≤ p.line
  l1 : p.line ≤ 9223372036854775807
  h : p.head < 18446744073709551616
  a : p.a < 18446744073709551616
  b : p.b < 18446744073709551616
  c : p.c < 18446744073709551616
  d : p.d < 18446744073709551616
  e : p.e < 18446744073709551616
  f : p.f < 18446744073709551616
  g : p.g < 18446744073709551616
theorem pz_wf : pz.Wf := by constructor <;> decide
/-- The nine cells of a page at ad. -/
structure At (w : World) (ad : Addr) (p : Pg) : Prop where
  c0 : w.cell? ad = some (.int .i64 p.line)
  c1 : w.cell? ⟨ad.block, ad.off + 1, none⟩ = some (.int .u64 (p.head : Int))
  c2 : w.cell? ⟨ad.block, ad.off + 2, none⟩ = some (.int .u64 (p.a : Int))
  c3 : w.cell? ⟨ad.block, ad.off + 3, none⟩ = some (.int .u64 (p.b : Int))
  c4 : w.cell? ⟨ad.block, ad.off + 4, none⟩ = some (.int .u64 (p.c : Int))
  c5 : w.cell? ⟨ad.block, ad.off + 5, none⟩ = some (.int .u64 (p.d : Int))
  c6 : w.cell? ⟨ad.block, ad.off + 6, none⟩ = some (.int .u64 (p.e : Int))
  c7 : w.cell? ⟨ad.block, ad.off + 7, none⟩ = some (.int .u64 (p.f : Int))
  c8 : w.cell? ⟨ad.block, ad.off + 8, none⟩ = some (.int .u64 (p.g : Int))
theorem At.lt {w : World} {ad : Addr} {p : Pg} (h : At w ad p) : ad.block < w.heap.size := block_lt_of_cell h.c0
theorem At.keep {w w' : World} {ad : Addr} {p : Pg} (h : At w ad p) (hb : w'.heap[ad.block]? = w.heap[ad.block]?) : At w' ad p :=
  ⟨(World.cell?_of_block (w := w) (w' := w') (a := ad) hb).trans h.c0, (World.cell?_of_block (w := w) (w' := w') (a := ⟨ad.block, _, none⟩) hb).trans h.c1,
    (World.cell?_of_block (w := w) (w' := w') (a := ⟨ad.block, _, none⟩) hb).trans h.c2, (World.cell?_of_block (w := w) (w' := w') (a := ⟨ad.block, _, none⟩) hb).trans h.c3,
    (World.cell?_of_block (w := w) (w' := w') (a := ⟨ad.block, _, none⟩) hb).trans h.c4, (World.cell?_of_block (w := w) (w' := w') (a := ⟨ad.block, _, none⟩) hb).trans h.c5,
    (World.cell?_of_block (w := w) (w' := w') (a := ⟨ad.block, _, none⟩) hb).trans h.c6, (World.cell?_of_block (w := w) (w' := w') (a := ⟨ad.block, _, none⟩) hb).trans h.c7,
    (World.cell?_of_block (w := w) (w' := w') (a := ⟨ad.block, _, none⟩) hb).trans h.c8⟩
theorem At.below {w w' : World} {ad : Addr} {p : Pg} {B : Nat} (h : At w ad p) (hB : Below B w w') (hl : ad.block < B) : At w' ad p := h.keep (hB.block _ hl)
theorem At.of_cells {w : World} {ad : Addr} {p : Pg} (h : ∀ j, j < 9 → w.cell? (ad.add j) = p.cells[j]?) : At w ad p :=
  ⟨h 0 (by decide), h 1 (by decide), h 2 (by decide), h 3 (by decide), h 4 (by decide), h 5 (by decide), h 6 (by decide), h 7 (by decide), h 8 (by decide)⟩
theorem At.cells {w : World} {ad : Addr} {p : Pg} (h : At w ad p) : ∀ j, j < 9 → w.cell? (ad.add j) = p.cells[j]? := fun j hj => by
  match j, hj with
  | 0, _ => exact h.c0
  | 1, _ => exact h.c1
  | 2, _ => exact h.c2
  | 3, _ => exact h.c3
  | 4, _ => exact h.c4
  | 5, _ => exact h.c5
  | 6, _ => exact h.c6
  | 7, _ => exact h.c7
  | 8, _ => exact h.c8
/-- A slice of pages that is read: the i-th page lies at ad + 9 i. -/
def Pgs (w : World) (B : Nat) (A : Option Addr) (l : List Pg) : Prop :=
  0 < l.length → ∃ ad, A = some ad ∧ ad.block < B ∧ ∀ i, i < l.length → At w (ad.add (i * 9)) (l.getD i pz)
section
variable {w w' : World} {B B' : Nat} {A : Option Addr} {l : List Pg}
theorem Pgs.nil : Pgs w B A [] := fun h => absurd h (by simp)
theorem Pgs.at_ {k : Nat} (h : Pgs w B A l) (hk : k < l.length) : ∃ ad, A = some ad ∧ ad.block < B ∧ At w (ad.add (k * 9)) (l.getD k pz) := by
  obtain ⟨ad, e, hb, hc⟩ := h (by omega)
  exact ⟨ad, e, hb, hc k hk⟩
theorem Pgs.below (h : Pgs w B A l) (hb : Below B w w') : Pgs w' B A l := fun hn => by
  obtain ⟨ad, e, hl, hc⟩ := h hn
  exact ⟨ad, e, hl, fun j hj => (hc j hj).below hb (by rw [block_of_add]; exact hl)⟩
theorem Pgs.more (h : Pgs w B A l) (hB : B ≤ B') : Pgs w B' A l := fun hn => by
  obtain ⟨ad, e, hb, hc⟩ := h hn
  exact ⟨ad, e, by omega, hc⟩
theorem Pgs.on (h : Pgs w w.heap.size A l) (hb : Below w.heap.size w w') : Pgs w' w'.heap.size A l := (h.below hb).more hb.size
end
def PgsWf (l : List Pg) : Prop := ∀ p ∈ l, p.Wf
theorem PgsWf.at_ {l : List Pg} (h : PgsWf l) (k : Nat) : (l.getD k pz).Wf := by
  rw [List.getD_eq_getElem?_getD]
  by_cases hk : k < l.length
  · rw [List.getElem?_eq_getElem hk]; exact h _ (List.getElem_mem _)
  · rw [List.getElem?_eq_none (by omega)]; exact pz_wf

theorem page_fields : (Try.prog.fieldsOf 31).toList.map (fun f => (f.name, f.type, f.offset)) = [("Line", 3, 0), ("Head", 28, 1), ("Data", 29, 2)] := by kernel_rfl
theorem page_struct : Try.prog.underlying 31 = some (.struct (Try.prog.fieldsOf 31)) := by kernel_rfl
theorem page_stood : Try.prog.stoodInHeld 31 = false := by kernel_rfl
def Pg.arr (p : Pg) : Array Value := #[.int .i64 p.line, .int .u64 (p.head : Int), .int .u64 (p.a : Int), .int .u64 (p.b : Int), .int .u64 (p.c : Int), .int .u64 (p.d : Int), .int .u64 (p.e : Int), .int .u64 (p.f : Int), .int .u64 (p.g : Int)]
def Pg.arr7 (p : Pg) : Array Value := #[.int .u64 (p.a : Int), .int .u64 (p.b : Int), .int .u64 (p.c : Int), .int .u64 (p.d : Int), .int .u64 (p.e : Int), .int .u64 (p.f : Int), .int .u64 (p.g : Int)]
theorem part0 (p : Pg) (w : World) : (part 3 p.arr 0).run Try.prog w = .ok (.int .i64 p.line) w := by kernel_rfl
theorem part1 (p : Pg) (w : World) : (part 28 p.arr 1).run Try.prog w = .ok (.int .u64 (p.head : Int)) w := by kernel_rfl
theorem part2 (p : Pg) (w : World) : (part 29 p.arr 2).run Try.prog w = .ok (.agg p.arr7) w := by kernel_rfl
theorem part7_0 (p : Pg) (w : World) : (part 28 p.arr7 (0 * Try.prog.cellsOf 28)).run Try.prog w = .ok (.int .u64 (p.a : Int)) w := by kernel_rfl
theorem part7_1 (p : Pg) (w : World) : (part 28 p.arr7 (1 * Try.prog.cellsOf 28)).run Try.prog w = .ok (.int .u64 (p.b : Int)) w := by kernel_rfl
theorem part7_2 (p : Pg) (w : World) : (part 28 p.arr7 (2 * Try.prog.cellsOf 28)).run Try.prog w = .ok (.int .u64 (p.c : Int)) w := by kernel_rfl
theorem part7_3 (p : Pg) (w : World) : (part 28 p.arr7 (3 * Try.prog.cellsOf 28)).run Try.prog w = .ok (.int .u64 (p.d : Int)) w := by kernel_rfl
theorem part7_4 (p : Pg) (w : World) : (part 28 p.arr7 (4 * Try.prog.cellsOf 28)).run Try.prog w = .ok (.int .u64 (p.e : Int)) w := by kernel_rfl
theorem part7_5 (p : Pg) (w : World) : (part 28 p.arr7 (5 * Try.prog.cellsOf 28)).run Try.prog w = .ok (.int .u64 (p.f : Int)) w := by kernel_rfl
theorem part7_6 (p : Pg) (w : World) : (part 28 p.arr7 (6 * Try.prog.cellsOf 28)).run Try.prog w = .ok (.int .u64 (p.g : Int)) w := by kernel_rfl
theorem arr_under : Try.prog.underlying 29 = some (.array 7 28) := by kernel_rfl
theorem int_under : Try.prog.underlying 3 = some (.int .i64) := by kernel_rfl
theorem word_under : Try.prog.underlying 28 = some (.int .u64) := by kernel_rfl
theorem range7 : List.range 7 = [0, 1, 2, 3, 4, 5, 6] := by decide
theorem eq_seven (p q : Pg) (d : Nat) (w : World) : (Op.equalIn (d + 2) 29 (.agg p.arr7) (.agg q.arr7)).run Try.prog w = .ok (decide (p.data = q.data)) w := by
  cases hi : Try.prog.info? 28 with
  | none =>
    have h := u64info
    rw [hi] at h; cases h
  | some i =>
    rw [run_equalIn_array w (d + 1) p.arr7 q.arr7 arr_under hi, range7]
    have hq := fun (x y : Int) => run_equalIn_int (P := Try.prog) w d 28 .u64 .u64 x y word_under
    simp only [Op.eqItems, Sem.run_bind, part7_0, part7_1, part7_2, part7_3, part7_4, part7_5, part7_6, hq, Result.andThen_ok, Sem.run_ite, Sem.run_pure]
    by_cases h0 : (p.a : Int) = q.a
    · by_cases h1 : (p.b : Int) = q.b
      · by_cases h2 : (p.c : Int) = q.c
        · by_cases h3 : (p.d : Int) = q.d
          · by_cases h4 : (p.e : Int) = q.e
            · by_cases h5 : (p.f : Int) = q.f
              · by_cases h6 : (p.g : Int) = q.g
                · simp [h0, h1, h2, h3, h4, h5, h6, Pg.data]; omega
                · simp [h0, h1, h2, h3, h4, h5, h6, Pg.data]; omega
              · simp [h0, h1, h2, h3, h4, h5, Pg.data]; omega
            · simp [h0, h1, h2, h3, h4, Pg.data]; omega
          · simp [h0, h1, h2, h3, Pg.data]; omega
        · simp [h0, h1, h2, Pg.data]; omega
      · simp [h0, h1, Pg.data]; omega
    · simp [h0, Pg.data]; omega
theorem three_list {α β : Type} {f : α → β} {l : List α} {x y z : β} (h : l.map f = [x, y, z]) : ∃ a b c, l = [a, b, c] ∧ f a = x ∧ f b = y ∧ f c = z := by
  rcases l with _ | ⟨a, _ | ⟨b, _ | ⟨c, _ | ⟨d, l⟩⟩⟩⟩ <;> simp at h
  exact ⟨a, b, c, rfl, h.1, h.2.1, h.2.2⟩
theorem eq_page (p q : Pg) (w : World) : (Op.equalIn 10000 31 p.val q.val).run Try.prog w = .ok (decide (p = q)) w := by
  show (Op.equalIn (9999 + 1) 31 (.agg p.arr) (.agg q.arr)).run Try.prog w = _
  rw [run_equalIn_struct w 9999 31 p.arr q.arr page_struct page_stood]
  obtain ⟨f0, f1, f2, hl, g0, g1, g2⟩ := three_list page_fields
  rw [hl]
  · simp only [Prod.mk.injEq] at g0 g1 g2
    obtain ⟨n0, t0, o0⟩ := g0
    obtain ⟨n1, t1, o1⟩ := g1
    obtain ⟨n2, t2, o2⟩ := g2
    have hq1 := fun (x y : Int) => run_equalIn_int (P := Try.prog) w 9998 28 .u64 .u64 x y word_under
    have hq0 := fun (x y : Int) => run_equalIn_int (P := Try.prog) w 9998 3 .i64 .i64 x y int_under
    have hq2 := eq_seven p q 9997 w
    have e0 : ("Line" : String) ≠ "_" := by decide
    have e1 : ("Head" : String) ≠ "_" := by decide
    have e2 : ("Data" : String) ≠ "_" := by decide
    simp only [Op.eqFields, n0, n1, n2, t0, t1, t2, o0, o1, o2, e0, e1, e2, ne_eq, not_false_eq_true, if_true, Sem.run_bind, part0, part1, part2, hq0, hq1, hq2, Result.andThen_ok, Sem.run_ite, Sem.run_pure]
    by_cases h0 : p.line = q.line
    · by_cases h1 : (p.head : Int) = q.head
      · have h1' : p.head = q.head := by omega
        by_cases h2 : p.data = q.data
        · simp [h0, h1, h2, (pg_ext p q).2 ⟨h0, h1', h2⟩]
        · have : p ≠ q := fun e => h2 (by rw [e])
          simp [h0, h1, h2, this]
      · have : p ≠ q := fun e => h1 (by rw [e])
        simp [h0, h1, this]
    · have : p ≠ q := fun e => h0 (by rw [e])
      simp [h0, this]
theorem page_neq (p q : Pg) (w : World) : (binOp BinOp.neq 31 p.val q.val).run Try.prog w = .ok (.bool (!decide (p = q))) w := by
  unfold Pg.val
  rw [run_neq_struct]
  have := eq_page p q w
  unfold Pg.val at this
  rw [this]; rfl
theorem page_eql (p q : Pg) (w : World) : (binOp BinOp.eql 31 p.val q.val).run Try.prog w = .ok (.bool (decide (p = q))) w := by
  unfold Pg.val
  rw [run_eql_struct]
  have := eq_page p q w
  unfold Pg.val at this
  rw [this]; rfl
end Go.Proofs.Ytdodigfojbijfaa.Ra

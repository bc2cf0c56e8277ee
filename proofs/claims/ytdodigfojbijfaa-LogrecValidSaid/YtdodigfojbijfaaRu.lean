/-
  Contract of the reference's Parse: its words, its loop.
-/
import Derived.Test.YtdodigfojbijfaaRt
namespace Go.Proofs.Ytdodigfojbijfaa.Ru
open Go.ChangeShapes Go.WideShapes Go.ChangeAt Go.RowKit Ga Gb Ra Rb Rc Rd Re Rf Rg Rh Ri Rj Rk Rl Rm Rn Ro Rp Rr Rs Rt Un
set_option linter.unusedVariables false
set_option linter.unusedSimpArgs false
set_option maxRecDepth 10000
set_option maxHeartbeats 1000000

theorem parse_14 {b : List Nat} {lines : Int} (hn : nodeB lines = true) (h : validR (unpS b) (unpL b) lines ≠ 0) : parseE b lines = 14 := by
  rw [parseE, if_pos hn, if_neg (fun h' => h h'.1)]
theorem parse_bad {b : List Nat} {lines : Int} (hn : nodeB lines = true) (hw : ∀ x ∈ b, x < 18446744073709551616) (h : ¬ (3 ≤ b.length ∧ wd b 0 < 1073741824 ∧ 1 ≤ wd b 1 ∧ wd b 1 ≤ 12 ∧ 3 + 9 * wd b 1 ≤ b.length)) : parseE b lines = 14 := by
  refine parse_14 hn fun hv => h ?_
  have hok := valid_ok hv
  obtain ⟨_, h2, h3, _⟩ := valid_zero hv
  rw [unpL_len hok] at h3
  rw [unpS, if_pos hok] at h2
  obtain ⟨k1, k2, k3⟩ := hok
  have hb := wd_lt hw 0
  refine ⟨by omega, ?_, by omega, by omega, by omega⟩
  by_cases hs : wd b 0 < 9223372036854775808
  · rw [i64w_small hs] at h2; omega
  · have := i64w_big (by omega) hb; omega
theorem parse_bad2 {b : List Nat} {lines : Int} (hn : nodeB lines = true) (hw : ∀ x ∈ b, x < 18446744073709551616) {i : Nat} (hi : i < wd b 1) (h : 256 ≤ wd b (2 + i * 9)) : parseE b lines = 14 := by
  refine parse_14 hn fun hv => ?_
  have hok := valid_ok hv
  obtain ⟨h1, _, _, h4, _⟩ := valid_zero hv
  have hp := h4 (pgAt b i) (by rw [unpL, if_pos hok, pgsU, List.mem_map]; exact ⟨i, List.mem_range.2 hi, rfl⟩)
  have hl : (pgAt b i).line = i64w (wd b (2 + i * 9)) := rfl
  rw [hl] at hp
  have hb := wd_lt hw (2 + i * 9)
  by_cases hs : wd b (2 + i * 9) < 9223372036854775808
  · rw [i64w_small hs] at hp; omega
  · have := i64w_big (by omega) hb; omega
def wdK (ln : Int) (hd : Nat) (f : Nat → Nat) : Nat → Array Value
  | 0 => #[.int .i64 ln, .int .u64 (hd : Int), .int .u64 0, .int .u64 0, .int .u64 0, .int .u64 0, .int .u64 0, .int .u64 0, .int .u64 0]
  | k + 1 => (wdK ln hd f k).setIfInBounds (2 + k) (.int .u64 (f k : Int))
theorem wdK_size (ln : Int) (hd : Nat) (f : Nat → Nat) (k : Nat) : (wdK ln hd f k).size = 9 := by
  induction k with
  | zero => rfl
  | succ k ih => rw [wdK, Array.size_setIfInBounds, ih]
theorem wdK_all (ln : Int) (hd : Nat) (f : Nat → Nat) : wdK ln hd f 7 = (⟨ln, hd, f 0, f 1, f 2, f 3, f 4, f 5, f 6⟩ : Pg).arr := rfl
/-- The blocks of the reference's Parse while it works. -/
structure Uf (T : TypeId) (w wr : World) (S : Int) (l : List Pg) (v : Value) : Prop where
  z : wr.heap[w.heap.size]? = some (.cells #[.int .i64 0, .slice none 0 0] T (0, 0))
  r : wr.heap[w.heap.size + 1]? = some (.cells #[.int .i64 S, v] T (0, 0))
  own : wr.ownsRow (w.heap.size + 2) 31 9 v l.length (l.flatMap Pg.cells)
  below : Below w.heap.size w wr
theorem Uf.on {T : TypeId} {w wr w' : World} {S : Int} {l : List Pg} {v : Value} (h : Uf T w wr S l v) (hb : Below wr.heap.size wr w') : Uf T w w' S l v :=
  ⟨(hb.block _ (Array.getElem?_eq_some_iff.1 h.z).1).trans h.z, (hb.block _ (Array.getElem?_eq_some_iff.1 h.r).1).trans h.r, owns_on h.own hb, h.below.trans (hb.mono h.below.size)⟩
theorem Uf.start (T : TypeId) (w : World) (S : Int) : Uf T w ((w.alloc (.cells #[.int .i64 0, .slice none 0 0] T)).alloc (.cells #[.int .i64 S, .slice none 0 0] T)) S [] (.slice none 0 0) := by
  refine ⟨(Below.heap_alloc _ _ _ (by simp)).trans (heap_alloc_new w _), ?_, World.ownsRow_nil _ _ _ _, two_alloc _ _ _⟩
  have := heap_alloc_new (w.alloc (.cells #[.int .i64 0, .slice none 0 0] T)) (.cells #[.int .i64 S, .slice none 0 0] T)
  simpa using this
theorem Uf.big {T : TypeId} {w wr : World} {S : Int} {l : List Pg} {v : Value} (h : Uf T w wr S l v) : w.heap.size + 2 ≤ wr.heap.size := (Array.getElem?_eq_some_iff.1 h.r).1
/-- One page more. -/
theorem Uf.put {T : TypeId} {w wr w6 : World} {S : Int} {l l' : List Pg} {v : Value} {A6 : Option Addr} {c6 m : Nat} (h : Uf T w wr S l v) (hb : Below wr.heap.size wr w6 ∨ wr.grownBy w6 v.ownBlock) (hl : l'.length = m)
    (hown : w6.ownsRow (w.heap.size + 2) 31 9 (.slice A6 m c6) m (l'.flatMap Pg.cells)) :
    Uf T w (w6.setCell ⟨w.heap.size + 1, 1, none⟩ (.slice A6 m c6)) S l' (.slice A6 m c6) ∧ w6.heap[w.heap.size + 1]? = some (.cells #[.int .i64 S, v] T (0, 0)) := by
  have hbig := h.big
  have hk : ∀ k, k < w.heap.size + 2 → w6.heap[k]? = wr.heap[k]? := fun k hk => by
    rcases hb with hb | hb
    · exact hb.block k (by omega)
    · exact hb.block k (by omega) (fun e => by have := (h.own.lt _ e.symm).1; omega)
  have hB6 : Below w.heap.size w w6 := by
    rcases hb with hb | hb
    · exact h.below.trans (hb.mono h.below.size)
    · exact h.below.grown hb h.below.size (fun g hg => by have := (h.own.lt _ hg).1; omega)
  have hr6 := (hk (w.heap.size + 1) (by omega)).trans h.r
  refine ⟨⟨(Below.heap_setCell w6 ⟨w.heap.size + 1, 1, none⟩ _ w.heap.size (by show w.heap.size ≠ w.heap.size + 1; omega)).trans ((hk w.heap.size (by omega)).trans h.z), heap_setCell_same w6 (w.heap.size + 1) 1 _ _ _ hr6, ?_, hB6.setCell (p := ⟨w.heap.size + 1, 1, none⟩) (by show w.heap.size ≤ w.heap.size + 1; omega) _⟩, hr6⟩
  rw [hl]
  exact owns_block (w := w6) hown (fun g hg => Below.heap_setCell w6 ⟨w.heap.size + 1, 1, none⟩ _ g (by have := (hown.lt _ hg).1; show g ≠ w.heap.size + 1; omega))
end Go.Proofs.Ytdodigfojbijfaa.Ru

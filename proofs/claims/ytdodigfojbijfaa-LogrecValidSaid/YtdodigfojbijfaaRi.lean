/-
  The record that words announce; contract of the program's unpacked.
-/
import Derived.Test.YtdodigfojbijfaaRh
import Derived.Laws.CopyOwn
namespace Go.Proofs.Ytdodigfojbijfaa.Ri
open Go.ChangeShapes Go.WideShapes Go.ChangeAt Go.RowKit Ga Gb Ra Rb Rc Rd Re Rf Rg Rh
set_option linter.unusedVariables false
set_option linter.unusedSimpArgs false
set_option maxRecDepth 10000
set_option maxHeartbeats 1000000

theorem pinfo : (Try.prog.info? 31).map (fun i => (i.zero, i.size, i.bytes)) = some (some pz.val, 9, 72) := by kernel_rfl
/-- An integer of 64 bits out of a word. -/
def i64w (x : Nat) : Int := IntKind.i64.wrap (x : Int)
theorem i64w_range (x : Nat) : -9223372036854775808 ≤ i64w x ∧ i64w x ≤ 9223372036854775807 := by
  unfold i64w; rw [IntKind.wrap_i64]; omega
theorem i64w_small {x : Nat} (h : x < 9223372036854775808) : i64w x = x := by
  unfold i64w; rw [IntKind.wrap_i64]; omega
theorem i64w_big {x : Nat} (h : 9223372036854775808 ≤ x) (h2 : x < 18446744073709551616) : i64w x < 0 := by
  unfold i64w; rw [IntKind.wrap_i64]; omega
def wd (b : List Nat) (i : Nat) : Nat := b.getD i 0
theorem wd_lt {b : List Nat} (h : ∀ x ∈ b, x < 18446744073709551616) (i : Nat) : wd b i < 18446744073709551616 := by
  unfold wd
  by_cases hi : i < b.length
  · exact getD_lt h hi
  · rw [List.getD_eq_getElem?_getD, List.getElem?_eq_none (by omega)]; decide
/-- The i-th page that the words announce. -/
def pgAt (b : List Nat) (i : Nat) : Pg := ⟨i64w (wd b (2 + i * 9)), wd b (2 + i * 9 + 1), wd b (2 + i * 9 + 2), wd b (2 + i * 9 + 3), wd b (2 + i * 9 + 4), wd b (2 + i * 9 + 5), wd b (2 + i * 9 + 6), wd b (2 + i * 9 + 7), wd b (2 + i * 9 + 8)⟩
def pgsU (b : List Nat) (n : Nat) : List Pg := (List.range n).map (pgAt b)
theorem pgsU_len (b : List Nat) (n : Nat) : (pgsU b n).length = n := by simp [pgsU]
theorem pgsU_next (b : List Nat) (k : Nat) : pgsU b (k + 1) = pgsU b k ++ [pgAt b k] := by simp [pgsU, List.range_succ]
theorem pgAt_wf {b : List Nat} (h : ∀ x ∈ b, x < 18446744073709551616) (i : Nat) : (pgAt b i).Wf :=
  ⟨(i64w_range _).1, (i64w_range _).2, wd_lt h _, wd_lt h _, wd_lt h _, wd_lt h _, wd_lt h _, wd_lt h _, wd_lt h _, wd_lt h _⟩
theorem pgsU_wf {b : List Nat} (h : ∀ x ∈ b, x < 18446744073709551616) (n : Nat) : PgsWf (pgsU b n) := fun p hp => by
  rw [pgsU, List.mem_map] at hp
  obtain ⟨i, _, rfl⟩ := hp
  exact pgAt_wf h i
/-- The words announce pages that are there. -/
def okL (b : List Nat) : Prop := 2 ≤ b.length ∧ wd b 1 ≤ 12 ∧ 3 + 9 * wd b 1 ≤ b.length
instance (b : List Nat) : Decidable (okL b) := by unfold okL; infer_instance
def unpS (b : List Nat) : Int := if okL b then i64w (wd b 0) else 0
def unpL (b : List Nat) : List Pg := if okL b then pgsU b (wd b 1) else []

/-- v is a row of pages of a call's own. -/
structure Pt (w0 : World) (B : Nat) (wr : World) (v : Value) (l : List Pg) : Prop where
  own : wr.ownsRow B 31 9 v l.length (l.flatMap Pg.cells)
  below : Below w0.heap.size w0 wr
section
variable {w0 wr w' : World} {B : Nat} {v v' : Value} {l : List Pg}
theorem Pt.nil (w : World) (B : Nat) : Pt w B w (.slice none 0 0) [] := ⟨World.ownsRow_nil _ _ _ _, Below.refl _ _⟩
theorem Pt.on (h : Pt w0 B wr v l) (hb : Below wr.heap.size wr w') : Pt w0 B w' v l := ⟨owns_on h.own hb, h.below.trans (hb.mono h.below.size)⟩
theorem Pt.lower {w1 : World} {B' : Nat} (h : Pt w1 B wr v l) (hb : Below w0.heap.size w0 w1) (hB : B' ≤ B) : Pt w0 B' wr v l := ⟨owns_lower h.own hB, hb.trans (h.below.mono hb.size)⟩
theorem Pt.form (h : Pt w0 B wr v l) : ∃ A c, v = .slice A l.length c ∧ l.length ≤ c ∧ c ≤ 9223372036854775807 ∧ Pgs wr wr.heap.size A l := by
  rcases h.own.2 with ⟨rfl, h0⟩ | ⟨g, cap, cur, rfl, hb, hg, hn, hm, hs, ht⟩
  · have : l = [] := List.eq_nil_of_length_eq_zero h0
    subst this
    exact ⟨none, 0, rfl, Nat.le_refl _, by decide, Pgs.nil⟩
  · refine ⟨some ⟨g, 0, none⟩, cap, rfl, hn, hm, fun hl => ⟨_, rfl, (Array.getElem?_eq_some_iff.1 hg).1, fun i hi => At.of_cells fun j hj => ?_⟩⟩
    rw [add_zero_, add_at, h.own.cellAt (i * 9 + j) (by omega), flat_at Pg.cells 9 (fun _ => rfl) l i j hi hj]
    rw [List.getD_eq_getElem?_getD, List.getElem?_eq_getElem hi]; rfl
end
end Go.Proofs.Ytdodigfojbijfaa.Ri

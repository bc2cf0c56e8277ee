/-
  Contracts of the reference's Little.
-/
import Derived.Test.YtdodigfojbijfaaCd
namespace Go.Proofs.Ytdodigfojbijfaa.Ce
open Go.ChangeShapes Go.WideShapes Go.ChangeAt Go.RowKit Ga Ma Ca Cb Cc Cd
set_option linter.unusedVariables false
set_option linter.unusedSimpArgs false

def row8 : Array Value := #[.int .u8 0, .int .u8 0, .int .u8 0, .int .u8 0, .int .u8 0, .int .u8 0, .int .u8 0, .int .u8 0]
theorem make8 (w : World) : (Instr.makeSlice 87 (.int .i64 8) (.int .i64 8)).run Try.prog w = .ok (.slice (some ⟨w.heap.size, 0, none⟩) 8 8) (w.alloc (.cells row8 5)) := by kernel_rfl
/-- The first m bytes of x have been laid. -/
structure Laid (x m : Nat) (cs : Array Value) : Prop where
  size : cs.size = 8
  cells : ∀ j, j < m → cs[j]? = some (.int .u8 ((x / 2 ^ (8 * j) % 256 : Nat) : Int))
/-- The call's own row. -/
structure Own (w wr : World) (cs : Array Value) : Prop where
  heap : wr.heap[w.heap.size]? = some (.cells cs 5 (0, 0))
  below : Below w.heap.size w wr
theorem Laid.start (x : Nat) : Laid x 0 row8 := ⟨rfl, fun j hj => by omega⟩
theorem Own.start (w : World) : Own w (w.alloc (.cells row8 5)) row8 := ⟨heap_alloc_new w _, (Below.refl _ _).alloc (Nat.le_refl _) _⟩
theorem Own.cell {w wr : World} {cs : Array Value} (h : Own w wr cs) {i : Nat} {v : Value} (hv : cs[i]? = some v) : wr.cell? ⟨w.heap.size, i, none⟩ = some v :=
  (cell_of_row wr _ i cs _ _ h.heap).trans hv
theorem Own.free {w wr : World} {cs : Array Value} (h : Own w wr cs) (i : Nat) : wr.frozen? ⟨w.heap.size, i, none⟩ = false := frozen_of_row wr _ i cs _ h.heap
theorem Own.set {w wr : World} {cs : Array Value} (h : Own w wr cs) (i : Nat) (v : Value) : Own w (wr.setCell ⟨w.heap.size, i, none⟩ v) (cs.setIfInBounds i v) :=
  ⟨heap_setCell_same wr _ i cs _ v h.heap, h.below.setCell (by simp) _⟩
theorem Laid.more {x m : Nat} {cs : Array Value} (h : Laid x m cs) (hm : m < 8) : Laid x (m + 1) (cs.setIfInBounds m (.int .u8 ((x / 2 ^ (8 * m) % 256 : Nat) : Int))) := by
  refine ⟨by simp [h.size], fun j hj => ?_⟩
  rw [Array.getElem?_setIfInBounds]
  by_cases e : m = j
  · subst e; rw [if_pos rfl, if_pos (by rw [h.size]; exact hm)]
  · rw [if_neg e]; exact h.cells j (by omega)
theorem Laid.has {x m : Nat} {cs : Array Value} (h : Laid x m cs) (hm : m < 8) : ∃ v, cs[m]? = some v := ⟨_, Array.getElem?_eq_getElem (by rw [h.size]; exact hm)⟩
theorem Own.lies {w wr : World} {cs : Array Value} {x : Nat} (h : Own w wr cs) (hl : Laid x 8 cs) : Lies .u8 wr wr.heap.size (some ⟨w.heap.size, 0, none⟩) (little x) := by
  intro _
  refine ⟨_, rfl, ?_, fun j hj => ?_⟩
  · have := h.cell (hl.cells 0 (by omega)); exact block_lt_of_cell this
  · have hj8 : j < 8 := by simpa [little] using hj
    have hadd : (⟨w.heap.size, 0, none⟩ : Addr).add j = ⟨w.heap.size, j, none⟩ := by unfold Addr.add; split <;> simp_all
    rw [hadd, h.cell (hl.cells j hj8)]
    have : (little x).getD j 0 = x / 2 ^ (8 * j) % 256 := by simp [little, hj8]
    rw [this]

/-- What Little hands back. -/
def Eight (x : Nat) (w : World) (e : Ending) (w' : World) : Prop :=
  e = .returned (.slice (some ⟨w.heap.size, 0, none⟩) 8 8) ∧ Lies .u8 w' w'.heap.size (some ⟨w.heap.size, 0, none⟩) (little x) ∧ Below w.heap.size w w'
set_option maxRecDepth 100000 in
theorem little_any (x : Nat) (w : World) (hx : x < 18446744073709551616) :
    Calls Try.prog 60 #[.int .u64 x] w (Eight x w) := by
  have hmk := make8
  go_enter Try.func60, Try.ntmps60
  go_wp2_with fail
  go_loopw [4] (fun i wr => ∃ (m : Nat) (cs : Array Value), m ≤ 8 ∧ i = .int .i64 m ∧ Laid x m cs ∧ Own w wr cs) (fun i _ => 8 - (intOf i).toNat)
  case atStart => exact ⟨0, row8, by omega, rfl, Laid.start x, Own.start w⟩
  case round =>
    obtain ⟨m, cs, hm, rfl, hl, ho⟩ := hrel
    by_cases h8 : m < 8
    · obtain ⟨v, hv⟩ := hl.has h8
      have hc := ho.cell hv
      have hf := ho.free m
      clear hv
      have HL : Lk (Laid x (m + 1) (cs.setIfInBounds m (.int .u8 ((x / 2 ^ (8 * m) % 256 : Nat) : Int)))) := ⟨hl.more h8⟩
      have HO : Lk (Own w _ (cs.setIfInBounds m (.int .u8 ((x / 2 ^ (8 * m) % 256 : Nat) : Int)))) := ⟨ho.set m _⟩
      have HE : Lk (((x / 2 ^ (8 * m) % 256 : Nat) : Int) = (x : Int) / 2 ^ (8 * m) % 256) := ⟨by simp⟩
      go_wp2
      go_roundw
      case rel => exact ⟨m + 1, _, by omega, by go_num, HL.out, by rw [← HE.out]; exact HO.out⟩
      case measure => simp [intOf]; omega
    · obtain rfl : m = 8 := by omega
      go_wp2
      go_ret
      exact ⟨rfl, ho.lies hl, ho.below⟩

theorem refExtend_n (s : Nat) (A : Option Addr) (l : List Nat) (n c : Nat) (w : World) (B : Nat) (hn : l.length = n) (hs : s < 18446744073709551616) (hl : n ≤ 20000) (hb : Hid (∀ x ∈ l, x < 256)) (h : Hid (Lies .u8 w B A l)) :
    Calls Try.prog 59 #[.int .u64 s, .slice A n c] w fun e w' => e = .returned (.int .u64 ((ext s l : Nat) : Int)) ∧ w = w' := by
  subst hn; exact refExtend_any s A l c w B hs hl hb h
theorem little_len (x : Nat) : (little x).length = 8 := by simp [little]
end Go.Proofs.Ytdodigfojbijfaa.Ce

/-
  Verbs by value: the counts of their words, the lines that they touch.
-/
import Derived.Test.YtadeghfhjiohnaaGa
namespace Go.Proofs.Ytadeghfhjiohnaa.Va
open Go.ChangeShapes Go.WideShapes Go.ChangeAt Go.RowKit Ga
set_option linter.unusedVariables false
set_option linter.unusedSimpArgs false
set_option maxHeartbeats 4000000

/-- A verb, by value. -/

def cnt (k n : Int) (wl : Nat) : Int := if k = 1 then n else if k = 2 then wl else if k = 3 ∨ k = 4 then 1 else 0
def cntR (k n : Int) (wl : Nat) : Int := if k = 1 then n else if k = 2 then wl else 1
def kf (k : Int) : Int := if k = 1 then 4 else 3

section
variable (k nd a n o ne : Int) (wa : Option Addr) (wl wc : Nat) (ky bo : Int) (w : World)
end
/-- What is in the box of a verb, whatever has been laid since. -/
structure Bx (w : World) (b : Nat) (k nd a n o ne : Int) (wa : Option Addr) (wl wc : Nat) (ky bo : Int) : Prop where
  c0 : w.cell? ⟨b, 0, none⟩ = some (.int .i64 k)
  c1 : w.cell? ⟨b, 1, none⟩ = some (.int .i64 nd)
  c2 : w.cell? ⟨b, 2, none⟩ = some (.int .i64 a)
  c3 : w.cell? ⟨b, 3, none⟩ = some (.int .i64 n)
  c4 : w.cell? ⟨b, 4, none⟩ = some (.int .u64 o)
  c5 : w.cell? ⟨b, 5, none⟩ = some (.int .u64 ne)
  c6 : w.cell? ⟨b, 6, none⟩ = some (.slice wa wl wc)
  c7 : w.cell? ⟨b, 7, none⟩ = some (.int .u64 ky)
  c8 : w.cell? ⟨b, 8, none⟩ = some (.int .i64 bo)
theorem Bx.of_heap {w : World} {b : Nat} {k nd a n o ne : Int} {wa : Option Addr} {wl wc : Nat} {ky bo : Int} {T : TypeId} {x : Nat × Nat} (h : w.heap[b]? = some (.cells #[Value.int IntKind.i64 k, Value.int IntKind.i64 nd, Value.int IntKind.i64 a, Value.int IntKind.i64 n, Value.int IntKind.u64 o, Value.int IntKind.u64 ne, Value.slice wa wl wc, Value.int IntKind.u64 ky, Value.int IntKind.i64 bo] T x)) :
    Bx w b k nd a n o ne wa wl wc ky bo := by
  constructor <;> exact (cell_of_row w b _ _ _ _ h).trans rfl
theorem Bx.alloc (w : World) (k nd a n o ne : Int) (wa : Option Addr) (wl wc : Nat) (ky bo : Int) (T : TypeId) : Bx (w.alloc (.cells #[Value.int IntKind.i64 k, Value.int IntKind.i64 nd, Value.int IntKind.i64 a, Value.int IntKind.i64 n, Value.int IntKind.u64 o, Value.int IntKind.u64 ne, Value.slice wa wl wc, Value.int IntKind.u64 ky, Value.int IntKind.i64 bo] T)) w.heap.size k nd a n o ne wa wl wc ky bo :=
  Bx.of_heap (heap_alloc_new _ _)
theorem Bx.on {w w' : World} {b : Nat} {k nd a n o ne : Int} {wa : Option Addr} {wl wc : Nat} {ky bo : Int} (h : Bx w b k nd a n o ne wa wl wc ky bo) (hb : Below w.heap.size w w') : Bx w' b k nd a n o ne wa wl wc ky bo :=
  ⟨(hb.cell (block_lt_of_cell h.c0)).trans h.c0, (hb.cell (block_lt_of_cell h.c1)).trans h.c1, (hb.cell (block_lt_of_cell h.c2)).trans h.c2, (hb.cell (block_lt_of_cell h.c3)).trans h.c3, (hb.cell (block_lt_of_cell h.c4)).trans h.c4, (hb.cell (block_lt_of_cell h.c5)).trans h.c5, (hb.cell (block_lt_of_cell h.c6)).trans h.c6, (hb.cell (block_lt_of_cell h.c7)).trans h.c7, (hb.cell (block_lt_of_cell h.c8)).trans h.c8⟩

theorem Bx.on' {w W w' : World} {b : Nat} {k nd a n o ne : Int} {wa : Option Addr} {wl wc : Nat} {ky bo : Int} (h : Bx w b k nd a n o ne wa wl wc ky bo) (hb : Below W.heap.size W w') (hW : W.heap = w.heap := by rfl) : Bx w' b k nd a n o ne wa wl wc ky bo := by
  have e : ∀ p, W.cell? p = w.cell? p := fun p => by unfold World.cell?; rw [hW]
  have h' : Bx W b k nd a n o ne wa wl wc ky bo := ⟨(e _).trans h.c0, (e _).trans h.c1, (e _).trans h.c2, (e _).trans h.c3, (e _).trans h.c4, (e _).trans h.c5, (e _).trans h.c6, (e _).trans h.c7, (e _).trans h.c8⟩
  exact h'.on hb

/-- A verb of some words within memory. -/
def fstL (a : Int) : Int := a / 8
def lstL (a c : Int) : Int := (a + c - 1) / 8
section
variable {k nd a n o ne : Int} {wa : Option Addr} {wl wc : Nat} {ky bo : Int} {w W w2 : World} {b : Nat}
theorem held_on (h : (World.cell? W (Addr.mk b 0 none) = some (Value.int IntKind.i64 k) ∧ World.cell? W (Addr.mk b 1 none) = some (Value.int IntKind.i64 nd) ∧ World.cell? W (Addr.mk b 2 none) = some (Value.int IntKind.i64 a) ∧ World.cell? W (Addr.mk b 3 none) = some (Value.int IntKind.i64 n) ∧ World.cell? W (Addr.mk b 4 none) = some (Value.int IntKind.u64 o) ∧ World.cell? W (Addr.mk b 5 none) = some (Value.int IntKind.u64 ne) ∧ World.cell? W (Addr.mk b 6 none) = some (Value.slice wa wl wc) ∧ World.cell? W (Addr.mk b 7 none) = some (Value.int IntKind.u64 ky) ∧ World.cell? W (Addr.mk b 8 none) = some (Value.int IntKind.i64 bo) ∧ Lk (Below (Array.size (World.heap w)) w W))) (hb : Lk (Below W.heap.size W w2)) : (World.cell? w2 (Addr.mk b 0 none) = some (Value.int IntKind.i64 k) ∧ World.cell? w2 (Addr.mk b 1 none) = some (Value.int IntKind.i64 nd) ∧ World.cell? w2 (Addr.mk b 2 none) = some (Value.int IntKind.i64 a) ∧ World.cell? w2 (Addr.mk b 3 none) = some (Value.int IntKind.i64 n) ∧ World.cell? w2 (Addr.mk b 4 none) = some (Value.int IntKind.u64 o) ∧ World.cell? w2 (Addr.mk b 5 none) = some (Value.int IntKind.u64 ne) ∧ World.cell? w2 (Addr.mk b 6 none) = some (Value.slice wa wl wc) ∧ World.cell? w2 (Addr.mk b 7 none) = some (Value.int IntKind.u64 ky) ∧ World.cell? w2 (Addr.mk b 8 none) = some (Value.int IntKind.i64 bo) ∧ Lk (Below (Array.size (World.heap w)) w w2)) := by
  obtain ⟨h0, h1, h2, h3, h4, h5, h6, h7, h8, h9⟩ := h
  have x := (Bx.mk h0 h1 h2 h3 h4 h5 h6 h7 h8).on hb.out
  exact ⟨x.c0, x.c1, x.c2, x.c3, x.c4, x.c5, x.c6, x.c7, x.c8, ⟨h9.out.trans (hb.out.mono h9.out.size)⟩⟩
theorem held_start (T : TypeId) (hw : W = w.alloc (.cells #[Value.int IntKind.i64 k, Value.int IntKind.i64 nd, Value.int IntKind.i64 a, Value.int IntKind.i64 n, Value.int IntKind.u64 o, Value.int IntKind.u64 ne, Value.slice wa wl wc, Value.int IntKind.u64 ky, Value.int IntKind.i64 bo] T)) : (World.cell? W.drew (Addr.mk w.heap.size 0 none) = some (Value.int IntKind.i64 k) ∧ World.cell? W.drew (Addr.mk w.heap.size 1 none) = some (Value.int IntKind.i64 nd) ∧ World.cell? W.drew (Addr.mk w.heap.size 2 none) = some (Value.int IntKind.i64 a) ∧ World.cell? W.drew (Addr.mk w.heap.size 3 none) = some (Value.int IntKind.i64 n) ∧ World.cell? W.drew (Addr.mk w.heap.size 4 none) = some (Value.int IntKind.u64 o) ∧ World.cell? W.drew (Addr.mk w.heap.size 5 none) = some (Value.int IntKind.u64 ne) ∧ World.cell? W.drew (Addr.mk w.heap.size 6 none) = some (Value.slice wa wl wc) ∧ World.cell? W.drew (Addr.mk w.heap.size 7 none) = some (Value.int IntKind.u64 ky) ∧ World.cell? W.drew (Addr.mk w.heap.size 8 none) = some (Value.int IntKind.i64 bo) ∧ Lk (Below (Array.size (World.heap w)) w W.drew)) := by
  subst hw
  have x := Bx.alloc w k nd a n o ne wa wl wc ky bo T
  exact ⟨x.c0, x.c1, x.c2, x.c3, x.c4, x.c5, x.c6, x.c7, x.c8, ⟨((Below.refl _ w).alloc (Nat.le_refl _) _).drew⟩⟩
theorem held_below (h : (World.cell? W (Addr.mk b 0 none) = some (Value.int IntKind.i64 k) ∧ World.cell? W (Addr.mk b 1 none) = some (Value.int IntKind.i64 nd) ∧ World.cell? W (Addr.mk b 2 none) = some (Value.int IntKind.i64 a) ∧ World.cell? W (Addr.mk b 3 none) = some (Value.int IntKind.i64 n) ∧ World.cell? W (Addr.mk b 4 none) = some (Value.int IntKind.u64 o) ∧ World.cell? W (Addr.mk b 5 none) = some (Value.int IntKind.u64 ne) ∧ World.cell? W (Addr.mk b 6 none) = some (Value.slice wa wl wc) ∧ World.cell? W (Addr.mk b 7 none) = some (Value.int IntKind.u64 ky) ∧ World.cell? W (Addr.mk b 8 none) = some (Value.int IntKind.i64 bo) ∧ Lk (Below (Array.size (World.heap w)) w W))) : Lk (Below w.heap.size w W) := h.2.2.2.2.2.2.2.2.2
theorem held_drew (h : (World.cell? W (Addr.mk b 0 none) = some (Value.int IntKind.i64 k) ∧ World.cell? W (Addr.mk b 1 none) = some (Value.int IntKind.i64 nd) ∧ World.cell? W (Addr.mk b 2 none) = some (Value.int IntKind.i64 a) ∧ World.cell? W (Addr.mk b 3 none) = some (Value.int IntKind.i64 n) ∧ World.cell? W (Addr.mk b 4 none) = some (Value.int IntKind.u64 o) ∧ World.cell? W (Addr.mk b 5 none) = some (Value.int IntKind.u64 ne) ∧ World.cell? W (Addr.mk b 6 none) = some (Value.slice wa wl wc) ∧ World.cell? W (Addr.mk b 7 none) = some (Value.int IntKind.u64 ky) ∧ World.cell? W (Addr.mk b 8 none) = some (Value.int IntKind.i64 bo) ∧ Lk (Below (Array.size (World.heap w)) w W))) : (World.cell? W.drew (Addr.mk b 0 none) = some (Value.int IntKind.i64 k) ∧ World.cell? W.drew (Addr.mk b 1 none) = some (Value.int IntKind.i64 nd) ∧ World.cell? W.drew (Addr.mk b 2 none) = some (Value.int IntKind.i64 a) ∧ World.cell? W.drew (Addr.mk b 3 none) = some (Value.int IntKind.i64 n) ∧ World.cell? W.drew (Addr.mk b 4 none) = some (Value.int IntKind.u64 o) ∧ World.cell? W.drew (Addr.mk b 5 none) = some (Value.int IntKind.u64 ne) ∧ World.cell? W.drew (Addr.mk b 6 none) = some (Value.slice wa wl wc) ∧ World.cell? W.drew (Addr.mk b 7 none) = some (Value.int IntKind.u64 ky) ∧ World.cell? W.drew (Addr.mk b 8 none) = some (Value.int IntKind.i64 bo) ∧ Lk (Below (Array.size (World.heap w)) w W.drew)) := ⟨h.1, h.2.1, h.2.2.1, h.2.2.2.1, h.2.2.2.2.1, h.2.2.2.2.2.1, h.2.2.2.2.2.2.1, h.2.2.2.2.2.2.2.1, h.2.2.2.2.2.2.2.2.1, ⟨h.2.2.2.2.2.2.2.2.2.out.drew⟩⟩
end
section
variable (k nd a n o ne : Int) (wa : Option Addr) (wl wc : Nat) (ky bo : Int) (w : World)
end
end Go.Proofs.Ytadeghfhjiohnaa.Va

/-
  What the texts of the program's pair take from those of the reference's: for a program that holds no reference's pair.
-/
import Derived.Test.YtadeghfhjiohnaaGb
import Derived.Test.YtadeghfhjiohnaaNb
import Derived.Test.YtadeghfhjiohnaaVb
namespace Go.Proofs.Ytadeghfhjiohnaa.Qa
open Go.ChangeShapes Go.WideShapes Go.ChangeAt Go.RowKit Ga Gb Na Nb Va Vb
set_option linter.unusedVariables false
set_option linter.unusedSimpArgs false
set_option maxRecDepth 100000
/-- A word of a node, 0 if there is none. -/
def atW (ws : List Nat) (i : Nat) : Nat := ws.getD i 0
end Go.Proofs.Ytadeghfhjiohnaa.Qa
namespace Go.Proofs.Ytadeghfhjiohnaa.Qb
open Go.ChangeShapes Go.WideShapes Go.ChangeAt Go.RowKit Ga Gb Na Nb Va Vb
set_option linter.unusedVariables false
set_option linter.unusedSimpArgs false
set_option maxRecDepth 100000
theorem below_of_grown {W W' : World} (hg : W.grownBy W' none) : Below W.heap.size W W' := ⟨hg.os, hg.tape, hg.output, hg.size, fun k hk => hg.block k hk (by simp)⟩
theorem Nd.below {T : TypeId} {w w' : World} {b g n cap : Nat} {ws : List Nat} {up : Bool} (h : Nd T w b g n cap ws up) (hb : Below w.heap.size w w') : Nd T w' b g n cap ws up := h.keep (hb.block b h.size) (hb.block g h.row.size)
end Go.Proofs.Ytadeghfhjiohnaa.Qb
namespace Go.Proofs.Ytadeghfhjiohnaa.Qd
open Go.ChangeShapes Go.WideShapes Go.ChangeAt Go.RowKit Ga Gb Na Nb Va Vb Qa Qb
set_option linter.unusedVariables false
set_option linter.unusedSimpArgs false
set_option maxRecDepth 100000
theorem flat_one {α : Type} (f : α → List Value) (h : ∀ x, ∀ u ∈ f x, u.oneCell' = true) (l : List α) : ∀ u ∈ l.flatMap f, u.oneCell' = true := fun u hu => by
  rw [List.mem_flatMap] at hu
  obtain ⟨x, _, hx⟩ := hu
  exact h x u hx
/-- Words in a block apart from F. -/
def LiesF (F : Nat → Prop) (w : World) (A : Option Addr) (l : List Nat) : Prop := 0 < l.length → ∃ ad, A = some ad ∧ ¬ F ad.block ∧ ad.block < w.heap.size ∧ ∀ j, j < l.length → w.cell? (ad.add j) = some (.int .u64 ((l.getD j 0 : Nat) : Int))
section
variable {F S : Nat → Prop} {w w' : World} {A : Option Addr} {l : List Nat} {b : Nat}
theorem LiesF.on (h : LiesF F w A l) (ho : Only S w w') (hs : ∀ k, S k → F k) : LiesF F w' A l := fun hl => by
  obtain ⟨ad, e, hf, hb, hc⟩ := h hl
  exact ⟨ad, e, hf, Nat.lt_of_lt_of_le hb ho.size, fun j hj => (World.cell?_of_block (w := w) (w' := w') (a := ad.add j) (by rw [block_of_add]; exact ho.block _ hb (fun hS => hf (hs _ hS)))).trans (hc j hj)⟩
theorem LiesF.lies (h : LiesF F w A l) : Lies .u64 w w.heap.size A l := fun hl => by
  obtain ⟨ad, e, _, hb, hc⟩ := h hl
  exact ⟨ad, e, hb, hc⟩
theorem LiesF.nil : LiesF F w A [] := fun h => absurd h (by simp)
end
theorem own_liesF {F : Nat → Prop} {w : World} {base n c : Nat} {A : Option Addr} {l : List Nat} (h : w.ownsRow base 23 1 (.slice A n c) n (l.map u64v)) (hl : l.length = n) (hf : ∀ g, base ≤ g → ¬ F g) : LiesF F w A l := fun hp => by
  subst hl
  rcases h.2 with ⟨_, h0⟩ | ⟨g, cap, cur, e, hb, hg, _⟩
  · omega
  · injection e with e1 e2 e3
    subst e1
    refine ⟨_, rfl, hf g hb, (Array.getElem?_eq_some_iff.1 hg).1, fun j hj => ?_⟩
    refine h.cells (g := g) rfl j _ ?_
    rw [List.getElem?_map, List.getElem?_eq_getElem hj]
    simp [hj, u64v]
end Go.Proofs.Ytadeghfhjiohnaa.Qd
namespace Go.Proofs.Ytadeghfhjiohnaa.Qf
def postC (vc nd pnd : Int) (m : Nat) : Int := if vc = 0 then (if nd = pnd then (if m < 1024 then 0 else 12) else 1) else vc
end Go.Proofs.Ytadeghfhjiohnaa.Qf
namespace Go.Proofs.Ytadeghfhjiohnaa.Qj
open Go.ChangeShapes Go.WideShapes Go.ChangeAt Go.RowKit Ga Gb Na Nb Va Vb Qa Qb Qd
set_option linter.unusedVariables false
set_option linter.unusedSimpArgs false
set_option maxRecDepth 100000
section
variable {F F' : Nat → Prop} {w : World} {A : Option Addr} {l : List Nat} {b m : Nat}
theorem _root_.Go.Proofs.Ytadeghfhjiohnaa.Qd.LiesF.more_ (h : LiesF F w A l) (hm : w.heap.size ≤ m) : LiesF (fun k => F k ∨ k = m) w A l := fun hl => by
  obtain ⟨ad, e, hf, hb, hc⟩ := h hl
  exact ⟨ad, e, fun hh => hh.elim hf (fun e => by omega), hb, hc⟩
theorem _root_.Go.Proofs.Ytadeghfhjiohnaa.Qd.LiesF.less_ (h : LiesF F' w A l) (hs : ∀ k, F k → F' k) : LiesF F w A l := fun hl => by
  obtain ⟨ad, e, hf, hb, hc⟩ := h hl
  exact ⟨ad, e, fun hh => hf (hs _ hh), hb, hc⟩
end
theorem done_under : Try.prog.underlying 117 = some (.struct (match Try.prog.underlying 117 with | some (.struct fs) => fs | _ => #[])) := by kernel_rfl
end Go.Proofs.Ytadeghfhjiohnaa.Qj

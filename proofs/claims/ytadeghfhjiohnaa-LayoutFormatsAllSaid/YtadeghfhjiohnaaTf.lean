/-
  The program executes a piece of a verb.
-/
import Derived.Test.YtadeghfhjiohnaaTe
namespace Go.Proofs.Ytadeghfhjiohnaa.Tf
open Go.ChangeShapes Go.WideShapes Go.ChangeAt Go.RowKit Ga Gb Na Nb Nc Nd_ Va Vb Vd Ve Qa Qb Qd Ta Tb Tc Td Te
set_option linter.unusedVariables false
set_option linter.unusedSimpArgs false
set_option maxHeartbeats 1000000
set_option maxRecDepth 100000
/-- What a piece reads. -/
def outM (k : Int) (ws : List Nat) (at_ m : Nat) : List Nat := if k = 2 then [] else (ws.drop at_).take m
/-- What it makes of the node's words. -/
def wsM (k : Int) (a o ne : Nat) (s ws : List Nat) (at_ m : Nat) : List Nat :=
  if k = 2 then putW ws at_ ((s.drop (at_ - a)).take m) else if k = 3 then casW ws at_ o ne else if k = 4 then addW ws at_ ne else ws
theorem take_one (ws : List Nat) (i : Nat) (h : i < ws.length) : (ws.drop i).take 1 = [ws.getD i 0] := by
  rw [List.drop_eq_getElem_cons h, List.take_succ_cons, List.take_zero]
  simp [h]
theorem slice_any (ad : Addr) (n cap j c : Nat) (w : World) (h1 : 1 ≤ c) (h2 : j + c ≤ n) (h3 : n ≤ cap) (h4 : cap ≤ 9223372036854775807) :
    (Instr.sliceAt 36 (.slice (some ad) n cap) (some (.int .i64 (j : Int))) (some (.int .i64 ((j : Int) + c))) none).run Try.prog w = .ok (.slice (some (ad.add j)) c (cap - j)) w := by
  rw [run_sliceAt_slice _ _ _ _ _ _ under_words, run_slice_lh _ _ _ _ _ under_words _ _ _ _ (by omega) (by omega) (by omega), size_word]
  have e : (if cap = j then (some ad : Option Addr) else (some ad).map (·.add (j * 1))) = some (ad.add j) := by
    rw [if_neg (by omega)]
    simp
  have e2 : ((j : Int) + c).toNat - j = c := by omega
  simp only [Result.andThen, sliced, e, e2, Int.toNat_natCast]
section
variable (nb ng n cap : Nat) (ws : List Nat) (nd nn : Int) (a o ne : Nat) (A : Option Addr) (c : Nat) (ky bo : Int) (s : List Nat) (at_ m : Nat) (w : World)
def Exec (k : Int) (w : World) (nb ng n cap : Nat) (ws : List Nat) (a o ne : Nat) (s : List Nat) (at_ m : Nat) (e : Ending) (w' : World) : Prop :=
  ∃ (A2 : Option Addr) (c2 : Nat), e = .returned (.slice A2 (outM k ws at_ m).length c2) ∧ Lk (Own w.heap.size w' A2 (outM k ws at_ m)) ∧ Lk (PN w' nb ng n cap (wsM k a o ne s ws at_ m) true) ∧ Lk (Only (fun k => k = nb ∨ k = ng) w w')
theorem wr_on {W W' : World} {g g2 nb ng : Nat} {A : Option Addr} {l c at_ m : Nat} (h : World.cell? W ⟨g2, 0, none⟩ = some (.int .i64 at_) ∧ World.cell? W ⟨g2, 1, none⟩ = some (.int .i64 m) ∧ World.cell? W ⟨g, 6, none⟩ = some (.slice A l c)) (ho : Lk (Only (fun k => k = nb ∨ k = ng) W W')) (hn : Lk ((g2 ≠ nb ∧ g2 ≠ ng) ∧ (g ≠ nb ∧ g ≠ ng))) :
    World.cell? W' ⟨g2, 0, none⟩ = some (.int .i64 at_) ∧ World.cell? W' ⟨g2, 1, none⟩ = some (.int .i64 m) ∧ World.cell? W' ⟨g, 6, none⟩ = some (.slice A l c) := by
  have k2 := fun j (hb : g2 < W.heap.size) => World.cell?_of_block (w := W) (w' := W') (a := ⟨g2, j, none⟩) (ho.out.block g2 hb (fun hh => hh.elim hn.out.1.1 hn.out.1.2))
  exact ⟨(k2 0 (block_lt_of_cell h.1)).trans h.1, (k2 1 (block_lt_of_cell h.1)).trans h.2.1, (World.cell?_of_block (w := W) (w' := W') (a := ⟨g, 6, none⟩) (ho.out.block g (block_lt_of_cell h.2.2) (fun hh => hh.elim hn.out.2.1 hn.out.2.2))).trans h.2.2⟩
end
end Go.Proofs.Ytadeghfhjiohnaa.Tf

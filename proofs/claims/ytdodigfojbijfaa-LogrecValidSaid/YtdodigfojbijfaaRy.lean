/-
  The texts of stage 8, together; boxes and pages as stores into other boxes go on.
-/
import Derived.Test.YtdodigfojbijfaaRx
import Derived.Test.YtdodigfojbijfaaRv
namespace Go.Proofs.Ytdodigfojbijfaa.Ry
open Go.ChangeShapes Go.WideShapes Go.ChangeAt Go.RowKit Ga Gb Ra Rb Rc Rd Re Rf Rg Rh Ri Rj Rk Rl Rm Rn Ro Rp Rr Rs Rt Ru Rx Un
theorem box_on {W W' : World} {g : Nat} {o : Obj} (h : W.heap[g]? = some o) (hb : Below W.heap.size W W') : W'.heap[g]? = some o := (hb.block _ (Array.getElem?_eq_some_iff.1 h).1).trans h
theorem box_lt {W : World} {g : Nat} {o : Obj} (h : W.heap[g]? = some o) : g < W.heap.size := (Array.getElem?_eq_some_iff.1 h).1
/-- Pages that a call has handed back, as a box elsewhere is written. -/
theorem pt_set {W0 w4 : World} {B g : Nat} {v : Value} {l : List Pg} (x' y' : Value) (h : Pt W0 B w4 v l) (hg : g < B) (h0 : W0.heap.size ≤ g) : Pt W0 B ((w4.setCell ⟨g, 0, none⟩ x').setCell ⟨g, 1, none⟩ y') v l :=
  ⟨owns_block (w := w4) h.own (fun k hk => two_other x' y' (by have := (h.own.lt _ hk).1; omega)), two_below x' y' h.below h0⟩
theorem row_set {w4 : World} {g k n c : Nat} {ws : List Nat} (x' y' : Value) (h : Row w4 g n c ws) (hk : g ≠ k) : Row ((w4.setCell ⟨k, 0, none⟩ x').setCell ⟨k, 1, none⟩ y') g n c ws := h.keep (two_other x' y' hk)
theorem pt_pgs {W0 W : World} {B n c : Nat} {A : Option Addr} {l : List Pg} (h : Pt W0 B W (.slice A n c) l) (hn : l.length = n) : Pgs W W.heap.size A l := by
  obtain ⟨A', c', e, _, _, hP⟩ := h.form
  rw [hn] at e
  cases e
  exact hP
theorem bodyX_nil (s : Int) : bodyX s [] = [] := by
  have h : validR s [] 256 ≠ 0 := by
    unfold validR
    rw [if_pos (by decide), if_neg (by simp)]
    decide
  rw [bodyX, if_neg h]
theorem parseL_len (b : List Nat) (L : Int) : (parseL b L).length ≤ 12 := by
  unfold parseL
  split
  · rename_i h
    unfold parseE at h
    split at h
    · split at h
      · rename_i h3
        obtain ⟨_, _, h4, _⟩ := valid_zero h3.1
        omega
      · cases h
    · cases h
  · simp
end Go.Proofs.Ytdodigfojbijfaa.Ry

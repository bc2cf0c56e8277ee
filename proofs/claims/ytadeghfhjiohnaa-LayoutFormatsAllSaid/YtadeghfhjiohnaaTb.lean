/-
  The program's copies of words and verbs.
-/
import Derived.Test.YtadeghfhjiohnaaTa
import Derived.Test.YtadeghfhjiohnaaNc
import Derived.Test.YtadeghfhjiohnaaVe
namespace Go.Proofs.Ytadeghfhjiohnaa.Tb
open Go.ChangeShapes Go.WideShapes Go.ChangeAt Go.RowKit Ga Gb Na Nb Nc Va Ve Ta
set_option linter.unusedVariables false
set_option linter.unusedSimpArgs false
set_option maxHeartbeats 4000000
set_option maxRecDepth 100000
/-- Words that a copy has laid: a row of its own, from block B on. -/
def Own (B : Nat) (w : World) (A : Option Addr) (l : List Nat) : Prop := 0 < l.length → ∃ g c, A = some ⟨g, 0, none⟩ ∧ B ≤ g ∧ Row w g l.length c l
theorem Own.lies {B : Nat} {w : World} {A : Option Addr} {l : List Nat} (h : Own B w A l) : Lies .u64 w w.heap.size A l := fun hp => by
  obtain ⟨g, c, e, hb, hr⟩ := h hp
  subst e
  exact hr.lies hp
theorem Own.on {B : Nat} {w w' : World} {A : Option Addr} {l : List Nat} (h : Own B w A l) (hk : ∀ g, B ≤ g → g < w.heap.size → w'.heap[g]? = w.heap[g]?) : Own B w' A l := fun hp => by
  obtain ⟨g, c, e, hb, hr⟩ := h hp
  exact ⟨g, c, e, hb, hr.keep (hk g hb hr.size)⟩
theorem Own.more {B B' : Nat} {w : World} {A : Option Addr} {l : List Nat} (h : Own B w A l) (hb : B' ≤ B) : Own B' w A l := fun hp => by
  obtain ⟨g, c, e, hg, hr⟩ := h hp
  exact ⟨g, c, e, Nat.le_trans hb hg, hr⟩
theorem own_of {B n c : Nat} {w : World} {A : Option Addr} {l : List Nat} (h : w.ownsRow B 23 1 (.slice A n c) n (l.map u64v)) (hl : l.length = n) (hx : ∀ x ∈ l, x < 18446744073709551616) : Own B w A l := fun hp => by
  subst hl
  have h0 := h
  rcases h.2 with ⟨_, h0⟩ | ⟨g, cap, cur, e, hb, _⟩
  · omega
  · injection e with e1 e2 e3
    subst e1
    exact ⟨g, c, rfl, hb, owns_base h0, rfl, hx⟩
theorem own_cap {B n c : Nat} {w : World} {e : TypeId} {sz : Nat} {A : Option Addr} {xs : List Value} (h : w.ownsRow B e sz (.slice A n c) n xs) : n ≤ c ∧ c ≤ 9223372036854775807 := by
  rcases h.2 with ⟨h', h0⟩ | ⟨g, cap, cur, h', _, _, h1, h2, _⟩
  · simp only [Value.slice.injEq] at h'
    omega
  · simp only [Value.slice.injEq] at h'
    unfold maxLen at h2
    omega
theorem nil_yes (n c : Nat) (w : World) : (binOp BinOp.eql 36 (.slice none n c) (.slice none 0 0)).run Try.prog w = .ok (.bool true) w := by kernel_rfl
section
variable (k nd a n o ne : Int) (A : Option Addr) (l c : Nat) (ky bo : Int) (s : List Nat) (w : World)
end
end Go.Proofs.Ytadeghfhjiohnaa.Tb

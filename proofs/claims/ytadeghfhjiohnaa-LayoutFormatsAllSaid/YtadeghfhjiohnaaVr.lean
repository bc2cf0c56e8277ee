/-
  A range over a function whose rounds lay a variable of their own ahead of the body: the walk of the assignment may lay memory.
-/
import Derived.Test.YtadeghfhjiohnaaVf
namespace Go.Proofs.Ytadeghfhjiohnaa.Vr
open Go.ChangeShapes Go.WideShapes Go.ChangeAt Go.RowKit Go.Shelf Ga Va Vb Vd Vf
set_option linter.unusedVariables false
set_option linter.unusedSimpArgs false

section
variable {α : Type} {g : Operand} {ps : Array Tmp} {assign body : Code} {Q : Exit → Act → World → Prop} {a : Act} {w : World} {m : Nat} {P : Program} {gf : Nat} {lb : Array Value}
  {encs : α → Array Value} {S Sp : List α → Prop} {N n₀ : Nat}
/-- The loop in the wide fence, without an exit of its own. I: what holds between rounds; M: behind the assignment, with the frame that it leaves. -/
theorem range_lays (hm : 1 ≤ m) (hg : a.eval g = .func (.func gf) #[] lb) (eg : ∀ args w, (callFunc gf args).run P w = .ok (.enter gf args) w)
    (hseq : SeqStopsK Fence.wide (m - 1) P gf lb encs (Below n₀) S Sp N w) (hn₀ : n₀ ≤ w.heap.size) (hps : ∀ x, (encs x).size = ps.size)
    (I : List α → World → Prop) (M : List α → α → Act → World → Prop) (hI : OwnFrom w.heap.size I) (hM : ∀ pre x b, OwnFrom w.heap.size (fun (_ : Unit) W => M pre x b W)) (h0 : I [] w)
    (hassign : ∀ (l : Nat) (pre : List α) (x : α) (W : World) (K : Act → World → Prop), I pre W → pre.length < N → (∀ b W₁, KeepsOthers W W₁ → Below n₀ W W₁ → M pre x b W₁ → K b W₁) →
      assign.wpIn (Fence.wide.inRound l) (m - 1 - 1) P (Exit.then K (fun _ _ _ => False)) { tmps := (ps.zip (encs x)).foldl (fun t (p, v) => t.setIfInBounds p v) a.tmps, defers := [] } W)
    (hbody : ∀ (l : Nat) (pre : List α) (x : α) (b : Act) (W : World), M pre x b W → pre.length < N → body.wpIn (Fence.wide.inRound l) (m - 1 - 1) P (ownPostK (Below n₀) I (fun _ _ _ => False) (pre ++ [x]) W) b W)
    (hdone : ∀ (D : Nat) (xs : List α) (W : World), w.heap.size ≤ D → S xs → I xs W → W.heap[D]? = some (.deferred (some [])) → Q .normal { a with defers := { target := .collected D, args := #[] } :: a.defers } W) :
    (Code.rangeFunc g ps assign body).wpIn Fence.wide m P Q a w := by
  refine wpIn_rangeFunc fun fn _ => ?_
  let R : LoopState → Option Code → Loop := fun st pe => { state := st, pending := pe, fn, tmps := a.tmps, params := ps, assign, body, defers := w.heap.size }
  let V : World := (w.alloc (.deferred (some []))).alloc (.loop (R .ready none))
  have vL : V.heap[w.heap.size + 1]? = some (.loop (R .ready none)) := by
    have := World.alloc_heap_new (w.alloc (.deferred (some []))) (.loop (R .ready none))
    rwa [World.size_alloc] at this
  have vK : V.heap[w.heap.size]? = some (.deferred (some [])) := (Below.heap_alloc _ _ _ (by simp)).trans (World.alloc_heap_new w _)
  have vI : I [] V := hI.alloc _ (hI.alloc _ h0)
  have vB : Below w.heap.size w V := ((Below.refl _ w).alloc (Nat.le_refl _) _).alloc (by simp) _
  -- a turn of the loop's record
  have put : ∀ (W : World) (o : Obj) (st : LoopState) (pe : Option Code), W.heap[w.heap.size + 1]? = some (.loop (R st pe)) → Below n₀ W (W.putObj (w.heap.size + 1) o) := fun W o st pe h =>
    belowK_b (w := w) hn₀ W (w.heap.size + 1) (.loop (R st pe)) o (by omega) h rfl rfl
  refine ⟨w.heap.size + 1, [{ target := .collected w.heap.size, args := #[] }], V, { target := .fn (.func gf) lb, args := #[.func (.yield (w.heap.size + 1)) #[] #[]] }, V, gf,
    #[.func (.yield (w.heap.size + 1)) #[] #[]] ++ lb, V, ?_, ?_, ?_, ?_, fun _ => hm, ?_⟩
  · exact run_enterLoop_outer _ _ _ _ _
  · simp only [resolve, hg]
    simp [go_sem]
  · intro f' _; trivial
  · simp [invoke, go_sem, eg]
  · let J : List α → World → Prop := fun pre W => I pre W ∧ W.heap[w.heap.size + 1]? = some (.loop (R .ready none)) ∧ W.heap[w.heap.size]? = some (.deferred (some []))
    have hJ : AbidesFrom V.heap.size J := fun s A B row hs hgr hr => by
      have hr' : ∀ r, row = some r → w.heap.size ≤ r ∧ ∃ o : Obj, A.heap[r]? = some o ∧ o.isCells = false := fun r e => by
        obtain ⟨hB, o, ho, hw⟩ := hr r e
        exact ⟨Nat.le_trans vB.size hB, o, ho, Obj.not_cells_of_walk hw⟩
      exact ⟨hI s A B row hs.1 hgr hr', (grownBy_keeps hgr (fun r e => (hr r e).2) hs.2.1 rfl).trans hs.2.1, (grownBy_keeps hgr (fun r e => (hr r e).2) hs.2.2 rfl).trans hs.2.2⟩
    refine (hseq (w.heap.size + 1) J (fun _ _ => False) V vB hJ (fun _ _ _ _ h _ _ => h) ?_ ⟨vI, vL, vK⟩).mono ?_
    · rintro pre x W ⟨hi, hl, hk⟩ hlen
      have hy := run_yield (P := P) (args := encs x) hl (hps x)
      refine ⟨fn, _, assign, body, hy, roundIn_of_wpIn trivial (hassign _ pre x W _ hi hlen fun b W₁ k₁ b₁ m₁ => ?_)⟩
      have hl₁ := k₁.same _ _ hl rfl
      have hk₁ := k₁.same _ _ hk rfl
      refine ⟨_, run_beginRound hl₁ rfl, ?_⟩
      have hlt : w.heap.size + 1 < W₁.heap.size := (Array.getElem?_eq_some_iff.1 hl₁).1
      have hl₂ : (W₁.putObj (w.heap.size + 1) (.loop { R .ready none with state := .busy })).heap[w.heap.size + 1]? = some (.loop (R .busy none)) := World.putObj_heap_same hlt
      have hk₂ : (W₁.putObj (w.heap.size + 1) (.loop { R .ready none with state := .busy })).heap[w.heap.size]? = some (.deferred (some [])) := (World.putObj_heap_other (by omega)).trans hk₁
      have b₂ := put W₁ (.loop { R .ready none with state := .busy }) .ready none hl₁
      have m₂ := (hM pre x b).putObj (s := ()) (.loop { R .ready none with state := .busy }) m₁ (show w.heap.size ≤ w.heap.size + 1 by omega) hl₁ rfl
      refine wpIn_mono (hbody _ pre x b _ m₂ hlen) ?_
      rintro e b₃ W₃ hp
      cases e with
      | normal =>
        obtain ⟨k₃, b₄, i₃⟩ := hp
        have hl₃ := k₃.same _ _ hl₂ rfl
        have hk₃ := k₃.same _ _ hk₂ rfl
        exact ⟨_, _, run_endRound (P := P) none hl₃, .inl ⟨rfl, ⟨hI.putObj _ i₃ (by omega) hl₃ rfl, World.putObj_heap_same (Array.getElem?_eq_some_iff.1 hl₃).1, (World.putObj_heap_other (by omega)).trans hk₃⟩,
          ((b₁.trans b₂).trans b₄).trans (put W₃ _ .busy none hl₃)⟩⟩
      | ret => exact hp.2.elim
      | exit id => exact hp.2.elim
      | goto t => exact hp.2.elim
      | panic ch => exact hp.elim
      | outgrown => exact hp.elim
    · rintro e W2 ⟨⟨v, rfl⟩, (⟨xs, hS, hi, hl, hk⟩ | ⟨pre, _, hf⟩)⟩
      · exact ⟨none, _, run_endLoop (P := P) hl (by simp [R]), hdone _ xs _ (Nat.le_refl _) hS (hI.putObj _ hi (by omega) hl rfl) ((World.putObj_heap_other (by omega)).trans hk)⟩
      · exact hf.elim
end
end Go.Proofs.Ytadeghfhjiohnaa.Vr

/-
  The reference's pair in memory; its Post.
-/
import Derived.Test.YtacfmkmiikkppaaQc
import Derived.Test.YtacfmkmiikkppaaGb
import Derived.Test.YtacfmkmiikkppaaVc
namespace Go.Proofs.Ytacfmkmiikkppaa.Qd
open Go.ChangeShapes Go.WideShapes Go.ChangeAt Go.RowKit Ga Gb Na Nb Nc Nd_ Nf Va Vb Qa Qb Qc
set_option linter.unusedVariables false
set_option linter.unusedSimpArgs false
set_option maxHeartbeats 4000000
set_option maxRecDepth 100000
/-- A verb that has not completed, as the reference keeps it. -/
structure Pe where
  k : Int
  nd : Int
  a : Int
  n : Int
  o : Int
  ne : Int
  A : Option Addr
  l : Nat
  c : Nat
  ky : Int
  bo : Int
  s : List Nat
  ex : Nat
  B : Option Addr
  lb : Nat
  cb : Nat
  r : List Nat
  slot : Int
def pcs (p : Pe) : List Value := [.int .i64 p.k, .int .i64 p.nd, .int .i64 p.a, .int .i64 p.n, .int .u64 p.o, .int .u64 p.ne, .slice p.A p.l p.c, .int .u64 p.ky, .int .i64 p.bo, .int .i64 p.ex, .slice p.B p.lb p.cb, .int .i64 p.slot]
theorem pcs_one (p : Pe) : ∀ u ∈ pcs p, u.oneCell' = true := fun u hu => by
  simp [pcs] at hu
  rcases hu with rfl | rfl | rfl | rfl | rfl | rfl | rfl | rfl | rfl | rfl | rfl | rfl <;> rfl
theorem flat_one {α : Type} (f : α → List Value) (h : ∀ x, ∀ u ∈ f x, u.oneCell' = true) (l : List α) : ∀ u ∈ l.flatMap f, u.oneCell' = true := fun u hu => by
  rw [List.mem_flatMap] at hu
  obtain ⟨x, _, hx⟩ := hu
  exact h x u hx
/-- Words in a block apart from F. -/
def LiesF (F : Nat → Prop) (w : World) (A : Option Addr) (l : List Nat) : Prop := 0 < l.length → ∃ ad, A = some ad ∧ ¬ F ad.block ∧ ad.block < w.heap.size ∧ ∀ j, j < l.length → w.cell? (ad.add j) = some (.int .u64 ((l.getD j 0 : Nat) : Int))
structure Pw (F : Nat → Prop) (w : World) (p : Pe) : Prop where
  a : LiesF F w p.A p.s
  la : p.s.length = p.l ∧ p.l ≤ 4294967296
  b : LiesF F w p.B p.r
  lb : p.r.length = p.lb ∧ p.lb ≤ 4294967296
/-- The reference's pair at block b, its queue q. -/
structure RP (F : Nat → Prop) (w : World) (b : Nat) (cl inc nd : Int) (Q : Value) (q : List Pe) : Prop where
  z : w.heap[b]? = some (.cells #[.int .i64 cl, .int .i64 inc, .int .i64 nd, Q] 70 (0, 0))
  f : F b
  own : w.ownsRow 0 112 12 Q q.length (q.flatMap pcs)
  nf : ∀ g, Q.ownBlock = some g → ¬ F g
  wd : ∀ p ∈ q, Pw F w p
section
variable {F S : Nat → Prop} {w w' : World} {A : Option Addr} {l : List Nat} {b : Nat} {cl inc nd : Int} {Q : Value} {q : List Pe}
theorem LiesF.on (h : LiesF F w A l) (ho : Only S w w') (hs : ∀ k, S k → F k) : LiesF F w' A l := fun hl => by
  obtain ⟨ad, e, hf, hb, hc⟩ := h hl
  exact ⟨ad, e, hf, Nat.lt_of_lt_of_le hb ho.size, fun j hj => (World.cell?_of_block (w := w) (w' := w') (a := ad.add j) (by rw [block_of_add]; exact ho.block _ hb (fun hS => hf (hs _ hS)))).trans (hc j hj)⟩
theorem LiesF.lies (h : LiesF F w A l) : Lies .u64 w w.heap.size A l := fun hl => by
  obtain ⟨ad, e, _, hb, hc⟩ := h hl
  exact ⟨ad, e, hb, hc⟩
theorem LiesF.nil : LiesF F w A [] := fun h => absurd h (by simp)
theorem Pw.on {p : Pe} (h : Pw F w p) (ho : Only S w w') (hs : ∀ k, S k → F k) : Pw F w' p := ⟨h.a.on ho hs, h.la, h.b.on ho hs, h.lb⟩
theorem RP.lt (h : RP F w b cl inc nd Q q) : b < w.heap.size := (Array.getElem?_eq_some_iff.1 h.z).1
theorem RP.c0 (h : RP F w b cl inc nd Q q) : w.cell? ⟨b, 0, none⟩ = some (.int .i64 cl) := (cell_of_row w b 0 _ _ _ h.z).trans rfl
theorem RP.c1 (h : RP F w b cl inc nd Q q) : w.cell? ⟨b, 1, none⟩ = some (.int .i64 inc) := (cell_of_row w b 1 _ _ _ h.z).trans rfl
theorem RP.c2 (h : RP F w b cl inc nd Q q) : w.cell? ⟨b, 2, none⟩ = some (.int .i64 nd) := (cell_of_row w b 2 _ _ _ h.z).trans rfl
theorem RP.c3 (h : RP F w b cl inc nd Q q) : w.cell? ⟨b, 3, none⟩ = some Q := (cell_of_row w b 3 _ _ _ h.z).trans rfl
theorem RP.fr (h : RP F w b cl inc nd Q q) (j : Nat) : w.frozen? ⟨b, j, none⟩ = false := frozen_of_row w b j _ _ h.z
theorem RP.on (h : RP F w b cl inc nd Q q) (ho : Only S w w') (hs : ∀ k, S k → F k) (hb : ¬ S b) : RP F w' b cl inc nd Q q :=
  ⟨(ho.block b h.lt hb).trans h.z, h.f, owns_block h.own (fun g hg => ho.block g (h.own.lt g hg).2 (fun hS => h.nf g hg (hs g hS))), h.nf, fun p hp => (h.wd p hp).on ho hs⟩
theorem RP.below (h : RP F w b cl inc nd Q q) (hb : Below w.heap.size w w') : RP F w' b cl inc nd Q q := h.on (S := fun _ => False) (Only.of_below hb) (fun _ h => h.elim) (fun h => h)
/-- A new queue, laid in blocks of its own. -/
theorem RP.put {Q2 : Value} {q2 : List Pe} (h : RP F w b cl inc nd Q q) (ho : Below w.heap.size w w') (hown : w'.ownsRow w.heap.size 112 12 Q2 q2.length (q2.flatMap pcs)) (hf : ∀ g, w.heap.size ≤ g → ¬ F g) (hw : ∀ p ∈ q2, Pw F w' p) :
    RP F (w'.setCell ⟨b, 3, none⟩ Q2) b cl inc nd Q2 q2 ∧ w'.frozen? ⟨b, 3, none⟩ = false ∧ w'.cell? ⟨b, 3, none⟩ = some Q := by
  have hz := (ho.block b h.lt).trans h.z
  have hne : ∀ g, Q2.ownBlock = some g → g ≠ b := fun g hg e => by
    have := (hown.lt g hg).1
    have := h.lt
    omega
  have hO : Only (fun k => k = b) w' (w'.setCell ⟨b, 3, none⟩ Q2) := (Only.refl (fun k => k = b) w').setCell (p := ⟨b, 3, none⟩) (.inl rfl) _
  refine ⟨⟨heap_setCell_same w' b 3 _ _ _ hz, h.f, ?_, fun g hg => hf g (hown.lt g hg).1, fun p hp => (hw p hp).on hO (fun k hk => by subst hk; exact h.f)⟩, frozen_of_row w' b 3 _ _ hz, (cell_of_row w' b 3 _ _ _ hz).trans rfl⟩
  have h2 := owns_block (w' := w'.setCell ⟨b, 3, none⟩ Q2) hown (fun g hg => Below.heap_setCell w' ⟨b, 3, none⟩ _ g (hne g hg))
  refine ⟨h2.1, ?_⟩
  rcases h2.2 with h' | ⟨g, cap, cur, e, h3, h4⟩
  · exact .inl h'
  · exact .inr ⟨g, cap, cur, e, Nat.zero_le _, h4⟩
end
theorem own_liesF {F : Nat → Prop} {w : World} {base n c : Nat} {A : Option Addr} {l : List Nat} (h : w.ownsRow base 33 1 (.slice A n c) n (l.map u64v)) (hl : l.length = n) (hf : ∀ g, base ≤ g → ¬ F g) : LiesF F w A l := fun hp => by
  subst hl
  rcases h.2 with ⟨_, h0⟩ | ⟨g, cap, cur, e, hb, hg, _⟩
  · omega
  · injection e with e1 e2 e3
    subst e1
    refine ⟨_, rfl, hf g hb, (Array.getElem?_eq_some_iff.1 hg).1, fun j hj => ?_⟩
    refine h.cells (g := g) rfl j _ ?_
    rw [List.getElem?_map, List.getElem?_eq_getElem hj]
    simp [hj, u64v]
theorem pinfo : (Try.prog.info? 112).map (fun i => (i.zero, i.size, i.bytes)) = some (some (.agg #[.int .i64 0, .int .i64 0, .int .i64 0, .int .i64 0, .int .u64 0, .int .u64 0, .slice none 0 0, .int .u64 0, .int .i64 0, .int .i64 0, .slice none 0 0, .int .i64 0]), 12, 128) := by kernel_rfl
end Go.Proofs.Ytacfmkmiikkppaa.Qd

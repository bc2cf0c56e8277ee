/-
  Two rows of structs of a call's own that grow side by side: verbs and completions.
-/
import Derived.Test.YtkkeamlpfpcbfaaUa
import Derived.Test.YtkkeamlpfpcbfaaVq
import Derived.Test.YtkkeamlpfpcbfaaVz
import Derived.Test.YtkkeamlpfpcbfaaVy
import Derived.Deep.CutBlock
namespace Go.Proofs.Ytkkeamlpfpcbfaa.Ub
open Go.ChangeShapes Go.WideShapes Go.ChangeAt Go.RowKit Ga Va Vb Vd Ve Vk Vt Vw Vx Vq Ua
set_option linter.unusedVariables false
set_option linter.unusedSimpArgs false
theorem flat_at {α : Type} (f : α → List Value) (n : Nat) (hf : ∀ x, (f x).length = n) (l : List α) (i j : Nat) (hi : i < l.length) (hj : j < n) : (l.flatMap f)[i * n + j]? = (f l[i])[j]? := by
  induction l generalizing i with
  | nil => simp at hi
  | cons x l ih =>
    rw [List.flatMap_cons]
    match i, hi with
    | 0, _ =>
      rw [List.getElem?_append_left (by rw [hf]; omega)]
      simp
    | i + 1, hi =>
      have e : (i + 1) * n + j = n + (i * n + j) := by rw [Nat.add_mul]; omega
      rw [List.getElem?_append_right (by rw [hf, e]; omega), hf, e, Nat.add_sub_cancel_left, ih i (by simpa using hi)]
      simp
theorem flat_len {α : Type} (f : α → List Value) (n : Nat) (hf : ∀ x, (f x).length = n) (l : List α) : (l.flatMap f).length = l.length * n := by
  induction l with
  | nil => simp
  | cons x l ih => rw [List.flatMap_cons, List.length_append, hf, ih, List.length_cons, Nat.add_mul]; omega
def vcs (p : Vp) : List Value := [.int .i64 p.v.k, .int .i64 p.v.nd, .int .i64 p.v.a, .int .i64 p.v.n, .int .u64 p.v.o, .int .u64 p.v.ne, .slice p.A p.l p.c, .int .u64 p.v.ky, .int .i64 p.v.bo]
def dcs (d : Dp) : List Value := [.int .i64 d.code, .slice d.A d.l d.c]
theorem owns_block {w w' : World} {base : Nat} {e : TypeId} {sz n : Nat} {v : Value} {xs : List Value} (h : w.ownsRow base e sz v n xs) (hb : ∀ g, v.ownBlock = some g → w'.heap[g]? = w.heap[g]?) : w'.ownsRow base e sz v n xs := by
  refine ⟨h.1, ?_⟩
  rcases h.2 with h' | ⟨g', cap', cur, rfl, h3, h4, h5⟩
  · exact .inl h'
  · exact .inr ⟨g', cap', cur, rfl, h3, (hb g' rfl).trans h4, h5⟩
theorem owns_apart {w : World} {base base' : Nat} {e e' : TypeId} {sz sz' n n' : Nat} {v v' : Value} {xs xs' : List Value} (h : w.ownsRow base e sz v n xs) (h' : w.ownsRow base' e' sz' v' n' xs') (hne : e ≠ e') : ∀ g, v.ownBlock = some g → some g ≠ v'.ownBlock := by
  intro g hg
  rcases h.2 with ⟨rfl, _⟩ | ⟨g1, c1, u1, rfl, _, b1, _⟩
  · cases hg
  · cases hg
    rcases h'.2 with ⟨rfl, _⟩ | ⟨g2, c2, u2, rfl, _, b2, _⟩
    · intro hh; cases hh
    · intro hh
      cases hh
      rw [b1] at b2
      injection b2 with b2
      injection b2 with _ b3
      exact hne b3
theorem rawN_hi (n : Int) : rawN n ≤ 2100 := by
  have h1 := pk_lt (n.tdiv 7) 2100 (by omega)
  have h2 := pk_lt n 40 (by omega)
  unfold rawN; split <;> omega
def us_ok (w : World) (A : Option Addr) (n : Nat) (us : List Dp) : Prop := us.length = n ∧ DRow w A us ∧ ∀ i (h : i < us.length), us[i].l ≤ 9223372036854775807
/-- What the loop of VerbFits has laid. -/
structure Fx (w wr : World) (s t : Value) (vs : List Vp) (ds : List Dp) (k m : Nat) : Prop where
  na : vs.length = k
  nm : ds.length = m
  a : wr.ownsRow w.heap.size 25 9 s k (vs.flatMap vcs)
  m : wr.ownsRow w.heap.size 55 2 t m (ds.flatMap dcs)
  below : Below w.heap.size w wr
  ok : ∀ i (h : i < vs.length), 1 ≤ cnt vs[i].v.k vs[i].v.n vs[i].l
section
variable {w wr w' : World} {s t s' t' : Value} {vs : List Vp} {ds : List Dp} {k m : Nat}
theorem Fx.start (w : World) : Fx w w (.slice none 0 0) (.slice none 0 0) [] [] 0 0 := ⟨rfl, rfl, World.ownsRow_nil _ _ _ _, World.ownsRow_nil _ _ _ _, Below.refl _ _, fun i h => absurd h (by simp)⟩
theorem Fx.on (h : Fx w wr s t vs ds k m) (hb : Below wr.heap.size wr w') : Fx w w' s t vs ds k m :=
  ⟨h.na, h.nm, owns_on h.a (fun g _ hg => hb.block g hg), owns_on h.m (fun g _ hg => hb.block g hg), h.below.trans (hb.mono h.below.size), h.ok⟩
theorem Fx.asked (h : Fx w wr s t vs ds k m) (p : Vp) (hp : 1 ≤ cnt p.v.k p.v.n p.l) (hg : wr.grownBy w' s.ownBlock) (hown : w'.ownsRow w.heap.size 25 9 s' (k + 1) (vs.flatMap vcs ++ vcs p)) : Fx w w' s' t (vs ++ [p]) ds (k + 1) m := by
  refine ⟨by simp [h.na], h.nm, by simpa using hown, ?_, h.below.grown hg h.below.size (fun g hk => (h.a.lt g hk).1), fun i hi => ?_⟩
  · exact owns_block h.m fun g hk => hg.block g (h.m.lt g hk).2 (owns_apart h.m h.a (by decide) g hk)
  · by_cases hin : i < vs.length
    · have e : (vs ++ [p])[i] = vs[i] := List.getElem_append_left hin
      rw [e]; exact h.ok i hin
    · obtain rfl : i = vs.length := by simp at hi; omega
      have e : (vs ++ [p])[vs.length] = p := by simp
      rw [e]; exact hp
theorem Fx.made (h : Fx w wr s t vs ds k m) (d : Dp) (hg : wr.grownBy w' t.ownBlock) (hown : w'.ownsRow w.heap.size 55 2 t' (m + 1) (ds.flatMap dcs ++ dcs d)) : Fx w w' s t' vs (ds ++ [d]) k (m + 1) := by
  refine ⟨h.na, by simp [h.nm], ?_, by simpa using hown, h.below.grown hg h.below.size (fun g hk => (h.m.lt g hk).1), h.ok⟩
  exact owns_block h.a fun g hk => hg.block g (h.a.lt g hk).2 (owns_apart h.a h.m (by decide) g hk)
theorem own_slice {e : TypeId} {sz n base : Nat} {v : Value} {xs : List Value} (h : wr.ownsRow base e sz v n xs) : ∃ A c, v = .slice A n c := by
  rcases h.2 with ⟨rfl, h0⟩ | ⟨g, cap, cur, rfl, _⟩
  · exact ⟨none, 0, by rw [h0]⟩
  · exact ⟨_, _, rfl⟩
theorem Fx.vrow {A : Option Addr} {n c : Nat} (h : Fx w wr (.slice A n c) t vs ds k m) : VRow0 wr A vs := fun hl => by
  rcases h.a.2 with ⟨e, h0⟩ | ⟨g, cap, cur, e, _⟩
  · have := h.na; omega
  · injection e with e1 e2 e3
    subst e1
    refine ⟨g, rfl, fun i hi => ?_⟩
    have hc := h.a.cells (g := g) rfl
    have at_ : ∀ j u, j < 9 → (vcs vs[i])[j]? = some u → wr.cell? ⟨g, i * 9 + j, none⟩ = some u := fun j u hj hu => by
      have := hc (i * 9 + j) u ((flat_at vcs 9 (fun _ => rfl) vs i j hi hj).trans hu)
      rwa [add_zero_] at this
    exact ⟨at_ 0 _ (by decide) rfl, at_ 1 _ (by decide) rfl, at_ 2 _ (by decide) rfl, at_ 3 _ (by decide) rfl, at_ 4 _ (by decide) rfl, at_ 5 _ (by decide) rfl, at_ 6 _ (by decide) rfl, at_ 7 _ (by decide) rfl, at_ 8 _ (by decide) rfl⟩
theorem Fx.drow {A : Option Addr} {n c : Nat} (h : Fx w wr s (.slice A n c) vs ds k m) : DRow wr A ds := fun hl => by
  rcases h.m.2 with ⟨e, h0⟩ | ⟨g, cap, cur, e, _⟩
  · have := h.nm; omega
  · injection e with e1 e2 e3
    subst e1
    refine ⟨_, rfl, fun i hi => ?_⟩
    have hc := h.m.cells (g := g) rfl
    have at_ : ∀ j u, j < 2 → (dcs ds[i])[j]? = some u → wr.cell? ((⟨g, 0, none⟩ : Addr).add (i * 2 + j)) = some u := fun j u hj hu => hc (i * 2 + j) u ((flat_at dcs 2 (fun _ => rfl) ds i j hi hj).trans hu)
    refine ⟨at_ 0 _ (by decide) rfl, ?_⟩
    have := at_ 1 _ (by decide) rfl
    rw [add_zero_] at this ⊢
    exact this
end
end Go.Proofs.Ytkkeamlpfpcbfaa.Ub

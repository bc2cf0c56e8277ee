/-
  A row of pages of the run's own of which one cell is written.
-/
import Derived.Test.YtdodigfojbijfaaSb
import Derived.StillTailTactics
namespace Go.Proofs.Ytdodigfojbijfaa.Sc
open Go.ChangeShapes Go.WideShapes Go.ChangeAt Go.RowKit Ga Gb Ra Rb Rc Rd Re Rf Rg Rh Ri Rj Rk Rl Rm Rn Ro Rp Rr Rs Rt Ru Rv Rw Rx Ry Rz Sa Sb Un
set_option maxRecDepth 10000
theorem flat_set (l : List Pg) (k f : Nat) (x : Value) (p' : Pg) (hk : k < l.length) (hf : f < 9) (hp : p'.cells = (l.getD k pz).cells.set f x) : (l.flatMap Pg.cells).set (k * 9 + f) x = (l.set k p').flatMap Pg.cells := by
  induction l generalizing k with
  | nil => simp at hk
  | cons p t ih =>
    cases k with
    | zero =>
      rw [List.flatMap_cons, List.set_cons_zero, List.flatMap_cons, hp, Nat.zero_mul, Nat.zero_add, List.set_append_left _ _ (by rw [Pg.len]; exact hf)]
      rfl
    | succ k =>
      rw [List.flatMap_cons, List.set_cons_succ, List.flatMap_cons, List.set_append_right _ _ (by rw [Pg.len]; omega), Pg.len, show (k + 1) * 9 + f - 9 = k * 9 + f by omega]
      rw [ih k (by simpa using hk) (by simpa using hp)]
/-- One cell of a page is written. -/
theorem pt_page {w W : World} {B g n c k f : Nat} {l : List Pg} {x : Value} {p' : Pg} (h : Pt w B W (.slice (some ⟨g, 0, none⟩) n c) l) (hk : k < l.length) (hf : f < 9) (hp : p'.cells = (l.getD k pz).cells.set f x) (h0 : w.heap.size ≤ g) (hn : l.length = n) :
    Pt w B (W.setCell ⟨g, k * 9 + f, none⟩ x) (.slice (some ⟨g, 0, none⟩) n c) (l.set k p') := by
  have ho := h.own
  rw [hn] at ho
  have h1 := (ho.stored (k * 9 + f) x).1
  rw [flat_set l k f x p' hk hf hp] at h1
  exact ⟨by rw [List.length_set, hn]; exact h1, h.below.setCell (p := ⟨g, k * 9 + f, none⟩) h0 x⟩
theorem set_wf {l : List Pg} {k : Nat} {p' : Pg} (h : PgsWf l) (hp : p'.Wf) : PgsWf (l.set k p') := fun q hq => by
  rcases List.mem_or_eq_of_mem_set hq with h1 | h1
  · exact h q h1
  · exact h1 ▸ hp
/-- The pages behind the first. -/
theorem pgs_tail {W : World} {B n c : Nat} {A : Option Addr} {l : List Pg} (h : Pgs W B A l) (hn : l.length = n) (hc : n ≤ c) (h1 : 1 ≤ n) : Pgs W B (if c = 1 then A else A.map (·.add (1 * 9))) (l.drop 1) := by
  intro hl
  rw [List.length_drop] at hl
  obtain ⟨ad, rfl, hb, hcell⟩ := h (by omega)
  rw [if_neg (by omega)]
  refine ⟨ad.add (1 * 9), rfl, by rw [block_of_add]; exact hb, fun j hj => ?_⟩
  rw [List.length_drop] at hj
  have h2 := hcell (1 + j) (by omega)
  rw [add_of_add, show 1 * 9 + j * 9 = (1 + j) * 9 by omega]
  rwa [show (l.drop 1).getD j pz = l.getD (1 + j) pz by rw [List.getD_eq_getElem?_getD, List.getD_eq_getElem?_getD, List.getElem?_drop]]
theorem drop_wf {l : List Pg} (h : PgsWf l) (k : Nat) : PgsWf (l.drop k) := fun p hp => h p (List.mem_of_mem_drop hp)
theorem from_pgs {W : World} {B m : Nat} {A : Option Addr} {l : List Pg} (h : Pgs W B A l) (hn : l.length = m) : From W A 9 m (l.flatMap Pg.cells) := by
  have h1 := From.pages h 0 m (m + 1) (by omega) (by omega)
  rw [if_neg (by omega), List.drop_zero, List.take_of_length_le (by omega)] at h1
  have e : A.map (·.add (0 * 9)) = A := by cases A <;> simp [Addr.add]
  rwa [e] at h1
theorem pt_row {w W : World} {B m : Nat} {v : Value} {l : List Pg} (h : Pt w B W v l) (hm : l.length = m) (hp : 1 ≤ m) : ∃ g c, v = .slice (some ⟨g, 0, none⟩) m c ∧ m ≤ c ∧ c ≤ 9223372036854775807 ∧ B ≤ g ∧ g < W.heap.size := by
  subst hm
  rcases h.own.2 with ⟨rfl, h0⟩ | ⟨g, cap, cur, rfl, hb, hg, hn, hm, hs, ht⟩
  · omega
  · exact ⟨g, cap, rfl, hn, hm, hb, (Array.getElem?_eq_some_iff.1 hg).1⟩
theorem own_ne {g g' k m c : Nat} (hk : (Value.slice (some ⟨g, 0, none⟩) m c).ownBlock = some k) (h : g ≠ g') : k ≠ g' := by
  have e : g = k := Option.some.inj hk
  omega
theorem tdiv16 {a : Int} (h : -9223372036854775808 ≤ a ∧ a ≤ 9223372036854775807) : -9223372036854775808 ≤ a.tdiv 16 ∧ a.tdiv 16 ≤ 9223372036854775807 := by
  rcases Int.le_total 0 a with h0 | h0
  · rw [Int.tdiv_eq_ediv_of_nonneg h0]; omega
  · rw [show a = -(-a) by omega, Int.neg_tdiv, Int.tdiv_eq_ediv_of_nonneg (by omega)]; omega
theorem pg_cell {w W : World} {B g n c k f : Nat} {l : List Pg} (h : Pt w B W (.slice (some ⟨g, 0, none⟩) n c) l) (hn : l.length = n) (hk : k < n) (hf : f < 9) : W.cell? ⟨g, k * 9 + f, none⟩ = (l.getD k pz).cells[f]? ∧ W.frozen? ⟨g, k * 9 + f, none⟩ = false := by
  subst hn
  have h1 := h.own.cellAt (k * 9 + f) (by omega)
  rw [flat_at Pg.cells 9 (fun _ => rfl) l k f hk hf] at h1
  refine ⟨h1.trans ?_, h.own.frozenAt _⟩
  rw [List.getD_eq_getElem?_getD, List.getElem?_eq_getElem hk]; rfl
theorem wrapu_nat (x : Int) : ∃ y : Nat, IntKind.u64.wrap x = (y : Int) ∧ y < 18446744073709551616 := by
  have h : IntKind.u64.wrap x = x % 18446744073709551616 := rfl
  exact ⟨(x % 18446744073709551616).toNat, by rw [h]; omega, by omega⟩
theorem wrapi_range (x : Int) : -9223372036854775808 ≤ IntKind.i64.wrap x ∧ IntKind.i64.wrap x ≤ 9223372036854775807 := by
  rw [IntKind.wrap_i64]; omega
theorem pt_two_ne {W0 w4 : World} {B g : Nat} {v : Value} {l : List Pg} (x' y' : Value) (h : Pt W0 B w4 v l) (hne : ∀ k, v.ownBlock = some k → k ≠ g) (h0 : W0.heap.size ≤ g) : Pt W0 B ((w4.setCell ⟨g, 0, none⟩ x').setCell ⟨g, 1, none⟩ y') v l :=
  ⟨owns_block h.own (fun k hk => two_other x' y' (hne k hk)), two_below x' y' h.below h0⟩
theorem pt_one_ne {W0 w4 : World} {B g f : Nat} {v : Value} {l : List Pg} (x' : Value) (h : Pt W0 B w4 v l) (hne : ∀ k, v.ownBlock = some k → k ≠ g) (h0 : W0.heap.size ≤ g) : Pt W0 B (w4.setCell ⟨g, f, none⟩ x') v l :=
  ⟨owns_block h.own (fun k hk => Below.heap_setCell w4 ⟨g, f, none⟩ x' k (hne k hk)), h.below.setCell (p := ⟨g, f, none⟩) h0 x'⟩
theorem word_at {p : Pg} {k : Nat} (h : p.Wf) (hk : k < 7) : ∃ x : Nat, p.cells[2 + k]? = some (.int .u64 (x : Int)) ∧ ∀ y : Nat, y < 18446744073709551616 → ∃ p' : Pg, p'.cells = p.cells.set (2 + k) (.int .u64 (y : Int)) ∧ p'.Wf := by
  have hc : k = 0 ∨ k = 1 ∨ k = 2 ∨ k = 3 ∨ k = 4 ∨ k = 5 ∨ k = 6 := by omega
  rcases hc with rfl | rfl | rfl | rfl | rfl | rfl | rfl
  · exact ⟨p.a, rfl, fun y hy => ⟨{ p with a := y }, rfl, ⟨h.l0, h.l1, h.h, hy, h.b, h.c, h.d, h.e, h.f, h.g⟩⟩⟩
  · exact ⟨p.b, rfl, fun y hy => ⟨{ p with b := y }, rfl, ⟨h.l0, h.l1, h.h, h.a, hy, h.c, h.d, h.e, h.f, h.g⟩⟩⟩
  · exact ⟨p.c, rfl, fun y hy => ⟨{ p with c := y }, rfl, ⟨h.l0, h.l1, h.h, h.a, h.b, hy, h.d, h.e, h.f, h.g⟩⟩⟩
  · exact ⟨p.d, rfl, fun y hy => ⟨{ p with d := y }, rfl, ⟨h.l0, h.l1, h.h, h.a, h.b, h.c, hy, h.e, h.f, h.g⟩⟩⟩
  · exact ⟨p.e, rfl, fun y hy => ⟨{ p with e := y }, rfl, ⟨h.l0, h.l1, h.h, h.a, h.b, h.c, h.d, hy, h.f, h.g⟩⟩⟩
  · exact ⟨p.f, rfl, fun y hy => ⟨{ p with f := y }, rfl, ⟨h.l0, h.l1, h.h, h.a, h.b, h.c, h.d, h.e, hy, h.g⟩⟩⟩
  · exact ⟨p.g, rfl, fun y hy => ⟨{ p with g := y }, rfl, ⟨h.l0, h.l1, h.h, h.a, h.b, h.c, h.d, h.e, h.f, hy⟩⟩⟩
theorem wrap64_range (x : Int) : -9223372036854775808 ≤ wrap64 x ∧ wrap64 x ≤ 9223372036854775807 := by
  unfold wrap64; omega
end Go.Proofs.Ytdodigfojbijfaa.Sc

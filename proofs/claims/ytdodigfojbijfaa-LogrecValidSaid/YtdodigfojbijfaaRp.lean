/-
  Pages that come in: one by value, a slice of them.
-/
import Derived.Test.YtdodigfojbijfaaRa
import Derived.Test.YtdodigfojbijfaaUn
import Derived.ChangeArms
import Derived.OpenShut
import Derived.ChangeSame
import Derived.Lib.SmallJoins
namespace Go.Proofs.Ytdodigfojbijfaa.Rp
open Go.Joins Go.ChangeShapes Go.WideShapes Go.ChangeAt Go.RowKit Go.Deep Ga Ra
set_option linter.unusedVariables false
set_option linter.unusedSimpArgs false
set_option maxRecDepth 10000
section
variable {H : Type} {enc : TypeId × Value → H} {w : World} {base : Nat} {held : Bool}
theorem int_in {n : Nat} {t : TypeId} {k : IntKind} {v : Value} {y : DataW H × List MemPlace} (ht : Try.prog.underlying t = some (.int k)) (h : DataW.trod enc Try.prog w base (fun _ => true) held n t [v] = some y) : ∃ z, v = .int k z ∧ (Lit.int k z).wf = true := by
  obtain ⟨z, e, _, b⟩ := DataW.trod_int ht h
  simp only [List.cons.injEq, and_true] at e
  exact ⟨z, e, b⟩
theorem word_in {n : Nat} {v : Value} {y : DataW H × List MemPlace} (h : DataW.trod enc Try.prog w base (fun _ => true) held n 28 [v] = some y) : ∃ z : Nat, v = .int .u64 (z : Int) ∧ z < 18446744073709551616 := by
  obtain ⟨z, e, b⟩ := int_in word_under h
  have := bounds_u64 b
  exact ⟨z.toNat, by rw [e]; congr 1; omega, by omega⟩
theorem nine_of {l : List Value} (h : l.length = 9) : ∃ a b c d e f g i j, l = [a, b, c, d, e, f, g, i, j] := by
  rcases l with _ | ⟨a, _ | ⟨b, _ | ⟨c, _ | ⟨d, _ | ⟨e, _ | ⟨f, _ | ⟨g, _ | ⟨i, _ | ⟨j, _ | ⟨k, l⟩⟩⟩⟩⟩⟩⟩⟩⟩⟩ <;> simp at h
  exact ⟨a, b, c, d, e, f, g, i, j, rfl⟩
theorem cells29 : Try.prog.cellsOf 29 = 7 := by kernel_rfl
theorem cells31 : Try.prog.cellsOf 31 = 9 := by kernel_rfl
theorem cells3 : Try.prog.cellsOf 3 = 1 := by kernel_rfl
theorem cells28 : Try.prog.cellsOf 28 = 1 := by kernel_rfl
theorem page_at {fuel : Nat} {cs : List Value} {x : DataW H × List MemPlace} (h : DataW.trod enc Try.prog w base (fun _ => true) held fuel 31 cs = some x) : ∃ p : Pg, p.Wf ∧ cs = p.cells := by
  obtain ⟨xs, m, _, _, hlen, hxs, hf⟩ := DataW.trod_struct page_struct h
  rw [cells31] at hlen
  obtain ⟨c0, c1, c2, c3, c4, c5, c6, c7, c8, rfl⟩ := nine_of hlen
  obtain ⟨f0, f1, f2, hl, g0, g1, g2⟩ := three_list page_fields
  simp only [Prod.mk.injEq] at g0 g1 g2
  obtain ⟨n0, t0, o0⟩ := g0
  obtain ⟨n1, t1, o1⟩ := g1
  obtain ⟨n2, t2, o2⟩ := g2
  have hsz : (Try.prog.fieldsOf 31).size = 3 := by rw [← Array.length_toList, hl]; rfl
  have hat : ∀ i : Nat, (Try.prog.fieldsOf 31)[i]? = [f0, f1, f2][i]? := fun i => by rw [← Array.getElem?_toList, hl]
  have e0 := hf 0 f0 (hat 0)
  have e1 := hf 1 f1 (hat 1)
  have e2 := hf 2 f2 (hat 2)
  have hx : xs.length = 3 := by rw [hxs, hsz]
  rw [t0, o0, cells3, List.getElem?_eq_getElem (show 0 < xs.length by omega)] at e0
  rw [t1, o1, cells28, List.getElem?_eq_getElem (show 1 < xs.length by omega)] at e1
  rw [t2, o2, cells29, List.getElem?_eq_getElem (show 2 < xs.length by omega)] at e2
  obtain ⟨z0, r0, b0⟩ := int_in int_under e0
  obtain ⟨z1, r1, b1⟩ := word_in e1
  obtain ⟨ys, m2, _, _, _, hys, hy⟩ := DataW.trod_array arr_under e2
  rw [cells28] at hy
  have key : ∀ i, i < 7 → ∃ y, DataW.trod enc Try.prog w base (fun _ => true) held m2 28 ((((List.drop 2 [c0, c1, c2, c3, c4, c5, c6, c7, c8]).take 7).drop (i * 1)).take 1) = some y := fun i hi => ⟨_, (hy i hi).trans (List.getElem?_eq_getElem (by omega))⟩
  obtain ⟨y2, k2⟩ := key 0 (by decide)
  obtain ⟨y3, k3⟩ := key 1 (by decide)
  obtain ⟨y4, k4⟩ := key 2 (by decide)
  obtain ⟨y5, k5⟩ := key 3 (by decide)
  obtain ⟨y6, k6⟩ := key 4 (by decide)
  obtain ⟨y7, k7⟩ := key 5 (by decide)
  obtain ⟨y8, k8⟩ := key 6 (by decide)
  obtain ⟨z2, r2, b2⟩ := word_in k2
  obtain ⟨z3, r3, b3⟩ := word_in k3
  obtain ⟨z4, r4, b4⟩ := word_in k4
  obtain ⟨z5, r5, b5⟩ := word_in k5
  obtain ⟨z6, r6, b6⟩ := word_in k6
  obtain ⟨z7, r7, b7⟩ := word_in k7
  obtain ⟨z8, r8, b8⟩ := word_in k8
  subst r0 r1 r2 r3 r4 r5 r6 r7 r8
  have hb := bounds_i64 b0
  exact ⟨⟨z0, z1, z2, z3, z4, z5, z6, z7, z8⟩, ⟨hb.1, hb.2, b1, b2, b3, b4, b5, b6, b7, b8⟩, rfl⟩
theorem page_of {r : Reach} {b0 : Nat} {v : Value} {d : DataW H} {p : List MemPlace} (hv : Value.okWide Try.prog w r b0 31 v) (h : DataW.Trod enc Try.prog w base (fun _ => true) held 31 v d p) :
    ∃ q : Pg, v = q.val ∧ q.Wf := by
  obtain ⟨cs, rfl, hsz⟩ := okWide_struct page_struct hv
  obtain ⟨fuel, hf⟩ := h
  obtain ⟨q, hq, e⟩ := page_at hf
  obtain ⟨l⟩ := cs
  refine ⟨q, ?_, hq⟩
  have e' : l = q.cells := by simpa [Value.cells] using e
  rw [e']; rfl
/-- A slice of pages that came in. -/
structure IsPgs (w : World) (A : Option Addr) (len cap : Nat) (l : List Pg) : Prop where
  ln : l.length = len
  cp : len ≤ cap ∧ cap ≤ 9223372036854775807
  wf : PgsWf l
  at_ : Pgs w w.heap.size A l
theorem exists_list {n : Nat} {P : Nat → Pg → Prop} (h : ∀ i, i < n → ∃ p, P i p) : ∃ l : List Pg, l.length = n ∧ ∀ i, i < n → P i (l.getD i pz) := by
  induction n with
  | zero => exact ⟨[], rfl, fun i hi => by omega⟩
  | succ n ih =>
    obtain ⟨l, hl, hp⟩ := ih (fun i hi => h i (by omega))
    obtain ⟨p, hq⟩ := h n (by omega)
    refine ⟨l ++ [p], by simp [hl], fun i hi => ?_⟩
    by_cases e : i = n
    · subst e
      rw [List.getD_eq_getElem?_getD, List.getElem?_append_right (by omega), hl]
      simpa using hq
    · have := hp i (by omega)
      rw [List.getD_eq_getElem?_getD, List.getElem?_append_left (by omega)]
      rwa [List.getD_eq_getElem?_getD] at this
theorem pages_of {fuel : Nat} {A : Option Addr} {len cap : Nat} {x : DataW H × List MemPlace} (h : DataW.trod enc Try.prog w base (fun _ => true) held fuel 22 (Value.slice A len cap).cells.toList = some x) : ∃ l, IsPgs w A len cap l := by
  rcases open_slice Try.underlying22 h with ⟨h0, _⟩ | ⟨a, l, c, m, n, D, Pl, hcs, _, hl, hm, hmm, _, hi⟩
  · simp [Value.cells] at h0
    obtain ⟨rfl, rfl, rfl⟩ := h0
    exact ⟨[], rfl, ⟨by omega, by omega⟩, fun p hp => (by cases hp), Pgs.nil⟩
  · simp [Value.cells] at hcs
    obtain ⟨rfl, rfl, rfl⟩ := hcs
    have key : ∀ i, i < len → ∃ p : Pg, p.Wf ∧ At w (a.add (i * 9)) p := fun i hil => by
      have hlm : len ≤ m := by rw [hmm]; split <;> omega
      obtain ⟨cs, hc, ht⟩ := hi i (by omega)
      rw [cells31] at hc
      obtain ⟨_, hlen, hat⟩ := World.cells?_some hc
      obtain ⟨p, hp, rfl⟩ := page_at ht
      exact ⟨p, hp, At.of_cells fun j hj => hat j hj⟩
    obtain ⟨l, hll, hp⟩ := exists_list key
    refine ⟨l, hll, ⟨hl, hm⟩, fun p hp' => ?_, fun hpos => ⟨a, rfl, ?_, fun i hi => (hp i (by omega)).2⟩⟩
    · obtain ⟨i, hi, rfl⟩ := List.getElem_of_mem hp'
      have := (hp i (by omega)).1
      rwa [List.getD_eq_getElem?_getD, List.getElem?_eq_getElem hi] at this
    · have := (hp 0 (by omega)).2.lt
      rwa [block_of_add] at this
end
end Go.Proofs.Ytdodigfojbijfaa.Rp

/-
  Arguments opened: raw records, verbs, completions, and slices of them.
-/
import Derived.Test.YtkkeamlpfpcbfaaVi
import Derived.Test.YtkkeamlpfpcbfaaVc
import Derived.Deep.Slices
import Derived.Deep.Fields
import Derived.ChangeArms
import Derived.ChangeSame
import Derived.Lib.SmallJoins
namespace Go.Proofs.Ytkkeamlpfpcbfaa.Vk
open Go.Joins Go.ChangeShapes Go.WideShapes Go.ChangeAt Go.RowKit Go.Deep Ga Va
set_option linter.unusedVariables false
set_option linter.unusedSimpArgs false

theorem validC_zero {k nd a c nodes lines : Int} (h : Vb.validC k nd a c nodes lines = 0) : 1 ≤ c ∧ 0 ≤ a ∧ a + c ≤ 8 * lines ∧ lines ≤ 256 := by
  unfold Vb.validC at h
  by_cases h1 : c < 1
  · rw [if_pos h1] at h; cases h
  · rw [if_neg h1] at h
    split at h
    · rename_i h2
      obtain ⟨_, _, _, h3, _, _, h4, _⟩ := h2
      unfold Vb.liesB at h4
      rw [decide_eq_true_iff] at h4
      omega
    · cases h
theorem held_mk {k nd a n o ne : Int} {wa : Option Addr} {wl wc : Nat} {ky bo : Int} {w W : World} {b : Nat} (h : Bx W b k nd a n o ne wa wl wc ky bo) (hB : Lk (Below w.heap.size w W)) : (World.cell? W.drew (Addr.mk b 0 none) = some (Value.int IntKind.i64 k) ∧ World.cell? W.drew (Addr.mk b 1 none) = some (Value.int IntKind.i64 nd) ∧ World.cell? W.drew (Addr.mk b 2 none) = some (Value.int IntKind.i64 a) ∧ World.cell? W.drew (Addr.mk b 3 none) = some (Value.int IntKind.i64 n) ∧ World.cell? W.drew (Addr.mk b 4 none) = some (Value.int IntKind.u64 o) ∧ World.cell? W.drew (Addr.mk b 5 none) = some (Value.int IntKind.u64 ne) ∧ World.cell? W.drew (Addr.mk b 6 none) = some (Value.slice wa wl wc) ∧ World.cell? W.drew (Addr.mk b 7 none) = some (Value.int IntKind.u64 ky) ∧ World.cell? W.drew (Addr.mk b 8 none) = some (Value.int IntKind.i64 bo) ∧ Lk (Below (Array.size (World.heap w)) w W.drew)) :=
  ⟨h.c0, h.c1, h.c2, h.c3, h.c4, h.c5, h.c6, h.c7, h.c8, ⟨hB.out.drew⟩⟩
noncomputable def fieldsOf (t : TypeId) : Array Field := match Try.prog.underlying t with | some (.struct fs) => fs | _ => #[]
section
variable {H : Type} {enc : TypeId × Value → H} {w : World} {base : Nat} {held : Bool}
/-- The cells of a struct of one-cell fields, each with its reading. -/
theorem fields_at {t : TypeId} {ts : List TypeId} {fuel : Nat} {cs : List Value} {x : DataW H × List MemPlace} (hs : Try.prog.underlying t = some (.struct (fieldsOf t))) (hone : oneCellFields Try.prog (fieldsOf t) = true)
    (hT : (fieldsOf t).toList.map (·.type) = ts) (hl : cs.length = ts.length) (h : DataW.trod enc Try.prog w base (fun _ => true) held fuel t cs = some x) :
    ∀ j, j < ts.length → ∃ v y n, cs[j]? = some v ∧ DataW.trod enc Try.prog w base (fun _ => true) held n (ts.getD j 0) [v] = some y := by
  have hsz : (fieldsOf t).size = ts.length := by rw [← hT]; simp
  obtain ⟨xs, n', _, _, _, hxs, hf⟩ := DataW.trod_struct hs h
  intro j hj
  have hjf : j < (fieldsOf t).size := by omega
  have hft : ((fieldsOf t)[j]'hjf).type = ts.getD j 0 := by
    rw [← hT]
    simp [hjf]
  have hfj : (fieldsOf t)[j]? = some ((fieldsOf t)[j]'hjf) := Array.getElem?_eq_getElem hjf
  obtain ⟨ho, hk⟩ := hone_of hone j _ hfj
  have h1 := hf j _ hfj
  rw [ho, hk] at h1
  have hdrop : (cs.drop j).take 1 = [cs[j]'(by omega)] := by
    rw [List.drop_eq_getElem_cons (by omega)]; rfl
  rw [hdrop, hft] at h1
  have hxl : j < xs.length := by omega
  rw [List.getElem?_eq_getElem hxl] at h1
  exact ⟨_, _, _, List.getElem?_eq_getElem (by omega), h1⟩
/-- A slice of words. -/
theorem words_of {n : Nat} {v : Value} {y : DataW H × List MemPlace} (h : DataW.trod enc Try.prog w base (fun _ => true) held n 23 [v] = some y) : ∃ A l c zs, v = .slice A l c ∧ IsRow .u64 w A l c zs := by
  rcases open_ints Try.underlying23 Try.underlying22 (by kernel_rfl) h with ⟨hcs, _⟩ | ⟨x, l, c, zs, hcs, _, hl, hm, hz, _, hcell, hwz⟩
  · simp only [List.cons.injEq, and_true] at hcs
    exact ⟨none, 0, 0, [], hcs, .inl ⟨rfl, rfl, rfl, rfl⟩⟩
  · simp only [List.cons.injEq, and_true] at hcs
    exact ⟨some x, l, c, zs, hcs, .inr ⟨_, rfl, hl, hm, by simpa using hz, hcell, hwz⟩⟩
theorem int_of {n : Nat} {t : TypeId} {k : IntKind} {v : Value} {y : DataW H × List MemPlace} (ht : Try.prog.underlying t = some (.int k)) (h : DataW.trod enc Try.prog w base (fun _ => true) held n t [v] = some y) : ∃ z, v = .int k z ∧ (Lit.int k z).wf = true := by
  obtain ⟨z, e, _, b⟩ := DataW.trod_int ht h
  simp only [List.cons.injEq, and_true] at e
  exact ⟨z, e, b⟩

/-- Eight numbers of a raw record. -/
def RawWf (k nd a n ky bo x y : Int) : Prop := (-9223372036854775808 ≤ k ∧ k ≤ 9223372036854775807) ∧ (-9223372036854775808 ≤ nd ∧ nd ≤ 9223372036854775807) ∧ (-9223372036854775808 ≤ a ∧ a ≤ 9223372036854775807) ∧ (-9223372036854775808 ≤ n ∧ n ≤ 9223372036854775807) ∧
  (-9223372036854775808 ≤ ky ∧ ky ≤ 9223372036854775807) ∧ (-9223372036854775808 ≤ bo ∧ bo ≤ 9223372036854775807) ∧ (0 ≤ x ∧ x < 18446744073709551616) ∧ (0 ≤ y ∧ y < 18446744073709551616)
theorem raw_types : (fieldsOf 27).toList.map (·.type) = [3, 3, 3, 3, 3, 3, 22, 22] := by kernel_rfl
theorem raw_under : Try.prog.underlying 27 = some (.struct (fieldsOf 27)) := by kernel_rfl
theorem raw_one : oneCellFields Try.prog (fieldsOf 27) = true := by kernel_rfl
theorem raw_cells : Try.prog.cellsOf 27 = 8 := by kernel_rfl
theorem raw_at {fuel : Nat} {cs : List Value} {x : DataW H × List MemPlace} (hl : cs.length = 8) (h : DataW.trod enc Try.prog w base (fun _ => true) held fuel 27 cs = some x) :
    ∃ k nd a n ky bo o ne : Int, cs = [.int .i64 k, .int .i64 nd, .int .i64 a, .int .i64 n, .int .i64 ky, .int .i64 bo, .int .u64 o, .int .u64 ne] ∧ RawWf k nd a n ky bo o ne := by
  have key := fields_at raw_under raw_one raw_types hl h
  obtain ⟨v0, y0, n0, c0, t0⟩ := key 0 (by decide)
  obtain ⟨v1, y1, n1, c1, t1⟩ := key 1 (by decide)
  obtain ⟨v2, y2, n2, c2, t2⟩ := key 2 (by decide)
  obtain ⟨v3, y3, n3, c3, t3⟩ := key 3 (by decide)
  obtain ⟨v4, y4, n4, c4, t4⟩ := key 4 (by decide)
  obtain ⟨v5, y5, n5, c5, t5⟩ := key 5 (by decide)
  obtain ⟨v6, y6, n6, c6, t6⟩ := key 6 (by decide)
  obtain ⟨v7, y7, n7, c7, t7⟩ := key 7 (by decide)
  obtain ⟨z0, rfl, b0⟩ := int_of Try.underlying3 t0
  obtain ⟨z1, rfl, b1⟩ := int_of Try.underlying3 t1
  obtain ⟨z2, rfl, b2⟩ := int_of Try.underlying3 t2
  obtain ⟨z3, rfl, b3⟩ := int_of Try.underlying3 t3
  obtain ⟨z4, rfl, b4⟩ := int_of Try.underlying3 t4
  obtain ⟨z5, rfl, b5⟩ := int_of Try.underlying3 t5
  obtain ⟨z6, rfl, b6⟩ := int_of Try.underlying22 t6
  obtain ⟨z7, rfl, b7⟩ := int_of Try.underlying22 t7
  have d6 := bounds_u64 b6
  have d7 := bounds_u64 b7
  refine ⟨z0, z1, z2, z3, z4, z5, z6, z7, ?_, bounds_i64 b0, bounds_i64 b1, bounds_i64 b2, bounds_i64 b3, bounds_i64 b4, bounds_i64 b5, ⟨by omega, by omega⟩, ⟨by omega, by omega⟩⟩
  match cs, hl with
  | [_, _, _, _, _, _, _, _], _ =>
    simp at c0 c1 c2 c3 c4 c5 c6 c7
    simp [c0, c1, c2, c3, c4, c5, c6, c7]
theorem raw_of {r : Reach} {b0 : Nat} {v : Value} {d : DataW H} {p : List MemPlace} (hv : Value.okWide Try.prog w r b0 27 v) (h : DataW.Trod enc Try.prog w base (fun _ => true) held 27 v d p) :
    ∃ k nd a n ky bo o ne : Int, v = .agg #[.int .i64 k, .int .i64 nd, .int .i64 a, .int .i64 n, .int .i64 ky, .int .i64 bo, .int .u64 o, .int .u64 ne] ∧ RawWf k nd a n ky bo o ne := by
  obtain ⟨cs, rfl, hsz⟩ := okWide_struct raw_under hv
  obtain ⟨fuel, hf⟩ := h
  obtain ⟨l⟩ := cs
  obtain ⟨k, nd, a, n, ky, bo, o, ne, e, hw⟩ := raw_at (cs := l) (by rw [raw_cells] at hsz; simpa using hsz) (by simpa [Value.cells] using hf)
  subst e
  exact ⟨k, nd, a, n, ky, bo, o, ne, rfl, hw⟩

/-- The numbers of a verb. -/
def VbWf (k nd a n o ne ky bo : Int) : Prop := RawWf k nd a n bo bo o ne ∧ (0 ≤ ky ∧ ky < 18446744073709551616)
theorem vb_types : (fieldsOf 25).toList.map (·.type) = [3, 3, 3, 3, 22, 22, 23, 22, 3] := by kernel_rfl
theorem vb_under : Try.prog.underlying 25 = some (.struct (fieldsOf 25)) := by kernel_rfl
theorem vb_one : oneCellFields Try.prog (fieldsOf 25) = true := by kernel_rfl
theorem vb_cells : Try.prog.cellsOf 25 = 9 := by kernel_rfl
theorem vb_of {r : Reach} {b0 : Nat} {v : Value} {d : DataW H} {p : List MemPlace} (hv : Value.okWide Try.prog w r b0 25 v) (h : DataW.Trod enc Try.prog w base (fun _ => true) held 25 v d p) :
    ∃ (k nd a n o ne : Int) (A : Option Addr) (l c : Nat) (ky bo : Int) (zs : List Int), v = (Value.agg #[Value.int IntKind.i64 k, Value.int IntKind.i64 nd, Value.int IntKind.i64 a, Value.int IntKind.i64 n, Value.int IntKind.u64 o, Value.int IntKind.u64 ne, Value.slice A l c, Value.int IntKind.u64 ky, Value.int IntKind.i64 bo]) ∧ VbWf k nd a n o ne ky bo ∧ IsRow .u64 w A l c zs := by
  obtain ⟨cs, rfl, hsz⟩ := okWide_struct vb_under hv
  obtain ⟨fuel, hf⟩ := h
  obtain ⟨l⟩ := cs
  have hl : l.length = 9 := by rw [vb_cells] at hsz; simpa using hsz
  have hf : DataW.trod enc Try.prog w base (fun _ => true) held fuel 25 l = some (d, p) := by simpa [Value.cells] using hf
  have key := fields_at vb_under vb_one vb_types hl hf
  obtain ⟨v0, y0, n0, c0, t0⟩ := key 0 (by decide)
  obtain ⟨v1, y1, n1, c1, t1⟩ := key 1 (by decide)
  obtain ⟨v2, y2, n2, c2, t2⟩ := key 2 (by decide)
  obtain ⟨v3, y3, n3, c3, t3⟩ := key 3 (by decide)
  obtain ⟨v4, y4, n4, c4, t4⟩ := key 4 (by decide)
  obtain ⟨v5, y5, n5, c5, t5⟩ := key 5 (by decide)
  obtain ⟨v6, y6, n6, c6, t6⟩ := key 6 (by decide)
  obtain ⟨v7, y7, n7, c7, t7⟩ := key 7 (by decide)
  obtain ⟨v8, y8, n8, c8, t8⟩ := key 8 (by decide)
  obtain ⟨z0, rfl, b0⟩ := int_of Try.underlying3 t0
  obtain ⟨z1, rfl, b1⟩ := int_of Try.underlying3 t1
  obtain ⟨z2, rfl, b2⟩ := int_of Try.underlying3 t2
  obtain ⟨z3, rfl, b3⟩ := int_of Try.underlying3 t3
  obtain ⟨z4, rfl, b4⟩ := int_of Try.underlying22 t4
  obtain ⟨z5, rfl, b5⟩ := int_of Try.underlying22 t5
  obtain ⟨A, len, cap, zs, rfl, hrow⟩ := words_of t6
  obtain ⟨z7, rfl, b7⟩ := int_of Try.underlying22 t7
  obtain ⟨z8, rfl, b8⟩ := int_of Try.underlying3 t8
  have d4 := bounds_u64 b4
  have d5 := bounds_u64 b5
  have d7 := bounds_u64 b7
  refine ⟨z0, z1, z2, z3, z4, z5, A, len, cap, z7, z8, zs, ?_, ⟨⟨bounds_i64 b0, bounds_i64 b1, bounds_i64 b2, bounds_i64 b3, bounds_i64 b8, bounds_i64 b8, ⟨by omega, by omega⟩, ⟨by omega, by omega⟩⟩, ⟨by omega, by omega⟩⟩, hrow⟩
  match l, hl with
  | [_, _, _, _, _, _, _, _, _], _ =>
    simp at c0 c1 c2 c3 c4 c5 c6 c7 c8
    simp [c0, c1, c2, c3, c4, c5, c6, c7, c8]
end
end Go.Proofs.Ytkkeamlpfpcbfaa.Vk

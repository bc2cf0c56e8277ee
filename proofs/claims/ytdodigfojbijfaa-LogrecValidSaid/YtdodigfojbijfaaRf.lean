/-
  Rows of words of a call's own; the words of a record; contract of the program's Body.
-/
import Derived.Test.YtdodigfojbijfaaRe
import Derived.Test.YtdodigfojbijfaaGb
import Derived.Test.YtdodigfojbijfaaCf
namespace Go.Proofs.Ytdodigfojbijfaa.Rf
open Go.ChangeShapes Go.WideShapes Go.ChangeAt Go.RowKit Ga Gb Ra Rb Rc Rd Re
set_option linter.unusedVariables false
set_option linter.unusedSimpArgs false
set_option maxRecDepth 10000
set_option maxHeartbeats 2000000

/-- v is a row of words of the call's own (begun in w0). -/
structure Wt (w0 wr : World) (v : Value) (ws : List Nat) : Prop where
  own : wr.ownsRow w0.heap.size 28 1 v ws.length (ws.map u64v)
  below : Below w0.heap.size w0 wr
  lt : ∀ x ∈ ws, x < 18446744073709551616
section
variable {w0 wr w' : World} {v v' : Value} {ws : List Nat}
theorem Wt.nil (w : World) : Wt w w (.slice none 0 0) [] := ⟨World.ownsRow_nil _ _ _ _, Below.refl _ _, by simp⟩
theorem owns_on {base : Nat} {e : TypeId} {sz n : Nat} {xs : List Value} (h : wr.ownsRow base e sz v n xs) (hb : Below wr.heap.size wr w') : w'.ownsRow base e sz v n xs := by
  refine ⟨h.1, ?_⟩
  rcases h.2 with h' | ⟨g', cap', cur, h', h3, h4, h5⟩
  · exact .inl h'
  · exact .inr ⟨g', cap', cur, h', h3, (hb.block g' (Array.getElem?_eq_some_iff.1 h4).1).trans h4, h5⟩
theorem Wt.on (h : Wt w0 wr v ws) (hb : Below wr.heap.size wr w') : Wt w0 w' v ws := ⟨owns_on h.own hb, h.below.trans (hb.mono h.below.size), h.lt⟩
theorem Wt.alloc (h : Wt w0 wr v ws) (o : Obj) : Wt w0 (wr.alloc o) v ws := h.on ((Below.refl _ wr).alloc (Nat.le_refl _) _)
theorem Wt.drew (h : Wt w0 wr v ws) (m : Nat) : Wt w0 (wr.drewN m) v ws := h.on ⟨rfl, rfl, rfl, Nat.le_refl _, fun _ _ => rfl⟩
theorem Wt.form (h : Wt w0 wr v ws) : ∃ A c, v = .slice A ws.length c ∧ ws.length ≤ c ∧ c ≤ 9223372036854775807 ∧ Lies .u64 wr wr.heap.size A ws := by
  rcases h.own.2 with ⟨rfl, h0⟩ | ⟨g, cap, cur, rfl, hb, hg, hn, hm, hs, ht⟩
  · have : ws = [] := List.eq_nil_of_length_eq_zero h0
    subst this
    exact ⟨none, 0, rfl, Nat.le_refl _, by decide, Lies.none_⟩
  · refine ⟨some ⟨g, 0, none⟩, cap, rfl, hn, hm, fun hl => ⟨_, rfl, (Array.getElem?_eq_some_iff.1 hg).1, fun j hj => ?_⟩⟩
    rw [add_zero_, h.own.cellAt j (by omega)]
    simp [hj, u64v]
/-- An append: new words behind the old ones. -/
theorem Wt.after {l : List Nat} (h : Wt w0 wr v ws) (hl : ∀ x ∈ l, x < 18446744073709551616) (hown : w'.ownsRow w0.heap.size 28 1 v' (ws.length + l.length) (ws.map u64v ++ l.map u64v)) (hg : wr.grownBy w' v.ownBlock) : Wt w0 w' v' (ws ++ l) := by
  refine ⟨?_, h.below.grown hg h.below.size fun k hk => (h.own.lt k hk).1, fun x hx => (List.mem_append.1 hx).elim (h.lt x) (hl x)⟩
  rw [List.length_append, List.map_append]
  exact hown
/-- What lay in a block of the call's own, or before it, and not in the row, lies there still. -/
theorem grown_keep (hg : wr.grownBy w' v.ownBlock) {g : Nat} (hlt : g < wr.heap.size) (hne : ∀ k, v.ownBlock = some k → k ≠ g) : w'.heap[g]? = wr.heap[g]? := hg.block g hlt fun e => hne g e.symm rfl
end
theorem owns_lower {w : World} {base base' : Nat} {e : TypeId} {sz n : Nat} {v : Value} {xs : List Value} (h : w.ownsRow base e sz v n xs) (hb : base' ≤ base) : w.ownsRow base' e sz v n xs := by
  refine ⟨h.1, ?_⟩
  rcases h.2 with h' | ⟨g', cap', cur, h', h3, h4⟩
  · exact .inl h'
  · exact .inr ⟨g', cap', cur, h', Nat.le_trans hb h3, h4⟩
theorem Wt.lower {w0 w1 wr : World} {v : Value} {ws : List Nat} (h : Wt w1 wr v ws) (hb : Below w0.heap.size w0 w1) : Wt w0 wr v ws := ⟨owns_lower h.own hb.size, hb.trans (h.below.mono hb.size), h.lt⟩
theorem Wt.row {w0 wr : World} {v : Value} {ws : List Nat} (h : Wt w0 wr v ws) (hp : 0 < ws.length) : ∃ g c, v = .slice (some ⟨g, 0, none⟩) ws.length c ∧ ws.length ≤ c ∧ c ≤ 9223372036854775807 ∧ w0.heap.size ≤ g ∧ Row wr g ws.length c ws := by
  have ho := h.own
  rcases ho.2 with ⟨_, h0⟩ | ⟨g, cap, cur, rfl, hb, hg, hn, hm, hs, ht⟩
  · omega
  · exact ⟨g, cap, rfl, hn, hm, hb, ⟨owns_base ho, rfl, h.lt⟩⟩
/-- The words of a page in a body. -/
def pw (p : Pg) : List Nat := p.line.toNat :: p.head :: p.data
def heads (s : Int) (l : List Pg) : List Nat := [s.toNat, l.length] ++ l.flatMap pw
/-- The words of a record: 8.2. -/
def bodyW (s : Int) (l : List Pg) : List Nat := heads s l ++ [Cf.crcW (heads s l)]
theorem pw_len (p : Pg) : (pw p).length = 9 := rfl
theorem pws_len (l : List Pg) : (l.flatMap pw).length = 9 * l.length := by
  induction l with
  | nil => rfl
  | cons a l ih => rw [List.flatMap_cons, List.length_append, ih, pw_len, List.length_cons]; omega
theorem heads_len (s : Int) (l : List Pg) : (heads s l).length = 2 + 9 * l.length := by rw [heads, List.length_append, pws_len]; rfl
theorem bodyW_len (s : Int) (l : List Pg) : (bodyW s l).length = 3 + 9 * l.length := by rw [bodyW, List.length_append, heads_len]; simp; omega
theorem take_pg (l : List Pg) (k : Nat) (h : k < l.length) : l.take (k + 1) = l.take k ++ [l.getD k pz] := by
  rw [List.take_succ_eq_append_getElem h]; simp [h]
/-- What the words of a body look like when k pages have been laid. -/
def pfx (s : Int) (l : List Pg) (k : Nat) : List Nat := [s.toNat, l.length] ++ (l.take k).flatMap pw
theorem pfx_zero (s : Int) (l : List Pg) : pfx s l 0 = [s.toNat, l.length] := by simp [pfx]
theorem pfx_all (s : Int) (l : List Pg) {n : Nat} (h : l.length = n) : pfx s l n = heads s l := by rw [pfx, heads, ← h, List.take_length]
theorem pfx_next (s : Int) (l : List Pg) {k : Nat} (h : k < l.length) : pfx s l (k + 1) = pfx s l k ++ [(l.getD k pz).line.toNat, (l.getD k pz).head] ++ (l.getD k pz).data := by
  rw [pfx, pfx, take_pg l k h, List.flatMap_append]; simp [pw]
theorem pfx_len (s : Int) (l : List Pg) {k : Nat} (h : k ≤ l.length) : (pfx s l k).length = 2 + 9 * k := by rw [pfx, List.length_append, pws_len, List.length_take]; simp; omega
theorem valid_zero {s lines : Int} {l : List Pg} (h : validR s l lines = 0) : (98 ≤ lines ∧ lines ≤ 256) ∧ (1 ≤ s ∧ s ≤ 1073741823) ∧ (1 ≤ l.length ∧ l.length ≤ 12) ∧ (∀ p ∈ l, 96 ≤ p.line ∧ p.line ≤ lines - 1) ∧ asc l = true ∧ l.any unwB = false := by
  unfold validR at h
  split at h
  · rename_i h1
    split at h
    · rename_i h2
      split at h
      · cases h
      · rename_i h3
        split at h
        · rename_i h4
          refine ⟨of_decide_eq_true h1, h2.1, h2.2, fun p hp => ?_, h4.1, h4.2⟩
          rw [Bool.not_eq_true, List.any_eq_false] at h3
          have := h3 p hp
          simpa [outB] using this
        · cases h
    · cases h
  · cases h
theorem mem_at {l : List Pg} {P : Pg → Prop} (h : ∀ p ∈ l, P p) {k : Nat} (hk : k < l.length) : P (l.getD k pz) := by
  rw [List.getD_eq_getElem?_getD, List.getElem?_eq_getElem hk]; exact h _ (List.getElem_mem _)
/-- A page's box. -/
structure Bp (w : World) (g : Nat) (p : Pg) : Prop where
  c0 : w.cell? ⟨g, 0, none⟩ = some (.int .i64 p.line)
  c1 : w.cell? ⟨g, 1, none⟩ = some (.int .u64 (p.head : Int))
  c2 : w.cell? ⟨g, 2, none⟩ = some (.int .u64 (p.a : Int))
  c3 : w.cell? ⟨g, 3, none⟩ = some (.int .u64 (p.b : Int))
  c4 : w.cell? ⟨g, 4, none⟩ = some (.int .u64 (p.c : Int))
  c5 : w.cell? ⟨g, 5, none⟩ = some (.int .u64 (p.d : Int))
  c6 : w.cell? ⟨g, 6, none⟩ = some (.int .u64 (p.e : Int))
  c7 : w.cell? ⟨g, 7, none⟩ = some (.int .u64 (p.f : Int))
  c8 : w.cell? ⟨g, 8, none⟩ = some (.int .u64 (p.g : Int))
theorem Bp.keep {w w' : World} {g : Nat} {p : Pg} (h : Bp w g p) (hb : w'.heap[g]? = w.heap[g]?) : Bp w' g p :=
  have k : ∀ j, w'.cell? ⟨g, j, none⟩ = w.cell? ⟨g, j, none⟩ := fun j => World.cell?_of_block (a := ⟨g, j, none⟩) hb
  ⟨(k 0).trans h.c0, (k 1).trans h.c1, (k 2).trans h.c2, (k 3).trans h.c3, (k 4).trans h.c4, (k 5).trans h.c5, (k 6).trans h.c6, (k 7).trans h.c7, (k 8).trans h.c8⟩
theorem Bp.lt {w : World} {g : Nat} {p : Pg} (h : Bp w g p) : g < w.heap.size := block_lt_of_cell h.c0
theorem Bp.on {w w' : World} {g : Nat} {p : Pg} (h : Bp w g p) (hb : Below w.heap.size w w') : Bp w' g p := h.keep (hb.block g h.lt)
theorem Bp.new (w : World) (p : Pg) (T : TypeId) : Bp (w.alloc (.cells p.arr T)) w.heap.size p := by
  have k : ∀ j, (w.alloc (.cells p.arr T)).cell? ⟨w.heap.size, j, none⟩ = p.arr[j]? := fun j => cell_of_row _ _ _ _ _ _ (heap_alloc_new w (.cells p.arr T))
  exact ⟨(k 0).trans rfl, (k 1).trans rfl, (k 2).trans rfl, (k 3).trans rfl, (k 4).trans rfl, (k 5).trans rfl, (k 6).trans rfl, (k 7).trans rfl, (k 8).trans rfl⟩
theorem Bp.words {w : World} {g : Nat} {p : Pg} (h : Bp w g p) : ∀ j u, (p.data.map u64v)[j]? = some u → w.cell? ((⟨g, 2, none⟩ : Addr).add j) = some u := fun j u hj => by
  rw [add_at]
  match j, hj with
  | 0, hj => exact h.c2.trans hj
  | 1, hj => exact h.c3.trans hj
  | 2, hj => exact h.c4.trans hj
  | 3, hj => exact h.c5.trans hj
  | 4, hj => exact h.c6.trans hj
  | 5, hj => exact h.c7.trans hj
  | 6, hj => exact h.c8.trans hj
theorem data_lt {p : Pg} (h : p.Wf) : ∀ x ∈ p.data, x < 18446744073709551616 := fun x hx => by
  simp only [Pg.data, List.mem_cons, List.not_mem_nil, or_false] at hx
  rcases hx with rfl | rfl | rfl | rfl | rfl | rfl | rfl
  · exact h.a
  · exact h.b
  · exact h.c
  · exact h.d
  · exact h.e
  · exact h.f
  · exact h.g
end Go.Proofs.Ytdodigfojbijfaa.Rf

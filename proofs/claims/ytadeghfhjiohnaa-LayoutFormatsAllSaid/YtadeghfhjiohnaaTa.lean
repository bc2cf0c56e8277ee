/-
  A slice that may begin within its row: what is appended to it, what is cut off its front.
-/
import Derived.Test.YtadeghfhjiohnaaGb
namespace Go.Proofs.Ytadeghfhjiohnaa.Ta
open Go.ChangeShapes Go.WideShapes Go.ChangeAt Go.RowKit Ga Gb
set_option linter.unusedVariables false
set_option linter.unusedSimpArgs false
/-- Slice v holds n elements of that size, the cells xs, somewhere in a row of its type. -/
def Tl (w : World) (e : TypeId) (sz : Nat) (v : Value) (n : Nat) (xs : List Value) : Prop :=
  xs.length = n * sz ∧ ((v = .slice none 0 0 ∧ n = 0) ∨ ∃ g off c cur, v = .slice (some ⟨g, off, none⟩) n c ∧ w.heap[g]? = some (.cells cur e (0, 0)) ∧ n ≤ c ∧ c ≤ maxLen ∧ off + c * sz ≤ cur.size ∧ ∀ j, j < n * sz → cur[off + j]? = xs[j]?)
theorem setCells_frame (g : Nat) : ∀ (vs : List Value) (o : Nat) (w : World), w.grownBy (w.setCells g o vs) (some g) ∧ (w.setCells g o vs).heap.size = w.heap.size
  | [], o, w => ⟨World.grownBy.refl w _, rfl⟩
  | v :: vs, o, w => by
    obtain ⟨h, hs⟩ := setCells_frame g vs (o + 1) (w.setCell ⟨g, o, none⟩ v)
    have hz : (w.setCell ⟨g, o, none⟩ v).heap.size = w.heap.size := by simp
    refine ⟨⟨h.os, h.tape, h.output, by rw [World.setCells, hs, hz]; exact Nat.le_refl _, fun k hk hn => ?_⟩, by rw [World.setCells, hs, hz]⟩
    rw [World.setCells, h.block k (by omega) hn]
    exact Below.heap_setCell w ⟨g, o, none⟩ v k (fun e => hn (by rw [e]))
theorem setCells_heap (g : Nat) (e : TypeId) : ∀ (vs : List Value) (o : Nat) (w : World) (cur : Array Value), w.heap[g]? = some (.cells cur e (0, 0)) → o + vs.length ≤ cur.size →
    ∃ cur', (w.setCells g o vs).heap[g]? = some (.cells cur' e (0, 0)) ∧ cur'.size = cur.size ∧ ∀ j, cur'[j]? = if o ≤ j ∧ j < o + vs.length then vs[j - o]? else cur[j]?
  | [], o, w, cur, h, _ => ⟨cur, h, rfl, fun j => by rw [if_neg (fun h => by have := h.2; simp at this; omega)]⟩
  | v :: vs, o, w, cur, h, hl => by
    rw [List.length_cons] at hl
    obtain ⟨cur', h1, h2, h3⟩ := setCells_heap g e vs (o + 1) (w.setCell ⟨g, o, none⟩ v) _ (heap_setCell_same w g o cur e v h) (by simp; omega)
    refine ⟨cur', h1, by rw [h2]; simp, fun j => ?_⟩
    rw [h3 j]
    by_cases hj : j = o
    · subst hj
      rw [if_neg (by omega), if_pos (by simp), Nat.sub_self]
      simp [Array.getElem?_setIfInBounds, show j < cur.size by omega]
    · by_cases h4 : o + 1 ≤ j ∧ j < o + 1 + vs.length
      · rw [if_pos h4, if_pos (by simp; omega)]
        obtain ⟨d, rfl⟩ : ∃ d, j = o + 1 + d := ⟨j - (o + 1), by omega⟩
        rw [show o + 1 + d - (o + 1) = d by omega, show o + 1 + d - o = d + 1 by omega, List.getElem?_cons_succ]
      · rw [if_neg h4, if_neg (by simp; omega)]
        simp [Array.getElem?_setIfInBounds, Ne.symm hj]
section
variable {P : Program} {w w' : World} {e : TypeId} {sz n : Nat} {v : Value} {xs : List Value}
theorem Tl.slice (h : Tl w e sz v n xs) : ∃ A c, v = .slice A n c := by
  rcases h.2 with ⟨rfl, rfl⟩ | ⟨g, off, c, cur, rfl, _⟩
  · exact ⟨none, 0, rfl⟩
  · exact ⟨_, _, rfl⟩
theorem Tl.nil (w : World) (e : TypeId) (sz : Nat) : Tl w e sz (.slice none 0 0) 0 [] := ⟨by simp, .inl ⟨rfl, rfl⟩⟩
theorem Tl.lt (h : Tl w e sz v n xs) : ∀ g, v.ownBlock = some g → g < w.heap.size := fun g hg => by
  rcases h.2 with ⟨rfl, _⟩ | ⟨g', off, c, cur, rfl, hz, _⟩
  · cases hg
  · cases hg
    exact (Array.getElem?_eq_some_iff.1 hz).1
theorem Tl.typed (h : Tl w e sz v n xs) : ∀ g, v.ownBlock = some g → ∃ cur, w.heap[g]? = some (.cells cur e (0, 0)) := fun g hg => by
  rcases h.2 with ⟨rfl, _⟩ | ⟨g', off, c, cur, rfl, hz, _⟩
  · cases hg
  · cases hg
    exact ⟨cur, hz⟩
theorem Tl.on (h : Tl w e sz v n xs) (hb : ∀ g, v.ownBlock = some g → w'.heap[g]? = w.heap[g]?) : Tl w' e sz v n xs := by
  refine ⟨h.1, ?_⟩
  rcases h.2 with h' | ⟨g, off, c, cur, rfl, hz, h5⟩
  · exact .inl h'
  · exact .inr ⟨g, off, c, cur, rfl, (hb g rfl).trans hz, h5⟩
theorem Tl.of_own {base : Nat} (h : w.ownsRow base e sz v n xs) : Tl w e sz v n xs := by
  refine ⟨h.1, ?_⟩
  rcases h.2 with h' | ⟨g, c, cur, rfl, _, hz, h1, h2, h3, h4⟩
  · exact .inl h'
  · refine .inr ⟨g, 0, c, cur, rfl, hz, h1, h2, by omega, fun j hj => ?_⟩
    rw [← h4, Nat.zero_add, List.getElem?_take, if_pos hj]
    simp
/-- The first element's cells. -/
theorem Tl.cells (h : Tl w e sz v n xs) (hn : 0 < n) : ∃ g off c, v = .slice (some ⟨g, off, none⟩) n c ∧ n ≤ c ∧ c ≤ maxLen ∧ (∀ j, w.frozen? ⟨g, j, none⟩ = false) ∧ ∀ j u, xs[j]? = some u → w.cell? ⟨g, off + j, none⟩ = some u := by
  rcases h.2 with ⟨_, h0⟩ | ⟨g, off, c, cur, rfl, hz, h1, h2, h3, h4⟩
  · omega
  · refine ⟨g, off, c, rfl, h1, h2, fun j => frozen_of_row w g j _ _ hz, fun j u hj => ?_⟩
    rw [cell_of_row w g _ _ _ _ hz, h4 j (by
      have := h.1
      rcases Nat.lt_or_ge j xs.length with h | h
      · omega
      · rw [List.getElem?_eq_none h] at hj; cases hj)]
    exact hj
theorem run_tl0 (t ty e : TypeId) (i : TypeInfo) (z : Value) (size bytes : Nat) (ht : P.underlying t = some (.slice e)) (hi : P.info? e = some i) (hz : i.zero = some z)
    (hsize : i.size = size) (hby : i.bytes = bytes) (hzs : z.cells.size = size) (hsz : 0 < size) (v : Value) (n : Nat) (xs : List Value) (h : Tl w e size v n xs)
    (ad : Addr) (m c : Nat) (news : List Value) (hl : news.length = m * size) (hnews : ∀ j u, news[j]? = some u → w.cell? (ad.add j) = some u) (h1 : ∀ u ∈ news, u.oneCell' = true) (h63 : n + m ≤ maxLen) (hbytes : (n + m) * bytes ≤ 140737488355328) :
    ∃ v' w', (Builtin.append_ #[t, t] ty #[v, .slice (some ad) m c]).run P w = .ok v' w' ∧ Tl w' e size v' (n + m) (xs ++ news) ∧ w.grownBy w' v.ownBlock ∧ (v'.ownBlock = v.ownBlock ∨ ∀ g, v'.ownBlock = some g → w.heap.size ≤ g) ∧ Tl w' e size v n xs := by
  have hxl := h.1
  rcases h.2 with ⟨rfl, rfl⟩ | ⟨g, off, c0, cur, rfl, hg, h2, h3, h4, h5⟩
  · obtain ⟨v', w', hr, ho, hgr, _⟩ := run_append_own (P := P) w w.heap.size t ty e i z size bytes ht hi hz hsize hby hzs hsz _ 0 [] (World.ownsRow_nil _ _ _ _) ad m c news hl hnews h1 h63 hbytes (Nat.le_refl _)
    obtain rfl : xs = [] := List.eq_nil_of_length_eq_zero (by omega)
    exact ⟨v', w', hr, Tl.of_own ho, hgr, .inr fun g hg => (ho.lt g hg).1, Tl.nil _ _ _⟩
  · by_cases hroom : n + m ≤ c0
    · have hms : n * size + m * size ≤ c0 * size := by rw [← Nat.add_mul]; exact Nat.mul_le_mul_right _ hroom
      have hsp : ∀ j, j < news.length → (w.cell? ⟨g, off + n * size + j, none⟩).isSome = true := fun j hj => by
        rw [cell_of_row w g _ _ _ _ hg, Array.getElem?_eq_getElem (by omega)]
        rfl
      subst hsize
      obtain ⟨cur', c1, c2, c3⟩ := setCells_heap g e news (off + n * i.size) w cur hg (by omega)
      refine ⟨_, _, run_append_room_cells (P := P) w t ty e i ht hi g off n c0 ad m c news hl hnews h1 hroom hsp (fun j _ => frozen_of_row w g _ _ _ hg), ⟨by rw [List.length_append, hxl, hl, Nat.add_mul], .inr ⟨g, off, c0, cur', rfl, c1, hroom, h3, by omega, fun j hj => ?_⟩⟩, (setCells_frame g news _ w).1, .inl rfl, ⟨hxl, .inr ⟨g, off, c0, cur', rfl, c1, h2, h3, by omega, fun j hj => by rw [c3, if_neg (by omega), h5 j hj]⟩⟩⟩
      rw [c3]
      rw [Nat.add_mul] at hj
      by_cases hj2 : j < n * i.size
      · rw [if_neg (by omega), h5 j hj2, List.getElem?_append_left (by omega)]
      · rw [if_pos (by omega), List.getElem?_append_right (by omega), hxl]
        congr 1
        omega
    · obtain ⟨v', w', hr, ho, hgr⟩ := run_append_arg_grows (P := P) w t ty e i z size bytes ht hi hz hsize hby hzs hsz ⟨g, off, none⟩ n c0 xs hxl (fun j u hj => by
        rw [add_at, cell_of_row w g _ _ _ _ hg, h5 j (by
          rcases Nat.lt_or_ge j xs.length with h | h
          · omega
          · rw [List.getElem?_eq_none h] at hj; cases hj)]
        exact hj) ad m c news hl hnews (by omega) h63 hbytes
      exact ⟨v', w', hr, Tl.of_own ho, ⟨hgr.os, hgr.tape, hgr.output, hgr.size, fun k hk _ => hgr.block k hk (by simp)⟩, .inr fun g hg => (ho.lt g hg).1, h.on (fun g' hg' => hgr.block g' (h.lt g' hg') (by simp))⟩
theorem run_tl (t ty e : TypeId) (i : TypeInfo) (z : Value) (size bytes : Nat) (ht : P.underlying t = some (.slice e)) (hi : P.info? e = some i) (hz : i.zero = some z)
    (hsize : i.size = size) (hby : i.bytes = bytes) (hzs : z.cells.size = size) (hsz : 0 < size) (v : Value) (n : Nat) (xs : List Value) (h : Tl w e size v n xs)
    (A : Option Addr) (m c : Nat) (news : List Value) (hf : From w A size m news) (h1 : ∀ u ∈ news, u.oneCell' = true) (h63 : n + m ≤ maxLen) (hbytes : (n + m) * bytes ≤ 140737488355328) :
    ∃ v' w', (Builtin.append_ #[t, t] ty #[v, .slice A m c]).run P w = .ok v' w' ∧ Tl w' e size v' (n + m) (xs ++ news) ∧ w.grownBy w' v.ownBlock ∧ (v'.ownBlock = v.ownBlock ∨ ∀ g, v'.ownBlock = some g → w.heap.size ≤ g) ∧ Tl w' e size v n xs := by
  rcases A with _ | ad
  · obtain rfl : m = 0 := by
      rcases Nat.eq_zero_or_pos m with h | h
      · exact h
      · obtain ⟨ad, e, _⟩ := hf.2 h
        cases e
    obtain rfl : news = [] := List.eq_nil_of_length_eq_zero (by simpa using hf.1)
    refine ⟨v, w, ?_, by simpa using h, World.grownBy.refl w _, .inl rfl, h⟩
    rcases h.2 with ⟨rfl, rfl⟩ | ⟨g, off, cap, cur, rfl, _, hnc, _⟩
    · simp [Builtin.append_, run_underlying ht, sizeOf, typeInfo, hi, Builtin.lenOf, Builtin.firstCells]
    · simp [Builtin.append_, run_underlying ht, sizeOf, typeInfo, hi, Builtin.lenOf, Builtin.firstCells, hnc, storeCells]
  · have hn : ∀ j u, news[j]? = some u → w.cell? (ad.add j) = some u := fun j u hj => by
      rcases Nat.eq_zero_or_pos m with h | h
      · obtain rfl : news = [] := List.eq_nil_of_length_eq_zero (by rw [hf.1, h]; simp)
        simp at hj
      · obtain ⟨ad', e, hc⟩ := hf.2 h
        cases e
        exact hc j u hj
    exact run_tl0 t ty e i z size bytes ht hi hz hsize hby hzs hsz v n xs h ad m c news hf.1 hn h1 h63 hbytes
theorem news_new (w : World) (cs : List Value) (t : TypeId) : ∀ j u, cs[j]? = some u → (w.alloc (.cells cs.toArray t)).cell? ((⟨w.heap.size, 0, none⟩ : Addr).add j) = some u := fun j u hj => by
  rw [add_zero_, cell_of_row _ _ _ _ _ _ (heap_alloc_new w (.cells cs.toArray t))]
  simpa using hj
theorem wp_tl {o : Oper} {a : Act} {K : Act → World → Prop} {Q : Exit → Act → World → Prop} (s x : Operand) (t : TypeId)
    (ho : o.op = .call { callee := .builtin .append, args := #[s, x], argTypes := #[t, t] })
    (e : TypeId) (i : TypeInfo) (z : Value) (size bytes : Nat) (ht : P.underlying t = some (.slice e)) (hi : P.info? e = some i) (hz : i.zero = some z)
    (hsize : i.size = size) (hby : i.bytes = bytes) (hzs : z.cells.size = size) (hsz : 0 < size) (v : Value) (n : Nat) (xs : List Value) (hs : a.eval s = v) (h : Tl w e size v n xs)
    (A : Option Addr) (m c : Nat) (news : List Value) (hx : a.eval x = .slice A m c) (hf : From w A size m news) (h1 : ∀ u ∈ news, u.oneCell' = true) (h63 : n + m ≤ maxLen) (hbytes : (n + m) * bytes ≤ 140737488355328)
    (hk : ∀ v' w', Lk (Tl w' e size v' (n + m) (xs ++ news)) → Lk (w.grownBy w' v.ownBlock) → Lk (v'.ownBlock = v.ownBlock ∨ ∀ g, v'.ownBlock = some g → w.heap.size ≤ g) → Lk (Tl w' e size v n xs) → K (a.put o.dst v') w') : o.wp P a w K Q := by
  obtain ⟨v', w', hr, h2, h3, h4, h5⟩ := run_tl (P := P) (w := w) t o.type e i z size bytes ht hi hz hsize hby hzs hsz v n xs h A m c news hf h1 h63 hbytes
  unfold Oper.wp execOp
  simp only [ho, resolve, invoke, builtin, Sem.run_bind, Sem.run_pure, Result.andThen_ok, List.map_toArray, List.map_cons, List.map_nil, hs, hx, hr]
  exact hk v' w' ⟨h2⟩ ⟨h3⟩ ⟨h4⟩ ⟨h5⟩
theorem step_tl {ops : Array Oper} {o : Oper} {a : Act} {K : Act → World → Prop} {Q : Exit → Act → World → Prop} {E : Prop} (hgd : o.guard = none) (s x : Operand) (t : TypeId)
    (ho : o.op = .call { callee := .builtin .append, args := #[s, x], argTypes := #[t, t] })
    (e : TypeId) (i : TypeInfo) (z : Value) (size bytes : Nat) (ht : P.underlying t = some (.slice e)) (hi : P.info? e = some i) (hz : i.zero = some z)
    (hsize : i.size = size) (hby : i.bytes = bytes) (hzs : z.cells.size = size) (hsz : 0 < size) (v : Value) (n : Nat) (xs : List Value) (hs : a.eval s = v) (h : Tl w e size v n xs)
    (A : Option Addr) (m c : Nat) (news : List Value) (hx : a.eval x = .slice A m c) (hf : From w A size m news) (h1 : ∀ u ∈ news, u.oneCell' = true) (h63 : n + m ≤ maxLen) (hbytes : (n + m) * bytes ≤ 140737488355328)
    (hk : ∀ v' w', Lk (Tl w' e size v' (n + m) (xs ++ news)) → Lk (w.grownBy w' v.ownBlock) → Lk (v'.ownBlock = v.ownBlock ∨ ∀ g, v'.ownBlock = some g → w.heap.size ≤ g) → Lk (Tl w' e size v n xs) → K (a.put o.dst v') w') :
    if Region.wanted o (yielded ops a.tmps) = true then Oper.wp P o a w K Q else E := by
  have hw : Region.wanted o (yielded ops a.tmps) = true := by simp [Region.wanted, hgd]
  rw [if_pos hw]
  exact wp_tl s x t ho e i z size bytes ht hi hz hsize hby hzs hsz v n xs hs h A m c news hx hf h1 h63 hbytes hk
end
end Go.Proofs.Ytadeghfhjiohnaa.Ta

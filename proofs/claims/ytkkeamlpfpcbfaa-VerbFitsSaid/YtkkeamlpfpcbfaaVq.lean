/-
  Three verbs in boxes: the third is the first one, with a field turned or its words with one behind.
-/
import Derived.Test.YtkkeamlpfpcbfaaVj
import Derived.Laws.AppendOwnNone
import Derived.Deep.CutBlock
namespace Go.Proofs.Ytkkeamlpfpcbfaa.Vq
open Go.ChangeShapes Go.WideShapes Go.ChangeAt Go.RowKit Ga Va Vb Vd Ve Vi Vk Vu Vm
set_option linter.unusedVariables false
set_option linter.unusedSimpArgs false
set_option maxHeartbeats 4000000
set_option maxRecDepth 10000
theorem own_form {B : Nat} {w : World} {v : Value} {n : Nat} {ws : List Nat} (hn : ws.length = n) (h : w.ownsRow B 22 1 v n (ws.map u64v)) : ∃ A c, v = .slice A n c ∧ n ≤ c ∧ c ≤ 9223372036854775807 ∧ Lies .u64 w w.heap.size A ws := by
  subst hn
  rcases h.2 with ⟨rfl, h0⟩ | ⟨g, cap, cur, rfl, hb, hg, hn, hm, hs, ht⟩
  · have : ws = [] := List.eq_nil_of_length_eq_zero h0
    subst this
    exact ⟨none, 0, rfl, Nat.le_refl _, by omega, Lies.none_⟩
  · refine ⟨some ⟨g, 0, none⟩, cap, rfl, hn, by unfold maxLen at hm; omega, fun hl => ⟨_, rfl, (Array.getElem?_eq_some_iff.1 hg).1, fun j hj => ?_⟩⟩
    rw [add_zero_, h.cellAt j (by omega)]
    simp [hj, u64v]
theorem lies_news {w : World} {B : Nat} {ad : Addr} {ws : List Nat} (h : Lies .u64 w B (some ad) ws) : ∀ j u, (ws.map u64v)[j]? = some u → w.cell? (ad.add j) = some u := fun j u hj => by
  rw [List.getElem?_map] at hj
  have hjl : j < ws.length := by
    by_cases h : j < ws.length
    · exact h
    · rw [List.getElem?_eq_none (by omega)] at hj; simp at hj
  rw [List.getElem?_eq_getElem hjl] at hj
  obtain rfl : u64v ws[j] = u := by simpa using hj
  obtain ⟨ad', e, _, hc⟩ := h (by omega)
  cases e
  rw [hc j hjl]
  simp [hjl, u64v]
theorem map_one (ws : List Nat) : ∀ u ∈ ws.map u64v, u.oneCell' = true := fun u hu => by
  rw [List.mem_map] at hu
  obtain ⟨x, _, rfl⟩ := hu
  rfl
theorem wpList_append_nn {P : Program} {w : World} {ops : Array Oper} {rest : List Oper} {o : Oper} {a : Act} {Q : Exit → Act → World → Prop} (hgd : o.guard = none) (s x : Operand) (t : TypeId)
    (ho : o.op = .call { callee := .builtin .append, args := #[s, x], argTypes := #[t, t] }) (e : TypeId) (i : TypeInfo) (ht : P.underlying t = some (.slice e)) (hi : P.info? e = some i)
    (hs : a.eval s = .slice none 0 0) (c : Nat) (hx : a.eval x = .slice none 0 c) (h : wpList P ops Q rest (a.put o.dst (.slice none 0 0)) w) : wpList P ops Q (o :: rest) a w := by
  refine wpList_plain hgd fun K hK => ?_
  have hrun : (Builtin.append_ #[t, t] o.type #[.slice none 0 0, .slice none 0 c]).run P w = .ok (.slice none 0 0) w := by
    simp [Builtin.append_, run_underlying ht, sizeOf, typeInfo, hi, Builtin.lenOf, Builtin.firstCells]
  unfold Oper.wp
  simp [execOp, ho, resolve, invoke, builtin, hs, hx, hrun, Result.andThen]
  exact hK _ _ h
/-- Two verbs below block gz. -/
structure Kk (W U : World) (ga gb gz : Nat) (ka nda aa na oa nea : Int) (Aa : Option Addr) (ma ca : Nat) (kya boa : Int) (wsa : List Nat) (kb ndb ab nb ob neb : Int) (Ab : Option Addr) (mb cb : Nat) (kyb bob : Int) (wsb : List Nat) : Prop where
  xa : Bx U ga ka nda aa na oa nea Aa ma ca kya boa
  xb : Bx U gb kb ndb ab nb ob neb Ab mb cb kyb bob
  la : Lies .u64 U gz Aa wsa
  lb : Lies .u64 U gz Ab wsb
  below : Below W.heap.size W U
  ord : W.heap.size ≤ gz ∧ ga < gz ∧ gb < gz ∧ gz < U.heap.size
/-- And the third one in block gz. -/
structure Kz (W U : World) (ga gb gz : Nat) (ka nda aa na oa nea : Int) (Aa : Option Addr) (ma ca : Nat) (kya boa : Int) (wsa : List Nat) (kb ndb ab nb ob neb : Int) (Ab : Option Addr) (mb cb : Nat) (kyb bob : Int) (wsb : List Nat) (kz ndz az nz oz nez : Int) (Az : Option Addr) (mz cz : Nat) (kyz boz : Int) (wsz : List Nat) : Prop where
  k : Kk W U ga gb gz ka nda aa na oa nea Aa ma ca kya boa wsa kb ndb ab nb ob neb Ab mb cb kyb bob wsb
  z : U.heap[gz]? = some (.cells #[Value.int IntKind.i64 kz, Value.int IntKind.i64 ndz, Value.int IntKind.i64 az, Value.int IntKind.i64 nz, Value.int IntKind.u64 oz, Value.int IntKind.u64 nez, Value.slice Az mz cz, Value.int IntKind.u64 kyz, Value.int IntKind.i64 boz] 25 (0, 0))
  l : Lies .u64 U U.heap.size Az wsz
  n : wsz.length = mz ∧ mz ≤ 4294967296
section
variable {W U U' : World} {ga gb gz : Nat} {ka nda aa na oa nea : Int} {Aa : Option Addr} {ma ca : Nat} {kya boa : Int} {wsa : List Nat} {kb ndb ab nb ob neb : Int} {Ab : Option Addr} {mb cb : Nat} {kyb bob : Int} {wsb : List Nat} {kz ndz az nz oz nez : Int} {Az : Option Addr} {mz cz : Nat} {kyz boz : Int} {wsz : List Nat}
theorem bx_on {B b : Nat} (h : Bx U b ka nda aa na oa nea Aa ma ca kya boa) (hb : Below B U U') (hB : b < B) : Bx U' b ka nda aa na oa nea Aa ma ca kya boa :=
  ⟨(hb.cell (p := ⟨b, 0, none⟩) hB).trans h.c0, (hb.cell (p := ⟨b, 1, none⟩) hB).trans h.c1, (hb.cell (p := ⟨b, 2, none⟩) hB).trans h.c2, (hb.cell (p := ⟨b, 3, none⟩) hB).trans h.c3, (hb.cell (p := ⟨b, 4, none⟩) hB).trans h.c4, (hb.cell (p := ⟨b, 5, none⟩) hB).trans h.c5, (hb.cell (p := ⟨b, 6, none⟩) hB).trans h.c6, (hb.cell (p := ⟨b, 7, none⟩) hB).trans h.c7, (hb.cell (p := ⟨b, 8, none⟩) hB).trans h.c8⟩
theorem Kk.on (h : Kk W U ga gb gz ka nda aa na oa nea Aa ma ca kya boa wsa kb ndb ab nb ob neb Ab mb cb kyb bob wsb) (hb : Below gz U U') : Kk W U' ga gb gz ka nda aa na oa nea Aa ma ca kya boa wsa kb ndb ab nb ob neb Ab mb cb kyb bob wsb :=
  ⟨bx_on h.xa hb h.ord.2.1, bx_on h.xb hb h.ord.2.2.1, h.la.below hb, h.lb.below hb, h.below.trans (hb.mono h.ord.1), h.ord.1, h.ord.2.1, h.ord.2.2.1, Nat.lt_of_lt_of_le h.ord.2.2.2 hb.size⟩
theorem Kk.set (h : Kk W U ga gb gz ka nda aa na oa nea Aa ma ca kya boa wsa kb ndb ab nb ob neb Ab mb cb kyb bob wsb) (j : Nat) (v : Value) : Kk W (U.setCell ⟨gz, j, none⟩ v) ga gb gz ka nda aa na oa nea Aa ma ca kya boa wsa kb ndb ab nb ob neb Ab mb cb kyb bob wsb := h.on ((Below.refl gz U).setCell (p := ⟨gz, j, none⟩) (Nat.le_refl _) v)
theorem Kz.start (h : Two W U ga gb ka nda aa na oa nea Aa ma ca kya boa wsa kb ndb ab nb ob neb Ab mb cb kyb bob wsb) (hn : wsa.length = ma ∧ ma ≤ 4294967296) : Kz W (U.alloc (.cells #[Value.int IntKind.i64 ka, Value.int IntKind.i64 nda, Value.int IntKind.i64 aa, Value.int IntKind.i64 na, Value.int IntKind.u64 oa, Value.int IntKind.u64 nea, Value.slice Aa ma ca, Value.int IntKind.u64 kya, Value.int IntKind.i64 boa] 25)) ga gb U.heap.size ka nda aa na oa nea Aa ma ca kya boa wsa kb ndb ab nb ob neb Ab mb cb kyb bob wsb ka nda aa na oa nea Aa ma ca kya boa wsa := by
  have hb := (Below.refl U.heap.size U).alloc (Nat.le_refl _) (.cells #[Value.int IntKind.i64 ka, Value.int IntKind.i64 nda, Value.int IntKind.i64 aa, Value.int IntKind.i64 na, Value.int IntKind.u64 oa, Value.int IntKind.u64 nea, Value.slice Aa ma ca, Value.int IntKind.u64 kya, Value.int IntKind.i64 boa] 25)
  have ha : ga < U.heap.size := (Array.getElem?_eq_some_iff.1 h.xa).1
  have hg : gb < U.heap.size := (Array.getElem?_eq_some_iff.1 h.xb).1
  exact ⟨⟨(Bx.of_heap h.xa).on hb, (Bx.of_heap h.xb).on hb, h.la.below hb, h.lb.below hb, h.below.trans (hb.mono h.below.size), h.below.size, ha, hg, by simp⟩, heap_alloc_new _ _, h.la.on_ hb, hn⟩
theorem Kz.f (h : Kz W U ga gb gz ka nda aa na oa nea Aa ma ca kya boa wsa kb ndb ab nb ob neb Ab mb cb kyb bob wsb kz ndz az nz oz nez Az mz cz kyz boz wsz) (j : Nat) : U.frozen? ⟨gz, j, none⟩ = false := frozen_of_row U gz j _ _ h.z
theorem Kz.bx (h : Kz W U ga gb gz ka nda aa na oa nea Aa ma ca kya boa wsa kb ndb ab nb ob neb Ab mb cb kyb bob wsb kz ndz az nz oz nez Az mz cz kyz boz wsz) : Bx U gz kz ndz az nz oz nez Az mz cz kyz boz := Bx.of_heap h.z
theorem Kz.lset (h : Kz W U ga gb gz ka nda aa na oa nea Aa ma ca kya boa wsa kb ndb ab nb ob neb Ab mb cb kyb bob wsb ka nda aa na oa nea Aa ma ca kya boa wsa) (j : Nat) (v : Value) : Lies .u64 (U.setCell ⟨gz, j, none⟩ v) (U.setCell ⟨gz, j, none⟩ v).heap.size Aa wsa := by
  have hb := (Below.refl gz U).setCell (p := ⟨gz, j, none⟩) (Nat.le_refl _) v
  exact (h.k.la.below hb).more (Nat.le_trans (Nat.le_of_lt h.k.ord.2.2.2) hb.size)
theorem Kz.set1 (h : Kz W U ga gb gz ka nda aa na oa nea Aa ma ca kya boa wsa kb ndb ab nb ob neb Ab mb cb kyb bob wsb ka nda aa na oa nea Aa ma ca kya boa wsa) (x : Int) : Kz W (U.setCell ⟨gz, 1, none⟩ (.int .i64 x)) ga gb gz ka nda aa na oa nea Aa ma ca kya boa wsa kb ndb ab nb ob neb Ab mb cb kyb bob wsb ka x aa na oa nea Aa ma ca kya boa wsa := ⟨h.k.set _ _, heap_setCell_same U gz 1 _ _ _ h.z, h.lset _ _, h.n⟩
theorem Kz.set2 (h : Kz W U ga gb gz ka nda aa na oa nea Aa ma ca kya boa wsa kb ndb ab nb ob neb Ab mb cb kyb bob wsb ka nda aa na oa nea Aa ma ca kya boa wsa) (x : Int) : Kz W (U.setCell ⟨gz, 2, none⟩ (.int .i64 x)) ga gb gz ka nda aa na oa nea Aa ma ca kya boa wsa kb ndb ab nb ob neb Ab mb cb kyb bob wsb ka nda x na oa nea Aa ma ca kya boa wsa := ⟨h.k.set _ _, heap_setCell_same U gz 2 _ _ _ h.z, h.lset _ _, h.n⟩
theorem Kz.set3 (h : Kz W U ga gb gz ka nda aa na oa nea Aa ma ca kya boa wsa kb ndb ab nb ob neb Ab mb cb kyb bob wsb ka nda aa na oa nea Aa ma ca kya boa wsa) (x : Int) : Kz W (U.setCell ⟨gz, 3, none⟩ (.int .i64 x)) ga gb gz ka nda aa na oa nea Aa ma ca kya boa wsa kb ndb ab nb ob neb Ab mb cb kyb bob wsb ka nda aa x oa nea Aa ma ca kya boa wsa := ⟨h.k.set _ _, heap_setCell_same U gz 3 _ _ _ h.z, h.lset _ _, h.n⟩
theorem Kz.set4 (h : Kz W U ga gb gz ka nda aa na oa nea Aa ma ca kya boa wsa kb ndb ab nb ob neb Ab mb cb kyb bob wsb ka nda aa na oa nea Aa ma ca kya boa wsa) (x : Int) : Kz W (U.setCell ⟨gz, 4, none⟩ (.int .u64 x)) ga gb gz ka nda aa na oa nea Aa ma ca kya boa wsa kb ndb ab nb ob neb Ab mb cb kyb bob wsb ka nda aa na x nea Aa ma ca kya boa wsa := ⟨h.k.set _ _, heap_setCell_same U gz 4 _ _ _ h.z, h.lset _ _, h.n⟩
theorem Kz.set5 (h : Kz W U ga gb gz ka nda aa na oa nea Aa ma ca kya boa wsa kb ndb ab nb ob neb Ab mb cb kyb bob wsb ka nda aa na oa nea Aa ma ca kya boa wsa) (x : Int) : Kz W (U.setCell ⟨gz, 5, none⟩ (.int .u64 x)) ga gb gz ka nda aa na oa nea Aa ma ca kya boa wsa kb ndb ab nb ob neb Ab mb cb kyb bob wsb ka nda aa na oa x Aa ma ca kya boa wsa := ⟨h.k.set _ _, heap_setCell_same U gz 5 _ _ _ h.z, h.lset _ _, h.n⟩
theorem Kz.set7 (h : Kz W U ga gb gz ka nda aa na oa nea Aa ma ca kya boa wsa kb ndb ab nb ob neb Ab mb cb kyb bob wsb ka nda aa na oa nea Aa ma ca kya boa wsa) (x : Int) : Kz W (U.setCell ⟨gz, 7, none⟩ (.int .u64 x)) ga gb gz ka nda aa na oa nea Aa ma ca kya boa wsa kb ndb ab nb ob neb Ab mb cb kyb bob wsb ka nda aa na oa nea Aa ma ca x boa wsa := ⟨h.k.set _ _, heap_setCell_same U gz 7 _ _ _ h.z, h.lset _ _, h.n⟩
theorem Kz.set8 (h : Kz W U ga gb gz ka nda aa na oa nea Aa ma ca kya boa wsa kb ndb ab nb ob neb Ab mb cb kyb bob wsb ka nda aa na oa nea Aa ma ca kya boa wsa) (x : Int) : Kz W (U.setCell ⟨gz, 8, none⟩ (.int .i64 x)) ga gb gz ka nda aa na oa nea Aa ma ca kya boa wsa kb ndb ab nb ob neb Ab mb cb kyb bob wsb ka nda aa na oa nea Aa ma ca kya x wsa := ⟨h.k.set _ _, heap_setCell_same U gz 8 _ _ _ h.z, h.lset _ _, h.n⟩
theorem Kz.words {w2 : World} {v : Value} {n : Nat} {ws' : List Nat} (h : Kz W U ga gb gz ka nda aa na oa nea Aa ma ca kya boa wsa kb ndb ab nb ob neb Ab mb cb kyb bob wsb ka nda aa na oa nea Aa ma ca kya boa wsa) (hb : Below U.heap.size U w2) (hn : ws'.length = n) (hm : n ≤ 4294967296) (hown : w2.ownsRow U.heap.size 22 1 v n (ws'.map u64v)) :
    ∃ A2 c2, v = .slice A2 n c2 ∧ Kz W (w2.setCell ⟨gz, 6, none⟩ (.slice A2 n c2)) ga gb gz ka nda aa na oa nea Aa ma ca kya boa wsa kb ndb ab nb ob neb Ab mb cb kyb bob wsb ka nda aa na oa nea A2 n c2 kya boa ws' ∧ w2.frozen? ⟨gz, 6, none⟩ = false ∧ w2.cell? ⟨gz, 6, none⟩ = some (.slice Aa ma ca) := by
  obtain ⟨A2, c2, rfl, _, _, _⟩ := own_form hn hown
  have hz := (hb.block gz h.k.ord.2.2.2).trans h.z
  have ho := owns_on (w' := w2.setCell ⟨gz, 6, none⟩ (.slice A2 n c2)) hown (fun g hg _ => Below.heap_setCell w2 ⟨gz, 6, none⟩ _ g (by have := h.k.ord; show g ≠ gz; omega))
  obtain ⟨A3, c3, e, _, _, hL⟩ := own_form hn ho
  cases e
  exact ⟨A2, c2, rfl, ⟨(h.k.on (hb.mono (Nat.le_of_lt h.k.ord.2.2.2))).set _ _, heap_setCell_same w2 gz 6 _ _ _ hz, hL, hn, hm⟩, frozen_of_row w2 gz 6 _ _ hz, (cell_of_row w2 gz 6 _ _ _ hz).trans rfl⟩
end
end Go.Proofs.Ytkkeamlpfpcbfaa.Vq

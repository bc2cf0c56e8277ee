/-
  The program's copies of words and verbs.
-/
import Derived.Test.YtpehhldfegjajaaTa
import Derived.Test.YtpehhldfegjajaaNc
import Derived.Test.YtpehhldfegjajaaVe
namespace Go.Proofs.Ytpehhldfegjajaa.Tb
open Go.ChangeShapes Go.WideShapes Go.ChangeAt Go.RowKit Ga Gb Na Nb Nc Va Ve Ta
set_option linter.unusedVariables false
set_option linter.unusedSimpArgs false
set_option maxHeartbeats 4000000
set_option maxRecDepth 100000
/-- Words that a copy has laid: a row of its own, from block B on. -/
def Own (B : Nat) (w : World) (A : Option Addr) (l : List Nat) : Prop := 0 < l.length → ∃ g c, A = some ⟨g, 0, none⟩ ∧ B ≤ g ∧ Row w g l.length c l
theorem Own.lies {B : Nat} {w : World} {A : Option Addr} {l : List Nat} (h : Own B w A l) : Lies .u64 w w.heap.size A l := fun hp => by
  obtain ⟨g, c, e, hb, hr⟩ := h hp
  subst e
  exact hr.lies hp
theorem Own.on {B : Nat} {w w' : World} {A : Option Addr} {l : List Nat} (h : Own B w A l) (hk : ∀ g, B ≤ g → g < w.heap.size → w'.heap[g]? = w.heap[g]?) : Own B w' A l := fun hp => by
  obtain ⟨g, c, e, hb, hr⟩ := h hp
  exact ⟨g, c, e, hb, hr.keep (hk g hb hr.size)⟩
theorem Own.more {B B' : Nat} {w : World} {A : Option Addr} {l : List Nat} (h : Own B w A l) (hb : B' ≤ B) : Own B' w A l := fun hp => by
  obtain ⟨g, c, e, hg, hr⟩ := h hp
  exact ⟨g, c, e, Nat.le_trans hb hg, hr⟩
theorem own_of {B n c : Nat} {w : World} {A : Option Addr} {l : List Nat} (h : w.ownsRow B 53 1 (.slice A n c) n (l.map u64v)) (hl : l.length = n) (hx : ∀ x ∈ l, x < 18446744073709551616) : Own B w A l := fun hp => by
  subst hl
  have h0 := h
  rcases h.2 with ⟨_, h0⟩ | ⟨g, cap, cur, e, hb, _⟩
  · omega
  · injection e with e1 e2 e3
    subst e1
    exact ⟨g, c, rfl, hb, owns_base h0, rfl, hx⟩
theorem own_cap {B n c : Nat} {w : World} {e : TypeId} {sz : Nat} {A : Option Addr} {xs : List Value} (h : w.ownsRow B e sz (.slice A n c) n xs) : n ≤ c ∧ c ≤ 9223372036854775807 := by
  rcases h.2 with ⟨h', h0⟩ | ⟨g, cap, cur, h', _, _, h1, h2, _⟩
  · simp only [Value.slice.injEq] at h'
    omega
  · simp only [Value.slice.injEq] at h'
    unfold maxLen at h2
    omega
theorem nil_yes (n c : Nat) (w : World) : (binOp BinOp.eql 54 (.slice none n c) (.slice none 0 0)).run Try.prog w = .ok (.bool true) w := by kernel_rfl
theorem cloneW (A : Option Addr) (l : List Nat) (n c : Nat) (w : World) (hn : l.length = n) (h2 : n ≤ 4294967296) (hb : Lk (∀ x ∈ l, x < 18446744073709551616)) (hc : Lk (Lies .u64 w w.heap.size A l)) :
    Calls Try.prog 81 #[.slice A n c] w fun e w' => ∃ (A2 : Option Addr) (c2 : Nat), e = .returned (.slice A2 n c2) ∧ Lk (Own w.heap.size w' A2 l) ∧ Lk (Below w.heap.size w w') ∧ Lk (n ≤ c2 ∧ c2 ≤ 9223372036854775807) := by
  obtain ⟨i0, hi, hz0, hz1, hz2⟩ := info_parts u64info
  rcases A with _ | ad
  · have h0 : l = [] := by
      rcases Nat.eq_zero_or_pos l.length with h | h
      · exact List.eq_nil_of_length_eq_zero h
      · obtain ⟨ad, e, _⟩ := hc.out h
        cases e
    subst h0
    obtain rfl : 0 = n := hn
    have hnil := nil_yes 0 c
    go_enter Try.func81, Try.ntmps81
    go_wp2
    go_ret
    exact ⟨none, 0, rfl, ⟨fun h => absurd h (by simp)⟩, ⟨Below.refl _ w⟩, ⟨by omega⟩⟩
  · have hnil := slice_ne_nil ad n c
    have HL : Lk (w.alloc (.cells #[] 53) |>.ownsRow w.heap.size 53 1 (.slice (some ⟨w.heap.size, 0, none⟩) 0 0) 0 []) := ⟨World.ownsRow_lit w #[] 0 (Nat.le_refl _) (by decide) rfl⟩
    have HB := Lk.mk ((Below.refl _ w).alloc (Nat.le_refl _) (.cells #[] 53))
    have HF := Lk.mk (From.words (hc.out.below HB.out))
    rw [hn] at HF
    have HO := Lk.mk (words_one l)
    clear hc
    go_enter Try.func81, Try.ntmps81
    go_wp2_with (first
      | (at_builtin; refine wpList_onto rfl _ _ 54 rfl w.heap.size 53 i0 (.int .u64 0) 1 8 Try.underlying54 hi hz0 hz1 hz2 rfl (by decide) _ _ _ rfl HL.out (some ad) n c (l.map u64v) rfl HF.out HO.out ?c3 ?c4 ?c5 ?_))
    case c3 => unfold maxLen; omega
    case c4 => omega
    case c5 => simp
    intro v1 w1 hown hg
    have HW : Lk (Below w.heap.size w w1) := ⟨HB.out.grown hg (by simp) (fun k hk => by cases hk; exact Nat.le_refl _)⟩
    obtain ⟨A2, c2, rfl⟩ : ∃ A2 c2, v1 = .slice A2 n c2 := by simpa using own_slice hown
    have HR := Lk.mk (own_of (n := n) (by simpa using hown) hn hb.out)
    have HC := Lk.mk (own_cap (by simpa using hown))
    clear hown hg
    go_wp2
    go_ret
    exact ⟨A2, c2, rfl, HR, HW, HC⟩
section
variable (k nd a n o ne : Int) (A : Option Addr) (l c : Nat) (ky bo : Int) (s : List Nat) (w : World)
theorem clone_any (hs : s.length = l) (hl : l ≤ 4294967296) (hb : Lk (∀ x ∈ s, x < 18446744073709551616)) (hc : Lk (Lies .u64 w w.heap.size A s)) :
    Calls Try.prog 73 #[(Value.agg #[Value.int IntKind.i64 k, Value.int IntKind.i64 nd, Value.int IntKind.i64 a, Value.int IntKind.i64 n, Value.int IntKind.u64 o, Value.int IntKind.u64 ne, Value.slice A l c, Value.int IntKind.u64 ky, Value.int IntKind.i64 bo])] w fun e w' => ∃ (A2 : Option Addr) (c2 : Nat), e = .returned (Value.agg #[Value.int IntKind.i64 k, Value.int IntKind.i64 nd, Value.int IntKind.i64 a, Value.int IntKind.i64 n, Value.int IntKind.u64 o, Value.int IntKind.u64 ne, Value.slice A2 l c2, Value.int IntKind.u64 ky, Value.int IntKind.i64 bo]) ∧ Lk (Own w.heap.size w' A2 s) ∧ Lk (Below w.heap.size w w') ∧ Lk (l ≤ c2 ∧ c2 ≤ 9223372036854775807) := by
  have HB1 := Lk.mk ((Below.refl _ w).alloc (Nat.le_refl _) (.cells #[Value.int IntKind.i64 k, Value.int IntKind.i64 nd, Value.int IntKind.i64 a, Value.int IntKind.i64 n, Value.int IntKind.u64 o, Value.int IntKind.u64 ne, Value.slice A l c, Value.int IntKind.u64 ky, Value.int IntKind.i64 bo] 56))
  have HZ1 := Lk.mk (heap_alloc_new w (.cells #[Value.int IntKind.i64 k, Value.int IntKind.i64 nd, Value.int IntKind.i64 a, Value.int IntKind.i64 n, Value.int IntKind.u64 o, Value.int IntKind.u64 ne, Value.slice A l c, Value.int IntKind.u64 ky, Value.int IntKind.i64 bo] 56))
  have hs1 : (w.alloc (.cells #[Value.int IntKind.i64 k, Value.int IntKind.i64 nd, Value.int IntKind.i64 a, Value.int IntKind.i64 n, Value.int IntKind.u64 o, Value.int IntKind.u64 ne, Value.slice A l c, Value.int IntKind.u64 ky, Value.int IntKind.i64 bo] 56)).heap.size = w.heap.size + 1 := by simp
  go_enter Try.func73, Try.ntmps73
  go_upto_region 1 with fail
  generalize w.alloc _ = wA at *
  have HB2 := Lk.mk ((Below.refl _ wA).alloc (Nat.le_refl _) (.cells #[Value.int IntKind.i64 0, Value.int IntKind.i64 0, Value.int IntKind.i64 0, Value.int IntKind.i64 0, Value.int IntKind.u64 0, Value.int IntKind.u64 0, Value.slice none 0 0, Value.int IntKind.u64 0, Value.int IntKind.i64 0] 56))
  have HY := Lk.mk (heap_alloc_new wA (.cells #[Value.int IntKind.i64 0, Value.int IntKind.i64 0, Value.int IntKind.i64 0, Value.int IntKind.i64 0, Value.int IntKind.u64 0, Value.int IntKind.u64 0, Value.slice none 0 0, Value.int IntKind.u64 0, Value.int IntKind.i64 0] 56))
  rw [hs1] at HY
  have HZ2 := Lk.mk ((HB2.out.block _ (Array.getElem?_eq_some_iff.1 HZ1.out).1).trans HZ1.out)
  have HBW := Lk.mk (HB1.out.trans (HB2.out.mono HB1.out.size))
  clear HB1 HB2 HZ1 hs1
  generalize wA.alloc _ = W at *
  have b6 := (cell_of_row W w.heap.size 6 _ _ _ HZ2.out).trans rfl
  go_upto_region 2 with (first
    | (go_at_call 81; refine (cloneW A s l c W hs hl hb ⟨hc.out.on_ HBW.out⟩).mono ?_; rintro e w3 ⟨A2, c2, rfl, HO, HB3, HC⟩; have HZ3 := Lk.mk ((HB3.out.block _ (Array.getElem?_eq_some_iff.1 HZ2.out).1).trans HZ2.out); have HY3 := Lk.mk ((HB3.out.block _ (Array.getElem?_eq_some_iff.1 HY.out).1).trans HY.out); have hf3 := frozen_of_row w3 w.heap.size 6 _ _ HZ3.out; have hc3 := (cell_of_row w3 w.heap.size 6 _ _ _ HZ3.out).trans rfl))
  have HZ4 := Lk.mk (show (w3.setCell ⟨w.heap.size, 6, none⟩ (.slice A2 l c2)).heap[w.heap.size]? = some (.cells #[Value.int IntKind.i64 k, Value.int IntKind.i64 nd, Value.int IntKind.i64 a, Value.int IntKind.i64 n, Value.int IntKind.u64 o, Value.int IntKind.u64 ne, Value.slice A2 l c2, Value.int IntKind.u64 ky, Value.int IntKind.i64 bo] 56 (0, 0)) from heap_setCell_same w3 w.heap.size 6 _ _ _ HZ3.out)
  have HY4 := Lk.mk ((Below.heap_setCell w3 ⟨w.heap.size, 6, none⟩ (.slice A2 l c2) (w.heap.size + 1) (by show w.heap.size + 1 ≠ w.heap.size; omega)).trans HY3.out)
  have hWs : w.heap.size + 1 < W.heap.size := (Array.getElem?_eq_some_iff.1 HY.out).1
  have HO4 := Lk.mk (HO.out.on (w' := w3.setCell ⟨w.heap.size, 6, none⟩ (.slice A2 l c2)) (fun g hg _ => Below.heap_setCell w3 ⟨w.heap.size, 6, none⟩ _ g (by show g ≠ w.heap.size; omega)))
  have HB4 := Lk.mk ((HBW.out.trans (HB3.out.mono HBW.out.size)).setCell (p := ⟨w.heap.size, 6, none⟩) (Nat.le_refl _) (.slice A2 l c2))
  clear HZ3 HY3 hf3 hc3 b6 HO HB3 HZ2 HY HBW hc
  generalize w3.setCell _ _ = w4 at *
  obtain ⟨b0, b1, b2, b3, b4, b5, b6, b7, b8⟩ := Bx.of_heap HZ4.out
  obtain ⟨y0, y1, y2, y3, y4, y5, y6, y7, y8⟩ := Bx.of_heap HY4.out
  have f0 := frozen_of_row w4 (w.heap.size + 1) 0 _ _ HY4.out
  have f1 := frozen_of_row w4 (w.heap.size + 1) 1 _ _ HY4.out
  have f2 := frozen_of_row w4 (w.heap.size + 1) 2 _ _ HY4.out
  have f3 := frozen_of_row w4 (w.heap.size + 1) 3 _ _ HY4.out
  have f4 := frozen_of_row w4 (w.heap.size + 1) 4 _ _ HY4.out
  have f5 := frozen_of_row w4 (w.heap.size + 1) 5 _ _ HY4.out
  have f6 := frozen_of_row w4 (w.heap.size + 1) 6 _ _ HY4.out
  have f7 := frozen_of_row w4 (w.heap.size + 1) 7 _ _ HY4.out
  have f8 := frozen_of_row w4 (w.heap.size + 1) 8 _ _ HY4.out
  go_wp2
  have HFz := Lk.mk (fin_z (wr := w4) (g := w.heap.size + 1) (k := k) (nd := nd) (a := a) (n := n) (o := o) (ne := ne) (V := .slice A2 l c2) (ky := ky) (bo := bo) HY4.out)
  exact bodyPost_ret (results_cell_row rfl _ _ (w.heap.size + 1) 56 _ (0, 0) _ rfl HFz.out Try.underlying56 rfl (by kernel_rfl)) rfl ⟨A2, c2, rfl, ⟨(HO4.out.on (w' := fin9 w4 (w.heap.size + 1) k nd a n o ne (.slice A2 l c2) ky bo) (fun g hg _ => fin_o (by omega))).more (by omega)⟩, ⟨fin_b HB4.out (by omega)⟩, HC⟩
end
end Go.Proofs.Ytpehhldfegjajaa.Tb

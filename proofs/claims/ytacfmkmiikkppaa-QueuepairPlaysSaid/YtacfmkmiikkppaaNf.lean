/-
  Contracts of the reference's nodes, and of SameWords at equal words.
-/
import Derived.Test.YtacfmkmiikkppaaNd
namespace Go.Proofs.Ytacfmkmiikkppaa.Nf
open Go.ChangeShapes Go.WideShapes Go.ChangeAt Go.RowKit Ga Na Nb Nc Nd_
set_option linter.unusedVariables false
set_option linter.unusedSimpArgs false
set_option maxRecDepth 10000

/-- The reference's node. -/
abbrev RN := Nd 72
theorem refBoot_any (b g n cap : Nat) (ws : List Nat) (up : Bool) (w : World) (h : Lk (RN w b g n cap ws up)) (h2 : 2 ≤ n) :
    Calls Try.prog 72 #[.pointer (some ⟨b, 0, none⟩)] w fun e w' => e = .returned (.int .u64 (ws.getD 1 0 : Nat)) ∧ w = w' := by
  have hc := h.out.c0
  have h1 := h.out.row.cell (j := 1) (by omega)
  go_enter Try.func72, Try.ntmps72
  go_wp2
  go_ret
  exact ⟨rfl, rfl⟩
theorem refBack_any (b g n cap : Nat) (ws : List Nat) (up : Bool) (w : World) (HN : Lk (RN w b g n cap ws up)) (h2 : 2 ≤ n) :
    Calls Try.prog 40 #[.pointer (some ⟨b, 0, none⟩)] w fun e w' => e = .returned (.bool (canBack up (ws.getD 1 0))) ∧ Lk (RN w' b g n cap (backW up ws) (up || canBack up (ws.getD 1 0))) ∧ Lk (Only (fun k => k = b ∨ k = g) w w') := by
  have hc := HN.out.c0
  have hu := HN.out.c1
  cases up with
  | true =>
    go_enter Try.func40, Try.ntmps40
    go_wp2
    go_ret
    exact ⟨rfl, HN, ⟨Only.refl _ _⟩⟩
  | false =>
    have C2 := refBoot_any b g n cap ws false w HN h2
    have hx := getD_lt HN.out.row.lt (show 1 < ws.length by have := HN.out.row.len; omega)
    have H1 : Lk (RN (w.setCell ⟨b, 1, none⟩ (.bool true)) b g n cap ws true) := ⟨HN.out.setUp true⟩
    have h0 := H1.out.c0
    have h1 := H1.out.row.cell (j := 1) (by omega)
    have hf := HN.out.f1 1
    have hf2 := HN.out.row.free 1
    unfold backW
    generalize hX : ws.getD 1 0 = x at *
    clear hX
    by_cases hb : x < 31
    · have e : canBack false x = true := by simp [canBack, hb]
      rw [e]
      have H2 : Lk (RN ((w.setCell ⟨b, 1, none⟩ (.bool true)).setCell ⟨g, 1, none⟩ (.int .u64 ((x : Int) + 1))) b g n cap (ws.set 1 (x + 1)) true) := ⟨H1.out.set 1 (x + 1) (by omega)⟩
      have HO : Lk (Only (fun k => k = b ∨ k = g) w ((w.setCell ⟨b, 1, none⟩ (.bool true)).setCell ⟨g, 1, none⟩ (.int .u64 ((x : Int) + 1)))) :=
        ⟨Only.setCell (S := fun k => k = b ∨ k = g) (p := ⟨g, 1, none⟩) (Only.setCell (S := fun k => k = b ∨ k = g) (p := ⟨b, 1, none⟩) (Only.refl _ w) (.inl (.inl rfl)) _) (.inl (.inr rfl)) _⟩
      go_enter Try.func40, Try.ntmps40
      go_wp2_with (first | (go_at_call 72; refine C2.mono ?_; rintro e w' ⟨rfl, rfl⟩))
      go_ret
      exact ⟨rfl, H2, HO⟩
    · have e : canBack false x = false := by simp [canBack, hb]
      rw [e]
      go_enter Try.func40, Try.ntmps40
      go_wp2_with (first | (go_at_call 72; refine C2.mono ?_; rintro e w' ⟨rfl, rfl⟩))
      go_ret
      exact ⟨rfl, HN, ⟨Only.refl _ _⟩⟩
theorem owns_more {w : World} {base base' : Nat} {e : TypeId} {sz n g cap : Nat} {xs : List Value} (hb : base ≤ g) (h : w.ownsRow base' e sz (.slice (some ⟨g, 0, none⟩) n cap) n xs) : w.ownsRow base e sz (.slice (some ⟨g, 0, none⟩) n cap) n xs := by
  refine ⟨h.1, ?_⟩
  rcases h.2 with ⟨h', _⟩ | ⟨g', cap', cur, h', h3, h4⟩
  · simp at h'
  · have h'' := h'
    simp only [Value.slice.injEq, Option.some.injEq, Addr.mk.injEq, and_true, true_and] at h''
    exact .inr ⟨g', cap', cur, h', by omega, h4⟩
theorem refNew_any (L : Nat) (w : World) (h1 : 1 ≤ L) (h2 : L ≤ 256) :
    Calls Try.prog 32 #[.int .i64 L] w fun e w' => ∃ g : Nat, e = .returned (.agg #[.slice (some ⟨g, 0, none⟩) (8 * L) (8 * L), .bool true]) ∧ Lk (w.heap.size ≤ g) ∧ Lk (Row w' g (8 * L) (8 * L) (List.replicate (8 * L) 0)) ∧ Lk (Below w.heap.size w w') := by
  obtain ⟨i0, hi, hz0, hz1, hz2⟩ := info_parts u64info
  obtain ⟨n, hn⟩ : ∃ n, 8 * L = n := ⟨_, rfl⟩
  have hm : (L : Int) * 8 = n := by omega
  go_enter Try.func32, Try.ntmps32
  go_wp2_with (first
    | (at_make; refine wpList_make_full _ rfl _ _ 49 rfl w.heap.size 33 i0 (.int .u64 0) 1 Try.underlying49 hi hz0 hz1 .i64 .i64 _ _ n rfl rfl (by first | rfl | exact hm) (by first | rfl | exact hm) ?b2 ?b3 (by simp) ?_))
  case b2 => rw [hz2]; omega
  case b3 => unfold maxLen; omega
  intro w1 hown hgrow
  obtain ⟨g, hg⟩ : ∃ g, w.heap.size = g := ⟨_, rfl⟩
  have hb0 : w1.heap[g]? = some (.cells #[.slice none 0 0, .bool false] 72 (0, 0)) := by
    rw [← hg]; exact (hgrow.block w.heap.size (by simp) (by simp)).trans (heap_alloc_new w _)
  have HR0 : Row w1 (w.heap.size + 1) n n (List.replicate n 0) := by
    refine Row.made (w := w.alloc (.cells #[.slice none 0 0, .bool false] 72)) (owns_more (by simp) (by simpa [Value.cells] using hown))
  have HW0 : Below w.heap.size w w1 := ((Below.refl _ w).alloc (Nat.le_refl _) _).grown hgrow (by simp) (fun k hk => by cases hk)
  have hb1 := heap_setCell_same w1 g 0 _ _ (.slice (some ⟨g + 1, 0, none⟩) n n) hb0
  have hb2 := heap_setCell_same _ g 1 _ _ (.bool true) hb1
  have hc0 := (cell_of_row w1 g 0 _ _ _ hb0).trans rfl
  have hc1 := (cell_of_row w1 g 1 _ _ _ hb0).trans rfl
  have hf := frozen_of_row w1 g 0 _ _ hb0
  have hf1 := frozen_of_row w1 g 1 _ _ hb0
  rw [hg] at HR0 HW0
  have HR := HR0.keep (((Below.heap_setCell (w1.setCell ⟨g, 0, none⟩ (.slice (some ⟨g + 1, 0, none⟩) n n)) ⟨g, 1, none⟩ (.bool true) (g + 1) (by simp))).trans (Below.heap_setCell w1 ⟨g, 0, none⟩ (.slice (some ⟨g + 1, 0, none⟩) n n) (g + 1) (by simp)))
  have HW := (HW0.setCell (p := ⟨g, 0, none⟩) (Nat.le_refl _) (.slice (some ⟨g + 1, 0, none⟩) n n)).setCell (p := ⟨g, 1, none⟩) (Nat.le_refl _) (.bool true)
  have HX : Lk (_ ∧ _ ∧ _) := ⟨hb2, HR, HW⟩
  have HG : Lk (w.heap.size = g) := ⟨hg⟩
  clear HR0 HW0 hown hgrow hb2 HR HW hb1 hb0
  rw [hg]
  clear hg
  go_wp2
  have hg := HG.out
  exact bodyPost_ret (results_cell_row rfl _ _ g 72 _ (0, 0) _ rfl HX.out.1 Try.underlying72 rfl (by kernel_rfl)) rfl ⟨g + 1, by rw [hn]; rfl, ⟨by omega⟩, ⟨by rw [hn]; exact HX.out.2.1⟩, ⟨by rw [hg]; exact HX.out.2.2⟩⟩

/-- A region that reads two words by their addresses. -/
theorem same_any (ad ad2 : Addr) (l : List Nat) (n c c2 : Nat) (w : World) (hn : n ≤ 4294967296) (H1 : Lk (∀ i, i < n → w.cell? (ad.add i) = some (.int .u64 ((l.getD i 0 : Nat) : Int)))) (H2 : Lk (∀ i, i < n → w.cell? (ad2.add i) = some (.int .u64 ((l.getD i 0 : Nat) : Int)))) :
    Calls Try.prog 22 #[.slice (some ad) n c, .slice (some ad2) n c2] w fun e w' => e = .returned (.bool true) ∧ Lk (Below w.heap.size w w') := by
  go_enter Try.func22, Try.ntmps22
  go_wp2
  have H0 : Lk (Below w.heap.size w w) := ⟨Below.refl _ _⟩
  go_loopw [5] (fun i wr => ∃ k : Nat, k ≤ n ∧ i = .int .i64 k ∧ Lk (Below w.heap.size w wr)) (fun i _ => n - (intOf i).toNat)
  case atStart => exact ⟨0, Nat.zero_le _, rfl, H0⟩
  case round =>
    clear H0
    obtain ⟨k, hk, rfl, HB⟩ := hrel
    by_cases hlt : k < n
    · have c1 := (HB.out.cell (block_lt_of_cell (H1.out k hlt))).trans (H1.out k hlt)
      have c2 := (HB.out.cell (block_lt_of_cell (H2.out k hlt))).trans (H2.out k hlt)
      have HB2 : Lk (Below w.heap.size w _) := ⟨HB.out.drew⟩
      generalize l.getD k 0 = x at *
      go_wp2
      go_region
      go_wp2
      go_roundw
      case rel => exact ⟨k + 1, by omega, by go_num, HB2⟩
      case measure => simp [intOf]; omega
    · obtain rfl : n = k := by omega
      go_wp2
      go_ret
      exact ⟨rfl, HB⟩
end Go.Proofs.Ytacfmkmiikkppaa.Nf

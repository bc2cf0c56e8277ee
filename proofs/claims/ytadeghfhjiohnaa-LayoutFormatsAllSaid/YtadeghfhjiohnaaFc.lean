/-
  A fabric in memory: New.
-/
import Derived.Test.YtadeghfhjiohnaaFb
import Derived.Test.YtadeghfhjiohnaaTi
namespace Go.Proofs.Ytadeghfhjiohnaa.Fc
open Go.ChangeShapes Go.WideShapes Go.ChangeAt Go.RowKit Ga Gb Na Nb Va Qb Qd Ta Tc Th Fa Fb
set_option linter.unusedVariables false
set_option linter.unusedSimpArgs false
set_option maxHeartbeats 1000000
set_option maxRecDepth 100000
theorem ninfo : (Try.prog.info? 37).map (fun i => (i.zero, i.size, i.bytes)) = some (some (.pointer none), 1, 8) := by kernel_rfl
theorem cinfo : (Try.prog.info? 90).map (fun i => (i.zero, i.size, i.bytes)) = some (some (.agg #[.bool false, .int .i64 0, .slice none 0 0, .slice none 0 0, .int .i64 0, .int .i64 0]), 6, 80) := by kernel_rfl
def ncs (p : Nat × Nat) : List Value := [.pointer (some ⟨p.1, 0, none⟩)]
abbrev PN0 (w : World) (L : Nat) (p : Nat × Nat) : Prop := PN w p.1 p.2 (8 * L) (8 * L) (List.replicate (8 * L) 0) true
def ascN (p q : Nat × Nat) : Prop := p.1 < q.1 ∧ p.1 < q.2 ∧ p.2 < q.1 ∧ p.2 < q.2
/-- The memory nodes of a fabric under construction. -/
structure N1 (B : Nat) (w : World) (L : Nat) (nds : List (Nat × Nat)) (NV : Value) : Prop where
  row : w.ownsRow B 37 1 NV nds.length (nds.flatMap ncs)
  nodes : ∀ p ∈ nds, PN0 w L p
  asc : nds.Pairwise ascN
  low : ∀ p ∈ nds, B ≤ p.1 ∧ B ≤ p.2
def fbc (L : Int) (NV CV OV : Value) : Obj := .cells #[.int .i64 L, NV, CV, OV] 74 (0, 0)
section
variable {B : Nat} {w w2 w4 w' : World} {L fb b g : Nat} {nds : List (Nat × Nat)} {NV CV OV v' : Value} {S : Nat → Prop}
theorem N1.nb (h : N1 B w L nds NV) : ∀ k, NV.ownBlock = some k → (∀ p ∈ nds, k ≠ p.1 ∧ k ≠ p.2) := fun k hk p hp => by
  obtain ⟨cur, hc⟩ := (Tl.of_own h.row).typed k hk
  have hn := h.nodes p hp
  obtain ⟨cg, hg⟩ := Row.typed hn.row
  exact ⟨ne_typed hc hn.node (by decide), ne_typed hc hg (by decide)⟩
theorem N1.on (h : N1 B w L nds NV) (ho : Only S w w') (hv : ∀ k, NV.ownBlock = some k → ¬ S k) (hs : ∀ p ∈ nds, ¬ S p.1 ∧ ¬ S p.2) : N1 B w' L nds NV :=
  ⟨owns_block h.row (fun k hk => ho.block k (h.row.lt k hk).2 (hv k hk)), fun p hp => (h.nodes p hp).on ho (hs p hp).1 (hs p hp).2, h.asc, h.low⟩
theorem N1.below (h : N1 B w L nds NV) (hb : Below w.heap.size w w') : N1 B w' L nds NV := h.on (S := fun _ => False) (Only.of_below hb) (fun _ _ h => h) (fun _ _ => ⟨fun h => h, fun h => h⟩)
theorem N1.lt (h : N1 B w L nds NV) : ∀ p ∈ nds, p.1 < w.heap.size ∧ p.2 < w.heap.size := fun p hp => ⟨(h.nodes p hp).size, (h.nodes p hp).row.size⟩
theorem N1.more (h : N1 B w L nds NV) (hz : w.heap[fb]? = some (fbc L NV CV OV)) (hN : PN0 w L (b, g)) (hlt : ∀ p ∈ nds, ascN p (b, g)) (hB : B ≤ b ∧ B ≤ g) (hnv : ∀ k, NV.ownBlock = some k → k ≠ b ∧ k ≠ g) (hg : w.grownBy w4 NV.ownBlock) (hown : w4.ownsRow B 37 1 v' (nds.length + 1) (nds.flatMap ncs ++ ncs (b, g))) :
    N1 B (w4.setCell ⟨fb, 1, none⟩ v') L (nds ++ [(b, g)]) v' ∧ (w4.setCell ⟨fb, 1, none⟩ v').heap[fb]? = some (fbc L v' CV OV) ∧ w4.cell? ⟨fb, 1, none⟩ = some NV ∧ w4.frozen? ⟨fb, 1, none⟩ = false := by
  have hfn : ∀ k, NV.ownBlock = some k → k ≠ fb := fun k hk => by
    obtain ⟨cur, hc⟩ := (Tl.of_own h.row).typed k hk
    exact ne_typed hc hz (by decide)
  have hO : Only (fun k => NV.ownBlock = some k) w w4 := (Only.refl _ w).grown hg (fun k hk => .inl hk)
  have hfl : fb < w.heap.size := (Array.getElem?_eq_some_iff.1 hz).1
  have hz4 := (hO.block fb hfl (fun hh => hfn fb hh rfl)).trans hz
  have hv4 : ∀ k, v'.ownBlock = some k → k ≠ fb := fun k hk => by
    obtain ⟨cur, hc⟩ := (Tl.of_own hown).typed k hk
    exact ne_typed hc hz4 (by decide)
  have hO2 : Only (fun k => k = fb) w4 (w4.setCell ⟨fb, 1, none⟩ v') := (Only.refl (fun k => k = fb) w4).setCell (p := ⟨fb, 1, none⟩) (.inl rfl) _
  have hfp : ∀ p, PN0 w L p → p.1 ≠ fb ∧ p.2 ≠ fb := fun p hp => by
    obtain ⟨cg, hgt⟩ := Row.typed hp.row
    exact ⟨ne_typed hp.node hz (by decide), ne_typed hgt hz (by decide)⟩
  refine ⟨⟨?_, fun p hp => ?_, ?_, fun p hp => ?_⟩, heap_setCell_same w4 fb 1 _ _ _ hz4, (cell_of_row w4 fb 1 _ _ _ hz4).trans rfl, frozen_of_row w4 fb 1 _ _ hz4⟩
  · have := owns_block (w' := w4.setCell ⟨fb, 1, none⟩ v') hown (fun k hk => hO2.block k (hown.lt k hk).2 (hv4 k hk))
    simpa using this
  · rcases List.mem_append.1 hp with h1 | h1
    · exact ((h.nodes p h1).on hO (fun hh => (h.nb _ hh p h1).1 rfl) (fun hh => (h.nb _ hh p h1).2 rfl)).on hO2 (hfp p (h.nodes p h1)).1 (hfp p (h.nodes p h1)).2
    · rw [List.mem_singleton] at h1
      subst h1
      exact (hN.on hO (fun hh => (hnv _ hh).1 rfl) (fun hh => (hnv _ hh).2 rfl)).on hO2 (hfp _ hN).1 (hfp _ hN).2
  · rw [List.pairwise_append]
    exact ⟨h.asc, by simp, fun x hx y hy => by rw [List.mem_singleton] at hy; rw [hy]; exact hlt x hx⟩
  · rcases List.mem_append.1 hp with h1 | h1
    · exact h.low p h1
    · rw [List.mem_singleton] at h1
      subst h1
      exact hB
end
def zeros6 : List Value := [.bool false, .int .i64 0, .slice none 0 0, .slice none 0 0, .int .i64 0, .int .i64 0]
def born (LV : Value) : List Value := [.bool true, .int .i64 1, LV, .slice none 0 0, .int .i64 0, .int .i64 0]
/-- A fabric of which c compute nodes have started. -/
structure C1 (B : Nat) (w : World) (fb L n m cv ccap : Nat) (nds : List (Nat × Nat)) (NV : Value) (c : Nat) (lv : Nat → Value) (bss : Nat → List Nat) (bs : Nat → Nat) : Prop where
  z : w.heap[fb]? = some (fbc L NV (.slice (some ⟨cv, 0, none⟩) m ccap) (.slice none 0 0))
  n1 : N1 B w L nds NV
  nl : nds.length = n
  crow : SR 90 6 w cv m ccap (fun i => if i < c then born (lv i) else zeros6)
  lks : ∀ i, i < c → Lks (bs i) w (lv i) i 1 (bss i) ∧ (bss i).length = n ∧ (∀ g, (lv i).ownBlock = some g → g < bs (i + 1)) ∧ (∀ b ∈ bss i, b < bs (i + 1)) ∧ bs i ≤ bs (i + 1)
  low : B ≤ fb ∧ B ≤ cv ∧ (∀ i, i ≤ c → cv < bs i)
theorem newf_ok (n m L : Nat) (w : World) (hn : 1 ≤ n ∧ n ≤ 5) (hm : 1 ≤ m ∧ m ≤ 6) (hL : 1 ≤ L ∧ L ≤ 256) :
    Calls Try.prog 39 #[.int .i64 n, .int .i64 m, .int .i64 L] w fun e w' => ∃ (fb cv ccap : Nat) (nds : List (Nat × Nat)) (NV : Value) (lv : Nat → Value) (bss : Nat → List Nat) (bs : Nat → Nat), e = .returned (.tuple #[.pointer (some ⟨fb, 0, none⟩), .int .i64 0]) ∧ Lk (C1 w.heap.size w' fb L n m cv ccap nds NV m lv bss bs) ∧ Lk (Below w.heap.size w w') := by
  obtain ⟨i0, hi0, hz0, hz1, hz2⟩ := info_parts ninfo
  have W1 := within_f n 1 5 w
  have W2 := within_f m 1 6 w
  simp only [decide_eq_true (show (1 : Int) ≤ n ∧ (n : Int) ≤ 5 by omega)] at W1
  simp only [decide_eq_true (show (1 : Int) ≤ m ∧ (m : Int) ≤ 6 by omega)] at W2
  go_enter Try.func39, Try.ntmps39
  go_upto_region 3 with (first
    | (go_at_call 56; (with_reducible refine W1.mono ?_); rintro e w' ⟨rfl, rfl⟩)
    | (go_at_call 56; (with_reducible refine W2.mono ?_); rintro e w' ⟨rfl, rfl⟩))
  clear W1 W2
  go_upto_region 4 with fail
  have hBa := (Below.refl _ w).alloc (Nat.le_refl _) (.cells #[.int .i64 L, .slice none 0 0, .slice none 0 0, .slice none 0 0] 74)
  have HZ1 := Lk.mk (heap_alloc_new w (.cells #[.int .i64 L, .slice none 0 0, .slice none 0 0, .slice none 0 0] 74))
  have HB1 := Lk.mk hBa
  clear hBa
  generalize w.alloc _ = w1 at *
  generalize hfb : w.heap.size = B at *
  have HN1 := Lk.mk (show N1 B w1 L [] (.slice none 0 0) from ⟨World.ownsRow_nil _ _ _ _, (fun p hp => by cases hp), List.Pairwise.nil, (fun p hp => by cases hp)⟩)
  go_wp2_with fail
  go_loopw [24] (fun s24 wr => ∃ (nds : List (Nat × Nat)) (NV : Value), nds.length ≤ n ∧ s24 = .int .i64 (nds.length : Nat) ∧ Lk (wr.heap[B]? = some (fbc L NV (.slice none 0 0) (.slice none 0 0))) ∧ Lk (N1 B wr L nds NV) ∧ Lk (Below B w wr)) (fun s24 _ => n - (intOf s24).toNat)
  case atStart => exact ⟨[], _, by simp, rfl, HZ1, HN1, HB1⟩
  case round =>
    clear HZ1 HN1 HB1
    obtain ⟨nds, NV, hk, rfl, HZ, HN, HB⟩ := hrel
    obtain ⟨k, hkl⟩ : ∃ k, nds.length = k := ⟨_, rfl⟩
    rw [hkl] at hk ⊢
    by_cases hlt : k < n
    · have hsB : B ≤ wr.heap.size := by have := HB.out.size; omega
      have CN := Nb.new_ok L wr hL.1 hL.2
      go_upto_region 9 with (first
        | (go_at_call 31; refine CN.mono ?_; rintro e w2 ⟨b, g, rfl, HG1, HG2, HP2, HB2⟩))
      have hZ2 := (HB2.out.block B (Array.getElem?_eq_some_iff.1 HZ.out).1).trans HZ.out
      have hBa := (Below.refl _ w2).alloc (Nat.le_refl _) (.cells #[.pointer (some ⟨b, 0, none⟩)] 37)
      have HZa := Lk.mk ((hBa.block B (Array.getElem?_eq_some_iff.1 hZ2).1).trans hZ2)
      have HNa := Lk.mk (N1.below (N1.below HN.out HB2.out) hBa)
      have HPa := Lk.mk (show PN0 _ L (b, g) from Nd.below HP2.out hBa)
      have HBa := Lk.mk ((HB.out.trans (HB2.out.mono hsB)).trans (hBa.mono (Nat.le_trans hsB HB2.out.size)))
      have hlt2 := Lk.mk (show ∀ p ∈ nds, ascN p (b, g) from fun p hp => by
        have h1 := N1.lt HN.out p hp
        have h2 := HG1.out
        have h3 := HG2.out
        exact ⟨by show p.1 < b; omega, by show p.1 < g; omega, by show p.2 < b; omega, by show p.2 < g; omega⟩)
      have hBb : B ≤ b ∧ B ≤ g := ⟨Nat.le_trans hsB HG1.out, Nat.le_trans hsB HG2.out⟩
      have hnv := Lk.mk (show ∀ k, NV.ownBlock = some k → k ≠ b ∧ k ≠ g from fun k hk => by
        have h1 := (HN.out.row.lt k hk).2
        have h2 := HG1.out
        have h3 := HG2.out
        exact ⟨by omega, by omega⟩)
      have hrow1 := HNa.out.row
      rw [hkl] at hrow1
      have HRa := Lk.mk hrow1
      have hs2 : B ≤ w2.heap.size := Nat.le_trans hsB HB2.out.size
      obtain ⟨NA, nc, hNV⟩ := (Tl.of_own HN.out.row).slice
      rw [hkl] at hNV
      subst hNV
      clear hBa hrow1 HP2 HB2 CN HG1 HG2 HN HZ HB
      have y1 := (cell_of_row w2 B 1 _ _ _ hZ2).trans rfl
      clear hZ2
      go_wp2_with (first
        | (at_builtin; refine wpList_append_own _ rfl _ _ 70 rfl B 37 i0 (.pointer none) 1 8 Try.underlying70 hi0 hz0 hz1 hz2 rfl (by decide) _ _ _ rfl HRa.out ⟨w2.heap.size, 0, none⟩ 1 1 [.pointer (some ⟨b, 0, none⟩)] rfl rfl ?c1 ?c2 ?c3 ?c4 ?c5 ?_))
      case c1 => intro j u hj; rw [add_zero_, cell_of_row _ w2.heap.size j _ _ _ (heap_alloc_new w2 _)]; simpa using hj
      case c2 => intro u hu; simp at hu; rw [hu]; rfl
      case c3 => unfold maxLen; omega
      case c4 => omega
      case c5 => simp; omega
      intro v' w4 hown' hgrow _
      have HM := Lk.mk (N1.more (b := b) (g := g) HNa.out HZa.out HPa.out hlt2.out hBb hnv.out hgrow (by rw [hkl]; exact hown'))
      have HB4 := Lk.mk (HBa.out.grown hgrow (by simp; omega) (fun k hk => (HRa.out.lt k hk).1))
      obtain ⟨NA', nc', hv'⟩ := (Tl.of_own hown').slice
      subst hv'
      clear hown' hgrow HNa HZa HPa hlt2 hnv HRa HBa y1
      have c1 := HM.out.2.2.1
      have c2 := HM.out.2.2.2
      have HB5 := Lk.mk (HB4.out.setCell (p := ⟨B, 1, none⟩) (Nat.le_refl B) (.slice NA' (k + 1) nc'))
      go_upto_region 10 with fail
      clear c1 c2
      generalize w4.setCell _ _ = w5 at *
      go_wp2_with fail
      go_roundw
      case rel => exact ⟨nds ++ [(b, g)], _, by simp; omega, by simp [hkl] <;> try go_num, ⟨HM.out.2.1⟩, ⟨HM.out.1⟩, HB5⟩
      case measure => simp [intOf]; omega
    · obtain rfl : k = n := by omega
      obtain ⟨NA, nc, hNV⟩ := (Tl.of_own HN.out.row).slice
      rw [hkl] at hNV
      subst hNV
      obtain ⟨j0, hj0, jz0, jz1, jz2⟩ := info_parts cinfo
      have hBl := (Array.getElem?_eq_some_iff.1 HZ.out).1
      have hsB : B ≤ wr.heap.size := by omega
      go_wp2_with (first
        | (at_make; refine wpList_make_full _ rfl _ _ 71 rfl B 90 j0 (.agg #[.bool false, .int .i64 0, .slice none 0 0, .slice none 0 0, .int .i64 0, .int .i64 0]) 6 Try.underlying71 hj0 jz0 jz1 .i64 .i64 _ _ m rfl rfl rfl rfl ?b2 ?b3 ?b4 ?_))
      case b2 => rw [jz2]; omega
      case b3 => unfold maxLen; omega
      case b4 => exact hsB
      intro w2 hown hgrow
      have HR2 := Lk.mk (SR.made (zs := #[.bool false, .int .i64 0, .slice none 0 0, .slice none 0 0, .int .i64 0, .int .i64 0]) rfl hown)
      have hb2 := below_of_grown hgrow
      have HZ2 := Lk.mk ((hb2.block B hBl).trans HZ.out)
      have HN2 := Lk.mk (N1.below HN.out hb2)
      have HB2 := Lk.mk (HB.out.trans (hb2.mono hsB))
      clear hown hgrow hb2 HZ HN HB
      generalize hcvv : wr.heap.size = cv at *
      have y2 := (cell_of_row w2 B 2 _ _ _ HZ2.out).trans rfl
      have f2 := frozen_of_row w2 B 2 _ _ HZ2.out
      go_upto_region 12 with fail
      clear y2 f2
      have hO3 := (Only.refl (fun k => k = B) w2).setCell (p := ⟨B, 2, none⟩) (.inl rfl) (.slice (some ⟨cv, 0, none⟩) m m)
      have HZ3 := Lk.mk (heap_setCell_same w2 B 2 _ _ (.slice (some ⟨cv, 0, none⟩) m m) HZ2.out)
      have hcB : cv ≠ B := by omega
      have HR3 := Lk.mk (SR.on HR2.out hO3 hcB)
      have hfb2 := HZ2.out
      have HN3 := Lk.mk (HN2.out.on hO3 (fun g hg e => by
        obtain ⟨cur, hc⟩ := (Tl.of_own HN2.out.row).typed g hg
        exact ne_typed hc hfb2 (by decide) e) (fun p hp => by
        obtain ⟨cg, hgt⟩ := Row.typed (HN2.out.nodes p hp).row
        exact ⟨ne_typed (HN2.out.nodes p hp).node hfb2 (by decide), ne_typed hgt hfb2 (by decide)⟩))
      have HB3 := Lk.mk (HB2.out.setCell (p := ⟨B, 2, none⟩) (Nat.le_refl B) (.slice (some ⟨cv, 0, none⟩) m m))
      clear hO3 HZ2 HR2 HN2 HB2 hfb2
      generalize w2.setCell _ _ = w3 at *
      have HC3 := Lk.mk (show C1 B w3 B L k m cv m nds (.slice NA k nc) 0 (fun _ => .slice none 0 0) (fun _ => []) (fun _ => w3.heap.size) from
        ⟨HZ3.out, HN3.out, hkl, HR3.out.eq (fun c _ => by simp [zeros6]), fun i hi => by omega, Nat.le_refl _, by omega, fun i _ => SR.lt HR3.out⟩)
      clear HZ3 HN3 HR3
      have y2 := (cell_of_row w3 B 2 _ _ _ HC3.out.z).trans rfl
      go_wp2_with fail
      go_loopw [55] (fun s55 wq => ∃ (c : Nat) (lv : Nat → Value) (bss : Nat → List Nat) (bs : Nat → Nat), c ≤ m ∧ s55 = .int .i64 c ∧ Lk (C1 B wq B L k m cv m nds (.slice NA k nc) c lv bss bs) ∧ Lk (∀ i, i ≤ c → bs i ≤ wq.heap.size) ∧ Lk (Below B w wq)) (fun s55 _ => m - (intOf s55).toNat)
      case atStart => exact ⟨0, _, _, _, by omega, rfl, HC3, ⟨fun _ _ => Nat.le_refl _⟩, HB3⟩
      case round =>
        clear HC3 HB3 y2
        obtain ⟨c, lv, bss, bs, hcm, rfl, HC, HS, HBq⟩ := hrel
        by_cases hlt2 : c < m
        · have CS := start_ok B cv m m k nc (.int .i64 L) NA (.slice none 0 0) c 1 _ wr ⟨HC.out.z⟩ ⟨HC.out.crow⟩ hlt2 (by omega) (by omega) (by omega) (by omega)
          go_upto_region 16 with (first
            | (go_at_call 57; refine CS.mono ?_; rintro e wz ⟨LV, bl, rfl, hbl, HLz, HRz, HOz⟩))
          have hBc : B ≠ cv := by omega
          have hzz := (HOz.out.block B (Array.getElem?_eq_some_iff.1 HC.out.z).1 hBc).trans HC.out.z
          obtain ⟨ccur, hct⟩ := HC.out.crow.typed
          have hnz := HC.out.n1.on HOz.out (fun g hg e => by
            obtain ⟨cur, hc⟩ := (Tl.of_own HC.out.n1.row).typed g hg
            exact ne_typed hc hct (by decide) e) (fun p hp => by
            obtain ⟨cg, hgt⟩ := Row.typed (HC.out.n1.nodes p hp).row
            exact ⟨ne_typed (HC.out.n1.nodes p hp).node hct (by decide), ne_typed hgt hct (by decide)⟩)
          have hsz := HOz.out.size
          have hbsc := HS.out c (Nat.le_refl c)
          have hC4 : C1 B wz B L k m cv m nds (.slice NA k nc) (c + 1) (upd lv c LV) (upd bss c bl) (upd bs (c + 1) wz.heap.size) := by
            refine ⟨hzz, hnz, hkl, HRz.out.eq (fun i _ => ?_), fun i hi => ?_, HC.out.low.1, HC.out.low.2.1, fun i hi => ?_⟩
            · by_cases hic : i = c
              · subst hic
                rw [if_pos (by omega), upd_same, upd_same, if_neg (by omega)]
                rfl
              · rw [upd_other _ _ hic, upd_other _ _ hic]
                by_cases h1 : i < c
                · rw [if_pos (by omega), if_pos h1]
                · rw [if_neg (by omega), if_neg h1]
            · by_cases hic : i = c
              · subst hic
                rw [upd_same, upd_same, upd_same, upd_other _ _ (by omega)]
                exact ⟨Lks.mono HLz.out hbsc, hbl, fun g hg => (HLz.out.row.lt g hg).2, fun b hb => Lks.lt HLz.out b hb, by omega⟩
              · have hi2 : i < c := by omega
                have hl := HC.out.lks i hi2
                have hcvb := HC.out.low.2.2 i (by omega)
                rw [upd_other _ _ hic, upd_other _ _ hic, upd_other (f := bs) _ (show i ≠ c + 1 by omega), upd_other (f := bs) _ (show i + 1 ≠ c + 1 by omega)]
                exact ⟨hl.1.on HOz.out (fun j (e : j = cv) => by rw [e]; exact hcvb), hl.2⟩
            · by_cases hic : i = c + 1
              · rw [hic, upd_same]
                have := SR.lt HRz.out
                exact this
              · rw [upd_other _ _ hic]
                exact HC.out.low.2.2 i (by omega)
          have HC4 := Lk.mk hC4
          have HS4 := Lk.mk (show ∀ i, i ≤ c + 1 → upd bs (c + 1) wz.heap.size i ≤ wz.heap.size from fun i hi => by
            by_cases hic : i = c + 1
            · rw [hic, upd_same]; exact Nat.le_refl _
            · rw [upd_other _ _ hic]; have := HS.out i (by omega); omega)
          have HB4 := Lk.mk (HOz.out.below_on HBq.out (fun j (e : j = cv) => by rw [e]; exact HC.out.low.2.1) (by have := HBq.out.size; omega))
          clear hC4 hnz hzz HRz HLz HOz CS HC HS HBq
          go_wp2_with fail
          go_roundw
          case rel => exact ⟨c + 1, _, _, _, by omega, by go_num, HC4, HS4, HB4⟩
          case measure => simp [intOf]; omega
        · obtain rfl : c = m := by omega
          go_wp2_with fail
          go_ret2
          subst hfb
          exact ⟨w.heap.size, cv, c, nds, _, lv, bss, bs, rfl, HC, HBq⟩
end Go.Proofs.Ytadeghfhjiohnaa.Fc

/-
  A fabric in memory: fresh pairs; start.
-/
import Derived.Test.YtadeghfhjiohnaaTc
import Derived.Test.YtadeghfhjiohnaaFa
import Derived.Laws.MakeOwn
namespace Go.Proofs.Ytadeghfhjiohnaa.Fb
open Go.ChangeShapes Go.WideShapes Go.ChangeAt Go.RowKit Ga Gb Na Nb Va Qd Ta Tc Fa
set_option linter.unusedVariables false
set_option linter.unusedSimpArgs false
set_option maxHeartbeats 1000000
set_option maxRecDepth 100000
theorem linfo : (Try.prog.info? 86).map (fun i => (i.zero, i.size, i.bytes)) = some (some (.agg #[.pointer none, .slice none 0 0]), 2, 32) := by kernel_rfl
theorem within_f (x l m : Int) (w : World) : Calls Try.prog 56 #[.int .i64 x, .int .i64 l, .int .i64 m] w fun e w' => e = .returned (.bool (decide (l ≤ x ∧ x ≤ m))) ∧ w = w' := by
  go_enter Try.func56, Try.ntmps56
  by_cases h1 : l ≤ x
  · go_wp2; go_ret; exact ⟨ret_bool (by simp [h1] <;> omega), rfl⟩
  · go_wp2; go_ret; exact ⟨ret_bool (by simp [h1] <;> omega), rfl⟩
/-- An empty pair. -/
def prc (cl inc nd : Int) : Obj := .cells #[.int .i64 cl, .int .i64 inc, .int .i64 nd, .slice none 0 0, .int .i64 0, .slice none 0 0] 99 (0, 0)
theorem prc_pp {F : Nat → Prop} {w : World} {b : Nat} {cl inc nd : Int} (h : w.heap[b]? = some (prc cl inc nd)) (hF : F b) : PP F w b cl inc nd (.slice none 0 0) [] 0 none 0 [] :=
  ⟨h, hF, Tl.nil _ _ _, (fun g hg => by cases hg), Tl.nil _ _ _, (fun g hg => by cases hg), (fun p hp => by cases hp), ⟨by simp, by simp⟩⟩
def lcs0 (b : Nat) : List Value := [.pointer (some ⟨b, 0, none⟩), .slice none 0 0]
theorem lcs0_len (bs : List Nat) : (bs.flatMap lcs0).length = bs.length * 2 := by
  induction bs with
  | nil => rfl
  | cons b bs ih => simp only [List.flatMap_cons, List.length_append, ih, List.length_cons]; show 2 + _ = _; omega
theorem two_new (w : World) (x y : Value) (t : TypeId) : ∀ j u, [x, y][j]? = some u → (w.alloc (.cells #[x, y] t)).cell? ((⟨w.heap.size, 0, none⟩ : Addr).add j) = some u := fun j u hj => by
  rw [add_zero_, cell_of_row _ w.heap.size j _ _ _ (heap_alloc_new w _)]
  simpa using hj
theorem two_l {b : Nat} : ∀ u ∈ [Value.pointer (some ⟨b, 0, none⟩), .slice none 0 0], u.oneCell' = true := fun u hu => by
  simp at hu; rcases hu with rfl | rfl <;> rfl
/-- Links to empty pairs, laid from block B on. -/
structure Lks (B : Nat) (w : World) (LV : Value) (c inc : Int) (bs : List Nat) : Prop where
  row : w.ownsRow B 86 2 LV bs.length (bs.flatMap lcs0)
  prs : ∀ i (hi : i < bs.length), w.heap[bs[i]]? = some (prc c inc i)
  asc : bs.Pairwise (· < ·)
  low : ∀ b ∈ bs, B ≤ b
section
variable {B : Nat} {w w' : World} {LV : Value} {c inc : Int} {bs : List Nat}
theorem Lks.lt (h : Lks B w LV c inc bs) : ∀ b ∈ bs, b < w.heap.size := fun b hb => by
  obtain ⟨i, hi, rfl⟩ := List.getElem_of_mem hb
  exact (Array.getElem?_eq_some_iff.1 (h.prs i hi)).1
theorem Lks.nil (h : w.ownsRow B 86 2 LV 0 []) : Lks B w LV c inc [] := ⟨h, fun i hi => by simp at hi, List.Pairwise.nil, fun b hb => by cases hb⟩
theorem Lks.below (h : Lks B w LV c inc bs) (hb : Below w.heap.size w w') : Lks B w' LV c inc bs :=
  ⟨owns_block h.row (fun g hg => hb.block g (h.row.lt g hg).2), fun i hi => (hb.block _ (h.lt _ (List.getElem_mem _))).trans (h.prs i hi), h.asc, h.low⟩
theorem Lks.ne (h : Lks B w LV c inc bs) : ∀ g, LV.ownBlock = some g → ∀ b ∈ bs, g ≠ b := fun g hg b hb e => by
  obtain ⟨cur, hc⟩ := (Tl.of_own h.row).typed g hg
  obtain ⟨i, hi, rfl⟩ := List.getElem_of_mem hb
  have := h.prs i hi
  rw [← e, hc] at this
  injection this with this
  injection this with _ h2
  exact absurd h2 (by decide)
theorem Lks.on {S : Nat → Prop} (h : Lks B w LV c inc bs) (ho : Only S w w') (hs : ∀ k, S k → k < B) : Lks B w' LV c inc bs :=
  ⟨owns_block h.row (fun g hg => ho.block g (h.row.lt g hg).2 (fun hh => by have := hs g hh; have := (h.row.lt g hg).1; omega)), fun i hi => (ho.block _ (h.lt _ (List.getElem_mem _)) (fun hh => by have := hs _ hh; have := h.low _ (List.getElem_mem hi); omega)).trans (h.prs i hi), h.asc, h.low⟩
theorem Lks.mono {B' : Nat} (h : Lks B w LV c inc bs) (hb : B' ≤ B) : Lks B' w LV c inc bs := by
  refine ⟨⟨h.row.1, ?_⟩, h.prs, h.asc, fun b hb' => Nat.le_trans hb (h.low b hb')⟩
  rcases h.row.2 with h1 | ⟨g, cap, cur, h1, h2, h3⟩
  · exact .inl h1
  · exact .inr ⟨g, cap, cur, h1, Nat.le_trans hb h2, h3⟩
/-- One more pair b, its link laid in a row v'. -/
theorem Lks.more {b : Nat} {v' : Value} (h : Lks B w LV c inc bs) (hlt : ∀ x ∈ bs, x < b) (hB : B ≤ b) (hz : w.heap[b]? = some (prc c inc bs.length)) (hg : w.grownBy w' LV.ownBlock) (hne : ∀ g, LV.ownBlock = some g → g ≠ b) (hown : w'.ownsRow B 86 2 v' (bs.length + 1) (bs.flatMap lcs0 ++ lcs0 b)) : Lks B w' v' c inc (bs ++ [b]) := by
  refine ⟨by simpa using hown, fun i hi => ?_, ?_, fun x hx => ?_⟩
  · by_cases h1 : i < bs.length
    · rw [List.getElem_append_left h1]
      exact (hg.block _ (h.lt _ (List.getElem_mem _)) (fun e => h.ne _ e.symm _ (List.getElem_mem _) rfl)).trans (h.prs i h1)
    · obtain rfl : i = bs.length := by simp at hi; omega
      simp only [List.getElem_concat_length]
      exact (hg.block _ (Array.getElem?_eq_some_iff.1 hz).1 (fun e => hne _ e.symm rfl)).trans hz
  · rw [List.pairwise_append]
    exact ⟨h.asc, by simp, fun x hx y hy => by rw [List.mem_singleton] at hy; rw [hy]; exact hlt x hx⟩
  · rcases List.mem_append.1 hx with h1 | h1
    · exact h.low x h1
    · rw [List.mem_singleton] at h1; omega
end
theorem start_ok (fb cv m capc n cnn : Nat) (ln : Value) (NA : Option Addr) (OV : Value) (c inc : Nat) (f : Nat → List Value) (w : World)
    (hz : Lk (w.heap[fb]? = some (.cells #[ln, .slice NA n cnn, .slice (some ⟨cv, 0, none⟩) m capc, OV] 74 (0, 0)))) (hrow : Lk (SR 90 6 w cv m capc f))
    (hc : c < m) (h5 : c ≤ 5) (hm : m ≤ 6) (hi : inc ≤ 59) (hn : n ≤ 5) :
    Calls Try.prog 57 #[.pointer (some ⟨fb, 0, none⟩), .int .i64 c, .int .i64 inc] w fun e w' => ∃ (LV : Value) (bs : List Nat), e = .returned (.int .i64 0) ∧ bs.length = n ∧ Lk (Lks w.heap.size w' LV c inc bs) ∧ Lk (SR 90 6 w' cv m capc (upd f c ((((f c).set 0 (.bool true)).set 1 (.int .i64 inc)).set 2 LV))) ∧ Lk (Only (fun k => k = cv) w w') := by
  obtain ⟨i0, hi0, hz0, hz1, hz2⟩ := info_parts linfo
  go_enter Try.func57, Try.ntmps57
  have y1 := (cell_of_row w fb 1 _ _ _ hz.out).trans rfl
  go_wp2_with (first
    | (at_make; refine wpList_make_own _ rfl _ _ 80 rfl w.heap.size 86 i0 (.agg #[.pointer none, .slice none 0 0]) 2 Try.underlying80 hi0 hz0 hz1 .i64 .i64 _ n rfl rfl rfl ?b2 ?b3 (Nat.le_refl _) ?_))
  case b2 => rw [hz2]; omega
  case b3 => unfold maxLen; omega
  intro w1 hown hgrow
  have HB1 := Lk.mk ((Below.refl _ w).grown hgrow (Nat.le_refl _) (fun k hk => by cases hk))
  have HL1 := Lk.mk (Lks.nil (c := c) (inc := inc) hown)
  clear hown hgrow
  generalize (Value.slice (some ⟨w.heap.size, 0, none⟩) 0 n) = v1 at *
  have y1 := (HB1.out.cell (p := ⟨fb, 1, none⟩) (block_lt_of_cell y1)).trans y1
  go_wp2_with fail
  go_loopw [7, 23] (fun s7 s23 wr => ∃ bs : List Nat, bs.length ≤ n ∧ s23 = .int .i64 (bs.length : Nat) ∧ Lk (Lks w.heap.size wr s7 c inc bs) ∧ Lk (Below w.heap.size w wr)) (fun _ s23 _ => n - (intOf s23).toNat)
  case atStart => exact ⟨[], by simp, rfl, HL1, HB1⟩
  case round =>
    clear HL1 HB1 y1
    obtain ⟨bs, hk, rfl, HL, HB⟩ := hrel
    obtain ⟨k, hkl⟩ : ∃ k, bs.length = k := ⟨_, rfl⟩
    rw [hkl] at hk ⊢
    by_cases hlt : k < n
    · have CN := Tc.new_ok c inc k wr (by omega) (by omega) (by omega)
      go_upto_region 6 with (first
        | (go_at_call 67; refine CN.mono ?_; rintro e w2 ⟨rfl, HP2, HB2⟩))
      have HL2 := Lk.mk (Lks.below HL.out HB2.out)
      have HB2w := Lk.mk (HB.out.trans (HB2.out.mono HB.out.size))
      have hb2 : wr.heap.size < w2.heap.size := HP2.out.lt
      have hz2' := HP2.out.z
      generalize hbb : wr.heap.size = b at *
      have hnew := Lk.mk (show ∀ x ∈ bs, x < b from fun x hx => by rw [← hbb]; exact HL.out.lt x hx)
      have hnv := Lk.mk (show ∀ g, u7.ownBlock = some g → g ≠ b from fun g hg e => by have := (HL.out.row.lt g hg).2; omega)
      have hBb : w.heap.size ≤ b := by rw [← hbb]; exact HB.out.size
      have hz3 : w2.heap[b]? = some (prc c inc k) := hz2'
      clear HP2 HB2 CN hz2'
      have hBa := (Below.refl _ w2).alloc (Nat.le_refl _) (.cells #[.pointer (some ⟨b, 0, none⟩), .slice none 0 0] 86)
      have HLa := Lk.mk (Lks.below HL2.out hBa)
      have HBa := Lk.mk (HB2w.out.trans (hBa.mono HB2w.out.size))
      have hza := Lk.mk ((hBa.block b hb2).trans hz3)
      have hrow1 := HLa.out.row
      rw [hkl] at hrow1
      have HRa := Lk.mk hrow1
      clear hBa hrow1 hz3
      go_wp2_with (first
        | (at_builtin; refine wpList_append_own _ rfl _ _ 80 rfl w.heap.size 86 i0 (.agg #[.pointer none, .slice none 0 0]) 2 32 Try.underlying80 hi0 hz0 hz1 hz2 rfl (by decide) _ _ _ rfl HRa.out ⟨w2.heap.size, 0, none⟩ 1 1 [.pointer (some ⟨b, 0, none⟩), .slice none 0 0] rfl rfl (two_new _ _ _ _) two_l (by unfold maxLen; omega) (by omega) (by have := HB2w.out.size; simp; omega) ?_))
      intro v' w4 hown' hgrow _
      have HL4 := Lk.mk (Lks.more (b := b) HLa.out hnew.out hBb (by rw [hkl]; exact hza.out) hgrow hnv.out (by rw [hkl]; exact hown'))
      have HB4 := Lk.mk (HBa.out.grown hgrow (by have := HB2w.out.size; simp; omega) (fun k hk => (HRa.out.lt k hk).1))
      clear hown' hgrow HLa HBa hza HRa HL2 HB2w HL HB
      go_wp2_with fail
      go_roundw
      case rel => exact ⟨bs ++ [b], by simp; omega, by simp [hkl] <;> try go_num, HL4, HB4⟩
      case measure => simp [intOf]; omega
    · obtain rfl : k = n := by omega
      have yz := (HB.out.block fb (Array.getElem?_eq_some_iff.1 hz.out).1).trans hz.out
      have y2 := (cell_of_row wr fb 2 _ _ _ yz).trans rfl
      have hcv := hrow.out.lt
      have HRr := Lk.mk (SR.below hrow.out HB.out)
      have hci : (c : Int) < m := by omega
      go_upto_region 11 with fail
      have hlen := HRr.out.len c hc
      obtain ⟨x0, s0⟩ : ∃ u, wr.cell? ⟨cv, c * 6, none⟩ = some u := ⟨_, (HRr.out.cell0 hc (by decide)).trans (List.getElem?_eq_getElem (by omega))⟩
      obtain ⟨x1, s1⟩ : ∃ u, wr.cell? ⟨cv, c * 6 + 1, none⟩ = some u := ⟨_, (HRr.out.cell hc (by decide)).trans (List.getElem?_eq_getElem (by omega))⟩
      obtain ⟨x2, s2⟩ : ∃ u, wr.cell? ⟨cv, c * 6 + 2, none⟩ = some u := ⟨_, (HRr.out.cell hc (by decide)).trans (List.getElem?_eq_getElem (by omega))⟩
      have f0 := HRr.out.fr (c * 6)
      have f1 := HRr.out.fr (c * 6 + 1)
      have f2 := HRr.out.fr (c * 6 + 2)
      clear y1 y2 yz hlen
      obtain ⟨LA, lc, hLV⟩ := (Tl.of_own HL.out.row).slice
      rw [hkl] at hLV
      subst hLV
      go_wp2
      go_ret
      have hO3 := (((Only.refl (fun k => k = cv) wr).setCell (p := ⟨cv, c * 6, none⟩) (.inl rfl) (.bool true)).setCell (p := ⟨cv, c * 6 + 1, none⟩) (.inl rfl) (.int .i64 inc)).setCell (p := ⟨cv, c * 6 + 2, none⟩) (.inl rfl) (.slice LA k lc)
      have hS := ((HRr.out.set hc (show 0 < 6 by decide) (.bool true)).set hc (show 1 < 6 by decide) (.int .i64 inc)).set hc (show 2 < 6 by decide) (.slice LA k lc)
      refine ⟨_, bs, rfl, hkl, ⟨Lks.on HL.out hO3 (fun j (e : j = cv) => by rw [e]; exact hcv)⟩, ⟨hS.eq (fun i _ => ?_)⟩, ⟨(Only.of_below HB.out).trans hO3⟩⟩
      by_cases hic : i = c
      · subst hic
        simp only [upd_same, hkl]
      · simp only [upd_other _ _ hic]
end Go.Proofs.Ytadeghfhjiohnaa.Fb

/-
  A fabric's memory nodes in memory, each with its words; package layout's FormatAll.
-/
import Derived.Test.YtadeghfhjiohnaaLf
import Derived.Test.YtadeghfhjiohnaaFd
namespace Go.Proofs.Ytadeghfhjiohnaa.Lg
open Go.ChangeShapes Go.WideShapes Go.ChangeAt Go.RowKit Ga Gb Na Nb Nc Nd_ Nq Nr Ns Nt La Lb Le Lf Ta Th Fa Fb Fc Fd_
set_option linter.unusedVariables false
set_option linter.unusedSimpArgs false
set_option maxRecDepth 10000
set_option maxHeartbeats 2000000

/-- The memory nodes of a fabric: node i is the struct bs i with the row gs i; f i: its words, whether it is up. -/
structure Fs (w0 w : World) (fb : Nat) (L N n nc nv : Nat) (CA : Option Addr) (m mc : Nat) (OV : Value) (bs gs : Nat → Nat) (f : Nat → List Nat × Bool) : Prop where
  z : w.heap[fb]? = some (fbc L (.slice (some ⟨nv, 0, none⟩) n nc) (.slice CA m mc) OV)
  ptr : ∀ i, i < n → w.cell? ⟨nv, i, none⟩ = some (.pointer (some ⟨bs i, 0, none⟩))
  nodes : ∀ i, i < n → PN w (bs i) (gs i) N N (f i).1 (f i).2
  apart : ∀ i j, i < n → j < n → i ≠ j → bs i ≠ bs j ∧ bs i ≠ gs j ∧ gs i ≠ bs j ∧ gs i ≠ gs j
  other : ∀ i, i < n → bs i ≠ fb ∧ gs i ≠ fb ∧ bs i ≠ nv ∧ gs i ≠ nv
  low : ∀ i, i < n → w0.heap.size ≤ bs i ∧ w0.heap.size ≤ gs i
  below : Below w0.heap.size w0 w
section
variable {w0 w w' : World} {fb L N n nc nv : Nat} {CA : Option Addr} {m mc : Nat} {OV : Value} {bs gs : Nat → Nat} {f f' : Nat → List Nat × Bool}
theorem Fs.on (h : Fs w0 w fb L N n nc nv CA m mc OV bs gs f) (hb : Below w.heap.size w w') : Fs w0 w' fb L N n nc nv CA m mc OV bs gs f :=
  ⟨(hb.block fb (Array.getElem?_eq_some_iff.1 h.z).1).trans h.z, fun i hi => (hb.cell (block_lt_of_cell (h.ptr i hi))).trans (h.ptr i hi),
    fun i hi => (h.nodes i hi).keep (hb.block _ (h.nodes i hi).size) (hb.block _ (h.nodes i hi).row.size), h.apart, h.other, h.low, h.below.trans (hb.mono h.below.size)⟩
theorem Fs.put (h : Fs w0 w fb L N n nc nv CA m mc OV bs gs f) {i : Nat} (hi : i < n) {ws : List Nat} {up : Bool} (hp : PN w' (bs i) (gs i) N N ws up) (ho : Only (fun k => k = bs i ∨ k = gs i) w w') (hf : f' i = (ws, up)) (he : ∀ j, j < n → j ≠ i → f' j = f j) :
    Fs w0 w' fb L N n nc nv CA m mc OV bs gs f' := by
  have ho' := h.other i hi
  refine ⟨(ho.block fb (Array.getElem?_eq_some_iff.1 h.z).1 (fun e => by rcases e with e | e <;> omega)).trans h.z, fun j hj => ?_, fun j hj => ?_, h.apart, h.other, h.low,
    ho.below_on h.below (fun k hk => by
      rcases hk with rfl | rfl
      · exact (h.low i hi).1
      · exact (h.low i hi).2) h.below.size⟩
  · exact (World.cell?_of_block (w := w) (w' := w') (a := ⟨nv, j, none⟩) (ho.block nv (block_lt_of_cell (h.ptr j hj)) (fun e => by rcases e with e | e <;> omega))).trans (h.ptr j hj)
  · by_cases e : j = i
    · subst e; rw [hf]; exact hp
    · rw [he j hj e]
      have ha := h.apart j i hj hi e
      exact (h.nodes j hj).on ho (fun e => by rcases e with e | e <;> omega) (fun e => by rcases e with e | e <;> omega)
theorem Fs.eq (h : Fs w0 w fb L N n nc nv CA m mc OV bs gs f) (he : ∀ j, j < n → f' j = f j) : Fs w0 w fb L N n nc nv CA m mc OV bs gs f' :=
  ⟨h.z, h.ptr, fun i hi => by rw [he i hi]; exact h.nodes i hi, h.apart, h.other, h.low, h.below⟩
theorem Fs.node (h : Lk (Fs w0 w fb L N n nc nv CA m mc OV bs gs f)) (hn : n ≤ 5) {i : Nat} (hi : i < n) :
    Calls Try.prog 40 #[.pointer (some ⟨fb, 0, none⟩), .int .i64 i] w fun e w' => e = .returned (.pointer (some ⟨bs i, 0, none⟩)) ∧ w = w' :=
  node_at fb L CA n nc m mc OV w nv (bs i) i ⟨h.out.z⟩ (by omega) hi ⟨h.out.ptr i hi⟩
end
theorem asc_getD (l : List (Nat × Nat)) (h : l.Pairwise ascN) {i j : Nat} (hi : i < l.length) (hj : j < l.length) (hij : i < j) : ascN (l.getD i (0, 0)) (l.getD j (0, 0)) := by
  rw [List.getD_eq_getElem?_getD, List.getD_eq_getElem?_getD, List.getElem?_eq_getElem hi, List.getElem?_eq_getElem hj]
  exact List.pairwise_iff_getElem.1 h i j hi hj hij
/-- A new fabric as its memory nodes. -/
theorem Fs.start {w0 w w2 : World} {fb L n m cv ccap : Nat} {nds : List (Nat × Nat)} {NV : Value} {lv : Nat → Value} {bss : Nat → List Nat} {bs : Nat → Nat} (h : C1 w0.heap.size w fb L n m cv ccap nds NV m lv bss bs) (hb : Below w0.heap.size w0 w) (h1 : 1 ≤ n) (hb2 : Below w.heap.size w w2) :
    ∃ nv nc, Fs w0 w2 fb L (8 * L) n nc nv (some ⟨cv, 0, none⟩) m ccap (.slice none 0 0) (fun i => (nds.getD i (0, 0)).1) (fun i => (nds.getD i (0, 0)).2) (fun _ => (List.replicate (8 * L) 0, true)) := by
  have hrow := h.n1.row
  rw [h.nl] at hrow
  obtain ⟨nv, nc, hnv⟩ : ∃ nv nc, NV = .slice (some ⟨nv, 0, none⟩) n nc := by
    rcases hrow.2 with ⟨_, h0⟩ | ⟨g, cap, cur, h, _⟩
    · omega
    · exact ⟨g, cap, h⟩
  subst hnv
  have hSR := SR.of_own ncs (fun _ => rfl) (0, 0) hrow h.nl
  have hmem : ∀ i, i < n → nds.getD i (0, 0) ∈ nds := fun i hi => by
    rw [List.getD_eq_getElem?_getD, List.getElem?_eq_getElem (by rw [h.nl]; exact hi)]
    exact List.getElem_mem _
  have hnode : ∀ i, i < n → PN0 w L (nds.getD i (0, 0)) := fun i hi => h.n1.nodes _ (hmem i hi)
  refine ⟨nv, nc, Fs.on ⟨h.z, fun i hi => ?_, hnode, fun i j hi hj hne => ?_, fun i hi => ?_, fun i hi => h.n1.low _ (hmem i hi), hb⟩ hb2⟩
  · have := (hSR.cell0 hi (by decide)).trans rfl
    rw [Nat.mul_one] at this
    exact this
  · rcases Nat.lt_or_gt_of_ne hne with e | e
    · obtain ⟨a1, a2, a3, a4⟩ := asc_getD nds h.n1.asc (by rw [h.nl]; exact hi) (by rw [h.nl]; exact hj) e
      exact ⟨by omega, by omega, by omega, by omega⟩
    · obtain ⟨a1, a2, a3, a4⟩ := asc_getD nds h.n1.asc (by rw [h.nl]; exact hj) (by rw [h.nl]; exact hi) e
      exact ⟨by omega, by omega, by omega, by omega⟩
  · have hp := hnode i hi
    obtain ⟨cg, hg⟩ := Row.typed hp.row
    have hn := h.n1.nb nv rfl _ (hmem i hi)
    exact ⟨ne_typed hp.node h.z (by decide), ne_typed hg h.z (by decide), Ne.symm hn.1, Ne.symm hn.2⟩
/-- The words of the nodes when k of them have been formatted. -/
def fk (f : Nat → List Nat × Bool) (W : List Nat) (k : Nat) : Nat → List Nat × Bool := fun i => if i < k then (W, true) else f i
theorem formatAll_any (w0 w : World) (fb L N n nc nv : Nat) (CA : Option Addr) (m mc : Nat) (OV : Value) (bs gs : Nat → Nat) (f : Nat → List Nat × Bool) (d : Nat) (h : Lk (Fs w0 w fb L N n nc nv CA m mc OV bs gs f))
    (hN : N = 8 * L) (hL : 98 ≤ L ∧ L ≤ 256) (hn : 1 ≤ n ∧ n ≤ 5) (hf : ∀ i, i < n → (f i).2 = decide (i ≠ d)) :
    Calls Try.prog 41 #[.pointer (some ⟨fb, 0, none⟩)] w fun e w' => e = .returned (.int .i64 (if d < n then 4 else 0)) ∧ Lk (Fs w0 w' fb L N n nc nv CA m mc OV bs gs (fk f (fmtW L (civ n)) (if d < n then d else n))) := by
  have HN := Lk.mk hN
  have HNd := Lk.mk (fun (W : World) (i : Nat) (f : Nat → List Nat × Bool) (hi : i < n) (H : Lk (Fs w0 W fb L N n nc nv CA m mc OV bs gs f)) => Fs.node H hn.2 hi)
  have HNs := Lk.mk (fun (W : World) (f : Nat → List Nat × Bool) (H : Lk (Fs w0 W fb L N n nc nv CA m mc OV bs gs f)) => nodes_any fb L (some ⟨nv, 0, none⟩) CA n nc m mc OV W ⟨H.out.z⟩)
  have C0 := HNs.out w f h
  clear hN
  go_enter Try.func41, Try.ntmps41
  go_wp2_with (first | (go_at_call 58; refine C0.mono ?_; rintro e w' ⟨rfl, rfl⟩))
  clear C0
  go_loopw [7] (fun s7 wr => ∃ k : Nat, k ≤ n ∧ k ≤ d ∧ s7 = .int .i64 k ∧ Lk (Fs w0 wr fb L N n nc nv CA m mc OV bs gs (fk f (fmtW L (civ n)) k))) (fun i _ => n - (intOf i).toNat)
  case atStart => exact ⟨0, by omega, by omega, rfl, ⟨h.out.eq fun j hj => by simp [fk]⟩⟩
  case round =>
    clear h
    obtain ⟨k, hk, hkd, rfl, HF⟩ := hrel
    by_cases hlk : k < n
    · have hki : (k : Int) < n := by omega
      have C1 := HNd.out wr k _ hlk HF
      have C2 := HNs.out wr _ HF
      have hp := HF.out.nodes k hlk
      have hfk : fk f (fmtW L (civ n)) k k = f k := if_neg (Nat.lt_irrefl k)
      rw [hfk] at hp
      have hud := hf k hlk
      by_cases hd : k = d
      · have hu : (f k).2 = false := by rw [hud]; simp [hd]
        rw [hu] at hp
        have hdn : d < n := by omega
        obtain rfl : d = k := hd.symm
        clear hd
        have CF := format_down (bs d) (gs d) N N (f d).1 wr L n ⟨hp⟩ HN.out hL hn
        clear hp hfk hud hu
        go_wp2_with (first
          | (go_at_call 40; refine C1.mono ?_; rintro e w' ⟨rfl, rfl⟩)
          | (go_at_call 58; refine C2.mono ?_; rintro e w' ⟨rfl, rfl⟩)
          | (go_at_call 35; refine CF.mono ?_; rintro e w5 ⟨rfl, H5⟩))
        go_ret
        exact ⟨rfl, ⟨HF.out.on H5.out⟩⟩
      · have hu : (f k).2 = true := by rw [hud]; simp [hd]
        rw [hu] at hp
        have CF := format_ok (bs k) (gs k) N N (f k).1 wr L n ⟨hp⟩ HN.out hL hn
        clear hp hfk hud hu
        go_wp2_with (first
          | (go_at_call 40; refine C1.mono ?_; rintro e w' ⟨rfl, rfl⟩)
          | (go_at_call 58; refine C2.mono ?_; rintro e w' ⟨rfl, rfl⟩)
          | (go_at_call 35; refine CF.mono ?_; rintro e w5 ⟨rfl, HP5, HO5⟩))
        go_roundw
        case rel => exact ⟨k + 1, by omega, by omega, by go_num, ⟨HF.out.put hlk HP5.out HO5.out (by simp [fk]) (fun j hj hne => by
          have e : j < k + 1 ↔ j < k := by omega
          simp [fk, e])⟩⟩
        case measure => simp [intOf]; omega
    · obtain rfl : n = k := by omega
      go_wp2
      go_ret
      exact ⟨rfl, HF⟩
end Go.Proofs.Ytadeghfhjiohnaa.Lg

/-
  The program's Step: a piece is executed.
-/
import Derived.Test.YtadeghfhjiohnaaTg
namespace Go.Proofs.Ytadeghfhjiohnaa.Th
open Go.ChangeShapes Go.WideShapes Go.ChangeAt Go.RowKit Ga Gb Na Nb Nc Nd_ Va Vb Vd Ve Vf Vg Qa Qb Qd Qj Ta Tb Tc Td Te Tf Tg
set_option linter.unusedVariables false
set_option linter.unusedSimpArgs false
set_option maxHeartbeats 1000000
set_option maxRecDepth 100000
/-- What the region of the execution leaves: the words that were read, the node's words, what has turned. -/
structure R9 (F : Nat → Prop) (W wx : World) (b : Nat) (cl inc pnd : Int) (V : Value) (q : List Pq) (ex : Nat) (B : Option Addr) (cb : Nat) (r : List Nat) (nb ng nn ncap : Nat) (out ws : List Nat) (B2 : Option Addr) (cb2 : Nat) : Prop where
  pp : PP (fun k => F k ∨ (Value.slice B2 (r ++ out).length cb2).ownBlock = some k) wx b cl inc pnd V q ex B2 cb2 (r ++ out)
  pn : PN wx nb ng nn ncap ws true
  only : Only (fun k => k = b ∨ (Value.slice B r.length cb).ownBlock = some k ∨ k = nb ∨ k = ng) W wx
  new : ∀ k, (Value.slice B2 (r ++ out).length cb2).ownBlock = some k → (Value.slice B r.length cb).ownBlock = some k ∨ (W.heap.size ≤ k ∧ k < wx.heap.size)
theorem ne_typed {w : World} {x y : Nat} {c1 c2 : Array Value} {t1 t2 : TypeId} {f1 f2 : Nat × Nat} (h1 : w.heap[x]? = some (.cells c1 t1 f1)) (h2 : w.heap[y]? = some (.cells c2 t2 f2)) (ht : t1 ≠ t2) : x ≠ y := fun e => by
  subst e
  rw [h1] at h2
  injection h2 with h2
  injection h2 with _ h3
  exact ht h3
theorem Row.typed {w : World} {g n cap : Nat} {ws : List Nat} (h : Row w g n cap ws) : ∃ cur, w.heap[g]? = some (.cells cur 23 (0, 0)) := by
  rcases h.own.2 with ⟨h', _⟩ | ⟨g', cap', cur, h', h3, h4, _⟩
  · simp at h'
  · simp only [Value.slice.injEq, Option.some.injEq, Addr.mk.injEq, and_true, true_and] at h'
    obtain ⟨rfl, rfl⟩ := h'
    exact ⟨cur, h4⟩
theorem r9_end {F : Nat → Prop} {W w4 w6 : World} {b : Nat} {cl inc pnd : Int} {V : Value} {q : List Pq} {ex : Nat} {B : Option Addr} {cb : Nat} {r : List Nat} {nb ng nn ncap : Nat} {out ws ws0 : List Nat} {A6 : Option Addr} {c6 : Nat}
    (HP : Lk (PP F W b cl inc pnd V q ex B cb r)) (HN : Lk (PN W nb ng nn ncap ws0 true)) (HFn : Lk (F nb ∧ F ng)) (HBn : Lk (∀ g, (Value.slice B r.length cb).ownBlock = some g → g ≠ ng)) (HF : Lk (∀ g, W.heap.size ≤ g → ¬ F g))
    (HN4 : Lk (PN w4 nb ng nn ncap ws true)) (HO4 : Lk (Only (fun k => k = nb ∨ k = ng) W w4)) (hout : Lk (∀ x ∈ out, x < 18446744073709551616)) (hlen : Lk ((r ++ out).length ≤ 4294967296))
    (HT6 : Lk (Tl w6 23 1 (.slice A6 (r.length + out.length) c6) (r.length + out.length) (r.map u64v ++ out.map u64v))) (HG6 : Lk (w4.grownBy w6 (Value.slice B r.length cb).ownBlock))
    (HE6 : Lk ((Value.slice A6 (r.length + out.length) c6).ownBlock = (Value.slice B r.length cb).ownBlock ∨ ∀ g, (Value.slice A6 (r.length + out.length) c6).ownBlock = some g → w4.heap.size ≤ g)) :
    R9 F W (w6.setCell ⟨b, 5, none⟩ (.slice A6 (r.length + out.length) c6)) b cl inc pnd V q ex B cb r nb ng nn ncap out ws A6 c6 := by
  have hR := HP.out
  have hG := HG6.out
  have hnb : nb ≠ b := ne_typed HN.out.node hR.z (by decide)
  have hng : ng ≠ b := by obtain ⟨cur, hc⟩ := Row.typed HN.out.row; exact ne_typed hc hR.z (by decide)
  have hbnb : ∀ g, (Value.slice B r.length cb).ownBlock = some g → g ≠ nb := fun g hg => by obtain ⟨cur, hc⟩ := hR.ow.typed g hg; exact ne_typed hc HN.out.node (by decide)
  have hvn : ∀ g, V.ownBlock = some g → ¬ (g = nb ∨ g = ng) := fun g hg hh => by
    obtain ⟨cur, hc⟩ := hR.own.typed g hg
    rcases hh with e | e
    · exact ne_typed hc HN.out.node (by decide) e
    · obtain ⟨cur2, hc2⟩ := Row.typed HN.out.row
      exact ne_typed hc hc2 (by decide) e
  have hs04 := HO4.out.size
  have hs46 := hG.size
  have heq : (Value.slice A6 (r ++ out).length c6).ownBlock = (Value.slice A6 (r.length + out.length) c6).ownBlock := by rw [List.length_append]
  have hb4 := HO4.out.block b hR.lt (fun hh => hh.elim (fun e => hnb e.symm) (fun e => hng e.symm))
  have hb6 := (hG.block b (by have := hR.lt; omega) (fun e => hR.wb b e.symm rfl)).trans hb4
  have hz6 := hb6.trans hR.z
  have hn6 : ∀ g, (Value.slice A6 (r.length + out.length) c6).ownBlock = some g → g ≠ b := fun g hg e => by
    rcases HE6.out with h | h
    · exact hR.wb g (h ▸ hg) e
    · have := h g hg
      have := hR.lt
      omega
  have hother : ∀ g, g ≠ b → (w6.setCell ⟨b, 5, none⟩ (.slice A6 (r.length + out.length) c6)).heap[g]? = w6.heap[g]? := fun g hg => Below.heap_setCell w6 ⟨b, 5, none⟩ _ g hg
  have hkeep : ∀ g, g < W.heap.size → g ≠ b → g ≠ nb → g ≠ ng → (Value.slice B r.length cb).ownBlock ≠ some g → (w6.setCell ⟨b, 5, none⟩ (.slice A6 (r.length + out.length) c6)).heap[g]? = W.heap[g]? := fun g h1 h2 h3 h4 h5 =>
    (hother g h2).trans ((hG.block g (by omega) (fun e => h5 e.symm)).trans (HO4.out.block g h1 (fun hh => hh.elim h3 h4)))
  have h6F : ∀ g, (Value.slice A6 (r.length + out.length) c6).ownBlock = some g → W.heap.size ≤ g ∨ F g := fun g hg => by
    rcases HE6.out with h | h
    · exact .inr (hR.wf g (h ▸ hg))
    · exact .inl (by have := h g hg; omega)
  have hmul : ∀ k, k < w4.heap.size → k ≠ b → some k ≠ (Value.slice B r.length cb).ownBlock → (w6.setCell ⟨b, 5, none⟩ (.slice A6 (r.length + out.length) c6)).heap[k]? = w4.heap[k]? := fun k h1 h2 h3 => (hother k h2).trans (hG.block k h1 h3)
  refine ⟨⟨?_, .inl hR.f, ?_, fun g hg => .inl (hR.vf g hg), ?_, fun g hg => .inr hg, fun p hp => ?_, ?_⟩, ?_, ?_, ?_⟩
  · have := heap_setCell_same w6 b 5 _ _ (.slice A6 (r.length + out.length) c6) hz6
    rw [List.length_append]
    exact this
  · exact hR.own.on (fun g hg => hkeep g (hR.own.lt g hg) (hR.vb g hg) (fun e => hvn g hg (.inl e)) (fun e => hvn g hg (.inr e)) (fun e => hR.vw g hg e.symm))
  · have := HT6.out.on (w' := w6.setCell ⟨b, 5, none⟩ (.slice A6 (r.length + out.length) c6)) (fun g hg => hother g (hn6 g hg))
    rw [List.length_append, List.map_append]
    exact this
  · refine ⟨?_, (hR.wd p hp).2⟩
    intro hl
    obtain ⟨ad, e, hn, hb, hc⟩ := (hR.wd p hp).1 hl
    refine ⟨ad, e, fun hh => hh.elim hn (fun hv => (h6F _ (heq ▸ hv)).elim (fun h => by omega) hn), by simp; omega, fun j hj => ?_⟩
    have := World.cell?_of_block (w := W) (w' := w6.setCell ⟨b, 5, none⟩ (.slice A6 (r.length + out.length) c6)) (a := ad.add j) (by rw [block_of_add]; exact hkeep _ hb (fun e => hn (e ▸ hR.f)) (fun e => hn (e ▸ HFn.out.1)) (fun e => hn (e ▸ HFn.out.2)) (fun e => hn (hR.wf _ e)))
    exact this.trans (hc j hj)
  · refine ⟨hlen.out, fun x hx => ?_⟩
    rcases List.mem_append.1 hx with h | h
    · exact hR.wr.2 x h
    · exact hout.out x h
  · exact Nd.keep HN4.out (hmul nb HN4.out.size hnb (fun e => hbnb nb e.symm rfl)) (hmul ng HN4.out.row.size hng (fun e => HBn.out ng e.symm rfl))
  · exact (((HO4.out.mono (fun k hk => .inr (.inr hk))).grown hG (fun k hk => .inl (.inr (.inl hk))))).setCell (p := ⟨b, 5, none⟩) (.inl (.inl rfl)) _
  · intro k hk
    rw [heq] at hk
    rcases HE6.out with h | h
    · exact .inl (h ▸ hk)
    · exact .inr ⟨by have := h k hk; omega, by have := HT6.out.lt k hk; simpa using this⟩
end Go.Proofs.Ytadeghfhjiohnaa.Th

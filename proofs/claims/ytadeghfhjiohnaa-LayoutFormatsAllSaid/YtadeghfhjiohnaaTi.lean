/-
  The program's Step: a piece is executed; the walk.
-/
import Derived.Test.YtadeghfhjiohnaaTh
namespace Go.Proofs.Ytadeghfhjiohnaa.Ti
open Go.ChangeShapes Go.WideShapes Go.ChangeAt Go.RowKit Ga Gb Na Nb Nc Nd_ Va Vb Vd Ve Vf Vg Qa Qb Qd Qj Ta Tb Tc Td Te Tf Tg Th
set_option linter.unusedVariables false
set_option linter.unusedSimpArgs false
set_option maxHeartbeats 1000000
set_option maxRecDepth 100000
theorem flat_at2 (l : List (Nat × Nat)) (i : Nat) (h : i < l.length) : (flat l)[i * 2]? = some (.int .i64 ((l[i]).1 : Int)) ∧ (flat l)[i * 2 + 1]? = some (.int .i64 ((l[i]).2 : Int)) := by
  unfold flat
  have h0 := flat_at (fun x : Nat × Nat => [Value.int .i64 (x.1 : Int), .int .i64 (x.2 : Int)]) 2 (fun _ => rfl) l i 0 h (by omega)
  have h1 := flat_at (fun x : Nat × Nat => [Value.int .i64 (x.1 : Int), .int .i64 (x.2 : Int)]) 2 (fun _ => rfl) l i 1 h (by omega)
  exact ⟨h0, h1⟩
section
variable (F : Nat → Prop) (b : Nat) (cl inc : Nat) (pnd : Int) (V : Value) (p : Pq) (q : List Pq) (ex : Nat) (B : Option Addr) (cb : Nat) (r : List Nat) (nb ng nn ncap : Nat) (ws : List Nat) (L : Nat) (w : World)
theorem ex_facts {F : Nat → Prop} {W w4 : World} {b : Nat} {cl inc pnd : Int} {V : Value} {q : List Pq} {ex : Nat} {B : Option Addr} {cb : Nat} {r : List Nat} {nb ng nn ncap : Nat} {ws0 : List Nat}
    (HP : Lk (PP F W b cl inc pnd V q ex B cb r)) (HN : Lk (PN W nb ng nn ncap ws0 true)) (HBn : Lk (∀ g, (Value.slice B r.length cb).ownBlock = some g → g ≠ ng)) (HO4 : Lk (Only (fun k => k = nb ∨ k = ng) W w4)) :
    Lk (Only (fun k => k = nb ∨ k = ng) W w4) ∧ Lk (Tl w4 23 1 (.slice B r.length cb) r.length (r.map u64v)) ∧ w4.cell? ⟨b, 5, none⟩ = some (.slice B r.length cb) ∧ w4.frozen? ⟨b, 5, none⟩ = false := by
  have hR := HP.out
  have hnb : nb ≠ b := ne_typed HN.out.node hR.z (by decide)
  have hng : ng ≠ b := by obtain ⟨cur, hc⟩ := Row.typed HN.out.row; exact ne_typed hc hR.z (by decide)
  have hbnb : ∀ g, (Value.slice B r.length cb).ownBlock = some g → g ≠ nb := fun g hg => by obtain ⟨cur, hc⟩ := hR.ow.typed g hg; exact ne_typed hc HN.out.node (by decide)
  have hb4 := HO4.out.block b hR.lt (fun hh => hh.elim (fun e => hnb e.symm) (fun e => hng e.symm))
  exact ⟨HO4, ⟨hR.ow.on (fun g hg => HO4.out.block g (hR.ow.lt g hg) (fun hh => hh.elim (hbnb g hg) (HBn.out g hg)))⟩, (World.cell?_of_block (a := ⟨b, 5, none⟩) hb4).trans hR.c5, (World.frozen?_of_block (a := ⟨b, 5, none⟩) hb4).trans (hR.fr 5)⟩
theorem _root_.Go.Proofs.Ytadeghfhjiohnaa.Tc.PP.setEx {F : Nat → Prop} {w : World} {b : Nat} {cl inc nd : Int} {V : Value} {q : List Pq} {ex : Nat} {B : Option Addr} {cb : Nat} {r : List Nat} (h : PP F w b cl inc nd V q ex B cb r) (m : Nat) : PP F (w.setCell ⟨b, 4, none⟩ (.int .i64 (m : Int))) b cl inc nd V q m B cb r := by
  have hO := (Only.refl (fun k => k = b) w).setCell (p := ⟨b, 4, none⟩) (.inl rfl) (.int .i64 (m : Int))
  exact ⟨heap_setCell_same w b 4 _ _ _ h.z, h.f, h.own.on (fun g hg => hO.block g (h.own.lt g hg) (h.vb g hg)), h.vf, h.ow.on (fun g hg => hO.block g (h.ow.lt g hg) (h.wb g hg)), h.wf, fun p hp => ⟨(h.wd p hp).1.on hO (fun k hk => by subst hk; exact h.f), (h.wd p hp).2⟩, h.wr⟩
theorem tl_lies {w : World} {B : Option Addr} {n c : Nat} {l : List Nat} (h : Tl w 23 1 (.slice B n c) n (l.map u64v)) : Lies .u64 w w.heap.size B l := fun hp => by
  have hl := h.1
  rw [List.length_map, Nat.mul_one] at hl
  obtain ⟨g, off, c', e, _, _, _, hc⟩ := h.cells (by omega)
  simp only [Value.slice.injEq] at e
  obtain ⟨rfl, _, _⟩ := e
  refine ⟨_, rfl, h.lt g rfl, fun j hj => ?_⟩
  rw [add_at]
  refine hc j _ ?_
  rw [List.getElem?_map, List.getElem?_eq_getElem hj]
  simp [hj, u64v]
/-- What a Step that executes a piece returns and leaves. -/
def Ran (F : Nat → Prop) (b : Nat) (cl inc : Nat) (pnd : Int) (V : Value) (p : Pq) (q : List Pq) (ex : Nat) (B : Option Addr) (cb : Nat) (r : List Nat) (nb ng nn ncap : Nat) (ws : List Nat) (w : World) (e : Ending) (w' : World) : Prop :=
  Lk (PN w' nb ng nn ncap (wsS p.v ws ex) true) ∧ Lk (Only (fun k => k = b ∨ V.ownBlock = some k ∨ (Value.slice B r.length cb).ownBlock = some k ∨ k = nb ∨ k = ng) w w') ∧
  ((ex + 1 < nP p.v ∧ ∃ (B2 : Option Addr) (cb2 : Nat), e = .returned (.tuple #[.agg #[.int .i64 0, .slice none 0 0], .bool false]) ∧ Lk (PP (fun k => F k ∨ (Value.slice B2 (r ++ outS p.v ws ex).length cb2).ownBlock = some k) w' b cl inc pnd V (p :: q) (ex + 1) B2 cb2 (r ++ outS p.v ws ex)) ∧ Lk (∀ k, (Value.slice B2 (r ++ outS p.v ws ex).length cb2).ownBlock = some k → (Value.slice B r.length cb).ownBlock = some k ∨ (w.heap.size ≤ k ∧ k < w'.heap.size))) ∨
   (ex + 1 = nP p.v ∧ ∃ (V2 : Value) (B2 : Option Addr) (cb2 : Nat), e = .returned (.tuple #[.agg #[.int .i64 0, .slice B2 (r ++ outS p.v ws ex).length cb2], .bool true]) ∧ Lk (PP F w' b cl inc pnd V2 q 0 none 0 []) ∧ Lk (Lies .u64 w' w'.heap.size B2 (r ++ outS p.v ws ex) ∧ ∀ k, (Value.slice B2 (r ++ outS p.v ws ex).length cb2).ownBlock = some k → (Value.slice B r.length cb).ownBlock = some k ∨ w.heap.size ≤ k) ∧ Lk (V2.ownBlock = V.ownBlock)))
end
end Go.Proofs.Ytadeghfhjiohnaa.Ti

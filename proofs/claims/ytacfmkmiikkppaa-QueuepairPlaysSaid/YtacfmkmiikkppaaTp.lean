/-
  The reference executes a piece, whatever its kind; what the region of the execution leaves.
-/
import Derived.Test.YtacfmkmiikkppaaTo
import Derived.Test.YtacfmkmiikkppaaQc
import Derived.Test.YtacfmkmiikkppaaVh
import Derived.Test.YtacfmkmiikkppaaTi
namespace Go.Proofs.Ytacfmkmiikkppaa.Tp
open Go.ChangeShapes Go.WideShapes Go.ChangeAt Go.RowKit Ga Gb Na Nb Nc Nd_ Nf Va Vb Vd Vf Vg Vh Qa Qb Qc Qd Qi Qj Ta Tc Te Tf Tg Th Ti To
set_option linter.unusedVariables false
set_option linter.unusedSimpArgs false
set_option maxHeartbeats 1000000
set_option maxRecDepth 100000
section
variable (nb ng n cap : Nat) (ws : List Nat) (nd nn : Int) (a o ne : Nat) (A : Option Addr) (c : Nat) (ky bo : Int) (s : List Nat) (at_ m : Nat) (w : World)
def RExec (k : Int) (w : World) (nb ng n cap : Nat) (ws : List Nat) (a o ne : Nat) (s : List Nat) (at_ m : Nat) (e : Ending) (w' : World) : Prop :=
  ∃ (A2 : Option Addr) (c2 : Nat), e = .returned (.slice A2 (outM k ws at_ m).length c2) ∧ Lk (Lies .u64 w' w'.heap.size A2 (outM k ws at_ m)) ∧ Lk (RN w' nb ng n cap (wsM k a o ne s ws at_ m) true) ∧ Lk (Only (fun k => k = ng) w w')
theorem rexec_any (k : Int) (hk : k = 1 ∨ k = 2 ∨ k = 3 ∨ k = 4) (HN : Lk (RN w nb ng n cap ws true)) (hn : n ≤ 4294967296) (h1 : 1 ≤ m) (hat : at_ + m ≤ n) (hm : k = 3 ∨ k = 4 → m = 1) (h2 : k = 2 → a ≤ at_ ∧ at_ - a + m ≤ s.length) (hw : Lk (wide s)) (HL : Lk (Lies .u64 w w.heap.size A s)) (hA : Lk (∀ ad, 0 < s.length → A = some ad → ad.block ≠ ng)) (ho : o < 18446744073709551616) (hne : ne < 18446744073709551616) :
    Calls Try.prog 69 #[.pointer (some ⟨nb, 0, none⟩), (Value.agg #[Value.int IntKind.i64 k, Value.int IntKind.i64 nd, Value.int IntKind.i64 a, Value.int IntKind.i64 nn, Value.int IntKind.u64 o, Value.int IntKind.u64 ne, Value.slice A s.length c, Value.int IntKind.u64 ky, Value.int IntKind.i64 bo]), .agg #[.int .i64 at_, .int .i64 m]] w fun e w' => RExec k w nb ng n cap ws a o ne s at_ m e w' := by
  have hlen := HN.out.row.len
  rcases hk with rfl | rfl | rfl | rfl
  · refine (exec_read nb ng n cap ws nd a nn o ne A s.length c ky bo at_ m w HN hn h1 hat).mono ?_
    rintro e w' ⟨g1, c1, he, HG, HR, HB⟩
    have e1 : outM 1 ws at_ m = (ws.drop at_).take m := by unfold outM; rw [if_neg (by decide)]
    have e2 : wsM 1 a o ne s ws at_ m = ws := by unfold wsM; rw [if_neg (by decide), if_neg (by decide), if_neg (by decide)]
    have e3 : ((ws.drop at_).take m).length = m := cut_len (by omega)
    exact ⟨some ⟨g1, 0, none⟩, c1, by rw [e1, e3]; exact he, ⟨by rw [e1]; exact HR.out.lies⟩, ⟨by rw [e2]; exact Nd.below HN.out HB.out⟩, ⟨Only.of_below HB.out⟩⟩
  · have h2' := h2 rfl
    refine (exec_write nb ng n cap ws nd nn a o ne A s.length c ky bo at_ m s w HN hn h1 hat HL rfl hw.out.1 ⟨hw.out.2⟩ h2'.1 h2'.2 ⟨fun ad e => hA.out ad (by omega) e⟩).mono ?_
    rintro e w' ⟨he, HN', HO⟩
    have e1 : outM 2 ws at_ m = [] := by unfold outM; rw [if_pos rfl]
    have e2 : wsM 2 a o ne s ws at_ m = putW ws at_ ((s.drop (at_ - a)).take m) := by unfold wsM; rw [if_pos rfl]
    exact ⟨none, 0, by rw [e1]; exact he, ⟨by rw [e1]; exact Lies.none_⟩, ⟨by rw [e2]; exact HN'.out⟩, HO⟩
  · obtain rfl := hm (.inl rfl)
    refine (exec_cas nb ng n cap ws nd a nn o ne A s.length c ky bo at_ w HN hn (by omega) hne).mono ?_
    rintro e w' ⟨g1, c1, he, HG, HR, HN', HO⟩
    have e1 : outM 3 ws at_ 1 = [ws.getD at_ 0] := by unfold outM; rw [if_neg (by decide), take_one ws at_ (by omega)]
    have e2 : wsM 3 a o ne s ws at_ 1 = casW ws at_ o ne := by unfold wsM; rw [if_neg (by decide), if_pos rfl]
    exact ⟨some ⟨g1, 0, none⟩, c1, by rw [e1]; exact he, ⟨by rw [e1]; exact HR.out.lies⟩, ⟨by rw [e2]; exact HN'.out⟩, HO⟩
  · obtain rfl := hm (.inr rfl)
    refine (exec_add nb ng n cap ws nd a nn o ne A s.length c ky bo at_ w HN hn (by omega) hne).mono ?_
    rintro e w' ⟨g1, c1, he, HG, HR, HN', HO⟩
    have e1 : outM 4 ws at_ 1 = [ws.getD at_ 0] := by unfold outM; rw [if_neg (by decide), take_one ws at_ (by omega)]
    have e2 : wsM 4 a o ne s ws at_ 1 = addW ws at_ ne := by unfold wsM; rw [if_neg (by decide), if_neg (by decide), if_pos rfl]
    exact ⟨some ⟨g1, 0, none⟩, c1, by rw [e1]; exact he, ⟨by rw [e1]; exact HR.out.lies⟩, ⟨by rw [e2]; exact HN'.out⟩, HO⟩
end
/-- A verb that has not completed, of the reference's. -/
abbrev mkE (v : Mv) (A : Option Addr) (cA ex : Nat) (B : Option Addr) (cB : Nat) (r : List Nat) (slot : Int) : Pe := ⟨v.k, v.nd, v.a, v.n, v.o, v.ne, A, v.s.length, cA, v.ky, v.bo, v.s, ex, B, r.length, cB, r, slot⟩
/-- The box of the pending verb. -/
def Box (W : World) (g : Nat) (p : Pe) : Prop := W.heap[g]? = some (.cells (pcs p).toArray 112 (0, 0))
theorem Box.c {W : World} {g : Nat} {p : Pe} (h : Box W g p) (j : Nat) (u : Value) (hj : (pcs p)[j]? = some u) : W.cell? ⟨g, j, none⟩ = some u := by
  rw [cell_of_row W g j _ _ _ h]
  simpa using hj
/-- What the region of the execution leaves. -/
structure R14 (F : Nat → Prop) (W wx : World) (pb nb ng n cap : Nat) (v : Mv) (A : Option Addr) (cA ex : Nat) (slot : Int) (ro ws : List Nat) (B2 : Option Addr) (c2 : Nat) : Prop where
  box : Box wx pb (mkE v A cA ex B2 c2 ro slot)
  lies : LiesF F wx B2 ro
  rn : RN wx nb ng n cap ws true
  only : Only (fun k => k = ng ∨ k = pb) W wx
theorem r14_end {F : Nat → Prop} {W w7 : World} {pb nb ng n cap : Nat} {v : Mv} {A : Option Addr} {cA ex : Nat} {B : Option Addr} {cB : Nat} {r : List Nat} {slot : Int} {ro ws ws0 : List Nat} {B2 : Option Addr} {c2 l2 : Nat}
    (HX : Lk (Box W pb (mkE v A cA ex B cB r slot))) (HN0 : Lk (RN W nb ng n cap ws0 true)) (HF : Lk (∀ g, W.heap.size ≤ g → ¬ F g)) (HN : Lk (RN w7 nb ng n cap ws true)) (HO : Lk (Only (fun k => k = ng) W w7)) (Hown : Lk (w7.ownsRow W.heap.size 33 1 (.slice B2 l2 c2) l2 (ro.map u64v))) (hl : Lk (ro.length = l2)) :
    Lk (R14 F W (w7.setCell ⟨pb, 10, none⟩ (.slice B2 l2 c2)) pb nb ng n cap v A cA ex slot ro ws B2 c2) := by
  have hl := hl.out
  subst hl
  have hlt : pb < W.heap.size := (Array.getElem?_eq_some_iff.1 HX.out).1
  have hnb : nb ≠ pb := ne_typed HN0.out.node HX.out (by decide)
  have hng : ng ≠ pb := by obtain ⟨cur, hc⟩ := Row.typed HN0.out.row; exact ne_typed hc HX.out (by decide)
  have hb7 := (HO.out.block pb hlt (fun e => hng e.symm)).trans HX.out
  have hO := (Only.refl (fun k => k = pb) w7).setCell (p := ⟨pb, 10, none⟩) (.inl rfl) (.slice B2 ro.length c2)
  have hne : ∀ g, (Value.slice B2 ro.length c2).ownBlock = some g → g ≠ pb := fun g hg e => by have := (Hown.out.lt g hg).1; omega
  refine ⟨⟨?_, ?_, HN.out.on hO (fun e => hnb e) (fun e => hng e), ?_⟩⟩
  · have := heap_setCell_same w7 pb 10 _ _ (.slice B2 ro.length c2) hb7
    exact this
  · have h1 := owns_block (w' := w7.setCell ⟨pb, 10, none⟩ (.slice B2 ro.length c2)) Hown.out (fun g hg => Below.heap_setCell w7 ⟨pb, 10, none⟩ _ g (hne g hg))
    exact own_liesF h1 rfl (fun g hg => HF.out g hg)
  · exact (HO.out.mono (fun k hk => .inl hk)).setCell (p := ⟨pb, 10, none⟩) (.inl (.inr rfl)) _
end Go.Proofs.Ytacfmkmiikkppaa.Tp

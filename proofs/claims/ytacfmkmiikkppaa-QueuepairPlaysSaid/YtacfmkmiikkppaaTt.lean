/-
  Both pairs, seen by same.
-/
import Derived.Test.YtacfmkmiikkppaaTk
import Derived.Test.YtacfmkmiikkppaaTq
import Derived.Test.YtacfmkmiikkppaaTr
namespace Go.Proofs.Ytacfmkmiikkppaa.Tt
open Go.ChangeShapes Go.WideShapes Go.ChangeAt Go.RowKit Ga Gb Na Nb Nc Nd_ Va Vb Vd Ve Vf Vg Qa Qb Qd Qj Ta Tb Tc Td Te Tf Tg Tk Tp Tr
set_option linter.unusedVariables false
set_option linter.unusedSimpArgs false
set_option maxHeartbeats 1000000
set_option maxRecDepth 100000
/-- The same queue on both sides. -/
def Mq : List Pq → Nat → List Nat → List Pe → Prop
  | [], ex, r, qe => ex = 0 ∧ r = [] ∧ qe = []
  | p :: q, ex, r, qe => ∃ (A : Option Addr) (c : Nat) (B : Option Addr) (cB : Nat) (t : List Pe), qe = mkE p.v A c ex B cB r 0 :: t ∧ Mq q 0 [] t
theorem Mq.len : ∀ {q : List Pq} {ex : Nat} {r : List Nat} {qe : List Pe}, Mq q ex r qe → qe.length = q.length
  | [], _, _, _, h => by rw [h.2.2]; rfl
  | p :: q, _, _, _, h => by
    obtain ⟨A, c, B, cB, t, rfl, ht⟩ := h
    rw [List.length_cons, List.length_cons, Mq.len ht]
theorem Mq.add : ∀ {q : List Pq} {ex : Nat} {r : List Nat} {qe : List Pe} (p : Pq) (A : Option Addr) (c : Nat), Mq q ex r qe → Mq (q ++ [p]) ex r (qe ++ [mkE p.v A c 0 none 0 [] 0])
  | [], _, _, _, p, A, c, ⟨rfl, rfl, rfl⟩ => ⟨A, c, none, 0, [], rfl, rfl, rfl, rfl⟩
  | _ :: _, _, _, _, p, A, c, ⟨A', c', B, cB, t, rfl, ht⟩ => ⟨A', c', B, cB, _, rfl, Mq.add p A c ht⟩
section
variable {F : Nat → Prop} {x : Plc} {cl inc : Nat} {V : Value} {q : List Pq} {ex : Nat} {B : Option Addr} {cb : Nat} {r : List Nat} {Q : Value} {W W' : World} {z : Nat}
theorem ss_pp (h : World.cell? W ⟨z, 0, none⟩ = some (.pointer (some ⟨x.bp, 0, none⟩)) ∧ World.cell? W ⟨z, 2, none⟩ = some (.pointer (some ⟨x.rb, 0, none⟩)) ∧ World.cell? W ⟨x.rb, 0, none⟩ = some (.int .i64 cl) ∧ World.cell? W ⟨x.rb, 1, none⟩ = some (.int .i64 inc) ∧ World.cell? W ⟨x.rb, 2, none⟩ = some (.int .i64 0) ∧ World.cell? W ⟨x.rb, 3, none⟩ = some Q ∧ Lk (PP F W x.bp cl inc 0 V q ex B cb r)) : Lk (PP F W x.bp cl inc 0 V q ex B cb r) := h.2.2.2.2.2.2
theorem ss_on (h : World.cell? W ⟨z, 0, none⟩ = some (.pointer (some ⟨x.bp, 0, none⟩)) ∧ World.cell? W ⟨z, 2, none⟩ = some (.pointer (some ⟨x.rb, 0, none⟩)) ∧ World.cell? W ⟨x.rb, 0, none⟩ = some (.int .i64 cl) ∧ World.cell? W ⟨x.rb, 1, none⟩ = some (.int .i64 inc) ∧ World.cell? W ⟨x.rb, 2, none⟩ = some (.int .i64 0) ∧ World.cell? W ⟨x.rb, 3, none⟩ = some Q ∧ Lk (PP F W x.bp cl inc 0 V q ex B cb r)) (hb : Lk (Below W.heap.size W W')) :
    World.cell? W' ⟨z, 0, none⟩ = some (.pointer (some ⟨x.bp, 0, none⟩)) ∧ World.cell? W' ⟨z, 2, none⟩ = some (.pointer (some ⟨x.rb, 0, none⟩)) ∧ World.cell? W' ⟨x.rb, 0, none⟩ = some (.int .i64 cl) ∧ World.cell? W' ⟨x.rb, 1, none⟩ = some (.int .i64 inc) ∧ World.cell? W' ⟨x.rb, 2, none⟩ = some (.int .i64 0) ∧ World.cell? W' ⟨x.rb, 3, none⟩ = some Q ∧ Lk (PP F W' x.bp cl inc 0 V q ex B cb r) :=
  ⟨(hb.out.cell (block_lt_of_cell h.1)).trans h.1, (hb.out.cell (block_lt_of_cell h.2.1)).trans h.2.1, (hb.out.cell (block_lt_of_cell h.2.2.1)).trans h.2.2.1, (hb.out.cell (block_lt_of_cell h.2.2.2.1)).trans h.2.2.2.1, (hb.out.cell (block_lt_of_cell h.2.2.2.2.1)).trans h.2.2.2.2.1, (hb.out.cell (block_lt_of_cell h.2.2.2.2.2.1)).trans h.2.2.2.2.2.1, ⟨h.2.2.2.2.2.2.out.below hb.out⟩⟩
end
section
variable (F : Nat → Prop) (x : Plc) (cl inc : Nat) (V : Value) (B : Option Addr) (cb : Nat) (Q : Value) (ws : List Nat) (up : Bool) (w : World)
theorem same_none (h : Lk (St F w x cl inc V [] 0 B cb [] Q [] ws up)) :
    Calls Try.prog 41 #[pairV x] w fun e w' => e = .returned (.bool true) ∧ Lk (Below w.heap.size w w') := by
  unfold pairV
  have hB0 := (Below.refl _ w).alloc (Nat.le_refl _) (.cells #[.pointer (some ⟨x.bp, 0, none⟩), .pointer (some ⟨x.bn, 0, none⟩), .pointer (some ⟨x.rb, 0, none⟩), .pointer (some ⟨x.rn, 0, none⟩)] 28)
  have HP0 := Lk.mk (h.out.pp.below hB0)
  have HR0 := Lk.mk (h.out.rp.below hB0)
  have HZ0 := Lk.mk (heap_alloc_new w (.cells #[.pointer (some ⟨x.bp, 0, none⟩), .pointer (some ⟨x.bn, 0, none⟩), .pointer (some ⟨x.rb, 0, none⟩), .pointer (some ⟨x.rn, 0, none⟩)] 28))
  have HB0 := Lk.mk hB0
  clear hB0 h
  go_enter Try.func41, Try.ntmps41
  go_upto_region 1 with fail
  generalize w.alloc _ = W0 at *
  have z0 := (cell_of_row W0 w.heap.size 0 _ _ _ HZ0.out).trans rfl
  have z2 := (cell_of_row W0 w.heap.size 2 _ _ _ HZ0.out).trans rfl
  have CF := fun W hh => first_none F x.bp cl inc 0 V 0 B cb [] W hh
  go_upto_region 2 with (first
    | (go_at_call 73; (with_reducible refine (CF _ (by first | exact HP0)).mono ?_); rintro e w2 ⟨rfl, HB2⟩))
  have hB3 := (HB2.out).alloc (HB2.out.size) (.cells #[Value.int IntKind.i64 0, Value.int IntKind.i64 0, Value.int IntKind.i64 0, Value.int IntKind.i64 0, Value.int IntKind.u64 0, Value.int IntKind.u64 0, Value.slice none 0 0, Value.int IntKind.u64 0, Value.int IntKind.i64 0] 52)
  have HP3 := Lk.mk (HP0.out.below hB3)
  have HR3 := Lk.mk (HR0.out.below hB3)
  have HZ3 := Lk.mk ((hB3.block _ (Array.getElem?_eq_some_iff.1 HZ0.out).1).trans HZ0.out)
  have HB3 := Lk.mk (HB0.out.trans (hB3.mono HB0.out.size))
  clear hB3 z0 z2 HP0 HR0 HZ0 HB0
  generalize w2.alloc _ = W3 at *
  have CC := fun W hh => client_any F x.bp cl inc 0 V [] 0 B cb [] W hh
  have CI := fun W hh => inc_any F x.bp cl inc 0 V [] 0 B cb [] W hh
  have CN := fun W hh => node_any F x.bp cl inc 0 V [] 0 B cb [] W hh
  have CP := fun W hh => pending_any F x.bp cl inc 0 V [] 0 B cb [] W hh
  obtain ⟨AQ, cQ, hQ⟩ := own_slice HR3.out.own
  subst hQ
  have HH := Lk.mk (show World.cell? W3.drew ⟨w.heap.size, 0, none⟩ = some (.pointer (some ⟨x.bp, 0, none⟩)) ∧ World.cell? W3.drew ⟨w.heap.size, 2, none⟩ = some (.pointer (some ⟨x.rb, 0, none⟩)) ∧ World.cell? W3.drew ⟨x.rb, 0, none⟩ = some (.int .i64 cl) ∧ World.cell? W3.drew ⟨x.rb, 1, none⟩ = some (.int .i64 inc) ∧ World.cell? W3.drew ⟨x.rb, 2, none⟩ = some (.int .i64 0) ∧ World.cell? W3.drew ⟨x.rb, 3, none⟩ = some (.slice AQ 0 cQ) ∧ Lk (PP F W3.drew x.bp cl inc 0 V [] 0 B cb []) from ⟨(cell_of_row W3 w.heap.size 0 _ _ _ HZ3.out).trans rfl, (cell_of_row W3 w.heap.size 2 _ _ _ HZ3.out).trans rfl, HR3.out.c0, HR3.out.c1, HR3.out.c2, HR3.out.c3, ⟨HP3.out.below (Below.refl _ W3).drew⟩⟩)
  go_region_held3 (fun W' => World.cell? W' ⟨w.heap.size, 0, none⟩ = some (.pointer (some ⟨x.bp, 0, none⟩)) ∧ World.cell? W' ⟨w.heap.size, 2, none⟩ = some (.pointer (some ⟨x.rb, 0, none⟩)) ∧ World.cell? W' ⟨x.rb, 0, none⟩ = some (.int .i64 cl) ∧ World.cell? W' ⟨x.rb, 1, none⟩ = some (.int .i64 inc) ∧ World.cell? W' ⟨x.rb, 2, none⟩ = some (.int .i64 0) ∧ World.cell? W' ⟨x.rb, 3, none⟩ = some (.slice AQ 0 cQ) ∧ Lk (PP F W' x.bp cl inc 0 V [] 0 B cb [])) (first | with_reducible exact HH.out | with_reducible assumption | with_reducible exact ss_on (by assumption) (by assumption))
    (first
      | (go_at_call 15; (with_reducible refine (CC _ (ss_pp (by assumption))).mono ?_); rintro e w4 ⟨rfl, rfl⟩)
      | (go_at_call 16; (with_reducible refine (CI _ (ss_pp (by assumption))).mono ?_); rintro e w4 ⟨rfl, rfl⟩)
      | (go_at_call 17; (with_reducible refine (CN _ (ss_pp (by assumption))).mono ?_); rintro e w4 ⟨rfl, rfl⟩)
      | (go_at_call 18; (with_reducible refine (CP _ (ss_pp (by assumption))).mono ?_); rintro e w4 ⟨rfl, rfl⟩))
  have HH2 := Lk.mk (show World.cell? W3.drew.drew ⟨w.heap.size, 0, none⟩ = some (.pointer (some ⟨x.bp, 0, none⟩)) ∧ World.cell? W3.drew.drew ⟨w.heap.size, 2, none⟩ = some (.pointer (some ⟨x.rb, 0, none⟩)) ∧ World.cell? W3.drew.drew ⟨x.rb, 0, none⟩ = some (.int .i64 cl) ∧ World.cell? W3.drew.drew ⟨x.rb, 1, none⟩ = some (.int .i64 inc) ∧ World.cell? W3.drew.drew ⟨x.rb, 2, none⟩ = some (.int .i64 0) ∧ World.cell? W3.drew.drew ⟨x.rb, 3, none⟩ = some (.slice AQ 0 cQ) ∧ Lk (PP F W3.drew.drew x.bp cl inc 0 V [] 0 B cb []) from ss_on HH.out ⟨(Below.refl _ W3.drew).drew⟩)
  clear HH CC CI CN CP
  go_upto_region 4 with fail
  obtain ⟨d0, d2, e0, e1, e2, e3, HPd⟩ := HH2.out
  go_quiet (fail)
  go_wp2
  go_ret
  exact ⟨rfl, ⟨below_drewN HB3.out.drew nq⟩⟩
end
end Go.Proofs.Ytacfmkmiikkppaa.Tt

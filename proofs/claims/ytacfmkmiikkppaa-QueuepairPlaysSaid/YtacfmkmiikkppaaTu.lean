/-
  Both pairs, seen by same: queues that are not empty.
-/
import Derived.Test.YtacfmkmiikkppaaTt
import Derived.Test.YtacfmkmiikkppaaTs
import Derived.StillTailTactics
namespace Go.Proofs.Ytacfmkmiikkppaa.Tu
open Go.ChangeShapes Go.WideShapes Go.ChangeAt Go.RowKit Ga Gb Na Nb Nc Nd_ Va Vb Vd Ve Vf Vg Qa Qb Qd Qj Ta Tb Tc Td Te Tf Tg Tk Tp Tr Ts Tt
set_option linter.unusedVariables false
set_option linter.unusedSimpArgs false
set_option maxHeartbeats 1000000
set_option maxRecDepth 100000
section
variable {x : Plc} {p : Pq} {ex : Nat} {Q : Value} {W W' W5 : World} {z gq bv : Nat} {A A2 : Option Addr} {c c2 : Nat}
theorem s4_below (h : World.cell? W ⟨z, 2, none⟩ = some (.pointer (some ⟨x.rb, 0, none⟩)) ∧ World.cell? W ⟨x.rb, 3, none⟩ = some Q ∧ Lk (Below W5.heap.size W5 W) ∧ (World.cell? W ⟨gq, 0, none⟩ = some (.int .i64 p.v.k) ∧ World.cell? W ⟨gq, 1, none⟩ = some (.int .i64 p.v.nd) ∧ World.cell? W ⟨gq, 2, none⟩ = some (.int .i64 p.v.a) ∧ World.cell? W ⟨gq, 3, none⟩ = some (.int .i64 p.v.n) ∧ World.cell? W ⟨gq, 4, none⟩ = some (.int .u64 (p.v.o : Int)) ∧ World.cell? W ⟨gq, 5, none⟩ = some (.int .u64 (p.v.ne : Int)) ∧ World.cell? W ⟨gq, 6, none⟩ = some (.slice A p.v.s.length c) ∧ World.cell? W ⟨gq, 7, none⟩ = some (.int .u64 p.v.ky) ∧ World.cell? W ⟨gq, 8, none⟩ = some (.int .i64 p.v.bo) ∧ World.cell? W ⟨gq, 9, none⟩ = some (.int .i64 (ex : Int))) ∧ World.cell? W ⟨bv, 0, none⟩ = some (.int .i64 p.v.k) ∧ World.cell? W ⟨bv, 1, none⟩ = some (.int .i64 p.v.nd) ∧ World.cell? W ⟨bv, 2, none⟩ = some (.int .i64 p.v.a) ∧ World.cell? W ⟨bv, 3, none⟩ = some (.int .i64 p.v.n) ∧ World.cell? W ⟨bv, 4, none⟩ = some (.int .u64 (p.v.o : Int)) ∧ World.cell? W ⟨bv, 5, none⟩ = some (.int .u64 (p.v.ne : Int)) ∧ World.cell? W ⟨bv, 6, none⟩ = some (.slice A2 p.v.s.length c2) ∧ World.cell? W ⟨bv, 7, none⟩ = some (.int .u64 p.v.ky) ∧ World.cell? W ⟨bv, 8, none⟩ = some (.int .i64 p.v.bo)) : Lk (Below W5.heap.size W5 W) := h.2.2.1
theorem s4_on (h : World.cell? W ⟨z, 2, none⟩ = some (.pointer (some ⟨x.rb, 0, none⟩)) ∧ World.cell? W ⟨x.rb, 3, none⟩ = some Q ∧ Lk (Below W5.heap.size W5 W) ∧ (World.cell? W ⟨gq, 0, none⟩ = some (.int .i64 p.v.k) ∧ World.cell? W ⟨gq, 1, none⟩ = some (.int .i64 p.v.nd) ∧ World.cell? W ⟨gq, 2, none⟩ = some (.int .i64 p.v.a) ∧ World.cell? W ⟨gq, 3, none⟩ = some (.int .i64 p.v.n) ∧ World.cell? W ⟨gq, 4, none⟩ = some (.int .u64 (p.v.o : Int)) ∧ World.cell? W ⟨gq, 5, none⟩ = some (.int .u64 (p.v.ne : Int)) ∧ World.cell? W ⟨gq, 6, none⟩ = some (.slice A p.v.s.length c) ∧ World.cell? W ⟨gq, 7, none⟩ = some (.int .u64 p.v.ky) ∧ World.cell? W ⟨gq, 8, none⟩ = some (.int .i64 p.v.bo) ∧ World.cell? W ⟨gq, 9, none⟩ = some (.int .i64 (ex : Int))) ∧ World.cell? W ⟨bv, 0, none⟩ = some (.int .i64 p.v.k) ∧ World.cell? W ⟨bv, 1, none⟩ = some (.int .i64 p.v.nd) ∧ World.cell? W ⟨bv, 2, none⟩ = some (.int .i64 p.v.a) ∧ World.cell? W ⟨bv, 3, none⟩ = some (.int .i64 p.v.n) ∧ World.cell? W ⟨bv, 4, none⟩ = some (.int .u64 (p.v.o : Int)) ∧ World.cell? W ⟨bv, 5, none⟩ = some (.int .u64 (p.v.ne : Int)) ∧ World.cell? W ⟨bv, 6, none⟩ = some (.slice A2 p.v.s.length c2) ∧ World.cell? W ⟨bv, 7, none⟩ = some (.int .u64 p.v.ky) ∧ World.cell? W ⟨bv, 8, none⟩ = some (.int .i64 p.v.bo)) (hb : Lk (Below W.heap.size W W')) :
    World.cell? W' ⟨z, 2, none⟩ = some (.pointer (some ⟨x.rb, 0, none⟩)) ∧ World.cell? W' ⟨x.rb, 3, none⟩ = some Q ∧ Lk (Below W5.heap.size W5 W') ∧ (World.cell? W' ⟨gq, 0, none⟩ = some (.int .i64 p.v.k) ∧ World.cell? W' ⟨gq, 1, none⟩ = some (.int .i64 p.v.nd) ∧ World.cell? W' ⟨gq, 2, none⟩ = some (.int .i64 p.v.a) ∧ World.cell? W' ⟨gq, 3, none⟩ = some (.int .i64 p.v.n) ∧ World.cell? W' ⟨gq, 4, none⟩ = some (.int .u64 (p.v.o : Int)) ∧ World.cell? W' ⟨gq, 5, none⟩ = some (.int .u64 (p.v.ne : Int)) ∧ World.cell? W' ⟨gq, 6, none⟩ = some (.slice A p.v.s.length c) ∧ World.cell? W' ⟨gq, 7, none⟩ = some (.int .u64 p.v.ky) ∧ World.cell? W' ⟨gq, 8, none⟩ = some (.int .i64 p.v.bo) ∧ World.cell? W' ⟨gq, 9, none⟩ = some (.int .i64 (ex : Int))) ∧ World.cell? W' ⟨bv, 0, none⟩ = some (.int .i64 p.v.k) ∧ World.cell? W' ⟨bv, 1, none⟩ = some (.int .i64 p.v.nd) ∧ World.cell? W' ⟨bv, 2, none⟩ = some (.int .i64 p.v.a) ∧ World.cell? W' ⟨bv, 3, none⟩ = some (.int .i64 p.v.n) ∧ World.cell? W' ⟨bv, 4, none⟩ = some (.int .u64 (p.v.o : Int)) ∧ World.cell? W' ⟨bv, 5, none⟩ = some (.int .u64 (p.v.ne : Int)) ∧ World.cell? W' ⟨bv, 6, none⟩ = some (.slice A2 p.v.s.length c2) ∧ World.cell? W' ⟨bv, 7, none⟩ = some (.int .u64 p.v.ky) ∧ World.cell? W' ⟨bv, 8, none⟩ = some (.int .i64 p.v.bo) :=
  ⟨(hb.out.cell (block_lt_of_cell h.1)).trans h.1, (hb.out.cell (block_lt_of_cell h.2.1)).trans h.2.1, ⟨h.2.2.1.out.trans (hb.out.mono h.2.2.1.out.size)⟩, ⟨(hb.out.cell (block_lt_of_cell h.2.2.2.1.1)).trans h.2.2.2.1.1, (hb.out.cell (block_lt_of_cell h.2.2.2.1.2.1)).trans h.2.2.2.1.2.1, (hb.out.cell (block_lt_of_cell h.2.2.2.1.2.2.1)).trans h.2.2.2.1.2.2.1, (hb.out.cell (block_lt_of_cell h.2.2.2.1.2.2.2.1)).trans h.2.2.2.1.2.2.2.1, (hb.out.cell (block_lt_of_cell h.2.2.2.1.2.2.2.2.1)).trans h.2.2.2.1.2.2.2.2.1, (hb.out.cell (block_lt_of_cell h.2.2.2.1.2.2.2.2.2.1)).trans h.2.2.2.1.2.2.2.2.2.1, (hb.out.cell (block_lt_of_cell h.2.2.2.1.2.2.2.2.2.2.1)).trans h.2.2.2.1.2.2.2.2.2.2.1, (hb.out.cell (block_lt_of_cell h.2.2.2.1.2.2.2.2.2.2.2.1)).trans h.2.2.2.1.2.2.2.2.2.2.2.1, (hb.out.cell (block_lt_of_cell h.2.2.2.1.2.2.2.2.2.2.2.2.1)).trans h.2.2.2.1.2.2.2.2.2.2.2.2.1, (hb.out.cell (block_lt_of_cell h.2.2.2.1.2.2.2.2.2.2.2.2.2)).trans h.2.2.2.1.2.2.2.2.2.2.2.2.2⟩, (hb.out.cell (block_lt_of_cell h.2.2.2.2.1)).trans h.2.2.2.2.1, (hb.out.cell (block_lt_of_cell h.2.2.2.2.2.1)).trans h.2.2.2.2.2.1, (hb.out.cell (block_lt_of_cell h.2.2.2.2.2.2.1)).trans h.2.2.2.2.2.2.1, (hb.out.cell (block_lt_of_cell h.2.2.2.2.2.2.2.1)).trans h.2.2.2.2.2.2.2.1, (hb.out.cell (block_lt_of_cell h.2.2.2.2.2.2.2.2.1)).trans h.2.2.2.2.2.2.2.2.1, (hb.out.cell (block_lt_of_cell h.2.2.2.2.2.2.2.2.2.1)).trans h.2.2.2.2.2.2.2.2.2.1, (hb.out.cell (block_lt_of_cell h.2.2.2.2.2.2.2.2.2.2.1)).trans h.2.2.2.2.2.2.2.2.2.2.1, (hb.out.cell (block_lt_of_cell h.2.2.2.2.2.2.2.2.2.2.2.1)).trans h.2.2.2.2.2.2.2.2.2.2.2.1, (hb.out.cell (block_lt_of_cell h.2.2.2.2.2.2.2.2.2.2.2.2)).trans h.2.2.2.2.2.2.2.2.2.2.2.2⟩
end
section
variable (F : Nat → Prop) (x : Plc) (cl inc : Nat) (V : Value) (B : Option Addr) (cb : Nat) (Q : Value) (ws : List Nat) (up : Bool) (w : World)
theorem same_some (p : Pq) (q : List Pq) (ex : Nat) (r : List Nat) (A : Option Addr) (c : Nat) (BQ : Option Addr) (cB : Nat) (t : List Pe) (ht : t.length = q.length) (h : Lk (St F w x cl inc V (p :: q) ex B cb r Q (mkE p.v A c ex BQ cB r 0 :: t) ws up)) :
    Calls Try.prog 41 #[pairV x] w fun e w' => e = .returned (.bool true) ∧ Lk (Below w.heap.size w w') := by
  unfold pairV
  have hB0 := (Below.refl _ w).alloc (Nat.le_refl _) (.cells #[.pointer (some ⟨x.bp, 0, none⟩), .pointer (some ⟨x.bn, 0, none⟩), .pointer (some ⟨x.rb, 0, none⟩), .pointer (some ⟨x.rn, 0, none⟩)] 28)
  have HP0 := Lk.mk (h.out.pp.below hB0)
  have HR0 := Lk.mk (h.out.rp.below hB0)
  have HZ0 := Lk.mk (heap_alloc_new w (.cells #[.pointer (some ⟨x.bp, 0, none⟩), .pointer (some ⟨x.bn, 0, none⟩), .pointer (some ⟨x.rb, 0, none⟩), .pointer (some ⟨x.rn, 0, none⟩)] 28))
  have HB0 := Lk.mk hB0
  clear hB0 h
  go_enter Try.func41, Try.ntmps41
  go_upto_region 1 with fail
  generalize w.alloc _ = W0 at *
  have z0 := (cell_of_row W0 w.heap.size 0 _ _ _ HZ0.out).trans rfl
  have z2 := (cell_of_row W0 w.heap.size 2 _ _ _ HZ0.out).trans rfl
  have CF := fun W hh => first_some F x.bp cl inc 0 V ex B cb r W p q hh
  go_upto_region 2 with (first
    | (go_at_call 73; (with_reducible refine (CF _ (by first | exact HP0)).mono ?_); rintro e w2 ⟨A2, c2, rfl, HO2, HB2, HC2⟩))
  have hB3 := (HB2.out).alloc (HB2.out.size) (.cells #[Value.int IntKind.i64 p.v.k, Value.int IntKind.i64 p.v.nd, Value.int IntKind.i64 p.v.a, Value.int IntKind.i64 p.v.n, Value.int IntKind.u64 (p.v.o : Int), Value.int IntKind.u64 (p.v.ne : Int), Value.slice A2 p.v.s.length c2, Value.int IntKind.u64 p.v.ky, Value.int IntKind.i64 p.v.bo] 52)
  have hA3 := (Below.refl _ w2).alloc (Nat.le_refl _) (.cells #[Value.int IntKind.i64 p.v.k, Value.int IntKind.i64 p.v.nd, Value.int IntKind.i64 p.v.a, Value.int IntKind.i64 p.v.n, Value.int IntKind.u64 (p.v.o : Int), Value.int IntKind.u64 (p.v.ne : Int), Value.slice A2 p.v.s.length c2, Value.int IntKind.u64 p.v.ky, Value.int IntKind.i64 p.v.bo] 52)
  have HP3 := Lk.mk (HP0.out.below hB3)
  have HR3 := Lk.mk (HR0.out.below hB3)
  have HZ3 := Lk.mk ((hB3.block _ (Array.getElem?_eq_some_iff.1 HZ0.out).1).trans HZ0.out)
  have HB3 := Lk.mk (HB0.out.trans (hB3.mono HB0.out.size))
  have HL3 := Lk.mk ((HO2.out.lies).on_ hA3)
  have HV3 := Lk.mk (heap_alloc_new w2 (.cells #[Value.int IntKind.i64 p.v.k, Value.int IntKind.i64 p.v.nd, Value.int IntKind.i64 p.v.a, Value.int IntKind.i64 p.v.n, Value.int IntKind.u64 (p.v.o : Int), Value.int IntKind.u64 (p.v.ne : Int), Value.slice A2 p.v.s.length c2, Value.int IntKind.u64 p.v.ky, Value.int IntKind.i64 p.v.bo] 52))
  clear hA3 hB3 z0 z2 HP0 HR0 HZ0 HB0
  generalize w2.alloc _ = W3 at *
  generalize w2.heap.size = bv at *
  have CC := fun W hh => client_any F x.bp cl inc 0 V (p :: q) ex B cb r W hh
  have CI := fun W hh => inc_any F x.bp cl inc 0 V (p :: q) ex B cb r W hh
  have CN := fun W hh => node_any F x.bp cl inc 0 V (p :: q) ex B cb r W hh
  have CP := fun W hh => pending_any F x.bp cl inc 0 V (p :: q) ex B cb r W hh
  obtain ⟨gq, cQ, hQ, hq1, hq2, hqc⟩ := first_of HR3.out
  subst hQ
  have HH := Lk.mk (show World.cell? W3.drew ⟨w.heap.size, 0, none⟩ = some (.pointer (some ⟨x.bp, 0, none⟩)) ∧ World.cell? W3.drew ⟨w.heap.size, 2, none⟩ = some (.pointer (some ⟨x.rb, 0, none⟩)) ∧ World.cell? W3.drew ⟨x.rb, 0, none⟩ = some (.int .i64 cl) ∧ World.cell? W3.drew ⟨x.rb, 1, none⟩ = some (.int .i64 inc) ∧ World.cell? W3.drew ⟨x.rb, 2, none⟩ = some (.int .i64 0) ∧ World.cell? W3.drew ⟨x.rb, 3, none⟩ = some (.slice (some ⟨gq, 0, none⟩) (t.length + 1) cQ) ∧ Lk (PP F W3.drew x.bp cl inc 0 V (p :: q) ex B cb r) from ⟨(cell_of_row W3 w.heap.size 0 _ _ _ HZ3.out).trans rfl, (cell_of_row W3 w.heap.size 2 _ _ _ HZ3.out).trans rfl, HR3.out.c0, HR3.out.c1, HR3.out.c2, HR3.out.c3, ⟨HP3.out.below (Below.refl _ W3).drew⟩⟩)
  have hlq : (((t.length + 1 : Nat) : Int) == ((q.length + 1 : Nat) : Int)) = true := by rw [ht]; simp
  go_region_held3 (fun W' => World.cell? W' ⟨w.heap.size, 0, none⟩ = some (.pointer (some ⟨x.bp, 0, none⟩)) ∧ World.cell? W' ⟨w.heap.size, 2, none⟩ = some (.pointer (some ⟨x.rb, 0, none⟩)) ∧ World.cell? W' ⟨x.rb, 0, none⟩ = some (.int .i64 cl) ∧ World.cell? W' ⟨x.rb, 1, none⟩ = some (.int .i64 inc) ∧ World.cell? W' ⟨x.rb, 2, none⟩ = some (.int .i64 0) ∧ World.cell? W' ⟨x.rb, 3, none⟩ = some (.slice (some ⟨gq, 0, none⟩) (t.length + 1) cQ) ∧ Lk (PP F W' x.bp cl inc 0 V (p :: q) ex B cb r)) (first | with_reducible exact HH.out | with_reducible assumption | with_reducible exact ss_on (by assumption) (by assumption))
    (first
      | (go_at_call 15; (with_reducible refine (CC _ (ss_pp (by assumption))).mono ?_); rintro e w4 ⟨rfl, rfl⟩)
      | (go_at_call 16; (with_reducible refine (CI _ (ss_pp (by assumption))).mono ?_); rintro e w4 ⟨rfl, rfl⟩)
      | (go_at_call 17; (with_reducible refine (CN _ (ss_pp (by assumption))).mono ?_); rintro e w4 ⟨rfl, rfl⟩)
      | (go_at_call 18; (with_reducible refine (CP _ (ss_pp (by assumption))).mono ?_); rintro e w4 ⟨rfl, rfl⟩))
  clear HH CC CI CN CP
  have HS4 := Lk.mk (show World.cell? W3.drew.drew ⟨w.heap.size, 2, none⟩ = some (.pointer (some ⟨x.rb, 0, none⟩)) ∧ World.cell? W3.drew.drew ⟨x.rb, 3, none⟩ = some (.slice (some ⟨gq, 0, none⟩) (t.length + 1) cQ) ∧ Lk (Below W3.heap.size W3 W3.drew.drew) ∧ (World.cell? W3.drew.drew ⟨gq, 0, none⟩ = some (.int .i64 p.v.k) ∧ World.cell? W3.drew.drew ⟨gq, 1, none⟩ = some (.int .i64 p.v.nd) ∧ World.cell? W3.drew.drew ⟨gq, 2, none⟩ = some (.int .i64 p.v.a) ∧ World.cell? W3.drew.drew ⟨gq, 3, none⟩ = some (.int .i64 p.v.n) ∧ World.cell? W3.drew.drew ⟨gq, 4, none⟩ = some (.int .u64 (p.v.o : Int)) ∧ World.cell? W3.drew.drew ⟨gq, 5, none⟩ = some (.int .u64 (p.v.ne : Int)) ∧ World.cell? W3.drew.drew ⟨gq, 6, none⟩ = some (.slice A p.v.s.length c) ∧ World.cell? W3.drew.drew ⟨gq, 7, none⟩ = some (.int .u64 p.v.ky) ∧ World.cell? W3.drew.drew ⟨gq, 8, none⟩ = some (.int .i64 p.v.bo) ∧ World.cell? W3.drew.drew ⟨gq, 9, none⟩ = some (.int .i64 (ex : Int))) ∧ World.cell? W3.drew.drew ⟨bv, 0, none⟩ = some (.int .i64 p.v.k) ∧ World.cell? W3.drew.drew ⟨bv, 1, none⟩ = some (.int .i64 p.v.nd) ∧ World.cell? W3.drew.drew ⟨bv, 2, none⟩ = some (.int .i64 p.v.a) ∧ World.cell? W3.drew.drew ⟨bv, 3, none⟩ = some (.int .i64 p.v.n) ∧ World.cell? W3.drew.drew ⟨bv, 4, none⟩ = some (.int .u64 (p.v.o : Int)) ∧ World.cell? W3.drew.drew ⟨bv, 5, none⟩ = some (.int .u64 (p.v.ne : Int)) ∧ World.cell? W3.drew.drew ⟨bv, 6, none⟩ = some (.slice A2 p.v.s.length c2) ∧ World.cell? W3.drew.drew ⟨bv, 7, none⟩ = some (.int .u64 p.v.ky) ∧ World.cell? W3.drew.drew ⟨bv, 8, none⟩ = some (.int .i64 p.v.bo) from ⟨(cell_of_row W3 w.heap.size 2 _ _ _ HZ3.out).trans rfl, HR3.out.c3, ⟨(Below.refl _ W3).drew.drew⟩, ⟨hqc 0 _ rfl, hqc 1 _ rfl, hqc 2 _ rfl, hqc 3 _ rfl, hqc 4 _ rfl, hqc 5 _ rfl, hqc 6 _ rfl, hqc 7 _ rfl, hqc 8 _ rfl, hqc 9 _ rfl⟩, (cell_of_row W3 bv 0 _ _ _ HV3.out).trans rfl, (cell_of_row W3 bv 1 _ _ _ HV3.out).trans rfl, (cell_of_row W3 bv 2 _ _ _ HV3.out).trans rfl, (cell_of_row W3 bv 3 _ _ _ HV3.out).trans rfl, (cell_of_row W3 bv 4 _ _ _ HV3.out).trans rfl, (cell_of_row W3 bv 5 _ _ _ HV3.out).trans rfl, (cell_of_row W3 bv 6 _ _ _ HV3.out).trans rfl, (cell_of_row W3 bv 7 _ _ _ HV3.out).trans rfl, (cell_of_row W3 bv 8 _ _ _ HV3.out).trans rfl⟩)
  have hpw := HR3.out.wd _ (List.mem_cons_self ..)
  have CS := Lk.mk (fun W (hb : Below W3.heap.size W3 W) => show Calls Try.prog 74 #[(Value.agg #[Value.int IntKind.i64 p.v.k, Value.int IntKind.i64 p.v.nd, Value.int IntKind.i64 p.v.a, Value.int IntKind.i64 p.v.n, Value.int IntKind.u64 ((p.v.o : Int)), Value.int IntKind.u64 ((p.v.ne : Int)), Value.slice A2 p.v.s.length c2, Value.int IntKind.u64 p.v.ky, Value.int IntKind.i64 p.v.bo]), (Value.agg #[Value.int IntKind.i64 p.v.k, Value.int IntKind.i64 p.v.nd, Value.int IntKind.i64 p.v.a, Value.int IntKind.i64 p.v.n, Value.int IntKind.u64 ((p.v.o : Int)), Value.int IntKind.u64 ((p.v.ne : Int)), Value.slice A p.v.s.length c, Value.int IntKind.u64 p.v.ky, Value.int IntKind.i64 p.v.bo])] W (fun e w' => e = .returned (.bool true) ∧ Lk (Below W.heap.size W w')) from by
    have h := SameR_any p.v.k p.v.nd p.v.a p.v.n p.v.o p.v.ne A2 p.v.s.length c2 p.v.ky p.v.bo p.v.s p.v.k p.v.nd p.v.a p.v.n p.v.o p.v.ne A p.v.s.length c p.v.ky p.v.bo p.v.s W rfl rfl ⟨HL3.out.on_ hb⟩ ⟨(LiesF.lies hpw.a).on_ hb⟩ hpw.la.2 hpw.la.2
    rw [sameB_self] at h
    exact h)
  clear hpw
  go_upto_region 4 with fail
  obtain ⟨d2, e3, _, ⟨y0, y1, y2, y3, y4, y5, y6, y7, y8, y9⟩, v0, v1, v2, v3, v4, v5, v6, v7, v8⟩ := HS4.out
  clear HS4
  clear CF HB2 HC2 HO2 hqc
  refine wp_region_still_tail 30 (by kernel_rfl) (by kernel_rfl) ?_
  change wpStill _ _ W3.drew.drew (fun a' => wpList _ _ _ _ a' W3.drew.drew) _ _
  simp only [List.take_succ_cons, List.take_zero, List.drop_succ_cons, List.drop_zero]
  repeat still_step
  try refine wpStill_nil ?_
  go_wp2_with (first
    | (go_at_call 74; (with_reducible refine (CS.out _ (Below.refl _ W3).drew.drew).mono ?_); rintro e w4 ⟨rfl, HBs⟩))
  go_ret
  exact ⟨rfl, ⟨HB3.out.drew.drew.trans (HBs.out.mono HB3.out.size)⟩⟩
end
end Go.Proofs.Ytacfmkmiikkppaa.Tu

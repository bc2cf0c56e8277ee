/-
  The reference's Step where the node refuses.
-/
import Derived.Test.YtacfmkmiikkppaaTg
import Derived.Test.YtacfmkmiikkppaaQj
namespace Go.Proofs.Ytacfmkmiikkppaa.To
open Go.ChangeShapes Go.WideShapes Go.ChangeAt Go.RowKit Ga Gb Na Nb Nc Nd_ Nf Va Vb Vc Vd Qa Qb Qd Qi Qj Te
set_option linter.unusedVariables false
set_option linter.unusedSimpArgs false
set_option maxHeartbeats 4000000
set_option maxRecDepth 100000
section
variable {w0 W W' : World} {b g nb ng n ncap : Nat} {cl inc : Int} {k nd a nn o ne : Int} {A : Option Addr} {l c : Nat} {ky bo : Int}
theorem rn_on (h : World.cell? W ⟨nb, 0, none⟩ = some (.slice (some ⟨ng, 0, none⟩) n ncap) ∧ (World.cell? W (Addr.mk g 0 none) = some (Value.int IntKind.i64 k) ∧ World.cell? W (Addr.mk g 1 none) = some (Value.int IntKind.i64 nd) ∧ World.cell? W (Addr.mk g 2 none) = some (Value.int IntKind.i64 a) ∧ World.cell? W (Addr.mk g 3 none) = some (Value.int IntKind.i64 nn) ∧ World.cell? W (Addr.mk g 4 none) = some (Value.int IntKind.u64 o) ∧ World.cell? W (Addr.mk g 5 none) = some (Value.int IntKind.u64 ne) ∧ World.cell? W (Addr.mk g 6 none) = some (Value.slice A l c) ∧ World.cell? W (Addr.mk g 7 none) = some (Value.int IntKind.u64 ky) ∧ World.cell? W (Addr.mk g 8 none) = some (Value.int IntKind.i64 bo) ∧ Lk (Below (Array.size (World.heap w0)) w0 W))) (hb : Lk (Below W.heap.size W W')) : World.cell? W' ⟨nb, 0, none⟩ = some (.slice (some ⟨ng, 0, none⟩) n ncap) ∧ (World.cell? W' (Addr.mk g 0 none) = some (Value.int IntKind.i64 k) ∧ World.cell? W' (Addr.mk g 1 none) = some (Value.int IntKind.i64 nd) ∧ World.cell? W' (Addr.mk g 2 none) = some (Value.int IntKind.i64 a) ∧ World.cell? W' (Addr.mk g 3 none) = some (Value.int IntKind.i64 nn) ∧ World.cell? W' (Addr.mk g 4 none) = some (Value.int IntKind.u64 o) ∧ World.cell? W' (Addr.mk g 5 none) = some (Value.int IntKind.u64 ne) ∧ World.cell? W' (Addr.mk g 6 none) = some (Value.slice A l c) ∧ World.cell? W' (Addr.mk g 7 none) = some (Value.int IntKind.u64 ky) ∧ World.cell? W' (Addr.mk g 8 none) = some (Value.int IntKind.i64 bo) ∧ Lk (Below (Array.size (World.heap w0)) w0 W')) := ⟨(hb.out.cell (block_lt_of_cell h.1)).trans h.1, held_on h.2 hb⟩
end
section
variable (F : Nat → Prop) (b : Nat) (cl inc : Nat) (nd : Int) (Q : Value) (p : Pe) (q : List Pe) (nb ng n cap : Nat) (ws : List Nat) (L : Nat) (w : World)
theorem refStep_code (HR : Lk (RP F w b cl inc nd Q (p :: q))) (hF : Lk (∀ g, w.heap.size ≤ g → ¬ F g)) (HN : Lk (RN w nb ng n cap ws true)) (hq : q.length < 1024) (hL : n = 8 * L) (hL1 : 1 ≤ L ∧ L ≤ 256) (hcl : cl ≤ 5) (hinc : inc ≤ 59) (hcn : cnt p.k p.n p.l ≤ 9223372036854775807) (hbo : p.bo ≤ 9223372036854775807)
    (hR : codeM cl inc p.k p.nd p.a (cnt p.k p.n p.l) p.ky p.bo L ws true ≠ 0) :
    Calls Try.prog 36 #[.pointer (some ⟨b, 0, none⟩), .pointer (some ⟨nb, 0, none⟩)] w fun e w' => ∃ Q2 : Value, e = .returned (.tuple #[.agg #[.int .i64 (codeM cl inc p.k p.nd p.a (cnt p.k p.n p.l) p.ky p.bo L ws true), .slice none 0 0], .int .i64 p.slot, .bool true, .bool true]) ∧ Lk (RP F w' b cl inc nd Q2 q) ∧ Lk (Only (fun k => k = b) w w') := by
  have CV := Lk.mk (fun W => validR_ok p.k p.nd p.a p.n p.o p.ne p.A p.l p.c p.ky p.bo W 5 L hcn)
  have HRR := Lk.mk (rfl : codeM cl inc p.k p.nd p.a (cnt p.k p.n p.l) p.ky p.bo L ws true = codeM cl inc p.k p.nd p.a (cnt p.k p.n p.l) p.ky p.bo L ws true)
  generalize hRe : codeM cl inc p.k p.nd p.a (cnt p.k p.n p.l) p.ky p.bo L ws true = R at *
  clear HRR
  have HRR := Lk.mk hRe
  clear hRe
  have hbt : (R != 0) = true := bne_iff_ne.2 hR
  have hquo : IntKind.i64.wrap ((n : Int) / 8) = (L : Int) := by
    rw [IntWalk.i64_in _ (by omega)]
    omega
  have HQuo := Lk.mk hquo
  have hnL : n ≤ 2048 := by omega
  have HL := Lk.mk hL
  clear hquo hL
  obtain ⟨ip, hpi, hp0, hp1, hp2⟩ := info_parts pinfo
  have HFb := Lk.mk HR.out.f
  have HR := Lk.mk (RP.more_ HR.out (Nat.le_refl w.heap.size))
  go_enter Try.func36, Try.ntmps36
  go_upto_region 1 with fail
  have hB0 := (Below.refl _ w).alloc (Nat.le_refl _) (.cells #[.int .i64 0, .slice none 0 0] 54)
  have HR0 := Lk.mk (HR.out.below hB0)
  have HN0 := Lk.mk (Nd.below HN.out hB0)
  have HB0 := Lk.mk hB0
  have HZ0 := Lk.mk (heap_alloc_new w (.cells #[.int .i64 0, .slice none 0 0] 54))
  clear hB0
  generalize w.alloc _ = W0 at *
  obtain ⟨g, c, hQ, hc1, hc2, hcell⟩ := first_of HR0.out
  subst hQ
  have HTl := fun w => tail_pend g (q.length + 1) c w (by omega) hc1 hc2
  simp only [Nat.add_sub_cancel] at HTl
  have HFt := Lk.mk (From.tail (From.own (by simpa using HR0.out.own)) hc1)
  obtain ⟨x0, x1, x2, x3, x4, x5, x6, x7, x8, x9, x10, x11⟩ : W0.cell? ⟨g, 0, none⟩ = some (.int .i64 p.k) ∧ W0.cell? ⟨g, 1, none⟩ = some (.int .i64 p.nd) ∧ W0.cell? ⟨g, 2, none⟩ = some (.int .i64 p.a) ∧ W0.cell? ⟨g, 3, none⟩ = some (.int .i64 p.n) ∧ W0.cell? ⟨g, 4, none⟩ = some (.int .u64 p.o) ∧ W0.cell? ⟨g, 5, none⟩ = some (.int .u64 p.ne) ∧ W0.cell? ⟨g, 6, none⟩ = some (.slice p.A p.l p.c) ∧ W0.cell? ⟨g, 7, none⟩ = some (.int .u64 p.ky) ∧ W0.cell? ⟨g, 8, none⟩ = some (.int .i64 p.bo) ∧ W0.cell? ⟨g, 9, none⟩ = some (.int .i64 p.ex) ∧ W0.cell? ⟨g, 10, none⟩ = some (.slice p.B p.lb p.cb) ∧ W0.cell? ⟨g, 11, none⟩ = some (.int .i64 p.slot) :=
    ⟨hcell 0 _ rfl, hcell 1 _ rfl, hcell 2 _ rfl, hcell 3 _ rfl, hcell 4 _ rfl, hcell 5 _ rfl, hcell 6 _ rfl, hcell 7 _ rfl, hcell 8 _ rfl, hcell 9 _ rfl, hcell 10 _ rfl, hcell 11 _ rfl⟩
  have p3 := HR0.out.c3
  have nu := HN0.out.c1
  clear hcell
  go_upto_region 6 with fail
  clear x0 x1 x2 x3 x4 x5 x6 x7 x8 x9 x10 x11 p3 nu
  have hB1 := (Below.refl _ W0).alloc (Nat.le_refl _) (.cells #[Value.int IntKind.i64 p.k, Value.int IntKind.i64 p.nd, Value.int IntKind.i64 p.a, Value.int IntKind.i64 p.n, Value.int IntKind.u64 p.o, Value.int IntKind.u64 p.ne, Value.slice p.A p.l p.c, Value.int IntKind.u64 p.ky, Value.int IntKind.i64 p.bo, Value.int IntKind.i64 p.ex, Value.slice p.B p.lb p.cb, Value.int IntKind.i64 p.slot] 112)
  have HR1 := Lk.mk (HR0.out.below hB1)
  have HN1 := Lk.mk (Nd.below HN0.out hB1)
  have HB1 := Lk.mk (HB0.out.trans (hB1.mono HB0.out.size))
  have HZ1 := Lk.mk ((hB1.block _ (Array.getElem?_eq_some_iff.1 HZ0.out).1).trans HZ0.out)
  have HS1 := Lk.mk (show World.cell? _ ⟨W0.heap.size, 11, none⟩ = some (.int .i64 p.slot) from (cell_of_row _ W0.heap.size 11 _ _ _ (heap_alloc_new W0 (.cells #[Value.int IntKind.i64 p.k, Value.int IntKind.i64 p.nd, Value.int IntKind.i64 p.a, Value.int IntKind.i64 p.n, Value.int IntKind.u64 p.o, Value.int IntKind.u64 p.ne, Value.slice p.A p.l p.c, Value.int IntKind.u64 p.ky, Value.int IntKind.i64 p.bo, Value.int IntKind.i64 p.ex, Value.slice p.B p.lb p.cb, Value.int IntKind.i64 p.slot] 112))).trans rfl)
  have HX1 := Lk.mk (show (World.cell? ((W0.alloc (.cells #[Value.int IntKind.i64 p.k, Value.int IntKind.i64 p.nd, Value.int IntKind.i64 p.a, Value.int IntKind.i64 p.n, Value.int IntKind.u64 p.o, Value.int IntKind.u64 p.ne, Value.slice p.A p.l p.c, Value.int IntKind.u64 p.ky, Value.int IntKind.i64 p.bo, Value.int IntKind.i64 p.ex, Value.slice p.B p.lb p.cb, Value.int IntKind.i64 p.slot] 112))) (Addr.mk W0.heap.size 0 none) = some (Value.int IntKind.i64 p.k) ∧ World.cell? ((W0.alloc (.cells #[Value.int IntKind.i64 p.k, Value.int IntKind.i64 p.nd, Value.int IntKind.i64 p.a, Value.int IntKind.i64 p.n, Value.int IntKind.u64 p.o, Value.int IntKind.u64 p.ne, Value.slice p.A p.l p.c, Value.int IntKind.u64 p.ky, Value.int IntKind.i64 p.bo, Value.int IntKind.i64 p.ex, Value.slice p.B p.lb p.cb, Value.int IntKind.i64 p.slot] 112))) (Addr.mk W0.heap.size 1 none) = some (Value.int IntKind.i64 p.nd) ∧ World.cell? ((W0.alloc (.cells #[Value.int IntKind.i64 p.k, Value.int IntKind.i64 p.nd, Value.int IntKind.i64 p.a, Value.int IntKind.i64 p.n, Value.int IntKind.u64 p.o, Value.int IntKind.u64 p.ne, Value.slice p.A p.l p.c, Value.int IntKind.u64 p.ky, Value.int IntKind.i64 p.bo, Value.int IntKind.i64 p.ex, Value.slice p.B p.lb p.cb, Value.int IntKind.i64 p.slot] 112))) (Addr.mk W0.heap.size 2 none) = some (Value.int IntKind.i64 p.a) ∧ World.cell? ((W0.alloc (.cells #[Value.int IntKind.i64 p.k, Value.int IntKind.i64 p.nd, Value.int IntKind.i64 p.a, Value.int IntKind.i64 p.n, Value.int IntKind.u64 p.o, Value.int IntKind.u64 p.ne, Value.slice p.A p.l p.c, Value.int IntKind.u64 p.ky, Value.int IntKind.i64 p.bo, Value.int IntKind.i64 p.ex, Value.slice p.B p.lb p.cb, Value.int IntKind.i64 p.slot] 112))) (Addr.mk W0.heap.size 3 none) = some (Value.int IntKind.i64 p.n) ∧ World.cell? ((W0.alloc (.cells #[Value.int IntKind.i64 p.k, Value.int IntKind.i64 p.nd, Value.int IntKind.i64 p.a, Value.int IntKind.i64 p.n, Value.int IntKind.u64 p.o, Value.int IntKind.u64 p.ne, Value.slice p.A p.l p.c, Value.int IntKind.u64 p.ky, Value.int IntKind.i64 p.bo, Value.int IntKind.i64 p.ex, Value.slice p.B p.lb p.cb, Value.int IntKind.i64 p.slot] 112))) (Addr.mk W0.heap.size 4 none) = some (Value.int IntKind.u64 p.o) ∧ World.cell? ((W0.alloc (.cells #[Value.int IntKind.i64 p.k, Value.int IntKind.i64 p.nd, Value.int IntKind.i64 p.a, Value.int IntKind.i64 p.n, Value.int IntKind.u64 p.o, Value.int IntKind.u64 p.ne, Value.slice p.A p.l p.c, Value.int IntKind.u64 p.ky, Value.int IntKind.i64 p.bo, Value.int IntKind.i64 p.ex, Value.slice p.B p.lb p.cb, Value.int IntKind.i64 p.slot] 112))) (Addr.mk W0.heap.size 5 none) = some (Value.int IntKind.u64 p.ne) ∧ World.cell? ((W0.alloc (.cells #[Value.int IntKind.i64 p.k, Value.int IntKind.i64 p.nd, Value.int IntKind.i64 p.a, Value.int IntKind.i64 p.n, Value.int IntKind.u64 p.o, Value.int IntKind.u64 p.ne, Value.slice p.A p.l p.c, Value.int IntKind.u64 p.ky, Value.int IntKind.i64 p.bo, Value.int IntKind.i64 p.ex, Value.slice p.B p.lb p.cb, Value.int IntKind.i64 p.slot] 112))) (Addr.mk W0.heap.size 6 none) = some (Value.slice p.A p.l p.c) ∧ World.cell? ((W0.alloc (.cells #[Value.int IntKind.i64 p.k, Value.int IntKind.i64 p.nd, Value.int IntKind.i64 p.a, Value.int IntKind.i64 p.n, Value.int IntKind.u64 p.o, Value.int IntKind.u64 p.ne, Value.slice p.A p.l p.c, Value.int IntKind.u64 p.ky, Value.int IntKind.i64 p.bo, Value.int IntKind.i64 p.ex, Value.slice p.B p.lb p.cb, Value.int IntKind.i64 p.slot] 112))) (Addr.mk W0.heap.size 7 none) = some (Value.int IntKind.u64 p.ky) ∧ World.cell? ((W0.alloc (.cells #[Value.int IntKind.i64 p.k, Value.int IntKind.i64 p.nd, Value.int IntKind.i64 p.a, Value.int IntKind.i64 p.n, Value.int IntKind.u64 p.o, Value.int IntKind.u64 p.ne, Value.slice p.A p.l p.c, Value.int IntKind.u64 p.ky, Value.int IntKind.i64 p.bo, Value.int IntKind.i64 p.ex, Value.slice p.B p.lb p.cb, Value.int IntKind.i64 p.slot] 112))) (Addr.mk W0.heap.size 8 none) = some (Value.int IntKind.i64 p.bo) ∧ Lk (Below (Array.size (World.heap w)) w ((W0.alloc (.cells #[Value.int IntKind.i64 p.k, Value.int IntKind.i64 p.nd, Value.int IntKind.i64 p.a, Value.int IntKind.i64 p.n, Value.int IntKind.u64 p.o, Value.int IntKind.u64 p.ne, Value.slice p.A p.l p.c, Value.int IntKind.u64 p.ky, Value.int IntKind.i64 p.bo, Value.int IntKind.i64 p.ex, Value.slice p.B p.lb p.cb, Value.int IntKind.i64 p.slot] 112))))) by
    have h := heap_alloc_new W0 (.cells #[Value.int IntKind.i64 p.k, Value.int IntKind.i64 p.nd, Value.int IntKind.i64 p.a, Value.int IntKind.i64 p.n, Value.int IntKind.u64 p.o, Value.int IntKind.u64 p.ne, Value.slice p.A p.l p.c, Value.int IntKind.u64 p.ky, Value.int IntKind.i64 p.bo, Value.int IntKind.i64 p.ex, Value.slice p.B p.lb p.cb, Value.int IntKind.i64 p.slot] 112)
    exact ⟨(cell_of_row _ W0.heap.size 0 _ _ _ h).trans rfl, (cell_of_row _ W0.heap.size 1 _ _ _ h).trans rfl, (cell_of_row _ W0.heap.size 2 _ _ _ h).trans rfl, (cell_of_row _ W0.heap.size 3 _ _ _ h).trans rfl, (cell_of_row _ W0.heap.size 4 _ _ _ h).trans rfl, (cell_of_row _ W0.heap.size 5 _ _ _ h).trans rfl, (cell_of_row _ W0.heap.size 6 _ _ _ h).trans rfl, (cell_of_row _ W0.heap.size 7 _ _ _ h).trans rfl, (cell_of_row _ W0.heap.size 8 _ _ _ h).trans rfl, ⟨HB0.out.trans (hB1.mono HB0.out.size)⟩⟩)
  have HFt1 := Lk.mk (HFt.out.on hB1)
  have HQ1 := Lk.mk (fun (pp : Pe) (hpp : pp ∈ q) => HR1.out.wd pp (List.mem_cons_of_mem _ hpp))
  have HPb := Lk.mk (show w.heap.size < W0.heap.size from (Array.getElem?_eq_some_iff.1 HZ0.out).1)
  have HBl := Lk.mk HR.out.lt
  clear hB1 HR0 HN0 HB0 HZ0 HFt
  generalize W0.alloc _ = W1 at *
  generalize W0.heap.size = pb at *
  have p3 := HR1.out.c3
  have nu := HN1.out.c1
  have s11 := HS1.out
  have n0 := HN1.out.c0
  have HH := Lk.mk (show World.cell? W1.drew ⟨nb, 0, none⟩ = some (.slice (some ⟨ng, 0, none⟩) n cap) ∧ (World.cell? W1.drew (Addr.mk pb 0 none) = some (Value.int IntKind.i64 p.k) ∧ World.cell? W1.drew (Addr.mk pb 1 none) = some (Value.int IntKind.i64 p.nd) ∧ World.cell? W1.drew (Addr.mk pb 2 none) = some (Value.int IntKind.i64 p.a) ∧ World.cell? W1.drew (Addr.mk pb 3 none) = some (Value.int IntKind.i64 p.n) ∧ World.cell? W1.drew (Addr.mk pb 4 none) = some (Value.int IntKind.u64 p.o) ∧ World.cell? W1.drew (Addr.mk pb 5 none) = some (Value.int IntKind.u64 p.ne) ∧ World.cell? W1.drew (Addr.mk pb 6 none) = some (Value.slice p.A p.l p.c) ∧ World.cell? W1.drew (Addr.mk pb 7 none) = some (Value.int IntKind.u64 p.ky) ∧ World.cell? W1.drew (Addr.mk pb 8 none) = some (Value.int IntKind.i64 p.bo) ∧ Lk (Below (Array.size (World.heap w)) w W1.drew)) from ⟨n0, held_on HX1.out ⟨(Below.refl _ _).drew⟩⟩)
  clear n0
  go_upto_region 8 with fail
  have hquo := HQuo.out
  go_region_held3 (fun W' => World.cell? W' ⟨nb, 0, none⟩ = some (.slice (some ⟨ng, 0, none⟩) n cap) ∧ (World.cell? W' (Addr.mk pb 0 none) = some (Value.int IntKind.i64 p.k) ∧ World.cell? W' (Addr.mk pb 1 none) = some (Value.int IntKind.i64 p.nd) ∧ World.cell? W' (Addr.mk pb 2 none) = some (Value.int IntKind.i64 p.a) ∧ World.cell? W' (Addr.mk pb 3 none) = some (Value.int IntKind.i64 p.n) ∧ World.cell? W' (Addr.mk pb 4 none) = some (Value.int IntKind.u64 p.o) ∧ World.cell? W' (Addr.mk pb 5 none) = some (Value.int IntKind.u64 p.ne) ∧ World.cell? W' (Addr.mk pb 6 none) = some (Value.slice p.A p.l p.c) ∧ World.cell? W' (Addr.mk pb 7 none) = some (Value.int IntKind.u64 p.ky) ∧ World.cell? W' (Addr.mk pb 8 none) = some (Value.int IntKind.i64 p.bo) ∧ Lk (Below (Array.size (World.heap w)) w W'))) (first | with_reducible exact HH.out | with_reducible assumption | with_reducible exact rn_on (by assumption) (by assumption))
    (first
      | (go_at_call 66; (with_reducible refine (CV.out _).mono ?_); rintro e w2 ⟨rfl, HBv⟩))
  clear hquo HQuo HH
  have hBv : Below W1.heap.size W1 w2 := (Below.refl _ W1).drew.trans HBv.out
  clear HBv
  by_cases hv : validC p.k p.nd p.a (cnt p.k p.n p.l) 5 L = 0
  · have HR3 := Lk.mk (HR1.out.below hBv)
    have HN3 := Lk.mk (Nd.below HN1.out hBv)
    have HB3 := Lk.mk (HB1.out.trans (hBv.mono HB1.out.size))
    have HZ3 := Lk.mk ((hBv.block _ (Array.getElem?_eq_some_iff.1 HZ1.out).1).trans HZ1.out)
    have HS3 := Lk.mk ((hBv.cell (block_lt_of_cell HS1.out)).trans HS1.out)
    have HX3 := Lk.mk (held_on HX1.out ⟨hBv⟩)
    have HFt3 := Lk.mk (HFt1.out.on hBv)
    have HQ3 := Lk.mk (fun (pp : Pe) (hpp : pp ∈ q) => HR3.out.wd pp (List.mem_cons_of_mem _ hpp))
    clear HR1 HN1 HB1 HZ1 HS1 HX1 HFt1 HQ1 p3 nu s11
    have hp := valid_pos hv
    have hRc : checkC p.k p.a (cnt p.k p.n p.l) p.ky p.bo inc (atW ws (24 + cl)) (atW ws 0) (atW ws 1) = R := by rw [← HRR.out]; unfold codeM; rw [if_neg (by simp), if_neg (by simpa using hv)]
    have CD := Lk.mk (fun W => door_any cl W (by omega))
    have CAd := Lk.mk (fun W (hb : Below w.heap.size w W) => show Calls Try.prog 68 #[.pointer (some ⟨nb, 0, none⟩), .int .i64 (24 + (cl : Int))] W (fun e w' => e = .returned (.int .u64 (atW ws (24 + cl) : Int)) ∧ W = w') by
      have h := at_any nb ng n cap ws true (24 + cl) W ⟨Nd.below HN.out hb⟩ (by omega) (by omega)
      rw [show ((24 + cl : Nat) : Int) = 24 + (cl : Int) from by omega] at h
      exact h)
    have CA0 := Lk.mk (fun W (hb : Below w.heap.size w W) => show Calls Try.prog 68 #[.pointer (some ⟨nb, 0, none⟩), .int .i64 0] W (fun e w' => e = .returned (.int .u64 (atW ws 0 : Int)) ∧ W = w') from at_any nb ng n cap ws true 0 W ⟨Nd.below HN.out hb⟩ (by omega) (by omega))
    have CA1 := Lk.mk (fun W (hb : Below w.heap.size w W) => show Calls Try.prog 68 #[.pointer (some ⟨nb, 0, none⟩), .int .i64 1] W (fun e w' => e = .returned (.int .u64 (atW ws 1 : Int)) ∧ W = w') from at_any nb ng n cap ws true 1 W ⟨Nd.below HN.out hb⟩ (by omega) (by omega))
    have CC := Lk.mk (fun W => checkR_ok p.k p.nd p.a p.n p.o p.ne p.A p.l p.c p.ky p.bo W inc (atW ws (24 + cl)) (atW ws 0) (atW ws 1) hp.1 hp.2.1 (by omega) (by omega) hbo)
    rw [hRc] at CC
    rw [hv]
    go_upto_region 5 with fail
    have q0 := HR3.out.c0
    have q1 := HR3.out.c1
    have HH := Lk.mk (show World.cell? w2.drew ⟨b, 0, none⟩ = some (.int .i64 cl) ∧ World.cell? w2.drew ⟨b, 1, none⟩ = some (.int .i64 inc) ∧ (World.cell? w2.drew (Addr.mk pb 0 none) = some (Value.int IntKind.i64 p.k) ∧ World.cell? w2.drew (Addr.mk pb 1 none) = some (Value.int IntKind.i64 p.nd) ∧ World.cell? w2.drew (Addr.mk pb 2 none) = some (Value.int IntKind.i64 p.a) ∧ World.cell? w2.drew (Addr.mk pb 3 none) = some (Value.int IntKind.i64 p.n) ∧ World.cell? w2.drew (Addr.mk pb 4 none) = some (Value.int IntKind.u64 p.o) ∧ World.cell? w2.drew (Addr.mk pb 5 none) = some (Value.int IntKind.u64 p.ne) ∧ World.cell? w2.drew (Addr.mk pb 6 none) = some (Value.slice p.A p.l p.c) ∧ World.cell? w2.drew (Addr.mk pb 7 none) = some (Value.int IntKind.u64 p.ky) ∧ World.cell? w2.drew (Addr.mk pb 8 none) = some (Value.int IntKind.i64 p.bo) ∧ Lk (Below (Array.size (World.heap w)) w w2.drew)) from ⟨q0, q1, held_on HX3.out ⟨(Below.refl _ _).drew⟩⟩)
    clear q0 q1
    go_region_held3 (fun W' => World.cell? W' ⟨b, 0, none⟩ = some (.int .i64 cl) ∧ World.cell? W' ⟨b, 1, none⟩ = some (.int .i64 inc) ∧ (World.cell? W' (Addr.mk pb 0 none) = some (Value.int IntKind.i64 p.k) ∧ World.cell? W' (Addr.mk pb 1 none) = some (Value.int IntKind.i64 p.nd) ∧ World.cell? W' (Addr.mk pb 2 none) = some (Value.int IntKind.i64 p.a) ∧ World.cell? W' (Addr.mk pb 3 none) = some (Value.int IntKind.i64 p.n) ∧ World.cell? W' (Addr.mk pb 4 none) = some (Value.int IntKind.u64 p.o) ∧ World.cell? W' (Addr.mk pb 5 none) = some (Value.int IntKind.u64 p.ne) ∧ World.cell? W' (Addr.mk pb 6 none) = some (Value.slice p.A p.l p.c) ∧ World.cell? W' (Addr.mk pb 7 none) = some (Value.int IntKind.u64 p.ky) ∧ World.cell? W' (Addr.mk pb 8 none) = some (Value.int IntKind.i64 p.bo) ∧ Lk (Below (Array.size (World.heap w)) w W'))) (first | with_reducible exact HH.out | with_reducible assumption | with_reducible exact pc_on (by assumption) (by assumption))
      (first
        | (go_at_call 39; (with_reducible refine (CD.out _).mono ?_); rintro e w4 ⟨rfl, rfl⟩)
        | (go_at_call 68; (with_reducible refine (CAd.out _ (pc_below (by assumption)).out).mono ?_); rintro e w4 ⟨rfl, rfl⟩)
        | (go_at_call 68; (with_reducible refine (CA0.out _ (pc_below (by assumption)).out).mono ?_); rintro e w4 ⟨rfl, rfl⟩)
        | (go_at_call 68; (with_reducible refine (CA1.out _ (pc_below (by assumption)).out).mono ?_); rintro e w4 ⟨rfl, rfl⟩)
        | (go_at_call 67; (with_reducible refine (CC.out _).mono ?_); rintro e w4 ⟨rfl, HBc⟩))
    have hBc : Below w2.heap.size w2 w4 := (Below.refl _ w2).drew.trans HBc.out
    clear HBc HH CD CAd CA0 CA1 CC
    have HR4 := Lk.mk (HR3.out.below hBc)
    have HN4 := Lk.mk (Nd.below HN3.out hBc)
    have HB4 := Lk.mk (HB3.out.trans (hBc.mono HB3.out.size))
    have HZ4 := Lk.mk ((hBc.block _ (Array.getElem?_eq_some_iff.1 HZ3.out).1).trans HZ3.out)
    have HS4 := Lk.mk ((hBc.cell (block_lt_of_cell HS3.out)).trans HS3.out)
    have HX4 := Lk.mk (held_on HX3.out ⟨hBc⟩)
    have HFt4 := Lk.mk (HFt3.out.on hBc)
    have HQ4 := Lk.mk (fun (pp : Pe) (hpp : pp ∈ q) => HR4.out.wd pp (List.mem_cons_of_mem _ hpp))
    clear HR3 HN3 HB3 HZ3 HS3 HX3 HFt3 HQ3
    have p3 := HR4.out.c3
    have s11 := HS4.out
    have nu : True := trivial
    go_upto_region 11 with fail
    have hm1 : 0 + q.length ≤ maxLen := by unfold maxLen; omega
    have hm2 : (0 + q.length) * 128 ≤ 140737488355328 := by omega
    have HQn := Lk.mk (flat_one pcs pcs_one q)
    go_wp2_with (first
      | (at_builtin; refine wpList_onto rfl _ _ 68 rfl w4.heap.size 112 ip _ 12 128 Try.underlying68 hpi hp0 hp1 hp2 rfl (by decide) _ _ _ rfl (World.ownsRow_nil _ _ _ _) (tailA (some ⟨g, 0, none⟩) c) q.length (c - 1) (q.flatMap pcs) rfl HFt4.out HQn.out hm1 hm2 (Nat.le_refl _) ?_))
    intro v6 w6 hown6 hgrow6
    have hB6 := below_none hgrow6
    have hS6 := own_slice hown6
    obtain ⟨A6, c6, rfl⟩ := hS6
    have HPt := Lk.mk (RP.put (q2 := q) HR4.out hB6 (by simpa using hown6) (fun g hg hh => hh.elim (hF.out g (Nat.le_trans HB4.out.size hg)) (fun e => by have := (Array.getElem?_eq_some_iff.1 HZ4.out).1; omega)) (fun pp hpp => (HQ4.out pp hpp).on (Only.of_below (S := fun _ => False) hB6) (fun _ h => h.elim)))
    have hf6 := HPt.out.2.1
    have hc6 := HPt.out.2.2
    have HZ7 := Lk.mk ((Below.heap_setCell w6 ⟨b, 3, none⟩ (.slice A6 (0 + q.length) c6) w.heap.size (by have := HBl.out; show w.heap.size ≠ b; omega)).trans ((hB6.block _ (Array.getElem?_eq_some_iff.1 HZ4.out).1).trans HZ4.out))
    have HS7 := Lk.mk ((World.cell?_of_block (w := w6) (w' := w6.setCell ⟨b, 3, none⟩ (.slice A6 (0 + q.length) c6)) (a := ⟨pb, 11, none⟩) (Below.heap_setCell w6 ⟨b, 3, none⟩ _ pb (by have := HBl.out; have := HPb.out; show pb ≠ b; omega))).trans ((hB6.cell (block_lt_of_cell HS4.out)).trans HS4.out))
    have HO7 := Lk.mk ((Only.of_below (S := fun k => k = b) (HB4.out.trans (hB6.mono HB4.out.size))).setCell (p := ⟨b, 3, none⟩) (.inl rfl) (.slice A6 (0 + q.length) c6))
    have HR7 := Lk.mk HPt.out.1
    clear HPt hown6 hgrow6 hB6 p3 nu s11 HS4 HZ4 HFt4 HQ4 HR4 HN4 HQn
    rw [Nat.zero_add] at *
    go_upto_region 12 with fail
    generalize w6.setCell _ _ = W7 at *
    have z0 := (cell_of_row W7 w.heap.size 0 _ _ _ HZ7.out).trans rfl
    have z1 := (cell_of_row W7 w.heap.size 1 _ _ _ HZ7.out).trans rfl
    have g0 := frozen_of_row W7 w.heap.size 0 _ _ HZ7.out
    have g1 := frozen_of_row W7 w.heap.size 1 _ _ HZ7.out
    have hne : w.heap.size ≠ pb := Nat.ne_of_lt HPb.out
    have hne2 : pb ≠ w.heap.size := Nat.ne_of_gt HPb.out
    have HH := Lk.mk (show W7.drew.cell? ⟨pb, 11, none⟩ = some (.int .i64 p.slot) from HS7.out)
    go_region_held3 (fun W' => World.cell? W' ⟨pb, 11, none⟩ = some (.int .i64 p.slot)) (first | with_reducible exact HH.out | with_reducible assumption | exact ((World.cell?_of_block ((Below.heap_setCell _ ⟨w.heap.size, 1, none⟩ _ pb hne2).trans (Below.heap_setCell W7.drew ⟨w.heap.size, 0, none⟩ _ pb hne2))).trans HH.out))
      (fail)
    go_wp2
    have HZ8 : ((W7.setCell ⟨w.heap.size, 0, none⟩ (.int .i64 R)).setCell ⟨w.heap.size, 1, none⟩ (.slice none 0 0)).heap[w.heap.size]? = some (.cells #[.int .i64 R, .slice none 0 0] 54 (0, 0)) := heap_setCell_same _ w.heap.size 1 _ _ _ (heap_setCell_same W7 w.heap.size 0 _ _ _ HZ7.out)
    have hO := ((Only.refl (fun k => k = w.heap.size) W7).setCell (p := ⟨w.heap.size, 0, none⟩) (.inl rfl) (.int .i64 R)).setCell (p := ⟨w.heap.size, 1, none⟩) (.inl rfl) (.slice none 0 0)
    have hO2 := (HO7.out.setCell (p := ⟨w.heap.size, 0, none⟩) (.inr (Nat.le_refl _)) (.int .i64 R)).setCell (p := ⟨w.heap.size, 1, none⟩) (.inr (Nat.le_refl _)) (.slice none 0 0)
    have hR8 := RP.less_ (HR7.out.on hO (fun k hk => .inr hk) (by have := HBl.out; omega)) (fun k hk => .inl hk) HFb.out
    exact bodyPost_ret (results_four rfl _ _ w.heap.size _ rfl rfl HZ8) rfl ⟨_, rfl, ⟨hR8.below (Below.refl _ _).drew⟩, ⟨⟨hO2.os, hO2.tape, hO2.output, hO2.size, hO2.block⟩⟩⟩
  · have HR3 := Lk.mk (HR1.out.below hBv)
    have HN3 := Lk.mk (Nd.below HN1.out hBv)
    have HB3 := Lk.mk (HB1.out.trans (hBv.mono HB1.out.size))
    have HZ3 := Lk.mk ((hBv.block _ (Array.getElem?_eq_some_iff.1 HZ1.out).1).trans HZ1.out)
    have HS3 := Lk.mk ((hBv.cell (block_lt_of_cell HS1.out)).trans HS1.out)
    have HX3 := Lk.mk (held_on HX1.out ⟨hBv⟩)
    have HFt3 := Lk.mk (HFt1.out.on hBv)
    have HQ3 := Lk.mk (fun (pp : Pe) (hpp : pp ∈ q) => HR3.out.wd pp (List.mem_cons_of_mem _ hpp))
    clear HR1 HN1 HB1 HZ1 HS1 HX1 HFt1 HQ1 p3 nu s11
    have hR2 : (2 : Int) = R := by rw [← HRR.out]; unfold codeM; rw [if_neg (by simp), if_pos hv]
    have hvb : (validC p.k p.nd p.a (cnt p.k p.n p.l) 5 L != 0) = true := bne_iff_ne.2 hv
    generalize validC p.k p.nd p.a (cnt p.k p.n p.l) 5 L = vc at *
    subst hR2
    have p3 := HR3.out.c3
    have s11 := HS3.out
    have nu : True := trivial
    go_upto_region 11 with fail
    have hm1 : 0 + q.length ≤ maxLen := by unfold maxLen; omega
    have hm2 : (0 + q.length) * 128 ≤ 140737488355328 := by omega
    have HQn := Lk.mk (flat_one pcs pcs_one q)
    go_wp2_with (first
      | (at_builtin; refine wpList_onto rfl _ _ 68 rfl w2.heap.size 112 ip _ 12 128 Try.underlying68 hpi hp0 hp1 hp2 rfl (by decide) _ _ _ rfl (World.ownsRow_nil _ _ _ _) (tailA (some ⟨g, 0, none⟩) c) q.length (c - 1) (q.flatMap pcs) rfl HFt3.out HQn.out hm1 hm2 (Nat.le_refl _) ?_))
    intro v6 w6 hown6 hgrow6
    have hB6 := below_none hgrow6
    have hS6 := own_slice hown6
    obtain ⟨A6, c6, rfl⟩ := hS6
    have HPt := Lk.mk (RP.put (q2 := q) HR3.out hB6 (by simpa using hown6) (fun g hg hh => hh.elim (hF.out g (Nat.le_trans HB3.out.size hg)) (fun e => by have := (Array.getElem?_eq_some_iff.1 HZ3.out).1; omega)) (fun pp hpp => (HQ3.out pp hpp).on (Only.of_below (S := fun _ => False) hB6) (fun _ h => h.elim)))
    have hf6 := HPt.out.2.1
    have hc6 := HPt.out.2.2
    have HZ7 := Lk.mk ((Below.heap_setCell w6 ⟨b, 3, none⟩ (.slice A6 (0 + q.length) c6) w.heap.size (by have := HBl.out; show w.heap.size ≠ b; omega)).trans ((hB6.block _ (Array.getElem?_eq_some_iff.1 HZ3.out).1).trans HZ3.out))
    have HS7 := Lk.mk ((World.cell?_of_block (w := w6) (w' := w6.setCell ⟨b, 3, none⟩ (.slice A6 (0 + q.length) c6)) (a := ⟨pb, 11, none⟩) (Below.heap_setCell w6 ⟨b, 3, none⟩ _ pb (by have := HBl.out; have := HPb.out; show pb ≠ b; omega))).trans ((hB6.cell (block_lt_of_cell HS3.out)).trans HS3.out))
    have HO7 := Lk.mk ((Only.of_below (S := fun k => k = b) (HB3.out.trans (hB6.mono HB3.out.size))).setCell (p := ⟨b, 3, none⟩) (.inl rfl) (.slice A6 (0 + q.length) c6))
    have HR7 := Lk.mk HPt.out.1
    clear HPt hown6 hgrow6 hB6 p3 nu s11 HS3 HZ3 HFt3 HQ3 HR3 HN3 HQn
    rw [Nat.zero_add] at *
    go_upto_region 12 with fail
    generalize w6.setCell _ _ = W7 at *
    have z0 := (cell_of_row W7 w.heap.size 0 _ _ _ HZ7.out).trans rfl
    have z1 := (cell_of_row W7 w.heap.size 1 _ _ _ HZ7.out).trans rfl
    have g0 := frozen_of_row W7 w.heap.size 0 _ _ HZ7.out
    have g1 := frozen_of_row W7 w.heap.size 1 _ _ HZ7.out
    have hne : w.heap.size ≠ pb := Nat.ne_of_lt HPb.out
    have hne2 : pb ≠ w.heap.size := Nat.ne_of_gt HPb.out
    have HH := Lk.mk (show W7.drew.cell? ⟨pb, 11, none⟩ = some (.int .i64 p.slot) from HS7.out)
    go_region_held3 (fun W' => World.cell? W' ⟨pb, 11, none⟩ = some (.int .i64 p.slot)) (first | with_reducible exact HH.out | with_reducible assumption | exact ((World.cell?_of_block ((Below.heap_setCell _ ⟨w.heap.size, 1, none⟩ _ pb hne2).trans (Below.heap_setCell W7.drew ⟨w.heap.size, 0, none⟩ _ pb hne2))).trans HH.out))
      (fail)
    go_wp2
    have HZ8 : ((W7.setCell ⟨w.heap.size, 0, none⟩ (.int .i64 2)).setCell ⟨w.heap.size, 1, none⟩ (.slice none 0 0)).heap[w.heap.size]? = some (.cells #[.int .i64 2, .slice none 0 0] 54 (0, 0)) := heap_setCell_same _ w.heap.size 1 _ _ _ (heap_setCell_same W7 w.heap.size 0 _ _ _ HZ7.out)
    have hO := ((Only.refl (fun k => k = w.heap.size) W7).setCell (p := ⟨w.heap.size, 0, none⟩) (.inl rfl) (.int .i64 2)).setCell (p := ⟨w.heap.size, 1, none⟩) (.inl rfl) (.slice none 0 0)
    have hO2 := (HO7.out.setCell (p := ⟨w.heap.size, 0, none⟩) (.inr (Nat.le_refl _)) (.int .i64 2)).setCell (p := ⟨w.heap.size, 1, none⟩) (.inr (Nat.le_refl _)) (.slice none 0 0)
    have hR8 := RP.less_ (HR7.out.on hO (fun k hk => .inr hk) (by have := HBl.out; omega)) (fun k hk => .inl hk) HFb.out
    exact bodyPost_ret (results_four rfl _ _ w.heap.size _ rfl rfl HZ8) rfl ⟨_, rfl, ⟨hR8.below (Below.refl _ _).drew⟩, ⟨⟨hO2.os, hO2.tape, hO2.output, hO2.size, hO2.block⟩⟩⟩
end
end Go.Proofs.Ytacfmkmiikkppaa.To

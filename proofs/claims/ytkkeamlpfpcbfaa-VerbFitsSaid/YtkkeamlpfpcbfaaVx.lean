/-
  Which completions fit; the first code that is not OK.
-/
import Derived.Test.YtkkeamlpfpcbfaaVw
import Derived.Test.YtkkeamlpfpcbfaaVd
import Derived.Test.YtkkeamlpfpcbfaaVk
namespace Go.Proofs.Ytkkeamlpfpcbfaa.Vx
open Go.ChangeShapes Go.WideShapes Go.ChangeAt Go.RowKit Ga Va Vb Vd Vk Vs Vt Vw
set_option linter.unusedVariables false
set_option linter.unusedSimpArgs false
set_option maxHeartbeats 4000000
set_option maxRecDepth 10000
/-- A completion: its code and its words' slice. -/
structure Dp where
  code : Int
  A : Option Addr
  l : Nat
  c : Nat
def DCells (w : World) (p : Addr) (i : Nat) (d : Dp) : Prop := w.cell? (p.add (i * 2)) = some (.int .i64 d.code) ∧ w.cell? ⟨(p.add (i * 2)).block, (p.add (i * 2)).off + 1, none⟩ = some (.slice d.A d.l d.c)
def DRow (w : World) (A : Option Addr) (ds : List Dp) : Prop := 0 < ds.length → ∃ p, A = some p ∧ ∀ i (h : i < ds.length), DCells w p i ds[i]
def VRow0 (w : World) (A : Option Addr) (vs : List Vp) : Prop := 0 < vs.length → ∃ g, A = some ⟨g, 0, none⟩ ∧ ∀ i (h : i < vs.length), VCells w g i vs[i]
theorem DCells.on {w w' : World} {p : Addr} {i : Nat} {d : Dp} (h : DCells w p i d) (hb : Below w.heap.size w w') : DCells w' p i d := ⟨(hb.cell (block_lt_of_cell h.1)).trans h.1, (hb.cell (block_lt_of_cell h.2)).trans h.2⟩
theorem DRow.on {w w' : World} {A : Option Addr} {ds : List Dp} (h : DRow w A ds) (hb : Below w.heap.size w w') : DRow w' A ds := fun hl => by
  obtain ⟨p, e, hc⟩ := h hl
  exact ⟨p, e, fun i hi => (hc i hi).on hb⟩
theorem VRow0.on {w w' : World} {A : Option Addr} {vs : List Vp} (h : VRow0 w A vs) (hb : Below w.heap.size w w') : VRow0 w' A vs := fun hl => by
  obtain ⟨g, e, hc⟩ := h hl
  exact ⟨g, e, fun i hi => (hc i hi).on hb⟩
section
variable {k nd a n o ne : Int} {wa : Option Addr} {wl wc : Nat} {ky bo : Int} {w W w2 : World} {b : Nat} {q : Addr} {v : Value}
theorem heldc_on (h : (World.cell? W (Addr.mk b 0 none) = some (Value.int IntKind.i64 k) ∧ World.cell? W (Addr.mk b 1 none) = some (Value.int IntKind.i64 nd) ∧ World.cell? W (Addr.mk b 2 none) = some (Value.int IntKind.i64 a) ∧ World.cell? W (Addr.mk b 3 none) = some (Value.int IntKind.i64 n) ∧ World.cell? W (Addr.mk b 4 none) = some (Value.int IntKind.u64 o) ∧ World.cell? W (Addr.mk b 5 none) = some (Value.int IntKind.u64 ne) ∧ World.cell? W (Addr.mk b 6 none) = some (Value.slice wa wl wc) ∧ World.cell? W (Addr.mk b 7 none) = some (Value.int IntKind.u64 ky) ∧ World.cell? W (Addr.mk b 8 none) = some (Value.int IntKind.i64 bo) ∧ Lk (Below (Array.size (World.heap w)) w W)) ∧ W.cell? q = some v) (hb : Lk (Below W.heap.size W w2)) : (World.cell? w2 (Addr.mk b 0 none) = some (Value.int IntKind.i64 k) ∧ World.cell? w2 (Addr.mk b 1 none) = some (Value.int IntKind.i64 nd) ∧ World.cell? w2 (Addr.mk b 2 none) = some (Value.int IntKind.i64 a) ∧ World.cell? w2 (Addr.mk b 3 none) = some (Value.int IntKind.i64 n) ∧ World.cell? w2 (Addr.mk b 4 none) = some (Value.int IntKind.u64 o) ∧ World.cell? w2 (Addr.mk b 5 none) = some (Value.int IntKind.u64 ne) ∧ World.cell? w2 (Addr.mk b 6 none) = some (Value.slice wa wl wc) ∧ World.cell? w2 (Addr.mk b 7 none) = some (Value.int IntKind.u64 ky) ∧ World.cell? w2 (Addr.mk b 8 none) = some (Value.int IntKind.i64 bo) ∧ Lk (Below (Array.size (World.heap w)) w w2)) ∧ w2.cell? q = some v := ⟨held_on h.1 hb, (hb.out.cell (block_lt_of_cell h.2)).trans h.2⟩
theorem heldc_below (h : (World.cell? W (Addr.mk b 0 none) = some (Value.int IntKind.i64 k) ∧ World.cell? W (Addr.mk b 1 none) = some (Value.int IntKind.i64 nd) ∧ World.cell? W (Addr.mk b 2 none) = some (Value.int IntKind.i64 a) ∧ World.cell? W (Addr.mk b 3 none) = some (Value.int IntKind.i64 n) ∧ World.cell? W (Addr.mk b 4 none) = some (Value.int IntKind.u64 o) ∧ World.cell? W (Addr.mk b 5 none) = some (Value.int IntKind.u64 ne) ∧ World.cell? W (Addr.mk b 6 none) = some (Value.slice wa wl wc) ∧ World.cell? W (Addr.mk b 7 none) = some (Value.int IntKind.u64 ky) ∧ World.cell? W (Addr.mk b 8 none) = some (Value.int IntKind.i64 bo) ∧ Lk (Below (Array.size (World.heap w)) w W)) ∧ W.cell? q = some v) : Lk (Below w.heap.size w W) := held_below h.1
end
/-- Does a completion of dl words with this code fit a verb that returns r words? -/
def fitB (r code : Int) (dl : Nat) : Bool := decide ((code = 0 ∧ (dl : Int) = r) ∨ ((code = 4 ∨ code = 5) ∧ dl = 0))
theorem fits_any (k nd a n o ne : Int) (A : Option Addr) (l c : Nat) (ky bo : Int) (code : Int) (dA : Option Addr) (dl dc : Nat) (w : World) :
    Calls Try.prog 43 #[(Value.agg #[Value.int IntKind.i64 k, Value.int IntKind.i64 nd, Value.int IntKind.i64 a, Value.int IntKind.i64 n, Value.int IntKind.u64 o, Value.int IntKind.u64 ne, Value.slice A l c, Value.int IntKind.u64 ky, Value.int IntKind.i64 bo]), .agg #[.int .i64 code, .slice dA dl dc]] w fun e w' => e = .returned (.bool (fitB (retC k n l) code dl)) ∧ Lk (Below w.heap.size w w') := by
  have C := fun w => returns_ok k nd a n o ne A l c ky bo w
  have HR := Lk.mk (show fitB (retC k n l) code dl = decide ((code = 0 ∧ (dl : Int) = retC k n l) ∨ ((code = 4 ∨ code = 5) ∧ dl = 0)) from rfl)
  generalize fitB (retC k n l) code dl = R at *
  generalize retC k n l = r at *
  go_enter Try.func43, Try.ntmps43
  go_upto_region 1 with fail
  have hs1 : (w.alloc (.cells #[Value.int IntKind.i64 k, Value.int IntKind.i64 nd, Value.int IntKind.i64 a, Value.int IntKind.i64 n, Value.int IntKind.u64 o, Value.int IntKind.u64 ne, Value.slice A l c, Value.int IntKind.u64 ky, Value.int IntKind.i64 bo] 25)).heap.size = w.heap.size + 1 := by simp
  have HB0 := Lk.mk (((Below.refl _ w).alloc (Nat.le_refl _) (.cells #[Value.int IntKind.i64 k, Value.int IntKind.i64 nd, Value.int IntKind.i64 a, Value.int IntKind.i64 n, Value.int IntKind.u64 o, Value.int IntKind.u64 ne, Value.slice A l c, Value.int IntKind.u64 ky, Value.int IntKind.i64 bo] 25)))
  have HX0 := Lk.mk (Bx.alloc w k nd a n o ne A l c ky bo 25)
  generalize w.alloc _ = w1 at *
  have HB1 := Lk.mk (HB0.out.alloc HB0.out.size (.cells #[.int .i64 code, .slice dA dl dc] 55))
  have HX1 := Lk.mk (HX0.out.on ((Below.refl _ w1).alloc (Nat.le_refl _) (.cells #[.int .i64 code, .slice dA dl dc] 55)))
  have hd0 := (cell_of_row _ w1.heap.size 0 _ _ _ (heap_alloc_new w1 (.cells #[.int .i64 code, .slice dA dl dc] 55))).trans rfl
  have hd1 := (cell_of_row _ w1.heap.size 1 _ _ _ (heap_alloc_new w1 (.cells #[.int .i64 code, .slice dA dl dc] 55))).trans rfl
  rw [hs1] at hd0 hd1
  generalize w1.alloc _ = W at *
  clear HB0 HX0 hs1
  by_cases c0 : code = 0
  · have hr := Lk.mk (show decide ((dl : Int) = r) = R by rw [HR.out]; simp only [decide_eq_decide]; omega)
    subst c0
    have HH := Lk.mk (And.intro (held_mk HX1.out HB1) (show W.drew.cell? ⟨w.heap.size + 1, 1, none⟩ = some (.slice dA dl dc) from hd1))
    clear HR
    go_upto_region 3 with fail
    go_region_held3 (fun W' => (World.cell? W' (Addr.mk w.heap.size 0 none) = some (Value.int IntKind.i64 k) ∧ World.cell? W' (Addr.mk w.heap.size 1 none) = some (Value.int IntKind.i64 nd) ∧ World.cell? W' (Addr.mk w.heap.size 2 none) = some (Value.int IntKind.i64 a) ∧ World.cell? W' (Addr.mk w.heap.size 3 none) = some (Value.int IntKind.i64 n) ∧ World.cell? W' (Addr.mk w.heap.size 4 none) = some (Value.int IntKind.u64 o) ∧ World.cell? W' (Addr.mk w.heap.size 5 none) = some (Value.int IntKind.u64 ne) ∧ World.cell? W' (Addr.mk w.heap.size 6 none) = some (Value.slice A l c) ∧ World.cell? W' (Addr.mk w.heap.size 7 none) = some (Value.int IntKind.u64 ky) ∧ World.cell? W' (Addr.mk w.heap.size 8 none) = some (Value.int IntKind.i64 bo) ∧ Lk (Below (Array.size (World.heap w)) w W')) ∧ W'.cell? ⟨w.heap.size + 1, 1, none⟩ = some (.slice dA dl dc)) (first | exact HH.out | assumption | exact heldc_on (by assumption) (by assumption))
      (first | (go_at_call 20; refine (C _).mono ?_; rintro e w2 ⟨rfl, HB2⟩))
    all_goals have HF := Lk.mk (heldc_below (by assumption))
    all_goals go_wp2
    all_goals go_ret
    all_goals first | exact ⟨ret_bool hr.out, HF.out⟩ | exact ⟨rfl, HF.out⟩
  by_cases c4 : code = 4
  · have hr := Lk.mk (show decide ((dl : Int) = 0) = R by rw [HR.out]; simp only [decide_eq_decide]; omega)
    subst c4
    clear HR C
    go_wp2
    go_ret
    first | exact ⟨ret_bool hr.out, HB1⟩ | exact ⟨rfl, HB1⟩
  by_cases c5 : code = 5
  · have hr := Lk.mk (show decide ((dl : Int) = 0) = R by rw [HR.out]; simp only [decide_eq_decide]; omega)
    subst c5
    clear HR C
    go_wp2
    go_ret
    first | exact ⟨ret_bool hr.out, HB1⟩ | exact ⟨rfl, HB1⟩
  · have hr := Lk.mk (show false = R by rw [HR.out]; symm; apply decide_eq_false; omega)
    clear HR C
    go_wp2
    go_ret
    first | exact ⟨ret_bool hr.out, HB1⟩ | exact ⟨rfl, HB1⟩
def AllFit (vs : List Vp) (ds : List Dp) : Prop := vs.length = ds.length ∧ ∀ i, (h : i < vs.length ∧ i < ds.length) → fitB (retC (vs[i]'h.1).v.k (vs[i]'h.1).v.n (vs[i]'h.1).l) (ds[i]'h.2).code (ds[i]'h.2).l = true
noncomputable def fitA (vs : List Vp) (ds : List Dp) : Bool := @decide (AllFit vs ds) (Classical.propDecidable _)
theorem fitA_true {vs : List Vp} {ds : List Dp} (h : AllFit vs ds) : fitA vs ds = true := by unfold fitA; exact @decide_eq_true _ (Classical.propDecidable _) h
theorem fitA_false {vs : List Vp} {ds : List Dp} (h : ¬ AllFit vs ds) : fitA vs ds = false := by unfold fitA; exact @decide_eq_false _ (Classical.propDecidable _) h
theorem eqfd_any (A1 A2 : Option Addr) (n c1 m c2 : Nat) (vs : List Vp) (us : List Dp) (w : World) (hn : vs.length = n) (hm : us.length = m) (H1 : Lk (VRow0 w A1 vs)) (H2 : Lk (DRow w A2 us)) (hn2 : n ≤ 4294967296) (hm2 : m ≤ 4294967296) :
    Calls Try.prog 42 #[.slice A1 n c1, .slice A2 m c2, .func (.func 43) #[] #[]] w fun e w' => e = .returned (.bool (fitA vs us)) ∧ Lk (Below w.heap.size w w') := by
  go_enter Try.func42, Try.ntmps42
  by_cases hne : n = m
  · subst hne
    have HN := Lk.mk hn
    have HM := Lk.mk hm
    have h0 : Lk (Below w.heap.size w w) := ⟨Below.refl _ _⟩
    have HP0 : Lk (∀ i, i < 0 → (h : i < vs.length ∧ i < us.length) → fitB (retC (vs[i]'h.1).v.k (vs[i]'h.1).v.n (vs[i]'h.1).l) (us[i]'h.2).code (us[i]'h.2).l = true) := ⟨fun i hi => absurd hi (by omega)⟩
    clear hn hm
    go_wp2_with fail
    go_loopw [17] (fun s wr => ∃ k : Nat, k ≤ n ∧ s = .int .i64 k ∧ Lk (∀ i, i < k → (h : i < vs.length ∧ i < us.length) → fitB (retC (vs[i]'h.1).v.k (vs[i]'h.1).v.n (vs[i]'h.1).l) (us[i]'h.2).code (us[i]'h.2).l = true) ∧ Lk (Below w.heap.size w wr)) (fun s _ => n - (intOf s).toNat)
    case atStart => exact ⟨0, by omega, rfl, HP0, h0⟩
    case round =>
      clear HP0 h0
      obtain ⟨k, hk, rfl, HP, HB⟩ := hrel
      by_cases hlt : k < n
      · have i1 : k < vs.length := by have := HN.out; omega
        have i2 : k < us.length := by have := HM.out; omega
        obtain ⟨g1, rfl, hc1⟩ := H1.out (by omega)
        obtain ⟨g2, rfl, hc2⟩ := H2.out (by omega)
        have HV1 := Lk.mk (((hc1 k i1).on HB.out))
        have HV2 := Lk.mk (((hc2 k i2).on HB.out))
        have HF := Lk.mk (fun (h : fitB (retC vs[k].v.k vs[k].v.n vs[k].l) us[k].code us[k].l = false) => fitA_false (fun (hA : AllFit vs us) => by have := hA.2 k ⟨i1, i2⟩; rw [h] at this; cases this))
        have HT := Lk.mk (fun (h : fitB (retC vs[k].v.k vs[k].v.n vs[k].l) us[k].code us[k].l = true) (i : Nat) (hi : i < k + 1) (hh : i < vs.length ∧ i < us.length) => if hik : i < k then HP.out i hik hh else by
          obtain rfl : i = k := by omega
          exact h)
        clear hc1 hc2 HP
        generalize vs[k] = p at *
        generalize us[k] = q at *
        obtain ⟨⟨pk, pnd, pa, pn, po, pne, pky, pbo, ps⟩, pA, pl, pc⟩ := p
        obtain ⟨qc, qA, ql, qp⟩ := q
        obtain ⟨x0, x1, x2, x3, x4, x5, x6, x7, x8⟩ := HV1.out
        obtain ⟨y0, y1⟩ := HV2.out
        dsimp only at x0 x1 x2 x3 x4 x5 x6 x7 x8 y0 y1
        clear i1 i2
        go_upto_region 6 with fail
        clear x0 x1 x2 x3 x4 x5 x6 x7 x8 y0 y1 HV1
        have hba := (Below.refl wr.heap.size wr).alloc (Nat.le_refl _) (.cells #[Value.int IntKind.i64 pk, Value.int IntKind.i64 pnd, Value.int IntKind.i64 pa, Value.int IntKind.i64 pn, Value.int IntKind.u64 po, Value.int IntKind.u64 pne, Value.slice pA pl pc, Value.int IntKind.u64 pky, Value.int IntKind.i64 pbo] 25)
        have HBa := Lk.mk (HB.out.trans (hba.mono HB.out.size))
        have HXa := Lk.mk (Bx.alloc wr pk pnd pa pn po pne pA pl pc pky pbo 25)
        have HVa2 := Lk.mk (DCells.on (d := ⟨qc, qA, ql, qp⟩) HV2.out hba)
        have hsa : (wr.alloc (.cells #[Value.int IntKind.i64 pk, Value.int IntKind.i64 pnd, Value.int IntKind.i64 pa, Value.int IntKind.i64 pn, Value.int IntKind.u64 po, Value.int IntKind.u64 pne, Value.slice pA pl pc, Value.int IntKind.u64 pky, Value.int IntKind.i64 pbo] 25)).heap.size = wr.heap.size + 1 := by simp
        clear hba HB HV2
        generalize wr.alloc _ = wa at *
        obtain ⟨y0, y1⟩ := HVa2.out
        dsimp only at y0 y1
        go_upto_region 7 with fail
        clear y0 y1
        have hbb := (Below.refl wa.heap.size wa).alloc (Nat.le_refl _) (.cells #[.int .i64 qc, .slice qA ql qp] 55)
        have HBb := Lk.mk (HBa.out.trans (hbb.mono HBa.out.size))
        have HXb := Lk.mk (HXa.out.on hbb)
        have y0 := (cell_of_row _ wa.heap.size 0 _ _ _ (heap_alloc_new wa (.cells #[.int .i64 qc, .slice qA ql qp] 55))).trans rfl
        have y1 := (cell_of_row _ wa.heap.size 1 _ _ _ (heap_alloc_new wa (.cells #[.int .i64 qc, .slice qA ql qp] 55))).trans rfl
        rw [hsa] at y0 y1
        clear hbb HBa HXa HVa2 hsa
        generalize wa.alloc _ = wb at *
        have CS := fits_any pk pnd pa pn po pne pA pl pc pky pbo qc qA ql qp wb
        obtain ⟨x0, x1, x2, x3, x4, x5, x6, x7, x8⟩ := HXb.out
        cases hs : fitB (retC pk pn pl) qc ql with
        | true =>
          rw [hs] at CS
          have HT2 := Lk.mk (HT.out hs)
          clear HT HF hs
          go_wp2_with fail
          refine CS.mono ?_
          rintro e wz ⟨rfl, HBz⟩
          have HBn := Lk.mk (HBb.out.trans (HBz.out.mono HBb.out.size))
          clear HBb HBz HXb CS x0 x1 x2 x3 x4 x5 x6 x7 x8 y0 y1
          go_wp2_with fail
          go_roundw
          case rel => exact ⟨k + 1, by omega, (by first | rfl | go_num), HT2, HBn⟩
          case measure => simp [intOf] <;> omega
        | false =>
          rw [hs] at CS
          have HF2 := Lk.mk (HF.out hs)
          clear HT HF hs
          go_wp2_with fail
          refine CS.mono ?_
          rintro e wz ⟨rfl, HBz⟩
          have HBn := Lk.mk (HBb.out.trans (HBz.out.mono HBb.out.size))
          go_wp2
          go_ret
          exact ⟨ret_bool HF2.out.symm, HBn⟩
      · obtain rfl : k = n := by omega
        have he := Lk.mk (fitA_true (vs := vs) (ds := us) ⟨by rw [HN.out, HM.out], fun i hh => HP.out i (by have := HN.out; omega) hh⟩)
        go_wp2
        go_ret
        exact ⟨ret_bool he.out.symm, HB⟩
  · have hf := Lk.mk (fitA_false (fun h => hne (by rw [← hn, ← hm]; exact h.1)))
    clear hn hm
    go_wp2
    go_ret
    exact ⟨ret_bool hf.out.symm, ⟨Below.refl _ _⟩⟩
theorem Fit_any (A1 A2 : Option Addr) (n c1 m c2 : Nat) (vs : List Vp) (us : List Dp) (w : World) (hn : vs.length = n) (hm : us.length = m) (H1 : Lk (VRow0 w A1 vs)) (H2 : Lk (DRow w A2 us)) (hn2 : n ≤ 4294967296) (hm2 : m ≤ 4294967296) :
    Calls Try.prog 28 #[.slice A1 n c1, .slice A2 m c2] w fun e w' => e = .returned (.bool (fitA vs us)) ∧ Lk (Below w.heap.size w w') := by
  have C := eqfd_any A1 A2 n c1 m c2 vs us w hn hm H1 H2 hn2 hm2
  clear hn hm H1 H2
  go_enter Try.func28, Try.ntmps28
  go_wp2_with fail
  refine C.mono ?_
  rintro e w2 ⟨rfl, HB⟩
  go_wp2
  go_ret
  exact ⟨rfl, HB⟩
end Go.Proofs.Ytkkeamlpfpcbfaa.Vx

/-
  Contract of the hand's Record.
-/
import Derived.Test.YtdodigfojbijfaaRs
namespace Go.Proofs.Ytdodigfojbijfaa.Rt
open Go.ChangeShapes Go.WideShapes Go.ChangeAt Go.RowKit Ga Gb Ra Rb Rc Rd Re Rf Rg Rh Ri Rj Rk Rl Rm Rn Ro Rp Rr Rs Un
set_option linter.unusedVariables false
set_option linter.unusedSimpArgs false
set_option maxRecDepth 10000
set_option maxHeartbeats 1000000

/-- A result's block of two cells at its zero value, of any type, as calls go on. -/
structure Zt (T : TypeId) (w W : World) : Prop where
  z : W.heap[w.heap.size]? = some (.cells #[.int .i64 0, .slice none 0 0] T (0, 0))
  below : Below w.heap.size w W
theorem Zt.start (T : TypeId) (w : World) : Zt T w (w.alloc (.cells #[.int .i64 0, .slice none 0 0] T)) := ⟨heap_alloc_new _ _, (Below.refl _ _).alloc (Nat.le_refl _) _⟩
theorem Zt.on {T : TypeId} {w W W' : World} (h : Zt T w W) (hb : Below W.heap.size W W') : Zt T w W' := ⟨(hb.block _ (Array.getElem?_eq_some_iff.1 h.z).1).trans h.z, h.below.trans (hb.mono h.below.size)⟩
theorem Zt.set {T : TypeId} {w W : World} {p : Addr} {v : Value} (h : Zt T w W) (hp : w.heap.size < p.block) : Zt T w (W.setCell p v) := ⟨(Below.heap_setCell W p v w.heap.size (by omega)).trans h.z, h.below.setCell (by omega) v⟩
theorem record_any (A : Option Addr) (zs : List Int) (len cap : Nat) (seq L : Int) (w : World) (h : IsRow .i64 w A len cap zs) (hlen : len ≤ 20) (hL : 98 ≤ L ∧ L ≤ 256) (n0 : -9223372036854775808 ≤ seq) (n1 : seq ≤ 9223372036854775807) :
    Calls Try.prog 9 #[.int .i64 seq, .slice A len cap, .int .i64 L] w fun e w' => ∃ A' c', e = .returned (rcv (recS seq) A' (recL seq L (zs.take len)).length c') ∧ Lk (Pt w w.heap.size w' (.slice A' (recL seq L (zs.take len)).length c') (recL seq L (zs.take len))) := by
  have HZ0 := Lk.mk (Zt.start 25 w)
  have hrow : ∀ o, IsRow .i64 (w.alloc o) A len cap zs := fun o => by
    rcases h with h | ⟨x, h1, h2, h3, h4, h5, h6⟩
    · exact .inl h
    · exact .inr ⟨x, h1, h2, h3, h4, fun i hi => ((one_alloc w o).cell (block_lt_of_cell (h5 i hi))).trans (h5 i hi), h6⟩
  have CP := Lk.mk (pages_any A zs len cap L _ (hrow (.cells #[.int .i64 0, .slice none 0 0] 25)) hlen (by omega))
  have C1 := Lk.mk (fun W => pick_any seq 1000 W (by decide) (by decide) n0 n1)
  have h2 := pk_lt seq 1000 (by decide)
  have HS := Lk.mk (show recS seq = (pk seq 1000 : Int) + 1 from rfl)
  have HR := Lk.mk (show recL seq L (zs.take len) = if (pgsH L 12 (zs.take len)).length = 0 then [hpg seq L] else pgsH L 12 (zs.take len) from rfl)
  have CG := Lk.mk (fun W => page_any seq L W (by omega) n0 n1)
  have hl12 : (pgsH L 12 (zs.take len)).length ≤ 12 := by
    have := (pgsH_nice L 12 (by decide) (zs.take len) (zs.take len).length (Nat.le_refl _)).2.1
    rwa [List.take_length] at this
  unfold rcv
  rw [HS.out]
  generalize recL seq L (zs.take len) = rl at *
  generalize pgsH L 12 (zs.take len) = l at *
  generalize hpg seq L = p at *
  generalize pk seq 1000 = s at *
  obtain ⟨n, hn⟩ : ∃ n, l.length = n := ⟨_, rfl⟩
  have HLn := Lk.mk hn
  rw [hn] at HR hl12
  clear hn hrow h HS
  unfold Pg.val at CG
  go_enter Try.func9, Try.ntmps9
  go_upto_region 2 with (first
    | (go_at_call 10; refine (C1.out _).mono ?_; rintro e w' ⟨rfl, rfl⟩)
    | (go_at_call 34; refine CP.out.mono ?_; rintro e w1 ⟨v1, rfl, HP⟩; have hF := HP.out.form; rw [HLn.out] at hF; obtain ⟨A1, c1, rfl, hc1, hc1', _⟩ := hF))
  have HZ1 := Lk.mk ((HZ0.out.on HP.out.below).on (one_alloc w1 (.cells #[.int .i64 ((s : Int) + 1), .slice A1 n c1] 25)))
  have HP1 := Lk.mk (HP.out.on (one_alloc w1 (.cells #[.int .i64 ((s : Int) + 1), .slice A1 n c1] 25)))
  have HG : Lk (w.heap.size < w1.heap.size) := ⟨by have := HP.out.below.size; simp at this; omega⟩
  have HRn := Lk.mk (heap_alloc_new w1 (.cells #[.int .i64 ((s : Int) + 1), .slice A1 n c1] 25))
  obtain ⟨g, hg⟩ : ∃ g, w1.heap.size = g := ⟨_, rfl⟩
  rw [hg] at HG HRn ⊢
  have HBg : Lk (∀ k, (Value.slice A1 n c1).ownBlock = some k → k ≠ g) := ⟨fun k hk => by have := (HP.out.own.lt k hk).2; omega⟩
  clear hg HP HZ0 CP C1
  generalize w1.alloc _ = W at *
  obtain ⟨r0, r1, r2, r3⟩ := two_cells HRn.out
  obtain ⟨z0, z1, z2, z3⟩ := two_cells HZ1.out.z
  by_cases h0 : n = 0
  · rw [if_pos h0] at HR
    have h0i : ((n : Int) == 0) = true := by simp [h0]
    go_upto_region 4 with (first
      | (go_at_call 29; refine (CG.out _).mono ?_; rintro e W3 ⟨rfl, H3⟩; have HZ3 := Lk.mk ((HZ1.out.on H3.out).on (one_alloc W3 (.cells #[.int .i64 p.line, .int .u64 (p.head : Int), .int .u64 (p.a : Int), .int .u64 (p.b : Int), .int .u64 (p.c : Int), .int .u64 (p.d : Int), .int .u64 (p.e : Int), .int .u64 (p.f : Int), .int .u64 (p.g : Int)] 31))); have HR3 := Lk.mk (((H3.out.trans ((one_alloc W3 (.cells #[.int .i64 p.line, .int .u64 (p.head : Int), .int .u64 (p.a : Int), .int .u64 (p.b : Int), .int .u64 (p.c : Int), .int .u64 (p.d : Int), .int .u64 (p.e : Int), .int .u64 (p.f : Int), .int .u64 (p.g : Int)] 31)).mono H3.out.size)).block g (Array.getElem?_eq_some_iff.1 HRn.out).1).trans HRn.out); obtain ⟨r0, r1, r2, r3⟩ := two_cells HR3.out))
    have HO3 : Lk ((W3.alloc (.cells #[.int .i64 p.line, .int .u64 (p.head : Int), .int .u64 (p.a : Int), .int .u64 (p.b : Int), .int .u64 (p.c : Int), .int .u64 (p.d : Int), .int .u64 (p.e : Int), .int .u64 (p.f : Int), .int .u64 (p.g : Int)] 31)).ownsRow W3.heap.size 31 9 (.slice (some ⟨W3.heap.size, 0, none⟩) 1 1) 1 p.cells) := ⟨World.ownsRow_lit (base := W3.heap.size) (e := 31) (size := 9) W3 p.arr 1 (Nat.le_refl _) (by decide) rfl⟩
    have HL3 : Lk (g < W3.heap.size) := ⟨by have h1 := (Array.getElem?_eq_some_iff.1 HRn.out).1; have h2 := H3.out.size; omega⟩
    have HZ5 := Lk.mk (HZ3.out.set (p := ⟨g, 1, none⟩) (v := .slice (some ⟨W3.heap.size, 0, none⟩) 1 1) HG.out)
    have HR5 := Lk.mk (heap_setCell_same (W3.alloc (.cells #[.int .i64 p.line, .int .u64 (p.head : Int), .int .u64 (p.a : Int), .int .u64 (p.b : Int), .int .u64 (p.c : Int), .int .u64 (p.d : Int), .int .u64 (p.e : Int), .int .u64 (p.f : Int), .int .u64 (p.g : Int)] 31)) g 1 _ _ (.slice (some ⟨W3.heap.size, 0, none⟩) 1 1) HR3.out)
    have HO5 := Lk.mk (owns_block (w' := (W3.alloc (.cells #[.int .i64 p.line, .int .u64 (p.head : Int), .int .u64 (p.a : Int), .int .u64 (p.b : Int), .int .u64 (p.c : Int), .int .u64 (p.d : Int), .int .u64 (p.e : Int), .int .u64 (p.f : Int), .int .u64 (p.g : Int)] 31)).setCell ⟨g, 1, none⟩ (.slice (some ⟨W3.heap.size, 0, none⟩) 1 1)) HO3.out (fun k hk => Below.heap_setCell _ ⟨g, 1, none⟩ _ k (by have h1 := (HO3.out.lt k hk).1; have h2 := HL3.out; show k ≠ g; omega)))
    have HGl : Lk (w.heap.size < W3.heap.size) := ⟨by have h1 := HG.out; have h2 := HL3.out; omega⟩
    clear HO3 HZ3 HR3 HZ1 HP1 HRn HBg z0 z1 z2 z3 r0 r1 r2 r3 H3 CG
    generalize (W3.alloc _).setCell _ _ = W5 at *
    generalize W3.heap.size = g3 at *
    have r0 := (cell_of_row W5 g 0 _ _ _ HR5.out).trans rfl
    have r1 := (cell_of_row W5 g 1 _ _ _ HR5.out).trans rfl
    obtain ⟨z0, z1, z2, z3⟩ := two_cells HZ5.out.z
    go_wp2
    refine bodyPost_ret (results_cell_row rfl _ _ w.heap.size 25 #[.int .i64 ((s : Int) + 1), .slice (some ⟨g3, 0, none⟩) 1 1] (0, 0) _ rfl (two_set _ _ _ _ HZ5.out.z) rcv_under rfl (by kernel_rfl)) rfl ?_
    rw [HR.out]
    exact ⟨some ⟨g3, 0, none⟩, 1, rfl, ⟨pt_two (W0 := W5) (B := g3) _ _ ⟨by simpa using HO5.out, Below.refl _ _⟩ HZ5.out.below HGl.out⟩⟩
  · rw [if_neg h0] at HR
    have h0i : ((n : Int) == 0) = false := by simp [h0]
    go_wp2
    refine bodyPost_ret (results_cell_row rfl _ _ w.heap.size 25 #[.int .i64 ((s : Int) + 1), .slice A1 n c1] (0, 0) _ rfl (two_set _ _ _ _ HZ1.out.z) rcv_under rfl (by kernel_rfl)) rfl ?_
    rw [HR.out, HLn.out]
    exact ⟨A1, c1, rfl, ⟨pt_two _ _ HP1.out HZ1.out.below (by simp)⟩⟩
end Go.Proofs.Ytdodigfojbijfaa.Rt

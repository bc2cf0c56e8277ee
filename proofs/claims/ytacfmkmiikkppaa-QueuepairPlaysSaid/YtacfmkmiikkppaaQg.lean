/-
  The law's verb made of raw numbers.
-/
import Derived.Test.YtacfmkmiikkppaaQf
import Derived.Test.YtacfmkmiikkppaaVe
import Derived.Laws.ResultCell
namespace Go.Proofs.Ytacfmkmiikkppaa.Qg
open Go.ChangeShapes Go.WideShapes Go.ChangeAt Go.RowKit Ga Gb Va Vb Ve Qd
set_option linter.unusedVariables false
set_option linter.unusedSimpArgs false
set_option maxHeartbeats 4000000
set_option maxRecDepth 100000
def ndOf (key : Int) : Int := if pk key 13 = 12 then 1 else 0
theorem lies_blk2 {kd : IntKind} {w w' : World} {B : Nat} {A : Option Addr} {l : List Nat} (h : Lies kd w B A l) (hne : ∀ ad, A = some ad → ad.block < B → w'.heap[ad.block]? = w.heap[ad.block]?) (hs : B ≤ w'.heap.size) : Lies kd w' w'.heap.size A l := fun hp => by
  obtain ⟨ad, e, hb, hc⟩ := h hp
  refine ⟨ad, e, by omega, fun j hj => ?_⟩
  have := World.cell?_of_block (w := w) (w' := w') (a := ad.add j) (by rw [block_of_add]; exact hne ad e hb)
  exact this.trans (hc j hj)
section
variable (kind at_ n key boot : Int) (x y : Nat) (w : World)
theorem of5_any (k0 : -9223372036854775808 ≤ kind) (k1 : kind ≤ 9223372036854775807) (a0 : -9223372036854775808 ≤ at_) (a1 : at_ ≤ 9223372036854775807)
    (n0 : -9223372036854775808 ≤ n) (n1 : n ≤ 9223372036854775807) (e0 : -9223372036854775808 ≤ key) (e1 : key ≤ 9223372036854775807) (b0 : -9223372036854775808 ≤ boot) (b1 : boot ≤ 9223372036854775807) (hx : x < 18446744073709551616) (hy : y < 18446744073709551616) :
    Calls Try.prog 34 #[.agg #[.int .i64 kind, .int .i64 at_, .int .i64 n, .int .i64 key, .int .i64 boot, .int .u64 x, .int .u64 y]] w fun e w' => ∃ (A : Option Addr) (cap : Nat), e = .returned (Value.agg #[Value.int IntKind.i64 (pk kind 6), Value.int IntKind.i64 (ndOf key), Value.int IntKind.i64 (pk at_ 900 - 8), Value.int IntKind.i64 (rawN n), Value.int IntKind.u64 x, Value.int IntKind.u64 y, Value.slice A ((pk n 23)) cap, Value.int IntKind.u64 (pk key 4), Value.int IntKind.i64 (pk boot 3)]) ∧
      (pk n 23 ≤ cap ∧ cap ≤ 9223372036854775807) ∧ Lk (Lies .u64 w' w'.heap.size A (rawW y (pk n 23))) ∧ Lk (Below w.heap.size w w') ∧ Lk (∀ ad, A = some ad → w.heap.size ≤ ad.block) := by
  have C := fun w => verb_any kind 1 at_ n key boot x y w k0 k1 (by omega) (by omega) a0 a1 n0 n1 e0 e1 b0 b1 hx hy
  have CP := fun w => pick_any key 13 w (by omega) (by omega) e0 e1
  have HD := Lk.mk (show ndOf key = (if pk key 13 = 12 then (1 : Int) else 0) from rfl)
  generalize ndOf key = D at *
  generalize rawN n = N at *
  generalize rawW y (pk n 23) = ws at *
  generalize (pk kind 6 : Int) = u1 at *
  generalize (pk 1 7 : Int) - 1 = u2 at *
  generalize (pk at_ 900 : Int) - 8 = u3 at *
  generalize (pk key 4 : Int) = u5 at *
  generalize (pk boot 3 : Int) = u6 at *
  generalize pk n 23 = m at *
  generalize pk key 13 = kp at *
  clear k0 k1 a0 a1 n0 n1 e0 e1 b0 b1 hx hy
  go_enter Try.func34, Try.ntmps34
  go_wp2_with fail
  have hK := (cell_of_row _ w.heap.size 3 _ _ _ (heap_alloc_new w (.cells #[Value.int IntKind.i64 kind, Value.int IntKind.i64 at_, Value.int IntKind.i64 n, Value.int IntKind.i64 key, Value.int IntKind.i64 boot, Value.int IntKind.u64 x, Value.int IntKind.u64 y] 35))).trans rfl
  have hs0 : (w.alloc (.cells #[Value.int IntKind.i64 kind, Value.int IntKind.i64 at_, Value.int IntKind.i64 n, Value.int IntKind.i64 key, Value.int IntKind.i64 boot, Value.int IntKind.u64 x, Value.int IntKind.u64 y] 35)).heap.size = w.heap.size + 1 := by simp
  have hB0 := (Below.refl _ w).alloc (Nat.le_refl _) (.cells #[Value.int IntKind.i64 kind, Value.int IntKind.i64 at_, Value.int IntKind.i64 n, Value.int IntKind.i64 key, Value.int IntKind.i64 boot, Value.int IntKind.u64 x, Value.int IntKind.u64 y] 35)
  generalize w.alloc _ = wA at *
  have hZ := heap_alloc_new wA (.cells #[Value.int IntKind.i64 0, Value.int IntKind.i64 0, Value.int IntKind.i64 0, Value.int IntKind.i64 0, Value.int IntKind.u64 0, Value.int IntKind.u64 0, Value.slice none 0 0, Value.int IntKind.u64 0, Value.int IntKind.i64 0] 52)
  have hB1 := (Below.refl _ wA).alloc (Nat.le_refl _) (.cells #[Value.int IntKind.i64 0, Value.int IntKind.i64 0, Value.int IntKind.i64 0, Value.int IntKind.i64 0, Value.int IntKind.u64 0, Value.int IntKind.u64 0, Value.slice none 0 0, Value.int IntKind.u64 0, Value.int IntKind.i64 0] 52)
  have hK1 := (hB1.cell (block_lt_of_cell hK)).trans hK
  have hB2 := hB0.trans (hB1.mono hB0.size)
  rw [hs0] at hZ
  clear hK hB0 hB1
  generalize wA.alloc _ = W at *
  refine (C _).mono ?_
  rintro e w2 ⟨A, cap, rfl, ⟨hc1, hc2⟩, HLi, HB2, HF⟩
  have hgw : w.heap.size + 1 < W.heap.size := (Array.getElem?_eq_some_iff.1 hZ).1
  have HZ2 := Lk.mk ((HB2.out.block _ hgw).trans hZ)
  have HK2 := Lk.mk (show w2.cell? ⟨w.heap.size, 3, none⟩ = some (.int .i64 key) from (HB2.out.cell (block_lt_of_cell hK1)).trans hK1)
  have HB3 := Lk.mk (hB2.trans (HB2.out.mono hB2.size))
  have HFr := Lk.mk (fun ad (e : A = some ad) => Nat.lt_of_lt_of_le hgw (HF.out ad e))
  have hg2 : w.heap.size + 1 < w2.heap.size := Nat.lt_of_lt_of_le hgw HB2.out.size
  clear hZ hK1 hB2 hgw HB2 HF C hs0
  go_upto_region 2 with fail
  have HB4 := Lk.mk (HB3.out.alloc HB3.out.size (.cells #[Value.int IntKind.i64 u1, Value.int IntKind.i64 u2, Value.int IntKind.i64 u3, Value.int IntKind.i64 N, Value.int IntKind.u64 x, Value.int IntKind.u64 y, Value.slice A m cap, Value.int IntKind.u64 u5, Value.int IntKind.i64 u6] 52))
  have HZ3 := Lk.mk ((Below.heap_alloc w2 (.cells #[Value.int IntKind.i64 u1, Value.int IntKind.i64 u2, Value.int IntKind.i64 u3, Value.int IntKind.i64 N, Value.int IntKind.u64 x, Value.int IntKind.u64 y, Value.slice A m cap, Value.int IntKind.u64 u5, Value.int IntKind.i64 u6] 52) _ hg2).trans HZ2.out)
  have HV3 := Lk.mk (heap_alloc_new w2 (.cells #[Value.int IntKind.i64 u1, Value.int IntKind.i64 u2, Value.int IntKind.i64 u3, Value.int IntKind.i64 N, Value.int IntKind.u64 x, Value.int IntKind.u64 y, Value.slice A m cap, Value.int IntKind.u64 u5, Value.int IntKind.i64 u6] 52))
  have HK3 := Lk.mk (((Below.refl _ w2).alloc (Nat.le_refl _) (.cells #[Value.int IntKind.i64 u1, Value.int IntKind.i64 u2, Value.int IntKind.i64 u3, Value.int IntKind.i64 N, Value.int IntKind.u64 x, Value.int IntKind.u64 y, Value.slice A m cap, Value.int IntKind.u64 u5, Value.int IntKind.i64 u6] 52) |>.cell (block_lt_of_cell HK2.out)).trans HK2.out)
  have HL3 := Lk.mk (HLi.out.below ((Below.refl _ w2).alloc (Nat.le_refl _) (.cells #[Value.int IntKind.i64 u1, Value.int IntKind.i64 u2, Value.int IntKind.i64 u3, Value.int IntKind.i64 N, Value.int IntKind.u64 x, Value.int IntKind.u64 y, Value.slice A m cap, Value.int IntKind.u64 u5, Value.int IntKind.i64 u6] 52)))
  have hs3 : (w2.alloc (.cells #[Value.int IntKind.i64 u1, Value.int IntKind.i64 u2, Value.int IntKind.i64 u3, Value.int IntKind.i64 N, Value.int IntKind.u64 x, Value.int IntKind.u64 y, Value.slice A m cap, Value.int IntKind.u64 u5, Value.int IntKind.i64 u6] 52)).heap.size = w2.heap.size + 1 := by simp
  generalize w2.alloc (.cells #[Value.int IntKind.i64 u1, Value.int IntKind.i64 u2, Value.int IntKind.i64 u3, Value.int IntKind.i64 N, Value.int IntKind.u64 x, Value.int IntKind.u64 y, Value.slice A m cap, Value.int IntKind.u64 u5, Value.int IntKind.i64 u6] 52) = w3 at *
  obtain ⟨gv, hgv⟩ : ∃ gv, w2.heap.size = gv := ⟨_, rfl⟩
  have hBs : w2.heap.size ≤ w3.heap.size := by omega
  rw [hgv] at HV3 hg2 HL3 hs3 ⊢
  clear HZ2 HK2 HB3 HLi hBs
  have z := (Bx.of_heap HZ3.out)
  obtain ⟨z0, z1, z2, z3, z4, z5, z6, z7, z8⟩ := z
  have f0 := frozen_of_row w3 (w.heap.size + 1) 0 _ _ HZ3.out
  have f1 := frozen_of_row w3 (w.heap.size + 1) 1 _ _ HZ3.out
  have f2 := frozen_of_row w3 (w.heap.size + 1) 2 _ _ HZ3.out
  have f3 := frozen_of_row w3 (w.heap.size + 1) 3 _ _ HZ3.out
  have f4 := frozen_of_row w3 (w.heap.size + 1) 4 _ _ HZ3.out
  have f5 := frozen_of_row w3 (w.heap.size + 1) 5 _ _ HZ3.out
  have f6 := frozen_of_row w3 (w.heap.size + 1) 6 _ _ HZ3.out
  have f7 := frozen_of_row w3 (w.heap.size + 1) 7 _ _ HZ3.out
  have f8 := frozen_of_row w3 (w.heap.size + 1) 8 _ _ HZ3.out
  have hfv := frozen_of_row w3 gv 1 _ _ HV3.out
  have v_ := Bx.of_heap HV3.out
  obtain ⟨v0, v1, v2, v3, v4, v5, v6, v7, v8⟩ := v_
  have hK := HK3.out
  have hn1 : w.heap.size + 1 ≠ gv := by omega
  have hn2 : w.heap.size ≠ gv := by omega
  have hn3 : gv ≠ w.heap.size + 1 := by omega
  have hn4 : gv ≠ w.heap.size := by omega
  clear HK3 HV3
  by_cases h12 : kp = 12
  · have hD : D = 1 := by rw [HD.out, if_pos h12]
    subst h12 hD
    go_wp2_with (first | (go_at_call 13; refine (CP _).mono ?_; rintro e w' ⟨rfl, rfl⟩))
    have HFz := Lk.mk (fin_z (wr := ((w3.setCell ⟨gv, 1, none⟩ (.int .i64 0)).setCell ⟨gv, 1, none⟩ (.int .i64 1))) (k := u1) (nd := 1) (a := u3) (n := N) (o := x) (ne := y) (V := .slice A m cap) (ky := u5) (bo := u6) (by rw [Below.heap_setCell _ _ _ _ (by show w.heap.size + 1 ≠ gv; omega), Below.heap_setCell _ _ _ _ (by show w.heap.size + 1 ≠ gv; omega)]; exact HZ3.out))
    have HLf := Lk.mk (lies_blk2 (w' := fin9 ((w3.setCell ⟨gv, 1, none⟩ (.int .i64 0)).setCell ⟨gv, 1, none⟩ (.int .i64 1)) (w.heap.size + 1) u1 1 u3 N x y (.slice A m cap) u5 u6) HL3.out (fun ad e hb => (fin_o (by have := HFr.out ad e; omega)).trans (by rw [Below.heap_setCell _ _ _ _ (by show ad.block ≠ gv; omega), Below.heap_setCell _ _ _ _ (by show ad.block ≠ gv; omega)])) (by rw [fin_s]; simp <;> omega))
    exact bodyPost_ret (results_cell_row rfl _ _ (w.heap.size + 1) 52 _ (0, 0) _ rfl HFz.out Try.underlying52 rfl (by kernel_rfl)) rfl ⟨A, cap, rfl, ⟨hc1, hc2⟩, ⟨HLf.out⟩, ⟨fin_b ((HB4.out.setCell (p := ⟨gv, 1, none⟩) (by show w.heap.size ≤ gv; omega) _).setCell (p := ⟨gv, 1, none⟩) (by show w.heap.size ≤ gv; omega) _) (by omega)⟩, ⟨fun ad e => by have := HFr.out ad e; omega⟩⟩
  · have hD : D = 0 := by rw [HD.out, if_neg h12]
    subst hD
    go_wp2_with (first | (go_at_call 13; refine (CP _).mono ?_; rintro e w' ⟨rfl, rfl⟩))
    have HFz := Lk.mk (fin_z (wr := (w3.setCell ⟨gv, 1, none⟩ (.int .i64 0))) (k := u1) (nd := 0) (a := u3) (n := N) (o := x) (ne := y) (V := .slice A m cap) (ky := u5) (bo := u6) (by rw [Below.heap_setCell _ _ _ _ (by show w.heap.size + 1 ≠ gv; omega)]; exact HZ3.out))
    have HLf := Lk.mk (lies_blk2 (w' := fin9 (w3.setCell ⟨gv, 1, none⟩ (.int .i64 0)) (w.heap.size + 1) u1 0 u3 N x y (.slice A m cap) u5 u6) HL3.out (fun ad e hb => (fin_o (by have := HFr.out ad e; omega)).trans (by rw [Below.heap_setCell _ _ _ _ (by show ad.block ≠ gv; omega)])) (by rw [fin_s]; simp <;> omega))
    exact bodyPost_ret (results_cell_row rfl _ _ (w.heap.size + 1) 52 _ (0, 0) _ rfl HFz.out Try.underlying52 rfl (by kernel_rfl)) rfl ⟨A, cap, rfl, ⟨hc1, hc2⟩, ⟨HLf.out⟩, ⟨fin_b (HB4.out.setCell (p := ⟨gv, 1, none⟩) (by show w.heap.size ≤ gv; omega) _) (by omega)⟩, ⟨fun ad e => by have := HFr.out ad e; omega⟩⟩
end
end Go.Proofs.Ytacfmkmiikkppaa.Qg

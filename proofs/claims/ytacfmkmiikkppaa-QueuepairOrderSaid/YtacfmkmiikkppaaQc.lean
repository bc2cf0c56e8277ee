/-
  The reference executes a piece of a Write.
-/
import Derived.Test.YtacfmkmiikkppaaQb
namespace Go.Proofs.Ytacfmkmiikkppaa.Qc
open Go.ChangeShapes Go.WideShapes Go.ChangeAt Go.RowKit Ga Na Nb Nc Nd_ Nf Va Qa Qb
set_option linter.unusedVariables false
set_option linter.unusedSimpArgs false
set_option maxHeartbeats 4000000
set_option maxRecDepth 100000
section
variable {W : World} {b g n cap at_ a l c j : Nat} {pb vb : Nat} {A : Option Addr} {sp : Addr} {x : Value}
theorem far5 (h : World.cell? W ⟨b, 0, none⟩ = some (.slice (some ⟨g, 0, none⟩) n cap) ∧ World.cell? W ⟨pb, 0, none⟩ = some (.int .i64 (at_ : Int)) ∧ World.cell? W ⟨vb, 2, none⟩ = some (.int .i64 (a : Int)) ∧ World.cell? W ⟨vb, 6, none⟩ = some (.slice A l c) ∧ World.cell? W sp = some x) (hb : b ≠ g) (hp : pb ≠ g) (hv : vb ≠ g) (hs : sp.block ≠ g) (u : Value) : World.cell? (W.setCell ⟨g, j, none⟩ u) ⟨b, 0, none⟩ = some (.slice (some ⟨g, 0, none⟩) n cap) ∧ World.cell? (W.setCell ⟨g, j, none⟩ u) ⟨pb, 0, none⟩ = some (.int .i64 (at_ : Int)) ∧ World.cell? (W.setCell ⟨g, j, none⟩ u) ⟨vb, 2, none⟩ = some (.int .i64 (a : Int)) ∧ World.cell? (W.setCell ⟨g, j, none⟩ u) ⟨vb, 6, none⟩ = some (.slice A l c) ∧ World.cell? (W.setCell ⟨g, j, none⟩ u) sp = some x :=
  ⟨(World.cell?_of_block (Below.heap_setCell W ⟨g, j, none⟩ u b hb)).trans h.1, (World.cell?_of_block (Below.heap_setCell W ⟨g, j, none⟩ u pb hp)).trans h.2.1, (World.cell?_of_block (Below.heap_setCell W ⟨g, j, none⟩ u vb hv)).trans h.2.2.1, (World.cell?_of_block (Below.heap_setCell W ⟨g, j, none⟩ u vb hv)).trans h.2.2.2.1, (World.cell?_of_block (Below.heap_setCell W ⟨g, j, none⟩ u sp.block hs)).trans h.2.2.2.2⟩
end
theorem exec_write (b g n cap : Nat) (ws : List Nat) (nd nn : Int) (a : Nat) (o ne : Int) (A : Option Addr) (l c : Nat) (ky bo : Int) (at_ m : Nat) (vw : List Nat) (w : World) (HN : Lk (RN w b g n cap ws true)) (hn : n ≤ 4294967296) (h1 : 1 ≤ m) (hat : at_ + m ≤ n)
    (HW : Lk (Lies .u64 w w.heap.size A vw)) (hvl : vw.length = l) (hl : l ≤ 4294967296) (hlt : Lk (∀ x ∈ vw, x < 18446744073709551616)) (ha : a ≤ at_) (hoff : at_ - a + m ≤ l) (hA : Lk (∀ ad, A = some ad → ad.block ≠ g)) :
    Calls Try.prog 69 #[.pointer (some ⟨b, 0, none⟩), (Value.agg #[Value.int IntKind.i64 2, Value.int IntKind.i64 nd, Value.int IntKind.i64 ((a : Int)), Value.int IntKind.i64 nn, Value.int IntKind.u64 o, Value.int IntKind.u64 ne, Value.slice A l c, Value.int IntKind.u64 ky, Value.int IntKind.i64 bo]), .agg #[.int .i64 at_, .int .i64 m]] w fun e w' => e = .returned (.slice none 0 0) ∧ Lk (RN w' b g n cap (putW ws at_ ((vw.drop (at_ - a)).take m)) true) ∧ Lk (Only (fun k => k = g) w w') := by
  obtain ⟨w1, hw1, hs1, hx, h0⟩ := boxes b g n cap ws nd a nn o ne A l c ky bo at_ m w 2 HN
  have HX := Lk.mk hx
  have HS := Lk.mk h0
  clear hx h0
  obtain ⟨ad, rfl, hab, hac⟩ := HW.out (by omega)
  have HC := Lk.mk hac
  have HAb := Lk.mk hab
  have HAg := Lk.mk (hA.out ad rfl)
  clear hac hab hA HW
  obtain ⟨q, hq⟩ : ∃ q, at_ - a = q := ⟨_, rfl⟩
  rw [hq] at hoff ⊢
  have hlen := HN.out.row.len
  have HLw := Lk.mk (cut_len (show q + m ≤ vw.length by omega))
  have HLt := Lk.mk (cut_lt hlt.out q m)
  have HGk := Lk.mk (fun (k : Nat) (hk : k < m) => show vw.getD (q + k) 0 = ((vw.drop q).take m).getD k 0 by
    rw [List.getD_eq_getElem?_getD, List.getD_eq_getElem?_getD, List.getElem?_take, if_pos hk, List.getElem?_drop])
  generalize hlw : (vw.drop q).take m = lw at *
  clear hlw
  go_enter Try.func69, Try.ntmps69
  go_upto_region 1 with fail
  rw [← hw1]
  clear hw1
  generalize w1.alloc _ = W2 at *
  refine r1 HN.out.row hn h1 hat HS.out ?_
  intro g1 c1 x9 x10 x11 x12 x13 x14 x15 x16 x17 x18 x19 x20 x21 w3 HG HR HB
  have HX3 := Lk.mk (HX.out.on HB.out)
  have HBF := Lk.mk (HS.out.2.2.2.out.trans (HB.out.mono HS.out.2.2.2.out.size))
  have HN3 := Lk.mk (Nd.below HN.out HBF.out)
  have HP := Lk.mk ((HB.out.cell (block_lt_of_cell HS.out.2.1)).trans HS.out.2.1)
  have HP1 := Lk.mk ((HB.out.cell (block_lt_of_cell HS.out.2.2.1)).trans HS.out.2.2.1)
  have HNE := Lk.mk (show (b ≠ g ∧ w.heap.size + 1 ≠ g ∧ w.heap.size ≠ g) from ⟨HN.out.ne, by have := HN.out.row.size; omega, by have := HN.out.row.size; omega⟩)
  have HCk := Lk.mk (fun (j : Nat) (hj : j < vw.length) => (HBF.out.cell (p := ad.add j) (by rw [block_of_add]; exact HAb.out)).trans (HC.out j hj))
  have HO0 := Lk.mk (Only.of_below (S := fun k => k = g) HBF.out)
  have HLn := Lk.mk hlen
  clear HX HS HB HN HG HR HC HBF hs1 hlen
  obtain ⟨k0, k1, k2, k3, k4, k5, k6, k7, k8⟩ := HX3.out
  go_wp2_with fail
  go_loopw [8] (fun s8 wr => ∃ k : Nat, k ≤ m ∧ s8 = .int .i64 k ∧ Lk (RN wr b g n cap (putW ws at_ (lw.take k)) true) ∧ Lk (Only (fun k => k = g) w3 wr)) (fun s8 _ => m - (intOf s8).toNat)
  case atStart => exact ⟨0, by omega, rfl, ⟨by rw [List.take_zero, putW_nil]; exact HN3.out⟩, ⟨Only.refl _ _⟩⟩
  case round =>
    obtain ⟨k, hk, rfl, HNk, HOk⟩ := hrel
    have HON := Lk.mk (fun (p : Addr) (v : Value) (hp : p.block ≠ g) (hv : w3.cell? p = some v) => (World.cell?_of_block (HOk.out.block p.block (block_lt_of_cell hv) hp)).trans hv)
    clear k0 k1 k2 k3 k4 k5 k6 k7 k8
    have p0 := HON.out _ _ HNE.out.2.1 HP.out
    have p1 := HON.out _ _ HNE.out.2.1 HP1.out
    have v2 := HON.out _ _ HNE.out.2.2 HX3.out.c2
    have v6 := HON.out _ _ HNE.out.2.2 HX3.out.c6
    by_cases hlt2 : k < m
    · have hkl : k < lw.length := by rw [HLw.out]; exact hlt2
      have hqv : q + k < vw.length := by omega
      have HSrc := Lk.mk (HON.out (ad.add (q + k)) _ (by rw [block_of_add]; exact HAg.out) (HCk.out (q + k) hqv))
      rw [HGk.out k hlt2] at HSrc
      have HU := Lk.mk (getD_lt HLt.out hkl)
      have hpl : at_ + lw.length ≤ ws.length := by rw [HLw.out, HLn.out]; exact hat
      have HM := Lk.mk (putW_more hpl hkl)
      have hcell := HNk.out.row.cell (show at_ + k < n by omega)
      have hfr := HNk.out.row.free (at_ + k)
      have hb0 := HNk.out.c0
      generalize lw.getD k 0 = u at *
      have hw1 : IntKind.i64.wrap ((at_ : Int) + k) = (at_ : Int) + k := IntWalk.i64_in _ (by omega)
      have hw2 : IntKind.i64.wrap ((at_ : Int) - a) = (q : Int) := by rw [IntWalk.i64_in _ (by omega)]; omega
      have hw3 : IntKind.i64.wrap ((q : Int) + k) = (q : Int) + k := IntWalk.i64_in _ (by omega)
      have hq0 : (0 : Int) ≤ (at_ : Int) + k := by omega
      have hq1 : (at_ : Int) + k < (n : Int) := by omega
      have hq3 : (0 : Int) ≤ (q : Int) + k := by omega
      have hq2 : (q : Int) + k < (l : Int) := by omega
      have ht1 : ((at_ : Int) + k).toNat = at_ + k := by omega
      have ht2 : ((q : Int) + k).toNat = q + k := by omega
      have HH := Lk.mk (show World.cell? wr.drew ⟨b, 0, none⟩ = some (.slice (some ⟨g, 0, none⟩) n cap) ∧ World.cell? wr.drew ⟨w.heap.size + 1, 0, none⟩ = some (.int .i64 (at_ : Int)) ∧ World.cell? wr.drew ⟨w.heap.size, 2, none⟩ = some (.int .i64 (a : Int)) ∧ World.cell? wr.drew ⟨w.heap.size, 6, none⟩ = some (.slice (some ad) l c) ∧ World.cell? wr.drew (ad.add (q + k)) = some (.int .u64 (u : Int)) from ⟨hb0, p0, v2, v6, HSrc.out⟩)
      clear p0 v2 v6 hb0 hpl hqv HSrc
      go_upto_region 9 with fail
      go_region_held3 (fun W' => World.cell? W' ⟨b, 0, none⟩ = some (.slice (some ⟨g, 0, none⟩) n cap) ∧ World.cell? W' ⟨w.heap.size + 1, 0, none⟩ = some (.int .i64 (at_ : Int)) ∧ World.cell? W' ⟨w.heap.size, 2, none⟩ = some (.int .i64 (a : Int)) ∧ World.cell? W' ⟨w.heap.size, 6, none⟩ = some (.slice (some ad) l c) ∧ World.cell? W' (ad.add (q + k)) = some (.int .u64 (u : Int))) (first | with_reducible exact HH.out | with_reducible assumption | exact far5 HH.out HNE.out.1 HNE.out.2.1 HNE.out.2.2 (by rw [block_of_add]; exact HAg.out) _)
        (fail)
      go_wp2_with fail
      go_roundw
      case rel =>
        have hO := HOk.out.setCell (p := ⟨g, at_ + k, none⟩) (.inl rfl) (.int .u64 (u : Int))
        exact ⟨k + 1, by omega, by go_num, ⟨by rw [← HM.out]; exact (HNk.out.set (at_ + k) u HU.out).keep rfl rfl⟩, ⟨⟨hO.os, hO.tape, hO.output, hO.size, hO.block⟩⟩⟩
      case measure => simp [intOf]; omega
    · obtain rfl : k = m := by omega
      go_wp2
      go_ret
      exact ⟨rfl, ⟨by rw [List.take_of_length_le (by rw [HLw.out]; exact Nat.le_refl _)] at HNk; exact HNk.out⟩, ⟨HO0.out.trans HOk.out⟩⟩
end Go.Proofs.Ytacfmkmiikkppaa.Qc

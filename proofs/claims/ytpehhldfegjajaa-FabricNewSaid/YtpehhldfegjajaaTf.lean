/-
  The program executes a piece of a verb.
-/
import Derived.Test.YtpehhldfegjajaaTe
namespace Go.Proofs.Ytpehhldfegjajaa.Tf
open Go.ChangeShapes Go.WideShapes Go.ChangeAt Go.RowKit Ga Gb Na Nb Nc Nd_ Va Vb Vd Ve Qa Qb Qd Ta Tb Tc Td Te
set_option linter.unusedVariables false
set_option linter.unusedSimpArgs false
set_option maxHeartbeats 1000000
set_option maxRecDepth 100000
/-- What a piece reads. -/
def outM (k : Int) (ws : List Nat) (at_ m : Nat) : List Nat := if k = 2 then [] else (ws.drop at_).take m
/-- What it makes of the node's words. -/
def wsM (k : Int) (a o ne : Nat) (s ws : List Nat) (at_ m : Nat) : List Nat :=
  if k = 2 then putW ws at_ ((s.drop (at_ - a)).take m) else if k = 3 then casW ws at_ o ne else if k = 4 then addW ws at_ ne else ws
theorem take_one (ws : List Nat) (i : Nat) (h : i < ws.length) : (ws.drop i).take 1 = [ws.getD i 0] := by
  rw [List.drop_eq_getElem_cons h, List.take_succ_cons, List.take_zero]
  simp [h]
theorem slice_any (ad : Addr) (n cap j c : Nat) (w : World) (h1 : 1 ≤ c) (h2 : j + c ≤ n) (h3 : n ≤ cap) (h4 : cap ≤ 9223372036854775807) :
    (Instr.sliceAt 54 (.slice (some ad) n cap) (some (.int .i64 (j : Int))) (some (.int .i64 ((j : Int) + c))) none).run Try.prog w = .ok (.slice (some (ad.add j)) c (cap - j)) w := by
  rw [run_sliceAt_slice _ _ _ _ _ _ under_words, run_slice_lh _ _ _ _ _ under_words _ _ _ _ (by omega) (by omega) (by omega), size_word]
  have e : (if cap = j then (some ad : Option Addr) else (some ad).map (·.add (j * 1))) = some (ad.add j) := by
    rw [if_neg (by omega)]
    simp
  have e2 : ((j : Int) + c).toNat - j = c := by omega
  simp only [Result.andThen, sliced, e, e2, Int.toNat_natCast]
section
variable (nb ng n cap : Nat) (ws : List Nat) (nd nn : Int) (a o ne : Nat) (A : Option Addr) (c : Nat) (ky bo : Int) (s : List Nat) (at_ m : Nat) (w : World)
def Exec (k : Int) (w : World) (nb ng n cap : Nat) (ws : List Nat) (a o ne : Nat) (s : List Nat) (at_ m : Nat) (e : Ending) (w' : World) : Prop :=
  ∃ (A2 : Option Addr) (c2 : Nat), e = .returned (.slice A2 (outM k ws at_ m).length c2) ∧ Lk (Own w.heap.size w' A2 (outM k ws at_ m)) ∧ Lk (PN w' nb ng n cap (wsM k a o ne s ws at_ m) true) ∧ Lk (Only (fun k => k = nb ∨ k = ng) w w')
theorem ex_read (HN : Lk (PN w nb ng n cap ws true)) (hn : n ≤ 4294967296) (h1 : 1 ≤ m) (hat : at_ + m ≤ n) :
    Calls Try.prog 77 #[(Value.agg #[Value.int IntKind.i64 1, Value.int IntKind.i64 nd, Value.int IntKind.i64 a, Value.int IntKind.i64 nn, Value.int IntKind.u64 o, Value.int IntKind.u64 ne, Value.slice A s.length c, Value.int IntKind.u64 ky, Value.int IntKind.i64 bo]), .agg #[.int .i64 at_, .int .i64 m], .pointer (some ⟨nb, 0, none⟩)] w fun e w' => Exec 1 w nb ng n cap ws a o ne s at_ m e w' := by
  have HB1 := Lk.mk (((Below.refl _ w).alloc (Nat.le_refl _) (.cells #[Value.int IntKind.i64 1, Value.int IntKind.i64 nd, Value.int IntKind.i64 a, Value.int IntKind.i64 nn, Value.int IntKind.u64 o, Value.int IntKind.u64 ne, Value.slice A s.length c, Value.int IntKind.u64 ky, Value.int IntKind.i64 bo] 56)).alloc (by simp) (.cells #[.int .i64 at_, .int .i64 m] 119))
  have hx := Bx.alloc w 1 nd a nn o ne A s.length c ky bo 56
  have hs1 : (w.alloc (.cells #[Value.int IntKind.i64 1, Value.int IntKind.i64 nd, Value.int IntKind.i64 a, Value.int IntKind.i64 nn, Value.int IntKind.u64 o, Value.int IntKind.u64 ne, Value.slice A s.length c, Value.int IntKind.u64 ky, Value.int IntKind.i64 bo] 56)).heap.size = w.heap.size + 1 := by simp
  have C := fun W (hb : Below w.heap.size w W) => read_ok nb ng n cap ws at_ m W ⟨Nd.below HN.out hb⟩ hn h1 hat
  have hlen := HN.out.row.len
  go_enter Try.func77, Try.ntmps77
  go_upto_region 1 with fail
  generalize w.alloc _ = w1 at *
  have hp := (Below.refl _ w1).alloc (Nat.le_refl _) (.cells #[.int .i64 at_, .int .i64 m] 119)
  have b0 := (hx.on hp).c0
  have p0 := (cell_of_row _ w1.heap.size 0 _ _ _ (heap_alloc_new w1 (.cells #[.int .i64 at_, .int .i64 m] 119))).trans rfl
  have p1 := (cell_of_row _ w1.heap.size 1 _ _ _ (heap_alloc_new w1 (.cells #[.int .i64 at_, .int .i64 m] 119))).trans rfl
  rw [hs1] at p0 p1
  clear hx hp hs1
  generalize w1.alloc _ = W at *
  go_wp2_with (first
    | (go_at_call 87; refine (C _ HB1.out).mono ?_; rintro e w' ⟨g1, cap1, rfl, HG, HR, HB⟩))
  go_ret
  have e1 : outM 1 ws at_ m = (ws.drop at_).take m := by unfold outM; rw [if_neg (by decide)]
  have e2 : wsM 1 a o ne s ws at_ m = ws := by unfold wsM; rw [if_neg (by decide), if_neg (by decide), if_neg (by decide)]
  have e3 : ((ws.drop at_).take m).length = m := cut_len (by omega)
  refine ⟨some ⟨g1, 0, none⟩, cap1, by rw [e1, e3]; rfl, ⟨fun _ => ⟨g1, cap1, rfl, by have := HB1.out.size; have := HG.out; omega, by rw [e1, e3]; exact HR.out⟩⟩, ⟨by rw [e2]; exact Nd.below HN.out (HB1.out.trans (HB.out.mono HB1.out.size))⟩, ⟨Only.of_below (HB1.out.trans (HB.out.mono HB1.out.size))⟩⟩
theorem ex_cas (HN : Lk (PN w nb ng n cap ws true)) (hn : n ≤ 4294967296) (h1 : m = 1) (hat : at_ < n) (ho : o < 18446744073709551616) (hne : ne < 18446744073709551616) :
    Calls Try.prog 77 #[(Value.agg #[Value.int IntKind.i64 3, Value.int IntKind.i64 nd, Value.int IntKind.i64 a, Value.int IntKind.i64 nn, Value.int IntKind.u64 o, Value.int IntKind.u64 ne, Value.slice A s.length c, Value.int IntKind.u64 ky, Value.int IntKind.i64 bo]), .agg #[.int .i64 at_, .int .i64 m], .pointer (some ⟨nb, 0, none⟩)] w fun e w' => Exec 3 w nb ng n cap ws a o ne s at_ m e w' := by
  have HB1 := Lk.mk (((Below.refl _ w).alloc (Nat.le_refl _) (.cells #[Value.int IntKind.i64 3, Value.int IntKind.i64 nd, Value.int IntKind.i64 a, Value.int IntKind.i64 nn, Value.int IntKind.u64 o, Value.int IntKind.u64 ne, Value.slice A s.length c, Value.int IntKind.u64 ky, Value.int IntKind.i64 bo] 56)).alloc (by simp) (.cells #[.int .i64 at_, .int .i64 m] 119))
  have hx := Bx.alloc w 3 nd a nn o ne A s.length c ky bo 56
  have hs1 : (w.alloc (.cells #[Value.int IntKind.i64 3, Value.int IntKind.i64 nd, Value.int IntKind.i64 a, Value.int IntKind.i64 nn, Value.int IntKind.u64 o, Value.int IntKind.u64 ne, Value.slice A s.length c, Value.int IntKind.u64 ky, Value.int IntKind.i64 bo] 56)).heap.size = w.heap.size + 1 := by simp
  have C := fun W (hb : Below w.heap.size w W) => cas_ok nb ng n cap ws at_ o ne W ⟨Nd.below HN.out hb⟩ hn hat ho hne
  have hlen := HN.out.row.len
  have HLt := Lk.mk (getD_lt HN.out.row.lt (show at_ < ws.length by omega))
  have e1 : outM 3 ws at_ m = [ws.getD at_ 0] := by unfold outM; rw [if_neg (by decide), h1, take_one ws at_ (by omega)]
  have e2 : wsM 3 a o ne s ws at_ m = casW ws at_ o ne := by unfold wsM; rw [if_neg (by decide), if_pos rfl]
  unfold Exec
  rw [e1, e2]
  clear e1 e2 hlen h1
  generalize ws.getD at_ 0 = v at *
  go_enter Try.func77, Try.ntmps77
  go_upto_region 1 with fail
  generalize w.alloc _ = w1 at *
  have hp := (Below.refl _ w1).alloc (Nat.le_refl _) (.cells #[.int .i64 at_, .int .i64 m] 119)
  obtain ⟨b0, b1, b2, b3, b4, b5, b6, b7, b8⟩ := hx.on hp
  have p0 := (cell_of_row _ w1.heap.size 0 _ _ _ (heap_alloc_new w1 (.cells #[.int .i64 at_, .int .i64 m] 119))).trans rfl
  have p1 := (cell_of_row _ w1.heap.size 1 _ _ _ (heap_alloc_new w1 (.cells #[.int .i64 at_, .int .i64 m] 119))).trans rfl
  rw [hs1] at p0 p1
  clear hx hp hs1
  generalize w1.alloc _ = W at *
  go_upto_region 11 with (first
    | (go_at_call 89; refine (C _ HB1.out).mono ?_; rintro e w4 ⟨rfl, HN4, HO4⟩))
  have HO5 := Lk.mk (((Only.of_below (S := fun k => k = nb ∨ k = ng) HB1.out).trans HO4.out).alloc (.cells #[.int .u64 (v : Int)] 53))
  have HN5 := Lk.mk (Nd.below HN4.out ((Below.refl _ w4).alloc (Nat.le_refl _) (.cells #[.int .u64 (v : Int)] 53)))
  have HW5 := Lk.mk (own_of (n := 1) (c := 1) (l := [v]) (World.ownsRow_lit w4 #[.int .u64 (v : Int)] 1 (Nat.le_refl _) (by decide) rfl) rfl (fun x hx => by rw [List.mem_singleton] at hx; subst hx; exact HLt.out))
  have hs4 : w.heap.size ≤ w4.heap.size := Nat.le_trans HB1.out.size HO4.out.size
  go_wp2
  go_ret
  exact ⟨_, 1, rfl, ⟨HW5.out.more hs4⟩, HN5, HO5⟩
theorem ex_add (HN : Lk (PN w nb ng n cap ws true)) (hn : n ≤ 4294967296) (h1 : m = 1) (hat : at_ < n) (ho : o < 18446744073709551616) (hne : ne < 18446744073709551616) :
    Calls Try.prog 77 #[(Value.agg #[Value.int IntKind.i64 4, Value.int IntKind.i64 nd, Value.int IntKind.i64 a, Value.int IntKind.i64 nn, Value.int IntKind.u64 o, Value.int IntKind.u64 ne, Value.slice A s.length c, Value.int IntKind.u64 ky, Value.int IntKind.i64 bo]), .agg #[.int .i64 at_, .int .i64 m], .pointer (some ⟨nb, 0, none⟩)] w fun e w' => Exec 4 w nb ng n cap ws a o ne s at_ m e w' := by
  have HB1 := Lk.mk (((Below.refl _ w).alloc (Nat.le_refl _) (.cells #[Value.int IntKind.i64 4, Value.int IntKind.i64 nd, Value.int IntKind.i64 a, Value.int IntKind.i64 nn, Value.int IntKind.u64 o, Value.int IntKind.u64 ne, Value.slice A s.length c, Value.int IntKind.u64 ky, Value.int IntKind.i64 bo] 56)).alloc (by simp) (.cells #[.int .i64 at_, .int .i64 m] 119))
  have hx := Bx.alloc w 4 nd a nn o ne A s.length c ky bo 56
  have hs1 : (w.alloc (.cells #[Value.int IntKind.i64 4, Value.int IntKind.i64 nd, Value.int IntKind.i64 a, Value.int IntKind.i64 nn, Value.int IntKind.u64 o, Value.int IntKind.u64 ne, Value.slice A s.length c, Value.int IntKind.u64 ky, Value.int IntKind.i64 bo] 56)).heap.size = w.heap.size + 1 := by simp
  have C := fun W (hb : Below w.heap.size w W) => add_ok nb ng n cap ws at_ ne W ⟨Nd.below HN.out hb⟩ hn hat hne
  have hlen := HN.out.row.len
  have HLt := Lk.mk (getD_lt HN.out.row.lt (show at_ < ws.length by omega))
  have e1 : outM 4 ws at_ m = [ws.getD at_ 0] := by unfold outM; rw [if_neg (by decide), h1, take_one ws at_ (by omega)]
  have e2 : wsM 4 a o ne s ws at_ m = addW ws at_ ne := by unfold wsM; rw [if_neg (by decide), if_neg (by decide), if_pos rfl]
  unfold Exec
  rw [e1, e2]
  clear e1 e2 hlen h1
  generalize ws.getD at_ 0 = v at *
  go_enter Try.func77, Try.ntmps77
  go_upto_region 1 with fail
  generalize w.alloc _ = w1 at *
  have hp := (Below.refl _ w1).alloc (Nat.le_refl _) (.cells #[.int .i64 at_, .int .i64 m] 119)
  obtain ⟨b0, b1, b2, b3, b4, b5, b6, b7, b8⟩ := hx.on hp
  have p0 := (cell_of_row _ w1.heap.size 0 _ _ _ (heap_alloc_new w1 (.cells #[.int .i64 at_, .int .i64 m] 119))).trans rfl
  have p1 := (cell_of_row _ w1.heap.size 1 _ _ _ (heap_alloc_new w1 (.cells #[.int .i64 at_, .int .i64 m] 119))).trans rfl
  rw [hs1] at p0 p1
  clear hx hp hs1
  generalize w1.alloc _ = W at *
  go_upto_region 13 with (first
    | (go_at_call 90; refine (C _ HB1.out).mono ?_; rintro e w4 ⟨rfl, HN4, HO4⟩))
  have HO5 := Lk.mk (((Only.of_below (S := fun k => k = nb ∨ k = ng) HB1.out).trans HO4.out).alloc (.cells #[.int .u64 (v : Int)] 53))
  have HN5 := Lk.mk (Nd.below HN4.out ((Below.refl _ w4).alloc (Nat.le_refl _) (.cells #[.int .u64 (v : Int)] 53)))
  have HW5 := Lk.mk (own_of (n := 1) (c := 1) (l := [v]) (World.ownsRow_lit w4 #[.int .u64 (v : Int)] 1 (Nat.le_refl _) (by decide) rfl) rfl (fun x hx => by rw [List.mem_singleton] at hx; subst hx; exact HLt.out))
  have hs4 : w.heap.size ≤ w4.heap.size := Nat.le_trans HB1.out.size HO4.out.size
  go_wp2
  go_ret
  exact ⟨_, 1, rfl, ⟨HW5.out.more hs4⟩, HN5, HO5⟩
theorem wr_on {W W' : World} {g g2 nb ng : Nat} {A : Option Addr} {l c at_ m : Nat} (h : World.cell? W ⟨g2, 0, none⟩ = some (.int .i64 at_) ∧ World.cell? W ⟨g2, 1, none⟩ = some (.int .i64 m) ∧ World.cell? W ⟨g, 6, none⟩ = some (.slice A l c)) (ho : Lk (Only (fun k => k = nb ∨ k = ng) W W')) (hn : Lk ((g2 ≠ nb ∧ g2 ≠ ng) ∧ (g ≠ nb ∧ g ≠ ng))) :
    World.cell? W' ⟨g2, 0, none⟩ = some (.int .i64 at_) ∧ World.cell? W' ⟨g2, 1, none⟩ = some (.int .i64 m) ∧ World.cell? W' ⟨g, 6, none⟩ = some (.slice A l c) := by
  have k2 := fun j (hb : g2 < W.heap.size) => World.cell?_of_block (w := W) (w' := W') (a := ⟨g2, j, none⟩) (ho.out.block g2 hb (fun hh => hh.elim hn.out.1.1 hn.out.1.2))
  exact ⟨(k2 0 (block_lt_of_cell h.1)).trans h.1, (k2 1 (block_lt_of_cell h.1)).trans h.2.1, (World.cell?_of_block (w := W) (w' := W') (a := ⟨g, 6, none⟩) (ho.out.block g (block_lt_of_cell h.2.2) (fun hh => hh.elim hn.out.2.1 hn.out.2.2))).trans h.2.2⟩
theorem ex_write (HN : Lk (PN w nb ng n cap ws true)) (hn : n ≤ 4294967296) (h1 : 1 ≤ m) (hat : at_ + m ≤ n) (ha : a ≤ at_) (hs : at_ - a + m ≤ s.length) (hsl : s.length ≤ c) (hc : c ≤ 9223372036854775807) (hw : Lk (wide s)) (HL : Lk (Lies .u64 w w.heap.size A s)) :
    Calls Try.prog 77 #[(Value.agg #[Value.int IntKind.i64 2, Value.int IntKind.i64 nd, Value.int IntKind.i64 a, Value.int IntKind.i64 nn, Value.int IntKind.u64 o, Value.int IntKind.u64 ne, Value.slice A s.length c, Value.int IntKind.u64 ky, Value.int IntKind.i64 bo]), .agg #[.int .i64 at_, .int .i64 m], .pointer (some ⟨nb, 0, none⟩)] w fun e w' => Exec 2 w nb ng n cap ws a o ne s at_ m e w' := by
  have HB1 := Lk.mk (((Below.refl _ w).alloc (Nat.le_refl _) (.cells #[Value.int IntKind.i64 2, Value.int IntKind.i64 nd, Value.int IntKind.i64 a, Value.int IntKind.i64 nn, Value.int IntKind.u64 o, Value.int IntKind.u64 ne, Value.slice A s.length c, Value.int IntKind.u64 ky, Value.int IntKind.i64 bo] 56)).alloc (by simp) (.cells #[.int .i64 at_, .int .i64 m] 119))
  have hx := Bx.alloc w 2 nd a nn o ne A s.length c ky bo 56
  have hs1 : (w.alloc (.cells #[Value.int IntKind.i64 2, Value.int IntKind.i64 nd, Value.int IntKind.i64 a, Value.int IntKind.i64 nn, Value.int IntKind.u64 o, Value.int IntKind.u64 ne, Value.slice A s.length c, Value.int IntKind.u64 ky, Value.int IntKind.i64 bo] 56)).heap.size = w.heap.size + 1 := by simp
  obtain ⟨ad, rfl, hadb, hadc⟩ := HL.out (by omega)
  have HLy := Lk.mk (fun W (hb : Below w.heap.size w W) (j : Nat) (hj : j < s.length) => (show W.cell? (ad.add j) = some (.int .u64 ((s.getD j 0 : Nat) : Int)) from (hb.cell (by rw [block_of_add]; exact hadb)).trans (hadc j hj)))
  have C := Lk.mk (fun W (hb : Below w.heap.size w W) (cc : Nat) => write_ok nb ng n cap ws at_ (ad.add (at_ - a)) ((s.drop (at_ - a)).take m) m cc W ⟨Nd.below HN.out hb⟩ hn (cut_len hs) h1 hat ⟨cut_lt hw.out.2 _ _⟩ ⟨fun i hi => by
    rw [add_of_add, HLy.out W hb (at_ - a + i) (by omega), List.getD_eq_getElem?_getD, List.getD_eq_getElem?_getD, List.getElem?_take, if_pos hi, List.getElem?_drop]⟩)
  have hsl2 := fun w => slice_any ad s.length c (at_ - a) m w h1 hs hsl hc
  have e1 : outM 2 ws at_ m = [] := by unfold outM; rw [if_pos rfl]
  have e2 : wsM 2 a o ne s ws at_ m = putW ws at_ ((s.drop (at_ - a)).take m) := by unfold wsM; rw [if_pos rfl]
  unfold Exec
  rw [e1, e2]
  have HNe := Lk.mk (show ((w.heap.size + 1 ≠ nb ∧ w.heap.size + 1 ≠ ng) ∧ (w.heap.size ≠ nb ∧ w.heap.size ≠ ng)) by have := HN.out.size; have := HN.out.row.size; omega)
  have hsub : IntKind.i64.wrap ((at_ : Int) - a) = ((at_ - a : Nat) : Int) := by rw [IntWalk.i64_in _ (by have := hw.out.1; omega)]; omega
  have hsum : IntKind.i64.wrap (((at_ - a : Nat) : Int) + m) = ((at_ - a : Nat) : Int) + m := IntWalk.i64_in _ (by have := hw.out.1; omega)
  have hsub2 : (at_ : Int) - a = ((at_ - a : Nat) : Int) := by omega
  have hwl : s.length ≤ 4294967296 := hw.out.1
  clear e1 e2 hadb hadc HLy HL
  go_enter Try.func77, Try.ntmps77
  go_upto_region 1 with fail
  generalize w.alloc _ = w1 at *
  have hp := (Below.refl _ w1).alloc (Nat.le_refl _) (.cells #[.int .i64 at_, .int .i64 m] 119)
  obtain ⟨b0, b1, b2, b3, b4, b5, b6, b7, b8⟩ := hx.on hp
  have p0 := (cell_of_row _ w1.heap.size 0 _ _ _ (heap_alloc_new w1 (.cells #[.int .i64 at_, .int .i64 m] 119))).trans rfl
  have p1 := (cell_of_row _ w1.heap.size 1 _ _ _ (heap_alloc_new w1 (.cells #[.int .i64 at_, .int .i64 m] 119))).trans rfl
  rw [hs1] at p0 p1
  clear hx hp hs1
  generalize w1.alloc _ = W at *
  go_upto_region 7 with fail
  have HH := Lk.mk (show World.cell? W.drew ⟨w.heap.size + 1, 0, none⟩ = some (.int .i64 at_) ∧ World.cell? W.drew ⟨w.heap.size + 1, 1, none⟩ = some (.int .i64 m) ∧ World.cell? W.drew ⟨w.heap.size, 6, none⟩ = some (.slice (some ad) s.length c) from ⟨p0, p1, b6⟩)
  have HBd : Lk (Below w.heap.size w W.drew) := ⟨HB1.out.drew⟩
  clear p0 p1 b0 b1 b2 b3 b4 b5 b6 b7 b8 hs hat ha hsl hc h1 hn hsub2
  go_region_held3 (fun W' => World.cell? W' ⟨w.heap.size + 1, 0, none⟩ = some (.int .i64 at_) ∧ World.cell? W' ⟨w.heap.size + 1, 1, none⟩ = some (.int .i64 m) ∧ World.cell? W' ⟨w.heap.size, 6, none⟩ = some (.slice (some ad) s.length c))
    (first | with_reducible exact HH.out | with_reducible assumption | exact wr_on HH.out HO4 HNe)
    (first
      | (go_at_call 88; refine (C.out _ HBd.out _).mono ?_; rintro e w4 ⟨rfl, HN4, HO4⟩))
  go_wp2
  go_ret
  exact ⟨none, 0, rfl, ⟨fun h => absurd h (by simp)⟩, HN4, ⟨(Only.of_below (S := fun k => k = nb ∨ k = ng) HBd.out).trans HO4.out⟩⟩
theorem exec_any (k : Int) (hk : k = 1 ∨ k = 2 ∨ k = 3 ∨ k = 4) (HN : Lk (PN w nb ng n cap ws true)) (hn : n ≤ 4294967296) (h1 : 1 ≤ m) (hat : at_ + m ≤ n) (hm : k = 3 ∨ k = 4 → m = 1) (h2 : k = 2 → a ≤ at_ ∧ at_ - a + m ≤ s.length) (hsl : s.length ≤ c) (hc : c ≤ 9223372036854775807) (hw : Lk (wide s)) (HL : Lk (Lies .u64 w w.heap.size A s)) (ho : o < 18446744073709551616) (hne : ne < 18446744073709551616) :
    Calls Try.prog 77 #[(Value.agg #[Value.int IntKind.i64 k, Value.int IntKind.i64 nd, Value.int IntKind.i64 a, Value.int IntKind.i64 nn, Value.int IntKind.u64 o, Value.int IntKind.u64 ne, Value.slice A s.length c, Value.int IntKind.u64 ky, Value.int IntKind.i64 bo]), .agg #[.int .i64 at_, .int .i64 m], .pointer (some ⟨nb, 0, none⟩)] w fun e w' => Exec k w nb ng n cap ws a o ne s at_ m e w' := by
  rcases hk with rfl | rfl | rfl | rfl
  · exact ex_read nb ng n cap ws nd nn a o ne A c ky bo s at_ m w HN hn h1 hat
  · exact ex_write nb ng n cap ws nd nn a o ne A c ky bo s at_ m w HN hn h1 hat (h2 rfl).1 (h2 rfl).2 hsl hc hw HL
  · exact ex_cas nb ng n cap ws nd nn a o ne A c ky bo s at_ m w HN hn (hm (.inl rfl)) (by omega) ho hne
  · exact ex_add nb ng n cap ws nd nn a o ne A c ky bo s at_ m w HN hn (hm (.inr rfl)) (by omega) ho hne
end
end Go.Proofs.Ytpehhldfegjajaa.Tf

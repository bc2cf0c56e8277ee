/-
  The program executes a piece of a verb.
-/
import Derived.Test.YtacfmkmiikkppaaTd
import Derived.Test.YtacfmkmiikkppaaNd
import Derived.Test.YtacfmkmiikkppaaVd
import Derived.Test.YtacfmkmiikkppaaQa
namespace Go.Proofs.Ytacfmkmiikkppaa.Te
open Go.ChangeShapes Go.WideShapes Go.ChangeAt Go.RowKit Ga Gb Na Nb Nc Nd_ Va Vb Vd Ve Qa Qb Qd Ta Tb Tc Td
set_option linter.unusedVariables false
set_option linter.unusedSimpArgs false
set_option maxHeartbeats 1000000
set_option maxRecDepth 100000
theorem wordAt_any (b g n cap : Nat) (ws : List Nat) (x : Int) (w : World) (HN : Lk (PN w b g n cap ws true)) (hn : n ≤ 4294967296) (h0 : 0 ≤ x) (h1 : x ≤ 4294967296) :
    Calls Try.prog 84 #[.pointer (some ⟨b, 0, none⟩), .int .i64 x] w fun e w' => e = .returned (.int .u64 (atW ws x.toNat : Int)) ∧ Lk (Below w.heap.size w w') := by
  have hl := HN.out.row.len
  obtain ⟨i, rfl⟩ : ∃ i : Nat, x = i := ⟨x.toNat, by omega⟩
  rw [Int.toNat_natCast]
  by_cases hi : i + 1 ≤ n
  · have C := read_ok b g n cap ws i 1 w HN hn (Nat.le_refl 1) hi
    have he : (ws.drop i).take 1 = [ws.getD i 0] := by
      have h : i < ws.length := by omega
      rw [List.drop_eq_getElem_cons h, List.take_succ_cons, List.take_zero]
      simp [h]
    rw [he] at C
    unfold atW
    generalize ws.getD i 0 = v at *
    clear he hl h0
    go_enter Try.func84, Try.ntmps84
    go_wp2_with (first
      | (go_at_call 21; refine C.mono ?_; rintro e w' ⟨g1, cap1, rfl, HG, HR, HB⟩; have hr := HR.out.cell (j := 0) (by omega); simp only [List.getD_cons_zero] at hr))
    go_ret
    exact ⟨rfl, HB⟩
  · have hk : codeOf true n i 1 ≠ 0 := by unfold codeOf; rw [fits_not (by omega)]; simp
    have hv : codeOf true n i 1 = 2 := by unfold codeOf; rw [fits_not (by omega)]; simp
    have C := read_no b g n cap ws true i 1 w HN hn (by omega) (by omega) (by omega) (by omega) hk
    rw [hv] at C
    have h2 : atW ws i = 0 := by unfold atW; rw [List.getD_eq_getElem?_getD, List.getElem?_eq_none (by omega)]; rfl
    rw [h2]
    clear hk hv h2 hl
    go_enter Try.func84, Try.ntmps84
    go_wp2_with (first
      | (go_at_call 21; refine C.mono ?_; rintro e w' ⟨rfl, rfl⟩))
    go_ret
    exact ⟨rfl, ⟨Below.refl _ _⟩⟩
/-- What a node answers a verb with, before a piece is executed. -/
def codeM (cl inc : Nat) (k nd a c ky bo : Int) (L : Nat) (ws : List Nat) (up : Bool) : Int :=
  if up = false then 4 else if validC k nd a c 5 L ≠ 0 then 2 else checkC k a c ky bo inc (atW ws (24 + cl)) (atW ws 0) (atW ws 1)
section
variable (F : Nat → Prop) (b : Nat) (cl inc : Nat) (pnd : Int) (V : Value) (q : List Pq) (ex : Nat) (B : Option Addr) (cb : Nat) (r : List Nat) (k nd a n o ne : Int) (A : Option Addr) (l c : Nat) (ky bo : Int) (nb ng nn ncap : Nat) (ws : List Nat) (up : Bool) (L : Nat) (w : World)
theorem valid_pos {k nd a c L : Int} (h : validC k nd a c 5 L = 0) : 0 ≤ a ∧ 1 ≤ c ∧ a + c ≤ 8 * L := by
  unfold validC at h
  by_cases h1 : c < 1
  · rw [if_pos h1] at h; omega
  · rw [if_neg h1] at h
    split at h
    · rename_i h2
      have := h2.2.2.2.2.2.2.1
      unfold liesB at this
      have := of_decide_eq_true this
      omega
    · omega
theorem pc_below {w0 W : World} {b g : Nat} {cl inc : Int} {k nd a n o ne : Int} {A : Option Addr} {l c : Nat} {ky bo : Int} (h : World.cell? W ⟨b, 0, none⟩ = some (.int .i64 cl) ∧ World.cell? W ⟨b, 1, none⟩ = some (.int .i64 inc) ∧ (World.cell? W (Addr.mk g 0 none) = some (Value.int IntKind.i64 k) ∧ World.cell? W (Addr.mk g 1 none) = some (Value.int IntKind.i64 nd) ∧ World.cell? W (Addr.mk g 2 none) = some (Value.int IntKind.i64 a) ∧ World.cell? W (Addr.mk g 3 none) = some (Value.int IntKind.i64 n) ∧ World.cell? W (Addr.mk g 4 none) = some (Value.int IntKind.u64 o) ∧ World.cell? W (Addr.mk g 5 none) = some (Value.int IntKind.u64 ne) ∧ World.cell? W (Addr.mk g 6 none) = some (Value.slice A l c) ∧ World.cell? W (Addr.mk g 7 none) = some (Value.int IntKind.u64 ky) ∧ World.cell? W (Addr.mk g 8 none) = some (Value.int IntKind.i64 bo) ∧ Lk (Below (Array.size (World.heap w0)) w0 W))) : Lk (Below w0.heap.size w0 W) := held_below h.2.2
theorem pc_on {w0 W W' : World} {b g : Nat} {cl inc : Int} {k nd a n o ne : Int} {A : Option Addr} {l c : Nat} {ky bo : Int} (h : World.cell? W ⟨b, 0, none⟩ = some (.int .i64 cl) ∧ World.cell? W ⟨b, 1, none⟩ = some (.int .i64 inc) ∧ (World.cell? W (Addr.mk g 0 none) = some (Value.int IntKind.i64 k) ∧ World.cell? W (Addr.mk g 1 none) = some (Value.int IntKind.i64 nd) ∧ World.cell? W (Addr.mk g 2 none) = some (Value.int IntKind.i64 a) ∧ World.cell? W (Addr.mk g 3 none) = some (Value.int IntKind.i64 n) ∧ World.cell? W (Addr.mk g 4 none) = some (Value.int IntKind.u64 o) ∧ World.cell? W (Addr.mk g 5 none) = some (Value.int IntKind.u64 ne) ∧ World.cell? W (Addr.mk g 6 none) = some (Value.slice A l c) ∧ World.cell? W (Addr.mk g 7 none) = some (Value.int IntKind.u64 ky) ∧ World.cell? W (Addr.mk g 8 none) = some (Value.int IntKind.i64 bo) ∧ Lk (Below (Array.size (World.heap w0)) w0 W))) (hb : Lk (Below W.heap.size W W')) :
    World.cell? W' ⟨b, 0, none⟩ = some (.int .i64 cl) ∧ World.cell? W' ⟨b, 1, none⟩ = some (.int .i64 inc) ∧ (World.cell? W' (Addr.mk g 0 none) = some (Value.int IntKind.i64 k) ∧ World.cell? W' (Addr.mk g 1 none) = some (Value.int IntKind.i64 nd) ∧ World.cell? W' (Addr.mk g 2 none) = some (Value.int IntKind.i64 a) ∧ World.cell? W' (Addr.mk g 3 none) = some (Value.int IntKind.i64 n) ∧ World.cell? W' (Addr.mk g 4 none) = some (Value.int IntKind.u64 o) ∧ World.cell? W' (Addr.mk g 5 none) = some (Value.int IntKind.u64 ne) ∧ World.cell? W' (Addr.mk g 6 none) = some (Value.slice A l c) ∧ World.cell? W' (Addr.mk g 7 none) = some (Value.int IntKind.u64 ky) ∧ World.cell? W' (Addr.mk g 8 none) = some (Value.int IntKind.i64 bo) ∧ Lk (Below (Array.size (World.heap w0)) w0 W')) := ⟨(hb.out.cell (block_lt_of_cell h.1)).trans h.1, (hb.out.cell (block_lt_of_cell h.2.1)).trans h.2.1, held_on h.2.2 hb⟩
theorem check_q (h : Lk (PP F w b cl inc pnd V q ex B cb r)) (HN : Lk (PN w nb ng nn ncap ws up)) (hL : nn = 8 * L) (hL1 : 1 ≤ L ∧ L ≤ 256) (hcl : cl ≤ 5) (hinc : inc ≤ 59) (hc2 : cnt k n l ≤ 9223372036854775807) (hbo : bo ≤ 9223372036854775807) :
    Calls Try.prog 51 #[.pointer (some ⟨b, 0, none⟩), (Value.agg #[Value.int IntKind.i64 k, Value.int IntKind.i64 nd, Value.int IntKind.i64 a, Value.int IntKind.i64 n, Value.int IntKind.u64 o, Value.int IntKind.u64 ne, Value.slice A l c, Value.int IntKind.u64 ky, Value.int IntKind.i64 bo]), .pointer (some ⟨nb, 0, none⟩)] w fun e w' => e = .returned (.int .i64 (codeM cl inc k nd a (cnt k n l) ky bo L ws up)) ∧ Lk (Below w.heap.size w w') := by
  have HB1 := Lk.mk ((Below.refl _ w).alloc (Nat.le_refl _) (.cells #[Value.int IntKind.i64 k, Value.int IntKind.i64 nd, Value.int IntKind.i64 a, Value.int IntKind.i64 n, Value.int IntKind.u64 o, Value.int IntKind.u64 ne, Value.slice A l c, Value.int IntKind.u64 ky, Value.int IntKind.i64 bo] 52))
  have HX1 := Lk.mk (Bx.alloc w k nd a n o ne A l c ky bo 52)
  have HU := Lk.mk (fun W (hb : Below w.heap.size w W) => up_any nb ng nn ncap ws up W ⟨Nd.below HN.out hb⟩)
  have HLi := Lk.mk (fun W (hb : Below w.heap.size w W) => lines_any nb ng nn ncap ws up W ⟨Nd.below HN.out hb⟩ L hL (by omega))
  have HV := Lk.mk (fun W => valid_ok k nd a n o ne A l c ky bo W 5 L hc2)
  have HP := Lk.mk (fun W (hb : Below w.heap.size w W) => h.out.below hb)
  generalize hC : codeM cl inc k nd a (cnt k n l) ky bo L ws up = R
  have HRR := Lk.mk hC
  clear hC
  go_enter Try.func51, Try.ntmps51
  go_upto_region 1 with fail
  generalize w.alloc _ = w1 at *
  cases up with
  | false =>
    have hR : R = 4 := by rw [← HRR.out]; unfold codeM; rw [if_pos rfl]
    subst hR
    go_wp2_with (first | (go_at_call 82; refine (HU.out _ HB1.out).mono ?_; rintro e w' ⟨rfl, rfl⟩))
    go_ret
    exact ⟨rfl, HB1⟩
  | true =>
    go_upto_region 3 with (first | (go_at_call 82; refine (HU.out _ HB1.out).mono ?_; rintro e w' ⟨rfl, rfl⟩))
    obtain ⟨b0, b1, b2, b3, b4, b5, b6, b7, b8⟩ := HX1.out
    have HH := Lk.mk (show (World.cell? w1.drew (Addr.mk w.heap.size 0 none) = some (Value.int IntKind.i64 k) ∧ World.cell? w1.drew (Addr.mk w.heap.size 1 none) = some (Value.int IntKind.i64 nd) ∧ World.cell? w1.drew (Addr.mk w.heap.size 2 none) = some (Value.int IntKind.i64 a) ∧ World.cell? w1.drew (Addr.mk w.heap.size 3 none) = some (Value.int IntKind.i64 n) ∧ World.cell? w1.drew (Addr.mk w.heap.size 4 none) = some (Value.int IntKind.u64 o) ∧ World.cell? w1.drew (Addr.mk w.heap.size 5 none) = some (Value.int IntKind.u64 ne) ∧ World.cell? w1.drew (Addr.mk w.heap.size 6 none) = some (Value.slice A l c) ∧ World.cell? w1.drew (Addr.mk w.heap.size 7 none) = some (Value.int IntKind.u64 ky) ∧ World.cell? w1.drew (Addr.mk w.heap.size 8 none) = some (Value.int IntKind.i64 bo) ∧ Lk (Below (Array.size (World.heap w)) w w1.drew)) from ⟨b0, b1, b2, b3, b4, b5, b6, b7, b8, ⟨HB1.out.drew⟩⟩)
    by_cases hv : validC k nd a (cnt k n l) 5 L = 0
    · have hR : R = checkC k a (cnt k n l) ky bo inc (atW ws (24 + cl)) (atW ws 0) (atW ws 1) := by rw [← HRR.out]; unfold codeM; rw [if_neg (by simp), if_neg (by simpa using hv)]
      have hp := valid_pos hv
      rw [hv] at HV
      subst hR
      clear b0 b1 b2 b3 b4 b5 b6 b7 b8
      go_region_held3 (fun W' => (World.cell? W' (Addr.mk w.heap.size 0 none) = some (Value.int IntKind.i64 k) ∧ World.cell? W' (Addr.mk w.heap.size 1 none) = some (Value.int IntKind.i64 nd) ∧ World.cell? W' (Addr.mk w.heap.size 2 none) = some (Value.int IntKind.i64 a) ∧ World.cell? W' (Addr.mk w.heap.size 3 none) = some (Value.int IntKind.i64 n) ∧ World.cell? W' (Addr.mk w.heap.size 4 none) = some (Value.int IntKind.u64 o) ∧ World.cell? W' (Addr.mk w.heap.size 5 none) = some (Value.int IntKind.u64 ne) ∧ World.cell? W' (Addr.mk w.heap.size 6 none) = some (Value.slice A l c) ∧ World.cell? W' (Addr.mk w.heap.size 7 none) = some (Value.int IntKind.u64 ky) ∧ World.cell? W' (Addr.mk w.heap.size 8 none) = some (Value.int IntKind.i64 bo) ∧ Lk (Below (Array.size (World.heap w)) w W'))) (first | with_reducible exact HH.out | with_reducible assumption | with_reducible exact held_on (by assumption) (by assumption))
        (first
          | (go_at_call 44; refine (HLi.out _ (held_below (by assumption)).out).mono ?_; rintro e w' ⟨rfl, rfl⟩)
          | (go_at_call 49; refine (HV.out _).mono ?_; rintro e w' ⟨rfl, HB⟩))
      have HBB := Lk.mk (HB1.out.drew.trans (HB.out.mono HB1.out.size))
      have HXX := Lk.mk ((HX1.out.on (Below.refl _ _).drew).on HB.out)
      have HPP := Lk.mk (HP.out w' HBB.out)
      have HNN := Lk.mk (fun W (hb : Below w.heap.size w W) => Nd.below HN.out hb)
      have CW := Lk.mk (fun W (hb : Below w.heap.size w W) (x : Int) (h0 : 0 ≤ x) (h1 : x ≤ 4294967296) => wordAt_any nb ng nn ncap ws x W ⟨Nd.below HN.out hb⟩ (by omega) h0 h1)
      have CB := Lk.mk (fun W (hb : Below w.heap.size w W) => boot_any nb ng nn ncap ws true W ⟨Nd.below HN.out hb⟩ (by omega) (by omega))
      have CC := Lk.mk (fun W (door key boot : Int) => check_ok k nd a n o ne A l c ky bo W inc door key boot hp.1 hp.2.1 (by omega) (by omega) hbo)
      have HRb := Lk.mk (show checkC k a (cnt k n l) ky bo inc (atW ws (24 + cl)) (atW ws 0) (atW ws 1) = checkC k a (cnt k n l) ky bo inc (atW ws (24 + (cl : Int)).toNat) (atW ws (0 : Int).toNat) (atW ws 1) by rw [show (24 + (cl : Int)).toNat = 24 + cl by omega]; rfl)
      clear HH HU HLi HV HB HX1 HB1 h HN HP hv hp hc2 hbo hL hL1
      go_upto_region 5 with fail
      have p0 := HPP.out.c0
      have p1 := HPP.out.c1
      obtain ⟨b0, b1, b2, b3, b4, b5, b6, b7, b8⟩ := HXX.out
      have HH := Lk.mk (show World.cell? w'.drew ⟨b, 0, none⟩ = some (.int .i64 cl) ∧ World.cell? w'.drew ⟨b, 1, none⟩ = some (.int .i64 inc) ∧ (World.cell? w'.drew (Addr.mk w.heap.size 0 none) = some (Value.int IntKind.i64 k) ∧ World.cell? w'.drew (Addr.mk w.heap.size 1 none) = some (Value.int IntKind.i64 nd) ∧ World.cell? w'.drew (Addr.mk w.heap.size 2 none) = some (Value.int IntKind.i64 a) ∧ World.cell? w'.drew (Addr.mk w.heap.size 3 none) = some (Value.int IntKind.i64 n) ∧ World.cell? w'.drew (Addr.mk w.heap.size 4 none) = some (Value.int IntKind.u64 o) ∧ World.cell? w'.drew (Addr.mk w.heap.size 5 none) = some (Value.int IntKind.u64 ne) ∧ World.cell? w'.drew (Addr.mk w.heap.size 6 none) = some (Value.slice A l c) ∧ World.cell? w'.drew (Addr.mk w.heap.size 7 none) = some (Value.int IntKind.u64 ky) ∧ World.cell? w'.drew (Addr.mk w.heap.size 8 none) = some (Value.int IntKind.i64 bo) ∧ Lk (Below (Array.size (World.heap w)) w w'.drew)) from ⟨p0, p1, b0, b1, b2, b3, b4, b5, b6, b7, b8, ⟨HBB.out.drew⟩⟩)
      have hcw : IntKind.i64.wrap (24 + (cl : Int)) = 24 + cl := IntWalk.i64_in _ (by omega)
      have hcl0 : (0 : Int) ≤ 24 + cl := by omega
      have hcl1 : 24 + (cl : Int) ≤ 4294967296 := by omega
      have h00 : (0 : Int) ≤ 0 := by omega
      have h01 : (0 : Int) ≤ 4294967296 := by omega
      clear b0 b1 b2 b3 b4 b5 b6 b7 b8 p0 p1 hcl hinc
      go_region_held3 (fun W' => World.cell? W' ⟨b, 0, none⟩ = some (.int .i64 cl) ∧ World.cell? W' ⟨b, 1, none⟩ = some (.int .i64 inc) ∧ (World.cell? W' (Addr.mk w.heap.size 0 none) = some (Value.int IntKind.i64 k) ∧ World.cell? W' (Addr.mk w.heap.size 1 none) = some (Value.int IntKind.i64 nd) ∧ World.cell? W' (Addr.mk w.heap.size 2 none) = some (Value.int IntKind.i64 a) ∧ World.cell? W' (Addr.mk w.heap.size 3 none) = some (Value.int IntKind.i64 n) ∧ World.cell? W' (Addr.mk w.heap.size 4 none) = some (Value.int IntKind.u64 o) ∧ World.cell? W' (Addr.mk w.heap.size 5 none) = some (Value.int IntKind.u64 ne) ∧ World.cell? W' (Addr.mk w.heap.size 6 none) = some (Value.slice A l c) ∧ World.cell? W' (Addr.mk w.heap.size 7 none) = some (Value.int IntKind.u64 ky) ∧ World.cell? W' (Addr.mk w.heap.size 8 none) = some (Value.int IntKind.i64 bo) ∧ Lk (Below (Array.size (World.heap w)) w W'))) (first | with_reducible exact HH.out | with_reducible assumption | with_reducible exact pc_on (by assumption) (by assumption))
        (first
          | (go_at_call 84; refine (CW.out _ (pc_below (by assumption)).out _ (by assumption) (by assumption)).mono ?_; rintro e w4 ⟨rfl, HB4⟩)
          | (go_at_call 59; refine (CB.out _ (pc_below (by assumption)).out).mono ?_; rintro e w4 ⟨rfl, rfl⟩)
          | (go_at_call 83; refine (CC.out _ _ _ _).mono ?_; rintro e w4 ⟨rfl, HB4⟩))
      go_wp2
      go_ret
      exact ⟨ret_int (by rw [HRb.out]; rfl), pc_below (by assumption)⟩
    · have hR : R = 2 := by rw [← HRR.out]; unfold codeM; rw [if_neg (by simp), if_pos hv]
      have hb : (validC k nd a (cnt k n l) 5 L != 0) = true := bne_iff_ne.2 hv
      subst hR
      generalize validC k nd a (cnt k n l) 5 L = vc at *
      clear b0 b1 b2 b3 b4 b5 b6 b7 b8
      go_region_held3 (fun W' => (World.cell? W' (Addr.mk w.heap.size 0 none) = some (Value.int IntKind.i64 k) ∧ World.cell? W' (Addr.mk w.heap.size 1 none) = some (Value.int IntKind.i64 nd) ∧ World.cell? W' (Addr.mk w.heap.size 2 none) = some (Value.int IntKind.i64 a) ∧ World.cell? W' (Addr.mk w.heap.size 3 none) = some (Value.int IntKind.i64 n) ∧ World.cell? W' (Addr.mk w.heap.size 4 none) = some (Value.int IntKind.u64 o) ∧ World.cell? W' (Addr.mk w.heap.size 5 none) = some (Value.int IntKind.u64 ne) ∧ World.cell? W' (Addr.mk w.heap.size 6 none) = some (Value.slice A l c) ∧ World.cell? W' (Addr.mk w.heap.size 7 none) = some (Value.int IntKind.u64 ky) ∧ World.cell? W' (Addr.mk w.heap.size 8 none) = some (Value.int IntKind.i64 bo) ∧ Lk (Below (Array.size (World.heap w)) w W'))) (first | with_reducible exact HH.out | with_reducible assumption | with_reducible exact held_on (by assumption) (by assumption))
        (first
          | (go_at_call 44; refine (HLi.out _ (held_below (by assumption)).out).mono ?_; rintro e w' ⟨rfl, rfl⟩)
          | (go_at_call 49; refine (HV.out _).mono ?_; rintro e w' ⟨rfl, HB⟩))
      go_wp2
      go_ret
      exact ⟨rfl, ⟨HB1.out.drew.trans (HB.out.mono HB1.out.size)⟩⟩
end
end Go.Proofs.Ytacfmkmiikkppaa.Te
namespace Go.Proofs.Ytacfmkmiikkppaa.Tf
open Go.ChangeShapes Go.WideShapes Go.ChangeAt Go.RowKit Ga Gb Na Nb Nc Nd_ Va Vb Vd Ve Qa Qb Qd Ta Tb Tc Td Te
set_option linter.unusedVariables false
set_option linter.unusedSimpArgs false
set_option maxHeartbeats 1000000
set_option maxRecDepth 100000
/-- What a piece reads. -/
def outM (k : Int) (ws : List Nat) (at_ m : Nat) : List Nat := if k = 2 then [] else (ws.drop at_).take m
/-- What it makes of the node's words. -/
def wsM (k : Int) (a o ne : Nat) (s ws : List Nat) (at_ m : Nat) : List Nat :=
  if k = 2 then putW ws at_ ((s.drop (at_ - a)).take m) else if k = 3 then casW ws at_ o ne else if k = 4 then addW ws at_ ne else ws
theorem take_one (ws : List Nat) (i : Nat) (h : i < ws.length) : (ws.drop i).take 1 = [ws.getD i 0] := by
  rw [List.drop_eq_getElem_cons h, List.take_succ_cons, List.take_zero]
  simp [h]
theorem slice_any (ad : Addr) (n cap j c : Nat) (w : World) (h1 : 1 ≤ c) (h2 : j + c ≤ n) (h3 : n ≤ cap) (h4 : cap ≤ 9223372036854775807) :
    (Instr.sliceAt 49 (.slice (some ad) n cap) (some (.int .i64 (j : Int))) (some (.int .i64 ((j : Int) + c))) none).run Try.prog w = .ok (.slice (some (ad.add j)) c (cap - j)) w := by
  rw [run_sliceAt_slice _ _ _ _ _ _ under_words, run_slice_lh _ _ _ _ _ under_words _ _ _ _ (by omega) (by omega) (by omega), size_word]
  have e : (if cap = j then (some ad : Option Addr) else (some ad).map (·.add (j * 1))) = some (ad.add j) := by
    rw [if_neg (by omega)]
    simp
  have e2 : ((j : Int) + c).toNat - j = c := by omega
  simp only [Result.andThen, sliced, e, e2, Int.toNat_natCast]
section
variable (nb ng n cap : Nat) (ws : List Nat) (nd nn : Int) (a o ne : Nat) (A : Option Addr) (c : Nat) (ky bo : Int) (s : List Nat) (at_ m : Nat) (w : World)
def Exec (k : Int) (w : World) (nb ng n cap : Nat) (ws : List Nat) (a o ne : Nat) (s : List Nat) (at_ m : Nat) (e : Ending) (w' : World) : Prop :=
  ∃ (A2 : Option Addr) (c2 : Nat), e = .returned (.slice A2 (outM k ws at_ m).length c2) ∧ Lk (Own w.heap.size w' A2 (outM k ws at_ m)) ∧ Lk (PN w' nb ng n cap (wsM k a o ne s ws at_ m) true) ∧ Lk (Only (fun k => k = nb ∨ k = ng) w w')
theorem ex_read (HN : Lk (PN w nb ng n cap ws true)) (hn : n ≤ 4294967296) (h1 : 1 ≤ m) (hat : at_ + m ≤ n) :
    Calls Try.prog 54 #[(Value.agg #[Value.int IntKind.i64 1, Value.int IntKind.i64 nd, Value.int IntKind.i64 a, Value.int IntKind.i64 nn, Value.int IntKind.u64 o, Value.int IntKind.u64 ne, Value.slice A s.length c, Value.int IntKind.u64 ky, Value.int IntKind.i64 bo]), .agg #[.int .i64 at_, .int .i64 m], .pointer (some ⟨nb, 0, none⟩)] w fun e w' => Exec 1 w nb ng n cap ws a o ne s at_ m e w' := by
  have HB1 := Lk.mk (((Below.refl _ w).alloc (Nat.le_refl _) (.cells #[Value.int IntKind.i64 1, Value.int IntKind.i64 nd, Value.int IntKind.i64 a, Value.int IntKind.i64 nn, Value.int IntKind.u64 o, Value.int IntKind.u64 ne, Value.slice A s.length c, Value.int IntKind.u64 ky, Value.int IntKind.i64 bo] 52)).alloc (by simp) (.cells #[.int .i64 at_, .int .i64 m] 101))
  have hx := Bx.alloc w 1 nd a nn o ne A s.length c ky bo 52
  have hs1 : (w.alloc (.cells #[Value.int IntKind.i64 1, Value.int IntKind.i64 nd, Value.int IntKind.i64 a, Value.int IntKind.i64 nn, Value.int IntKind.u64 o, Value.int IntKind.u64 ne, Value.slice A s.length c, Value.int IntKind.u64 ky, Value.int IntKind.i64 bo] 52)).heap.size = w.heap.size + 1 := by simp
  have C := fun W (hb : Below w.heap.size w W) => read_ok nb ng n cap ws at_ m W ⟨Nd.below HN.out hb⟩ hn h1 hat
  have hlen := HN.out.row.len
  go_enter Try.func54, Try.ntmps54
  go_upto_region 1 with fail
  generalize w.alloc _ = w1 at *
  have hp := (Below.refl _ w1).alloc (Nat.le_refl _) (.cells #[.int .i64 at_, .int .i64 m] 101)
  have b0 := (hx.on hp).c0
  have p0 := (cell_of_row _ w1.heap.size 0 _ _ _ (heap_alloc_new w1 (.cells #[.int .i64 at_, .int .i64 m] 101))).trans rfl
  have p1 := (cell_of_row _ w1.heap.size 1 _ _ _ (heap_alloc_new w1 (.cells #[.int .i64 at_, .int .i64 m] 101))).trans rfl
  rw [hs1] at p0 p1
  clear hx hp hs1
  generalize w1.alloc _ = W at *
  go_wp2_with (first
    | (go_at_call 21; refine (C _ HB1.out).mono ?_; rintro e w' ⟨g1, cap1, rfl, HG, HR, HB⟩))
  go_ret
  have e1 : outM 1 ws at_ m = (ws.drop at_).take m := by unfold outM; rw [if_neg (by decide)]
  have e2 : wsM 1 a o ne s ws at_ m = ws := by unfold wsM; rw [if_neg (by decide), if_neg (by decide), if_neg (by decide)]
  have e3 : ((ws.drop at_).take m).length = m := cut_len (by omega)
  refine ⟨some ⟨g1, 0, none⟩, cap1, by rw [e1, e3]; rfl, ⟨fun _ => ⟨g1, cap1, rfl, by have := HB1.out.size; have := HG.out; omega, by rw [e1, e3]; exact HR.out⟩⟩, ⟨by rw [e2]; exact Nd.below HN.out (HB1.out.trans (HB.out.mono HB1.out.size))⟩, ⟨Only.of_below (HB1.out.trans (HB.out.mono HB1.out.size))⟩⟩
theorem ex_cas (HN : Lk (PN w nb ng n cap ws true)) (hn : n ≤ 4294967296) (h1 : m = 1) (hat : at_ < n) (ho : o < 18446744073709551616) (hne : ne < 18446744073709551616) :
    Calls Try.prog 54 #[(Value.agg #[Value.int IntKind.i64 3, Value.int IntKind.i64 nd, Value.int IntKind.i64 a, Value.int IntKind.i64 nn, Value.int IntKind.u64 o, Value.int IntKind.u64 ne, Value.slice A s.length c, Value.int IntKind.u64 ky, Value.int IntKind.i64 bo]), .agg #[.int .i64 at_, .int .i64 m], .pointer (some ⟨nb, 0, none⟩)] w fun e w' => Exec 3 w nb ng n cap ws a o ne s at_ m e w' := by
  have HB1 := Lk.mk (((Below.refl _ w).alloc (Nat.le_refl _) (.cells #[Value.int IntKind.i64 3, Value.int IntKind.i64 nd, Value.int IntKind.i64 a, Value.int IntKind.i64 nn, Value.int IntKind.u64 o, Value.int IntKind.u64 ne, Value.slice A s.length c, Value.int IntKind.u64 ky, Value.int IntKind.i64 bo] 52)).alloc (by simp) (.cells #[.int .i64 at_, .int .i64 m] 101))
  have hx := Bx.alloc w 3 nd a nn o ne A s.length c ky bo 52
  have hs1 : (w.alloc (.cells #[Value.int IntKind.i64 3, Value.int IntKind.i64 nd, Value.int IntKind.i64 a, Value.int IntKind.i64 nn, Value.int IntKind.u64 o, Value.int IntKind.u64 ne, Value.slice A s.length c, Value.int IntKind.u64 ky, Value.int IntKind.i64 bo] 52)).heap.size = w.heap.size + 1 := by simp
  have C := fun W (hb : Below w.heap.size w W) => cas_ok nb ng n cap ws at_ o ne W ⟨Nd.below HN.out hb⟩ hn hat ho hne
  have hlen := HN.out.row.len
  have HLt := Lk.mk (getD_lt HN.out.row.lt (show at_ < ws.length by omega))
  have e1 : outM 3 ws at_ m = [ws.getD at_ 0] := by unfold outM; rw [if_neg (by decide), h1, take_one ws at_ (by omega)]
  have e2 : wsM 3 a o ne s ws at_ m = casW ws at_ o ne := by unfold wsM; rw [if_neg (by decide), if_pos rfl]
  unfold Exec
  rw [e1, e2]
  clear e1 e2 hlen h1
  generalize ws.getD at_ 0 = v at *
  go_enter Try.func54, Try.ntmps54
  go_upto_region 1 with fail
  generalize w.alloc _ = w1 at *
  have hp := (Below.refl _ w1).alloc (Nat.le_refl _) (.cells #[.int .i64 at_, .int .i64 m] 101)
  obtain ⟨b0, b1, b2, b3, b4, b5, b6, b7, b8⟩ := hx.on hp
  have p0 := (cell_of_row _ w1.heap.size 0 _ _ _ (heap_alloc_new w1 (.cells #[.int .i64 at_, .int .i64 m] 101))).trans rfl
  have p1 := (cell_of_row _ w1.heap.size 1 _ _ _ (heap_alloc_new w1 (.cells #[.int .i64 at_, .int .i64 m] 101))).trans rfl
  rw [hs1] at p0 p1
  clear hx hp hs1
  generalize w1.alloc _ = W at *
  go_upto_region 11 with (first
    | (go_at_call 87; refine (C _ HB1.out).mono ?_; rintro e w4 ⟨rfl, HN4, HO4⟩))
  have HO5 := Lk.mk (((Only.of_below (S := fun k => k = nb ∨ k = ng) HB1.out).trans HO4.out).alloc (.cells #[.int .u64 (v : Int)] 33))
  have HN5 := Lk.mk (Nd.below HN4.out ((Below.refl _ w4).alloc (Nat.le_refl _) (.cells #[.int .u64 (v : Int)] 33)))
  have HW5 := Lk.mk (own_of (n := 1) (c := 1) (l := [v]) (World.ownsRow_lit w4 #[.int .u64 (v : Int)] 1 (Nat.le_refl _) (by decide) rfl) rfl (fun x hx => by rw [List.mem_singleton] at hx; subst hx; exact HLt.out))
  have hs4 : w.heap.size ≤ w4.heap.size := Nat.le_trans HB1.out.size HO4.out.size
  go_wp2
  go_ret
  exact ⟨_, 1, rfl, ⟨HW5.out.more hs4⟩, HN5, HO5⟩
theorem ex_add (HN : Lk (PN w nb ng n cap ws true)) (hn : n ≤ 4294967296) (h1 : m = 1) (hat : at_ < n) (ho : o < 18446744073709551616) (hne : ne < 18446744073709551616) :
    Calls Try.prog 54 #[(Value.agg #[Value.int IntKind.i64 4, Value.int IntKind.i64 nd, Value.int IntKind.i64 a, Value.int IntKind.i64 nn, Value.int IntKind.u64 o, Value.int IntKind.u64 ne, Value.slice A s.length c, Value.int IntKind.u64 ky, Value.int IntKind.i64 bo]), .agg #[.int .i64 at_, .int .i64 m], .pointer (some ⟨nb, 0, none⟩)] w fun e w' => Exec 4 w nb ng n cap ws a o ne s at_ m e w' := by
  have HB1 := Lk.mk (((Below.refl _ w).alloc (Nat.le_refl _) (.cells #[Value.int IntKind.i64 4, Value.int IntKind.i64 nd, Value.int IntKind.i64 a, Value.int IntKind.i64 nn, Value.int IntKind.u64 o, Value.int IntKind.u64 ne, Value.slice A s.length c, Value.int IntKind.u64 ky, Value.int IntKind.i64 bo] 52)).alloc (by simp) (.cells #[.int .i64 at_, .int .i64 m] 101))
  have hx := Bx.alloc w 4 nd a nn o ne A s.length c ky bo 52
  have hs1 : (w.alloc (.cells #[Value.int IntKind.i64 4, Value.int IntKind.i64 nd, Value.int IntKind.i64 a, Value.int IntKind.i64 nn, Value.int IntKind.u64 o, Value.int IntKind.u64 ne, Value.slice A s.length c, Value.int IntKind.u64 ky, Value.int IntKind.i64 bo] 52)).heap.size = w.heap.size + 1 := by simp
  have C := fun W (hb : Below w.heap.size w W) => add_ok nb ng n cap ws at_ ne W ⟨Nd.below HN.out hb⟩ hn hat hne
  have hlen := HN.out.row.len
  have HLt := Lk.mk (getD_lt HN.out.row.lt (show at_ < ws.length by omega))
  have e1 : outM 4 ws at_ m = [ws.getD at_ 0] := by unfold outM; rw [if_neg (by decide), h1, take_one ws at_ (by omega)]
  have e2 : wsM 4 a o ne s ws at_ m = addW ws at_ ne := by unfold wsM; rw [if_neg (by decide), if_neg (by decide), if_pos rfl]
  unfold Exec
  rw [e1, e2]
  clear e1 e2 hlen h1
  generalize ws.getD at_ 0 = v at *
  go_enter Try.func54, Try.ntmps54
  go_upto_region 1 with fail
  generalize w.alloc _ = w1 at *
  have hp := (Below.refl _ w1).alloc (Nat.le_refl _) (.cells #[.int .i64 at_, .int .i64 m] 101)
  obtain ⟨b0, b1, b2, b3, b4, b5, b6, b7, b8⟩ := hx.on hp
  have p0 := (cell_of_row _ w1.heap.size 0 _ _ _ (heap_alloc_new w1 (.cells #[.int .i64 at_, .int .i64 m] 101))).trans rfl
  have p1 := (cell_of_row _ w1.heap.size 1 _ _ _ (heap_alloc_new w1 (.cells #[.int .i64 at_, .int .i64 m] 101))).trans rfl
  rw [hs1] at p0 p1
  clear hx hp hs1
  generalize w1.alloc _ = W at *
  go_upto_region 13 with (first
    | (go_at_call 88; refine (C _ HB1.out).mono ?_; rintro e w4 ⟨rfl, HN4, HO4⟩))
  have HO5 := Lk.mk (((Only.of_below (S := fun k => k = nb ∨ k = ng) HB1.out).trans HO4.out).alloc (.cells #[.int .u64 (v : Int)] 33))
  have HN5 := Lk.mk (Nd.below HN4.out ((Below.refl _ w4).alloc (Nat.le_refl _) (.cells #[.int .u64 (v : Int)] 33)))
  have HW5 := Lk.mk (own_of (n := 1) (c := 1) (l := [v]) (World.ownsRow_lit w4 #[.int .u64 (v : Int)] 1 (Nat.le_refl _) (by decide) rfl) rfl (fun x hx => by rw [List.mem_singleton] at hx; subst hx; exact HLt.out))
  have hs4 : w.heap.size ≤ w4.heap.size := Nat.le_trans HB1.out.size HO4.out.size
  go_wp2
  go_ret
  exact ⟨_, 1, rfl, ⟨HW5.out.more hs4⟩, HN5, HO5⟩
theorem wr_on {W W' : World} {g g2 nb ng : Nat} {A : Option Addr} {l c at_ m : Nat} (h : World.cell? W ⟨g2, 0, none⟩ = some (.int .i64 at_) ∧ World.cell? W ⟨g2, 1, none⟩ = some (.int .i64 m) ∧ World.cell? W ⟨g, 6, none⟩ = some (.slice A l c)) (ho : Lk (Only (fun k => k = nb ∨ k = ng) W W')) (hn : Lk ((g2 ≠ nb ∧ g2 ≠ ng) ∧ (g ≠ nb ∧ g ≠ ng))) :
    World.cell? W' ⟨g2, 0, none⟩ = some (.int .i64 at_) ∧ World.cell? W' ⟨g2, 1, none⟩ = some (.int .i64 m) ∧ World.cell? W' ⟨g, 6, none⟩ = some (.slice A l c) := by
  have k2 := fun j (hb : g2 < W.heap.size) => World.cell?_of_block (w := W) (w' := W') (a := ⟨g2, j, none⟩) (ho.out.block g2 hb (fun hh => hh.elim hn.out.1.1 hn.out.1.2))
  exact ⟨(k2 0 (block_lt_of_cell h.1)).trans h.1, (k2 1 (block_lt_of_cell h.1)).trans h.2.1, (World.cell?_of_block (w := W) (w' := W') (a := ⟨g, 6, none⟩) (ho.out.block g (block_lt_of_cell h.2.2) (fun hh => hh.elim hn.out.2.1 hn.out.2.2))).trans h.2.2⟩
theorem ex_write (HN : Lk (PN w nb ng n cap ws true)) (hn : n ≤ 4294967296) (h1 : 1 ≤ m) (hat : at_ + m ≤ n) (ha : a ≤ at_) (hs : at_ - a + m ≤ s.length) (hsl : s.length ≤ c) (hc : c ≤ 9223372036854775807) (hw : Lk (wide s)) (HL : Lk (Lies .u64 w w.heap.size A s)) :
    Calls Try.prog 54 #[(Value.agg #[Value.int IntKind.i64 2, Value.int IntKind.i64 nd, Value.int IntKind.i64 a, Value.int IntKind.i64 nn, Value.int IntKind.u64 o, Value.int IntKind.u64 ne, Value.slice A s.length c, Value.int IntKind.u64 ky, Value.int IntKind.i64 bo]), .agg #[.int .i64 at_, .int .i64 m], .pointer (some ⟨nb, 0, none⟩)] w fun e w' => Exec 2 w nb ng n cap ws a o ne s at_ m e w' := by
  have HB1 := Lk.mk (((Below.refl _ w).alloc (Nat.le_refl _) (.cells #[Value.int IntKind.i64 2, Value.int IntKind.i64 nd, Value.int IntKind.i64 a, Value.int IntKind.i64 nn, Value.int IntKind.u64 o, Value.int IntKind.u64 ne, Value.slice A s.length c, Value.int IntKind.u64 ky, Value.int IntKind.i64 bo] 52)).alloc (by simp) (.cells #[.int .i64 at_, .int .i64 m] 101))
  have hx := Bx.alloc w 2 nd a nn o ne A s.length c ky bo 52
  have hs1 : (w.alloc (.cells #[Value.int IntKind.i64 2, Value.int IntKind.i64 nd, Value.int IntKind.i64 a, Value.int IntKind.i64 nn, Value.int IntKind.u64 o, Value.int IntKind.u64 ne, Value.slice A s.length c, Value.int IntKind.u64 ky, Value.int IntKind.i64 bo] 52)).heap.size = w.heap.size + 1 := by simp
  obtain ⟨ad, rfl, hadb, hadc⟩ := HL.out (by omega)
  have HLy := Lk.mk (fun W (hb : Below w.heap.size w W) (j : Nat) (hj : j < s.length) => (show W.cell? (ad.add j) = some (.int .u64 ((s.getD j 0 : Nat) : Int)) from (hb.cell (by rw [block_of_add]; exact hadb)).trans (hadc j hj)))
  have C := Lk.mk (fun W (hb : Below w.heap.size w W) (cc : Nat) => write_ok nb ng n cap ws at_ (ad.add (at_ - a)) ((s.drop (at_ - a)).take m) m cc W ⟨Nd.below HN.out hb⟩ hn (cut_len hs) h1 hat ⟨cut_lt hw.out.2 _ _⟩ ⟨fun i hi => by
    rw [add_of_add, HLy.out W hb (at_ - a + i) (by omega), List.getD_eq_getElem?_getD, List.getD_eq_getElem?_getD, List.getElem?_take, if_pos hi, List.getElem?_drop]⟩)
  have hsl2 := fun w => slice_any ad s.length c (at_ - a) m w h1 hs hsl hc
  have e1 : outM 2 ws at_ m = [] := by unfold outM; rw [if_pos rfl]
  have e2 : wsM 2 a o ne s ws at_ m = putW ws at_ ((s.drop (at_ - a)).take m) := by unfold wsM; rw [if_pos rfl]
  unfold Exec
  rw [e1, e2]
  have HNe := Lk.mk (show ((w.heap.size + 1 ≠ nb ∧ w.heap.size + 1 ≠ ng) ∧ (w.heap.size ≠ nb ∧ w.heap.size ≠ ng)) by have := HN.out.size; have := HN.out.row.size; omega)
  have hsub : IntKind.i64.wrap ((at_ : Int) - a) = ((at_ - a : Nat) : Int) := by rw [IntWalk.i64_in _ (by have := hw.out.1; omega)]; omega
  have hsum : IntKind.i64.wrap (((at_ - a : Nat) : Int) + m) = ((at_ - a : Nat) : Int) + m := IntWalk.i64_in _ (by have := hw.out.1; omega)
  have hsub2 : (at_ : Int) - a = ((at_ - a : Nat) : Int) := by omega
  have hwl : s.length ≤ 4294967296 := hw.out.1
  clear e1 e2 hadb hadc HLy HL
  go_enter Try.func54, Try.ntmps54
  go_upto_region 1 with fail
  generalize w.alloc _ = w1 at *
  have hp := (Below.refl _ w1).alloc (Nat.le_refl _) (.cells #[.int .i64 at_, .int .i64 m] 101)
  obtain ⟨b0, b1, b2, b3, b4, b5, b6, b7, b8⟩ := hx.on hp
  have p0 := (cell_of_row _ w1.heap.size 0 _ _ _ (heap_alloc_new w1 (.cells #[.int .i64 at_, .int .i64 m] 101))).trans rfl
  have p1 := (cell_of_row _ w1.heap.size 1 _ _ _ (heap_alloc_new w1 (.cells #[.int .i64 at_, .int .i64 m] 101))).trans rfl
  rw [hs1] at p0 p1
  clear hx hp hs1
  generalize w1.alloc _ = W at *
  go_upto_region 7 with fail
  have HH := Lk.mk (show World.cell? W.drew ⟨w.heap.size + 1, 0, none⟩ = some (.int .i64 at_) ∧ World.cell? W.drew ⟨w.heap.size + 1, 1, none⟩ = some (.int .i64 m) ∧ World.cell? W.drew ⟨w.heap.size, 6, none⟩ = some (.slice (some ad) s.length c) from ⟨p0, p1, b6⟩)
  have HBd : Lk (Below w.heap.size w W.drew) := ⟨HB1.out.drew⟩
  clear p0 p1 b0 b1 b2 b3 b4 b5 b6 b7 b8 hs hat ha hsl hc h1 hn hsub2
  go_region_held3 (fun W' => World.cell? W' ⟨w.heap.size + 1, 0, none⟩ = some (.int .i64 at_) ∧ World.cell? W' ⟨w.heap.size + 1, 1, none⟩ = some (.int .i64 m) ∧ World.cell? W' ⟨w.heap.size, 6, none⟩ = some (.slice (some ad) s.length c))
    (first | with_reducible exact HH.out | with_reducible assumption | exact wr_on HH.out HO4 HNe)
    (first
      | (go_at_call 33; refine (C.out _ HBd.out _).mono ?_; rintro e w4 ⟨rfl, HN4, HO4⟩))
  go_wp2
  go_ret
  exact ⟨none, 0, rfl, ⟨fun h => absurd h (by simp)⟩, HN4, ⟨(Only.of_below (S := fun k => k = nb ∨ k = ng) HBd.out).trans HO4.out⟩⟩
theorem exec_any (k : Int) (hk : k = 1 ∨ k = 2 ∨ k = 3 ∨ k = 4) (HN : Lk (PN w nb ng n cap ws true)) (hn : n ≤ 4294967296) (h1 : 1 ≤ m) (hat : at_ + m ≤ n) (hm : k = 3 ∨ k = 4 → m = 1) (h2 : k = 2 → a ≤ at_ ∧ at_ - a + m ≤ s.length) (hsl : s.length ≤ c) (hc : c ≤ 9223372036854775807) (hw : Lk (wide s)) (HL : Lk (Lies .u64 w w.heap.size A s)) (ho : o < 18446744073709551616) (hne : ne < 18446744073709551616) :
    Calls Try.prog 54 #[(Value.agg #[Value.int IntKind.i64 k, Value.int IntKind.i64 nd, Value.int IntKind.i64 a, Value.int IntKind.i64 nn, Value.int IntKind.u64 o, Value.int IntKind.u64 ne, Value.slice A s.length c, Value.int IntKind.u64 ky, Value.int IntKind.i64 bo]), .agg #[.int .i64 at_, .int .i64 m], .pointer (some ⟨nb, 0, none⟩)] w fun e w' => Exec k w nb ng n cap ws a o ne s at_ m e w' := by
  rcases hk with rfl | rfl | rfl | rfl
  · exact ex_read nb ng n cap ws nd nn a o ne A c ky bo s at_ m w HN hn h1 hat
  · exact ex_write nb ng n cap ws nd nn a o ne A c ky bo s at_ m w HN hn h1 hat (h2 rfl).1 (h2 rfl).2 hsl hc hw HL
  · exact ex_cas nb ng n cap ws nd nn a o ne A c ky bo s at_ m w HN hn (hm (.inl rfl)) (by omega) ho hne
  · exact ex_add nb ng n cap ws nd nn a o ne A c ky bo s at_ m w HN hn (hm (.inr rfl)) (by omega) ho hne
end
end Go.Proofs.Ytacfmkmiikkppaa.Tf

/-
  The program asks whether a piece may be executed.
-/
import Derived.Test.YtpehhldfegjajaaTd
import Derived.Test.YtpehhldfegjajaaNd
import Derived.Test.YtpehhldfegjajaaVd
import Derived.Test.YtpehhldfegjajaaHq
namespace Go.Proofs.Ytpehhldfegjajaa.Te
open Go.ChangeShapes Go.WideShapes Go.ChangeAt Go.RowKit Ga Gb Na Nb Nc Nd_ Va Vb Vd Ve Qa Qb Qd Ta Tb Tc Td
set_option linter.unusedVariables false
set_option linter.unusedSimpArgs false
set_option maxHeartbeats 1000000
set_option maxRecDepth 100000
theorem wordAt_any (b g n cap : Nat) (ws : List Nat) (x : Int) (w : World) (HN : Lk (PN w b g n cap ws true)) (hn : n ≤ 4294967296) (h0 : 0 ≤ x) (h1 : x ≤ 4294967296) :
    Calls Try.prog 83 #[.pointer (some ⟨b, 0, none⟩), .int .i64 x] w fun e w' => e = .returned (.int .u64 (atW ws x.toNat : Int)) ∧ Lk (Below w.heap.size w w') := by
  have hl := HN.out.row.len
  obtain ⟨i, rfl⟩ : ∃ i : Nat, x = i := ⟨x.toNat, by omega⟩
  rw [Int.toNat_natCast]
  by_cases hi : i + 1 ≤ n
  · have C := read_ok b g n cap ws i 1 w HN hn (Nat.le_refl 1) hi
    have he : (ws.drop i).take 1 = [ws.getD i 0] := by
      have h : i < ws.length := by omega
      rw [List.drop_eq_getElem_cons h, List.take_succ_cons, List.take_zero]
      simp [h]
    rw [he] at C
    unfold atW
    generalize ws.getD i 0 = v at *
    clear he hl h0
    go_enter Try.func83, Try.ntmps83
    go_wp2_with (first
      | (go_at_call 87; refine C.mono ?_; rintro e w' ⟨g1, cap1, rfl, HG, HR, HB⟩; have hr := HR.out.cell (j := 0) (by omega); simp only [List.getD_cons_zero] at hr))
    go_ret
    exact ⟨rfl, HB⟩
  · have hk : codeOf true n i 1 ≠ 0 := by unfold codeOf; rw [fits_not (by omega)]; simp
    have hv : codeOf true n i 1 = 2 := by unfold codeOf; rw [fits_not (by omega)]; simp
    have C := read_no b g n cap ws true i 1 w HN hn (by omega) (by omega) (by omega) (by omega) hk
    rw [hv] at C
    have h2 : atW ws i = 0 := by unfold atW; rw [List.getD_eq_getElem?_getD, List.getElem?_eq_none (by omega)]; rfl
    rw [h2]
    clear hk hv h2 hl
    go_enter Try.func83, Try.ntmps83
    go_wp2_with (first
      | (go_at_call 87; refine C.mono ?_; rintro e w' ⟨rfl, rfl⟩))
    go_ret
    exact ⟨rfl, ⟨Below.refl _ _⟩⟩
/-- What a node answers a verb with, before a piece is executed. -/
def codeM (cl inc : Nat) (k nd a c ky bo : Int) (L : Nat) (ws : List Nat) (up : Bool) : Int :=
  if up = false then 4 else if validC k nd a c 5 L ≠ 0 then 2 else checkC k a c ky bo inc (atW ws (24 + cl)) (atW ws 0) (atW ws 1)
section
variable (F : Nat → Prop) (b : Nat) (cl inc : Nat) (pnd : Int) (V : Value) (q : List Pq) (ex : Nat) (B : Option Addr) (cb : Nat) (r : List Nat) (k nd a n o ne : Int) (A : Option Addr) (l c : Nat) (ky bo : Int) (nb ng nn ncap : Nat) (ws : List Nat) (up : Bool) (L : Nat) (w : World)
theorem valid_pos {k nd a c L : Int} (h : validC k nd a c 5 L = 0) : 0 ≤ a ∧ 1 ≤ c ∧ a + c ≤ 8 * L := by
  unfold validC at h
  by_cases h1 : c < 1
  · rw [if_pos h1] at h; omega
  · rw [if_neg h1] at h
    split at h
    · rename_i h2
      have := h2.2.2.2.2.2.2.1
      unfold liesB at this
      have := of_decide_eq_true this
      omega
    · omega
theorem pc_below {w0 W : World} {b g : Nat} {cl inc : Int} {k nd a n o ne : Int} {A : Option Addr} {l c : Nat} {ky bo : Int} (h : World.cell? W ⟨b, 0, none⟩ = some (.int .i64 cl) ∧ World.cell? W ⟨b, 1, none⟩ = some (.int .i64 inc) ∧ (World.cell? W (Addr.mk g 0 none) = some (Value.int IntKind.i64 k) ∧ World.cell? W (Addr.mk g 1 none) = some (Value.int IntKind.i64 nd) ∧ World.cell? W (Addr.mk g 2 none) = some (Value.int IntKind.i64 a) ∧ World.cell? W (Addr.mk g 3 none) = some (Value.int IntKind.i64 n) ∧ World.cell? W (Addr.mk g 4 none) = some (Value.int IntKind.u64 o) ∧ World.cell? W (Addr.mk g 5 none) = some (Value.int IntKind.u64 ne) ∧ World.cell? W (Addr.mk g 6 none) = some (Value.slice A l c) ∧ World.cell? W (Addr.mk g 7 none) = some (Value.int IntKind.u64 ky) ∧ World.cell? W (Addr.mk g 8 none) = some (Value.int IntKind.i64 bo) ∧ Lk (Below (Array.size (World.heap w0)) w0 W))) : Lk (Below w0.heap.size w0 W) := held_below h.2.2
theorem pc_on {w0 W W' : World} {b g : Nat} {cl inc : Int} {k nd a n o ne : Int} {A : Option Addr} {l c : Nat} {ky bo : Int} (h : World.cell? W ⟨b, 0, none⟩ = some (.int .i64 cl) ∧ World.cell? W ⟨b, 1, none⟩ = some (.int .i64 inc) ∧ (World.cell? W (Addr.mk g 0 none) = some (Value.int IntKind.i64 k) ∧ World.cell? W (Addr.mk g 1 none) = some (Value.int IntKind.i64 nd) ∧ World.cell? W (Addr.mk g 2 none) = some (Value.int IntKind.i64 a) ∧ World.cell? W (Addr.mk g 3 none) = some (Value.int IntKind.i64 n) ∧ World.cell? W (Addr.mk g 4 none) = some (Value.int IntKind.u64 o) ∧ World.cell? W (Addr.mk g 5 none) = some (Value.int IntKind.u64 ne) ∧ World.cell? W (Addr.mk g 6 none) = some (Value.slice A l c) ∧ World.cell? W (Addr.mk g 7 none) = some (Value.int IntKind.u64 ky) ∧ World.cell? W (Addr.mk g 8 none) = some (Value.int IntKind.i64 bo) ∧ Lk (Below (Array.size (World.heap w0)) w0 W))) (hb : Lk (Below W.heap.size W W')) :
    World.cell? W' ⟨b, 0, none⟩ = some (.int .i64 cl) ∧ World.cell? W' ⟨b, 1, none⟩ = some (.int .i64 inc) ∧ (World.cell? W' (Addr.mk g 0 none) = some (Value.int IntKind.i64 k) ∧ World.cell? W' (Addr.mk g 1 none) = some (Value.int IntKind.i64 nd) ∧ World.cell? W' (Addr.mk g 2 none) = some (Value.int IntKind.i64 a) ∧ World.cell? W' (Addr.mk g 3 none) = some (Value.int IntKind.i64 n) ∧ World.cell? W' (Addr.mk g 4 none) = some (Value.int IntKind.u64 o) ∧ World.cell? W' (Addr.mk g 5 none) = some (Value.int IntKind.u64 ne) ∧ World.cell? W' (Addr.mk g 6 none) = some (Value.slice A l c) ∧ World.cell? W' (Addr.mk g 7 none) = some (Value.int IntKind.u64 ky) ∧ World.cell? W' (Addr.mk g 8 none) = some (Value.int IntKind.i64 bo) ∧ Lk (Below (Array.size (World.heap w0)) w0 W')) := ⟨(hb.out.cell (block_lt_of_cell h.1)).trans h.1, (hb.out.cell (block_lt_of_cell h.2.1)).trans h.2.1, held_on h.2.2 hb⟩
theorem check_q (h : Lk (PP F w b cl inc pnd V q ex B cb r)) (HN : Lk (PN w nb ng nn ncap ws up)) (hL : nn = 8 * L) (hL1 : 1 ≤ L ∧ L ≤ 256) (hcl : cl ≤ 5) (hinc : inc ≤ 59) (hc2 : cnt k n l ≤ 9223372036854775807) (hbo : bo ≤ 9223372036854775807) :
    Calls Try.prog 74 #[.pointer (some ⟨b, 0, none⟩), (Value.agg #[Value.int IntKind.i64 k, Value.int IntKind.i64 nd, Value.int IntKind.i64 a, Value.int IntKind.i64 n, Value.int IntKind.u64 o, Value.int IntKind.u64 ne, Value.slice A l c, Value.int IntKind.u64 ky, Value.int IntKind.i64 bo]), .pointer (some ⟨nb, 0, none⟩)] w fun e w' => e = .returned (.int .i64 (codeM cl inc k nd a (cnt k n l) ky bo L ws up)) ∧ Lk (Below w.heap.size w w') := by
  have HB1 := Lk.mk ((Below.refl _ w).alloc (Nat.le_refl _) (.cells #[Value.int IntKind.i64 k, Value.int IntKind.i64 nd, Value.int IntKind.i64 a, Value.int IntKind.i64 n, Value.int IntKind.u64 o, Value.int IntKind.u64 ne, Value.slice A l c, Value.int IntKind.u64 ky, Value.int IntKind.i64 bo] 56))
  have HX1 := Lk.mk (Bx.alloc w k nd a n o ne A l c ky bo 56)
  have HU := Lk.mk (fun W (hb : Below w.heap.size w W) => up_any nb ng nn ncap ws up W ⟨Nd.below HN.out hb⟩)
  have HLi := Lk.mk (fun W (hb : Below w.heap.size w W) => lines_any nb ng nn ncap ws up W ⟨Nd.below HN.out hb⟩ L hL (by omega))
  have HV := Lk.mk (fun W => valid_ok k nd a n o ne A l c ky bo W 5 L hc2)
  have HP := Lk.mk (fun W (hb : Below w.heap.size w W) => h.out.below hb)
  generalize hC : codeM cl inc k nd a (cnt k n l) ky bo L ws up = R
  have HRR := Lk.mk hC
  clear hC
  go_enter Try.func74, Try.ntmps74
  go_upto_region 1 with fail
  generalize w.alloc _ = w1 at *
  cases up with
  | false =>
    have hR : R = 4 := by rw [← HRR.out]; unfold codeM; rw [if_pos rfl]
    subst hR
    go_wp2_with (first | (go_at_call 11; refine (HU.out _ HB1.out).mono ?_; rintro e w' ⟨rfl, rfl⟩))
    go_ret
    exact ⟨rfl, HB1⟩
  | true =>
    go_upto_region 3 with (first | (go_at_call 11; refine (HU.out _ HB1.out).mono ?_; rintro e w' ⟨rfl, rfl⟩))
    obtain ⟨b0, b1, b2, b3, b4, b5, b6, b7, b8⟩ := HX1.out
    have HH := Lk.mk (show (World.cell? w1.drew (Addr.mk w.heap.size 0 none) = some (Value.int IntKind.i64 k) ∧ World.cell? w1.drew (Addr.mk w.heap.size 1 none) = some (Value.int IntKind.i64 nd) ∧ World.cell? w1.drew (Addr.mk w.heap.size 2 none) = some (Value.int IntKind.i64 a) ∧ World.cell? w1.drew (Addr.mk w.heap.size 3 none) = some (Value.int IntKind.i64 n) ∧ World.cell? w1.drew (Addr.mk w.heap.size 4 none) = some (Value.int IntKind.u64 o) ∧ World.cell? w1.drew (Addr.mk w.heap.size 5 none) = some (Value.int IntKind.u64 ne) ∧ World.cell? w1.drew (Addr.mk w.heap.size 6 none) = some (Value.slice A l c) ∧ World.cell? w1.drew (Addr.mk w.heap.size 7 none) = some (Value.int IntKind.u64 ky) ∧ World.cell? w1.drew (Addr.mk w.heap.size 8 none) = some (Value.int IntKind.i64 bo) ∧ Lk (Below (Array.size (World.heap w)) w w1.drew)) from ⟨b0, b1, b2, b3, b4, b5, b6, b7, b8, ⟨HB1.out.drew⟩⟩)
    by_cases hv : validC k nd a (cnt k n l) 5 L = 0
    · have hR : R = checkC k a (cnt k n l) ky bo inc (atW ws (24 + cl)) (atW ws 0) (atW ws 1) := by rw [← HRR.out]; unfold codeM; rw [if_neg (by simp), if_neg (by simpa using hv)]
      have hp := valid_pos hv
      rw [hv] at HV
      subst hR
      clear b0 b1 b2 b3 b4 b5 b6 b7 b8
      go_region_held3 (fun W' => (World.cell? W' (Addr.mk w.heap.size 0 none) = some (Value.int IntKind.i64 k) ∧ World.cell? W' (Addr.mk w.heap.size 1 none) = some (Value.int IntKind.i64 nd) ∧ World.cell? W' (Addr.mk w.heap.size 2 none) = some (Value.int IntKind.i64 a) ∧ World.cell? W' (Addr.mk w.heap.size 3 none) = some (Value.int IntKind.i64 n) ∧ World.cell? W' (Addr.mk w.heap.size 4 none) = some (Value.int IntKind.u64 o) ∧ World.cell? W' (Addr.mk w.heap.size 5 none) = some (Value.int IntKind.u64 ne) ∧ World.cell? W' (Addr.mk w.heap.size 6 none) = some (Value.slice A l c) ∧ World.cell? W' (Addr.mk w.heap.size 7 none) = some (Value.int IntKind.u64 ky) ∧ World.cell? W' (Addr.mk w.heap.size 8 none) = some (Value.int IntKind.i64 bo) ∧ Lk (Below (Array.size (World.heap w)) w W'))) (first | with_reducible exact HH.out | with_reducible assumption | with_reducible exact held_on (by assumption) (by assumption))
        (first
          | (go_at_call 10; refine (HLi.out _ (held_below (by assumption)).out).mono ?_; rintro e w' ⟨rfl, rfl⟩)
          | (go_at_call 55; refine (HV.out _).mono ?_; rintro e w' ⟨rfl, HB⟩))
      have HBB := Lk.mk (HB1.out.drew.trans (HB.out.mono HB1.out.size))
      have HXX := Lk.mk ((HX1.out.on (Below.refl _ _).drew).on HB.out)
      have HPP := Lk.mk (HP.out w' HBB.out)
      have HNN := Lk.mk (fun W (hb : Below w.heap.size w W) => Nd.below HN.out hb)
      have CW := Lk.mk (fun W (hb : Below w.heap.size w W) (x : Int) (h0 : 0 ≤ x) (h1 : x ≤ 4294967296) => wordAt_any nb ng nn ncap ws x W ⟨Nd.below HN.out hb⟩ (by omega) h0 h1)
      have CB := Lk.mk (fun W (hb : Below w.heap.size w W) => boot_any nb ng nn ncap ws true W ⟨Nd.below HN.out hb⟩ (by omega) (by omega))
      have CC := Lk.mk (fun W (door key boot : Int) => check_ok k nd a n o ne A l c ky bo W inc door key boot hp.1 hp.2.1 (by omega) (by omega) hbo)
      have HRb := Lk.mk (show checkC k a (cnt k n l) ky bo inc (atW ws (24 + cl)) (atW ws 0) (atW ws 1) = checkC k a (cnt k n l) ky bo inc (atW ws (24 + (cl : Int)).toNat) (atW ws (0 : Int).toNat) (atW ws 1) by rw [show (24 + (cl : Int)).toNat = 24 + cl by omega]; rfl)
      clear HH HU HLi HV HB HX1 HB1 h HN HP hv hp hc2 hbo hL hL1
      go_upto_region 5 with fail
      have p0 := HPP.out.c0
      have p1 := HPP.out.c1
      obtain ⟨b0, b1, b2, b3, b4, b5, b6, b7, b8⟩ := HXX.out
      have HH := Lk.mk (show World.cell? w'.drew ⟨b, 0, none⟩ = some (.int .i64 cl) ∧ World.cell? w'.drew ⟨b, 1, none⟩ = some (.int .i64 inc) ∧ (World.cell? w'.drew (Addr.mk w.heap.size 0 none) = some (Value.int IntKind.i64 k) ∧ World.cell? w'.drew (Addr.mk w.heap.size 1 none) = some (Value.int IntKind.i64 nd) ∧ World.cell? w'.drew (Addr.mk w.heap.size 2 none) = some (Value.int IntKind.i64 a) ∧ World.cell? w'.drew (Addr.mk w.heap.size 3 none) = some (Value.int IntKind.i64 n) ∧ World.cell? w'.drew (Addr.mk w.heap.size 4 none) = some (Value.int IntKind.u64 o) ∧ World.cell? w'.drew (Addr.mk w.heap.size 5 none) = some (Value.int IntKind.u64 ne) ∧ World.cell? w'.drew (Addr.mk w.heap.size 6 none) = some (Value.slice A l c) ∧ World.cell? w'.drew (Addr.mk w.heap.size 7 none) = some (Value.int IntKind.u64 ky) ∧ World.cell? w'.drew (Addr.mk w.heap.size 8 none) = some (Value.int IntKind.i64 bo) ∧ Lk (Below (Array.size (World.heap w)) w w'.drew)) from ⟨p0, p1, b0, b1, b2, b3, b4, b5, b6, b7, b8, ⟨HBB.out.drew⟩⟩)
      have hcw : IntKind.i64.wrap (24 + (cl : Int)) = 24 + cl := IntWalk.i64_in _ (by omega)
      have hcl0 : (0 : Int) ≤ 24 + cl := by omega
      have hcl1 : 24 + (cl : Int) ≤ 4294967296 := by omega
      have h00 : (0 : Int) ≤ 0 := by omega
      have h01 : (0 : Int) ≤ 4294967296 := by omega
      clear b0 b1 b2 b3 b4 b5 b6 b7 b8 p0 p1 hcl hinc
      go_region_held3 (fun W' => World.cell? W' ⟨b, 0, none⟩ = some (.int .i64 cl) ∧ World.cell? W' ⟨b, 1, none⟩ = some (.int .i64 inc) ∧ (World.cell? W' (Addr.mk w.heap.size 0 none) = some (Value.int IntKind.i64 k) ∧ World.cell? W' (Addr.mk w.heap.size 1 none) = some (Value.int IntKind.i64 nd) ∧ World.cell? W' (Addr.mk w.heap.size 2 none) = some (Value.int IntKind.i64 a) ∧ World.cell? W' (Addr.mk w.heap.size 3 none) = some (Value.int IntKind.i64 n) ∧ World.cell? W' (Addr.mk w.heap.size 4 none) = some (Value.int IntKind.u64 o) ∧ World.cell? W' (Addr.mk w.heap.size 5 none) = some (Value.int IntKind.u64 ne) ∧ World.cell? W' (Addr.mk w.heap.size 6 none) = some (Value.slice A l c) ∧ World.cell? W' (Addr.mk w.heap.size 7 none) = some (Value.int IntKind.u64 ky) ∧ World.cell? W' (Addr.mk w.heap.size 8 none) = some (Value.int IntKind.i64 bo) ∧ Lk (Below (Array.size (World.heap w)) w W'))) (first | with_reducible exact HH.out | with_reducible assumption | with_reducible exact pc_on (by assumption) (by assumption))
        (first
          | (go_at_call 83; refine (CW.out _ (pc_below (by assumption)).out _ (by assumption) (by assumption)).mono ?_; rintro e w4 ⟨rfl, HB4⟩)
          | (go_at_call 84; refine (CB.out _ (pc_below (by assumption)).out).mono ?_; rintro e w4 ⟨rfl, rfl⟩)
          | (go_at_call 82; refine (CC.out _ _ _ _).mono ?_; rintro e w4 ⟨rfl, HB4⟩))
      go_wp2
      go_ret
      exact ⟨ret_int (by rw [HRb.out]; rfl), pc_below (by assumption)⟩
    · have hR : R = 2 := by rw [← HRR.out]; unfold codeM; rw [if_neg (by simp), if_pos hv]
      have hb : (validC k nd a (cnt k n l) 5 L != 0) = true := bne_iff_ne.2 hv
      subst hR
      generalize validC k nd a (cnt k n l) 5 L = vc at *
      clear b0 b1 b2 b3 b4 b5 b6 b7 b8
      go_region_held3 (fun W' => (World.cell? W' (Addr.mk w.heap.size 0 none) = some (Value.int IntKind.i64 k) ∧ World.cell? W' (Addr.mk w.heap.size 1 none) = some (Value.int IntKind.i64 nd) ∧ World.cell? W' (Addr.mk w.heap.size 2 none) = some (Value.int IntKind.i64 a) ∧ World.cell? W' (Addr.mk w.heap.size 3 none) = some (Value.int IntKind.i64 n) ∧ World.cell? W' (Addr.mk w.heap.size 4 none) = some (Value.int IntKind.u64 o) ∧ World.cell? W' (Addr.mk w.heap.size 5 none) = some (Value.int IntKind.u64 ne) ∧ World.cell? W' (Addr.mk w.heap.size 6 none) = some (Value.slice A l c) ∧ World.cell? W' (Addr.mk w.heap.size 7 none) = some (Value.int IntKind.u64 ky) ∧ World.cell? W' (Addr.mk w.heap.size 8 none) = some (Value.int IntKind.i64 bo) ∧ Lk (Below (Array.size (World.heap w)) w W'))) (first | with_reducible exact HH.out | with_reducible assumption | with_reducible exact held_on (by assumption) (by assumption))
        (first
          | (go_at_call 10; refine (HLi.out _ (held_below (by assumption)).out).mono ?_; rintro e w' ⟨rfl, rfl⟩)
          | (go_at_call 55; refine (HV.out _).mono ?_; rintro e w' ⟨rfl, HB⟩))
      go_wp2
      go_ret
      exact ⟨rfl, ⟨HB1.out.drew.trans (HB.out.mono HB1.out.size)⟩⟩
end
end Go.Proofs.Ytpehhldfegjajaa.Te

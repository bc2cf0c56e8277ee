/-
  Contracts: which records are valid, the program's word.
-/
import Derived.Test.YtdodigfojbijfaaRc
namespace Go.Proofs.Ytdodigfojbijfaa.Rd
open Go.ChangeShapes Go.WideShapes Go.ChangeAt Go.RowKit Ga Ra Rb Rc
set_option linter.unusedVariables false
set_option linter.unusedSimpArgs false
set_option maxRecDepth 10000
set_option maxHeartbeats 2000000

/-- The lines ascend. -/
def asc (l : List Pg) : Bool := decide (∀ i, i < l.length → 1 ≤ i → (l.getD (i - 1) pz).line < (l.getD i pz).line)
def ltAt (l : List Pg) (i : Nat) : Prop := 1 ≤ i → (l.getD (i - 1) pz).line < (l.getD i pz).line
theorem asc_yes {l : List Pg} (h : ∀ i, i < l.length → ltAt l i) : asc l = true := decide_eq_true h
theorem asc_no {l : List Pg} {k : Nat} (hk : k < l.length) (h : ¬ ltAt l k) : asc l = false := decide_eq_false fun h' => h (h' k hk)
/-- The code of a record: 8.1. -/
def validR (s : Int) (l : List Pg) (lines : Int) : Int :=
  if nodeB lines = true then (if (1 ≤ s ∧ s ≤ 1073741823) ∧ (1 ≤ l.length ∧ l.length ≤ 12) then (if l.any (outB lines) = true then 2 else if asc l = true ∧ l.any unwB = false then 0 else 1) else 1) else 18
theorem ascend_any (A : Option Addr) (l : List Pg) (n c : Nat) (w : World) (hn : l.length = n) (hb : n ≤ 4294967296) (h1 : Lk (Pgs w w.heap.size A l)) :
    Calls Try.prog 39 #[.slice A n c] w fun e w' => e = .returned (.bool (asc l)) ∧ Lk (Below w.heap.size w w') := by
  go_enter Try.func39, Try.ntmps39
  go_wp2
  go_loopw [3] (fun s wr => ∃ k : Nat, (k = 0 ∨ k + 1 ≤ n) ∧ s = .int .i64 ((k : Int) + 1) ∧ Lk (∀ j, j < k + 1 → ltAt l j) ∧ Lk (Below w.heap.size w wr)) (fun i _ => n + 1 - (intOf i).toNat)
  case atStart => exact ⟨0, by omega, rfl, ⟨fun j hj h => by omega⟩, ⟨Below.refl _ _⟩⟩
  case round =>
    obtain ⟨k, hk, rfl, HS, HB⟩ := hrel
    by_cases hlt : k + 1 < n
    · obtain ⟨ad, rfl, hab, hp⟩ := h1.out.at_ (k := k) (by omega)
      obtain ⟨ad', e', _, hq⟩ := h1.out.at_ (k := k + 1) (by omega)
      obtain rfl : ad = ad' := by simpa using e'
      have P1 := (hp.below HB.out (by rw [block_of_add]; exact hab)).c0
      have P2 := (hq.below HB.out (by rw [block_of_add]; exact hab)).c0
      have HN := Lk.mk (fun (he : (l.getD k pz).line < (l.getD (k + 1) pz).line) (j : Nat) (hj : j < k + 1 + 1) => show ltAt l j from by
        by_cases e : j = k + 1
        · subst e; exact fun _ => he
        · exact HS.out j (by omega))
      have HF := Lk.mk (fun (he : ¬ (l.getD k pz).line < (l.getD (k + 1) pz).line) => asc_no (l := l) (k := k + 1) (by omega) (fun h => he (h (by omega))))
      clear hp hq HS h1 e'
      generalize (l.getD k pz).line = x at *
      generalize (l.getD (k + 1) pz).line = y at *
      have hki : (k : Int) + 1 < n := by omega
      have hki1 : (k : Int) < n := by omega
      by_cases hxy : x < y
      · have HN' := Lk.mk (HN.out hxy)
        have hd : ¬ y ≤ x := by omega
        clear HN HF
        go_wp2
        go_quiet (fail)
        go_wp2
        go_roundw
        case rel => exact ⟨k + 1, by omega, by go_num, HN', ⟨drewB HB.out⟩⟩
        case measure => simp [intOf]; omega
      · have HF' := Lk.mk (HF.out hxy)
        have hd : y ≤ x := by omega
        clear HN HF
        go_wp2
        go_quiet (fail)
        go_wp2
        go_ret
        exact ⟨ret_bool HF'.out.symm, ⟨drewB HB.out⟩⟩
    · have hki : ¬ (k : Int) + 1 < n := by omega
      go_wp2
      go_ret
      exact ⟨ret_bool (asc_yes (fun i hi => HS.out i (by omega))).symm, HB⟩
theorem within_yes {x a b : Int} (h : a ≤ x ∧ x ≤ b) (w : World) : Calls Try.prog 36 #[.int .i64 x, .int .i64 a, .int .i64 b] w fun e w' => e = .returned (.bool true) ∧ w = w' := by
  have := within_any x a b w
  rwa [decide_eq_true h] at this
theorem within_no {x a b : Int} (h : ¬ (a ≤ x ∧ x ≤ b)) (w : World) : Calls Try.prog 36 #[.int .i64 x, .int .i64 a, .int .i64 b] w fun e w' => e = .returned (.bool false) ∧ w = w' := by
  have := within_any x a b w
  rwa [decide_eq_false h] at this
/-- The two boxes with which Valid begins. -/
structure Bx (w W : World) (s : Int) (A : Option Addr) (n c : Nat) (lines : Int) : Prop where
  below : Below w.heap.size w W
  c0 : W.cell? ⟨w.heap.size, 0, none⟩ = some (.int .i64 s)
  c1 : W.cell? ⟨w.heap.size, 1, none⟩ = some (.slice A n c)
  c2 : W.cell? ⟨w.heap.size + 1, 0, none⟩ = some (.int .i64 lines)
theorem Bx.start (w : World) (s : Int) (A : Option Addr) (n c : Nat) (lines : Int) : Bx w ((w.alloc (.cells #[.int .i64 s, .slice A n c] 35)).alloc (.cells #[.int .i64 lines] 3)) s A n c lines := by
  refine ⟨((Below.refl _ w).alloc (Nat.le_refl _) _).alloc (by simp) _, ?_, ?_, ?_⟩
  · rw [World.cell?_alloc_past _ _ _ (by simp <;> omega), World.cell?_alloc_at _ _ _ _ (by simp)]; rfl
  · rw [World.cell?_alloc_past _ _ _ (by simp <;> omega), World.cell?_alloc_at _ _ _ _ (by simp)]; rfl
  · rw [World.cell?_alloc_at _ _ _ _ (by simp)]; rfl
theorem Bx.on {w W W' : World} {s : Int} {A : Option Addr} {n c : Nat} {lines : Int} (h : Bx w W s A n c lines) (hb : Below W.heap.size W W') : Bx w W' s A n c lines :=
  ⟨h.below.trans (hb.mono h.below.size), (hb.cell (block_lt_of_cell h.c0)).trans h.c0, (hb.cell (block_lt_of_cell h.c1)).trans h.c1, (hb.cell (block_lt_of_cell h.c2)).trans h.c2⟩
theorem valid_any (s lines : Int) (A : Option Addr) (l : List Pg) (n c : Nat) (w : World) (hn : l.length = n) (hb : n ≤ 4294967296) (hw : Lk (PgsWf l)) (h1 : Lk (Pgs w w.heap.size A l)) :
    Calls Try.prog 12 #[rcv s A n c, .int .i64 lines] w fun e w' => e = .returned (.int .i64 (validR s l lines)) ∧ Lk (Below w.heap.size w w') := by
  have hmf : ∀ (fn : Fn) (first cap : Array Value) (w : World), (Instr.makeFunc fn first cap).run Try.prog w = .ok (.func fn first cap) w := fun _ _ _ _ => rfl
  have HB0 := Lk.mk (Bx.start w s A n c lines)
  have CN := Lk.mk (isNode_any lines)
  unfold rcv
  cases hN : nodeB lines
  · rw [hN] at CN
    have HV := Lk.mk (show validR s l lines = 18 from if_neg (by simp [hN]))
    go_enter Try.func12, Try.ntmps12
    go_wp2_with (first | (go_at_call 37; refine (CN.out _).mono ?_; rintro e w' ⟨rfl, rfl⟩))
    go_ret
    exact ⟨ret_int HV.out.symm, ⟨HB0.out.below⟩⟩
  · rw [hN] at CN
    have hL : 98 ≤ lines ∧ lines ≤ 256 := of_decide_eq_true hN
    by_cases hS : 1 ≤ s ∧ s ≤ 1073741823
    · have CS := Lk.mk (within_yes hS)
      by_cases hC : 1 ≤ (n : Int) ∧ (n : Int) ≤ 12
      · have CC := Lk.mk (within_yes hC)
        have HS := Lk.mk (show (1 ≤ s ∧ s ≤ 1073741823) ∧ (1 ≤ l.length ∧ l.length ≤ 12) from ⟨hS, by omega⟩)
        clear hS hC
        have CO := Lk.mk (fun (W : World) (H : Bx w W s A n c lines) => containsOut A l n c W lines ⟨w.heap.size + 1, 0, none⟩ hL H.c2 hn hb ⟨(h1.out.below H.below).more H.below.size⟩)
        have CA := Lk.mk (fun (W : World) (H : Bx w W s A n c lines) => ascend_any A l n c W hn hb ⟨(h1.out.below H.below).more H.below.size⟩)
        have CU := Lk.mk (fun (W : World) (H : Bx w W s A n c lines) => containsUnw A l n c W hw hn hb ⟨(h1.out.below H.below).more H.below.size⟩)
        clear h1 hw
        cases hO : l.any (outB lines)
        · rw [hO] at CO
          cases hA : asc l
          · rw [hA] at CA
            have HV := Lk.mk (show validR s l lines = 1 from by rw [validR, if_pos hN, if_pos HS.out, if_neg (by simp [hO]), if_neg (by simp [hA])])
            clear hL
            go_enter Try.func12, Try.ntmps12
            go_wp2_with (first
              | (go_at_call 37; refine (CN.out _).mono ?_; rintro e w' ⟨rfl, rfl⟩)
              | (go_at_call 36; with_reducible refine (CS.out _).mono ?_; rintro e w' ⟨rfl, rfl⟩)
              | (go_at_call 36; with_reducible refine (CC.out _).mono ?_; rintro e w' ⟨rfl, rfl⟩)
              | (go_at_call 38; with_reducible refine (CO.out _ HB0.out).mono ?_; rintro e w3 ⟨rfl, H3⟩; have HB1 := Lk.mk (HB0.out.on H3.out); have q1 := HB1.out.c1)
              | (go_at_call 39; refine (CA.out _ HB1.out).mono ?_; rintro e w4 ⟨rfl, H4⟩; have HB2 := Lk.mk (HB1.out.on H4.out)))
            go_ret
            exact ⟨ret_int HV.out.symm, ⟨HB2.out.below⟩⟩
          · rw [hA] at CA
            cases hU : l.any unwB
            · rw [hU] at CU
              have HV := Lk.mk (show validR s l lines = 0 from by rw [validR, if_pos hN, if_pos HS.out, if_neg (by simp [hO]), if_pos ⟨hA, hU⟩])
              clear hL
              go_enter Try.func12, Try.ntmps12
              go_wp2_with (first
                | (go_at_call 37; refine (CN.out _).mono ?_; rintro e w' ⟨rfl, rfl⟩)
                | (go_at_call 36; with_reducible refine (CS.out _).mono ?_; rintro e w' ⟨rfl, rfl⟩)
                | (go_at_call 36; with_reducible refine (CC.out _).mono ?_; rintro e w' ⟨rfl, rfl⟩)
                | (go_at_call 38; with_reducible refine (CO.out _ HB0.out).mono ?_; rintro e w3 ⟨rfl, H3⟩; have HB1 := Lk.mk (HB0.out.on H3.out); have q1 := HB1.out.c1)
                | (go_at_call 39; refine (CA.out _ HB1.out).mono ?_; rintro e w4 ⟨rfl, H4⟩; have HB2 := Lk.mk (HB1.out.on H4.out); have q2 := HB2.out.c1)
                | (go_at_call 38; with_reducible refine (CU.out _ HB2.out).mono ?_; rintro e w5 ⟨rfl, H5⟩; have HB3 := Lk.mk (HB2.out.on H5.out)))
              go_ret
              exact ⟨ret_int HV.out.symm, ⟨HB3.out.below⟩⟩
            · rw [hU] at CU
              have HV := Lk.mk (show validR s l lines = 1 from by rw [validR, if_pos hN, if_pos HS.out, if_neg (by simp [hO]), if_neg (by simp [hU])])
              clear hL
              go_enter Try.func12, Try.ntmps12
              go_wp2_with (first
                | (go_at_call 37; refine (CN.out _).mono ?_; rintro e w' ⟨rfl, rfl⟩)
                | (go_at_call 36; with_reducible refine (CS.out _).mono ?_; rintro e w' ⟨rfl, rfl⟩)
                | (go_at_call 36; with_reducible refine (CC.out _).mono ?_; rintro e w' ⟨rfl, rfl⟩)
                | (go_at_call 38; with_reducible refine (CO.out _ HB0.out).mono ?_; rintro e w3 ⟨rfl, H3⟩; have HB1 := Lk.mk (HB0.out.on H3.out); have q1 := HB1.out.c1)
                | (go_at_call 39; refine (CA.out _ HB1.out).mono ?_; rintro e w4 ⟨rfl, H4⟩; have HB2 := Lk.mk (HB1.out.on H4.out); have q2 := HB2.out.c1)
                | (go_at_call 38; with_reducible refine (CU.out _ HB2.out).mono ?_; rintro e w5 ⟨rfl, H5⟩; have HB3 := Lk.mk (HB2.out.on H5.out)))
              go_ret
              exact ⟨ret_int HV.out.symm, ⟨HB3.out.below⟩⟩
        · rw [hO] at CO
          have HV := Lk.mk (show validR s l lines = 2 from by rw [validR, if_pos hN, if_pos HS.out, if_pos hO])
          clear hL
          go_enter Try.func12, Try.ntmps12
          go_wp2_with (first
            | (go_at_call 37; refine (CN.out _).mono ?_; rintro e w' ⟨rfl, rfl⟩)
            | (go_at_call 36; with_reducible refine (CS.out _).mono ?_; rintro e w' ⟨rfl, rfl⟩)
            | (go_at_call 36; with_reducible refine (CC.out _).mono ?_; rintro e w' ⟨rfl, rfl⟩)
            | (go_at_call 38; with_reducible refine (CO.out _ HB0.out).mono ?_; rintro e w3 ⟨rfl, H3⟩; have HB1 := Lk.mk (HB0.out.on H3.out)))
          go_ret
          exact ⟨ret_int HV.out.symm, ⟨HB1.out.below⟩⟩
      · have CC := Lk.mk (within_no hC)
        have HV := Lk.mk (show validR s l lines = 1 from by rw [validR, if_pos hN, if_neg (fun h => hC (by omega))])
        clear hL hS hC
        go_enter Try.func12, Try.ntmps12
        go_wp2_with (first
          | (go_at_call 37; refine (CN.out _).mono ?_; rintro e w' ⟨rfl, rfl⟩)
          | (go_at_call 36; with_reducible refine (CS.out _).mono ?_; rintro e w' ⟨rfl, rfl⟩)
          | (go_at_call 36; with_reducible refine (CC.out _).mono ?_; rintro e w' ⟨rfl, rfl⟩))
        go_ret
        exact ⟨ret_int HV.out.symm, ⟨HB0.out.below⟩⟩
    · have CS := Lk.mk (within_no hS)
      have HV := Lk.mk (show validR s l lines = 1 from by rw [validR, if_pos hN, if_neg (fun h => hS h.1)])
      clear hL hS
      go_enter Try.func12, Try.ntmps12
      go_wp2_with (first
        | (go_at_call 37; refine (CN.out _).mono ?_; rintro e w' ⟨rfl, rfl⟩)
        | (go_at_call 36; with_reducible refine (CS.out _).mono ?_; rintro e w' ⟨rfl, rfl⟩))
      go_ret
      exact ⟨ret_int HV.out.symm, ⟨HB0.out.below⟩⟩
end Go.Proofs.Ytdodigfojbijfaa.Rd

/-
  Contracts: which records are valid, the reference's word.
-/
import Derived.Test.YtdodigfojbijfaaRd
namespace Go.Proofs.Ytdodigfojbijfaa.Re
open Go.ChangeShapes Go.WideShapes Go.ChangeAt Go.RowKit Ga Ra Rb Rc Rd
set_option linter.unusedVariables false
set_option linter.unusedSimpArgs false
set_option maxRecDepth 10000
set_option maxHeartbeats 2000000

/-- The box with which the reference's functions of a record begin. -/
structure Br (w W : World) (g : Nat) (s : Int) (A : Option Addr) (n c : Nat) : Prop where
  below : Below w.heap.size w W
  c0 : W.cell? ⟨g, 0, none⟩ = some (.int .i64 s)
  c1 : W.cell? ⟨g, 1, none⟩ = some (.slice A n c)
theorem Br.start (w : World) (s : Int) (A : Option Addr) (n c : Nat) (T : TypeId) : Br w (w.alloc (.cells #[.int .i64 s, .slice A n c] T)) w.heap.size s A n c := by
  refine ⟨(Below.refl _ w).alloc (Nat.le_refl _) _, ?_, ?_⟩
  · rw [World.cell?_alloc_at _ _ _ _ (by simp)]; rfl
  · rw [World.cell?_alloc_at _ _ _ _ (by simp)]; rfl
theorem Br.on {w W W' : World} {g : Nat} {s : Int} {A : Option Addr} {n c : Nat} (h : Br w W g s A n c) (hb : Below W.heap.size W W') : Br w W' g s A n c :=
  ⟨h.below.trans (hb.mono h.below.size), (hb.cell (block_lt_of_cell h.c0)).trans h.c0, (hb.cell (block_lt_of_cell h.c1)).trans h.c1⟩
theorem inHeap_any (x lines : Int) (w : World) : Calls Try.prog 41 #[.int .i64 x, .int .i64 lines] w fun e w' => e = .returned (.bool (decide ((98 ≤ lines ∧ lines ≤ 256) ∧ 96 ≤ x ∧ x < lines))) ∧ w = w' := by
  go_enter Try.func41, Try.ntmps41
  by_cases h1 : 98 ≤ lines
  · by_cases h2 : lines ≤ 256
    · by_cases h3 : 96 ≤ x
      · go_wp2
        go_ret
        exact ⟨ret_bool (by simp [h1, h2, h3]), rfl⟩
      · go_wp2
        go_ret
        exact ⟨ret_bool (by simp [h1, h2]; omega), rfl⟩
    · go_wp2
      go_ret
      exact ⟨ret_bool (by simp; omega), rfl⟩
  · go_wp2
    go_ret
    exact ⟨ret_bool (by simp; omega), rfl⟩
theorem inHeap_out (p : Pg) (lines : Int) (hl : 98 ≤ lines ∧ lines ≤ 256) (w : World) : Calls Try.prog 41 #[.int .i64 p.line, .int .i64 lines] w fun e w' => e = .returned (.bool (!outB lines p)) ∧ w = w' :=
  (inHeap_any p.line lines w).mono fun e w' ⟨h1, h2⟩ => ⟨by rw [h1]; exact ret_bool (by simp [outB, hl]; rw [Bool.eq_iff_iff]; simp; omega), h2⟩
theorem nextRef_any (p : Pg) (hp : p.Wf) (w : World) : Calls Try.prog 42 #[.int .u64 (p.head : Int)] w fun e w' => e = .returned (.tuple #[.int .u64 (Wb.nextV p.head), .int .i64 (Wb.nextE p.head)]) ∧ w = w' :=
  Wb.next_ref _ w (by omega) (by have := hp.h; omega)
theorem unlRef_any (p : Pg) (hp : p.Wf) (b : Bool) (hb : ((p.head : Int) % 256 == 0) = b) (w : World) : Calls Try.prog 43 #[.int .u64 (p.head : Int)] w fun e w' => e = .returned (.bool b) ∧ w = w' := by
  have := Wc.unlocked_ref (p.head : Int) w (by omega) (by have := hp.h; omega)
  rwa [hb] at this
theorem len_of {l : List Pg} {n : Nat} (h : l.length = n) {k : Nat} (hk : k < n) : k < l.length := by omega
theorem validRecord_any (s lines : Int) (A : Option Addr) (l : List Pg) (n c : Nat) (w : World) (hn : l.length = n) (hb : n ≤ 4294967296) (hw : Lk (PgsWf l)) (h1 : Lk (Pgs w w.heap.size A l)) :
    Calls Try.prog 14 #[rcv s A n c, .int .i64 lines] w fun e w' => e = .returned (.int .i64 (validR s l lines)) ∧ Lk (Below w.heap.size w w') := by
  have HB0 := Lk.mk (Br.start w s A n c 25)
  unfold rcv
  by_cases hN : 98 ≤ lines ∧ lines ≤ 256
  · have hN' : nodeB lines = true := decide_eq_true hN
    have HNN := Lk.mk hN'
    by_cases hS : (1 ≤ s ∧ s ≤ 1073741823) ∧ 1 ≤ (n : Int) ∧ (n : Int) ≤ 12
    · have hSl : (1 ≤ s ∧ s ≤ 1073741823) ∧ (1 ≤ l.length ∧ l.length ≤ 12) := ⟨hS.1, by omega⟩
      have HSl := Lk.mk hSl
      have k1 : ¬ lines < 98 := by omega
      have k2 : ¬ 256 < lines := by omega
      have k3 : ¬ s < 1 := by omega
      have k4 : ¬ 1073741824 ≤ s := by omega
      have k5 : ¬ (n : Int) < 1 := by omega
      have k6 : ¬ 12 < (n : Int) := by omega
      have HLi := Lk.mk hN
      clear hSl hS hN hN'
      go_enter Try.func14, Try.ntmps14
      go_wp2
      go_loopw [5] (fun s5 wr => ∃ k : Nat, k ≤ n ∧ s5 = .int .i64 k ∧ Lk (∀ j, j < k → outB lines (l.getD j pz) = false) ∧ Lk (Br w wr w.heap.size s A n c)) (fun i _ => n - (intOf i).toNat)
      case atStart => exact ⟨0, by omega, rfl, ⟨fun j hj => by omega⟩, HB0⟩
      case round =>
        clear HB0
        obtain ⟨k, hk, rfl, HS, HQ⟩ := hrel
        have hc1 := HQ.out.c1
        by_cases hlt : k < n
        · obtain ⟨ad, rfl, hab, hp⟩ := h1.out.at_ (k := k) (by omega)
          have P1 := (hp.below HQ.out.below (by rw [block_of_add]; exact hab)).c0
          have HNx := Lk.mk (fun (he : outB lines (l.getD k pz) = false) => no_step HS.out he)
          have HF := Lk.mk (fun (he : outB lines (l.getD k pz) = true) => any_yes (by omega) he)
          clear hp h1 HS
          generalize l.getD k pz = p at *
          have hki : (k : Int) < n := by omega
          have CI := Lk.mk (inHeap_out p lines HLi.out)
          cases hf : outB lines p
          · have HN' := Lk.mk (HNx.out hf)
            rw [hf] at CI
            go_wp2_with (first | (go_at_call 41; refine (CI.out _).mono ?_; rintro e w' ⟨rfl, rfl⟩))
            go_roundw
            case rel => exact ⟨k + 1, by omega, by go_num, HN', HQ⟩
            case measure => simp [intOf]; omega
          · have HF' := Lk.mk (HF.out hf)
            rw [hf] at CI
            go_wp2_with (first | (go_at_call 41; refine (CI.out _).mono ?_; rintro e w' ⟨rfl, rfl⟩))
            go_ret
            exact ⟨ret_int (by rw [validR, if_pos HNN.out, if_pos HSl.out, if_pos HF'.out]), ⟨HQ.out.below⟩⟩
        · have HO := Lk.mk (show l.any (outB lines) = false from any_no (by rw [hn]; intro j hj; exact HS.out j (by omega)))
          have HF := Lk.mk (fun (k : Nat) (hk : k < n) (h : ¬ ltAt l k ∨ unwB (l.getD k pz) = true) => show validR s l lines = 1 from by
            rw [validR, if_pos HNN.out, if_pos HSl.out, if_neg (by simp [HO.out])]
            rcases h with h | h
            · rw [if_neg (by simp [asc_no (len_of hn hk) h])]
            · rw [if_neg (by simp only [any_yes (len_of hn hk) h]; simp)])
          have HV0 := Lk.mk (fun (h : ∀ j, j < n → ltAt l j ∧ unwB (l.getD j pz) = false) => show validR s l lines = 0 from by
            rw [validR, if_pos HNN.out, if_pos HSl.out, if_neg (by simp [HO.out]), if_pos ⟨asc_yes (fun i hi => (h i (by omega)).1), any_no (fun i hi => (h i (by omega)).2)⟩])
          have hki : ¬ (k : Int) < n := by omega
          clear HS
          go_wp2
          clear hki hlt hk hc1
          have HQ0 := HQ
          clear HQ
          go_loopw [6] (fun s6 wr => ∃ k : Nat, k ≤ n ∧ s6 = .int .i64 k ∧ Lk (∀ j, j < k → ltAt l j ∧ unwB (l.getD j pz) = false) ∧ Lk (Br w wr w.heap.size s A n c)) (fun i _ => n - (intOf i).toNat)
          case atStart => exact ⟨0, by omega, rfl, ⟨fun j hj => by omega⟩, HQ0⟩
          case round =>
            clear HQ0
            obtain ⟨k, hk, rfl, HS, HQ⟩ := hrel
            have hc1 := HQ.out.c1
            by_cases hlt : k < n
            · obtain ⟨ad, rfl, hab, hp⟩ := h1.out.at_ (k := k) (by omega)
              have P1 := (hp.below HQ.out.below (by rw [block_of_add]; exact hab)).c0
              have P2 := (hp.below HQ.out.below (by rw [block_of_add]; exact hab)).c1
              have hpw := Lk.mk (hw.out.at_ k)
              have HN := Lk.mk (fun (hl : ltAt l k) (he : unwB (l.getD k pz) = false) => (fun j hj => by
                by_cases e : j = k
                · subst e; exact ⟨hl, he⟩
                · exact HS.out j (by omega) : ∀ j, j < k + 1 → ltAt l j ∧ unwB (l.getD j pz) = false))
              have HF := Lk.mk (HF.out k hlt)
              have CX := Lk.mk (nextRef_any (l.getD k pz) hpw.out)
              clear HS
              have hki : (k : Int) < n := by omega
              by_cases hk0 : k = 0
              · have hz : decide (0 < (k : Int)) = false := decide_eq_false (by omega)
                have hz2 : decide (0 < k) = false := decide_eq_false (by omega)
                have hlt0 := Lk.mk (show ltAt l k from fun h => by omega)
                clear hp h1 hk0
                generalize l.getD k pz = p at *
                cases hu : ((p.head : Int) % 256 == 0)
                · have CU := Lk.mk (unlRef_any p hpw.out false hu)
                  have HV := Lk.mk (show validR s l lines = 1 from HF.out (.inr (by unfold unwB; rw [hu]; simp)))
                  clear HF HN
                  go_wp2_with (first | (go_at_call 42; refine (CX.out _).mono ?_; rintro e w' ⟨rfl, rfl⟩))
                  go_quiet ((go_at_call 43; exact Calls.quiet_of_same (((CU.out) _).mono fun e w1 h => ⟨h.1, h.2.symm⟩)))
                  go_wp2
                  go_ret
                  exact ⟨ret_int HV.out.symm, ⟨drewB HQ.out.below⟩⟩
                · have CU := Lk.mk (unlRef_any p hpw.out true hu)
                  by_cases hx : Wb.nextE p.head = 0
                  · have HN' := Lk.mk (HN.out hlt0.out (by unfold unwB; rw [hu, hx]; rfl))
                    clear HF HN
                    go_wp2_with (first | (go_at_call 42; refine (CX.out _).mono ?_; rintro e w' ⟨rfl, rfl⟩))
                    go_quiet ((go_at_call 43; exact Calls.quiet_of_same (((CU.out) _).mono fun e w1 h => ⟨h.1, h.2.symm⟩)))
                    go_wp2
                    go_roundw
                    case rel => exact ⟨k + 1, by omega, by go_num, HN', ⟨HQ.out.on ⟨rfl, rfl, rfl, Nat.le_refl _, fun _ _ => rfl⟩⟩⟩
                    case measure => simp [intOf]; omega
                  · have HV := Lk.mk (show validR s l lines = 1 from HF.out (.inr (by unfold unwB; rw [hu]; simp [hx])))
                    clear HF HN
                    go_wp2_with (first | (go_at_call 42; refine (CX.out _).mono ?_; rintro e w' ⟨rfl, rfl⟩))
                    go_quiet ((go_at_call 43; exact Calls.quiet_of_same (((CU.out) _).mono fun e w1 h => ⟨h.1, h.2.symm⟩)))
                    go_wp2
                    go_ret
                    exact ⟨ret_int HV.out.symm, ⟨drewB HQ.out.below⟩⟩
              · obtain ⟨j, rfl⟩ : ∃ j, k = j + 1 := ⟨k - 1, by omega⟩
                obtain ⟨ad', e', _, hq⟩ := h1.out.at_ (k := j) (by omega)
                obtain rfl : ad = ad' := by simpa using e'
                have P3 := (hq.below HQ.out.below (by rw [block_of_add]; exact hab)).c0
                have hz : decide ((0 : Int) < (j : Int) + 1) = true := decide_eq_true (by omega)
                have hji : (j : Int) < n := by omega
                have hli := Lk.mk (show ltAt l (j + 1) ↔ (l.getD j pz).line < (l.getD (j + 1) pz).line from ⟨fun h => h (by omega), fun h _ => h⟩)
                clear hp hq h1 e' hk0
                generalize l.getD (j + 1) pz = p at *
                generalize (l.getD j pz).line = x at *
                by_cases hxy : x < p.line
                · have hd : decide (p.line ≤ x) = false := decide_eq_false (by omega)
                  have hlt0 := Lk.mk (hli.out.2 hxy)
                  cases hu : ((p.head : Int) % 256 == 0)
                  · have CU := Lk.mk (unlRef_any p hpw.out false hu)
                    have HV := Lk.mk (show validR s l lines = 1 from HF.out (.inr (by unfold unwB; rw [hu]; simp)))
                    clear HF HN
                    go_wp2_with (first | (go_at_call 42; refine (CX.out _).mono ?_; rintro e w' ⟨rfl, rfl⟩))
                    go_quiet ((go_at_call 43; exact Calls.quiet_of_same (((CU.out) _).mono fun e w1 h => ⟨h.1, h.2.symm⟩)))
                    go_wp2
                    go_ret
                    exact ⟨ret_int HV.out.symm, ⟨drewB HQ.out.below⟩⟩
                  · have CU := Lk.mk (unlRef_any p hpw.out true hu)
                    by_cases hx : Wb.nextE p.head = 0
                    · have HN' := Lk.mk (HN.out hlt0.out (by unfold unwB; rw [hu, hx]; rfl))
                      clear HF HN
                      go_wp2_with (first | (go_at_call 42; refine (CX.out _).mono ?_; rintro e w' ⟨rfl, rfl⟩))
                      go_quiet ((go_at_call 43; exact Calls.quiet_of_same (((CU.out) _).mono fun e w1 h => ⟨h.1, h.2.symm⟩)))
                      go_wp2
                      go_roundw
                      case rel => exact ⟨j + 1 + 1, by omega, by go_num, HN', ⟨HQ.out.on ⟨rfl, rfl, rfl, Nat.le_refl _, fun _ _ => rfl⟩⟩⟩
                      case measure => simp [intOf]; omega
                    · have HV := Lk.mk (show validR s l lines = 1 from HF.out (.inr (by unfold unwB; rw [hu]; simp [hx])))
                      clear HF HN
                      go_wp2_with (first | (go_at_call 42; refine (CX.out _).mono ?_; rintro e w' ⟨rfl, rfl⟩))
                      go_quiet ((go_at_call 43; exact Calls.quiet_of_same (((CU.out) _).mono fun e w1 h => ⟨h.1, h.2.symm⟩)))
                      go_wp2
                      go_ret
                      exact ⟨ret_int HV.out.symm, ⟨drewB HQ.out.below⟩⟩
                · have hd : decide (p.line ≤ x) = true := decide_eq_true (by omega)
                  have hnl := Lk.mk (fun h => hxy (hli.out.1 h))
                  have HV := Lk.mk (show validR s l lines = 1 from HF.out (.inl hnl.out))
                  clear HF HN
                  go_wp2_with (first | (go_at_call 42; refine (CX.out _).mono ?_; rintro e w' ⟨rfl, rfl⟩))
                  go_quiet (fail)
                  go_wp2
                  go_ret
                  exact ⟨ret_int HV.out.symm, ⟨drewB HQ.out.below⟩⟩
            · have HV := Lk.mk (HV0.out (fun j hj => HS.out j (by omega)))
              have hki : ¬ (k : Int) < n := by omega
              go_wp2
              go_ret
              exact ⟨ret_int HV.out.symm, ⟨HQ.out.below⟩⟩
    · have HV := Lk.mk (show validR s l lines = 1 from by rw [validR, if_pos hN', if_neg (fun h => hS ⟨h.1, by omega⟩)])
      have k1 : ¬ lines < 98 := by omega
      have k2 : ¬ 256 < lines := by omega
      clear hN hN'
      by_cases k3 : s < 1
      · go_enter Try.func14, Try.ntmps14
        go_wp2
        go_ret
        exact ⟨ret_int HV.out.symm, ⟨HB0.out.below⟩⟩
      · by_cases k4 : 1073741824 ≤ s
        · go_enter Try.func14, Try.ntmps14
          go_wp2
          go_ret
          exact ⟨ret_int HV.out.symm, ⟨HB0.out.below⟩⟩
        · by_cases k5 : (n : Int) < 1
          · go_enter Try.func14, Try.ntmps14
            go_wp2
            go_ret
            exact ⟨ret_int HV.out.symm, ⟨HB0.out.below⟩⟩
          · have k6 : 12 < (n : Int) := by omega
            go_enter Try.func14, Try.ntmps14
            go_wp2
            go_ret
            exact ⟨ret_int HV.out.symm, ⟨HB0.out.below⟩⟩
  · have HV := Lk.mk (show validR s l lines = 18 from if_neg (by simp only [nodeB, decide_eq_true_eq]; exact hN))
    by_cases k1 : lines < 98
    · go_enter Try.func14, Try.ntmps14
      go_wp2
      go_ret
      exact ⟨ret_int HV.out.symm, ⟨HB0.out.below⟩⟩
    · have k2 : 256 < lines := by omega
      go_enter Try.func14, Try.ntmps14
      go_wp2
      go_ret
      exact ⟨ret_int HV.out.symm, ⟨HB0.out.below⟩⟩
end Go.Proofs.Ytdodigfojbijfaa.Re

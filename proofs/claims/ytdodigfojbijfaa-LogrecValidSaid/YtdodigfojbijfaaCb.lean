/-
  Contract of package crc's newSteps: the table of 256 entries, each of eight steps.
-/
import Derived.Test.YtdodigfojbijfaaCa
import Derived.Laws.CopyOwn
namespace Go.Proofs.Ytdodigfojbijfaa.Cb
open Go.ChangeShapes Go.WideShapes Go.ChangeAt Go.RowKit Ga Ma Ca
set_option linter.unusedVariables false
set_option linter.unusedSimpArgs false

theorem under : Try.prog.underlying 83 = some (.array 256 28) := by kernel_rfl
theorem size38 : (Try.prog.info? 83).map (·.size) = some 256 := by kernel_rfl

/-- At the head of the outer loop. -/
def State (k d : Nat) (cs : Array Value) : Prop := (Half k d ∧ Fill cs (Done d 0)) ∨ (d = 0 ∧ cs = tabV)
/-- Two blocks: what will be handed back, and the table. -/
def Two (w wr : World) (cs : Array Value) : Prop :=
  wr.heap[w.heap.size]? = some (.cells zeros 83 (0, 0)) ∧ wr.heap[w.heap.size + 1]? = some (.cells cs 83 (0, 0)) ∧ Below w.heap.size w wr
theorem Two.start (w : World) : Two w ((w.alloc (.cells zeros 83)).alloc (.cells zeros 83)) zeros :=
  ⟨heap_alloc2_old w _ _, heap_alloc2_new w _ _, ((Below.refl _ _).alloc (Nat.le_refl _) _).alloc (by simp) _⟩
theorem Two.cell {w wr : World} {cs : Array Value} (h : Two w wr cs) {i : Nat} {v : Value} (hv : cs[i]? = some v) : wr.cell? ⟨w.heap.size + 1, i, none⟩ = some v :=
  (cell_of_row wr _ i cs _ _ h.2.1).trans hv
theorem Two.free {w wr : World} {cs : Array Value} (h : Two w wr cs) (i : Nat) : wr.frozen? ⟨w.heap.size + 1, i, none⟩ = false := frozen_of_row wr _ i cs _ h.2.1
theorem Two.set {w wr : World} {cs : Array Value} (h : Two w wr cs) (i : Nat) (v : Value) : Two w (wr.setCell ⟨w.heap.size + 1, i, none⟩ v) (cs.setIfInBounds i v) :=
  ⟨(heap_setCell_other wr _ _ v (by simp)).trans h.1, heap_setCell_same wr _ i cs _ v h.2.1, h.2.2.setCell (by simp) _⟩
theorem Two.drew {w wr : World} {cs : Array Value} (h : Two w wr cs) (n : Nat) : Two w (wr.drewN n) cs :=
  ⟨h.1, h.2.1, h.2.2.trans ⟨rfl, rfl, rfl, Nat.le_refl _, fun _ _ => rfl⟩⟩
theorem state_start : State 0 128 zeros := .inl ⟨⟨by decide, by decide⟩, Fill.start⟩
theorem entry (k d r : Nat) (h : Half k d) (hm : r % (2 * d) = 0) (hr : r < 256) : bits .xor .u64 ((steps (k + 1) 1 : Nat) : Int) ((tab r : Nat) : Int) = ((tab (d + r) : Nat) : Int) := by
  rw [h.sum hm]
  exact xor_ _ _ (steps_lt _ (by decide)) (tab_lt (by omega))

theorem tabV_one : tabV.all (·.oneCell') = true := by
  rw [Array.all_eq_true_iff_forall_mem]
  intro v hv
  rw [tabV, Array.mem_ofFn] at hv
  obtain ⟨i, rfl⟩ := hv
  rfl
theorem size_tab : (Try.prog.info? 83).map (·.size) = some tabV.size := by rw [tabV_size]; exact size38
theorem zeros_size : zeros.size = tabV.size := by rw [tabV_size]; simp [zeros]

set_option maxRecDepth 100000 in
theorem news_any (w : World) :
    Calls Try.prog 57 #[] w fun e w' => e = .returned (.agg tabV) ∧ Below w.heap.size w w' := by
  have hz := zero_table
  go_enter Try.func57, Try.ntmps57
  go_wp2_with fail
  go_loopw [2, 3] (fun reg bit wr => ∃ (k d : Nat) (cs : Array Value), d ≤ 128 ∧ bit = .int .i64 d ∧ reg = .int .u64 (steps k 1 : Nat) ∧ Hid (State k d cs) ∧ Hid (Two w wr cs))
    (fun _ bit _ => (intOf bit).toNat)
  case atStart => exact ⟨0, 128, zeros, by omega, rfl, rfl, state_start, Two.start w⟩
  case round =>
    obtain ⟨k, d, cs, hd, rfl, rfl, hs, ht⟩ := hrel
    by_cases h0 : 0 < d
    · have hk : Hid (Half k d) := by
        rcases hs with h | h
        · exact h.1
        · omega
      have hf : Hid (Fill cs (Done d 0)) := by
        rcases hs with h | h
        · exact h.2
        · omega
      clear hs
      have hl : Hid (steps k 1 < 18446744073709551616) := steps_lt k (by decide)
      go_wp2_with (first | (go_at_call 66; refine (step_any _ _ hl.out).mono ?_; rintro e w' ⟨rfl, rfl⟩))
      go_loopw [4] (fun rest wq => ∃ (r : Nat) (cq : Array Value), r ≤ 256 ∧ rest = .int .i64 r ∧ Hid (r % (2 * d) = 0) ∧ Hid (Fill cq (Done d r)) ∧ Hid (Two w wq cq))
        (fun rest _ => (256 - intOf rest).toNat)
      case atStart => exact ⟨0, cs, by omega, rfl, Nat.zero_mod _, hf, ht⟩
      case round =>
        obtain ⟨r, cq, hr, rfl, hm, hg, hw⟩ := hrel
        clear hf ht hl
        by_cases hlt : r < 256
        · obtain ⟨e1, ⟨v, e2⟩, b1, b2, b3⟩ := hg.out.room hk.out hm.out hlt
          have H3 : Hid ((r + 2 * d) % (2 * d) = 0) := b3
          have hx := hw.out.cell e1
          have hy := hw.out.cell e2
          have hz := hw.out.free (d + r)
          unfold cellT at hx
          have HE : Hid (bits .xor .u64 ((one (steps k 1) : Nat) : Int) ((tab r : Nat) : Int) = ((tab (d + r) : Nat) : Int)) := by
            have := entry k d r hk.out hm.out hlt
            rwa [steps_succ] at this
          have HT : Hid (Two w _ _) := hw.out.set (d + r) (cellT (d + r))
          have HF : Hid (Fill _ _) := hg.out.more hk.out hm.out hlt
          clear b3 e1 e2 hg hm hw
          go_wp2
          go_roundw
          case rel =>
            refine ⟨r + 2 * d, _, by omega, by go_num, H3, HF, ?_⟩
            rw [HE.out]; exact HT
          case measure => simp [intOf]; omega
        · obtain rfl : r = 256 := by omega
          by_cases h7 : k < 7
          · obtain ⟨f1, f2⟩ := hg.out.next hk.out (Nat.le_refl _) h7
            have HS : Hid (State (k + 1) (d / 2) cq) := .inl ⟨f2, f1⟩
            have HO : Hid (one (steps k 1) = steps (k + 1) 1) := (steps_succ k 1).symm
            clear f1 f2 hlt hm hg hk h7
            go_wp2
            go_roundw
            case rel => exact ⟨k + 1, d / 2, cq, by omega, by go_num, by rw [HO.out], HS, hw⟩
            case measure => simp [intOf]; omega
          · obtain ⟨rfl, rfl⟩ := hg.out.last hk.out (Nat.le_refl _) h7
            have HS : Hid (State (k + 1) 0 tabV) := .inr ⟨rfl, rfl⟩
            have HO : Hid (one (steps k 1) = steps (k + 1) 1) := (steps_succ k 1).symm
            clear hlt hm hg hk h7
            go_wp2
            go_roundw
            case rel => exact ⟨k + 1, 0, tabV, by omega, by go_num, by rw [HO.out], HS, hw⟩
            case measure => simp [intOf]
    · obtain rfl : d = 0 := by omega
      obtain rfl : cs = tabV := by
        rcases hs with h | h
        · have := h.1.2; have := Nat.two_pow_pos (7 - k); omega
        · exact h.2
      clear hs h0
      go_wp2_with (first
        | refine wpList_load_row rfl 83 _ rfl (w.heap.size + 1) rfl 83 tabV (0, 0) _ ht.out.2.1 under rfl size_tab ?_
        | refine wpList_store_row rfl 83 _ _ rfl w.heap.size tabV rfl rfl 83 zeros ht.out.1 size_tab zeros_size tabV_one ?_)
      exact bodyPost_ret (results_cell_row rfl _ _ w.heap.size 83 tabV (0, 0) _ rfl (setRow_heap _ _ _ _ _ _ ht.out.1) under rfl size_tab) rfl ⟨rfl, below_setRow ht.out.2.2 (Nat.le_refl _) _⟩
end Go.Proofs.Ytdodigfojbijfaa.Cb

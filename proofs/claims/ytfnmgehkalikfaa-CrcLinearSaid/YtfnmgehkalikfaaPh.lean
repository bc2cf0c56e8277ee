/-
  Contracts of package crc's Words.
-/
import Derived.Test.YtfnmgehkalikfaaPg
namespace Go.Proofs.Ytfnmgehkalikfaa.Ph
open Go.ChangeShapes Go.WideShapes Go.ChangeAt Go.RowKit Ma Pa Pb Pc Pd Pe Pf Pg
set_option linter.unusedVariables false
set_option linter.unusedSimpArgs false

/-- A fact that no unification looks into ('Hid' is a def: 'steps 64 y' behind it is unfolded). -/
structure Lk (p : Prop) : Prop where
  out : p

theorem bytesOf_snoc (a : List Nat) (x : Nat) : bytesOf (a ++ [x]) = bytesOf a ++ little x := by simp [bytesOf]
theorem bytesOf_next {l : List Nat} {k : Nat} (h : k < l.length) : bytesOf (l.take (k + 1)) = bytesOf (l.take k) ++ little (l.getD k 0) := by
  rw [take_snoc l k h, bytesOf_snoc]
theorem feed_word {l : List Nat} {k : Nat} (h : k < l.length) (hb : ∀ x ∈ l, x < 18446744073709551616) : feed ones (bytesOf (l.take (k + 1))) = steps 64 (feed ones (bytesOf (l.take k)) ^^^ l.getD k 0) := by
  rw [bytesOf_next h, feed_append, feed_little (getD_lt hb h)]
theorem feed_bytes_lt (l : List Nat) : feed ones (bytesOf l) < 18446744073709551616 := feed_lt _ (by decide) (bytesOf_lt l)

set_option maxRecDepth 100000 in
theorem words_any (A : Option Addr) (l : List Nat) (c : Nat) (w : World) (hl : l.length ≤ 5000) (hb : Hid (∀ x ∈ l, x < 18446744073709551616)) (h : Hid (Lies .u64 w w.heap.size A l)) :
    Calls Try.prog 11 #[.slice A l.length c] w fun e w' => e = .returned (.int .u64 ((crc (bytesOf l) : Nat) : Int)) ∧ Below w.heap.size w w' := by
  have hz := zero_table
  have hsg : IntKind.u64.signed = false := rfl
  go_enter Try.func11, Try.ntmps11
  go_wp2_with fail
  refine (news_any _).mono ?_
  rintro e w1 ⟨rfl, hb1⟩
  have hB := Lib.hid hb1
  clear hb1
  go_wp2_with (refine wpList_store_row rfl 38 _ _ rfl w1.heap.size tabV rfl rfl 38 zeros (heap_alloc_new _ _) size_tab zeros_size tabV_one ?_)
  have HT := Lib.hid (Tab.made (w := w1))
  have HB : Hid (Below w.heap.size w ((w1.alloc (.cells zeros 38)).setRow w1.heap.size tabV)) := below_setRow (hB.out.alloc hB.out.size _) hB.out.size _
  have HL : Hid (Lies .u64 _ w.heap.size A l) := h.out.below HB.out
  generalize (w1.alloc (.cells zeros 38)).setRow w1.heap.size tabV = W at *
  generalize w1.heap.size = g at *
  clear hB h hz
  go_loop [4, 10] (fun reg i => ∃ k : Nat, k ≤ l.length ∧ i = .int .i64 k ∧ reg = .int .u64 (feed ones (bytesOf (l.take k)) : Nat)) (fun _ i => l.length - (intOf i).toNat)
  case atStart => exact ⟨0, Nat.zero_le _, rfl, rfl⟩
  case round =>
    obtain ⟨k, hk, rfl, rfl⟩ := hrel
    have hr := feed_bytes_lt (l.take k)
    by_cases hlt : k < l.length
    · obtain ⟨ad, rfl, _, hc⟩ := HL.out.at_ hlt
      have hx := getD_lt hb.out hlt
      have HX : Hid (bits .xor .u64 ((feed ones (bytesOf (l.take k)) : Nat) : Int) ((l.getD k 0 : Nat) : Int) = ((feed ones (bytesOf (l.take k)) ^^^ l.getD k 0 : Nat) : Int)) := xor_ _ _ hr hx
      have HR : Hid (feed ones (bytesOf (l.take k)) ^^^ l.getD k 0 < 18446744073709551616) := Nat.xor_lt_two_pow (n := 64) hr hx
      have HS : Lk (steps 64 (feed ones (bytesOf (l.take k)) ^^^ l.getD k 0) = feed ones (bytesOf (l.take (k + 1)))) := ⟨(feed_word hlt hb.out).symm⟩
      have HH := Lib.hid hx
      clear hx
      generalize l.getD k 0 = x at *
      generalize feed ones (bytesOf (l.take k)) = z at *
      have HZ := Lib.hid hr
      clear hr HL
      go_wp2_with fail
      rw [HX.out]
      generalize z ^^^ x = y at *
      clear HX hc
      go_loop [4, 17] (fun reg i => ∃ m : Nat, m ≤ 8 ∧ i = .int .i64 m ∧ reg = .int .u64 (steps (8 * m) y : Nat)) (fun _ i => 8 - (intOf i).toNat)
      case atStart => exact ⟨0, by omega, rfl, rfl⟩
      case round =>
        obtain ⟨m, hm, rfl, rfl⟩ := hrel
        by_cases h8 : m < 8
        · have HM := Lib.hid (steps_lt (8 * m) HR.out)
          have HO : Lk (steps 8 (steps (8 * m) y) = steps (8 * (m + 1)) y) := ⟨(steps_add (8 * m) 8 y).symm⟩
          generalize steps (8 * m) y = v at *
          go_wp2_with (first | (go_at_call 17; refine (shift8 g _ W HT.out HM.out).mono ?_; rintro e w' ⟨rfl, rfl⟩))
          go_round
          case rel => exact ⟨m + 1, by omega, by go_num, by rw [HO.out]⟩
          case measure => simp [intOf]; omega
        · obtain rfl : m = 8 := by omega
          have e88 : 8 * 8 = 64 := by decide
          rw [e88]
          clear e88
          go_wp2
          go_round
          case rel => exact ⟨k + 1, by omega, by go_num, by rw [HS.out]⟩
          case measure => simp [intOf]; omega
    · obtain rfl : k = l.length := by omega
      go_wp2
      go_ret
      refine ⟨ret_int ?_, HB.out⟩
      rw [List.take_length] at hr
      rw [not_ _ hr, crc]
end Go.Proofs.Ytfnmgehkalikfaa.Ph

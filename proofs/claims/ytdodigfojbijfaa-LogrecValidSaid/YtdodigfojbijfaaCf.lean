/-
  Contracts of the checksum of words: package crc's Words, the reference's Words.
-/
import Derived.Test.YtdodigfojbijfaaCe
namespace Go.Proofs.Ytdodigfojbijfaa.Cf
open Go.ChangeShapes Go.WideShapes Go.ChangeAt Go.RowKit Ga Ma Ca Cb Cc Cd Ce
set_option linter.unusedVariables false
set_option linter.unusedSimpArgs false

theorem bytesOf_snoc (a : List Nat) (x : Nat) : bytesOf (a ++ [x]) = bytesOf a ++ little x := by simp [bytesOf]
theorem bytesOf_next {l : List Nat} {k : Nat} (h : k < l.length) : bytesOf (l.take (k + 1)) = bytesOf (l.take k) ++ little (l.getD k 0) := by
  rw [take_snoc l k h, bytesOf_snoc]
theorem feed_word {l : List Nat} {k : Nat} (h : k < l.length) (hb : ∀ x ∈ l, x < 18446744073709551616) : feed ones (bytesOf (l.take (k + 1))) = steps 64 (feed ones (bytesOf (l.take k)) ^^^ l.getD k 0) := by
  rw [bytesOf_next h, feed_append, feed_little (getD_lt hb h)]
theorem feed_bytes_lt (l : List Nat) : feed ones (bytesOf l) < 18446744073709551616 := feed_lt _ (by decide) (bytesOf_lt l)
theorem crc_lt {l : List Nat} (h : ∀ x ∈ l, x < 256) : crc l < 18446744073709551616 := by rw [← ext_zero]; exact ext_lt (by decide) h
theorem crc_nil : crc [] = 0 := by decide +kernel
/-- The checksum of words. -/
def crcW (l : List Nat) : Nat := crc (bytesOf l)
theorem crcW_lt (l : List Nat) : crcW l < 18446744073709551616 := crc_lt (bytesOf_lt l)

set_option maxRecDepth 100000 in
theorem words_any (A : Option Addr) (l : List Nat) (n c : Nat) (w : World) (hn : l.length = n) (hl : n ≤ 5000) (hb : Lk (∀ x ∈ l, x < 18446744073709551616)) (h : Lk (Lies .u64 w w.heap.size A l)) :
    Calls Try.prog 47 #[.slice A n c] w fun e w' => e = .returned (.int .u64 ((crcW l : Nat) : Int)) ∧ Lk (Below w.heap.size w w') := by
  subst hn
  have hz := zero_table
  have hsg : IntKind.u64.signed = false := rfl
  go_enter Try.func47, Try.ntmps47
  go_wp2_with fail
  refine (news_any _).mono ?_
  rintro e w1 ⟨rfl, hb1⟩
  have hB := Lib.hid hb1
  clear hb1
  go_wp2_with (refine wpList_store_row rfl 83 _ _ rfl w1.heap.size tabV rfl rfl 83 zeros (heap_alloc_new _ _) size_tab zeros_size tabV_one ?_)
  have HT := Lib.hid (Tab.made (w := w1))
  have HB : Hid (Below w.heap.size w ((w1.alloc (.cells zeros 83)).setRow w1.heap.size tabV)) := below_setRow (hB.out.alloc hB.out.size _) hB.out.size _
  have HL : Hid (Lies .u64 _ w.heap.size A l) := h.out.below HB.out
  generalize (w1.alloc (.cells zeros 83)).setRow w1.heap.size tabV = W at *
  generalize w1.heap.size = g at *
  clear hB h hz
  go_loop [4, 10] (fun reg i => ∃ k : Nat, k ≤ l.length ∧ i = .int .i64 k ∧ reg = .int .u64 (feed ones (bytesOf (l.take k)) : Nat)) (fun _ i => l.length - (intOf i).toNat)
  case atStart => exact ⟨0, Nat.zero_le _, rfl, rfl⟩
  case round =>
    obtain ⟨k, hk, rfl, rfl⟩ := hrel
    have hr := feed_bytes_lt (l.take k)
    by_cases hlt : k < l.length
    · obtain ⟨ad, rfl, _, hc⟩ := HL.out.at_ hlt
      have hx := getD_lt hb.out hlt
      have HX : Hid (bits .xor .u64 ((feed ones (bytesOf (l.take k)) : Nat) : Int) ((l.getD k 0 : Nat) : Int) = ((feed ones (bytesOf (l.take k)) ^^^ l.getD k 0 : Nat) : Int)) := xor_ _ _ hr hx
      have HR : Hid (feed ones (bytesOf (l.take k)) ^^^ l.getD k 0 < 18446744073709551616) := Nat.xor_lt_two_pow (n := 64) hr hx
      have HS : Lk (steps 64 (feed ones (bytesOf (l.take k)) ^^^ l.getD k 0) = feed ones (bytesOf (l.take (k + 1)))) := ⟨(feed_word hlt hb.out).symm⟩
      have HH := Lib.hid hx
      clear hx
      generalize l.getD k 0 = x at *
      generalize feed ones (bytesOf (l.take k)) = z at *
      have HZ := Lib.hid hr
      clear hr HL
      go_wp2_with fail
      rw [HX.out]
      generalize z ^^^ x = y at *
      clear HX hc
      go_loop [4, 17] (fun reg i => ∃ m : Nat, m ≤ 8 ∧ i = .int .i64 m ∧ reg = .int .u64 (steps (8 * m) y : Nat)) (fun _ i => 8 - (intOf i).toNat)
      case atStart => exact ⟨0, by omega, rfl, rfl⟩
      case round =>
        obtain ⟨m, hm, rfl, rfl⟩ := hrel
        by_cases h8 : m < 8
        · have HM := Lib.hid (steps_lt (8 * m) HR.out)
          have HO : Lk (steps 8 (steps (8 * m) y) = steps (8 * (m + 1)) y) := ⟨(steps_add (8 * m) 8 y).symm⟩
          generalize steps (8 * m) y = v at *
          go_wp2_with (first | (go_at_call 58; refine (shift8 g _ W HT.out HM.out).mono ?_; rintro e w' ⟨rfl, rfl⟩))
          go_round
          case rel => exact ⟨m + 1, by omega, by go_num, by rw [HO.out]⟩
          case measure => simp [intOf]; omega
        · obtain rfl : m = 8 := by omega
          have e88 : 8 * 8 = 64 := by decide
          rw [e88]
          clear e88
          go_wp2
          go_round
          case rel => exact ⟨k + 1, by omega, by go_num, by rw [HS.out]⟩
          case measure => simp [intOf]; omega
    · obtain rfl : k = l.length := by omega
      go_wp2
      go_ret
      refine ⟨ret_int ?_, ⟨HB.out⟩⟩
      rw [List.take_length] at hr
      rw [not_ _ hr, crcW, crc]
set_option maxRecDepth 100000 in
theorem refWords_any (A : Option Addr) (l : List Nat) (n c : Nat) (w : World) (hn : l.length = n) (hl : n ≤ 5000) (hb : Lk (∀ x ∈ l, x < 18446744073709551616)) (h : Lk (Lies .u64 w w.heap.size A l)) :
    Calls Try.prog 48 #[.slice A n c] w fun e w' => e = .returned (.int .u64 ((crcW l : Nat) : Int)) ∧ Lk (Below w.heap.size w w') := by
  subst hn
  go_enter Try.func48, Try.ntmps48
  go_wp2_with fail
  go_loopw [3, 4] (fun s i wr => ∃ k : Nat, k ≤ l.length ∧ i = .int .i64 k ∧ s = .int .u64 (crc (bytesOf (l.take k)) : Nat) ∧ Hid (Below w.heap.size w wr)) (fun _ i _ => l.length - (intOf i).toNat)
  case atStart => exact ⟨0, Nat.zero_le _, rfl, by rw [List.take_zero]; exact congrArg (Value.int .u64) (congrArg Int.ofNat crc_nil.symm), Below.refl _ _⟩
  case round =>
    obtain ⟨k, hk, rfl, rfl, hB⟩ := hrel
    by_cases hlt : k < l.length
    · obtain ⟨ad, rfl, _, hc⟩ := (h.out.below hB.out).at_ hlt
      have hx := getD_lt hb.out hlt
      have HL : Lk (crc (bytesOf (l.take k)) < 18446744073709551616) := ⟨crc_lt (bytesOf_lt _)⟩
      have HT : Lk (ext (crc (bytesOf (l.take k))) (little (l.getD k 0)) = crc (bytesOf (l.take (k + 1)))) := ⟨by rw [ext_crc, bytesOf_next hlt]⟩
      generalize l.getD k 0 = x at *
      generalize crc (bytesOf (l.take k)) = z at *
      have HX := Lib.hid hx
      clear hx
      go_wp2_with fail
      refine (little_any _ _ HX.out).mono ?_
      rintro e w2 ⟨rfl, hl2, hb2⟩
      have H2 : Hid (Below w.heap.size w w2) := hB.out.trans (hb2.mono hB.out.size)
      have HL2 := Lib.hid hl2
      clear hl2 hb2
      go_wp2_with fail
      refine (refExtend_n z _ (little x) 8 8 w2 w2.heap.size (little_len x) HL.out (by omega) (little_lt x) HL2).mono ?_
      rintro e w' ⟨rfl, rfl⟩
      rw [HT.out]
      go_wp2
      go_roundw
      case rel => exact ⟨k + 1, by omega, by go_num, rfl, H2⟩
      case measure => simp [intOf]; omega
    · obtain rfl : k = l.length := by omega
      go_wp2
      go_ret
      exact ⟨ret_int (by rw [List.take_length, crcW]), ⟨hB.out⟩⟩
end Go.Proofs.Ytdodigfojbijfaa.Cf

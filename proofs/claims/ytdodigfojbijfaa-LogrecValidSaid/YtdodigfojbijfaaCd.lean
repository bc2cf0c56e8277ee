/-
  Contracts of the reference's checksum, bit by bit: Extend and Bytes.
-/
import Derived.Test.YtdodigfojbijfaaCc
namespace Go.Proofs.Ytdodigfojbijfaa.Cd
open Go.ChangeShapes Go.WideShapes Go.ChangeAt Go.RowKit Ga Ma Ca Cb Cc
set_option linter.unusedVariables false
set_option linter.unusedSimpArgs false

set_option maxRecDepth 100000 in
theorem refExtend_any (s : Nat) (A : Option Addr) (l : List Nat) (c : Nat) (w : World) (B : Nat) (hs : s < 18446744073709551616) (hl : l.length ≤ 20000) (hb : Hid (∀ x ∈ l, x < 256)) (HL : Hid (Lies .u8 w B A l)) :
    Calls Try.prog 59 #[.int .u64 s, .slice A l.length c] w fun e w' => e = .returned (.int .u64 ((ext s l : Nat) : Int)) ∧ w = w' := by
  have hsg : IntKind.u64.signed = false := rfl
  go_enter Try.func59, Try.ntmps59
  go_wp2_with fail
  rw [not_ s hs]
  have ho : s ^^^ ones < 18446744073709551616 := Nat.xor_lt_two_pow (n := 64) hs (by decide)
  go_loop [5, 6] (fun reg i => ∃ k : Nat, k ≤ l.length ∧ i = .int .i64 k ∧ reg = .int .u64 (feed (s ^^^ ones) (l.take k) : Nat)) (fun _ i => l.length - (intOf i).toNat)
  case atStart => exact ⟨0, Nat.zero_le _, rfl, rfl⟩
  case round =>
    obtain ⟨k, hk, rfl, rfl⟩ := hrel
    have hr := feed_lt (l.take k) ho (take_lt hb.out k)
    by_cases hlt : k < l.length
    · obtain ⟨ad, rfl, _, hc⟩ := HL.out.at_ hlt
      have hx := getD_lt hb.out hlt
      have HX : Hid (bits .xor .u64 ((feed (s ^^^ ones) (l.take k) : Nat) : Int) ((l.getD k 0 : Nat) : Int) = ((feed (s ^^^ ones) (l.take k) ^^^ l.getD k 0 : Nat) : Int)) := xor_ _ _ hr (by omega)
      have HR : Hid (feed (s ^^^ ones) (l.take k) ^^^ l.getD k 0 < 18446744073709551616) := Nat.xor_lt_two_pow (n := 64) hr (by omega)
      have HS : Hid (steps 8 (feed (s ^^^ ones) (l.take k) ^^^ l.getD k 0) = feed (s ^^^ ones) (l.take (k + 1))) := by rw [take_snoc l k hlt, feed_snoc]; rfl
      generalize l.getD k 0 = x at *
      go_wp2_with fail
      rw [HX.out]
      generalize feed (s ^^^ ones) (l.take k) ^^^ x = y at *
      clear HX hr hx hc HL
      go_loop [5, 7] (fun reg i => ∃ m : Nat, m ≤ 8 ∧ i = .int .i64 m ∧ reg = .int .u64 (steps m y : Nat)) (fun _ i => 8 - (intOf i).toNat)
      case atStart => exact ⟨0, by omega, rfl, rfl⟩
      case round =>
        obtain ⟨m, hm, rfl, rfl⟩ := hrel
        by_cases h8 : m < 8
        · have HM := Lib.hid (steps_lt m HR.out)
          have HO : Hid (one (steps m y) = steps (m + 1) y) := (steps_succ m y).symm
          generalize steps m y = z at *
          go_wp2
          · have hb : (bits .and .u64 (z : Int) 1 == 1) = true := by assumption
            go_round
            case rel => exact ⟨m + 1, by omega, by go_num, by rw [one_yes z HM.out hb, HO.out]⟩
            case measure => simp [intOf]; omega
          · have hb : (bits .and .u64 (z : Int) 1 == 1) = false := by assumption
            go_round
            case rel => exact ⟨m + 1, by omega, by go_num, by rw [one_no z HM.out hb, HO.out]⟩
            case measure => simp [intOf]; omega
        · obtain rfl : m = 8 := by omega
          go_wp2
          go_round
          case rel => exact ⟨k + 1, by omega, by go_num, by rw [HS.out]⟩
          case measure => simp [intOf]; omega
    · obtain rfl : k = l.length := by omega
      go_wp2
      go_ret
      refine ⟨ret_int ?_, rfl⟩
      rw [List.take_length] at hr
      rw [not_ _ hr, ext]
end Go.Proofs.Ytdodigfojbijfaa.Cd

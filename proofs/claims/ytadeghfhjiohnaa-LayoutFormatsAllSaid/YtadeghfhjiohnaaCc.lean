/-
  Contracts of package crc's Extend and Bytes: the checksum as plain mathematics.
-/
import Derived.Test.YtadeghfhjiohnaaCb
namespace Go.Proofs.Ytadeghfhjiohnaa.Cc
open Go.ChangeShapes Go.WideShapes Go.ChangeAt Go.RowKit Ga Ma Ca Cb
set_option linter.unusedVariables false
set_option linter.unusedSimpArgs false

/-- A block that holds the table. -/
def Tab (w : World) (g : Nat) : Prop := w.heap[g]? = some (.cells tabV 92 (0, 0))
theorem Tab.cell {w : World} {g : Nat} (h : Tab w g) (i : Nat) (hi : i < 256) : w.cell? ⟨g, i, none⟩ = some (.int .u64 ((tab i : Nat) : Int)) :=
  (cell_of_row w g i tabV _ _ h).trans (tabV_cell i hi)
theorem Tab.made {w : World} : Tab ((w.alloc (.cells zeros 92)).setRow w.heap.size tabV) w.heap.size := setRow_heap _ _ _ _ _ _ (heap_alloc_new w _)

theorem shift8 (g : Nat) (r : Nat) (w : World) (hg : Tab w g) (h : r < 18446744073709551616) :
    Calls Try.prog 69 #[.pointer (some ⟨g, 0, none⟩), .int .u64 r] w fun e w' => e = .returned (.int .u64 ((steps 8 r : Nat) : Int)) ∧ w = w' := by
  have := shift_any g r w h (tab (r % 256)) (tab_lt (by omega)) (hg.cell _ (by omega))
  rwa [tab_shift] at this

theorem not_ (s : Nat) (h : s < 18446744073709551616) : bits .xor .u64 IntKind.u64.max (s : Int) = ((s ^^^ ones : Nat) : Int) := by
  rw [Nat.xor_comm]
  exact xor_ ones s (by decide) h

set_option maxRecDepth 100000 in
theorem extend_any (s : Nat) (A : Option Addr) (l : List Nat) (c : Nat) (w : World) (hs : s < 18446744073709551616) (hl : l.length ≤ 20000) (hb : Hid (∀ x ∈ l, x < 256)) (h : Hid (Lies .u8 w w.heap.size A l)) :
    Calls Try.prog 61 #[.int .u64 s, .slice A l.length c] w fun e w' => e = .returned (.int .u64 ((ext s l : Nat) : Int)) ∧ Below w.heap.size w w' := by
  have hz := zero_table
  have hsg : IntKind.u64.signed = false := rfl
  go_enter Try.func61, Try.ntmps61
  go_wp2_with fail
  refine (news_any _).mono ?_
  rintro e w1 ⟨rfl, hb1⟩
  have hB := Lib.hid hb1
  clear hb1
  go_wp2_with (refine wpList_store_row rfl 92 _ _ rfl w1.heap.size tabV rfl rfl 92 zeros (heap_alloc_new _ _) size_tab zeros_size tabV_one ?_)
  have HT := Lib.hid (Tab.made (w := w1))
  have HB : Hid (Below w.heap.size w ((w1.alloc (.cells zeros 92)).setRow w1.heap.size tabV)) := below_setRow (hB.out.alloc hB.out.size _) hB.out.size _
  have HL : Hid (Lies .u8 _ w.heap.size A l) := h.out.below HB.out
  generalize (w1.alloc (.cells zeros 92)).setRow w1.heap.size tabV = W at *
  generalize w1.heap.size = g at *
  clear hB h
  rw [not_ s hs]
  have ho : s ^^^ ones < 18446744073709551616 := Nat.xor_lt_two_pow (n := 64) hs (by decide)
  go_loop [6, 14] (fun reg i => ∃ k : Nat, k ≤ l.length ∧ i = .int .i64 k ∧ reg = .int .u64 (feed (s ^^^ ones) (l.take k) : Nat)) (fun _ i => l.length - (intOf i).toNat)
  case atStart => exact ⟨0, Nat.zero_le _, rfl, rfl⟩
  case round =>
    obtain ⟨k, hk, rfl, rfl⟩ := hrel
    have hr := feed_lt (l.take k) ho (take_lt hb.out k)
    by_cases hlt : k < l.length
    · obtain ⟨ad, rfl, _, hc⟩ := HL.out.at_ hlt
      have hx := getD_lt hb.out hlt
      have HX : Hid (bits .xor .u64 ((feed (s ^^^ ones) (l.take k) : Nat) : Int) ((l.getD k 0 : Nat) : Int) = ((feed (s ^^^ ones) (l.take k) ^^^ l.getD k 0 : Nat) : Int)) := xor_ _ _ hr (by omega)
      have HR : Hid (feed (s ^^^ ones) (l.take k) ^^^ l.getD k 0 < 18446744073709551616) := Nat.xor_lt_two_pow (n := 64) hr (by omega)
      have HS : Hid (steps 8 (feed (s ^^^ ones) (l.take k) ^^^ l.getD k 0) = feed (s ^^^ ones) (l.take (k + 1))) := by rw [take_snoc l k hlt, feed_snoc]; rfl
      generalize l.getD k 0 = x at *
      go_wp2_with (first | (go_at_call 69; rw [HX.out]; refine (shift8 g _ W HT.out HR.out).mono ?_; rintro e w' ⟨rfl, rfl⟩))
      go_round
      case rel => exact ⟨k + 1, by omega, by go_num, by rw [HS.out]⟩
      case measure => simp [intOf]; omega
    · obtain rfl : k = l.length := by omega
      go_wp2
      go_ret
      refine ⟨ret_int ?_, HB.out⟩
      rw [List.take_length] at hr
      rw [not_ _ hr, ext]
theorem bytes_any (A : Option Addr) (l : List Nat) (c : Nat) (w : World) (hl : l.length ≤ 20000) (hb : Hid (∀ x ∈ l, x < 256)) (h : Hid (Lies .u8 w w.heap.size A l)) :
    Calls Try.prog 53 #[.slice A l.length c] w fun e w' => e = .returned (.int .u64 ((crc l : Nat) : Int)) ∧ Below w.heap.size w w' := by
  have C := Lib.hid (extend_any 0 A l c w (by decide) hl hb h)
  go_enter Try.func53, Try.ntmps53
  go_wp2_with (first | (go_at_call 61; refine C.out.mono ?_; rintro e w' ⟨rfl, hB⟩))
  go_ret
  exact ⟨ret_int (by rw [ext_zero]), by assumption⟩
end Go.Proofs.Ytadeghfhjiohnaa.Cc

/-
  Contract of the sanity check of package crc's laws: it holds.
-/
import Derived.Test.YtfnmgehkalikfaaPd
import Derived.Lib.SlBytesConst
namespace Go.Proofs.Ytfnmgehkalikfaa.Pe
open Go.ChangeShapes Go.WideShapes Go.ChangeAt Go.RowKit Ma Pa Pb Pc Pd
set_option linter.unusedVariables false
set_option linter.unusedSimpArgs false

def nine : List Nat := [49, 50, 51, 52, 53, 54, 55, 56, 57]
theorem crc_nine : crc nine = 11051210869376104954 := by decide +kernel
theorem crc_nil : crc [] = 0 := by decide +kernel
def nineCells : Array Value := #[.int .u8 49, .int .u8 50, .int .u8 51, .int .u8 52, .int .u8 53, .int .u8 54, .int .u8 55, .int .u8 56, .int .u8 57]
theorem nine_lies (w : World) : Lies .u8 (w.alloc (.cells nineCells 5 (9, 10))) (w.heap.size + 1) (some ⟨w.heap.size, 0, none⟩) nine := by
  intro _
  refine ⟨_, rfl, by simp, fun j hj => ?_⟩
  have hadd : (⟨w.heap.size, 0, none⟩ : Addr).add j = ⟨w.heap.size, j, none⟩ := by unfold Addr.add; split <;> simp_all
  rw [hadd, cell_of_row _ _ j nineCells _ _ (heap_alloc_new w _)]
  have hj : j < 9 := hj
  match j, hj with
  | 0, _ => rfl
  | 1, _ => rfl
  | 2, _ => rfl
  | 3, _ => rfl
  | 4, _ => rfl
  | 5, _ => rfl
  | 6, _ => rfl
  | 7, _ => rfl
  | 8, _ => rfl
theorem nine_lt : ∀ x ∈ nine, x < 256 := by decide
theorem nil_lt : ∀ x ∈ ([] : List Nat), x < 256 := by simp

theorem first_any (w : World) :
    Calls Try.prog 9 #[.slice (some ⟨w.heap.size, 0, none⟩) 9 9] (w.alloc (.cells nineCells 5 (9, 10))) fun e w' => e = .returned (.int .u64 11051210869376104954) ∧ Below w.heap.size w w' := by
  have := bytes_any (some ⟨w.heap.size, 0, none⟩) nine 9 (w.alloc (.cells nineCells 5 (9, 10))) (by decide) nine_lt (by
    have := nine_lies w
    exact this.more (by simp))
  rw [crc_nine] at this
  refine this.mono fun e w' ⟨h1, h2⟩ => ⟨h1, ?_⟩
  exact ((Below.refl _ _).alloc (Nat.le_refl _) _).trans (h2.mono (by simp))
theorem second_any (w : World) :
    Calls Try.prog 9 #[.slice none 0 0] w fun e w' => e = .returned (.int .u64 0) ∧ Below w.heap.size w w' := by
  have := bytes_any none [] 0 w (by decide) nil_lt Lies.none_
  rw [crc_nil] at this
  exact this
theorem awake_any (w : World) :
    Calls Try.prog 8 #[] w fun e w' => e = .returned (.bool true) ∧ Below w.heap.size w w' := by
  have hc := fun (w : World) (C : Array Value) (n c : Nat) => Lib.run_convert_bytes_const (P := Try.prog) w 22 5 C n c Try.underlying22 Try.underlying5
  go_enter Try.func8, Try.ntmps8
  go_wp2_with fail
  refine (first_any _).mono ?_
  rintro e w1 ⟨rfl, hb⟩
  have H1 := Lib.hid hb
  clear hb
  go_wp2_with fail
  refine (second_any _).mono ?_
  rintro e w2 ⟨rfl, hb⟩
  have H2 := Lib.hid hb
  clear hb
  go_wp2
  go_ret
  exact ⟨rfl, H1.out.trans (H2.out.mono H1.out.size)⟩
end Go.Proofs.Ytfnmgehkalikfaa.Pe

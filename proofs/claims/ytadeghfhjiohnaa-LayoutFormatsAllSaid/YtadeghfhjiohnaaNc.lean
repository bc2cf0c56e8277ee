/-
  Contracts of package memnode: Cas, Add, Clone, Read.
-/
import Derived.Test.YtadeghfhjiohnaaNb
namespace Go.Proofs.Ytadeghfhjiohnaa.Nc
open Go.ChangeShapes Go.WideShapes Go.ChangeAt Go.RowKit Ga Na Nb
set_option linter.unusedVariables false
set_option linter.unusedSimpArgs false
set_option maxRecDepth 10000

def casW (ws : List Nat) (j old new : Nat) : List Nat := if ws.getD j 0 = old then ws.set j new else ws
def addW (ws : List Nat) (j by_ : Nat) : List Nat := ws.set j ((ws.getD j 0 + by_) % 18446744073709551616)
theorem casW_len (ws : List Nat) (j old new : Nat) : (casW ws j old new).length = ws.length := by unfold casW; split <;> simp
theorem addW_len (ws : List Nat) (j by_ : Nat) : (addW ws j by_).length = ws.length := by simp [addW]

theorem write_no (b g n cap : Nat) (ws : List Nat) (up : Bool) (a : Int) (A : Option Addr) (m c : Nat) (w : World) (HN : Lk (PN w b g n cap ws up)) (hn : n ≤ 4294967296) (a0 : -9223372036854775808 ≤ a) (a1 : a ≤ 9223372036854775807) (hm : m ≤ 9223372036854775807) (hk : codeOf up n a m ≠ 0) :
    Calls Try.prog 32 #[.pointer (some ⟨b, 0, none⟩), .int .i64 a, .slice A m c] w fun e w' => e = .returned (.int .i64 (codeOf up n a m)) ∧ w = w' := by
  have C := check_any b g n cap up a m w hn HN.out.c0 HN.out.c1 a0 a1 (by omega) (by omega)
  generalize codeOf up n a m = k at *
  go_enter Try.func32, Try.ntmps32
  go_wp2_with (first | (go_at_call 48; refine C.mono ?_; rintro e w' ⟨rfl, rfl⟩))
  go_ret
  exact ⟨rfl, rfl⟩

theorem code_ok {n j : Nat} {m : Int} (h1 : 1 ≤ m) (hj : j + m ≤ n) : codeOf true n j m = 0 := by
  unfold codeOf
  rw [if_pos (fits_iff.2 (by omega)), if_pos rfl]
theorem slice_ne_nil (ad : Addr) (n c : Nat) (w : World) : (binOp BinOp.eql 36 (.slice (some ad) n c) (.slice none 0 0)).run Try.prog w = .ok (.bool false) w := by kernel_rfl
theorem under_words : Try.prog.underlying 36 = some (.slice (Try.prog.elem 36)) := by kernel_rfl
theorem size_word (w : World) : (sizeOf (Try.prog.elem 36)).run Try.prog w = .ok 1 w := by kernel_rfl
theorem slice_words (g n cap j c : Nat) (w : World) (h1 : 1 ≤ c) (h2 : j + c ≤ n) (h3 : n ≤ cap) (h4 : cap ≤ 9223372036854775807) :
    (Instr.sliceAt 36 (.slice (some ⟨g, 0, none⟩) n cap) (some (.int .i64 (j : Int))) (some (.int .i64 ((j : Int) + c))) none).run Try.prog w = .ok (.slice (some ⟨g, j, none⟩) c (cap - j)) w := by
  rw [run_sliceAt_slice _ _ _ _ _ _ under_words, run_slice_lh _ _ _ _ _ under_words _ _ _ _ (by omega) (by omega) (by omega), size_word]
  have e : (if cap = j then (some ⟨g, 0, none⟩ : Option Addr) else (some (⟨g, 0, none⟩ : Addr)).map (·.add (j * 1))) = some ⟨g, j, none⟩ := by
    rw [if_neg (by omega)]
    simp [add_zero_]
  have e2 : ((j : Int) + c).toNat - j = c := by omega
  simp only [Result.andThen, sliced, e, e2, Int.toNat_natCast]
end Go.Proofs.Ytadeghfhjiohnaa.Nc

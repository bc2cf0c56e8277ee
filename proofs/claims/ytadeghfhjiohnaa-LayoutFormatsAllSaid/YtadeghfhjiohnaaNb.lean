/-
  Contracts of package memnode: New, Up, Lines, Boot, Fail, Back, Cas, Add.
-/
import Derived.Test.YtadeghfhjiohnaaNa
namespace Go.Proofs.Ytadeghfhjiohnaa.Nb
open Go.ChangeShapes Go.WideShapes Go.ChangeAt Go.RowKit Ga Na
set_option linter.unusedVariables false
set_option linter.unusedSimpArgs false
set_option maxRecDepth 10000

/-- The program's node. -/
abbrev PN := Nd 63
theorem lines_any (b g n cap : Nat) (ws : List Nat) (up : Bool) (w : World) (h : Lk (PN w b g n cap ws up)) (L : Nat) (hL : n = 8 * L) (hn : n ≤ 4294967296) :
    Calls Try.prog 50 #[.pointer (some ⟨b, 0, none⟩)] w fun e w' => e = .returned (.int .i64 L) ∧ w = w' := by
  have hu := h.out.c0
  go_enter Try.func50, Try.ntmps50
  go_wp2
  go_ret
  refine ⟨ret_int ?_, rfl⟩
  omega
theorem fail_any (b g n cap : Nat) (ws : List Nat) (up : Bool) (w : World) (h : Lk (PN w b g n cap ws up)) :
    Calls Try.prog 33 #[.pointer (some ⟨b, 0, none⟩)] w fun e w' => e = .returned (.tuple #[]) ∧ Lk (PN w' b g n cap ws false) ∧ Lk (Only (fun k => k = b) w w') := by
  have hf := h.out.f1 1
  have hu := h.out.c1
  have H2 : Lk (PN (w.setCell ⟨b, 1, none⟩ (.bool false)) b g n cap ws false) := ⟨h.out.setUp false⟩
  have HO : Lk (Only (fun k => k = b) w (w.setCell ⟨b, 1, none⟩ (.bool false))) := ⟨Only.setCell (S := fun k => k = b) (p := ⟨b, 1, none⟩) (Only.refl _ w) (.inl rfl) _⟩
  go_enter Try.func33, Try.ntmps33
  go_wp2
  refine bodyPost_end (results_none rfl _ _ _) rfl ⟨rfl, H2, HO⟩
theorem new_ok (L : Nat) (w : World) (h1 : 1 ≤ L) (h2 : L ≤ 256) :
    Calls Try.prog 31 #[.int .i64 L] w fun e w' => ∃ b g : Nat, e = .returned (.tuple #[.pointer (some ⟨b, 0, none⟩), .int .i64 0]) ∧ Lk (w.heap.size ≤ b) ∧ Lk (w.heap.size ≤ g) ∧ Lk (PN w' b g (8 * L) (8 * L) (List.replicate (8 * L) 0) true) ∧ Lk (Below w.heap.size w w') := by
  obtain ⟨i0, hi, hz0, hz1, hz2⟩ := info_parts u64info
  obtain ⟨n, hn⟩ : ∃ n, 8 * L = n := ⟨_, rfl⟩
  have hm : (L : Int) * 8 = n := by omega
  go_enter Try.func31, Try.ntmps31
  go_wp2_with (first
    | (at_make; refine wpList_make_full _ rfl _ _ 36 rfl w.heap.size 23 i0 (.int .u64 0) 1 Try.underlying36 hi hz0 hz1 .i64 .i64 _ _ n rfl rfl (by first | rfl | exact hm) (by first | rfl | exact hm) ?b2 ?b3 (Nat.le_refl _) ?_))
  case b2 => rw [hz2]; omega
  case b3 => unfold maxLen; omega
  intro w1 hown hgrow
  have HR : Lk (Row w1 w.heap.size n n (List.replicate n 0)) := ⟨Row.made (by simpa [Value.cells] using hown)⟩
  have HW : Lk (w.grownBy w1 none) := ⟨hgrow⟩
  have hsz : w.heap.size < w1.heap.size := HR.out.size
  clear hown hgrow
  generalize hgw : w.heap.size = g at *
  go_wp2
  go_ret2
  refine ⟨w1.heap.size, g, rfl, ⟨by omega⟩, ⟨by omega⟩, ?_, ?_⟩
  · subst hn
    exact ⟨⟨heap_alloc_new _ _, HR.out.keep (Below.heap_alloc _ _ _ hsz), by omega⟩⟩
  · rw [hgw]; exact ⟨((Below.refl _ w).grown HW.out (Nat.le_of_eq hgw.symm) (fun k hk => by cases hk)).alloc (by omega) _⟩
theorem new_no (x : Int) (w : World) (h : x < 1 ∨ 256 < x) :
    Calls Try.prog 31 #[.int .i64 x] w fun e w' => e = .returned (.tuple #[.pointer none, .int .i64 2]) ∧ w = w' := by
  go_enter Try.func31, Try.ntmps31
  by_cases h1 : x < 1
  · go_wp2
    go_ret2
    exact ⟨rfl, rfl⟩
  · have h2 : 256 < x := by omega
    go_wp2
    go_ret2
    exact ⟨rfl, rfl⟩

def canBack (up : Bool) (x : Nat) : Bool := !up && decide (x < 31)
def backW (up : Bool) (ws : List Nat) : List Nat := if canBack up (ws.getD 1 0) = true then ws.set 1 (ws.getD 1 0 + 1) else ws
end Go.Proofs.Ytadeghfhjiohnaa.Nb

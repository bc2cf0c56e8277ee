/-
  Contracts of package memnode: New, Up, Lines, Boot, Fail, Back, Cas, Add.
-/
import Derived.Test.YtacfmkmiikkppaaNa
namespace Go.Proofs.Ytacfmkmiikkppaa.Nb
open Go.ChangeShapes Go.WideShapes Go.ChangeAt Go.RowKit Ga Na
set_option linter.unusedVariables false
set_option linter.unusedSimpArgs false
set_option maxRecDepth 10000

/-- The program's node. -/
abbrev PN := Nd 90
theorem up_any (b g n cap : Nat) (ws : List Nat) (up : Bool) (w : World) (h : Lk (PN w b g n cap ws up)) :
    Calls Try.prog 82 #[.pointer (some ⟨b, 0, none⟩)] w fun e w' => e = .returned (.bool up) ∧ w = w' := by
  have hu := h.out.c1
  go_enter Try.func82, Try.ntmps82
  go_wp2
  go_ret
  exact ⟨rfl, rfl⟩
theorem lines_any (b g n cap : Nat) (ws : List Nat) (up : Bool) (w : World) (h : Lk (PN w b g n cap ws up)) (L : Nat) (hL : n = 8 * L) (hn : n ≤ 4294967296) :
    Calls Try.prog 44 #[.pointer (some ⟨b, 0, none⟩)] w fun e w' => e = .returned (.int .i64 L) ∧ w = w' := by
  have hu := h.out.c0
  go_enter Try.func44, Try.ntmps44
  go_wp2
  go_ret
  refine ⟨ret_int ?_, rfl⟩
  omega
theorem boot_any (b g n cap : Nat) (ws : List Nat) (up : Bool) (w : World) (h : Lk (PN w b g n cap ws up)) (h2 : 2 ≤ n) (hn : n ≤ 4294967296) :
    Calls Try.prog 59 #[.pointer (some ⟨b, 0, none⟩)] w fun e w' => e = .returned (.int .u64 (ws.getD 1 0 : Nat)) ∧ w = w' := by
  have hc := h.out.c0
  have C := holds_any b g n cap 1 1 w hn hc (by omega) (by omega) (by omega) (by omega)
  rw [fits_iff.2 (by omega)] at C
  have h1 := h.out.row.cell (j := 1) (by omega)
  go_enter Try.func59, Try.ntmps59
  go_wp2_with (first | (go_at_call 58; refine C.mono ?_; rintro e w' ⟨rfl, rfl⟩))
  go_ret
  exact ⟨rfl, rfl⟩
theorem fail_any (b g n cap : Nat) (ws : List Nat) (up : Bool) (w : World) (h : Lk (PN w b g n cap ws up)) :
    Calls Try.prog 24 #[.pointer (some ⟨b, 0, none⟩)] w fun e w' => e = .returned (.tuple #[]) ∧ Lk (PN w' b g n cap ws false) ∧ Lk (Only (fun k => k = b) w w') := by
  have hf := h.out.f1 1
  have hu := h.out.c1
  have H2 : Lk (PN (w.setCell ⟨b, 1, none⟩ (.bool false)) b g n cap ws false) := ⟨h.out.setUp false⟩
  have HO : Lk (Only (fun k => k = b) w (w.setCell ⟨b, 1, none⟩ (.bool false))) := ⟨Only.setCell (S := fun k => k = b) (p := ⟨b, 1, none⟩) (Only.refl _ w) (.inl rfl) _⟩
  go_enter Try.func24, Try.ntmps24
  go_wp2
  refine bodyPost_end (results_none rfl _ _ _) rfl ⟨rfl, H2, HO⟩
theorem new_ok (L : Nat) (w : World) (h1 : 1 ≤ L) (h2 : L ≤ 256) :
    Calls Try.prog 31 #[.int .i64 L] w fun e w' => ∃ b g : Nat, e = .returned (.tuple #[.pointer (some ⟨b, 0, none⟩), .int .i64 0]) ∧ Lk (w.heap.size ≤ b) ∧ Lk (w.heap.size ≤ g) ∧ Lk (PN w' b g (8 * L) (8 * L) (List.replicate (8 * L) 0) true) ∧ Lk (Below w.heap.size w w') := by
  obtain ⟨i0, hi, hz0, hz1, hz2⟩ := info_parts u64info
  obtain ⟨n, hn⟩ : ∃ n, 8 * L = n := ⟨_, rfl⟩
  have hm : (L : Int) * 8 = n := by omega
  go_enter Try.func31, Try.ntmps31
  go_wp2_with (first
    | (at_make; refine wpList_make_full _ rfl _ _ 49 rfl w.heap.size 33 i0 (.int .u64 0) 1 Try.underlying49 hi hz0 hz1 .i64 .i64 _ _ n rfl rfl (by first | rfl | exact hm) (by first | rfl | exact hm) ?b2 ?b3 (Nat.le_refl _) ?_))
  case b2 => rw [hz2]; omega
  case b3 => unfold maxLen; omega
  intro w1 hown hgrow
  have HR : Lk (Row w1 w.heap.size n n (List.replicate n 0)) := ⟨Row.made (by simpa [Value.cells] using hown)⟩
  have HW : Lk (w.grownBy w1 none) := ⟨hgrow⟩
  have hsz : w.heap.size < w1.heap.size := HR.out.size
  clear hown hgrow
  generalize hgw : w.heap.size = g at *
  go_wp2
  go_ret2
  refine ⟨w1.heap.size, g, rfl, ⟨by omega⟩, ⟨by omega⟩, ?_, ?_⟩
  · subst hn
    exact ⟨⟨heap_alloc_new _ _, HR.out.keep (Below.heap_alloc _ _ _ hsz), by omega⟩⟩
  · rw [hgw]; exact ⟨((Below.refl _ w).grown HW.out (Nat.le_of_eq hgw.symm) (fun k hk => by cases hk)).alloc (by omega) _⟩
theorem new_no (x : Int) (w : World) (h : x < 1 ∨ 256 < x) :
    Calls Try.prog 31 #[.int .i64 x] w fun e w' => e = .returned (.tuple #[.pointer none, .int .i64 2]) ∧ w = w' := by
  go_enter Try.func31, Try.ntmps31
  by_cases h1 : x < 1
  · go_wp2
    go_ret2
    exact ⟨rfl, rfl⟩
  · have h2 : 256 < x := by omega
    go_wp2
    go_ret2
    exact ⟨rfl, rfl⟩

def canBack (up : Bool) (x : Nat) : Bool := !up && decide (x < 31)
def backW (up : Bool) (ws : List Nat) : List Nat := if canBack up (ws.getD 1 0) = true then ws.set 1 (ws.getD 1 0 + 1) else ws
theorem back_any (b g n cap : Nat) (ws : List Nat) (up : Bool) (w : World) (HN : Lk (PN w b g n cap ws up)) (h2 : 2 ≤ n) (hn : n ≤ 4294967296) :
    Calls Try.prog 25 #[.pointer (some ⟨b, 0, none⟩)] w fun e w' => e = .returned (.bool (canBack up (ws.getD 1 0))) ∧ Lk (PN w' b g n cap (backW up ws) (up || canBack up (ws.getD 1 0))) ∧ Lk (Only (fun k => k = b ∨ k = g) w w') := by
  have hc := HN.out.c0
  have hu := HN.out.c1
  cases up with
  | true =>
    go_enter Try.func25, Try.ntmps25
    go_wp2
    go_ret
    exact ⟨rfl, HN, ⟨Only.refl _ _⟩⟩
  | false =>
    have C := holds_any b g n cap 1 1 w hn hc (by omega) (by omega) (by omega) (by omega)
    rw [fits_iff.2 (by omega)] at C
    have C2 := boot_any b g n cap ws false w HN h2 hn
    have h1 := HN.out.row.cell (j := 1) (by omega)
    have hf := HN.out.row.free 1
    have hx := getD_lt HN.out.row.lt (show 1 < ws.length by have := HN.out.row.len; omega)
    unfold backW
    generalize hX : ws.getD 1 0 = x at *
    clear hX
    by_cases hb : x < 31
    · have e : canBack false x = true := by simp [canBack, hb]
      rw [e]
      have H2 : Lk (PN (w.setCell ⟨g, 1, none⟩ (.int .u64 ((x : Int) + 1))) b g n cap (ws.set 1 (x + 1)) false) := ⟨HN.out.set 1 (x + 1) (by omega)⟩
      have hu2 := H2.out.c1
      have hf2 := HN.out.f1 1
      have H3 : Lk (PN ((w.setCell ⟨g, 1, none⟩ (.int .u64 ((x : Int) + 1))).setCell ⟨b, 1, none⟩ (.bool true)) b g n cap (ws.set 1 (x + 1)) true) := ⟨H2.out.setUp true⟩
      have HO : Lk (Only (fun k => k = b ∨ k = g) w ((w.setCell ⟨g, 1, none⟩ (.int .u64 ((x : Int) + 1))).setCell ⟨b, 1, none⟩ (.bool true))) :=
        ⟨Only.setCell (S := fun k => k = b ∨ k = g) (p := ⟨b, 1, none⟩) (Only.setCell (S := fun k => k = b ∨ k = g) (p := ⟨g, 1, none⟩) (Only.refl _ w) (.inl (.inr rfl)) _) (.inl (.inl rfl)) _⟩
      go_enter Try.func25, Try.ntmps25
      go_wp2_with (first
        | (go_at_call 58; refine C.mono ?_; rintro e w' ⟨rfl, rfl⟩)
        | (go_at_call 59; refine C2.mono ?_; rintro e w' ⟨rfl, rfl⟩))
      go_ret
      exact ⟨rfl, H3, HO⟩
    · have e : canBack false x = false := by simp [canBack, hb]
      rw [e]
      go_enter Try.func25, Try.ntmps25
      go_wp2_with (first
        | (go_at_call 58; refine C.mono ?_; rintro e w' ⟨rfl, rfl⟩)
        | (go_at_call 59; refine C2.mono ?_; rintro e w' ⟨rfl, rfl⟩))
      go_ret
      exact ⟨rfl, HN, ⟨Only.refl _ _⟩⟩
end Go.Proofs.Ytacfmkmiikkppaa.Nb

/-
  Contracts of package memnode: Cas, Add, Clone, Read.
-/
import Derived.Test.YtacfmkmiikkppaaGa
namespace Go.Proofs.Ytacfmkmiikkppaa.Na
open Go.ChangeShapes Go.WideShapes Go.ChangeAt Go.RowKit Ga
set_option linter.unusedVariables false
set_option linter.unusedSimpArgs false

structure Nd (T : TypeId) (w : World) (b g n cap : Nat) (ws : List Nat) (up : Bool) : Prop where
  node : w.heap[b]? = some (.cells #[.slice (some ⟨g, 0, none⟩) n cap, .bool up] T (0, 0))
  row : Row w g n cap ws
  ne : b ≠ g
section
variable {T : TypeId} {w w' : World} {b g n cap : Nat} {ws : List Nat} {up : Bool}
theorem Nd.c0 (h : Nd T w b g n cap ws up) : w.cell? ⟨b, 0, none⟩ = some (.slice (some ⟨g, 0, none⟩) n cap) := (cell_of_row w b 0 _ _ _ h.node).trans rfl
theorem Nd.c1 (h : Nd T w b g n cap ws up) : w.cell? ⟨b, 1, none⟩ = some (.bool up) := (cell_of_row w b 1 _ _ _ h.node).trans rfl
theorem Nd.f1 (h : Nd T w b g n cap ws up) (j : Nat) : w.frozen? ⟨b, j, none⟩ = false := frozen_of_row w b j _ _ h.node
theorem Nd.size (h : Nd T w b g n cap ws up) : b < w.heap.size := (Array.getElem?_eq_some_iff.1 h.node).1
theorem Nd.keep (h : Nd T w b g n cap ws up) (hb : w'.heap[b]? = w.heap[b]?) (hg : w'.heap[g]? = w.heap[g]?) : Nd T w' b g n cap ws up := ⟨hb.trans h.node, h.row.keep hg, h.ne⟩
theorem Nd.on {S : Nat → Prop} (h : Nd T w b g n cap ws up) (ho : Only S w w') (hb : ¬ S b) (hg : ¬ S g) : Nd T w' b g n cap ws up := h.keep (ho.block b h.size hb) (ho.block g h.row.size hg)
theorem Nd.set (h : Nd T w b g n cap ws up) (j x : Nat) (hx : x < 18446744073709551616) : Nd T (w.setCell ⟨g, j, none⟩ (.int .u64 (x : Int))) b g n cap (ws.set j x) up :=
  ⟨(Below.heap_setCell w ⟨g, j, none⟩ _ b h.ne).trans h.node, h.row.set j x hx, h.ne⟩
theorem Nd.setUp (h : Nd T w b g n cap ws up) (u : Bool) : Nd T (w.setCell ⟨b, 1, none⟩ (.bool u)) b g n cap ws u :=
  ⟨heap_setCell_same w b 1 _ _ _ h.node, h.row.keep (Below.heap_setCell w ⟨b, 1, none⟩ _ g (Ne.symm h.ne)), h.ne⟩
end

theorem Nd.drew {T : TypeId} {w : World} {b g n cap : Nat} {ws : List Nat} {up : Bool} (h : Nd T w b g n cap ws up) (m : Nat) : Nd T (w.drewN m) b g n cap ws up := h.keep rfl rfl
/-- An access of c words at a: may it be? 0 yes, 2 out of range, 4 the node is down. -/
def fits (n : Nat) (a c : Int) : Bool := decide (0 ≤ a ∧ 1 ≤ c ∧ a + c ≤ n)
def codeOf (up : Bool) (n : Nat) (a c : Int) : Int := if fits n a c = true then (if up = true then 0 else 4) else 2
theorem fits_iff {n : Nat} {a c : Int} : fits n a c = true ↔ 0 ≤ a ∧ 1 ≤ c ∧ a + c ≤ n := by unfold fits; exact decide_eq_true_iff
theorem fits_not {n : Nat} {a c : Int} (h : ¬ (0 ≤ a ∧ 1 ≤ c ∧ a + c ≤ n)) : fits n a c = false := by unfold fits; exact decide_eq_false h

theorem holds_any (b g n cap : Nat) (a c : Int) (w : World) (hn : n ≤ 4294967296) (hc : w.cell? ⟨b, 0, none⟩ = some (.slice (some ⟨g, 0, none⟩) n cap)) (a0 : -9223372036854775808 ≤ a) (a1 : a ≤ 9223372036854775807) (c0 : -9223372036854775808 ≤ c) (c1 : c ≤ 9223372036854775807) :
    Calls Try.prog 58 #[.pointer (some ⟨b, 0, none⟩), .int .i64 a, .int .i64 c] w fun e w' => e = .returned (.bool (fits n a c)) ∧ w = w' := by
  go_enter Try.func58, Try.ntmps58
  by_cases h1 : 0 ≤ a
  · by_cases h2 : 1 ≤ c
    · have hw : wrap64 ((n : Int) - c) = n - c := by unfold wrap64; omega
      go_wp2
      go_ret
      refine ⟨ret_bool ?_, rfl⟩
      unfold fits
      simp only [decide_eq_decide]; omega
    · go_wp2
      go_ret
      refine ⟨ret_bool ?_, rfl⟩
      exact (fits_not (by omega)).symm
  · go_wp2
    go_ret
    refine ⟨ret_bool ?_, rfl⟩
    exact (fits_not (by omega)).symm
theorem check_any (b g n cap : Nat) (up : Bool) (a c : Int) (w : World) (hn : n ≤ 4294967296) (hc : w.cell? ⟨b, 0, none⟩ = some (.slice (some ⟨g, 0, none⟩) n cap)) (hu : w.cell? ⟨b, 1, none⟩ = some (.bool up))
    (a0 : -9223372036854775808 ≤ a) (a1 : a ≤ 9223372036854775807) (c0 : -9223372036854775808 ≤ c) (c1 : c ≤ 9223372036854775807) :
    Calls Try.prog 55 #[.pointer (some ⟨b, 0, none⟩), .int .i64 a, .int .i64 c] w fun e w' => e = .returned (.int .i64 (codeOf up n a c)) ∧ w = w' := by
  have C := holds_any b g n cap a c w hn hc a0 a1 c0 c1
  go_enter Try.func55, Try.ntmps55
  by_cases hf : fits n a c = true
  · rw [hf] at C
    cases up with
    | true =>
      go_wp2_with (first | (go_at_call 58; refine C.mono ?_; rintro e w' ⟨rfl, rfl⟩))
      go_ret
      exact ⟨ret_int (by simp [codeOf, hf]), rfl⟩
    | false =>
      go_wp2_with (first | (go_at_call 58; refine C.mono ?_; rintro e w' ⟨rfl, rfl⟩))
      go_ret
      exact ⟨ret_int (by simp [codeOf, hf]), rfl⟩
  · have hf' : fits n a c = false := by simpa using hf
    rw [hf'] at C
    go_wp2_with (first | (go_at_call 58; refine C.mono ?_; rintro e w' ⟨rfl, rfl⟩))
    go_ret
    exact ⟨ret_int (by simp [codeOf, hf']), rfl⟩
end Go.Proofs.Ytacfmkmiikkppaa.Na
namespace Go.Proofs.Ytacfmkmiikkppaa.Nb
open Go.ChangeShapes Go.WideShapes Go.ChangeAt Go.RowKit Ga Na
set_option linter.unusedVariables false
set_option linter.unusedSimpArgs false
set_option maxRecDepth 10000

/-- The program's node. -/
abbrev PN := Nd 90
theorem up_any (b g n cap : Nat) (ws : List Nat) (up : Bool) (w : World) (h : Lk (PN w b g n cap ws up)) :
    Calls Try.prog 82 #[.pointer (some ⟨b, 0, none⟩)] w fun e w' => e = .returned (.bool up) ∧ w = w' := by
  have hu := h.out.c1
  go_enter Try.func82, Try.ntmps82
  go_wp2
  go_ret
  exact ⟨rfl, rfl⟩
theorem lines_any (b g n cap : Nat) (ws : List Nat) (up : Bool) (w : World) (h : Lk (PN w b g n cap ws up)) (L : Nat) (hL : n = 8 * L) (hn : n ≤ 4294967296) :
    Calls Try.prog 44 #[.pointer (some ⟨b, 0, none⟩)] w fun e w' => e = .returned (.int .i64 L) ∧ w = w' := by
  have hu := h.out.c0
  go_enter Try.func44, Try.ntmps44
  go_wp2
  go_ret
  refine ⟨ret_int ?_, rfl⟩
  omega
theorem boot_any (b g n cap : Nat) (ws : List Nat) (up : Bool) (w : World) (h : Lk (PN w b g n cap ws up)) (h2 : 2 ≤ n) (hn : n ≤ 4294967296) :
    Calls Try.prog 59 #[.pointer (some ⟨b, 0, none⟩)] w fun e w' => e = .returned (.int .u64 (ws.getD 1 0 : Nat)) ∧ w = w' := by
  have hc := h.out.c0
  have C := holds_any b g n cap 1 1 w hn hc (by omega) (by omega) (by omega) (by omega)
  rw [fits_iff.2 (by omega)] at C
  have h1 := h.out.row.cell (j := 1) (by omega)
  go_enter Try.func59, Try.ntmps59
  go_wp2_with (first | (go_at_call 58; refine C.mono ?_; rintro e w' ⟨rfl, rfl⟩))
  go_ret
  exact ⟨rfl, rfl⟩
theorem fail_any (b g n cap : Nat) (ws : List Nat) (up : Bool) (w : World) (h : Lk (PN w b g n cap ws up)) :
    Calls Try.prog 24 #[.pointer (some ⟨b, 0, none⟩)] w fun e w' => e = .returned (.tuple #[]) ∧ Lk (PN w' b g n cap ws false) ∧ Lk (Only (fun k => k = b) w w') := by
  have hf := h.out.f1 1
  have hu := h.out.c1
  have H2 : Lk (PN (w.setCell ⟨b, 1, none⟩ (.bool false)) b g n cap ws false) := ⟨h.out.setUp false⟩
  have HO : Lk (Only (fun k => k = b) w (w.setCell ⟨b, 1, none⟩ (.bool false))) := ⟨Only.setCell (S := fun k => k = b) (p := ⟨b, 1, none⟩) (Only.refl _ w) (.inl rfl) _⟩
  go_enter Try.func24, Try.ntmps24
  go_wp2
  refine bodyPost_end (results_none rfl _ _ _) rfl ⟨rfl, H2, HO⟩
theorem new_ok (L : Nat) (w : World) (h1 : 1 ≤ L) (h2 : L ≤ 256) :
    Calls Try.prog 31 #[.int .i64 L] w fun e w' => ∃ b g : Nat, e = .returned (.tuple #[.pointer (some ⟨b, 0, none⟩), .int .i64 0]) ∧ Lk (w.heap.size ≤ b) ∧ Lk (w.heap.size ≤ g) ∧ Lk (PN w' b g (8 * L) (8 * L) (List.replicate (8 * L) 0) true) ∧ Lk (Below w.heap.size w w') := by
  obtain ⟨i0, hi, hz0, hz1, hz2⟩ := info_parts u64info
  obtain ⟨n, hn⟩ : ∃ n, 8 * L = n := ⟨_, rfl⟩
  have hm : (L : Int) * 8 = n := by omega
  go_enter Try.func31, Try.ntmps31
  go_wp2_with (first
    | (at_make; refine wpList_make_full _ rfl _ _ 49 rfl w.heap.size 33 i0 (.int .u64 0) 1 Try.underlying49 hi hz0 hz1 .i64 .i64 _ _ n rfl rfl (by first | rfl | exact hm) (by first | rfl | exact hm) ?b2 ?b3 (Nat.le_refl _) ?_))
  case b2 => rw [hz2]; omega
  case b3 => unfold maxLen; omega
  intro w1 hown hgrow
  have HR : Lk (Row w1 w.heap.size n n (List.replicate n 0)) := ⟨Row.made (by simpa [Value.cells] using hown)⟩
  have HW : Lk (w.grownBy w1 none) := ⟨hgrow⟩
  have hsz : w.heap.size < w1.heap.size := HR.out.size
  clear hown hgrow
  generalize hgw : w.heap.size = g at *
  go_wp2
  go_ret2
  refine ⟨w1.heap.size, g, rfl, ⟨by omega⟩, ⟨by omega⟩, ?_, ?_⟩
  · subst hn
    exact ⟨⟨heap_alloc_new _ _, HR.out.keep (Below.heap_alloc _ _ _ hsz), by omega⟩⟩
  · rw [hgw]; exact ⟨((Below.refl _ w).grown HW.out (Nat.le_of_eq hgw.symm) (fun k hk => by cases hk)).alloc (by omega) _⟩
theorem new_no (x : Int) (w : World) (h : x < 1 ∨ 256 < x) :
    Calls Try.prog 31 #[.int .i64 x] w fun e w' => e = .returned (.tuple #[.pointer none, .int .i64 2]) ∧ w = w' := by
  go_enter Try.func31, Try.ntmps31
  by_cases h1 : x < 1
  · go_wp2
    go_ret2
    exact ⟨rfl, rfl⟩
  · have h2 : 256 < x := by omega
    go_wp2
    go_ret2
    exact ⟨rfl, rfl⟩

def canBack (up : Bool) (x : Nat) : Bool := !up && decide (x < 31)
def backW (up : Bool) (ws : List Nat) : List Nat := if canBack up (ws.getD 1 0) = true then ws.set 1 (ws.getD 1 0 + 1) else ws
theorem back_any (b g n cap : Nat) (ws : List Nat) (up : Bool) (w : World) (HN : Lk (PN w b g n cap ws up)) (h2 : 2 ≤ n) (hn : n ≤ 4294967296) :
    Calls Try.prog 25 #[.pointer (some ⟨b, 0, none⟩)] w fun e w' => e = .returned (.bool (canBack up (ws.getD 1 0))) ∧ Lk (PN w' b g n cap (backW up ws) (up || canBack up (ws.getD 1 0))) ∧ Lk (Only (fun k => k = b ∨ k = g) w w') := by
  have hc := HN.out.c0
  have hu := HN.out.c1
  cases up with
  | true =>
    go_enter Try.func25, Try.ntmps25
    go_wp2
    go_ret
    exact ⟨rfl, HN, ⟨Only.refl _ _⟩⟩
  | false =>
    have C := holds_any b g n cap 1 1 w hn hc (by omega) (by omega) (by omega) (by omega)
    rw [fits_iff.2 (by omega)] at C
    have C2 := boot_any b g n cap ws false w HN h2 hn
    have h1 := HN.out.row.cell (j := 1) (by omega)
    have hf := HN.out.row.free 1
    have hx := getD_lt HN.out.row.lt (show 1 < ws.length by have := HN.out.row.len; omega)
    unfold backW
    generalize hX : ws.getD 1 0 = x at *
    clear hX
    by_cases hb : x < 31
    · have e : canBack false x = true := by simp [canBack, hb]
      rw [e]
      have H2 : Lk (PN (w.setCell ⟨g, 1, none⟩ (.int .u64 ((x : Int) + 1))) b g n cap (ws.set 1 (x + 1)) false) := ⟨HN.out.set 1 (x + 1) (by omega)⟩
      have hu2 := H2.out.c1
      have hf2 := HN.out.f1 1
      have H3 : Lk (PN ((w.setCell ⟨g, 1, none⟩ (.int .u64 ((x : Int) + 1))).setCell ⟨b, 1, none⟩ (.bool true)) b g n cap (ws.set 1 (x + 1)) true) := ⟨H2.out.setUp true⟩
      have HO : Lk (Only (fun k => k = b ∨ k = g) w ((w.setCell ⟨g, 1, none⟩ (.int .u64 ((x : Int) + 1))).setCell ⟨b, 1, none⟩ (.bool true))) :=
        ⟨Only.setCell (S := fun k => k = b ∨ k = g) (p := ⟨b, 1, none⟩) (Only.setCell (S := fun k => k = b ∨ k = g) (p := ⟨g, 1, none⟩) (Only.refl _ w) (.inl (.inr rfl)) _) (.inl (.inl rfl)) _⟩
      go_enter Try.func25, Try.ntmps25
      go_wp2_with (first
        | (go_at_call 58; refine C.mono ?_; rintro e w' ⟨rfl, rfl⟩)
        | (go_at_call 59; refine C2.mono ?_; rintro e w' ⟨rfl, rfl⟩))
      go_ret
      exact ⟨rfl, H3, HO⟩
    · have e : canBack false x = false := by simp [canBack, hb]
      rw [e]
      go_enter Try.func25, Try.ntmps25
      go_wp2_with (first
        | (go_at_call 58; refine C.mono ?_; rintro e w' ⟨rfl, rfl⟩)
        | (go_at_call 59; refine C2.mono ?_; rintro e w' ⟨rfl, rfl⟩))
      go_ret
      exact ⟨rfl, HN, ⟨Only.refl _ _⟩⟩
end Go.Proofs.Ytacfmkmiikkppaa.Nb
namespace Go.Proofs.Ytacfmkmiikkppaa.Nc
open Go.ChangeShapes Go.WideShapes Go.ChangeAt Go.RowKit Ga Na Nb
set_option linter.unusedVariables false
set_option linter.unusedSimpArgs false
set_option maxRecDepth 10000

def casW (ws : List Nat) (j old new : Nat) : List Nat := if ws.getD j 0 = old then ws.set j new else ws
def addW (ws : List Nat) (j by_ : Nat) : List Nat := ws.set j ((ws.getD j 0 + by_) % 18446744073709551616)
theorem casW_len (ws : List Nat) (j old new : Nat) : (casW ws j old new).length = ws.length := by unfold casW; split <;> simp
theorem addW_len (ws : List Nat) (j by_ : Nat) : (addW ws j by_).length = ws.length := by simp [addW]

theorem cas_no (b g n cap : Nat) (ws : List Nat) (up : Bool) (a : Int) (x y : Nat) (w : World) (HN : Lk (PN w b g n cap ws up)) (hn : n ≤ 4294967296) (a0 : -9223372036854775808 ≤ a) (a1 : a ≤ 9223372036854775807) (hk : codeOf up n a 1 ≠ 0) :
    Calls Try.prog 87 #[.pointer (some ⟨b, 0, none⟩), .int .i64 a, .int .u64 x, .int .u64 y] w fun e w' => e = .returned (.tuple #[.int .u64 0, .int .i64 (codeOf up n a 1)]) ∧ w = w' := by
  have C := check_any b g n cap up a 1 w hn HN.out.c0 HN.out.c1 a0 a1 (by omega) (by omega)
  generalize codeOf up n a 1 = k at *
  go_enter Try.func87, Try.ntmps87
  go_wp2_with (first | (go_at_call 55; refine C.mono ?_; rintro e w' ⟨rfl, rfl⟩))
  go_ret2
  exact ⟨rfl, rfl⟩
theorem add_no (b g n cap : Nat) (ws : List Nat) (up : Bool) (a : Int) (x : Nat) (w : World) (HN : Lk (PN w b g n cap ws up)) (hn : n ≤ 4294967296) (a0 : -9223372036854775808 ≤ a) (a1 : a ≤ 9223372036854775807) (hk : codeOf up n a 1 ≠ 0) :
    Calls Try.prog 88 #[.pointer (some ⟨b, 0, none⟩), .int .i64 a, .int .u64 x] w fun e w' => e = .returned (.tuple #[.int .u64 0, .int .i64 (codeOf up n a 1)]) ∧ w = w' := by
  have C := check_any b g n cap up a 1 w hn HN.out.c0 HN.out.c1 a0 a1 (by omega) (by omega)
  generalize codeOf up n a 1 = k at *
  go_enter Try.func88, Try.ntmps88
  go_wp2_with (first | (go_at_call 55; refine C.mono ?_; rintro e w' ⟨rfl, rfl⟩))
  go_ret2
  exact ⟨rfl, rfl⟩
theorem read_no (b g n cap : Nat) (ws : List Nat) (up : Bool) (a c : Int) (w : World) (HN : Lk (PN w b g n cap ws up)) (hn : n ≤ 4294967296) (a0 : -9223372036854775808 ≤ a) (a1 : a ≤ 9223372036854775807) (c0 : -9223372036854775808 ≤ c) (c1 : c ≤ 9223372036854775807) (hk : codeOf up n a c ≠ 0) :
    Calls Try.prog 21 #[.pointer (some ⟨b, 0, none⟩), .int .i64 a, .int .i64 c] w fun e w' => e = .returned (.tuple #[.slice none 0 0, .int .i64 (codeOf up n a c)]) ∧ w = w' := by
  have C := check_any b g n cap up a c w hn HN.out.c0 HN.out.c1 a0 a1 c0 c1
  generalize codeOf up n a c = k at *
  go_enter Try.func21, Try.ntmps21
  go_wp2_with (first | (go_at_call 55; refine C.mono ?_; rintro e w' ⟨rfl, rfl⟩))
  go_ret2
  exact ⟨rfl, rfl⟩
theorem write_no (b g n cap : Nat) (ws : List Nat) (up : Bool) (a : Int) (A : Option Addr) (m c : Nat) (w : World) (HN : Lk (PN w b g n cap ws up)) (hn : n ≤ 4294967296) (a0 : -9223372036854775808 ≤ a) (a1 : a ≤ 9223372036854775807) (hm : m ≤ 9223372036854775807) (hk : codeOf up n a m ≠ 0) :
    Calls Try.prog 33 #[.pointer (some ⟨b, 0, none⟩), .int .i64 a, .slice A m c] w fun e w' => e = .returned (.int .i64 (codeOf up n a m)) ∧ w = w' := by
  have C := check_any b g n cap up a m w hn HN.out.c0 HN.out.c1 a0 a1 (by omega) (by omega)
  generalize codeOf up n a m = k at *
  go_enter Try.func33, Try.ntmps33
  go_wp2_with (first | (go_at_call 55; refine C.mono ?_; rintro e w' ⟨rfl, rfl⟩))
  go_ret
  exact ⟨rfl, rfl⟩

theorem code_ok {n j : Nat} {m : Int} (h1 : 1 ≤ m) (hj : j + m ≤ n) : codeOf true n j m = 0 := by
  unfold codeOf
  rw [if_pos (fits_iff.2 (by omega)), if_pos rfl]
theorem cas_ok (b g n cap : Nat) (ws : List Nat) (j : Nat) (x y : Nat) (w : World) (HN : Lk (PN w b g n cap ws true)) (hn : n ≤ 4294967296) (hj : j < n) (hx : x < 18446744073709551616) (hy : y < 18446744073709551616) :
    Calls Try.prog 87 #[.pointer (some ⟨b, 0, none⟩), .int .i64 j, .int .u64 x, .int .u64 y] w fun e w' => e = .returned (.tuple #[.int .u64 (ws.getD j 0 : Nat), .int .i64 0]) ∧ Lk (PN w' b g n cap (casW ws j x y) true) ∧ Lk (Only (fun k => k = b ∨ k = g) w w') := by
  have hc := HN.out.c0
  have C := check_any b g n cap true j 1 w hn hc HN.out.c1 (by omega) (by omega) (by omega) (by omega)
  rw [code_ok (by omega) (by omega)] at C
  have h1 := HN.out.row.cell hj
  have hf := HN.out.row.free j
  have hv := getD_lt HN.out.row.lt (show j < ws.length by have := HN.out.row.len; omega)
  unfold casW
  generalize ws.getD j 0 = v at *
  by_cases hvx : v = x
  · have H2 : Lk (PN (w.setCell ⟨g, j, none⟩ (.int .u64 (y : Int))) b g n cap (ws.set j y) true) := ⟨HN.out.set j y hy⟩
    have HO : Lk (Only (fun k => k = b ∨ k = g) w (w.setCell ⟨g, j, none⟩ (.int .u64 (y : Int)))) := ⟨Only.setCell (S := fun k => k = b ∨ k = g) (p := ⟨g, j, none⟩) (Only.refl _ w) (.inl (.inr rfl)) _⟩
    rw [if_pos hvx]
    subst hvx
    go_enter Try.func87, Try.ntmps87
    go_wp2_with (first | (go_at_call 55; refine C.mono ?_; rintro e w' ⟨rfl, rfl⟩))
    go_ret2
    exact ⟨rfl, H2, HO⟩
  · rw [if_neg hvx]
    go_enter Try.func87, Try.ntmps87
    go_wp2_with (first | (go_at_call 55; refine C.mono ?_; rintro e w' ⟨rfl, rfl⟩))
    go_ret2
    exact ⟨rfl, HN, ⟨Only.refl _ _⟩⟩
theorem add_ok (b g n cap : Nat) (ws : List Nat) (j : Nat) (x : Nat) (w : World) (HN : Lk (PN w b g n cap ws true)) (hn : n ≤ 4294967296) (hj : j < n) (hx : x < 18446744073709551616) :
    Calls Try.prog 88 #[.pointer (some ⟨b, 0, none⟩), .int .i64 j, .int .u64 x] w fun e w' => e = .returned (.tuple #[.int .u64 (ws.getD j 0 : Nat), .int .i64 0]) ∧ Lk (PN w' b g n cap (addW ws j x) true) ∧ Lk (Only (fun k => k = b ∨ k = g) w w') := by
  have hc := HN.out.c0
  have C := check_any b g n cap true j 1 w hn hc HN.out.c1 (by omega) (by omega) (by omega) (by omega)
  rw [code_ok (by omega) (by omega)] at C
  have h1 := HN.out.row.cell hj
  have hf := HN.out.row.free j
  have hv := getD_lt HN.out.row.lt (show j < ws.length by have := HN.out.row.len; omega)
  unfold addW
  generalize ws.getD j 0 = v at *
  have H2 : Lk (PN (w.setCell ⟨g, j, none⟩ (.int .u64 (((v : Int) + x) % 18446744073709551616))) b g n cap (ws.set j ((v + x) % 18446744073709551616)) true) := ⟨by
    have := HN.out.set j ((v + x) % 18446744073709551616) (Nat.mod_lt _ (by decide))
    rwa [show (((v + x) % 18446744073709551616 : Nat) : Int) = ((v : Int) + x) % 18446744073709551616 from by omega] at this⟩
  have HO : Lk (Only (fun k => k = b ∨ k = g) w (w.setCell ⟨g, j, none⟩ (.int .u64 (((v : Int) + x) % 18446744073709551616)))) := ⟨Only.setCell (S := fun k => k = b ∨ k = g) (p := ⟨g, j, none⟩) (Only.refl _ w) (.inl (.inr rfl)) _⟩
  go_enter Try.func88, Try.ntmps88
  go_wp2_with (first | (go_at_call 55; refine C.mono ?_; rintro e w' ⟨rfl, rfl⟩))
  go_ret2
  exact ⟨rfl, H2, HO⟩
theorem slice_ne_nil (ad : Addr) (n c : Nat) (w : World) : (binOp BinOp.eql 49 (.slice (some ad) n c) (.slice none 0 0)).run Try.prog w = .ok (.bool false) w := by kernel_rfl
theorem clone_ok (ad : Addr) (l : List Nat) (n c : Nat) (w : World) (hn : l.length = n) (h1 : 1 ≤ n) (h2 : n ≤ 4294967296) (hb : Lk (∀ x ∈ l, x < 18446744073709551616)) (hc : Lk (∀ j, j < n → w.cell? (ad.add j) = some (.int .u64 ((l.getD j 0 : Nat) : Int)))) :
    Calls Try.prog 56 #[.slice (some ad) n c] w fun e w' => ∃ g cap : Nat, e = .returned (.slice (some ⟨g, 0, none⟩) n cap) ∧ Lk (w.heap.size ≤ g) ∧ Lk (Row w' g n cap l) ∧ Lk (Below w.heap.size w w') := by
  obtain ⟨i0, hi, hz0, hz1, hz2⟩ := info_parts u64info
  go_enter Try.func56, Try.ntmps56
  have hnil := slice_ne_nil ad n c
  have HC : Lk (∀ j u, (l.map u64v)[j]? = some u → (w.alloc (.cells #[] 33)).cell? (ad.add j) = some u) := ⟨fun j u hj => by
    rw [List.getElem?_map] at hj
    have hjl : j < l.length := by
      by_cases h : j < l.length
      · exact h
      · rw [List.getElem?_eq_none (by omega)] at hj; simp at hj
    rw [List.getElem?_eq_getElem hjl] at hj
    obtain rfl : u64v l[j] = u := by simpa using hj
    have hcj := hc.out j (by omega)
    rw [World.cell?_of_block (w := w) (Below.heap_alloc w _ _ (block_lt_of_cell hcj)), hcj]
    simp [hjl, u64v]⟩
  have HO : Lk (∀ u ∈ l.map u64v, u.oneCell' = true) := ⟨fun u hu => by
    rw [List.mem_map] at hu
    obtain ⟨x, _, rfl⟩ := hu
    rfl⟩
  have HL : Lk (w.alloc (.cells #[] 33) |>.ownsRow w.heap.size 33 1 (.slice (some ⟨w.heap.size, 0, none⟩) 0 0) 0 []) := ⟨World.ownsRow_lit w #[] 0 (Nat.le_refl _) (by decide) rfl⟩
  go_wp2_with (first
    | (at_builtin; refine wpList_append_own _ rfl _ _ 49 rfl w.heap.size 33 i0 (.int .u64 0) 1 8 Try.underlying49 hi hz0 hz1 hz2 rfl (by decide) _ _ _ rfl HL.out ad n c (l.map u64v) rfl ?c0 HC.out HO.out ?c3 ?c4 ?c5 ?_))
  case c0 => simp [hn]
  case c3 => unfold maxLen; omega
  case c4 => omega
  case c5 => simp
  intro v1 w1 hown hg hnil2
  obtain ⟨g1, cap1, rfl⟩ : ∃ g1 cap1, v1 = .slice (some ⟨g1, 0, none⟩) n cap1 := by
    rcases hown.2 with ⟨rfl, h0⟩ | ⟨g', cap', cur, h', _⟩
    · omega
    · exact ⟨g', cap', h'⟩
  have HR : Lk (Row w1 g1 n cap1 l) := ⟨⟨owns_base (by simpa using hown), hn, hb.out⟩⟩
  have HG : Lk (w.heap.size ≤ g1) := ⟨(hown.lt g1 rfl).1⟩
  have HW : Lk (Below w.heap.size w w1) := ⟨((Below.refl _ w).alloc (Nat.le_refl _) _).grown hg (by simp) (fun k hk => by cases hk; exact Nat.le_refl _)⟩
  clear hown hg hnil2
  go_wp2
  go_ret
  exact ⟨g1, cap1, rfl, HG, HR, HW⟩
theorem under_words : Try.prog.underlying 49 = some (.slice (Try.prog.elem 49)) := by kernel_rfl
theorem size_word (w : World) : (sizeOf (Try.prog.elem 49)).run Try.prog w = .ok 1 w := by kernel_rfl
theorem slice_words (g n cap j c : Nat) (w : World) (h1 : 1 ≤ c) (h2 : j + c ≤ n) (h3 : n ≤ cap) (h4 : cap ≤ 9223372036854775807) :
    (Instr.sliceAt 49 (.slice (some ⟨g, 0, none⟩) n cap) (some (.int .i64 (j : Int))) (some (.int .i64 ((j : Int) + c))) none).run Try.prog w = .ok (.slice (some ⟨g, j, none⟩) c (cap - j)) w := by
  rw [run_sliceAt_slice _ _ _ _ _ _ under_words, run_slice_lh _ _ _ _ _ under_words _ _ _ _ (by omega) (by omega) (by omega), size_word]
  have e : (if cap = j then (some ⟨g, 0, none⟩ : Option Addr) else (some (⟨g, 0, none⟩ : Addr)).map (·.add (j * 1))) = some ⟨g, j, none⟩ := by
    rw [if_neg (by omega)]
    simp [add_zero_]
  have e2 : ((j : Int) + c).toNat - j = c := by omega
  simp only [Result.andThen, sliced, e, e2, Int.toNat_natCast]
theorem read_ok (b g n cap : Nat) (ws : List Nat) (j c : Nat) (w : World) (HN : Lk (PN w b g n cap ws true)) (hn : n ≤ 4294967296) (h1 : 1 ≤ c) (hj : j + c ≤ n) :
    Calls Try.prog 21 #[.pointer (some ⟨b, 0, none⟩), .int .i64 j, .int .i64 c] w fun e w' => ∃ g1 cap1 : Nat, e = .returned (.tuple #[.slice (some ⟨g1, 0, none⟩) c cap1, .int .i64 0]) ∧ Lk (w.heap.size ≤ g1) ∧ Lk (Row w' g1 c cap1 ((ws.drop j).take c)) ∧ Lk (Below w.heap.size w w') := by
  have hc := HN.out.c0
  have C := check_any b g n cap true j c w hn hc HN.out.c1 (by omega) (by omega) (by omega) (by omega)
  rw [code_ok (by omega) (by omega)] at C
  have hcap := HN.out.row.cap_
  have C2 := clone_ok ⟨g, j, none⟩ ((ws.drop j).take c) c (cap - j) w (cut_len (by have := HN.out.row.len; omega)) h1 (by omega) ⟨cut_lt HN.out.row.lt j c⟩ ⟨fun i hi => by
    rw [add_at, HN.out.row.cell (show j + i < n by omega)]
    rw [List.getD_eq_getElem?_getD, List.getD_eq_getElem?_getD, List.getElem?_take, if_pos hi, List.getElem?_drop]⟩
  have hs := slice_words g n cap j c w h1 hj hcap.1 hcap.2
  go_enter Try.func21, Try.ntmps21
  go_wp2_with (first
    | (go_at_call 55; refine C.mono ?_; rintro e w' ⟨rfl, rfl⟩)
    | (go_at_call 56; refine C2.mono ?_; rintro e w' ⟨g1, cap1, rfl, HG, HR, HB⟩))
  go_ret2
  exact ⟨g1, cap1, rfl, HG, HR, HB⟩
end Go.Proofs.Ytacfmkmiikkppaa.Nc

/-
  Contracts of package memnode: Cas, Add, Clone, Read.
-/
import Derived.Test.YtpehhldfegjajaaNb
namespace Go.Proofs.Ytpehhldfegjajaa.Nc
open Go.ChangeShapes Go.WideShapes Go.ChangeAt Go.RowKit Ga Na Nb
set_option linter.unusedVariables false
set_option linter.unusedSimpArgs false
set_option maxRecDepth 10000

def casW (ws : List Nat) (j old new : Nat) : List Nat := if ws.getD j 0 = old then ws.set j new else ws
def addW (ws : List Nat) (j by_ : Nat) : List Nat := ws.set j ((ws.getD j 0 + by_) % 18446744073709551616)
theorem casW_len (ws : List Nat) (j old new : Nat) : (casW ws j old new).length = ws.length := by unfold casW; split <;> simp
theorem addW_len (ws : List Nat) (j by_ : Nat) : (addW ws j by_).length = ws.length := by simp [addW]

theorem cas_no (b g n cap : Nat) (ws : List Nat) (up : Bool) (a : Int) (x y : Nat) (w : World) (HN : Lk (PN w b g n cap ws up)) (hn : n ≤ 4294967296) (a0 : -9223372036854775808 ≤ a) (a1 : a ≤ 9223372036854775807) (hk : codeOf up n a 1 ≠ 0) :
    Calls Try.prog 89 #[.pointer (some ⟨b, 0, none⟩), .int .i64 a, .int .u64 x, .int .u64 y] w fun e w' => e = .returned (.tuple #[.int .u64 0, .int .i64 (codeOf up n a 1)]) ∧ w = w' := by
  have C := check_any b g n cap up a 1 w hn HN.out.c0 HN.out.c1 a0 a1 (by omega) (by omega)
  generalize codeOf up n a 1 = k at *
  go_enter Try.func89, Try.ntmps89
  go_wp2_with (first | (go_at_call 96; refine C.mono ?_; rintro e w' ⟨rfl, rfl⟩))
  go_ret2
  exact ⟨rfl, rfl⟩
theorem add_no (b g n cap : Nat) (ws : List Nat) (up : Bool) (a : Int) (x : Nat) (w : World) (HN : Lk (PN w b g n cap ws up)) (hn : n ≤ 4294967296) (a0 : -9223372036854775808 ≤ a) (a1 : a ≤ 9223372036854775807) (hk : codeOf up n a 1 ≠ 0) :
    Calls Try.prog 90 #[.pointer (some ⟨b, 0, none⟩), .int .i64 a, .int .u64 x] w fun e w' => e = .returned (.tuple #[.int .u64 0, .int .i64 (codeOf up n a 1)]) ∧ w = w' := by
  have C := check_any b g n cap up a 1 w hn HN.out.c0 HN.out.c1 a0 a1 (by omega) (by omega)
  generalize codeOf up n a 1 = k at *
  go_enter Try.func90, Try.ntmps90
  go_wp2_with (first | (go_at_call 96; refine C.mono ?_; rintro e w' ⟨rfl, rfl⟩))
  go_ret2
  exact ⟨rfl, rfl⟩
theorem read_no (b g n cap : Nat) (ws : List Nat) (up : Bool) (a c : Int) (w : World) (HN : Lk (PN w b g n cap ws up)) (hn : n ≤ 4294967296) (a0 : -9223372036854775808 ≤ a) (a1 : a ≤ 9223372036854775807) (c0 : -9223372036854775808 ≤ c) (c1 : c ≤ 9223372036854775807) (hk : codeOf up n a c ≠ 0) :
    Calls Try.prog 87 #[.pointer (some ⟨b, 0, none⟩), .int .i64 a, .int .i64 c] w fun e w' => e = .returned (.tuple #[.slice none 0 0, .int .i64 (codeOf up n a c)]) ∧ w = w' := by
  have C := check_any b g n cap up a c w hn HN.out.c0 HN.out.c1 a0 a1 c0 c1
  generalize codeOf up n a c = k at *
  go_enter Try.func87, Try.ntmps87
  go_wp2_with (first | (go_at_call 96; refine C.mono ?_; rintro e w' ⟨rfl, rfl⟩))
  go_ret2
  exact ⟨rfl, rfl⟩
theorem write_no (b g n cap : Nat) (ws : List Nat) (up : Bool) (a : Int) (A : Option Addr) (m c : Nat) (w : World) (HN : Lk (PN w b g n cap ws up)) (hn : n ≤ 4294967296) (a0 : -9223372036854775808 ≤ a) (a1 : a ≤ 9223372036854775807) (hm : m ≤ 9223372036854775807) (hk : codeOf up n a m ≠ 0) :
    Calls Try.prog 88 #[.pointer (some ⟨b, 0, none⟩), .int .i64 a, .slice A m c] w fun e w' => e = .returned (.int .i64 (codeOf up n a m)) ∧ w = w' := by
  have C := check_any b g n cap up a m w hn HN.out.c0 HN.out.c1 a0 a1 (by omega) (by omega)
  generalize codeOf up n a m = k at *
  go_enter Try.func88, Try.ntmps88
  go_wp2_with (first | (go_at_call 96; refine C.mono ?_; rintro e w' ⟨rfl, rfl⟩))
  go_ret
  exact ⟨rfl, rfl⟩

theorem code_ok {n j : Nat} {m : Int} (h1 : 1 ≤ m) (hj : j + m ≤ n) : codeOf true n j m = 0 := by
  unfold codeOf
  rw [if_pos (fits_iff.2 (by omega)), if_pos rfl]
theorem cas_ok (b g n cap : Nat) (ws : List Nat) (j : Nat) (x y : Nat) (w : World) (HN : Lk (PN w b g n cap ws true)) (hn : n ≤ 4294967296) (hj : j < n) (hx : x < 18446744073709551616) (hy : y < 18446744073709551616) :
    Calls Try.prog 89 #[.pointer (some ⟨b, 0, none⟩), .int .i64 j, .int .u64 x, .int .u64 y] w fun e w' => e = .returned (.tuple #[.int .u64 (ws.getD j 0 : Nat), .int .i64 0]) ∧ Lk (PN w' b g n cap (casW ws j x y) true) ∧ Lk (Only (fun k => k = b ∨ k = g) w w') := by
  have hc := HN.out.c0
  have C := check_any b g n cap true j 1 w hn hc HN.out.c1 (by omega) (by omega) (by omega) (by omega)
  rw [code_ok (by omega) (by omega)] at C
  have h1 := HN.out.row.cell hj
  have hf := HN.out.row.free j
  have hv := getD_lt HN.out.row.lt (show j < ws.length by have := HN.out.row.len; omega)
  unfold casW
  generalize ws.getD j 0 = v at *
  by_cases hvx : v = x
  · have H2 : Lk (PN (w.setCell ⟨g, j, none⟩ (.int .u64 (y : Int))) b g n cap (ws.set j y) true) := ⟨HN.out.set j y hy⟩
    have HO : Lk (Only (fun k => k = b ∨ k = g) w (w.setCell ⟨g, j, none⟩ (.int .u64 (y : Int)))) := ⟨Only.setCell (S := fun k => k = b ∨ k = g) (p := ⟨g, j, none⟩) (Only.refl _ w) (.inl (.inr rfl)) _⟩
    rw [if_pos hvx]
    subst hvx
    go_enter Try.func89, Try.ntmps89
    go_wp2_with (first | (go_at_call 96; refine C.mono ?_; rintro e w' ⟨rfl, rfl⟩))
    go_ret2
    exact ⟨rfl, H2, HO⟩
  · rw [if_neg hvx]
    go_enter Try.func89, Try.ntmps89
    go_wp2_with (first | (go_at_call 96; refine C.mono ?_; rintro e w' ⟨rfl, rfl⟩))
    go_ret2
    exact ⟨rfl, HN, ⟨Only.refl _ _⟩⟩
theorem add_ok (b g n cap : Nat) (ws : List Nat) (j : Nat) (x : Nat) (w : World) (HN : Lk (PN w b g n cap ws true)) (hn : n ≤ 4294967296) (hj : j < n) (hx : x < 18446744073709551616) :
    Calls Try.prog 90 #[.pointer (some ⟨b, 0, none⟩), .int .i64 j, .int .u64 x] w fun e w' => e = .returned (.tuple #[.int .u64 (ws.getD j 0 : Nat), .int .i64 0]) ∧ Lk (PN w' b g n cap (addW ws j x) true) ∧ Lk (Only (fun k => k = b ∨ k = g) w w') := by
  have hc := HN.out.c0
  have C := check_any b g n cap true j 1 w hn hc HN.out.c1 (by omega) (by omega) (by omega) (by omega)
  rw [code_ok (by omega) (by omega)] at C
  have h1 := HN.out.row.cell hj
  have hf := HN.out.row.free j
  have hv := getD_lt HN.out.row.lt (show j < ws.length by have := HN.out.row.len; omega)
  unfold addW
  generalize ws.getD j 0 = v at *
  have H2 : Lk (PN (w.setCell ⟨g, j, none⟩ (.int .u64 (((v : Int) + x) % 18446744073709551616))) b g n cap (ws.set j ((v + x) % 18446744073709551616)) true) := ⟨by
    have := HN.out.set j ((v + x) % 18446744073709551616) (Nat.mod_lt _ (by decide))
    rwa [show (((v + x) % 18446744073709551616 : Nat) : Int) = ((v : Int) + x) % 18446744073709551616 from by omega] at this⟩
  have HO : Lk (Only (fun k => k = b ∨ k = g) w (w.setCell ⟨g, j, none⟩ (.int .u64 (((v : Int) + x) % 18446744073709551616)))) := ⟨Only.setCell (S := fun k => k = b ∨ k = g) (p := ⟨g, j, none⟩) (Only.refl _ w) (.inl (.inr rfl)) _⟩
  go_enter Try.func90, Try.ntmps90
  go_wp2_with (first | (go_at_call 96; refine C.mono ?_; rintro e w' ⟨rfl, rfl⟩))
  go_ret2
  exact ⟨rfl, H2, HO⟩
theorem slice_ne_nil (ad : Addr) (n c : Nat) (w : World) : (binOp BinOp.eql 54 (.slice (some ad) n c) (.slice none 0 0)).run Try.prog w = .ok (.bool false) w := by kernel_rfl
theorem clone_ok (ad : Addr) (l : List Nat) (n c : Nat) (w : World) (hn : l.length = n) (h1 : 1 ≤ n) (h2 : n ≤ 4294967296) (hb : Lk (∀ x ∈ l, x < 18446744073709551616)) (hc : Lk (∀ j, j < n → w.cell? (ad.add j) = some (.int .u64 ((l.getD j 0 : Nat) : Int)))) :
    Calls Try.prog 81 #[.slice (some ad) n c] w fun e w' => ∃ g cap : Nat, e = .returned (.slice (some ⟨g, 0, none⟩) n cap) ∧ Lk (w.heap.size ≤ g) ∧ Lk (Row w' g n cap l) ∧ Lk (Below w.heap.size w w') := by
  obtain ⟨i0, hi, hz0, hz1, hz2⟩ := info_parts u64info
  go_enter Try.func81, Try.ntmps81
  have hnil := slice_ne_nil ad n c
  have HC : Lk (∀ j u, (l.map u64v)[j]? = some u → (w.alloc (.cells #[] 53)).cell? (ad.add j) = some u) := ⟨fun j u hj => by
    rw [List.getElem?_map] at hj
    have hjl : j < l.length := by
      by_cases h : j < l.length
      · exact h
      · rw [List.getElem?_eq_none (by omega)] at hj; simp at hj
    rw [List.getElem?_eq_getElem hjl] at hj
    obtain rfl : u64v l[j] = u := by simpa using hj
    have hcj := hc.out j (by omega)
    rw [World.cell?_of_block (w := w) (Below.heap_alloc w _ _ (block_lt_of_cell hcj)), hcj]
    simp [hjl, u64v]⟩
  have HO : Lk (∀ u ∈ l.map u64v, u.oneCell' = true) := ⟨fun u hu => by
    rw [List.mem_map] at hu
    obtain ⟨x, _, rfl⟩ := hu
    rfl⟩
  have HL : Lk (w.alloc (.cells #[] 53) |>.ownsRow w.heap.size 53 1 (.slice (some ⟨w.heap.size, 0, none⟩) 0 0) 0 []) := ⟨World.ownsRow_lit w #[] 0 (Nat.le_refl _) (by decide) rfl⟩
  go_wp2_with (first
    | (at_builtin; refine wpList_append_own _ rfl _ _ 54 rfl w.heap.size 53 i0 (.int .u64 0) 1 8 Try.underlying54 hi hz0 hz1 hz2 rfl (by decide) _ _ _ rfl HL.out ad n c (l.map u64v) rfl ?c0 HC.out HO.out ?c3 ?c4 ?c5 ?_))
  case c0 => simp [hn]
  case c3 => unfold maxLen; omega
  case c4 => omega
  case c5 => simp
  intro v1 w1 hown hg hnil2
  obtain ⟨g1, cap1, rfl⟩ : ∃ g1 cap1, v1 = .slice (some ⟨g1, 0, none⟩) n cap1 := by
    rcases hown.2 with ⟨rfl, h0⟩ | ⟨g', cap', cur, h', _⟩
    · omega
    · exact ⟨g', cap', h'⟩
  have HR : Lk (Row w1 g1 n cap1 l) := ⟨⟨owns_base (by simpa using hown), hn, hb.out⟩⟩
  have HG : Lk (w.heap.size ≤ g1) := ⟨(hown.lt g1 rfl).1⟩
  have HW : Lk (Below w.heap.size w w1) := ⟨((Below.refl _ w).alloc (Nat.le_refl _) _).grown hg (by simp) (fun k hk => by cases hk; exact Nat.le_refl _)⟩
  clear hown hg hnil2
  go_wp2
  go_ret
  exact ⟨g1, cap1, rfl, HG, HR, HW⟩
theorem under_words : Try.prog.underlying 54 = some (.slice (Try.prog.elem 54)) := by kernel_rfl
theorem size_word (w : World) : (sizeOf (Try.prog.elem 54)).run Try.prog w = .ok 1 w := by kernel_rfl
theorem slice_words (g n cap j c : Nat) (w : World) (h1 : 1 ≤ c) (h2 : j + c ≤ n) (h3 : n ≤ cap) (h4 : cap ≤ 9223372036854775807) :
    (Instr.sliceAt 54 (.slice (some ⟨g, 0, none⟩) n cap) (some (.int .i64 (j : Int))) (some (.int .i64 ((j : Int) + c))) none).run Try.prog w = .ok (.slice (some ⟨g, j, none⟩) c (cap - j)) w := by
  rw [run_sliceAt_slice _ _ _ _ _ _ under_words, run_slice_lh _ _ _ _ _ under_words _ _ _ _ (by omega) (by omega) (by omega), size_word]
  have e : (if cap = j then (some ⟨g, 0, none⟩ : Option Addr) else (some (⟨g, 0, none⟩ : Addr)).map (·.add (j * 1))) = some ⟨g, j, none⟩ := by
    rw [if_neg (by omega)]
    simp [add_zero_]
  have e2 : ((j : Int) + c).toNat - j = c := by omega
  simp only [Result.andThen, sliced, e, e2, Int.toNat_natCast]
theorem read_ok (b g n cap : Nat) (ws : List Nat) (j c : Nat) (w : World) (HN : Lk (PN w b g n cap ws true)) (hn : n ≤ 4294967296) (h1 : 1 ≤ c) (hj : j + c ≤ n) :
    Calls Try.prog 87 #[.pointer (some ⟨b, 0, none⟩), .int .i64 j, .int .i64 c] w fun e w' => ∃ g1 cap1 : Nat, e = .returned (.tuple #[.slice (some ⟨g1, 0, none⟩) c cap1, .int .i64 0]) ∧ Lk (w.heap.size ≤ g1) ∧ Lk (Row w' g1 c cap1 ((ws.drop j).take c)) ∧ Lk (Below w.heap.size w w') := by
  have hc := HN.out.c0
  have C := check_any b g n cap true j c w hn hc HN.out.c1 (by omega) (by omega) (by omega) (by omega)
  rw [code_ok (by omega) (by omega)] at C
  have hcap := HN.out.row.cap_
  have C2 := clone_ok ⟨g, j, none⟩ ((ws.drop j).take c) c (cap - j) w (cut_len (by have := HN.out.row.len; omega)) h1 (by omega) ⟨cut_lt HN.out.row.lt j c⟩ ⟨fun i hi => by
    rw [add_at, HN.out.row.cell (show j + i < n by omega)]
    rw [List.getD_eq_getElem?_getD, List.getD_eq_getElem?_getD, List.getElem?_take, if_pos hi, List.getElem?_drop]⟩
  have hs := slice_words g n cap j c w h1 hj hcap.1 hcap.2
  go_enter Try.func87, Try.ntmps87
  go_wp2_with (first
    | (go_at_call 96; refine C.mono ?_; rintro e w' ⟨rfl, rfl⟩)
    | (go_at_call 81; refine C2.mono ?_; rintro e w' ⟨g1, cap1, rfl, HG, HR, HB⟩))
  go_ret2
  exact ⟨g1, cap1, rfl, HG, HR, HB⟩
end Go.Proofs.Ytpehhldfegjajaa.Nc

/-
  Contracts of Pick, and small lemmas on cut slices.
-/
import Derived.Test.YtfnmgehkalikfaaPf
namespace Go.Proofs.Ytfnmgehkalikfaa.Pg
open Go.ChangeShapes Go.WideShapes Go.ChangeAt Go.RowKit Ma Pa Pb Pc Pd Pe Pf
set_option linter.unusedVariables false
set_option linter.unusedSimpArgs false

theorem pick_num (n k : Int) (h : 1 ≤ k) (k1 : k ≤ 4294967296) : (wrap64 (n.tmod k + k)).tmod k = n % k := by
  have hm := Int.emod_nonneg n (show k ≠ 0 by omega)
  have hl := Int.emod_lt_of_pos n (show 0 < k by omega)
  have hk : (k.natAbs : Int) = k := by omega
  have ht : n.tmod k = n % k ∨ n.tmod k = n % k - k := by
    rw [Int.tmod_eq_emod]
    split
    · left; omega
    · right; omega
  generalize hmm : n % k = m at *
  rcases ht with ht | ht
  · rw [ht, show wrap64 (m + k) = m + k from by unfold wrap64; omega, Int.tmod_eq_emod_of_nonneg (by omega), Int.add_emod_right, ← hmm, Int.emod_emod]
  · rw [ht, show wrap64 (m - k + k) = m from by unfold wrap64; omega, Int.tmod_eq_emod_of_nonneg (by omega), ← hmm, Int.emod_emod]
/-- A number below k is returned, and nothing has changed. -/
def SomeBelow (k : Int) (w : World) (e : Ending) (w' : World) : Prop := ∃ m : Nat, (m : Int) < k ∧ e = .returned (.int .i64 m) ∧ w = w'
theorem pick_any (n k : Int) (w : World) (h : 1 ≤ k) (k1 : k ≤ 4294967296) (n0 : -9223372036854775808 ≤ n) (n1 : n ≤ 9223372036854775807) :
    Calls Try.prog 13 #[.int .i64 n, .int .i64 k] w (SomeBelow k w) := by
  have hm := Int.emod_nonneg n (show k ≠ 0 by omega)
  have hl := Int.emod_lt_of_pos n (show 0 < k by omega)
  have H : Hid ((wrap64 (n.tmod k + k)).tmod k = n % k) := pick_num n k h k1
  go_enter Try.func13, Try.ntmps13
  go_wp2
  go_ret
  refine ⟨(n % k).toNat, by omega, ret_int ?_, rfl⟩
  simp
  rw [H.out]; omega

theorem Lies.cut {k : IntKind} {w : World} {B : Nat} {A : Option Addr} {l : List Nat} (h : Lies k w B A l) {i n cap : Nat} (hi : i + n ≤ l.length) (hc : l.length ≤ cap) :
    Lies k w B (if cap = i then A else A.map (·.add i)) ((l.drop i).take n) := by
  intro hn
  have hlen : ((l.drop i).take n).length = n := by simp; omega
  obtain ⟨ad, rfl, hb, hcell⟩ := h (by omega)
  rw [if_neg (by omega)]
  refine ⟨ad.add i, rfl, by rw [block_of_add]; exact hb, fun j hj => ?_⟩
  rw [add_of_add, hcell (i + j) (by omega)]
  have : (List.take n (List.drop i l)).getD j 0 = l.getD (i + j) 0 := by
    rw [List.getD_eq_getElem?_getD, List.getD_eq_getElem?_getD, List.getElem?_take, if_pos (by omega), List.getElem?_drop]
  rw [this]
theorem cut_lt {l : List Nat} {m : Nat} (h : ∀ x ∈ l, x < m) (i n : Nat) : ∀ x ∈ (l.drop i).take n, x < m := fun x hx => h x (List.mem_of_mem_drop (List.mem_of_mem_take hx))
theorem cut_len {l : List Nat} {i n : Nat} (h : i + n ≤ l.length) : ((l.drop i).take n).length = n := by simp; omega
theorem cut_join {l : List Nat} {i n : Nat} (h : i + n ≤ l.length) : l.take i ++ (l.drop i).take n = l.take (i + n) := by
  rw [List.take_add]
theorem IsRow.at_ {w : World} {a : Option Addr} {len cap : Nat} {zs : List Int} (h : IsRow .i64 w a len cap zs) {i : Nat} (hi : i < len) :
    ∃ ad z, a = some ad ∧ ad.block < w.heap.size ∧ w.cell? (ad.add i) = some (.int .i64 z) ∧ -9223372036854775808 ≤ z ∧ z ≤ 9223372036854775807 := by
  rcases h with ⟨_, h1, _, _⟩ | ⟨x, rfl, h1, h2, h3, hc, hwf⟩
  · omega
  · have hiz : i < zs.length := by omega
    have hcell := hc i hiz
    refine ⟨x, zs.getD i 0, rfl, by have := block_lt_of_cell hcell; rwa [block_of_add] at this, hcell, ?_⟩
    have e : zs.getD i 0 = zs[i] := by simp [hiz]
    rw [e]
    exact bounds_i64 (hwf _ (List.getElem_mem _))
theorem crc_lt {l : List Nat} (h : ∀ x ∈ l, x < 256) : crc l < 18446744073709551616 := by rw [← ext_zero]; exact ext_lt (by decide) h
theorem extend_n (s : Nat) (A : Option Addr) (l : List Nat) (n c : Nat) (w : World) (hn : l.length = n) (hs : s < 18446744073709551616) (hl : n ≤ 5000) (hb : Hid (∀ x ∈ l, x < 256)) (h : Hid (Lies .u8 w w.heap.size A l)) :
    Calls Try.prog 14 #[.int .u64 s, .slice A n c] w fun e w' => e = .returned (.int .u64 ((ext s l : Nat) : Int)) ∧ Below w.heap.size w w' := by
  subst hn; exact extend_any s A l c w hs hl hb h
theorem bytes_n (A : Option Addr) (l : List Nat) (n c : Nat) (w : World) (hn : l.length = n) (hl : n ≤ 5000) (hb : Hid (∀ x ∈ l, x < 256)) (h : Hid (Lies .u8 w w.heap.size A l)) :
    Calls Try.prog 9 #[.slice A n c] w fun e w' => e = .returned (.int .u64 ((crc l : Nat) : Int)) ∧ Below w.heap.size w w' := by
  subst hn; exact bytes_any A l c w hl hb h
end Go.Proofs.Ytfnmgehkalikfaa.Pg

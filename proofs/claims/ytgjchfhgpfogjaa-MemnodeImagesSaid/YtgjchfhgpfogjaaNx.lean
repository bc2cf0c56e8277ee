/-
  The library's slices.Backward over bytes, and package memnode's number, which ranges over it.
-/
import Derived.Test.YtgjchfhgpfogjaaNv
import Derived.RangeFuncNested
import Derived.RangeFuncBound
import Derived.RangeFuncCalls
import Derived.RangeFuncLeaves
import Derived.RangeFuncFrom
import Derived.RangeFuncBox
import Derived.Shelf.Abstract
import Derived.Shelf.RegionOpen
import Derived.OwnWalkIn
import Derived.TacticsInMore
import Derived.LoopNIn
import Derived.LoopIn
namespace Go.Proofs.Ytgjchfhgpfogjaa.Nx
open Go.ChangeShapes Go.WideShapes Go.ChangeAt Go.RowKit Go.Shelf Ga Ma Nv
set_option linter.unusedVariables false
set_option linter.unusedSimpArgs false
attribute [local go_sem] Oper.semAt_some

/-- What a round is handed: an index and a byte. -/
abbrev Ib := { p : Nat × Nat // p.2 < 256 }
def enc2 (x : Ib) : Array Value := #[.int .i64 ((x.1.1 : Nat) : Int), .int .u8 ((x.1.2 : Nat) : Int)]
/-- The last k bytes, the last one first, each with its place. -/
def from_ (l : List Nat) (hb : ∀ x ∈ l, x < 256) (k : Nat) : List Ib := (List.range k).map fun j => ⟨(l.length - 1 - j, l.getD (l.length - 1 - j) 0), by
  by_cases h : l.length - 1 - j < l.length
  · exact getD_lt hb h
  · rw [List.getD_eq_getElem?_getD, List.getElem?_eq_none (by omega)]; simp⟩
theorem from_succ (l : List Nat) (hb : ∀ x ∈ l, x < 256) (k : Nat) (x : Ib) (hx : x.1 = (l.length - 1 - k, l.getD (l.length - 1 - k) 0)) : from_ l hb (k + 1) = from_ l hb k ++ [x] := by
  unfold from_
  rw [List.range_succ, List.map_append]
  congr 1
  simp
  exact Subtype.ext hx.symm
theorem new_cell (w : World) (v : Value) (t : TypeId) : (w.alloc (.cells #[v] t)).cell? ⟨w.heap.size, 0, none⟩ = some v ∧ (w.alloc (.cells #[v] t)).frozen? ⟨w.heap.size, 0, none⟩ = false :=
  ⟨(cell_of_row _ _ 0 _ _ _ (heap_alloc_new w _)).trans rfl, frozen_of_row _ _ 0 _ _ (heap_alloc_new w _)⟩
theorem over_cell {w : World} {p : Addr} {v : Value} (o : Obj) (h : w.cell? p = some v) : (w.alloc o).cell? p = some v := (World.cell?_of_block (w := w) (Below.heap_alloc w o _ (block_lt_of_cell h))).trans h
theorem over_frozen {w : World} {p : Addr} {v : Value} (o : Obj) (h : w.cell? p = some v) (hf : w.frozen? p = false) : (w.alloc o).frozen? p = false := (World.frozen?_of_block (w := w) (Below.heap_alloc w o _ (block_lt_of_cell h))).trans hf
/-- What a round keeps: all that lay below n₀, and the cell of the boxed slice. -/
structure Kb (n₀ Bs : Nat) (A B : World) : Prop where
  low : Below n₀ A B
  box : ∀ v, A.cell? ⟨Bs, 0, none⟩ = some v → B.cell? ⟨Bs, 0, none⟩ = some v
theorem Kb.refl (n₀ Bs : Nat) (A : World) : Kb n₀ Bs A A := ⟨Below.refl _ _, fun _ h => h⟩
theorem Kb.trans {n₀ Bs : Nat} {A B C : World} (h : Kb n₀ Bs A B) (k : Kb n₀ Bs B C) : Kb n₀ Bs A C := ⟨h.low.trans k.low, fun v hv => k.box v (h.box v hv)⟩
theorem Kb.put {w : World} {n₀ Bs : Nat} (hN : n₀ ≤ w.heap.size) (W : World) (l : Nat) (o o' : Obj) (hl : w.heap.size ≤ l) (h : W.heap[l]? = some o) (h1 : o.isCells = false) (h2 : o.isWalk = false) : Kb n₀ Bs W (W.putObj l o') := by
  refine ⟨belowK_b (w := w) hN W l o o' hl h h1 h2, fun v hv => ?_⟩
  have hne : Bs ≠ l := by
    rintro rfl
    simp only [World.cell?] at hv
    rw [h] at hv
    cases o <;> simp_all [Obj.isCells]
  exact cell_kept hv (grownBy_putObj' W l o') (fun r e => by cases e; exact ⟨o, h, h1⟩)
theorem from_len (l : List Nat) (hb : ∀ x ∈ l, x < 256) (k : Nat) : (from_ l hb k).length = k := by simp [from_]

set_option maxRecDepth 100000 in
set_option maxHeartbeats 2000000 in
/-- The closure that Backward hands back: the bytes from the last to the first, for every loop body that keeps what lay below n₀. -/
theorem back1_in (F : Fence) (n : Nat) (hf : F.fn 50) (hro : F.round = none) (hn : 1 ≤ n) (r Bs n₀ b off len cap : Nat) (l : List Nat) (hl : l.length = len) (hlb : ∀ x ∈ l, x < 256) (hmax : len ≤ 4294967296) (hb : b < n₀) (J Jx : List Ib → World → Prop)
    (hY : ∀ pre (x : Ib) W, J pre W → pre.length < len → YieldAt F (n - 1) Try.prog r (enc2 x) W fun e W' =>
      (e = .returned (.bool true) ∧ J (pre ++ [x]) W' ∧ Kb n₀ Bs W W') ∨ (e = .returned (.bool false) ∧ Jx (pre ++ [x]) W'))
    (W : World) (hBs : W.cell? ⟨Bs, 0, none⟩ = some (.slice (some ⟨b, off, none⟩) len cap)) (hc : ∀ j, j < len → W.cell? ⟨b, off + j, none⟩ = some (.int .u8 ((l.getD j 0 : Nat) : Int))) (h0 : J [] W) :
    CallsIn F n Try.prog 50 #[.func (.yield r) #[] #[], .pointer (some ⟨Bs, 0, none⟩)] W fun e W' => (∃ v, e = .returned v) ∧
      ((∃ ys, ys = from_ l hlb len ∧ J ys W') ∨ (∃ pre, (∃ k, k ≤ len ∧ pre = from_ l hlb k) ∧ Jx pre W')) := by
  refine callsIn_of_wp Try.func50 rfl hf ?_ hro
  simp only [Try.ntmps50, List.size_toArray, List.length_cons, List.length_nil, Nat.reduceAdd, Nat.reduceSub, Array.replicate_succ, Array.replicate_zero, List.push_toArray, List.append_toArray, List.nil_append, List.cons_append]
  gi_wp2
  gi_loopw [3] (fun i wr => ∃ k : Nat, k ≤ len ∧ i = .int .i64 ((len : Int) - 1 - k) ∧ J (from_ l hlb k) wr ∧ Kb n₀ Bs W wr)
    (fun i _ => (intOf i + 1).toNat)
  case atStart => exact ⟨0, Nat.zero_le _, by simp, h0, Kb.refl _ _ _⟩
  case round =>
    obtain ⟨k, hk, rfl, hJs, hnx⟩ := hrel
    have hbs := hnx.box _ hBs
    by_cases hlt : k < len
    · obtain ⟨j, hj⟩ : ∃ j : Nat, len - 1 - k = j := ⟨_, rfl⟩
      have hjl : j < len := by omega
      have hji : (len : Int) - 1 - k = j := by omega
      have hcx := (hnx.low.cell (p := ⟨b, off + j, none⟩) hb).trans (hc j hjl)
      have hx := getD_lt hlb (show j < l.length by omega)
      have hfs := from_succ l hlb k ⟨(j, l.getD j 0), hx⟩ (by simp only [hl, hj])
      obtain ⟨fn, tmps, assign, body, hy, hR⟩ := hY _ ⟨(j, l.getD j 0), hx⟩ wr hJs (by rw [from_len]; exact hlt)
      rw [← hfs] at hR
      rw [hji]
      clear hfs
      have HJ : Lk (len - 1 - k = j) := ⟨hj⟩
      clear hj hji
      generalize l.getD j 0 = x at *
      dsimp only [enc2] at hy
      gi_wp2
      refine hR.mono ?_
      rintro e W3 (⟨rfl, hJ3, hk3⟩ | ⟨rfl, hJx3⟩)
      · gi_wp2
        go_roundw
        case rel => exact ⟨k + 1, by omega, by have := HJ.out; simp; omega, hJ3, hnx.trans hk3⟩
        case measure => have := HJ.out; first | (simp [intOf]; done) | (simp [intOf]; omega)
      · gi_wp2
        refine bodyPost_ret (results_none rfl _ _ _) rfl ?_
        exact ⟨⟨_, rfl⟩, .inr ⟨_, ⟨k + 1, by omega, rfl⟩, hJx3⟩⟩
    · obtain rfl : k = len := by omega
      gi_wp2
      go_end0
      exact ⟨⟨_, rfl⟩, .inl ⟨_, rfl, hJs⟩⟩
set_option maxHeartbeats 1000000 in
theorem backward_in (F : Fence) (n : Nat) (h5 : F.fn 46) (hro : F.round = none) (a : Option Addr) (len cap : Nat) (w : World) :
    CallsIn F n Try.prog 46 #[.slice a len cap] w fun e w' => e = .returned (.func (.func 50) #[] #[.pointer (some ⟨w.heap.size, 0, none⟩)]) ∧ w' = w.alloc (.cells #[.slice a len cap] 41) := by
  refine callsIn_of_wp Try.func46 rfl h5 ?_ hro
  simp only [Try.ntmps46, List.size_toArray, List.length_cons, List.length_nil, Nat.reduceAdd, Nat.reduceSub, Array.replicate_succ, Array.replicate_zero, List.push_toArray, List.append_toArray, List.nil_append, List.cons_append]
  gi_wp2
  go_ret
  exact ⟨rfl, rfl⟩
theorem backward_stops (F : Fence) (n : Nat) (h7 : F.fn 50) (hro : F.round = none) (hn : 1 ≤ n) (Bs n₀ b off cap : Nat) (l : List Nat) (hlb : ∀ x ∈ l, x < 256) (hmax : l.length ≤ 4294967296) (w : World) (hBs : Bs < w.heap.size) (hn₀ : n₀ ≤ w.heap.size) (hb : b < n₀)
    (hc : w.cell? ⟨Bs, 0, none⟩ = some (.slice (some ⟨b, off, none⟩) l.length cap)) (hI : ∀ j, j < l.length → w.cell? ⟨b, off + j, none⟩ = some (.int .u8 ((l.getD j 0 : Nat) : Int))) :
    SeqStopsK F n Try.prog 50 #[.pointer (some ⟨Bs, 0, none⟩)] enc2 (Kb n₀ Bs) (fun ys => ys = from_ l hlb l.length) (fun pre => ∃ k, k ≤ l.length ∧ pre = from_ l hlb k) l.length w := fun r J Jx W hW _ _ hY h0 => by
  refine (back1_in F n h7 hro hn r Bs n₀ b off l.length cap l rfl hlb hmax hb J Jx hY W ((hW.cell (p := ⟨Bs, 0, none⟩) hBs).trans hc) (fun j hj => (hW.cell (p := ⟨b, off + j, none⟩) (by show b < w.heap.size; omega)).trans (hI j hj)) h0).mono ?_
  rintro e W' ⟨he, ⟨ys, rfl, hj⟩ | ⟨pre, hk, hj⟩⟩
  · exact ⟨he, .inl ⟨_, rfl, hj⟩⟩
  · exact ⟨he, .inr ⟨_, hk, hj⟩⟩

/-- What number makes of the bytes that have come. -/
def acc (vals : List Nat) : Nat := vals.foldl (fun v x => v * 256 % 18446744073709551616 + x) 0
theorem acc_snoc (vals : List Nat) (x : Nat) : acc (vals ++ [x]) = acc vals * 256 % 18446744073709551616 + x := by simp [acc]
theorem num_bound (l : List Nat) (h : ∀ x ∈ l, x < 256) : num l < 256 ^ l.length := by
  induction l with
  | nil => decide
  | cons x l ih =>
    have h1 := ih (fun y hy => h y (List.mem_cons_of_mem _ hy))
    have h2 := h x (List.mem_cons_self ..)
    rw [num, List.length_cons, Nat.pow_succ]
    omega
theorem acc_num (l : List Nat) (h : ∀ x ∈ l, x < 256) (h8 : l.length ≤ 8) : acc l.reverse = num l := by
  induction l with
  | nil => rfl
  | cons x l ih =>
    have hl : ∀ y ∈ l, y < 256 := fun y hy => h y (List.mem_cons_of_mem _ hy)
    rw [List.length_cons] at h8
    rw [List.reverse_cons, acc_snoc, ih hl (by omega), num]
    have hb := num_bound l hl
    have h7 : 256 ^ l.length ≤ 256 ^ 7 := Nat.pow_le_pow_right (by decide) (by omega)
    have : num l * 256 < 18446744073709551616 := by
      have e : (256 : Nat) ^ 7 = 72057594037927936 := by decide
      omega
    rw [Nat.mod_eq_of_lt this]; omega
theorem acc_lt (vals : List Nat) (h : ∀ x ∈ vals, x < 256) : acc vals < 18446744073709551616 := by
  rcases List.eq_nil_or_concat vals with rfl | ⟨l, x, rfl⟩
  · decide
  · rw [List.concat_eq_append] at *
    rw [acc_snoc]
    have := h x (by simp)
    have h2 : acc l * 256 % 18446744073709551616 % 256 = 0 := by omega
    have h3 : acc l * 256 % 18446744073709551616 < 18446744073709551616 := Nat.mod_lt _ (by decide)
    omega
theorem from_vals (l : List Nat) (hb : ∀ x ∈ l, x < 256) : (from_ l hb l.length).map (fun x => x.1.2) = l.reverse := by
  apply List.ext_getElem
  · simp [from_]
  · intro i h1 h2
    have hi : i < l.length := by simpa using h2
    simp [from_, hi]
    rw [List.getElem?_eq_getElem (by omega)]
    rfl
theorem or_byte (a x : Nat) (hx : x < 256) : bits .or .u64 (IntKind.u64.wrap ((a : Int) * 256)) (x : Int) = ((a * 256 % 18446744073709551616 + x : Nat) : Int) := by
  rw [IntKind.wrap_u64]
  rw [bits_join .u64 64 (by decide) (fun n h₀ h₁ => by rw [IntKind.wrap_u64]; omega) 8 _ _ (by omega) (by omega) (by omega) (by omega) (by omega) (by omega)]
  omega
set_option maxRecDepth 100000 in
set_option maxHeartbeats 2000000 in
theorem number_in (F : Fence) (n : Nat) (h3 : F.fn 39) (h5 : F.fn 46) (h6 : F.fn 50) (hro : F.round = none) (hn : 3 ≤ n) (b off cap : Nat) (l : List Nat) (hlb : ∀ x ∈ l, x < 256) (h8 : l.length ≤ 8) (w : World) (hb : b < w.heap.size)
    (hI : ∀ j, j < l.length → w.cell? ⟨b, off + j, none⟩ = some (.int .u8 ((l.getD j 0 : Nat) : Int))) :
    CallsIn F n Try.prog 39 #[.slice (some ⟨b, off, none⟩) l.length cap] w fun e W' => e = .returned (.int .u64 (num l : Nat)) ∧ Below w.heap.size w W' := by
  have h1 : 1 ≤ n := by omega
  refine callsIn_of_wp_marks Try.func39 rfl h3 ?_ hro
  simp only [Try.ntmps39, List.size_toArray, List.length_cons, List.length_nil, Nat.reduceAdd, Nat.reduceSub, Array.replicate_succ, Array.replicate_zero, List.push_toArray, List.append_toArray, List.nil_append, List.cons_append]
  gi_wp2_with (gi_at_call 46; refine (backward_in F (n - 1) h5 hro _ _ _ _).mono ?_; rintro e w' ⟨rfl, rfl⟩)
  have hs := new_cell w (.int .u64 0) 35
  have hbx := new_cell (w.alloc (.cells #[.int .u64 0] 35)) (.slice (some ⟨b, off, none⟩) l.length cap) 41
  rw [World.size_alloc] at hbx
  have hB0 : Below w.heap.size w ((w.alloc (.cells #[.int .u64 0] 35)).alloc (.cells #[.slice (some ⟨b, off, none⟩) l.length cap] 41)) := ((Below.refl _ w).alloc (Nat.le_refl _) _).alloc (by simp) _
  refine wpIn_rangeFunc_ownF hro h1 (gf := 50) (lb := #[.pointer (some ⟨w.heap.size + 1, 0, none⟩)]) rfl h6 (enters_of Try.func50 (by kernel_rfl) rfl)
    (backward_stops F (n - 1) h6 hro (by omega) (w.heap.size + 1) w.heap.size b off cap l hlb (by omega) _ (by simp) (by simp; omega) hb hbx.1 (fun j hj => (hB0.cell (p := ⟨b, off + j, none⟩) hb).trans (hI j hj))) (fun h k => h.trans k) (Kb.put (by simp; omega)) (Below.refl _ _) (fun _ => rfl)
    (fun pre W => (W.cell? ⟨w.heap.size, 0, none⟩ = some (.int .u64 ((acc (pre.map fun x => x.1.2) : Nat) : Int)) ∧ W.frozen? ⟨w.heap.size, 0, none⟩ = false) ∧ Below w.heap.size w W)
    (fun _ _ _ => False)
    (OwnFrom.and (Own.from (fun s A B row hs hg hr => ⟨cell_kept hs.1 hg hr, (frozen_kept hs.1 hg hr).trans hs.2⟩) _) (ownFrom_below (Nat.le_refl _) (by simp; omega)))
    (fun _ _ _ _ _ hs _ _ => hs)
    ⟨⟨over_cell _ hs.1, over_frozen _ hs.1 hs.2⟩, hB0⟩
    (fun x => { tmps := #[.slice (some ⟨b, off, none⟩) l.length cap, undef, .int .u64 0, .pointer (some ⟨w.heap.size, 0, none⟩), undef, .int .u8 ((x.1.2 : Nat) : Int), .slice (some ⟨b, off, none⟩) l.length cap, .func (.func 50) #[] #[.pointer (some ⟨w.heap.size + 1, 0, none⟩)], .int .i64 ((x.1.1 : Nat) : Int), .int .u8 ((x.1.2 : Nat) : Int), undef, undef, undef, undef, undef, undef], defers := [] }) ?assign ?body ?done ?stop
  case assign =>
    intro l x W K hK
    simp only [enc2]
    gi_wp2
    exact hK
  case body =>
    rintro r pre x W ⟨⟨hc, hf⟩, hB⟩ _
    have hx := x.2
    have hal := acc_lt (pre.map fun x => x.1.2) (fun y hy => by
      rw [List.mem_map] at hy
      obtain ⟨z, _, rfl⟩ := hy
      exact z.2)
    have hsn : acc ((pre ++ [x]).map fun x => x.1.2) = acc (pre.map fun x => x.1.2) * 256 % 18446744073709551616 + x.1.2 := by rw [List.map_append]; exact acc_snoc _ _
    gi_wp2
    rw [or_byte _ _ hx]
    refine ⟨KeepsOthers.setCell _ _ _, ⟨(Below.refl w.heap.size W).setCell (p := ⟨w.heap.size, 0, none⟩) (Nat.le_refl _) _, fun v hv => (World.cell?_of_block (w := W) (Below.heap_setCell W ⟨w.heap.size, 0, none⟩ _ (w.heap.size + 1) (by simp))).trans hv⟩, ⟨?_, by rw [World.frozen?_setCell]; exact hf⟩, hB.setCell (p := ⟨w.heap.size, 0, none⟩) (Nat.le_refl _) _⟩
    rw [hsn]
    exact World.cell?_setCell_same' _ _ _ (by rw [hc]; rfl)
  case done =>
    rintro D ys W hD rfl ⟨⟨hc, _⟩, hB⟩ hK
    rw [from_vals, acc_num l hlb h8] at hc
    gi_wp2
    refine ⟨by simp, .inl ⟨_, _, rfl, run_takeDeferred hK, ?_⟩⟩
    exact ⟨_, results_tmp rfl _ _ _, rfl, hB.trans (belowK_b (w := w) (Nat.le_refl _) W D _ _ (by simp at hD; omega) hK rfl rfl)⟩
  case stop =>
    rintro D c pre W _ _ h _
    exact h.elim
theorem number_any (b off cap : Nat) (l : List Nat) (n : Nat) (hn : l.length = n) (w : World) (hlb : Lk (∀ x ∈ l, x < 256)) (h8 : n ≤ 8) (hb : b < w.heap.size) (hI : Lk (∀ j, j < n → w.cell? ⟨b, off + j, none⟩ = some (.int .u8 ((l.getD j 0 : Nat) : Int)))) :
    Calls Try.prog 39 #[.slice (some ⟨b, off, none⟩) n cap] w fun e w' => e = .returned (.int .u64 (num l : Nat)) ∧ Below w.heap.size w w' := by
  subst hn
  exact callsIn_wide.1 (number_in Fence.wide 8 trivial trivial trivial rfl (by decide) b off cap l hlb.out h8 w hb hI.out)
end Go.Proofs.Ytgjchfhgpfogjaa.Nx

/-
  What every stage's texts rest on: hidden facts, slices that lie in memory, what a call leaves as it was, rows of numbers.
-/
import Derived.Test.YtdodigfojbijfaaProg
import Derived.WalkKit
import Derived.ProofKit
import Derived.OpenShut
import Derived.BigQuiet
import Derived.Deep.QuietTactic
import Derived.Lib.Hide
import Derived.Below
import Derived.WalkSpells
import Derived.WalkLawsBesides
import Derived.Laws.BitsAllLaws
import Derived.Laws.Rows
import Derived.Laws.CopyOwn
import Derived.Deep.Draws
import Derived.OwnWalk
import Derived.Laws.OwnMore
import Derived.Deep.DeepCutAuto
import Derived.Deep.RegionWith
import Derived.Deep.RegionHeld3
import Derived.BigRegion
namespace Go.Proofs.Ytdodigfojbijfaa.Ga
open Go.ChangeShapes Go.WideShapes Go.ChangeAt Go.RowKit
set_option linter.unusedVariables false
set_option linter.unusedSimpArgs false

/-- A fact that no unification looks into. -/
structure Lk (p : Prop) : Prop where
  out : p
theorem ret_int {k : IntKind} {a b : Int} (h : a = b) : Ending.returned (.int k a) = .returned (.int k b) := by rw [h]
theorem ret_bool {a b : Bool} (h : a = b) : Ending.returned (.bool a) = .returned (.bool b) := by rw [h]

theorem block_of_add (a : Addr) (n : Nat) : (a.add n).block = a.block := by unfold Addr.add; split <;> rfl
theorem add_of_add (a : Addr) (i j : Nat) : (a.add i).add j = a.add (i + j) := by
  unfold Addr.add
  by_cases hi : i = 0 <;> by_cases hj : j = 0 <;> simp [hi, hj, Nat.add_assoc]
theorem add_zero_ (g j : Nat) : (⟨g, 0, none⟩ : Addr).add j = ⟨g, j, none⟩ := by unfold Addr.add; split <;> simp_all
theorem add_at (g i j : Nat) : (⟨g, i, none⟩ : Addr).add j = ⟨g, i + j, none⟩ := by unfold Addr.add; split <;> simp_all

/-- The cells of a slice hold these numbers; nil and empty slices hold none. -/
def Lies (k : IntKind) (w : World) (B : Nat) (A : Option Addr) (l : List Nat) : Prop :=
  0 < l.length → ∃ ad, A = some ad ∧ ad.block < B ∧ ∀ j, j < l.length → w.cell? (ad.add j) = some (.int k ((l.getD j 0 : Nat) : Int))
section
variable {kd : IntKind} {w w' : World} {B B' : Nat} {A : Option Addr} {l : List Nat}
theorem Lies.none_ : Lies kd w B A [] := fun h => absurd h (by simp)
theorem Lies.at_ {k : Nat} (h : Lies kd w B A l) (hk : k < l.length) : ∃ ad, A = some ad ∧ ad.block < B ∧ w.cell? (ad.add k) = some (.int kd ((l.getD k 0 : Nat) : Int)) := by
  obtain ⟨ad, e, hb, hc⟩ := h (by omega)
  exact ⟨ad, e, hb, hc k hk⟩
theorem Lies.keep (h : Lies kd w B A l) (hk : ∀ p : Addr, p.block < B → w'.cell? p = w.cell? p) : Lies kd w' B A l := fun hn => by
  obtain ⟨ad, e, hb, hc⟩ := h hn
  exact ⟨ad, e, hb, fun j hj => (hk _ (by rw [block_of_add]; exact hb)).trans (hc j hj)⟩
theorem Lies.more (h : Lies kd w B A l) (hB : B ≤ B') : Lies kd w B' A l := fun hn => by
  obtain ⟨ad, e, hb, hc⟩ := h hn
  exact ⟨ad, e, by omega, hc⟩
theorem Lies.below (h : Lies kd w B A l) (hb : Below B w w') : Lies kd w' B A l := h.keep fun _ hp => hb.cell hp
theorem Lies.on_ (h : Lies kd w w.heap.size A l) (hb : Below w.heap.size w w') : Lies kd w' w'.heap.size A l := (h.below hb).more hb.size
theorem Lies.cut (h : Lies kd w B A l) {i n cap : Nat} (hi : i + n ≤ l.length) (hc : l.length ≤ cap) :
    Lies kd w B (if cap = i then A else A.map (·.add i)) ((l.drop i).take n) := by
  intro hn
  have hlen : ((l.drop i).take n).length = n := by simp; omega
  obtain ⟨ad, rfl, hb, hcell⟩ := h (by omega)
  rw [if_neg (by omega)]
  refine ⟨ad.add i, rfl, by rw [block_of_add]; exact hb, fun j hj => ?_⟩
  rw [add_of_add, hcell (i + j) (by omega)]
  have : (List.take n (List.drop i l)).getD j 0 = l.getD (i + j) 0 := by
    rw [List.getD_eq_getElem?_getD, List.getD_eq_getElem?_getD, List.getElem?_take, if_pos (by omega), List.getElem?_drop]
  rw [this]
end
theorem take_snoc (l : List Nat) (k : Nat) (h : k < l.length) : l.take (k + 1) = l.take k ++ [l.getD k 0] := by
  rw [List.take_succ_eq_append_getElem h]; simp [h]
theorem take_lt {l : List Nat} {m : Nat} (h : ∀ x ∈ l, x < m) (k : Nat) : ∀ x ∈ l.take k, x < m := fun x hx => h x (List.mem_of_mem_take hx)
theorem getD_lt {l : List Nat} {m : Nat} (h : ∀ x ∈ l, x < m) {k : Nat} (hk : k < l.length) : l.getD k 0 < m := by
  rw [List.getD_eq_getElem?_getD, List.getElem?_eq_getElem hk]; exact h _ (List.getElem_mem _)
theorem cut_lt {l : List Nat} {m : Nat} (h : ∀ x ∈ l, x < m) (i n : Nat) : ∀ x ∈ (l.drop i).take n, x < m := fun x hx => h x (List.mem_of_mem_drop (List.mem_of_mem_take hx))
theorem cut_len {l : List Nat} {i n : Nat} (h : i + n ≤ l.length) : ((l.drop i).take n).length = n := by simp; omega
theorem cut_join {l : List Nat} {i n : Nat} (h : i + n ≤ l.length) : l.take i ++ (l.drop i).take n = l.take (i + n) := by
  rw [List.take_add]
theorem set_lt {l : List Nat} {m x : Nat} (h : ∀ y ∈ l, y < m) (hx : x < m) (j : Nat) : ∀ y ∈ l.set j x, y < m := fun y hy => by
  rcases List.mem_or_eq_of_mem_set hy with hy | rfl
  · exact h y hy
  · exact hx

/-- A slice of integers that came in: nil, or a row of 'cap' cells, the numbers 'zs' (the first 'len' are its elements), each fitting its kind. -/
def IsRow (k : IntKind) (w : World) (a : Option Addr) (len cap : Nat) (zs : List Int) : Prop :=
  (a = none ∧ len = 0 ∧ cap = 0 ∧ zs = []) ∨
  ∃ x, a = some x ∧ len ≤ cap ∧ cap ≤ maxLen ∧ zs.length = cap ∧ (∀ i, i < zs.length → w.cell? (x.add i) = some (.int k (zs.getD i 0))) ∧ ∀ n ∈ zs, (Lit.int k n).wf = true
/-- Its elements, as natural numbers. -/
def nats (len : Nat) (zs : List Int) : List Nat := (zs.take len).map Int.toNat
theorem IsRow.len {k : IntKind} {w : World} {a : Option Addr} {len cap : Nat} {zs : List Int} (h : IsRow k w a len cap zs) : (nats len zs).length = len ∧ len ≤ cap ∧ cap ≤ maxLen := by
  rcases h with ⟨_, h1, h2, h3⟩ | ⟨x, _, h1, h2, h3, _⟩
  · subst h1 h2 h3; simp [nats, maxLen]
  · exact ⟨by simp [nats]; omega, h1, h2⟩
theorem IsRow.lt {k : IntKind} {w : World} {a : Option Addr} {len cap m : Nat} {zs : List Int} (h : IsRow k w a len cap zs) (hk : ∀ n, (Lit.int k n).wf = true → 0 ≤ n ∧ n < m) : ∀ x ∈ nats len zs, x < m := by
  intro x hx
  unfold nats at hx
  rw [List.mem_map] at hx
  obtain ⟨z, hz, rfl⟩ := hx
  rcases h with ⟨_, h1, h2, h3⟩ | ⟨_, _, _, _, _, _, hwf⟩
  · subst h3; simp at hz
  · have := hk z (hwf z (List.mem_of_mem_take hz)); omega
theorem IsRow.lies {k : IntKind} {w : World} {a : Option Addr} {len cap m : Nat} {zs : List Int} (h : IsRow k w a len cap zs) (hk : ∀ n, (Lit.int k n).wf = true → 0 ≤ n ∧ n < m) : Lies k w w.heap.size a (nats len zs) := by
  intro hn
  have hl := h.len
  rcases h with ⟨_, h1, _, _⟩ | ⟨x, rfl, h1, h2, h3, hc, hwf⟩
  · omega
  · have hcell : ∀ j, j < len → w.cell? (x.add j) = some (.int k (((nats len zs).getD j 0 : Nat) : Int)) := by
      intro j hj
      have hjz : j < zs.length := by omega
      rw [hc j hjz]
      have e : (nats len zs).getD j 0 = (zs[j]).toNat := by simp [nats, hj, hjz]
      have := hk zs[j] (hwf _ (List.getElem_mem _))
      rw [e]
      simp [hjz]; omega
    exact ⟨x, rfl, by have := block_lt_of_cell (hcell 0 (by omega)); rwa [block_of_add] at this, fun j hj => hcell j (by omega)⟩
theorem wf8 (n : Int) (h : (Lit.int .u8 n).wf = true) : 0 ≤ n ∧ n < (256 : Nat) := by have := bounds_u8 h; omega
theorem wf64 (n : Int) (h : (Lit.int .u64 n).wf = true) : 0 ≤ n ∧ n < (18446744073709551616 : Nat) := by have := bounds_u64 h; omega
theorem IsRow.open8 {w : World} {a : Option Addr} {len cap : Nat} {zs : List Int} (h : IsRow .u8 w a len cap zs) :
    ∃ l : List Nat, l.length = len ∧ Lk (∀ x ∈ l, x < 256) ∧ Lk (Lies .u8 w w.heap.size a l) ∧ len ≤ cap ∧ cap ≤ 9223372036854775807 :=
  ⟨nats len zs, h.len.1, ⟨h.lt wf8⟩, ⟨h.lies wf8⟩, h.len.2.1, h.len.2.2⟩

/-- A call may have turned the blocks of S, and laid new ones; nothing else. -/
structure Only (S : Nat → Prop) (w w' : World) : Prop where
  os : w'.os = w.os
  tape : w'.tape = w.tape
  output : w'.output = w.output
  size : w.heap.size ≤ w'.heap.size
  block : ∀ k, k < w.heap.size → ¬ S k → w'.heap[k]? = w.heap[k]?
section
variable {S S' : Nat → Prop} {w w' w'' : World} {B : Nat}
theorem Only.refl (S : Nat → Prop) (w : World) : Only S w w := ⟨rfl, rfl, rfl, Nat.le_refl _, fun _ _ _ => rfl⟩
theorem Only.trans (h : Only S w w') (k : Only S w' w'') : Only S w w'' :=
  ⟨k.os.trans h.os, k.tape.trans h.tape, k.output.trans h.output, Nat.le_trans h.size k.size, fun i hi hn => (k.block i (Nat.lt_of_lt_of_le hi h.size) hn).trans (h.block i hi hn)⟩
theorem Only.mono (h : Only S w w') (hs : ∀ k, S k → S' k) : Only S' w w' := ⟨h.os, h.tape, h.output, h.size, fun k hk hn => h.block k hk fun e => hn (hs k e)⟩
theorem Only.alloc (h : Only S w w') (o : Obj) : Only S w (w'.alloc o) :=
  ⟨h.os, h.tape, h.output, by have := h.size; simp; omega, fun k hk hn => (Below.heap_alloc w' o k (Nat.lt_of_lt_of_le hk h.size)).trans (h.block k hk hn)⟩
theorem Only.drew (h : Only S w w') (m : Nat) : Only S w (w'.drewN m) := ⟨h.os, h.tape, h.output, h.size, h.block⟩
theorem Only.setCell (h : Only S w w') {p : Addr} (hp : S p.block ∨ w.heap.size ≤ p.block) (u : Value) : Only S w (w'.setCell p u) :=
  ⟨h.os, h.tape, h.output, by have := h.size; simpa using this, fun k hk hn => (Below.heap_setCell w' p u k (by rintro rfl; exact hp.elim hn (fun hp => by omega))).trans (h.block k hk hn)⟩
theorem Only.of_below (h : Below w.heap.size w w') : Only S w w' := ⟨h.os, h.tape, h.output, h.size, fun k hk _ => h.block k hk⟩
theorem Only.to_below (h : Only S w w') (hs : ∀ k, S k → B ≤ k) (hB : B ≤ w.heap.size) : Below B w w' :=
  ⟨h.os, h.tape, h.output, h.size, fun k hk => h.block k (by omega) fun e => by have := hs k e; omega⟩
theorem Only.below_on {w0 : World} (h : Only S w w') (hb : Below B w0 w) (hs : ∀ k, S k → B ≤ k) (hB : B ≤ w.heap.size) : Below B w0 w' := hb.trans (h.to_below hs hB)
theorem Only.grown {row : Option Nat} (h : Only S w w') (hg : w'.grownBy w'' row) (hr : ∀ k, row = some k → S k ∨ w.heap.size ≤ k) : Only S w w'' :=
  ⟨hg.os.trans h.os, hg.tape.trans h.tape, hg.output.trans h.output, Nat.le_trans h.size hg.size, fun k hk hn => (hg.block k (Nat.lt_of_lt_of_le hk h.size) (fun e => by
    rcases hr k e.symm with h1 | h1
    · exact hn h1
    · omega)).trans (h.block k hk hn)⟩
end

/-- The number that Pick returns. -/
def pk (n k : Int) : Nat := (n % k).toNat
theorem pk_lt (n k : Int) (h : 1 ≤ k) : (pk n k : Int) < k := by
  have hm := Int.emod_nonneg n (show k ≠ 0 by omega)
  have hl := Int.emod_lt_of_pos n (show 0 < k by omega)
  unfold pk; omega
theorem pick_num (n k : Int) (h : 1 ≤ k) (k1 : k ≤ 4294967296) : (wrap64 (n.tmod k + k)).tmod k = n % k := by
  have hm := Int.emod_nonneg n (show k ≠ 0 by omega)
  have hl := Int.emod_lt_of_pos n (show 0 < k by omega)
  have hk : (k.natAbs : Int) = k := by omega
  have ht : n.tmod k = n % k ∨ n.tmod k = n % k - k := by
    rw [Int.tmod_eq_emod]
    split
    · left; omega
    · right; omega
  generalize hmm : n % k = m at *
  rcases ht with ht | ht
  · rw [ht, show wrap64 (m + k) = m + k from by unfold wrap64; omega, Int.tmod_eq_emod_of_nonneg (by omega), Int.add_emod_right, ← hmm, Int.emod_emod]
  · rw [ht, show wrap64 (m - k + k) = m from by unfold wrap64; omega, Int.tmod_eq_emod_of_nonneg (by omega), ← hmm, Int.emod_emod]
theorem pick_any (n k : Int) (w : World) (h : 1 ≤ k) (k1 : k ≤ 4294967296) (n0 : -9223372036854775808 ≤ n) (n1 : n ≤ 9223372036854775807) :
    Calls Try.prog 10 #[.int .i64 n, .int .i64 k] w fun e w' => e = .returned (.int .i64 (pk n k)) ∧ w = w' := by
  have hm := Int.emod_nonneg n (show k ≠ 0 by omega)
  have hl := Int.emod_lt_of_pos n (show 0 < k by omega)
  have H : Hid ((wrap64 (n.tmod k + k)).tmod k = n % k) := pick_num n k h k1
  go_enter Try.func10, Try.ntmps10
  go_wp2
  go_ret
  refine ⟨ret_int ?_, rfl⟩
  unfold pk
  simp
  rw [H.out]; omega

/-- A row of numbers in memory of the run's own. -/
def u64v (x : Nat) : Value := .int .u64 (x : Int)
theorem u64info : (Try.prog.info? 28).map (fun i => (i.zero, i.size, i.bytes)) = some (some (.int .u64 0), 1, 8) := by kernel_rfl
structure Row (w : World) (g n cap : Nat) (ws : List Nat) : Prop where
  own : w.ownsRow 0 28 1 (.slice (some ⟨g, 0, none⟩) n cap) n (ws.map u64v)
  len : ws.length = n
  lt : ∀ x ∈ ws, x < 18446744073709551616
theorem owns_kept {w w' : World} {base : Nat} {e : TypeId} {sz g n cap : Nat} {xs : List Value} (h : w.ownsRow base e sz (.slice (some ⟨g, 0, none⟩) n cap) n xs) (hg : w'.heap[g]? = w.heap[g]?) :
    w'.ownsRow base e sz (.slice (some ⟨g, 0, none⟩) n cap) n xs := by
  refine ⟨h.1, ?_⟩
  rcases h.2 with ⟨h', _⟩ | ⟨g', cap', cur, h', h3, h4, h5⟩
  · simp at h'
  · simp only [Value.slice.injEq, Option.some.injEq, Addr.mk.injEq, and_true, true_and] at h'
    obtain ⟨rfl, rfl⟩ := h'
    exact .inr ⟨g, cap, cur, rfl, h3, hg.trans h4, h5⟩
theorem owns_base {w : World} {base : Nat} {e : TypeId} {sz n : Nat} {v : Value} {xs : List Value} (h : w.ownsRow base e sz v n xs) : w.ownsRow 0 e sz v n xs := by
  refine ⟨h.1, ?_⟩
  rcases h.2 with h' | ⟨g', cap', cur, h', h3, h4⟩
  · exact .inl h'
  · exact .inr ⟨g', cap', cur, h', Nat.zero_le _, h4⟩
section
variable {w w' : World} {g n cap : Nat} {ws : List Nat}
theorem Row.size (h : Row w g n cap ws) : g < w.heap.size := (h.own.lt g rfl).2
theorem Row.cap_ (h : Row w g n cap ws) : n ≤ cap ∧ cap ≤ 9223372036854775807 := by
  rcases h.own.2 with ⟨h', _⟩ | ⟨g', cap', cur, h', h3, h4, h5, h6, _⟩
  · simp at h'
  · simp only [Value.slice.injEq, Option.some.injEq, Addr.mk.injEq, and_true, true_and] at h'
    obtain ⟨rfl, rfl⟩ := h'
    exact ⟨h5, h6⟩
theorem Row.cell (h : Row w g n cap ws) {j : Nat} (hj : j < n) : w.cell? ⟨g, j, none⟩ = some (.int .u64 ((ws.getD j 0 : Nat) : Int)) := by
  rw [h.own.cellAt j (by omega)]
  have := h.len
  have hj' : j < ws.length := by omega
  simp [hj', u64v]
theorem Row.free (h : Row w g n cap ws) (j : Nat) : w.frozen? ⟨g, j, none⟩ = false := h.own.frozenAt j
theorem Row.set (h : Row w g n cap ws) (j x : Nat) (hx : x < 18446744073709551616) : Row (w.setCell ⟨g, j, none⟩ (u64v x)) g n cap (ws.set j x) :=
  ⟨by have := (h.own.stored j (u64v x)).1; rwa [← List.map_set] at this, by rw [List.length_set, h.len], set_lt h.lt hx j⟩
theorem Row.keep (h : Row w g n cap ws) (hg : w'.heap[g]? = w.heap[g]?) : Row w' g n cap ws := ⟨owns_kept h.own hg, h.len, h.lt⟩
theorem Row.on {S : Nat → Prop} (h : Row w g n cap ws) (ho : Only S w w') (hs : ¬ S g) : Row w' g n cap ws := h.keep (ho.block g h.size hs)
theorem Row.lies (h : Row w g n cap ws) : Lies .u64 w w.heap.size (some ⟨g, 0, none⟩) ws := fun hp => by
  refine ⟨_, rfl, h.size, fun j hj => ?_⟩
  rw [add_zero_]
  exact h.cell (by have := h.len; omega)
theorem Row.made (hown : w'.ownsRow w.heap.size 28 1 (.slice (some ⟨g, 0, none⟩) n n) n (madeCells (Value.int .u64 0).cells (n * 1)).toList) : Row w' g n n (List.replicate n 0) := by
  refine ⟨owns_base (base := w.heap.size) ?_, by simp, fun x hx => by rw [List.mem_replicate] at hx; omega⟩
  have : (madeCells (Value.int .u64 0).cells (n * 1)).toList = (List.replicate n 0).map u64v := by
    rw [Nat.mul_one]
    refine (toList_madeCells_one _ n).trans ?_
    simp [u64v]
  rwa [this] at hown
end
end Go.Proofs.Ytdodigfojbijfaa.Ga

/-
  The program's pair in memory: New, what it tells of itself, forget, leave, Drop.
-/
import Derived.Test.YtadeghfhjiohnaaTb
import Derived.Test.YtadeghfhjiohnaaHq
namespace Go.Proofs.Ytadeghfhjiohnaa.Tc
open Go.ChangeShapes Go.WideShapes Go.ChangeAt Go.RowKit Ga Gb Na Nb Nc Va Ve Qd Ta Tb
set_option linter.unusedVariables false
set_option linter.unusedSimpArgs false
set_option maxHeartbeats 400000
set_option maxRecDepth 100000
/-- A verb. -/
structure Mv where
  k : Int
  nd : Int
  a : Int
  n : Int
  o : Nat
  ne : Nat
  ky : Int
  bo : Int
  s : List Nat
structure Pq where
  v : Mv
  A : Option Addr
  c : Nat
def qcs (p : Pq) : List Value := [.int .i64 p.v.k, .int .i64 p.v.nd, .int .i64 p.v.a, .int .i64 p.v.n, .int .u64 (p.v.o : Int), .int .u64 (p.v.ne : Int), .slice p.A p.v.s.length p.c, .int .u64 p.v.ky, .int .i64 p.v.bo]
theorem qcs_one (p : Pq) : ∀ u ∈ qcs p, u.oneCell' = true := fun u hu => by
  simp [qcs] at hu
  rcases hu with rfl | rfl | rfl | rfl | rfl | rfl | rfl | rfl | rfl <;> rfl
def wide (s : List Nat) : Prop := s.length ≤ 4294967296 ∧ ∀ x ∈ s, x < 18446744073709551616
/-- The program's pair at block b, its queue q; F: the blocks that may turn. -/
structure PP (F : Nat → Prop) (w : World) (b : Nat) (cl inc nd : Int) (V : Value) (q : List Pq) (ex : Nat) (B : Option Addr) (cb : Nat) (r : List Nat) : Prop where
  z : w.heap[b]? = some (.cells #[.int .i64 cl, .int .i64 inc, .int .i64 nd, V, .int .i64 ex, .slice B r.length cb] 99 (0, 0))
  f : F b
  own : Tl w 122 9 V q.length (q.flatMap qcs)
  vf : ∀ g, V.ownBlock = some g → F g
  ow : Tl w 23 1 (.slice B r.length cb) r.length (r.map u64v)
  wf : ∀ g, (Value.slice B r.length cb).ownBlock = some g → F g
  wd : ∀ p ∈ q, LiesF F w p.A p.v.s ∧ wide p.v.s ∧ (p.v.s.length ≤ p.c ∧ p.c ≤ 9223372036854775807)
  wr : wide r
section
variable {F F' S : Nat → Prop} {w w' : World} {b : Nat} {cl inc nd : Int} {V : Value} {q : List Pq} {ex : Nat} {B : Option Addr} {cb : Nat} {r : List Nat}
theorem PP.lt (h : PP F w b cl inc nd V q ex B cb r) : b < w.heap.size := (Array.getElem?_eq_some_iff.1 h.z).1
theorem PP.c0 (h : PP F w b cl inc nd V q ex B cb r) : w.cell? ⟨b, 0, none⟩ = some (.int .i64 cl) := (cell_of_row w b 0 _ _ _ h.z).trans rfl
theorem PP.c1 (h : PP F w b cl inc nd V q ex B cb r) : w.cell? ⟨b, 1, none⟩ = some (.int .i64 inc) := (cell_of_row w b 1 _ _ _ h.z).trans rfl
theorem PP.c2 (h : PP F w b cl inc nd V q ex B cb r) : w.cell? ⟨b, 2, none⟩ = some (.int .i64 nd) := (cell_of_row w b 2 _ _ _ h.z).trans rfl
theorem PP.c3 (h : PP F w b cl inc nd V q ex B cb r) : w.cell? ⟨b, 3, none⟩ = some V := (cell_of_row w b 3 _ _ _ h.z).trans rfl
theorem PP.c4 (h : PP F w b cl inc nd V q ex B cb r) : w.cell? ⟨b, 4, none⟩ = some (.int .i64 ex) := (cell_of_row w b 4 _ _ _ h.z).trans rfl
theorem PP.c5 (h : PP F w b cl inc nd V q ex B cb r) : w.cell? ⟨b, 5, none⟩ = some (.slice B r.length cb) := (cell_of_row w b 5 _ _ _ h.z).trans rfl
theorem PP.fr (h : PP F w b cl inc nd V q ex B cb r) (j : Nat) : w.frozen? ⟨b, j, none⟩ = false := frozen_of_row w b j _ _ h.z
/-- The pair's blocks: what they hold, they hold wherever these have not turned. -/
theorem PP.on (h : PP F w b cl inc nd V q ex B cb r) (ho : Only S w w') (hb : ¬ S b) (hv : ∀ g, V.ownBlock = some g → ¬ S g) (hw : ∀ g, (Value.slice B r.length cb).ownBlock = some g → ¬ S g) (hs : ∀ k, S k → F k) : PP F w' b cl inc nd V q ex B cb r :=
  ⟨(ho.block b h.lt hb).trans h.z, h.f, h.own.on (fun g hg => ho.block g (h.own.lt g hg) (hv g hg)), h.vf, h.ow.on (fun g hg => ho.block g (h.ow.lt g hg) (hw g hg)), h.wf, fun p hp => ⟨(h.wd p hp).1.on ho hs, (h.wd p hp).2⟩, h.wr⟩
theorem PP.below (h : PP F w b cl inc nd V q ex B cb r) (hb : Below w.heap.size w w') : PP F w' b cl inc nd V q ex B cb r := h.on (S := fun _ => False) (Only.of_below hb) (fun h => h) (fun _ _ h => h) (fun _ _ h => h) (fun _ h => h.elim)
/-- More blocks may turn, new ones. -/
theorem liesF_to {A : Option Addr} {l : List Nat} (h : LiesF F w A l) (hf : ∀ k, F' k → F k ∨ w.heap.size ≤ k) : LiesF F' w A l := fun hl => by
  obtain ⟨ad, e, hn, hb, hc⟩ := h hl
  exact ⟨ad, e, fun hh => (hf _ hh).elim hn (fun h => by omega), hb, hc⟩
theorem PP.to (h : PP F w b cl inc nd V q ex B cb r) (h1 : ∀ k, F k → F' k) (h2 : ∀ k, F' k → F k ∨ w.heap.size ≤ k) : PP F' w b cl inc nd V q ex B cb r :=
  ⟨h.z, h1 _ h.f, h.own, fun g hg => h1 _ (h.vf g hg), h.ow, fun g hg => h1 _ (h.wf g hg), fun p hp => ⟨liesF_to (h.wd p hp).1 h2, (h.wd p hp).2⟩, h.wr⟩
theorem PP.vb (h : PP F w b cl inc nd V q ex B cb r) : ∀ g, V.ownBlock = some g → g ≠ b := fun g hg e => by
  obtain ⟨cur, hc⟩ := h.own.typed g hg
  rw [e, h.z] at hc
  injection hc with hc
  injection hc with _ h3
  exact absurd h3 (by decide)
theorem PP.wb (h : PP F w b cl inc nd V q ex B cb r) : ∀ g, (Value.slice B r.length cb).ownBlock = some g → g ≠ b := fun g hg e => by
  obtain ⟨cur, hc⟩ := h.ow.typed g hg
  rw [e, h.z] at hc
  injection hc with hc
  injection hc with _ h3
  exact absurd h3 (by decide)
theorem PP.vw (h : PP F w b cl inc nd V q ex B cb r) : ∀ g, V.ownBlock = some g → some g ≠ (Value.slice B r.length cb).ownBlock := fun g hg e => by
  obtain ⟨cur, hc⟩ := h.own.typed g hg
  obtain ⟨cur2, hc2⟩ := h.ow.typed g e.symm
  rw [hc] at hc2
  injection hc2 with hc2
  injection hc2 with _ h3
  exact absurd h3 (by decide)
end
theorem within_q (x l m : Int) (w : World) : Calls Try.prog 74 #[.int .i64 x, .int .i64 l, .int .i64 m] w fun e w' => e = .returned (.bool (decide (l ≤ x ∧ x ≤ m))) ∧ w = w' := by
  go_enter Try.func74, Try.ntmps74
  by_cases h1 : l ≤ x
  · go_wp2; go_ret; exact ⟨ret_bool (by simp [h1] <;> omega), rfl⟩
  · go_wp2; go_ret; exact ⟨ret_bool (by simp [h1] <;> omega), rfl⟩
def newC (cl inc nd : Int) : Int := if cl < 0 ∨ 5 < cl then 1 else if inc < 0 ∨ 59 < inc ∨ nd < 0 ∨ 4 < nd then 2 else 0
theorem new_no (cl inc nd : Int) (w : World) (h : newC cl inc nd ≠ 0) :
    Calls Try.prog 67 #[.int .i64 cl, .int .i64 inc, .int .i64 nd] w fun e w' => e = .returned (.tuple #[.pointer none, .int .i64 (newC cl inc nd)]) ∧ w = w' := by
  have C1 := within_q cl 0 5 w
  have C2 := within_q inc 0 59 w
  have C3 := within_q nd 0 4 w
  by_cases h1 : 0 ≤ cl ∧ cl ≤ 5
  · rw [decide_eq_true h1] at C1
    have hn : newC cl inc nd = 2 := by
      unfold newC at h ⊢
      rw [if_neg (by omega)] at h ⊢
      split at h
      · rename_i h'; rw [if_pos h']
      · omega
    rw [hn]
    by_cases h2 : 0 ≤ inc ∧ inc ≤ 59
    · rw [decide_eq_true h2] at C2
      have h3 : ¬ (0 ≤ nd ∧ nd ≤ 4) := by
        intro h3
        unfold newC at hn
        rw [if_neg (by omega), if_neg (by omega)] at hn
        omega
      rw [decide_eq_false h3] at C3
      clear h h1 h2 h3 hn
      go_enter Try.func67, Try.ntmps67
      go_wp2_with (first
        | (go_at_call 74; (with_reducible refine C1.mono ?_); rintro e w' ⟨rfl, rfl⟩)
        | (go_at_call 74; (with_reducible refine C2.mono ?_); rintro e w' ⟨rfl, rfl⟩)
        | (go_at_call 74; (with_reducible refine C3.mono ?_); rintro e w' ⟨rfl, rfl⟩))
      go_ret2
      exact ⟨rfl, rfl⟩
    · rw [decide_eq_false h2] at C2
      clear h h1 h2 hn
      go_enter Try.func67, Try.ntmps67
      go_wp2_with (first
        | (go_at_call 74; (with_reducible refine C1.mono ?_); rintro e w' ⟨rfl, rfl⟩)
        | (go_at_call 74; (with_reducible refine C2.mono ?_); rintro e w' ⟨rfl, rfl⟩))
      go_ret2
      exact ⟨rfl, rfl⟩
  · rw [decide_eq_false h1] at C1
    have hn : newC cl inc nd = 1 := by unfold newC; rw [if_pos (by omega)]
    rw [hn]
    clear h h1 hn
    go_enter Try.func67, Try.ntmps67
    go_wp2_with (first
        | (go_at_call 74; (with_reducible refine C1.mono ?_); rintro e w' ⟨rfl, rfl⟩))
    go_ret2
    exact ⟨rfl, rfl⟩
theorem new_ok (cl inc nd : Int) (w : World) (h1 : 0 ≤ cl ∧ cl ≤ 5) (h2 : 0 ≤ inc ∧ inc ≤ 59) (h3 : 0 ≤ nd ∧ nd ≤ 4) :
    Calls Try.prog 67 #[.int .i64 cl, .int .i64 inc, .int .i64 nd] w fun e w' => e = .returned (.tuple #[.pointer (some ⟨w.heap.size, 0, none⟩), .int .i64 0]) ∧ Lk (PP (fun k => k = w.heap.size) w' w.heap.size cl inc nd (.slice none 0 0) [] 0 none 0 []) ∧ Lk (Below w.heap.size w w') := by
  have C1 := within_q cl 0 5 w
  have C2 := within_q inc 0 59 w
  have C3 := within_q nd 0 4 w
  rw [decide_eq_true h1] at C1
  rw [decide_eq_true h2] at C2
  rw [decide_eq_true h3] at C3
  clear h1 h2 h3
  go_enter Try.func67, Try.ntmps67
  go_wp2_with (first
    | (go_at_call 74; (with_reducible refine C1.mono ?_); rintro e w' ⟨rfl, rfl⟩)
    | (go_at_call 74; (with_reducible refine C2.mono ?_); rintro e w' ⟨rfl, rfl⟩)
    | (go_at_call 74; (with_reducible refine C3.mono ?_); rintro e w' ⟨rfl, rfl⟩))
  go_ret2
  exact ⟨rfl, ⟨heap_alloc_new w _, rfl, Tl.nil _ _ _, (fun g hg => by cases hg), Tl.nil _ _ _, (fun g hg => by cases hg), (fun p hp => by cases hp), by simp [wide]⟩, ⟨(Below.refl _ w).alloc (Nat.le_refl _) _⟩⟩
section
variable (F : Nat → Prop) (b : Nat) (cl inc nd : Int) (V : Value) (q : List Pq) (ex : Nat) (B : Option Addr) (cb : Nat) (r : List Nat) (w : World)
end
/-- Nine zero cells from there on. -/
def zeros9 : List Value := [.int .i64 0, .int .i64 0, .int .i64 0, .int .i64 0, .int .u64 0, .int .u64 0, .slice none 0 0, .int .u64 0, .int .i64 0]
theorem under_vs : Try.prog.underlying 97 = some (.slice (Try.prog.elem 97)) := by kernel_rfl
theorem size_vs (w : World) : (sizeOf (Try.prog.elem 97)).run Try.prog w = .ok 9 w := by kernel_rfl
theorem tail_vs (g off n c : Nat) (w : World) (h1 : 1 ≤ n) (h3 : n ≤ c) (h4 : c ≤ 9223372036854775807) :
    (Instr.sliceAt 97 (.slice (some ⟨g, off, none⟩) n c) (some (.int .i64 1)) none none).run Try.prog w = .ok (.slice (some ⟨g, if c = 1 then off else off + 9, none⟩) (n - 1) (c - 1)) w := by
  have e : (Value.int IntKind.i64 1) = Value.int IntKind.i64 ((1 : Nat) : Int) := rfl
  rw [e, run_sliceAt_slice _ _ _ _ _ _ under_vs, run_slice_l _ _ _ _ _ under_vs _ _ (by omega) (by omega), size_vs]
  have e2 : (if c = 1 then (some ⟨g, off, none⟩ : Option Addr) else (some (⟨g, off, none⟩ : Addr)).map (·.add (1 * 9))) = some ⟨g, if c = 1 then off else off + 9, none⟩ := by
    split
    · rfl
    · simp [add_at]
  simp only [Result.andThen, sliced, Int.toNat_natCast, e2]
theorem zap_tl {w : World} {g off n c : Nat} {p : Pq} {q : List Pq} (h : Tl w 122 9 (.slice (some ⟨g, off, none⟩) (n + 1) c) (n + 1) ((p :: q).flatMap qcs)) :
    Tl (w.setCells g off zeros9) 122 9 (.slice (some ⟨g, if c = 1 then off else off + 9, none⟩) n (c - 1)) n (q.flatMap qcs) := by
  have hl := h.1
  rw [List.flatMap_cons, List.length_append] at hl
  have hp : (qcs p).length = 9 := rfl
  rcases h.2 with ⟨h', _⟩ | ⟨g', off', c', cur, h', hz, h1, h2, h3, h4⟩
  · simp at h'
  · simp only [Value.slice.injEq, Option.some.injEq, Addr.mk.injEq, and_true, true_and] at h'
    obtain ⟨⟨rfl, rfl⟩, rfl⟩ := h'
    obtain ⟨cur', c1, c2, c3⟩ := setCells_heap g 122 zeros9 off w cur hz (by show off + 9 ≤ _; omega)
    refine ⟨by omega, .inr ⟨g, _, c - 1, cur', rfl, c1, by omega, by omega, ?_, fun j hj => ?_⟩⟩
    · rw [c2]; split <;> omega
    · rw [c3, if_neg (by show ¬ (off + 9 * 0 ≤ _ ∧ _ < off + 9); have : ¬ c = 1 := by omega
                         rw [if_neg this]; omega)]
      have : ¬ c = 1 := by omega
      rw [if_neg this, show off + 9 + j = off + (9 + j) by omega, h4 (9 + j) (by omega), List.flatMap_cons, List.getElem?_append_right (by omega), hp, Nat.add_sub_cancel_left]
section
variable (F : Nat → Prop) (b : Nat) (cl inc nd : Int) (V : Value) (p : Pq) (q : List Pq) (ex : Nat) (B : Option Addr) (cb : Nat) (r : List Nat) (w : World)
end
end Go.Proofs.Ytadeghfhjiohnaa.Tc

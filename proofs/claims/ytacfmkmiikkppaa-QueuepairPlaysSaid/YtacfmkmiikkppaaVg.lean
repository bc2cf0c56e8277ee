/-
  The program's Pieces.
-/
import Derived.Test.YtacfmkmiikkppaaVd
import Derived.RangeFuncNested
import Derived.RangeFuncBound
import Derived.RangeFuncCalls
import Derived.RangeFuncLeaves
import Derived.RangeFuncFrom
import Derived.RangeFuncBox
import Derived.Shelf.Abstract
import Derived.Shelf.RegionOpen
import Derived.OwnWalkIn
import Derived.TacticsInMore
import Derived.LoopNIn
import Derived.LoopIn
namespace Go.Proofs.Ytacfmkmiikkppaa.Vf
open Go.ChangeShapes Go.WideShapes Go.ChangeAt Go.RowKit Go.Shelf Ga Va Vb Vd
set_option linter.unusedVariables false
set_option linter.unusedSimpArgs false
set_option maxHeartbeats 4000000
set_option maxRecDepth 10000
attribute [local go_sem] Oper.semAt_some

/-- A piece, by value. -/
def pieceV (x : Nat × Nat) : Value := .agg #[.int .i64 (x.1 : Int), .int .i64 (x.2 : Int)]
def enc1 (x : Nat × Nat) : Array Value := #[.agg #[.int .i64 (x.1 : Int), .int .i64 (x.2 : Int)]]
/-- Where piece k of the words a to e begins. -/
def cutp (a e k : Nat) : Nat := if k = 0 then a else min (8 * (a / 8 + k)) e
def pcs (a e k : Nat) : List (Nat × Nat) := (List.range k).map fun j => (cutp a e j, cutp a e (j + 1) - cutp a e j)
def numP (a e : Nat) : Nat := (e - 1) / 8 - a / 8 + 1
theorem pcs_len (a e k : Nat) : (pcs a e k).length = k := by simp [pcs]
theorem pcs_more (a e k : Nat) : pcs a e (k + 1) = pcs a e k ++ [(cutp a e k, cutp a e (k + 1) - cutp a e k)] := by simp [pcs, List.range_succ]
theorem cut_lt' {a e k : Nat} (h : a < e) (hk : k < numP a e) : cutp a e k < e := by
  unfold cutp; unfold numP at hk; split <;> omega
theorem cut_end {a e : Nat} (h : a < e) : cutp a e (numP a e) = e := by
  unfold cutp numP; rw [if_neg (by omega)]; omega
theorem cut_next {a e k : Nat} (h : a < e) (hk : k < numP a e) : min (8 - cutp a e k % 8) (e - cutp a e k) = cutp a e (k + 1) - cutp a e k ∧ cutp a e k ≤ cutp a e (k + 1) ∧ cutp a e (k + 1) ≤ e := by
  unfold cutp; unfold numP at hk
  rw [if_neg (show ¬ k + 1 = 0 by omega)]
  by_cases h0 : k = 0
  · rw [if_pos h0]; subst h0; omega
  · rw [if_neg h0]
    have h1 : 8 * (a / 8 + k) < e := by omega
    rw [Nat.min_eq_left (Nat.le_of_lt h1)]
    have h2 : 8 * (a / 8 + k) % 8 = 0 := Nat.mul_mod_right 8 _
    omega
section
variable {k nd a n o ne : Int} {wa : Option Addr} {wl cp : Nat} {ky bo : Int} {W : World} {b : Nat}
theorem held_of (h : Bx W b k nd a n o ne wa wl cp ky bo) : (World.cell? W.drew (Addr.mk b 0 none) = some (Value.int IntKind.i64 k) ∧ World.cell? W.drew (Addr.mk b 1 none) = some (Value.int IntKind.i64 nd) ∧ World.cell? W.drew (Addr.mk b 2 none) = some (Value.int IntKind.i64 a) ∧ World.cell? W.drew (Addr.mk b 3 none) = some (Value.int IntKind.i64 n) ∧ World.cell? W.drew (Addr.mk b 4 none) = some (Value.int IntKind.u64 o) ∧ World.cell? W.drew (Addr.mk b 5 none) = some (Value.int IntKind.u64 ne) ∧ World.cell? W.drew (Addr.mk b 6 none) = some (Value.slice wa wl cp) ∧ World.cell? W.drew (Addr.mk b 7 none) = some (Value.int IntKind.u64 ky) ∧ World.cell? W.drew (Addr.mk b 8 none) = some (Value.int IntKind.i64 bo) ∧ Lk (Below (Array.size (World.heap W)) W W.drew)) :=
  ⟨h.c0, h.c1, h.c2, h.c3, h.c4, h.c5, h.c6, h.c7, h.c8, ⟨(Below.refl _ W).drew⟩⟩
theorem held_box {w : World} (h : (World.cell? W (Addr.mk b 0 none) = some (Value.int IntKind.i64 k) ∧ World.cell? W (Addr.mk b 1 none) = some (Value.int IntKind.i64 nd) ∧ World.cell? W (Addr.mk b 2 none) = some (Value.int IntKind.i64 a) ∧ World.cell? W (Addr.mk b 3 none) = some (Value.int IntKind.i64 n) ∧ World.cell? W (Addr.mk b 4 none) = some (Value.int IntKind.u64 o) ∧ World.cell? W (Addr.mk b 5 none) = some (Value.int IntKind.u64 ne) ∧ World.cell? W (Addr.mk b 6 none) = some (Value.slice wa wl cp) ∧ World.cell? W (Addr.mk b 7 none) = some (Value.int IntKind.u64 ky) ∧ World.cell? W (Addr.mk b 8 none) = some (Value.int IntKind.i64 bo) ∧ Lk (Below (Array.size (World.heap w)) w W))) : Bx W b k nd a n o ne wa wl cp ky bo :=
  ⟨h.1, h.2.1, h.2.2.1, h.2.2.2.1, h.2.2.2.2.1, h.2.2.2.2.2.1, h.2.2.2.2.2.2.1, h.2.2.2.2.2.2.2.1, h.2.2.2.2.2.2.2.2.1⟩
end
theorem grown_of_below {A B : World} (h : Below A.heap.size A B) : A.grownBy B none := ⟨h.os, h.tape, h.output, h.size, fun k hk _ => h.block k hk⟩
theorem pieces_any (k nd a n o ne : Int) (wa : Option Addr) (wl cp : Nat) (ky bo : Int) (w : World) :
    Calls Try.prog 86 #[(Value.agg #[Value.int IntKind.i64 k, Value.int IntKind.i64 nd, Value.int IntKind.i64 a, Value.int IntKind.i64 n, Value.int IntKind.u64 o, Value.int IntKind.u64 ne, Value.slice wa wl cp, Value.int IntKind.u64 ky, Value.int IntKind.i64 bo])] w fun e w' => e = .returned (.func (.func 95) #[] #[.pointer (some ⟨w.heap.size, 0, none⟩)]) ∧ w' = w.alloc (.cells #[Value.int IntKind.i64 k, Value.int IntKind.i64 nd, Value.int IntKind.i64 a, Value.int IntKind.i64 n, Value.int IntKind.u64 o, Value.int IntKind.u64 ne, Value.slice wa wl cp, Value.int IntKind.u64 ky, Value.int IntKind.i64 bo] 52) := by
  go_enter Try.func86, Try.ntmps86
  go_wp2
  go_ret
  exact ⟨rfl, rfl⟩
section
variable (k nd n o ne : Int) (a c : Nat) (wa : Option Addr) (wl cp : Nat) (ky bo : Int)
theorem pieces1_in (m : Nat) (hm : 1 ≤ m) (r Bs n₀ : Nat) (hc : cnt k n wl = c) (hc1 : 1 ≤ c) (hmax : a + c ≤ 4294967296) (J Jx : List (Nat × Nat) → World → Prop)
    (hY : ∀ pre x W, J pre W → pre.length < numP a (a + c) → YieldAt Fence.wide (m - 1) Try.prog r (enc1 x) W fun e W' =>
      (e = .returned (.bool true) ∧ J (pre ++ [x]) W' ∧ Below n₀ W W') ∨ (e = .returned (.bool false) ∧ Jx (pre ++ [x]) W'))
    (W : World) (HBs : Bx W Bs k nd a n o ne wa wl cp ky bo) (hJ : ∀ W', W.grownBy W' none → J [] W') (hn₀ : n₀ ≤ W.heap.size) :
    CallsIn Fence.wide m Try.prog 95 #[.func (.yield r) #[] #[], .pointer (some ⟨Bs, 0, none⟩)] W fun e W' => (∃ v, e = .returned v) ∧
      ((∃ ys, ys = pcs a (a + c) (numP a (a + c)) ∧ J ys W') ∨ (∃ pre, (∃ j, j ≤ numP a (a + c) ∧ pre = pcs a (a + c) j) ∧ Jx pre W')) := by
  have C := fun w => count_any k nd a n o ne wa wl cp ky bo w
  rw [hc] at C
  refine callsIn_wide.2 ?_
  have HX := Lk.mk (held_of HBs)
  have HE : Lk (a < a + c) := ⟨by omega⟩
  obtain ⟨e, he⟩ : ∃ e : Nat, a + c = e := ⟨_, rfl⟩
  have w1 : IntKind.i64.wrap ((a : Int) + c) = (e : Int) := by rw [IntWalk.i64_in _ (by omega)]; omega
  rw [he] at hmax hY HE ⊢
  clear he
  go_enter Try.func95, Try.ntmps95
  go_wp2_with fail
  go_region_held3 (fun W' => (World.cell? W' (Addr.mk Bs 0 none) = some (Value.int IntKind.i64 k) ∧ World.cell? W' (Addr.mk Bs 1 none) = some (Value.int IntKind.i64 nd) ∧ World.cell? W' (Addr.mk Bs 2 none) = some (Value.int IntKind.i64 a) ∧ World.cell? W' (Addr.mk Bs 3 none) = some (Value.int IntKind.i64 n) ∧ World.cell? W' (Addr.mk Bs 4 none) = some (Value.int IntKind.u64 o) ∧ World.cell? W' (Addr.mk Bs 5 none) = some (Value.int IntKind.u64 ne) ∧ World.cell? W' (Addr.mk Bs 6 none) = some (Value.slice wa wl cp) ∧ World.cell? W' (Addr.mk Bs 7 none) = some (Value.int IntKind.u64 ky) ∧ World.cell? W' (Addr.mk Bs 8 none) = some (Value.int IntKind.i64 bo) ∧ Lk (Below (Array.size (World.heap W)) W W'))) (first | exact HX.out | assumption | exact held_on (by assumption) (by assumption))
    (first | (go_at_call 78; refine (C _).mono ?_; rintro e w2 ⟨rfl, HB2⟩))
  have HC := Lk.mk (held_box (by assumption))
  have HB3 := held_below (by assumption)
  have hc2 := HC.out.c2
  clear HC HB2 HX HBs C w1
  have hJ0 := hJ _ (grown_of_below HB3.out)
  clear hJ
  go_wp2_with fail
  refine (wpIn_wide (n := m)).1 ?_
  gi_loopw [4] (fun i wr => ∃ j : Nat, j ≤ numP a e ∧ i = .int .i64 (cutp a e j : Nat) ∧ J (pcs a e j) wr ∧ Below n₀ w2 wr)
    (fun i _ => (e : Int).toNat - (intOf i).toNat)
  case atStart => exact ⟨0, Nat.zero_le _, rfl, hJ0, Below.refl _ _⟩
  case round =>
    clear hJ0 hc2
    obtain ⟨j, hj, rfl, hJs, hnx⟩ := hrel
    by_cases hlt : j < numP a e
    · have h1 := cut_lt' HE.out hlt
      obtain ⟨h2, h3, h4⟩ := cut_next HE.out hlt
      obtain ⟨fn, tmps, assign, body, hy, hR⟩ := hY _ (cutp a e j, cutp a e (j + 1) - cutp a e j) wr hJs (by rw [pcs_len]; exact hlt)
      rw [← pcs_more] at hR
      dsimp only [enc1] at hy
      obtain ⟨q, hq0⟩ : ∃ q, cutp a e (j + 1) = q := ⟨_, rfl⟩
      have HQ := Lk.mk hq0
      rw [hq0] at h2 h3 h4 hy
      clear hq0
      obtain ⟨p, hp0⟩ : ∃ p, cutp a e j = p := ⟨_, rfl⟩
      rw [hp0] at h1 h2 h3 hy ⊢
      clear hp0
      by_cases hmin : 8 - p % 8 ≤ e - p
      · rw [show ((q - p : Nat) : Int) = 8 - (p : Int) % 8 by omega] at hy
        have hq : (p : Int) + (8 - (p : Int) % 8) = q := by omega
        clear h2
        gi_wp2
        refine hR.mono ?_
        rintro e' W3 (⟨rfl, hJ3, hk3⟩ | ⟨rfl, hJx3⟩)
        · gi_wp2
          go_roundw
          case rel => exact ⟨j + 1, by omega, (by rw [HQ.out]), hJ3, hnx.trans hk3⟩
          case measure => simp [intOf] <;> omega
        · gi_wp2
          refine bodyPost_ret (results_none rfl _ _ _) rfl ?_
          exact ⟨⟨_, rfl⟩, .inr ⟨_, ⟨j + 1, by omega, rfl⟩, hJx3⟩⟩
      · rw [show ((q - p : Nat) : Int) = (e : Int) - p by omega] at hy
        have hq : (p : Int) + ((e : Int) - p) = q := by omega
        clear h2
        gi_wp2
        refine hR.mono ?_
        rintro e' W3 (⟨rfl, hJ3, hk3⟩ | ⟨rfl, hJx3⟩)
        · gi_wp2
          go_roundw
          case rel => exact ⟨j + 1, by omega, (by rw [HQ.out]), hJ3, hnx.trans hk3⟩
          case measure => simp [intOf] <;> omega
        · gi_wp2
          refine bodyPost_ret (results_none rfl _ _ _) rfl ?_
          exact ⟨⟨_, rfl⟩, .inr ⟨_, ⟨j + 1, by omega, rfl⟩, hJx3⟩⟩
    · obtain rfl : j = numP a e := by omega
      rw [cut_end HE.out]
      gi_wp2
      go_end0
      exact ⟨⟨_, rfl⟩, .inl ⟨_, rfl, hJs⟩⟩
end
theorem pieces_stops (k nd n o ne : Int) (a c : Nat) (wa : Option Addr) (wl cp : Nat) (ky bo : Int) (m : Nat) (hm : 1 ≤ m) (Bs n₀ : Nat) (hc : cnt k n wl = c) (hc1 : 1 ≤ c) (hmax : a + c ≤ 4294967296) (w : World) (hn₀ : n₀ ≤ w.heap.size)
    (HBs : Bx w Bs k nd a n o ne wa wl cp ky bo) :
    SeqStopsK Fence.wide m Try.prog 95 #[.pointer (some ⟨Bs, 0, none⟩)] enc1 (Below n₀) (fun ys => ys = pcs a (a + c) (numP a (a + c))) (fun pre => ∃ j, j ≤ numP a (a + c) ∧ pre = pcs a (a + c) j) (numP a (a + c)) w := fun r J Jx W hW hJ _ hY h0 => by
  refine (pieces1_in k nd n o ne a c wa wl cp ky bo m hm r Bs n₀ hc hc1 hmax J Jx hY W (HBs.on hW) (fun W' hg => hJ _ _ _ none h0 hg (fun r e => by cases e)) (by have := hW.size; omega)).mono ?_
  rintro e W' ⟨he, ⟨ys, rfl, hj⟩ | ⟨pre, hk, hj⟩⟩
  · exact ⟨he, .inl ⟨_, rfl, hj⟩⟩
  · exact ⟨he, .inr ⟨_, hk, hj⟩⟩
end Go.Proofs.Ytacfmkmiikkppaa.Vf
namespace Go.Proofs.Ytacfmkmiikkppaa.Vr
open Go.ChangeShapes Go.WideShapes Go.ChangeAt Go.RowKit Go.Shelf Ga Va Vb Vd Vf
set_option linter.unusedVariables false
set_option linter.unusedSimpArgs false

section
variable {α : Type} {g : Operand} {ps : Array Tmp} {assign body : Code} {Q : Exit → Act → World → Prop} {a : Act} {w : World} {m : Nat} {P : Program} {gf : Nat} {lb : Array Value}
  {encs : α → Array Value} {S Sp : List α → Prop} {N n₀ : Nat}
/-- The loop in the wide fence, without an exit of its own. I: what holds between rounds; M: behind the assignment, with the frame that it leaves. -/
theorem range_lays (hm : 1 ≤ m) (hg : a.eval g = .func (.func gf) #[] lb) (eg : ∀ args w, (callFunc gf args).run P w = .ok (.enter gf args) w)
    (hseq : SeqStopsK Fence.wide (m - 1) P gf lb encs (Below n₀) S Sp N w) (hn₀ : n₀ ≤ w.heap.size) (hps : ∀ x, (encs x).size = ps.size)
    (I : List α → World → Prop) (M : List α → α → Act → World → Prop) (hI : OwnFrom w.heap.size I) (hM : ∀ pre x b, OwnFrom w.heap.size (fun (_ : Unit) W => M pre x b W)) (h0 : I [] w)
    (hassign : ∀ (l : Nat) (pre : List α) (x : α) (W : World) (K : Act → World → Prop), I pre W → pre.length < N → (∀ b W₁, KeepsOthers W W₁ → Below n₀ W W₁ → M pre x b W₁ → K b W₁) →
      assign.wpIn (Fence.wide.inRound l) (m - 1 - 1) P (Exit.then K (fun _ _ _ => False)) { tmps := (ps.zip (encs x)).foldl (fun t (p, v) => t.setIfInBounds p v) a.tmps, defers := [] } W)
    (hbody : ∀ (l : Nat) (pre : List α) (x : α) (b : Act) (W : World), M pre x b W → pre.length < N → body.wpIn (Fence.wide.inRound l) (m - 1 - 1) P (ownPostK (Below n₀) I (fun _ _ _ => False) (pre ++ [x]) W) b W)
    (hdone : ∀ (D : Nat) (xs : List α) (W : World), w.heap.size ≤ D → S xs → I xs W → W.heap[D]? = some (.deferred (some [])) → Q .normal { a with defers := { target := .collected D, args := #[] } :: a.defers } W) :
    (Code.rangeFunc g ps assign body).wpIn Fence.wide m P Q a w := by
  refine wpIn_rangeFunc fun fn _ => ?_
  let R : LoopState → Option Code → Loop := fun st pe => { state := st, pending := pe, fn, tmps := a.tmps, params := ps, assign, body, defers := w.heap.size }
  let V : World := (w.alloc (.deferred (some []))).alloc (.loop (R .ready none))
  have vL : V.heap[w.heap.size + 1]? = some (.loop (R .ready none)) := by
    have := World.alloc_heap_new (w.alloc (.deferred (some []))) (.loop (R .ready none))
    rwa [World.size_alloc] at this
  have vK : V.heap[w.heap.size]? = some (.deferred (some [])) := (Below.heap_alloc _ _ _ (by simp)).trans (World.alloc_heap_new w _)
  have vI : I [] V := hI.alloc _ (hI.alloc _ h0)
  have vB : Below w.heap.size w V := ((Below.refl _ w).alloc (Nat.le_refl _) _).alloc (by simp) _
  -- a turn of the loop's record
  have put : ∀ (W : World) (o : Obj) (st : LoopState) (pe : Option Code), W.heap[w.heap.size + 1]? = some (.loop (R st pe)) → Below n₀ W (W.putObj (w.heap.size + 1) o) := fun W o st pe h =>
    belowK_b (w := w) hn₀ W (w.heap.size + 1) (.loop (R st pe)) o (by omega) h rfl rfl
  refine ⟨w.heap.size + 1, [{ target := .collected w.heap.size, args := #[] }], V, { target := .fn (.func gf) lb, args := #[.func (.yield (w.heap.size + 1)) #[] #[]] }, V, gf,
    #[.func (.yield (w.heap.size + 1)) #[] #[]] ++ lb, V, ?_, ?_, ?_, ?_, fun _ => hm, ?_⟩
  · exact run_enterLoop_outer _ _ _ _ _
  · simp only [resolve, hg]
    simp [go_sem]
  · intro f' _; trivial
  · simp [invoke, go_sem, eg]
  · let J : List α → World → Prop := fun pre W => I pre W ∧ W.heap[w.heap.size + 1]? = some (.loop (R .ready none)) ∧ W.heap[w.heap.size]? = some (.deferred (some []))
    have hJ : AbidesFrom V.heap.size J := fun s A B row hs hgr hr => by
      have hr' : ∀ r, row = some r → w.heap.size ≤ r ∧ ∃ o : Obj, A.heap[r]? = some o ∧ o.isCells = false := fun r e => by
        obtain ⟨hB, o, ho, hw⟩ := hr r e
        exact ⟨Nat.le_trans vB.size hB, o, ho, Obj.not_cells_of_walk hw⟩
      exact ⟨hI s A B row hs.1 hgr hr', (grownBy_keeps hgr (fun r e => (hr r e).2) hs.2.1 rfl).trans hs.2.1, (grownBy_keeps hgr (fun r e => (hr r e).2) hs.2.2 rfl).trans hs.2.2⟩
    refine (hseq (w.heap.size + 1) J (fun _ _ => False) V vB hJ (fun _ _ _ _ h _ _ => h) ?_ ⟨vI, vL, vK⟩).mono ?_
    · rintro pre x W ⟨hi, hl, hk⟩ hlen
      have hy := run_yield (P := P) (args := encs x) hl (hps x)
      refine ⟨fn, _, assign, body, hy, roundIn_of_wpIn trivial (hassign _ pre x W _ hi hlen fun b W₁ k₁ b₁ m₁ => ?_)⟩
      have hl₁ := k₁.same _ _ hl rfl
      have hk₁ := k₁.same _ _ hk rfl
      refine ⟨_, run_beginRound hl₁ rfl, ?_⟩
      have hlt : w.heap.size + 1 < W₁.heap.size := (Array.getElem?_eq_some_iff.1 hl₁).1
      have hl₂ : (W₁.putObj (w.heap.size + 1) (.loop { R .ready none with state := .busy })).heap[w.heap.size + 1]? = some (.loop (R .busy none)) := World.putObj_heap_same hlt
      have hk₂ : (W₁.putObj (w.heap.size + 1) (.loop { R .ready none with state := .busy })).heap[w.heap.size]? = some (.deferred (some [])) := (World.putObj_heap_other (by omega)).trans hk₁
      have b₂ := put W₁ (.loop { R .ready none with state := .busy }) .ready none hl₁
      have m₂ := (hM pre x b).putObj (s := ()) (.loop { R .ready none with state := .busy }) m₁ (show w.heap.size ≤ w.heap.size + 1 by omega) hl₁ rfl
      refine wpIn_mono (hbody _ pre x b _ m₂ hlen) ?_
      rintro e b₃ W₃ hp
      cases e with
      | normal =>
        obtain ⟨k₃, b₄, i₃⟩ := hp
        have hl₃ := k₃.same _ _ hl₂ rfl
        have hk₃ := k₃.same _ _ hk₂ rfl
        exact ⟨_, _, run_endRound (P := P) none hl₃, .inl ⟨rfl, ⟨hI.putObj _ i₃ (by omega) hl₃ rfl, World.putObj_heap_same (Array.getElem?_eq_some_iff.1 hl₃).1, (World.putObj_heap_other (by omega)).trans hk₃⟩,
          ((b₁.trans b₂).trans b₄).trans (put W₃ _ .busy none hl₃)⟩⟩
      | ret => exact hp.2.elim
      | exit id => exact hp.2.elim
      | goto t => exact hp.2.elim
      | panic ch => exact hp.elim
      | outgrown => exact hp.elim
    · rintro e W2 ⟨⟨v, rfl⟩, (⟨xs, hS, hi, hl, hk⟩ | ⟨pre, _, hf⟩)⟩
      · exact ⟨none, _, run_endLoop (P := P) hl (by simp [R]), hdone _ xs _ (Nat.le_refl _) hS (hI.putObj _ hi (by omega) hl rfl) ((World.putObj_heap_other (by omega)).trans hk)⟩
      · exact hf.elim
end
end Go.Proofs.Ytacfmkmiikkppaa.Vr
namespace Go.Proofs.Ytacfmkmiikkppaa.Vg
open Go.ChangeShapes Go.WideShapes Go.ChangeAt Go.RowKit Go.Shelf Ga Va Vb Vd Vf Vr
set_option linter.unusedVariables false
set_option linter.unusedSimpArgs false
set_option maxHeartbeats 4000000
set_option maxRecDepth 10000
attribute [local go_sem] Oper.semAt_some

/-- The cells of a row of pieces. -/
def flat (l : List (Nat × Nat)) : List Value := l.flatMap fun x => [.int .i64 (x.1 : Int), .int .i64 (x.2 : Int)]
theorem flat_more (l : List (Nat × Nat)) (x : Nat × Nat) : flat (l ++ [x]) = flat l ++ [.int .i64 (x.1 : Int), .int .i64 (x.2 : Int)] := by simp [flat]
theorem pinfo : (Try.prog.info? 101).map (fun i => (i.zero, i.size, i.bytes)) = some (some (.agg #[.int .i64 0, .int .i64 0]), 2, 16) := by kernel_rfl
/-- What has come: a row of pieces in the box of l. -/
def Got (n₀ L : Nat) (w : World) (pre : List (Nat × Nat)) (W : World) : Prop := (∃ v, Boxed W L 98 v ∧ W.ownsRow n₀ 101 2 v pre.length (flat pre) ∧ True) ∧ Below n₀ w W

theorem got_own {n₀ L B : Nat} {w : World} (h1 : n₀ ≤ w.heap.size) (h2 : n₀ ≤ B) : OwnFrom B (Got n₀ L w) :=
  OwnFrom.and (Own.from (holdsRow_own n₀ L 98 101 2 List.length flat (fun _ _ => True)) _) (ownFrom_below h1 h2)
/-- Behind the assignment of a round: the frame, the variable's box, what has come. -/
def Mid (n₀ L : Nat) (w : World) (f : Nat → Act) (pre : List (Nat × Nat)) (x : Nat × Nat) (b : Act) (W : World) : Prop :=
  ∃ Pb, b = f Pb ∧ W.heap[Pb]? = some (.cells #[.int .i64 (x.1 : Int), .int .i64 (x.2 : Int)] 101 (0, 0)) ∧ Got n₀ L w pre W
theorem mid_own {n₀ L B : Nat} {w : World} {f : Nat → Act} {pre : List (Nat × Nat)} {x : Nat × Nat} {b : Act} (h1 : n₀ ≤ w.heap.size) (h2 : n₀ ≤ B) : OwnFrom B (fun (_ : Unit) W => Mid n₀ L w f pre x b W) := by
  rintro s W W' row ⟨Pb, hb, hp, hg⟩ hgr hr
  refine ⟨Pb, hb, (hgr.block Pb (Array.getElem?_eq_some_iff.1 hp).1 fun e => ?_).trans hp, got_own h1 h2 pre W W' row hg hgr hr⟩
  obtain ⟨_, o, ho, hc⟩ := hr Pb e.symm
  rw [hp] at ho; cases ho; cases hc
theorem Pieces_ok (k nd n o ne : Int) (a c : Nat) (wa : Option Addr) (wl cp : Nat) (ky bo : Int) (w : World) (hc : cnt k n wl = c) (hc1 : 1 ≤ c) (hmax : a + c ≤ 2048) (hv : validC k nd a c 5 256 = 0) :
    Calls Try.prog 53 #[(Value.agg #[Value.int IntKind.i64 k, Value.int IntKind.i64 nd, Value.int IntKind.i64 a, Value.int IntKind.i64 n, Value.int IntKind.u64 o, Value.int IntKind.u64 ne, Value.slice wa wl cp, Value.int IntKind.u64 ky, Value.int IntKind.i64 bo])] w fun e w' => ∃ v, e = .returned v ∧ Lk (w'.ownsRow w.heap.size 101 2 v (numP a (a + c)) (flat (pcs a (a + c) (numP a (a + c))))) ∧ Lk (Below w.heap.size w w') := by
  obtain ⟨i0, hi, hz0, hz1, hz2⟩ := info_parts pinfo
  have C1 := fun w => valid_ok k nd a n o ne wa wl cp ky bo w 5 256 (by omega)
  have C2 := fun w => span_ok k nd a n o ne wa wl cp ky bo w (by omega) (by omega) (by omega)
  have C3 := fun w => pieces_any k nd a n o ne wa wl cp ky bo w
  rw [hc, hv] at C1
  rw [hc] at C2
  have e1 : fstL a = ((a / 8 : Nat) : Int) := by unfold fstL; omega
  have e2 : lstL a c = (((a + c - 1) / 8 : Nat) : Int) := by unfold lstL; omega
  rw [e1, e2] at C2
  obtain ⟨K, hK⟩ : ∃ K, numP a (a + c) = K := ⟨_, rfl⟩
  have hK1 : (((a + c - 1) / 8 : Nat) : Int) - ((a / 8 : Nat) : Int) + 1 = K := by rw [← hK]; unfold numP; omega
  have hK2 : K ≤ 256 := by rw [← hK]; unfold numP; omega
  have HK := Lk.mk hK
  generalize (a + c - 1) / 8 = l at *
  generalize a / 8 = f at *
  have hl : (l : Int) - f = K - 1 := by omega
  have hK0 : 1 ≤ K := by rw [← hK]; unfold numP; omega
  clear e1 e2 hK1 hK hv
  refine (callsIn_wide (n := 8)).1 ?_
  refine callsIn_of_wp_marks Try.func53 rfl trivial ?_ rfl
  simp only [Try.ntmps53, List.size_toArray, List.length_cons, List.length_nil, Nat.reduceAdd, Nat.reduceSub, Array.replicate_succ, Array.replicate_zero, List.push_toArray, List.append_toArray, List.nil_append, List.cons_append]
  refine wpIn_wide.2 ?_
  go_wp2_with fail
  generalize hW : w.alloc _ = W at *
  have HX := Lk.mk (Bx.alloc w k nd a n o ne wa wl cp ky bo 52)
  have HB := Lk.mk ((Below.refl _ w).alloc (Nat.le_refl _) (.cells #[Value.int IntKind.i64 k, Value.int IntKind.i64 nd, Value.int IntKind.i64 a, Value.int IntKind.i64 n, Value.int IntKind.u64 o, Value.int IntKind.u64 ne, Value.slice wa wl cp, Value.int IntKind.u64 ky, Value.int IntKind.i64 bo] 52))
  rw [hW] at HX HB
  clear hW
  refine (C1 _).mono ?_
  rintro e w3 ⟨rfl, HB3⟩
  have HX3 := Lk.mk (HX.out.on HB3.out)
  have HB4 := Lk.mk (HB.out.trans (HB3.out.mono HB.out.size))
  obtain ⟨c0, c1, c2, c3, c4, c5, c6, c7, c8⟩ := HX3.out
  clear HX HB HB3 C1
  go_wp2_with fail
  clear c0 c1 c2 c3 c4 c5 c6 c7 c8
  refine (C2 _).mono ?_
  rintro e w4 ⟨rfl, HB3⟩
  have HX4 := Lk.mk (HX3.out.on HB3.out)
  have HB5 := Lk.mk (HB4.out.trans (HB3.out.mono HB4.out.size))
  clear HX3 HB4 HB3 C2
  go_wp2_with (first
    | (at_make; refine wpList_make_own _ rfl _ _ 98 rfl w.heap.size 101 i0 (.agg #[.int .i64 0, .int .i64 0]) 2 Try.underlying98 hi hz0 hz1 .i64 .i64 _ K rfl rfl (by first | rfl | omega) ?b2 ?b3 ?b4 ?_))
  case b2 => rw [hz2]; omega
  case b3 => unfold maxLen; omega
  case b4 => exact HB5.out.size
  intro w5 hown hgrow
  have HO5 := Lk.mk hown
  have HB6 := Lk.mk (HB5.out.grown hgrow HB5.out.size (fun k hk => by cases hk))
  have HX5 := Lk.mk (HX4.out.on ⟨hgrow.os, hgrow.tape, hgrow.output, hgrow.size, fun k hk => hgrow.block k hk (by simp)⟩)
  clear hown hgrow HX4 HB5
  generalize w4.heap.size = gs at *
  go_upto_region 5 with fail
  have HGot := Lk.mk (show Got w.heap.size w5.heap.size w [] (w5.alloc (.cells #[.slice (some ⟨gs, 0, none⟩) 0 K] 98)) from
    ⟨⟨_, Boxed.new w5 98 _, HO5.out.kept (World.grownBy_alloc w5 _ none) (.inr (by simp [Value.ownBlock])), trivial⟩, HB6.out.alloc HB6.out.size _⟩)
  have HX6 := Lk.mk (HX5.out.on ((Below.refl _ w5).alloc (Nat.le_refl _) (.cells #[.slice (some ⟨gs, 0, none⟩) 0 K] 98)))
  have HL := Lk.mk HB6.out.size
  generalize w5.alloc _ = w6 at *
  generalize w5.heap.size = L at *
  clear HX5 HB6 HO5
  obtain ⟨c0, c1, c2, c3, c4, c5, c6, c7, c8⟩ := HX6.out
  go_wp2_with fail
  clear c0 c1 c2 c3 c4 c5 c6 c7 c8
  refine (C3 _).mono ?_
  rintro e w7 ⟨rfl, rfl⟩
  go_wp2_with fail
  have HX7 := Lk.mk (Bx.alloc w6 k nd a n o ne wa wl cp ky bo 52)
  have HG7 := Lk.mk (show Got w.heap.size L w [] (w6.alloc (.cells #[Value.int IntKind.i64 k, Value.int IntKind.i64 nd, Value.int IntKind.i64 a, Value.int IntKind.i64 n, Value.int IntKind.u64 o, Value.int IntKind.u64 ne, Value.slice wa wl cp, Value.int IntKind.u64 ky, Value.int IntKind.i64 bo] 52)) from by
    obtain ⟨⟨v, hb, ho, _⟩, hB⟩ := HGot.out
    refine ⟨⟨v, hb.alloc _, ho.kept (World.grownBy_alloc w6 _ none) ?_, trivial⟩, hB.alloc hB.size _⟩
    rcases ho.2 with ⟨rfl, _⟩ | ⟨g, cap, cur, rfl, _⟩
    · exact .inl rfl
    · exact .inr (by simp [Value.ownBlock]))
  have HS := Lk.mk (show w.heap.size ≤ w6.heap.size from HGot.out.2.size)
  generalize w6.alloc _ = w7 at *
  generalize hg7 : w6.heap.size = G at *
  clear HX6 HGot C3 hl
  have hsz : w.heap.size ≤ w7.heap.size := HG7.out.2.size
  refine (wpIn_wide (n := 8)).1 ?_
  refine range_lays (m := 8) (by decide) (gf := 95) (lb := #[.pointer (some ⟨G, 0, none⟩)]) rfl (enters_of Try.func95 (by kernel_rfl) rfl)
    (pieces_stops k nd n o ne a c wa wl cp ky bo 7 (by decide) G w.heap.size hc hc1 (by omega) w7 hsz HX7.out) hsz (fun _ => rfl)
    (Got w.heap.size L w) (fun pre x b W => Mid w.heap.size L w (fun Pb => { tmps := #[(Value.agg #[Value.int IntKind.i64 k, Value.int IntKind.i64 nd, Value.int IntKind.i64 ((a : Int)), Value.int IntKind.i64 n, Value.int IntKind.u64 o, Value.int IntKind.u64 ne, Value.slice wa wl cp, Value.int IntKind.u64 ky, Value.int IntKind.i64 bo]), Value.pointer (some ⟨w.heap.size, 0, none⟩), Value.slice none 0 0, Value.int IntKind.i64 f, Value.int IntKind.i64 l, Value.pointer (some ⟨L, 0, none⟩), Value.pointer (some ⟨Pb, 0, none⟩), (Value.agg #[Value.int IntKind.i64 k, Value.int IntKind.i64 nd, Value.int IntKind.i64 ((a : Int)), Value.int IntKind.i64 n, Value.int IntKind.u64 o, Value.int IntKind.u64 ne, Value.slice wa wl cp, Value.int IntKind.u64 ky, Value.int IntKind.i64 bo]),
          Value.int IntKind.i64 0, Value.bool false, Value.tuple #[Value.int IntKind.i64 f, Value.int IntKind.i64 l],
          (Value.agg #[Value.int IntKind.i64 k, Value.int IntKind.i64 nd, Value.int IntKind.i64 ((a : Int)), Value.int IntKind.i64 n, Value.int IntKind.u64 o, Value.int IntKind.u64 ne, Value.slice wa wl cp, Value.int IntKind.u64 ky, Value.int IntKind.i64 bo]),
          Value.tuple #[Value.int IntKind.i64 f, Value.int IntKind.i64 l], Value.int IntKind.i64 f,
          Value.int IntKind.i64 l, Value.int IntKind.i64 l, Value.int IntKind.i64 f, Value.int IntKind.i64 (K - 1),
          Value.int IntKind.i64 K, Value.slice (some ⟨gs, 0, none⟩) 0 K,
          (Value.agg #[Value.int IntKind.i64 k, Value.int IntKind.i64 nd, Value.int IntKind.i64 ((a : Int)), Value.int IntKind.i64 n, Value.int IntKind.u64 o, Value.int IntKind.u64 ne, Value.slice wa wl cp, Value.int IntKind.u64 ky, Value.int IntKind.i64 bo]),
          Value.func (Fn.func 95) #[] #[Value.pointer (some ⟨G, 0, none⟩)], pieceV x, undef, undef, undef, undef, undef], defers := [] }) pre x b W)
    (got_own (Nat.le_refl _) hsz) (fun _ _ _ => mid_own (Nat.le_refl _) hsz) HG7.out ?assign ?body ?done
  case assign =>
    intro q pre x W K' hG _ hK'
    simp only [enc1]
    gi_wp2
    exact hK' _ _ (KeepsOthers.alloc W _) ((Below.refl _ W).alloc hG.2.size _) ⟨W.heap.size, rfl, heap_alloc_new _ _, (got_own (B := w.heap.size) (Nat.le_refl _) (Nat.le_refl _)).alloc _ hG⟩
  case body =>
    rintro q pre x b W ⟨Pb, rfl, hp, ⟨v, hv, ho, _⟩, hB⟩ hlen
    have hlen : pre.length < 256 := by rw [HK.out] at hlen; omega
    have hc0 : W.cell? ⟨L, 0, none⟩ = some v := hv.cell
    have hp0 : W.cell? ⟨Pb, 0, none⟩ = some (.int .i64 (x.1 : Int)) := (cell_of_row W Pb 0 _ _ _ hp).trans rfl
    have hp1 : W.cell? ⟨Pb, 1, none⟩ = some (.int .i64 (x.2 : Int)) := (cell_of_row W Pb 1 _ _ _ hp).trans rfl
    have HV := Lk.mk hv
    have HO := Lk.mk ho
    have HB' := Lk.mk hB
    clear hv ho hB
    gi_wp2_with (first
      | (gi_at_builtin; refine wpListIn_append_own _ rfl _ _ 98 rfl w.heap.size 101 i0 (.agg #[.int .i64 0, .int .i64 0]) 2 16 Try.underlying98 hi hz0 hz1 hz2 rfl (by decide) _ _ _ rfl (HO.out.alloc _) ⟨W.heap.size, 0, none⟩ 1 1 [.int .i64 (x.1 : Int), .int .i64 (x.2 : Int)] rfl rfl ?c1 ?c2 ?c3 ?c4 ?c5 ?_))
    case c1 =>
      intro j u hj
      match j, hj with
      | 0, hj => simp at hj; subst hj; simp [Addr.add]
      | 1, hj => simp at hj; subst hj; simp [Addr.add]
    case c2 => intro u hu; simp at hu; rcases hu with rfl | rfl <;> rfl
    case c3 => unfold maxLen; omega
    case c4 => omega
    case c5 => have := HB'.out.size; simp; omega
    intro v' w1 hown' hgrow _
    obtain ⟨h1, h2, h3, h4, h5⟩ := HV.out.appended (by decide) HO.out HB'.out.size HL.out hown' hgrow
    obtain ⟨g', cap', rfl⟩ := ownsRow_succ hown'
    have s0 : w1.cell? ⟨L, 0, none⟩ = some v := h1.cell
    have s1 : w1.frozen? ⟨L, 0, none⟩ = false := h1.frozen
    have H2 := Lk.mk h2
    have H3 := Lk.mk h3
    have H4 := Lk.mk h4
    have H5 := Lk.mk h5
    clear h1 h2 h3 h4 h5 hown' hgrow
    gi_wp2
    refine ⟨H4.out, H5.out, ⟨_, H2.out, ?_, trivial⟩, HB'.out.trans H5.out⟩
    rw [List.length_append, flat_more]
    exact H3.out
  case done =>
    rintro D ys W hD rfl ⟨⟨v, hv, ho, _⟩, hB⟩ hKD
    have hc0 : W.cell? ⟨L, 0, none⟩ = some v := hv.cell
    rw [pcs_len] at ho
    have HO := Lk.mk ho
    have HB' := Lk.mk hB
    clear hv ho hB
    go_wp2
    refine ⟨by simp, .inl ⟨_, _, rfl, run_takeDeferred hKD, ?_⟩⟩
    exact ⟨_, results_tmp rfl _ _ _, v, rfl, ⟨ownsRow_putObj HO.out _ hKD rfl⟩, ⟨HB'.out.trans (belowK_b (w := w) (Nat.le_refl _) W D _ _ (by omega) hKD rfl rfl)⟩⟩
end Go.Proofs.Ytacfmkmiikkppaa.Vg

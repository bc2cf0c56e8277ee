/-
  The pieces of a verb: the closure that yields them.
-/
import Derived.Test.YtpehhldfegjajaaVd
import Derived.RangeFuncNested
import Derived.RangeFuncBound
import Derived.RangeFuncCalls
import Derived.RangeFuncLeaves
import Derived.RangeFuncFrom
import Derived.RangeFuncBox
import Derived.Shelf.Abstract
import Derived.Shelf.RegionOpen
import Derived.OwnWalkIn
import Derived.TacticsInMore
import Derived.LoopNIn
import Derived.LoopIn
namespace Go.Proofs.Ytpehhldfegjajaa.Vf
open Go.ChangeShapes Go.WideShapes Go.ChangeAt Go.RowKit Go.Shelf Ga Va Vb Vd
set_option linter.unusedVariables false
set_option linter.unusedSimpArgs false
set_option maxHeartbeats 4000000
set_option maxRecDepth 10000
attribute [local go_sem] Oper.semAt_some

/-- A piece, by value. -/
def pieceV (x : Nat × Nat) : Value := .agg #[.int .i64 (x.1 : Int), .int .i64 (x.2 : Int)]
def enc1 (x : Nat × Nat) : Array Value := #[.agg #[.int .i64 (x.1 : Int), .int .i64 (x.2 : Int)]]
/-- Where piece k of the words a to e begins. -/
def cutp (a e k : Nat) : Nat := if k = 0 then a else min (8 * (a / 8 + k)) e
def pcs (a e k : Nat) : List (Nat × Nat) := (List.range k).map fun j => (cutp a e j, cutp a e (j + 1) - cutp a e j)
def numP (a e : Nat) : Nat := (e - 1) / 8 - a / 8 + 1
theorem pcs_len (a e k : Nat) : (pcs a e k).length = k := by simp [pcs]
theorem pcs_more (a e k : Nat) : pcs a e (k + 1) = pcs a e k ++ [(cutp a e k, cutp a e (k + 1) - cutp a e k)] := by simp [pcs, List.range_succ]
theorem cut_lt' {a e k : Nat} (h : a < e) (hk : k < numP a e) : cutp a e k < e := by
  unfold cutp; unfold numP at hk; split <;> omega
theorem cut_end {a e : Nat} (h : a < e) : cutp a e (numP a e) = e := by
  unfold cutp numP; rw [if_neg (by omega)]; omega
theorem cut_next {a e k : Nat} (h : a < e) (hk : k < numP a e) : min (8 - cutp a e k % 8) (e - cutp a e k) = cutp a e (k + 1) - cutp a e k ∧ cutp a e k ≤ cutp a e (k + 1) ∧ cutp a e (k + 1) ≤ e := by
  unfold cutp; unfold numP at hk
  rw [if_neg (show ¬ k + 1 = 0 by omega)]
  by_cases h0 : k = 0
  · rw [if_pos h0]; subst h0; omega
  · rw [if_neg h0]
    have h1 : 8 * (a / 8 + k) < e := by omega
    rw [Nat.min_eq_left (Nat.le_of_lt h1)]
    have h2 : 8 * (a / 8 + k) % 8 = 0 := Nat.mul_mod_right 8 _
    omega
section
variable {k nd a n o ne : Int} {wa : Option Addr} {wl cp : Nat} {ky bo : Int} {W : World} {b : Nat}
theorem held_of (h : Bx W b k nd a n o ne wa wl cp ky bo) : (World.cell? W.drew (Addr.mk b 0 none) = some (Value.int IntKind.i64 k) ∧ World.cell? W.drew (Addr.mk b 1 none) = some (Value.int IntKind.i64 nd) ∧ World.cell? W.drew (Addr.mk b 2 none) = some (Value.int IntKind.i64 a) ∧ World.cell? W.drew (Addr.mk b 3 none) = some (Value.int IntKind.i64 n) ∧ World.cell? W.drew (Addr.mk b 4 none) = some (Value.int IntKind.u64 o) ∧ World.cell? W.drew (Addr.mk b 5 none) = some (Value.int IntKind.u64 ne) ∧ World.cell? W.drew (Addr.mk b 6 none) = some (Value.slice wa wl cp) ∧ World.cell? W.drew (Addr.mk b 7 none) = some (Value.int IntKind.u64 ky) ∧ World.cell? W.drew (Addr.mk b 8 none) = some (Value.int IntKind.i64 bo) ∧ Lk (Below (Array.size (World.heap W)) W W.drew)) :=
  ⟨h.c0, h.c1, h.c2, h.c3, h.c4, h.c5, h.c6, h.c7, h.c8, ⟨(Below.refl _ W).drew⟩⟩
theorem held_box {w : World} (h : (World.cell? W (Addr.mk b 0 none) = some (Value.int IntKind.i64 k) ∧ World.cell? W (Addr.mk b 1 none) = some (Value.int IntKind.i64 nd) ∧ World.cell? W (Addr.mk b 2 none) = some (Value.int IntKind.i64 a) ∧ World.cell? W (Addr.mk b 3 none) = some (Value.int IntKind.i64 n) ∧ World.cell? W (Addr.mk b 4 none) = some (Value.int IntKind.u64 o) ∧ World.cell? W (Addr.mk b 5 none) = some (Value.int IntKind.u64 ne) ∧ World.cell? W (Addr.mk b 6 none) = some (Value.slice wa wl cp) ∧ World.cell? W (Addr.mk b 7 none) = some (Value.int IntKind.u64 ky) ∧ World.cell? W (Addr.mk b 8 none) = some (Value.int IntKind.i64 bo) ∧ Lk (Below (Array.size (World.heap w)) w W))) : Bx W b k nd a n o ne wa wl cp ky bo :=
  ⟨h.1, h.2.1, h.2.2.1, h.2.2.2.1, h.2.2.2.2.1, h.2.2.2.2.2.1, h.2.2.2.2.2.2.1, h.2.2.2.2.2.2.2.1, h.2.2.2.2.2.2.2.2.1⟩
end
theorem grown_of_below {A B : World} (h : Below A.heap.size A B) : A.grownBy B none := ⟨h.os, h.tape, h.output, h.size, fun k hk _ => h.block k hk⟩
theorem pieces_any (k nd a n o ne : Int) (wa : Option Addr) (wl cp : Nat) (ky bo : Int) (w : World) :
    Calls Try.prog 86 #[(Value.agg #[Value.int IntKind.i64 k, Value.int IntKind.i64 nd, Value.int IntKind.i64 a, Value.int IntKind.i64 n, Value.int IntKind.u64 o, Value.int IntKind.u64 ne, Value.slice wa wl cp, Value.int IntKind.u64 ky, Value.int IntKind.i64 bo])] w fun e w' => e = .returned (.func (.func 95) #[] #[.pointer (some ⟨w.heap.size, 0, none⟩)]) ∧ w' = w.alloc (.cells #[Value.int IntKind.i64 k, Value.int IntKind.i64 nd, Value.int IntKind.i64 a, Value.int IntKind.i64 n, Value.int IntKind.u64 o, Value.int IntKind.u64 ne, Value.slice wa wl cp, Value.int IntKind.u64 ky, Value.int IntKind.i64 bo] 56) := by
  go_enter Try.func86, Try.ntmps86
  go_wp2
  go_ret
  exact ⟨rfl, rfl⟩
section
variable (k nd n o ne : Int) (a c : Nat) (wa : Option Addr) (wl cp : Nat) (ky bo : Int)
theorem pieces1_in (m : Nat) (hm : 1 ≤ m) (r Bs n₀ : Nat) (hc : cnt k n wl = c) (hc1 : 1 ≤ c) (hmax : a + c ≤ 4294967296) (J Jx : List (Nat × Nat) → World → Prop)
    (hY : ∀ pre x W, J pre W → pre.length < numP a (a + c) → YieldAt Fence.wide (m - 1) Try.prog r (enc1 x) W fun e W' =>
      (e = .returned (.bool true) ∧ J (pre ++ [x]) W' ∧ Below n₀ W W') ∨ (e = .returned (.bool false) ∧ Jx (pre ++ [x]) W'))
    (W : World) (HBs : Bx W Bs k nd a n o ne wa wl cp ky bo) (hJ : ∀ W', W.grownBy W' none → J [] W') (hn₀ : n₀ ≤ W.heap.size) :
    CallsIn Fence.wide m Try.prog 95 #[.func (.yield r) #[] #[], .pointer (some ⟨Bs, 0, none⟩)] W fun e W' => (∃ v, e = .returned v) ∧
      ((∃ ys, ys = pcs a (a + c) (numP a (a + c)) ∧ J ys W') ∨ (∃ pre, (∃ j, j ≤ numP a (a + c) ∧ pre = pcs a (a + c) j) ∧ Jx pre W')) := by
  have C := fun w => count_any k nd a n o ne wa wl cp ky bo w
  rw [hc] at C
  refine callsIn_wide.2 ?_
  have HX := Lk.mk (held_of HBs)
  have HE : Lk (a < a + c) := ⟨by omega⟩
  obtain ⟨e, he⟩ : ∃ e : Nat, a + c = e := ⟨_, rfl⟩
  have w1 : IntKind.i64.wrap ((a : Int) + c) = (e : Int) := by rw [IntWalk.i64_in _ (by omega)]; omega
  rw [he] at hmax hY HE ⊢
  clear he
  go_enter Try.func95, Try.ntmps95
  go_wp2_with fail
  go_region_held3 (fun W' => (World.cell? W' (Addr.mk Bs 0 none) = some (Value.int IntKind.i64 k) ∧ World.cell? W' (Addr.mk Bs 1 none) = some (Value.int IntKind.i64 nd) ∧ World.cell? W' (Addr.mk Bs 2 none) = some (Value.int IntKind.i64 a) ∧ World.cell? W' (Addr.mk Bs 3 none) = some (Value.int IntKind.i64 n) ∧ World.cell? W' (Addr.mk Bs 4 none) = some (Value.int IntKind.u64 o) ∧ World.cell? W' (Addr.mk Bs 5 none) = some (Value.int IntKind.u64 ne) ∧ World.cell? W' (Addr.mk Bs 6 none) = some (Value.slice wa wl cp) ∧ World.cell? W' (Addr.mk Bs 7 none) = some (Value.int IntKind.u64 ky) ∧ World.cell? W' (Addr.mk Bs 8 none) = some (Value.int IntKind.i64 bo) ∧ Lk (Below (Array.size (World.heap W)) W W'))) (first | exact HX.out | assumption | exact held_on (by assumption) (by assumption))
    (first | (go_at_call 69; refine (C _).mono ?_; rintro e w2 ⟨rfl, HB2⟩))
  have HC := Lk.mk (held_box (by assumption))
  have HB3 := held_below (by assumption)
  have hc2 := HC.out.c2
  clear HC HB2 HX HBs C w1
  have hJ0 := hJ _ (grown_of_below HB3.out)
  clear hJ
  go_wp2_with fail
  refine (wpIn_wide (n := m)).1 ?_
  gi_loopw [4] (fun i wr => ∃ j : Nat, j ≤ numP a e ∧ i = .int .i64 (cutp a e j : Nat) ∧ J (pcs a e j) wr ∧ Below n₀ w2 wr)
    (fun i _ => (e : Int).toNat - (intOf i).toNat)
  case atStart => exact ⟨0, Nat.zero_le _, rfl, hJ0, Below.refl _ _⟩
  case round =>
    clear hJ0 hc2
    obtain ⟨j, hj, rfl, hJs, hnx⟩ := hrel
    by_cases hlt : j < numP a e
    · have h1 := cut_lt' HE.out hlt
      obtain ⟨h2, h3, h4⟩ := cut_next HE.out hlt
      obtain ⟨fn, tmps, assign, body, hy, hR⟩ := hY _ (cutp a e j, cutp a e (j + 1) - cutp a e j) wr hJs (by rw [pcs_len]; exact hlt)
      rw [← pcs_more] at hR
      dsimp only [enc1] at hy
      obtain ⟨q, hq0⟩ : ∃ q, cutp a e (j + 1) = q := ⟨_, rfl⟩
      have HQ := Lk.mk hq0
      rw [hq0] at h2 h3 h4 hy
      clear hq0
      obtain ⟨p, hp0⟩ : ∃ p, cutp a e j = p := ⟨_, rfl⟩
      rw [hp0] at h1 h2 h3 hy ⊢
      clear hp0
      by_cases hmin : 8 - p % 8 ≤ e - p
      · rw [show ((q - p : Nat) : Int) = 8 - (p : Int) % 8 by omega] at hy
        have hq : (p : Int) + (8 - (p : Int) % 8) = q := by omega
        clear h2
        gi_wp2
        refine hR.mono ?_
        rintro e' W3 (⟨rfl, hJ3, hk3⟩ | ⟨rfl, hJx3⟩)
        · gi_wp2
          go_roundw
          case rel => exact ⟨j + 1, by omega, (by rw [HQ.out]), hJ3, hnx.trans hk3⟩
          case measure => simp [intOf] <;> omega
        · gi_wp2
          refine bodyPost_ret (results_none rfl _ _ _) rfl ?_
          exact ⟨⟨_, rfl⟩, .inr ⟨_, ⟨j + 1, by omega, rfl⟩, hJx3⟩⟩
      · rw [show ((q - p : Nat) : Int) = (e : Int) - p by omega] at hy
        have hq : (p : Int) + ((e : Int) - p) = q := by omega
        clear h2
        gi_wp2
        refine hR.mono ?_
        rintro e' W3 (⟨rfl, hJ3, hk3⟩ | ⟨rfl, hJx3⟩)
        · gi_wp2
          go_roundw
          case rel => exact ⟨j + 1, by omega, (by rw [HQ.out]), hJ3, hnx.trans hk3⟩
          case measure => simp [intOf] <;> omega
        · gi_wp2
          refine bodyPost_ret (results_none rfl _ _ _) rfl ?_
          exact ⟨⟨_, rfl⟩, .inr ⟨_, ⟨j + 1, by omega, rfl⟩, hJx3⟩⟩
    · obtain rfl : j = numP a e := by omega
      rw [cut_end HE.out]
      gi_wp2
      go_end0
      exact ⟨⟨_, rfl⟩, .inl ⟨_, rfl, hJs⟩⟩
end
theorem pieces_stops (k nd n o ne : Int) (a c : Nat) (wa : Option Addr) (wl cp : Nat) (ky bo : Int) (m : Nat) (hm : 1 ≤ m) (Bs n₀ : Nat) (hc : cnt k n wl = c) (hc1 : 1 ≤ c) (hmax : a + c ≤ 4294967296) (w : World) (hn₀ : n₀ ≤ w.heap.size)
    (HBs : Bx w Bs k nd a n o ne wa wl cp ky bo) :
    SeqStopsK Fence.wide m Try.prog 95 #[.pointer (some ⟨Bs, 0, none⟩)] enc1 (Below n₀) (fun ys => ys = pcs a (a + c) (numP a (a + c))) (fun pre => ∃ j, j ≤ numP a (a + c) ∧ pre = pcs a (a + c) j) (numP a (a + c)) w := fun r J Jx W hW hJ _ hY h0 => by
  refine (pieces1_in k nd n o ne a c wa wl cp ky bo m hm r Bs n₀ hc hc1 hmax J Jx hY W (HBs.on hW) (fun W' hg => hJ _ _ _ none h0 hg (fun r e => by cases e)) (by have := hW.size; omega)).mono ?_
  rintro e W' ⟨he, ⟨ys, rfl, hj⟩ | ⟨pre, hk, hj⟩⟩
  · exact ⟨he, .inl ⟨_, rfl, hj⟩⟩
  · exact ⟨he, .inr ⟨_, hk, hj⟩⟩
end Go.Proofs.Ytpehhldfegjajaa.Vf

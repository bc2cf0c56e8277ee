/-
  The reference's Post that refuses.
-/
import Derived.Test.YtacfmkmiikkppaaQe
namespace Go.Proofs.Ytacfmkmiikkppaa.Qf
open Go.ChangeShapes Go.WideShapes Go.ChangeAt Go.RowKit Ga Gb Na Nb Nc Nd_ Nf Va Vb Vc Qa Qb Qc Qd
set_option linter.unusedVariables false
set_option linter.unusedSimpArgs false
set_option maxHeartbeats 4000000
set_option maxRecDepth 100000
/-- The code of a Post: of the verb's validity, its node and the pair's, how many verbs are pending. -/
def postC (vc nd pnd : Int) (m : Nat) : Int := if vc = 0 then (if nd = pnd then (if m < 1024 then 0 else 12) else 1) else vc
theorem refPost_no (F : Nat → Prop) (b : Nat) (cl inc pnd : Int) (Q : Value) (q : List Pe) (k nd a n o ne : Int) (A : Option Addr) (l c : Nat) (ky bo : Int) (lines slot : Int) (w : World) (HR : Lk (RP F w b cl inc pnd Q q)) (hq : q.length ≤ 4294967296)
    (hc2 : cnt k n l ≤ 9223372036854775807) (hp : postC (validC k nd a (cnt k n l) 5 lines) nd pnd q.length ≠ 0) :
    Calls Try.prog 35 #[.pointer (some ⟨b, 0, none⟩), (Value.agg #[Value.int IntKind.i64 k, Value.int IntKind.i64 nd, Value.int IntKind.i64 a, Value.int IntKind.i64 n, Value.int IntKind.u64 o, Value.int IntKind.u64 ne, Value.slice A l c, Value.int IntKind.u64 ky, Value.int IntKind.i64 bo]), .int .i64 lines, .int .i64 slot] w fun e w' => e = .returned (.int .i64 (postC (validC k nd a (cnt k n l) 5 lines) nd pnd q.length)) ∧ Lk (Below w.heap.size w w') := by
  have CV := fun w => validR_ok k nd a n o ne A l c ky bo w 5 lines hc2
  obtain ⟨AQ, cQ, hQ⟩ := own_slice HR.out.own
  subst hQ
  have HP := Lk.mk (rfl : postC (validC k nd a (cnt k n l) 5 lines) nd pnd q.length = postC (validC k nd a (cnt k n l) 5 lines) nd pnd q.length)
  generalize hr : postC (validC k nd a (cnt k n l) 5 lines) nd pnd q.length = R at *
  generalize validC k nd a (cnt k n l) 5 lines = vc at *
  have HRR := Lk.mk hr
  clear hr HP
  have HB1 := Lk.mk ((Below.refl _ w).alloc (Nat.le_refl _) (.cells #[Value.int IntKind.i64 k, Value.int IntKind.i64 nd, Value.int IntKind.i64 a, Value.int IntKind.i64 n, Value.int IntKind.u64 o, Value.int IntKind.u64 ne, Value.slice A l c, Value.int IntKind.u64 ky, Value.int IntKind.i64 bo] 52))
  have HX1 := Lk.mk (Bx.alloc w k nd a n o ne A l c ky bo 52)
  go_enter Try.func35, Try.ntmps35
  go_upto_region 1 with fail
  generalize w.alloc _ = w1 at *
  obtain ⟨b0, b1, b2, b3, b4, b5, b6, b7, b8⟩ := HX1.out
  by_cases hv : vc = 0
  · subst hv
    go_upto_region 4 with (first | (go_at_call 66; refine (CV _).mono ?_; rintro e w2 ⟨rfl, HB2⟩))
    have HBB := Lk.mk (HB1.out.trans (HB2.out.mono HB1.out.size))
    have HX2 := Lk.mk (HX1.out.on HB2.out)
    have HR2 := Lk.mk (HR.out.below HBB.out)
    clear b0 b1 b2 b3 b4 b5 b6 b7 b8 HB1 HB2 HX1 CV
    obtain ⟨b0, b1, b2, b3, b4, b5, b6, b7, b8⟩ := HX2.out
    have p2 := HR2.out.c2
    have p3 := HR2.out.c3
    by_cases hn : nd = pnd
    · subst hn
      have hlen : ¬ q.length < 1024 := fun h => hp (by rw [← HRR.out]; unfold postC; rw [if_pos rfl, if_pos rfl, if_pos h])
      have hR : R = 12 := by rw [← HRR.out]; unfold postC; rw [if_pos rfl, if_pos rfl, if_neg hlen]
      subst hR
      clear hp
      go_quiet (fail)
      go_wp2
      go_ret
      exact ⟨rfl, ⟨below_drewN HBB.out nq⟩⟩
    · have hR : R = 1 := by rw [← HRR.out]; unfold postC; rw [if_pos rfl, if_neg hn]
      have hb : (nd != pnd) = true := bne_iff_ne.2 hn
      subst hR
      clear hp
      go_quiet (fail)
      go_wp2
      go_ret
      exact ⟨rfl, ⟨below_drewN HBB.out nq⟩⟩
  · have hR : R = vc := by rw [← HRR.out]; unfold postC; rw [if_neg hv]
    have hb : (vc != 0) = true := bne_iff_ne.2 hv
    subst hR
    clear hp
    go_wp2_with (first | (go_at_call 66; refine (CV _).mono ?_; rintro e w2 ⟨rfl, HB2⟩))
    go_ret
    exact ⟨rfl, ⟨HB1.out.trans (HB2.out.mono HB1.out.size)⟩⟩
end Go.Proofs.Ytacfmkmiikkppaa.Qf

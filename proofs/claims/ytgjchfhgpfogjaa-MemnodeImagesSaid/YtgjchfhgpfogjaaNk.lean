/-
  The sanity check of package memnode's laws holds.
-/
import Derived.Test.YtgjchfhgpfogjaaNd
namespace Go.Proofs.Ytgjchfhgpfogjaa.Nk
open Go.ChangeShapes Go.WideShapes Go.ChangeAt Go.RowKit Ga Na Nb Nc Nd_
set_option linter.unusedVariables false
set_option linter.unusedSimpArgs false

theorem awake_any (w : World) :
    Calls Try.prog 10 #[] w fun e w' => e = .returned (.bool true) ∧ Below w.heap.size w w' := by
  go_enter Try.func10, Try.ntmps10
  go_wp2_with fail
  refine (new_ok 1 w (by decide) (by decide)).mono ?_
  rintro e w1 ⟨b, g, rfl, hb, hg, HN, HB⟩
  go_wp2_with fail
  refine (cas_ok b g 8 8 _ 0 0 5 w1 HN (by decide) (by decide) (by decide) (by decide)).mono ?_
  rintro e w2 ⟨rfl, HN2, HO2⟩
  have HN2' : Lk (PN w2 b g 8 8 [5, 0, 0, 0, 0, 0, 0, 0] true) := HN2
  have HB2 : Lk (Below w.heap.size w w2) := ⟨HO2.out.below_on HB.out (fun k hk => hk.elim (fun e => e ▸ hb.out) (fun e => e ▸ hg.out)) HB.out.size⟩
  clear HN2 HO2
  go_wp2_with fail
  refine (cas_ok b g 8 8 _ 0 0 6 w2 HN2' (by decide) (by decide) (by decide) (by decide)).mono ?_
  rintro e w3 ⟨rfl, HN3, HO3⟩
  have HN3' : Lk (PN w3 b g 8 8 [5, 0, 0, 0, 0, 0, 0, 0] true) := HN3
  have HB3 : Lk (Below w.heap.size w w3) := ⟨HO3.out.below_on HB2.out (fun k hk => hk.elim (fun e => e ▸ hb.out) (fun e => e ▸ hg.out)) HB2.out.size⟩
  clear HN3 HO3
  go_wp2_with fail
  refine (read_ok b g 8 8 _ 0 1 w3 HN3' (by decide) (by decide) (by decide)).mono ?_
  rintro e w4 ⟨g4, cap4, rfl, HG4, HR4, HB4⟩
  have hc4 := HR4.out.cell (j := 0) (by decide)
  have HN4 : Lk (PN w4 b g 8 8 [5, 0, 0, 0, 0, 0, 0, 0] true) := ⟨HN3'.out.keep (HB4.out.block b HN3'.out.size) (HB4.out.block g HN3'.out.row.size)⟩
  have C5 := up_any b g 8 8 _ true w4 HN4
  have C6 := lines_any b g 8 8 _ true w4 HN4 1 rfl (by decide)
  go_wp2_with (first
    | (go_at_call 13; refine C5.mono ?_; rintro e w' ⟨rfl, rfl⟩)
    | (go_at_call 15; refine C6.mono ?_; rintro e w' ⟨rfl, rfl⟩))
  go_ret
  exact ⟨rfl, HB3.out.trans (HB4.out.mono HB3.out.size)⟩
end Go.Proofs.Ytgjchfhgpfogjaa.Nk

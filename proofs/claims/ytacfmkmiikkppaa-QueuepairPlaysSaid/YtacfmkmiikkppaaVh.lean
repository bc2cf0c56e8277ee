/-
  The reference's Pieces.
-/
import Derived.Test.YtacfmkmiikkppaaVg
namespace Go.Proofs.Ytacfmkmiikkppaa.Vh
open Go.ChangeShapes Go.WideShapes Go.ChangeAt Go.RowKit Go.Shelf Ga Va Vb Vd Vf Vg
set_option linter.unusedVariables false
set_option linter.unusedSimpArgs false
set_option maxHeartbeats 4000000
set_option maxRecDepth 10000
theorem rinfo : (Try.prog.info? 64).map (fun i => (i.zero, i.size, i.bytes)) = some (some (.agg #[.int .i64 0, .int .i64 0]), 2, 16) := by kernel_rfl
theorem two_new (w : World) (x y : Value) (t : TypeId) : ∀ j u, [x, y][j]? = some u → (w.alloc (.cells #[x, y] t)).cell? ((⟨w.heap.size, 0, none⟩ : Addr).add j) = some u := fun j u hj => by
  match j, hj with
  | 0, hj => simp at hj; subst hj; simp [Addr.add]
  | 1, hj => simp at hj; subst hj; simp [Addr.add]
theorem two_one (x y : Int) : ∀ u ∈ [Value.int .i64 x, Value.int .i64 y], u.oneCell' = true := fun u hu => by
  simp at hu; rcases hu with rfl | rfl <;> rfl
theorem PiecesR_ok (k nd n o ne : Int) (a c : Nat) (wa : Option Addr) (wl cp : Nat) (ky bo : Int) (w : World) (hc : cnt k n wl = c) (hc1 : 1 ≤ c) (hmax : a + c ≤ 2048) :
    Calls Try.prog 23 #[(Value.agg #[Value.int IntKind.i64 k, Value.int IntKind.i64 nd, Value.int IntKind.i64 a, Value.int IntKind.i64 n, Value.int IntKind.u64 o, Value.int IntKind.u64 ne, Value.slice wa wl cp, Value.int IntKind.u64 ky, Value.int IntKind.i64 bo])] w fun e w' => ∃ v, e = .returned v ∧ Lk (w'.ownsRow w.heap.size 64 2 v (numP a (a + c)) (flat (pcs a (a + c) (numP a (a + c))))) ∧ Lk (Below w.heap.size w w') := by
  obtain ⟨i0, hi, hz0, hz1, hz2⟩ := info_parts rinfo
  have C := fun w => countR_any k nd a n o ne wa wl cp ky bo w
  rw [kindR (by omega), hc] at C
  have HE : Lk (a < a + c) := ⟨by omega⟩
  have hK2 : numP a (a + c) ≤ 256 := by unfold numP; omega
  obtain ⟨e, he⟩ : ∃ e : Nat, a + c = e := ⟨_, rfl⟩
  have hce : (c : Int) = ((e - a : Nat) : Int) := by omega
  rw [hce] at C
  rw [he] at hmax HE hK2 ⊢
  have he2 : a ≤ e := by omega
  clear he hce hc hc1
  go_enter Try.func23, Try.ntmps23
  go_wp2_with fail
  generalize hW : w.alloc _ = W
  have HX := Lk.mk (held_start 52 hW.symm)
  clear hW
  go_region_held3 (fun W' => (World.cell? W' (Addr.mk w.heap.size 0 none) = some (Value.int IntKind.i64 k) ∧ World.cell? W' (Addr.mk w.heap.size 1 none) = some (Value.int IntKind.i64 nd) ∧ World.cell? W' (Addr.mk w.heap.size 2 none) = some (Value.int IntKind.i64 a) ∧ World.cell? W' (Addr.mk w.heap.size 3 none) = some (Value.int IntKind.i64 n) ∧ World.cell? W' (Addr.mk w.heap.size 4 none) = some (Value.int IntKind.u64 o) ∧ World.cell? W' (Addr.mk w.heap.size 5 none) = some (Value.int IntKind.u64 ne) ∧ World.cell? W' (Addr.mk w.heap.size 6 none) = some (Value.slice wa wl cp) ∧ World.cell? W' (Addr.mk w.heap.size 7 none) = some (Value.int IntKind.u64 ky) ∧ World.cell? W' (Addr.mk w.heap.size 8 none) = some (Value.int IntKind.i64 bo) ∧ Lk (Below (Array.size (World.heap w)) w W'))) (first | exact HX.out | assumption | exact held_on (by assumption) (by assumption))
    (first | (go_at_call 57; refine (C _).mono ?_; rintro e w2 ⟨rfl, HB2⟩))
  have HB3 := held_below (by assumption)
  clear HB2 HX C
  have HO0 := Lk.mk (show w2.ownsRow w.heap.size 64 2 (.slice none 0 0) 0 (flat (pcs a e 0)) from ⟨by simp [flat, pcs], .inl ⟨rfl, rfl⟩⟩)
  go_wp2_with fail
  go_loopw [3, 4, 5] (fun s3 s4 s5 wr => ∃ j : Nat, j ≤ numP a e ∧ s4 = .int .i64 (cutp a e j : Nat) ∧ s5 = .int .i64 ((e - cutp a e j : Nat) : Int) ∧ Lk (wr.ownsRow w.heap.size 64 2 s3 j (flat (pcs a e j))) ∧ Lk (Below w.heap.size w wr))
    (fun s3 s4 s5 _ => (intOf s5).toNat)
  case atStart => exact ⟨0, Nat.zero_le _, rfl, rfl, HO0, HB3⟩
  case round =>
    clear HO0 HB3
    obtain ⟨j, hj, rfl, rfl, HO, HB⟩ := hrel
    by_cases hlt : j < numP a e
    · have h1 := cut_lt' HE.out hlt
      obtain ⟨h2, h3, h4⟩ := cut_next HE.out hlt
      have HF := Lk.mk (show flat (pcs a e (j + 1)) = flat (pcs a e j) ++ [.int .i64 ((cutp a e j : Nat) : Int), .int .i64 ((cutp a e (j + 1) - cutp a e j : Nat) : Int)] by rw [pcs_more, flat_more])
      obtain ⟨q, hq0⟩ : ∃ q, cutp a e (j + 1) = q := ⟨_, rfl⟩
      have HQ := Lk.mk hq0
      rw [hq0] at h2 h3 h4 HF
      clear hq0
      generalize cutp a e j = p at *
      by_cases hmin : e - p ≤ 8 - p % 8
      · have hq : q = e := by omega
        subst hq
        have hpos : 0 < q - p := by omega
        have hle : ((q - p : Nat) : Int) ≤ 8 - (p : Int) % 8 := by omega
        clear h2 h3
        go_wp2_with (first
          | (at_builtin; refine wpList_append_own _ rfl _ _ 61 rfl w.heap.size 64 i0 (.agg #[.int .i64 0, .int .i64 0]) 2 16 Try.underlying61 hi hz0 hz1 hz2 rfl (by decide) _ _ _ rfl (HO.out.alloc _) ⟨wr.heap.size, 0, none⟩ 1 1 [.int .i64 (p : Int), .int .i64 ((q - p : Nat) : Int)] rfl rfl (two_new _ _ _ _) (two_one _ _) (by unfold maxLen; omega) (by omega) (by have := HB.out.size; simp; omega) ?_))
        intro v' w1 hown' hgrow _
        have HO2 := Lk.mk hown'
        have HB2 := Lk.mk ((HB.out.alloc HB.out.size (.cells #[.int .i64 (p : Int), .int .i64 ((q - p : Nat) : Int)] 64)).grown hgrow (by have := HB.out.size; simp; omega) fun k hk => (HO.out.lt k hk).1)
        clear hown' hgrow HB HO
        go_wp2_with fail
        go_roundw
        case rel => exact ⟨j + 1, by omega, (by rw [HQ.out] <;> try go_num), (by rw [HQ.out] <;> try go_num), ⟨by rw [HF.out]; exact HO2.out⟩, HB2⟩
        case measure => simp [intOf] <;> omega
      · have hq : q - p = 8 - p % 8 := by omega
        have hpos : 0 < e - p := by omega
        have hle : ¬ ((e - p : Nat) : Int) ≤ 8 - (p : Int) % 8 := by omega
        have hqi : ((q - p : Nat) : Int) = 8 - (p : Int) % 8 := by omega
        have hqj : (p : Int) + (8 - (p : Int) % 8) = q := by omega
        have HQI := Lk.mk hqi
        clear h2 hqi
        go_wp2_with (first
          | (at_builtin; refine wpList_append_own _ rfl _ _ 61 rfl w.heap.size 64 i0 (.agg #[.int .i64 0, .int .i64 0]) 2 16 Try.underlying61 hi hz0 hz1 hz2 rfl (by decide) _ _ _ rfl (HO.out.alloc _) ⟨wr.heap.size, 0, none⟩ 1 1 [.int .i64 (p : Int), .int .i64 (8 - (p : Int) % 8)] rfl rfl (two_new _ _ _ _) (two_one _ _) (by unfold maxLen; omega) (by omega) (by have := HB.out.size; simp; omega) ?_))
        intro v' w1 hown' hgrow _
        have HO2 := Lk.mk hown'
        have HB2 := Lk.mk ((HB.out.alloc HB.out.size (.cells #[.int .i64 (p : Int), .int .i64 (8 - (p : Int) % 8)] 64)).grown hgrow (by have := HB.out.size; simp; omega) fun k hk => (HO.out.lt k hk).1)
        clear hown' hgrow HB HO
        go_wp2_with fail
        go_roundw
        case rel => exact ⟨j + 1, by omega, (by rw [HQ.out] <;> try go_num), (by rw [HQ.out] <;> try go_num), ⟨by rw [HF.out]; rw [HQI.out]; exact HO2.out⟩, HB2⟩
        case measure => simp [intOf] <;> omega
    · obtain rfl : j = numP a e := by omega
      rw [cut_end HE.out, Nat.sub_self]
      go_wp2
      go_ret
      exact ⟨_, rfl, HO, HB⟩
end Go.Proofs.Ytacfmkmiikkppaa.Vh

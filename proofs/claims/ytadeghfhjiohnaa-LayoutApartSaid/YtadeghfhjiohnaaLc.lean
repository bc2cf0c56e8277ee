/-
  The regions of the memory map: a row of pairs that grows.
-/
import Derived.Test.YtadeghfhjiohnaaLb
import Derived.Test.YtadeghfhjiohnaaGb
namespace Go.Proofs.Ytadeghfhjiohnaa.Lc
open Go.ChangeShapes Go.WideShapes Go.ChangeAt Go.RowKit Ga Gb La Lb
set_option linter.unusedVariables false
set_option linter.unusedSimpArgs false
set_option maxRecDepth 10000
set_option maxHeartbeats 2000000

theorem einfo : (Try.prog.info? 35).map (fun i => (i.zero, i.size, i.bytes)) = some (some (.agg #[.int .i64 0, .int .i64 0]), 2, 16) := by kernel_rfl
def ec (p : Int × Int) : List Value := [.int .i64 p.1, .int .i64 p.2]
/-- A row of extents of the call's own. -/
structure Xr (w0 w : World) (v : Value) (l : List (Int × Int)) : Prop where
  own : w.ownsRow w0.heap.size 35 2 v l.length (l.flatMap ec)
  below : Below w0.heap.size w0 w
theorem own_on {w w' : World} {base : Nat} {e : TypeId} {sz n : Nat} {v : Value} {xs : List Value} (h : w.ownsRow base e sz v n xs) (hb : Below w.heap.size w w') : w'.ownsRow base e sz v n xs :=
  owns_block h fun g hg => hb.block g (h.lt g hg).2
theorem Xr.on {w0 w w' : World} {v : Value} {l : List (Int × Int)} (h : Xr w0 w v l) (hb : Below w.heap.size w w') : Xr w0 w' v l := ⟨own_on h.own hb, h.below.trans (hb.mono h.below.size)⟩
theorem Xr.alloc {w0 w : World} {v : Value} {l : List (Int × Int)} (h : Xr w0 w v l) (o : Obj) : Xr w0 (w.alloc o) v l := h.on ((Below.refl _ w).alloc (Nat.le_refl _) o)
theorem Xr.after {w0 w w' : World} {v v' : Value} {l m : List (Int × Int)} (h : Xr w0 w v l) (hown : w'.ownsRow w0.heap.size 35 2 v' (l.length + m.length) (l.flatMap ec ++ m.flatMap ec)) (hg : w.grownBy w' v.ownBlock) : Xr w0 w' v' (l ++ m) :=
  ⟨by rw [List.length_append, List.flatMap_append]; exact hown, h.below.grown hg h.below.size fun k hk => (h.own.lt k hk).1⟩
theorem ec_one (l : List (Int × Int)) : ∀ u ∈ l.flatMap ec, u.oneCell' = true := fun u hu => by
  rw [List.mem_flatMap] at hu
  obtain ⟨p, _, hp⟩ := hu
  simp [ec] at hp
  rcases hp with rfl | rfl <;> rfl
def X1 (k : Nat) : List (Int × Int) := (0, 2) :: (List.range k).map fun v : Nat => (adr 8 1 0 15 (v : Int), 1)
def six (c : Int) : List (Int × Int) := [(adr 24 1 0 5 c, 1), (adr 32 1 0 5 c, 1), (adr 40 1 0 5 c, 1), (adr 48 120 0 5 c, 1), (adr 49 120 0 5 c, 1), (adr 56 120 0 5 c, 112)]
def X2 (k : Nat) : List (Int × Int) := X1 16 ++ (List.range k).flatMap fun c : Nat => six (c : Int)
def X3 (k : Nat) : List (Int × Int) := X2 6 ++ (List.range k).map fun j : Nat => (adr 768 8 96 255 (96 + (j : Int)), 8)
theorem X1_more (k : Nat) : X1 (k + 1) = X1 k ++ [(adr 8 1 0 15 (k : Int), 1)] := by simp [X1, List.range_succ]
theorem X2_more (k : Nat) : X2 (k + 1) = X2 k ++ six (k : Int) := by simp [X2, List.range_succ]
theorem X3_more (k : Nat) : X3 (k + 1) = X3 k ++ [(adr 768 8 96 255 (96 + (k : Int)), 8)] := by simp [X3, List.range_succ]
theorem X1_len (k : Nat) : (X1 k).length = k + 1 := by simp [X1]
theorem X2_len (k : Nat) : (X2 k).length = 17 + 6 * k := by
  induction k with
  | zero => simp [X2, X1_len]
  | succ k ih => rw [X2_more, List.length_append, ih]; simp [six]; omega
theorem X3_len (k : Nat) : (X3 k).length = 53 + k := by rw [X3, List.length_append, X2_len]; simp
theorem From.lit (w : World) (cs : List Value) (t : TypeId) (sz m : Nat) (h : cs.length = m * sz) : From (w.alloc (.cells cs.toArray t)) (some ⟨w.heap.size, 0, none⟩) sz m cs :=
  ⟨h, fun _ => ⟨_, rfl, fun j u hj => by
    rw [add_zero_, cell_of_row _ _ _ _ _ _ (heap_alloc_new w (.cells cs.toArray t))]
    simpa using hj⟩⟩
theorem regions_any (w : World) : Calls Try.prog 30 #[] w fun e w' => ∃ v, e = .returned v ∧ Lk (Xr w w' v (X3 160)) := by
  obtain ⟨i0, hi, hz0, hz1, hz2⟩ := info_parts einfo
  have H0 : Lk (Xr w (w.alloc (.cells #[.int .i64 0, .int .i64 2] 35)) (.slice (some ⟨w.heap.size, 0, none⟩) 1 1) (X1 0)) := ⟨⟨by
    have := World.ownsRow_lit (base := w.heap.size) (e := 35) (size := 2) w #[.int .i64 0, .int .i64 2] 1 (Nat.le_refl _) (by decide) rfl
    exact this, (Below.refl _ w).alloc (Nat.le_refl _) _⟩⟩
  go_enter Try.func30, Try.ntmps30
  go_upto_region 2 with fail
  generalize w.alloc _ = w1 at *
  generalize (Value.slice (some ⟨w.heap.size, 0, none⟩) 1 1) = v1 at *
  go_wp2_with fail
  go_loopw [1, 2] (fun s1 s2 wr => ∃ k : Nat, k ≤ 16 ∧ s2 = .int .i64 k ∧ Lk (Xr w wr s1 (X1 k))) (fun _ i _ => 16 - (intOf i).toNat)
  case atStart => exact ⟨0, by omega, rfl, H0⟩
  case round =>
    clear H0
    obtain ⟨k, hk, rfl, HB⟩ := hrel
    by_cases hlt : k < 16
    · have HM : Lk (X1 (k + 1) = X1 k ++ [(adr 8 1 0 15 (k : Int), 1)]) := ⟨X1_more k⟩
      have HL := Lk.mk (X1_len k)
      generalize X1 k = l at *
      go_wp2_with (first
        | (go_at_call 17; refine (consensus_any _ _).mono ?_; rintro e w2 ⟨rfl, H2⟩)
        | (at_builtin; refine wpList_onto rfl _ _ 31 rfl w.heap.size 35 i0 (.agg #[.int .i64 0, .int .i64 0]) 2 16 Try.underlying31 hi hz0 hz1 hz2 rfl (by decide) _ _ _ rfl ((HB.out.on H2.out).alloc _).own _ 1 1 (List.flatMap ec ([(adr 8 1 0 15 (k : Int), 1)])) rfl (From.lit _ _ _ 2 _ rfl) (ec_one _) ?c3 ?c4 ?c5 ?_))
      case c3 => rw [HL.out]; unfold maxLen; omega
      case c4 => rw [HL.out]; omega
      case c5 => have := (HB.out.on H2.out).below.size; simp; omega
      intro v' w9 hown' hgrow
      have HB9 : Lk (Xr w w9 v' (l ++ [(adr 8 1 0 15 (k : Int), 1)])) := ⟨((HB.out.on H2.out).alloc _).after hown' hgrow⟩
      rw [← HM.out] at HB9
      clear hown' hgrow HB HM HL
      go_wp2_with fail
      go_roundw
      case rel => first | exact ⟨k + 1, by omega, by first | go_num | rfl | (congr 1; omega), HB9⟩ | ((repeat apply Exists.intro); exact ⟨⟨k + 1, by omega, by first | go_num | rfl | (congr 1; omega), HB9⟩, rfl⟩)
      case measure => simp [intOf]; omega
    · obtain rfl : k = 16 := by omega
      have H0 : Lk (Xr w wr u1 (X2 0)) := ⟨by have := HB.out; simpa [X2] using this⟩
      clear HB
      go_wp2_with fail
      go_loopw [1, 3] (fun s1 s2 wr => ∃ k : Nat, k ≤ 6 ∧ s2 = .int .i64 k ∧ Lk (Xr w wr s1 (X2 k))) (fun _ i _ => 6 - (intOf i).toNat)
      case atStart => exact ⟨0, by omega, rfl, H0⟩
      case round =>
        clear H0
        obtain ⟨k, hk, rfl, HB⟩ := hrel
        by_cases hlt : k < 6
        · have HM : Lk (X2 (k + 1) = X2 k ++ six (k : Int)) := ⟨X2_more k⟩
          have HL := Lk.mk (X2_len k)
          generalize X2 k = l at *
          go_wp2_with (first
            | (go_at_call 11; refine (door_any _ _).mono ?_; rintro e w2 ⟨rfl, H2⟩)
            | (go_at_call 13; refine (clock_any _ _).mono ?_; rintro e w3 ⟨rfl, H3⟩)
            | (go_at_call 15; refine (lease_any _ _).mono ?_; rintro e w4 ⟨rfl, H4⟩)
            | (go_at_call 19; refine (mark_any _ _).mono ?_; rintro e w5 ⟨rfl, H5⟩)
            | (go_at_call 21; refine (tag_any _ _).mono ?_; rintro e w6 ⟨rfl, H6⟩)
            | (go_at_call 23; refine (body_any _ _).mono ?_; rintro e w7 ⟨rfl, H7⟩)
            | (at_builtin; refine wpList_onto rfl _ _ 31 rfl w.heap.size 35 i0 (.agg #[.int .i64 0, .int .i64 0]) 2 16 Try.underlying31 hi hz0 hz1 hz2 rfl (by decide) _ _ _ rfl ((((((((HB.out.on H2.out).on H3.out).on H4.out).on H5.out).on H6.out).on H7.out)).alloc _).own _ 6 6 (List.flatMap ec (six (k : Int))) rfl (From.lit _ _ _ 2 _ rfl) (ec_one _) ?c3 ?c4 ?c5 ?_))
          case c3 => rw [HL.out]; unfold maxLen; omega
          case c4 => rw [HL.out]; omega
          case c5 => have := (((((((HB.out.on H2.out).on H3.out).on H4.out).on H5.out).on H6.out).on H7.out)).below.size; simp; omega
          intro v' w9 hown' hgrow
          have HB9 : Lk (Xr w w9 v' (l ++ six (k : Int))) := ⟨((((((((HB.out.on H2.out).on H3.out).on H4.out).on H5.out).on H6.out).on H7.out)).alloc _).after hown' hgrow⟩
          rw [← HM.out] at HB9
          clear hown' hgrow HB HM HL
          go_wp2_with fail
          go_roundw
          case rel => first | exact ⟨k + 1, by omega, by first | go_num | rfl | (congr 1; omega), HB9⟩ | ((repeat apply Exists.intro); exact ⟨⟨k + 1, by omega, by first | go_num | rfl | (congr 1; omega), HB9⟩, rfl⟩)
          case measure => simp [intOf]; omega
        · obtain rfl : k = 6 := by omega
          have H0 : Lk (Xr w wr u1 (X3 0)) := ⟨by have := HB.out; simpa [X3] using this⟩
          clear HB
          go_wp2_with fail
          go_loopw [1, 4] (fun s1 s2 wr => ∃ k : Nat, k ≤ 160 ∧ s2 = .int .i64 (96 + (k : Int)) ∧ Lk (Xr w wr s1 (X3 k))) (fun _ i _ => 256 - (intOf i).toNat)
          case atStart => exact ⟨0, by omega, rfl, H0⟩
          case round =>
            clear H0
            obtain ⟨k, hk, rfl, HB⟩ := hrel
            by_cases hlt : k < 160
            · have HM : Lk (X3 (k + 1) = X3 k ++ [(adr 768 8 96 255 (96 + (k : Int)), 8)]) := ⟨X3_more k⟩
              have HL := Lk.mk (X3_len k)
              generalize X3 k = l at *
              go_wp2_with (first
                | (go_at_call 25; refine (page_any _ _).mono ?_; rintro e w2 ⟨rfl, H2⟩)
                | (at_builtin; refine wpList_onto rfl _ _ 31 rfl w.heap.size 35 i0 (.agg #[.int .i64 0, .int .i64 0]) 2 16 Try.underlying31 hi hz0 hz1 hz2 rfl (by decide) _ _ _ rfl ((HB.out.on H2.out).alloc _).own _ 1 1 (List.flatMap ec ([(adr 768 8 96 255 (96 + (k : Int)), 8)])) rfl (From.lit _ _ _ 2 _ rfl) (ec_one _) ?c3 ?c4 ?c5 ?_))
              case c3 => rw [HL.out]; unfold maxLen; omega
              case c4 => rw [HL.out]; omega
              case c5 => have := (HB.out.on H2.out).below.size; simp; omega
              intro v' w9 hown' hgrow
              have HB9 : Lk (Xr w w9 v' (l ++ [(adr 768 8 96 255 (96 + (k : Int)), 8)])) := ⟨((HB.out.on H2.out).alloc _).after hown' hgrow⟩
              rw [← HM.out] at HB9
              clear hown' hgrow HB HM HL
              go_wp2_with fail
              go_roundw
              case rel => first | exact ⟨k + 1, by omega, by first | go_num | rfl | (congr 1; omega), HB9⟩ | ((repeat apply Exists.intro); exact ⟨⟨k + 1, by omega, by first | go_num | rfl | (congr 1; omega), HB9⟩, rfl⟩)
              case measure => simp [intOf]; omega
            · obtain rfl : k = 160 := by omega
              go_wp2_with fail
              go_ret
              exact ⟨_, rfl, HB⟩
end Go.Proofs.Ytadeghfhjiohnaa.Lc

/-
  The example of chapter 5, which every law asks first.
-/
import Derived.Test.YtacfmkmiikkppaaTi
namespace Go.Proofs.Ytacfmkmiikkppaa.Tj
open Go.ChangeShapes Go.WideShapes Go.ChangeAt Go.RowKit Ga Gb Na Nb Nc Nd_ Va Vb Vd Ve Vf Vg Qa Qb Qd Qf Qj Ta Tb Tc Td Te Tf Tg Th Ti
set_option linter.unusedVariables false
set_option linter.unusedSimpArgs false
set_option maxHeartbeats 1000000
set_option maxRecDepth 100000
theorem _root_.Go.Proofs.Ytacfmkmiikkppaa.Tc.PP.none_ {F F' : Nat → Prop} {w : World} {b : Nat} {cl inc nd : Int} {V : Value} {ex : Nat} {B : Option Addr} {cb : Nat} {r : List Nat} (h : PP F w b cl inc nd V [] ex B cb r) (hs : ∀ k, F k → F' k) : PP F' w b cl inc nd V [] ex B cb r :=
  ⟨h.z, hs _ h.f, h.own, fun g hg => hs _ (h.vf g hg), h.ow, fun g hg => hs _ (h.wf g hg), fun p hp => by (cases hp), h.wr⟩
def wakeV : Mv := ⟨1, 0, 0, 12, 0, 0, 0, 0, []⟩
theorem wake_ok : OkV wakeV := ⟨by decide, by decide, by decide, ⟨by decide, fun x hx => by cases hx⟩, by decide⟩
theorem awake_any (w : World) : Calls Try.prog 9 #[] w fun e w' => e = .returned (.bool true) ∧ Lk (Below w.heap.size w w') := by
  go_enter Try.func9, Try.ntmps9
  go_upto_region 3 with (first
    | (go_at_call 31; refine (new_ok 2 w (by omega) (by omega)).mono ?_; rintro e w1 ⟨nb, ng, rfl, HG1, HG2, HN1, HB1⟩)
    | (go_at_call 14; refine (Tc.new_ok 0 1 0 w1 (by omega) (by omega) (by omega)).mono ?_; rintro e w2 ⟨rfl, HP2, HB2⟩))
  have HN2 := Lk.mk (Nd.below HN1.out HB2.out)
  have HB2w := Lk.mk (HB1.out.trans (HB2.out.mono HB1.out.size))
  have hs1 := HB1.out.size
  have hnl : nb < w1.heap.size ∧ ng < w1.heap.size := ⟨HN1.out.size, HN1.out.row.size⟩
  have HP2 := Lk.mk (HP2.out.none_ (F' := fun k => k = w1.heap.size ∨ k = nb ∨ k = ng) (fun k hk => .inl hk))
  generalize hpb : w1.heap.size = pb at *
  have hF : ∀ W : World, w2.heap.size ≤ W.heap.size → ∀ k, W.heap.size ≤ k → ¬ (k = pb ∨ k = nb ∨ k = ng) := fun W hW k hk hh => by have := HP2.out.lt; have := HN2.out.size; have := HN2.out.row.size; omega
  have CP : Calls Try.prog 19 #[.pointer (some ⟨pb, 0, none⟩), .agg #[.int .i64 1, .int .i64 0, .int .i64 0, .int .i64 12, .int .u64 0, .int .u64 0, .slice none 0 0, .int .u64 0, .int .i64 0], .int .i64 2] w2 (fun e w' => ∃ (F2 : Nat → Prop) (V2 : Value) (A2 : Option Addr) (c2 : Nat), e = .returned (.int .i64 0) ∧ Lk (PP F2 w' pb 0 1 0 V2 ([] ++ [⟨wakeV, A2, c2⟩]) 0 none 0 []) ∧ Lk (Only (fun k => k = pb ∨ (Value.slice none 0 0).ownBlock = some k) w2 w') ∧ Lk (Grow (fun k => k = pb ∨ k = nb ∨ k = ng) w2 F2 w') ∧ Lk (∀ k, F2 k → (k = pb ∨ k = nb ∨ k = ng) ∨ V2.ownBlock = some k) ∧ Lk (V2.ownBlock = (Value.slice none 0 0).ownBlock ∨ ∀ g, V2.ownBlock = some g → w2.heap.size ≤ g)) :=
    post_ok (fun k => k = pb ∨ k = nb ∨ k = ng) pb 0 1 (.slice none 0 0) [] 0 none 0 [] 1 0 0 12 0 0 none 0 0 0 [] 2 w2 HP2 (by decide) (by decide) (by decide) ⟨fun h => absurd h (by simp)⟩ ⟨wake_ok.s⟩ ⟨fun ad h => by cases h⟩ ⟨hF w2 (Nat.le_refl _)⟩
  go_upto_region 6 with (first
    | (go_at_call 19; refine CP.mono ?_; rintro e w3 ⟨F3, V3, A3, c3, rfl, HP3, HO3, HG3, HF3, HE3⟩))
  have HN3 := Lk.mk (HN2.out.on HO3.out (fun hh => hh.elim (fun e => ne_typed HN2.out.node HP2.out.z (by decide) e) (fun e => by cases e)) (fun hh => hh.elim (fun e => by obtain ⟨cur, hc⟩ := Row.typed HN2.out.row; exact ne_typed hc HP2.out.z (by decide) e) (fun e => by cases e)))
  have HF3' := Lk.mk (show F3 nb ∧ F3 ng from ⟨HG3.out.sub _ (.inr (.inl rfl)), HG3.out.sub _ (.inr (.inr rfl))⟩)
  have HFn3 : Lk (∀ k, w3.heap.size ≤ k → ¬ F3 k) := ⟨fun k hk hh => (HG3.out.new k hh).elim (hF w3 HO3.out.size k hk) (fun h => by omega)⟩
  have HO3w := Lk.mk ((Only.of_below (S := fun k => w.heap.size ≤ k) HB2w.out).trans (HO3.out.mono (fun k hk => hk.elim (fun e => by have := HB1.out.size; show w.heap.size ≤ k; omega) (fun e => by cases e))))
  have HVn := Lk.mk (show ∀ k, V3.ownBlock = some k → w.heap.size ≤ k from fun k hk => by
    have h1 := HP3.out.vf k hk
    rcases HG3.out.new k h1 with h | h
    · have := HB1.out.size; have := HG1.out; have := HG2.out; omega
    · have := HB2w.out.size; omega)
  have CR : Calls Try.prog 20 #[.pointer (some ⟨pb, 0, none⟩), .pointer (some ⟨nb, 0, none⟩)] w3 (fun e w' => Ran F3 pb 0 1 0 V3 ⟨wakeV, A3, c3⟩ [] 0 none 0 [] nb ng 16 16 (List.replicate 16 0) w3 e w') :=
    step_run F3 pb 0 1 0 V3 ⟨wakeV, A3, c3⟩ [] 0 none 0 [] nb ng 16 16 (List.replicate 16 0) 2 w3 HP3 HN3 rfl (by decide) (by decide) (by decide) ⟨wake_ok⟩ (show codeV 0 1 2 (List.replicate 16 0) true wakeV = 0 by decide) (show 0 < nP wakeV by decide) HF3' ⟨fun g hg => by cases hg⟩ HFn3 (show ([] : List Nat).length + mM wakeV 0 ≤ 4294967296 by decide)
  have hs3 := HO3w.out.size
  have HB1w := Lk.mk (show w.heap.size ≤ pb ∧ w.heap.size ≤ nb ∧ w.heap.size ≤ ng from ⟨by have := HB1.out.size; omega, HG1.out, HG2.out⟩)
  clear CP HN2 HP2 HB2 HB1 HN1 HG3 hF HO3
  go_upto_region 6 with fail
  go_upto_region 7 with (first
    | (go_at_call 20; refine CR.mono ?_; rintro e w4 ⟨HN4, HO4, HR4⟩; rcases HR4 with ⟨_, B4, cb4, rfl, HP4, HW4⟩ | ⟨h, _⟩; rotate_left; (exact absurd (show 0 + 1 = nP wakeV from h) (by decide))))
  have hB5 := (Below.refl _ w4).alloc (Nat.le_refl _) (.cells #[.int .i64 0, .slice none 0 0] 54)
  have HP5 := Lk.mk (HP4.out.below hB5)
  have HN5 := Lk.mk (Nd.below HN4.out hB5)
  have HO5 := Lk.mk ((HO3w.out.trans (HO4.out.mono (fun k hk => by
    have h1 := HB1w.out
    rcases hk with e | e | e | e | e
    · have := h1.1; show w.heap.size ≤ k; omega
    · exact HVn.out k e
    · cases e
    · have := h1.2.1; show w.heap.size ≤ k; omega
    · have := h1.2.2; show w.heap.size ≤ k; omega))).alloc (.cells #[.int .i64 0, .slice none 0 0] 54))
  clear hB5 HP4 HN4 HO4 CR HO3w HP3 HN3
  generalize w4.alloc _ = w5 at *
  go_upto_region 8 with (first
    | (go_at_call 24; refine (fail_any nb ng 16 16 _ true w5 HN5).mono ?_; rintro e w6 ⟨rfl, HN6, HO6⟩))
  have HP6 := Lk.mk (HP5.out.on HO6.out (fun e => ne_typed HP5.out.z HN5.out.node (by decide) e) (fun g hg e => by obtain ⟨cur, hc⟩ := HP5.out.own.typed g hg; exact ne_typed hc HN5.out.node (by decide) e) (fun g hg e => by obtain ⟨cur, hc⟩ := HP5.out.ow.typed g hg; exact ne_typed hc HN5.out.node (by decide) e) (fun k hk => .inl (by subst hk; exact HF3'.out.1)))
  have HO6w := Lk.mk (HO5.out.trans (HO6.out.mono (fun k hk => by have := HB1w.out.2.1; show w.heap.size ≤ k; omega)))
  have CR := Lk.mk (step_no _ pb 0 1 0 V3 ⟨wakeV, A3, c3⟩ [] 1 B4 cb4 _ nb ng 16 16 _ false 2 w6 HP6 HN6 rfl (by decide) (by decide) (by decide) ⟨wake_ok⟩ (by show (4 : Int) ≠ 0; decide))
  have hc4 : ∀ ws, codeV 0 1 2 ws false wakeV = 4 := fun _ => rfl
  have hc4' : ∀ ws, codeV 0 1 2 ws false (⟨wakeV, A3, c3⟩ : Pq).v = 4 := fun _ => rfl
  rw [hc4'] at CR
  clear hc4 hc4'
  clear HP5 HN5 HO5 HO6 HP6 HN6
  go_upto_region 9 with (first
    | (go_at_call 20; refine CR.out.mono ?_; rintro e w7 ⟨V7, rfl, HP7, HO7, HE7⟩))
  have hB8 := (Below.refl _ w7).alloc (Nat.le_refl _) (.cells #[.int .i64 4, .slice none 0 0] 54)
  have HP8 := Lk.mk (HP7.out.below hB8)
  have z0 := (cell_of_row _ w7.heap.size 0 _ _ _ (heap_alloc_new w7 (.cells #[.int .i64 4, .slice none 0 0] 54))).trans rfl
  have z1 := (cell_of_row _ w7.heap.size 1 _ _ _ (heap_alloc_new w7 (.cells #[.int .i64 4, .slice none 0 0] 54))).trans rfl
  have HO8 := Lk.mk ((HO6w.out.trans (HO7.out.mono (fun k hk => hk.elim (fun e => by have := HB1w.out.1; show w.heap.size ≤ k; omega) (HVn.out k)))).alloc (.cells #[.int .i64 4, .slice none 0 0] 54))
  clear hB8 HP7 HO7 HO6w CR
  generalize w7.alloc _ = w8 at *
  go_wp2_with (first
    | (go_at_call 18; refine (pending_any _ pb 0 1 0 V7 [] 0 none 0 [] w8 HP8).mono ?_; rintro e w9 ⟨rfl, rfl⟩))
  go_ret
  exact ⟨rfl, ⟨HO8.out.to_below (fun k hk => hk) (Nat.le_refl _)⟩⟩
end Go.Proofs.Ytacfmkmiikkppaa.Tj

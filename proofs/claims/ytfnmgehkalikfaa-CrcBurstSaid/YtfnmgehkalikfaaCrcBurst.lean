/-
  For every input CrcBurst returns true, and each argument reads afterwards as before: package crc keeps the document here. No condition.
-/
import Derived.Test.YtfnmgehkalikfaaRows
import Derived.Test.YtfnmgehkalikfaaPj
import Derived.WalkKit
import Derived.ProofKit
import Derived.OpenShut
import Derived.ShutString
import Derived.ChangeOld
import Derived.Below
namespace Go.Proofs.Ytfnmgehkalikfaa.crcBurst
open Go.ChangeShapes Go.WideShapes Go.ChangeAt Go.RowKit Ma Pa Pb Pc Pd Pe Pf Pg Ph Pl Pj
set_option linter.unusedSimpArgs false
open Go.ChangeMaps (open_string shut_string)
set_option linter.unusedVariables false

theorem own : ownKnob Try.prog.godebug = none := by kernel_rfl
theorem laidOut : laidOutB Try.prog = true := by kernel_rfl

set_option maxRecDepth 100000 in
set_option maxHeartbeats 1000000 in
theorem walk (a0 : Option Addr) (len0 cap0 : Nat) (z0 : List Int) (a1 : Int) (a2 : Int) (w : World) (w0 : IsRow .u8 w a0 len0 cap0 z0) (w1 : (Lit.int .i64 a1).wf = true) (w2 : (Lit.int .u64 a2).wf = true) :
    Calls Try.prog 6 #[.slice a0 len0 cap0, .int .i64 a1, .int .u64 a2] w fun e w' => e = .returned (.bool true) ∧ Below w.heap.size w w' := by
  obtain ⟨l, rfl, hb, hl, hc0, hc1⟩ := w0.open8
  clear w0
  have b1 := bounds_i64 w1
  have b1l := b1.1
  have b1r := b1.2
  have b2 := bounds_u64 w2
  obtain ⟨p, rfl⟩ := Int.eq_ofNat_of_zero_le b2.1
  have hp : p < 18446744073709551616 := by omega
  clear b1 b2 w1 w2
  obtain ⟨i0, hi, hz0, hz1, hz2⟩ := info_parts u8info
  by_cases hn9 : 9 ≤ l.length
  · have e1 : decide ((l.length : Int) < 9) = false := by simp; omega
    by_cases hn : l.length ≤ 600
    · have e2 : decide (600 < (l.length : Int)) = false := by simp; omega
      by_cases hp0 : p = 0
      · have e3 : ((p : Int) == 0) = true := by simp; omega
        clear hp0
        go_enter Try.func6, Try.ntmps6
        go_wp2_with fail
        refine (awake_any _).mono ?_
        rintro e w1 ⟨rfl, hB⟩
        have H1 := Lib.hid hB
        clear hB
        go_wp2
        go_ret
        exact ⟨rfl, H1.out⟩
      · have e3 : ((p : Int) == 0) = false := by simp; omega
        have HP : Lk (p ≠ 0) := ⟨hp0⟩
        clear hp0
        go_enter Try.func6, Try.ntmps6
        go_wp2_with fail
        refine (pick_any _ _ _ (by omega) (by omega) b1l b1r).mono ?_
        rintro e w' ⟨t, ht, rfl, rfl⟩
        have ht8 : t + 64 ≤ 8 * l.length := by omega
        obtain ⟨ad, rfl, hab, hcell⟩ := hl.out (by omega)
        have HC : Hid (∀ j u, (l.map u8v)[j]? = some u → w.cell? (ad.add j) = some u) := map_cells hcell
        have HO : Hid (∀ u ∈ l.map u8v, u.oneCell' = true) := map_one l
        clear hcell
        go_wp2_with (first
          | (at_builtin; refine wpList_append_own _ rfl _ _ 22 rfl w.heap.size 5 i0 (.int .u8 0) 1 1 Try.underlying22 hi hz0 hz1 hz2 rfl (by decide) _ _ _ rfl (World.ownsRow_nil _ _ _ _) ad l.length cap0 (l.map u8v) rfl ?c0 HC.out HO.out ?c3 ?c4 ?c5 ?_))
        case c0 => simp
        case c3 => unfold maxLen; omega
        case c4 => omega
        case c5 => exact Nat.le_refl _
        intro v' w1 hown' hgrow _
        have HBu : Lk (Built w w1 v' l) := ⟨Built.copied (by simpa using hown') hgrow⟩
        obtain ⟨g, cap, rfl, hcc, hM⟩ := HBu.out.mine (by omega) hb.out
        have HT : Lk (Turned l t p 0 l) := ⟨Turned.start hb.out⟩
        have HM : Lk (Mine w w1 g l.length cap l) := ⟨hM⟩
        clear hM HBu hown' hgrow HC HO
        go_wp2_with fail
        go_loopw [8] (fun i wr => ∃ (m : Nat) (bs : List Nat), m ≤ 64 ∧ i = .int .i64 m ∧ Lk (Mine w wr g l.length cap bs) ∧ Lk (Turned l t p m bs)) (fun i _ => 64 - (intOf i).toNat)
        case atStart => exact ⟨0, l, by omega, rfl, HM, HT⟩
        case round =>
          clear HM HT
          obtain ⟨m, bs, hm, rfl, HM, HT⟩ := hrel
          by_cases h64 : m < 64
          · by_cases hbit : p / 2 ^ m % 2 = 1
            · have hy := bit_yes hp hbit
              have hq : (t + m) / 8 < l.length := by omega
              have hcell := HM.out.cell hq
              have hfree := HM.out.free ((t + m) / 8)
              have hxl : bs.getD ((t + m) / 8) 0 < 256 := getD_lt HM.out.lt (by rw [HM.out.len]; exact hq)
              have HX : Lk (Value.int .u8 (bits .xor .u8 ((bs.getD ((t + m) / 8) 0 : Nat) : Int) (2 ^ ((t + m) % 8) % 256)) = u8v (bs.getD ((t + m) / 8) 0 ^^^ 2 ^ ((t + m) % 8))) := ⟨flip_num _ _ hxl (Nat.mod_lt _ (by decide))⟩
              have HM2 : Lk (Mine w _ g l.length cap _) := ⟨HM.out.set ((t + m) / 8) (bs.getD ((t + m) / 8) 0 ^^^ 2 ^ ((t + m) % 8)) (flip_bound hxl (Nat.mod_lt _ (by decide)))⟩
              have HT2 : Lk (Turned l t p (m + 1) _) := ⟨HT.out.yes hbit (by rw [HM.out.len]; exact hq)⟩
              generalize bs.getD ((t + m) / 8) 0 = x at *
              clear hbit HM HT
              go_wp2
              go_roundw
              case rel => exact ⟨m + 1, _, by omega, by go_num, by rw [HX.out]; exact HM2, HT2⟩
              case measure => simp [intOf]; omega
            · have hy := bit_no hp hbit
              have HT2 : Lk (Turned l t p (m + 1) bs) := ⟨HT.out.no hbit⟩
              clear hbit HT
              go_wp2
              go_roundw
              case rel => exact ⟨m + 1, bs, by omega, by go_num, HM, HT2⟩
              case measure => simp [intOf]; omega
          · obtain rfl : m = 64 := by omega
            have HD : Lk (crc bs ≠ crc l) := ⟨HT.out.differ hb.out ht8 HP.out hp⟩
            have HA : Hid (Lies .u8 wr wr.heap.size (some ⟨g, 0, none⟩) bs) := HM.out.lies
            have HN : Lk (bs.length = l.length) := ⟨HM.out.len⟩
            have HBb : Hid (∀ x ∈ bs, x < 256) := HM.out.lt
            have H0 := Lib.hid HM.out.below
            clear HM HT h64
            go_wp2_with fail
            refine (awake_any _).mono ?_
            rintro e w2 ⟨rfl, hB⟩
            have H2 := Below.on H0 hB
            have HA2 := Lies.on HA (Lib.hid hB)
            clear hB
            go_wp2_with fail
            refine (bytes_n _ bs l.length cap w2 HN.out (by omega) HBb HA2).mono ?_
            rintro e w3 ⟨rfl, hB⟩
            have H3 := Below.on H2 hB
            clear hB
            go_wp2_with fail
            refine (bytes_any _ l cap0 w3 (by omega) hb (Lies.on hl H3)).mono ?_
            rintro e w4 ⟨rfl, hB⟩
            have H4 := Below.on H3 hB
            clear hB
            have hne : (((crc bs : Nat) : Int) != ((crc l : Nat) : Int)) = true := by have := HD.out; simp; omega
            go_wp2
            go_ret
            exact ⟨rfl, H4.out⟩
    · have e2 : decide (600 < (l.length : Int)) = true := by simp; omega
      go_enter Try.func6, Try.ntmps6
      go_wp2_with fail
      refine (awake_any _).mono ?_
      rintro e w1 ⟨rfl, hB⟩
      have H1 := Lib.hid hB
      clear hB
      go_wp2
      go_ret
      exact ⟨rfl, H1.out⟩
  · have e1 : decide ((l.length : Int) < 9) = true := by simp; omega
    go_enter Try.func6, Try.ntmps6
    go_wp2_with fail
    refine (awake_any _).mono ?_
    rintro e w1 ⟨rfl, hB⟩
    have H1 := Lib.hid hB
    clear hB
    go_wp2
    go_ret
    exact ⟨rfl, H1.out⟩

set_option maxRecDepth 100000 in
theorem lifted (os : Os) (started : os.Started) (H : Type) (enc : TypeId × Value → H) :
    ReturnsInHanded {} Try.checked os 6 .any (Rows.crcBurstSpec.pre6 enc Try.prog Try.f6 Rows.crcBurstRow.domain false) (Rows.crcBurstSpec.post enc Try.prog Try.f6 false true false false) := by
  refine returnsInHanded_of_change (C := Try.checked) own started (by kernel_rfl) Try.func6
    (ChangeSpec.witness6 (enc := enc) (C := Try.checked) false ⟨#[], #[.slice none 0 0, .int .i64 0, .int .u64 0], []⟩ 8 (by kernel_rfl) (by kernel_rfl) (by kernel_rfl) (by kernel_rfl)) ?_
  intro W base args ds gs before hval0 hW hcnd _
  have hval : ∀ (j : Nat) t v, Try.f6.params[j]? = some t → args[j]? = some v → Value.okWide Try.prog W .any base t v := hval0
  have hW' := hW
  obtain ⟨p, q, hA0, hV, rfl, hfz, hnd⟩ := hW
  have hA : DataW.TrodAll enc Try.prog W 0 (fun _ => true) true Try.f6.params.toList args.toList ds p := hA0
  rw [Try.params6] at hA hval
  obtain ⟨v0, vs0, d0, ds0, p0, q0, hargs, rfl, rfl, h0, r0⟩ := trodAll_cons hA
  obtain ⟨v1, vs1, d1, ds1, p1, q1, rfl, rfl, rfl, h1, r1⟩ := trodAll_cons r0
  obtain ⟨v2, vs2, d2, ds2, p2, q2, rfl, rfl, rfl, h2, r2⟩ := trodAll_cons r1
  obtain ⟨rfl, rfl, rfl⟩ := trodAll_nil r2
  obtain rfl : args = #[v0, v1, v2] := by cases args; simp_all
  obtain ⟨rfl, rfl⟩ := trodVars_none hV
  obtain ⟨a0, len0, cap0, rfl⟩ := okWide_slice Try.underlying22 (hval 0 22 v0 rfl rfl)
  have k0 := h0
  have lt0 : ∀ x ∈ p0, x.block < W.heap.size := by obtain ⟨m, hm⟩ := k0; exact DataW.trod_lt m _ _ _ hm
  obtain ⟨z0, w0⟩ : ∃ zs, IsRow .u8 W a0 len0 cap0 zs := by
    obtain ⟨fuel, hf⟩ := h0
    rcases open_ints Try.underlying22 Try.underlying5 (by kernel_rfl) hf with ⟨hcs, _⟩ | ⟨x, l, c, zs, hcs, _, hl, hm, hz, _, hcell, hwz⟩
    · simp [Value.cells] at hcs
      obtain ⟨rfl, rfl, rfl⟩ := hcs
      exact ⟨[], .inl ⟨rfl, rfl, rfl, rfl⟩⟩
    · simp [Value.cells] at hcs
      obtain ⟨rfl, rfl, rfl⟩ := hcs
      exact ⟨zs, .inr ⟨_, rfl, hl, hm, by simpa using hz, hcell, hwz⟩⟩
  obtain ⟨a1, rfl, rfl, rfl, w1⟩ := open_int Try.underlying3 (hval 1 3 v1 rfl rfl) h1
  obtain ⟨a2, rfl, rfl, rfl, w2⟩ := open_int Try.underlying24 (hval 2 24 v2 rfl rfl) h2
  clear hA0 hval0
  refine (walk a0 len0 cap0 z0 a1 a2 W w0 w1 w2).mono fun e W' ⟨he, bel⟩ => ?_
  subst he
  exact ⟨_, rfl, _, _, _, [], _, [], hW', trodAll_mk1 (shut_bool Try.underlying4 _), (trodAll_cons_mk (Below.trod laidOut (by kernel_rfl) (of_decide_eq_true (by kernel_rfl)) k0 bel lt0) (trodAll_cons_mk (shut_int Try.underlying3 w1) (trodAll_cons_mk (shut_int Try.underlying24 w2) trodAll_mk0))), rfl, bel.frame _, fun h => by cases h⟩

theorem over : Rows.crcBurstRow.holds Try.pinned (OpenSpec.ofChange Rows.crcBurstSpec) :=
  OpenClaim.holds_of_wide 6 Try.f6 rfl rfl rfl rfl rfl rfl rfl ⟨rfl, rfl, rfl, rfl, rfl⟩ rfl rfl rfl rfl rfl (by kernel_rfl) Try.func6 (by kernel_rfl)
    (of_decide_eq_true (by kernel_rfl)) (by unfold Func.isWrapper; first | (rw [if_pos (by decide +kernel)]; kernel_rfl) | (rw [if_neg (by decide +kernel)]; exact ⟨rfl, rfl⟩))
    (fun os started H enc _ => lifted os started H enc)

/-- ████ THE STATEMENT ████ -/
theorem proved : Rows.CrcBurstSaid := over
end Go.Proofs.Ytfnmgehkalikfaa.crcBurst

/-
  For every input CrcExtend returns true, and each argument reads afterwards as before: package crc keeps the document here. No condition.
-/
import Derived.Test.YtfnmgehkalikfaaRows
import Derived.Test.YtfnmgehkalikfaaPg
import Derived.WalkKit
import Derived.ProofKit
import Derived.OpenShut
import Derived.ShutString
import Derived.ChangeOld
import Derived.Below
namespace Go.Proofs.Ytfnmgehkalikfaa.crcExtend
open Go.ChangeShapes Go.WideShapes Go.ChangeAt Go.RowKit Ma Pa Pb Pc Pd Pe Pf Pg
set_option linter.unusedSimpArgs false
open Go.ChangeMaps (open_string shut_string)
set_option linter.unusedVariables false

theorem own : ownKnob Try.prog.godebug = none := by kernel_rfl
theorem laidOut : laidOutB Try.prog = true := by kernel_rfl

set_option maxRecDepth 100000 in
set_option maxHeartbeats 1000000 in
theorem walk (a0 : Option Addr) (len0 cap0 : Nat) (z0 : List Int) (a1 : Option Addr) (len1 cap1 : Nat) (z1 : List Int) (w : World) (w0 : IsRow .u8 w a0 len0 cap0 z0) (w1 : IsRow .i64 w a1 len1 cap1 z1) :
    Calls Try.prog 5 #[.slice a0 len0 cap0, .slice a1 len1 cap1] w fun e w' => e = .returned (.bool true) ∧ Below w.heap.size w w' := by
  obtain ⟨l, rfl, hb, hl, hc0, hc1⟩ := w0.open8
  clear w0
  have HR := Lib.hid w1
  clear w1
  by_cases hn : l.length ≤ 1000
  · by_cases hm : len1 ≤ 20
    · go_enter Try.func5, Try.ntmps5
      go_wp2_with fail
      go_loopw [5, 6, 7] (fun sum at_ i wr => ∃ k j : Nat, k ≤ len1 ∧ j ≤ l.length ∧ i = .int .i64 k ∧ at_ = .int .i64 j ∧ sum = .int .u64 (crc (l.take j) : Nat) ∧ Hid (Below w.heap.size w wr)) (fun _ _ i _ => len1 - (intOf i).toNat)
      case atStart => exact ⟨0, 0, by omega, by omega, rfl, rfl, by rw [List.take_zero, crc_nil]; rfl, Below.refl _ _⟩
      case round =>
        obtain ⟨k, j, hk, hj, rfl, rfl, rfl, hB⟩ := hrel
        by_cases hlt : k < len1
        · obtain ⟨ad, z, rfl, hbl, hcell, hz0, hz1⟩ := IsRow.at_ HR.out hlt
          have hce := (hB.out.cell (p := ad.add k) (by rw [block_of_add]; exact hbl)).trans hcell
          clear hcell
          go_wp2_with fail
          refine (pick_any _ _ _ (by omega) (by omega) hz0 hz1).mono ?_
          rintro e w' ⟨n, hnb, rfl, rfl⟩
          have hjn : j + n ≤ l.length := by omega
          have HC : Hid (Lies .u8 wr wr.heap.size (if cap0 = j then a0 else a0.map (·.add j)) ((l.drop j).take n)) := Lies.cut (Lies.on hl hB).out hjn hc0
          have HN : Hid (((l.drop j).take n).length = n) := cut_len hjn
          have HT : Hid (ext (crc (l.take j)) ((l.drop j).take n) = crc (l.take (j + n))) := by rw [ext_crc, cut_join hjn]; rfl
          have HL : Hid (crc (l.take j) < 18446744073709551616) := crc_lt (take_lt hb.out j)
          have HB : Hid (∀ x ∈ (l.drop j).take n, x < 256) := cut_lt hb.out j n
          generalize (l.drop j).take n = m at *
          have HD := HC.out
          clear HC
          by_cases hcj : cap0 = j
          · obtain rfl := hcj
            rw [if_pos rfl] at HD
            go_wp2_with fail
            refine (extend_n _ _ m n _ _ HN.out HL.out (by omega) HB (Lib.hid HD)).mono ?_
            clear HD
            rintro e w2 ⟨rfl, hB2⟩
            have H2 := Below.on hB hB2
            clear hB2
            rw [HT.out]
            go_wp2
            go_roundw
            case rel => exact ⟨k + 1, cap0 + n, by omega, by omega, by go_num, by go_num, rfl, H2⟩
            case measure => simp [intOf]; omega
          · rw [if_neg hcj] at HD
            go_wp2_with fail
            refine (extend_n _ _ m n _ _ HN.out HL.out (by omega) HB (Lib.hid HD)).mono ?_
            clear HD
            rintro e w2 ⟨rfl, hB2⟩
            have H2 := Below.on hB hB2
            clear hB2
            rw [HT.out]
            go_wp2
            go_roundw
            case rel => exact ⟨k + 1, j + n, by omega, by omega, by go_num, by go_num, rfl, H2⟩
            case measure => simp [intOf]; omega
        · go_wp2_with fail
          refine (awake_any _).mono ?_
          rintro e w2 ⟨rfl, hB2⟩
          have H2 := Below.on hB hB2
          clear hB2
          have HC : Hid (Lies .u8 w2 w2.heap.size (if cap0 = j then a0 else a0.map (·.add j)) ((l.drop j).take (l.length - j))) := Lies.cut (Lies.on hl H2).out (by omega) hc0
          have HN : Hid (((l.drop j).take (l.length - j)).length = l.length - j) := cut_len (by omega)
          have HT : Hid (ext (crc (l.take j)) ((l.drop j).take (l.length - j)) = crc l) := by
            have e1 : j + (l.length - j) = l.length := by omega
            rw [ext_crc, cut_join (by omega), e1, List.take_length]; rfl
          have HL : Hid (crc (l.take j) < 18446744073709551616) := crc_lt (take_lt hb.out j)
          have HB : Hid (∀ x ∈ (l.drop j).take (l.length - j), x < 256) := cut_lt hb.out j _
          generalize (l.drop j).take (l.length - j) = m at *
          have HD := HC.out
          clear HC
          by_cases hcj : cap0 = j
          · obtain rfl := hcj
            rw [if_pos rfl] at HD
            go_wp2_with fail
            refine (extend_n _ _ m 0 _ _ (by have := HN.out; omega) HL.out (by omega) HB (Lib.hid HD)).mono ?_
            clear HD
            rintro e w3 ⟨rfl, hB3⟩
            have H3 := Below.on H2 hB3
            clear hB3
            rw [HT.out]
            go_wp2_with fail
            refine (bytes_any a0 l cap0 w3 (by omega) hb (Lies.on hl H3)).mono ?_
            rintro e w4 ⟨rfl, hB4⟩
            have H4 := Below.on H3 hB4
            clear hB4
            go_wp2
            go_ret
            exact ⟨rfl, H4.out⟩
          · rw [if_neg hcj] at HD
            go_wp2_with fail
            refine (extend_n _ _ m (l.length - j) _ _ HN.out HL.out (by omega) HB (Lib.hid HD)).mono ?_
            clear HD
            rintro e w3 ⟨rfl, hB3⟩
            have H3 := Below.on H2 hB3
            clear hB3
            rw [HT.out]
            go_wp2_with fail
            refine (bytes_any a0 l cap0 w3 (by omega) hb (Lies.on hl H3)).mono ?_
            rintro e w4 ⟨rfl, hB4⟩
            have H4 := Below.on H3 hB4
            clear hB4
            go_wp2
            go_ret
            exact ⟨rfl, H4.out⟩
    · go_enter Try.func5, Try.ntmps5
      go_wp2
      go_ret
      exact ⟨rfl, Below.refl _ _⟩
  · go_enter Try.func5, Try.ntmps5
    go_wp2
    go_ret
    exact ⟨rfl, Below.refl _ _⟩

set_option maxRecDepth 100000 in
theorem lifted (os : Os) (started : os.Started) (H : Type) (enc : TypeId × Value → H) :
    ReturnsInHanded {} Try.checked os 5 .any (Rows.crcExtendSpec.pre6 enc Try.prog Try.f5 Rows.crcExtendRow.domain false) (Rows.crcExtendSpec.post enc Try.prog Try.f5 false true false false) := by
  refine returnsInHanded_of_change (C := Try.checked) own started (by kernel_rfl) Try.func5
    (ChangeSpec.witness6 (enc := enc) (C := Try.checked) false ⟨#[], #[.slice none 0 0, .slice none 0 0], []⟩ 8 (by kernel_rfl) (by kernel_rfl) (by kernel_rfl) (by kernel_rfl)) ?_
  intro W base args ds gs before hval0 hW hcnd _
  have hval : ∀ (j : Nat) t v, Try.f5.params[j]? = some t → args[j]? = some v → Value.okWide Try.prog W .any base t v := hval0
  have hW' := hW
  obtain ⟨p, q, hA0, hV, rfl, hfz, hnd⟩ := hW
  have hA : DataW.TrodAll enc Try.prog W 0 (fun _ => true) true Try.f5.params.toList args.toList ds p := hA0
  rw [Try.params5] at hA hval
  obtain ⟨v0, vs0, d0, ds0, p0, q0, hargs, rfl, rfl, h0, r0⟩ := trodAll_cons hA
  obtain ⟨v1, vs1, d1, ds1, p1, q1, rfl, rfl, rfl, h1, r1⟩ := trodAll_cons r0
  obtain ⟨rfl, rfl, rfl⟩ := trodAll_nil r1
  obtain rfl : args = #[v0, v1] := by cases args; simp_all
  obtain ⟨rfl, rfl⟩ := trodVars_none hV
  obtain ⟨a0, len0, cap0, rfl⟩ := okWide_slice Try.underlying22 (hval 0 22 v0 rfl rfl)
  have k0 := h0
  have lt0 : ∀ x ∈ p0, x.block < W.heap.size := by obtain ⟨m, hm⟩ := k0; exact DataW.trod_lt m _ _ _ hm
  obtain ⟨z0, w0⟩ : ∃ zs, IsRow .u8 W a0 len0 cap0 zs := by
    obtain ⟨fuel, hf⟩ := h0
    rcases open_ints Try.underlying22 Try.underlying5 (by kernel_rfl) hf with ⟨hcs, _⟩ | ⟨x, l, c, zs, hcs, _, hl, hm, hz, _, hcell, hwz⟩
    · simp [Value.cells] at hcs
      obtain ⟨rfl, rfl, rfl⟩ := hcs
      exact ⟨[], .inl ⟨rfl, rfl, rfl, rfl⟩⟩
    · simp [Value.cells] at hcs
      obtain ⟨rfl, rfl, rfl⟩ := hcs
      exact ⟨zs, .inr ⟨_, rfl, hl, hm, by simpa using hz, hcell, hwz⟩⟩
  obtain ⟨a1, len1, cap1, rfl⟩ := okWide_slice Try.underlying31 (hval 1 31 v1 rfl rfl)
  have k1 := h1
  have lt1 : ∀ x ∈ p1, x.block < W.heap.size := by obtain ⟨m, hm⟩ := k1; exact DataW.trod_lt m _ _ _ hm
  obtain ⟨z1, w1⟩ : ∃ zs, IsRow .i64 W a1 len1 cap1 zs := by
    obtain ⟨fuel, hf⟩ := h1
    rcases open_ints Try.underlying31 Try.underlying3 (by kernel_rfl) hf with ⟨hcs, _⟩ | ⟨x, l, c, zs, hcs, _, hl, hm, hz, _, hcell, hwz⟩
    · simp [Value.cells] at hcs
      obtain ⟨rfl, rfl, rfl⟩ := hcs
      exact ⟨[], .inl ⟨rfl, rfl, rfl, rfl⟩⟩
    · simp [Value.cells] at hcs
      obtain ⟨rfl, rfl, rfl⟩ := hcs
      exact ⟨zs, .inr ⟨_, rfl, hl, hm, by simpa using hz, hcell, hwz⟩⟩
  clear hA0 hval0
  refine (walk a0 len0 cap0 z0 a1 len1 cap1 z1 W w0 w1).mono fun e W' ⟨he, bel⟩ => ?_
  subst he
  exact ⟨_, rfl, _, _, _, [], _, [], hW', trodAll_mk1 (shut_bool Try.underlying4 _), (trodAll_cons_mk (Below.trod laidOut (by kernel_rfl) (of_decide_eq_true (by kernel_rfl)) k0 bel lt0) (trodAll_cons_mk (Below.trod laidOut (by kernel_rfl) (of_decide_eq_true (by kernel_rfl)) k1 bel lt1) trodAll_mk0)), rfl, bel.frame _, fun h => by cases h⟩

theorem over : Rows.crcExtendRow.holds Try.pinned (OpenSpec.ofChange Rows.crcExtendSpec) :=
  OpenClaim.holds_of_wide 5 Try.f5 rfl rfl rfl rfl rfl rfl rfl ⟨rfl, rfl, rfl, rfl, rfl⟩ rfl rfl rfl rfl rfl (by kernel_rfl) Try.func5 (by kernel_rfl)
    (of_decide_eq_true (by kernel_rfl)) (by unfold Func.isWrapper; first | (rw [if_pos (by decide +kernel)]; kernel_rfl) | (rw [if_neg (by decide +kernel)]; exact ⟨rfl, rfl⟩))
    (fun os started H enc _ => lifted os started H enc)

/-- ████ THE STATEMENT ████ -/
theorem proved : Rows.CrcExtendSaid := over
end Go.Proofs.Ytfnmgehkalikfaa.crcExtend

/-
  For every input CrcWords returns true, and each argument reads afterwards as before: package crc keeps the document here. No condition.
-/
import Derived.Test.YtfnmgehkalikfaaRows
import Derived.Test.YtfnmgehkalikfaaPj
import Derived.WalkKit
import Derived.ProofKit
import Derived.OpenShut
import Derived.ShutString
import Derived.ChangeOld
import Derived.Below
namespace Go.Proofs.Ytfnmgehkalikfaa.crcWords
open Go.ChangeShapes Go.WideShapes Go.ChangeAt Go.RowKit Ma Pa Pb Pc Pd Pe Pf Pg Ph Pl Pj
set_option linter.unusedSimpArgs false
open Go.ChangeMaps (open_string shut_string)
set_option linter.unusedVariables false

theorem own : ownKnob Try.prog.godebug = none := by kernel_rfl
theorem laidOut : laidOutB Try.prog = true := by kernel_rfl

set_option maxRecDepth 100000 in
set_option maxHeartbeats 1000000 in
theorem walk (a0 : Option Addr) (len0 cap0 : Nat) (z0 : List Int) (w : World) (w0 : IsRow .u64 w a0 len0 cap0 z0) :
    Calls Try.prog 4 #[.slice a0 len0 cap0] w fun e w' => e = .returned (.bool true) ∧ Below w.heap.size w w' := by
  obtain ⟨l, rfl, hb, hl, hc0, hc1⟩ := w0.open64
  clear w0
  obtain ⟨i0, hi, hz0, hz1, hz2⟩ := info_parts u8info
  by_cases hn : l.length ≤ 300
  · go_enter Try.func4, Try.ntmps4
    go_wp2_with fail
    go_loopw [3, 4] (fun v i wr => ∃ k : Nat, k ≤ l.length ∧ i = .int .i64 k ∧ Built w wr v (bytesOf (l.take k))) (fun _ i _ => l.length - (intOf i).toNat)
    case atStart => exact ⟨0, by omega, rfl, Built.start w⟩
    case round =>
      obtain ⟨k, hk, rfl, hB⟩ := hrel
      by_cases hlt : k < l.length
      · obtain ⟨ad, rfl, hab, hcell⟩ := hl.out.at_ hlt
        have hx := getD_lt hb.out hlt
        have HT : Lk (bytesOf (l.take k) ++ little (l.getD k 0) = bytesOf (l.take (k + 1))) := ⟨(bytesOf_next hlt).symm⟩
        have HN : Lk ((bytesOf (l.take k)).length = 8 * k) := ⟨by rw [bytesOf_len, List.length_take]; omega⟩
        generalize l.getD k 0 = x at *
        generalize bytesOf (l.take k) = bs at *
        go_wp2_with fail
        go_loopw [3, 5] (fun v i wr => ∃ m : Nat, m ≤ 8 ∧ i = .int .i64 m ∧ Built w wr v (bs ++ (little x).take m)) (fun _ i _ => 8 - (intOf i).toNat)
        case atStart => exact ⟨0, by omega, rfl, by simpa using hB⟩
        case round =>
          clear hB
          obtain ⟨m, hm, rfl, hB⟩ := hrel
          by_cases h8 : m < 8
          · have hce := (hB.below.cell (p := ad.add k) (by rw [block_of_add]; exact hab)).trans hcell
            have HL : Lk ((bs ++ (little x).take m).length = 8 * k + m) := ⟨by rw [List.length_append, HN.out, List.length_take, little_len]; omega⟩
            have HV : Lk ([Value.int .u8 ((x : Int) / 2 ^ (8 * m) % 256)] = [u8v (x / 2 ^ (8 * m) % 256)]) := ⟨by simp [u8v]⟩
            have HM : Lk (bs ++ (little x).take (m + 1) = (bs ++ (little x).take m) ++ [x / 2 ^ (8 * m) % 256]) := ⟨by rw [little_take h8, List.append_assoc]⟩
            clear hcell hx hl hb
            go_wp2_with (first
              | (at_builtin; refine wpList_append_own _ rfl _ _ 22 rfl w.heap.size 5 i0 (.int .u8 0) 1 1 Try.underlying22 hi hz0 hz1 hz2 rfl (by decide) _ _ _ rfl (hB.own.alloc _) ⟨wr.heap.size, 0, none⟩ 1 1 [.int .u8 ((x : Int) / 2 ^ (8 * m) % 256)] rfl rfl ?c1 ?c2 ?c3 ?c4 ?c5 ?_))
            case c1 =>
              intro j u hj
              match j, hj with
              | 0, hj => simp at hj; subst hj; simp [Addr.add]
            case c2 => intro u hu; simp at hu; subst hu; rfl
            case c3 => rw [HL.out]; unfold maxLen; omega
            case c4 => rw [HL.out]; omega
            case c5 => have := hB.below.size; simp; omega
            intro v' w1 hown' hgrow _
            have HB' : Lk (Built w w1 v' (bs ++ (little x).take (m + 1))) := ⟨by rw [HV.out] at hown'; rw [HM.out]; exact hB.after (by simpa using hown') hgrow⟩
            clear hown' hgrow hB hce HM HL HV
            go_wp2
            go_roundw
            case rel => exact ⟨m + 1, by omega, by go_num, HB'.out⟩
            case measure => simp [intOf]; omega
          · obtain rfl : m = 8 := by omega
            have HB' : Lk (Built w wr _ (bytesOf (l.take (k + 1)))) := ⟨by rw [take8, HT.out] at hB; exact hB⟩
            clear hB hcell
            go_wp2
            go_roundw
            case rel => exact ⟨k + 1, by omega, by go_num, HB'.out⟩
            case measure => simp [intOf]; omega
      · obtain rfl : k = l.length := by omega
        have HN : Lk ((bytesOf (l.take l.length)).length = 8 * l.length) := ⟨by rw [List.take_length, bytesOf_len]⟩
        have HE : Lk (bytesOf (l.take l.length) = bytesOf l) := ⟨by rw [List.take_length]⟩
        have HP := Lib.hid (bytesOf_lt (l.take l.length))
        generalize bytesOf (l.take l.length) = bs at *
        obtain ⟨A, c, rfl, hcc, hbl⟩ := hB.form
        have HA := Lib.hid hbl
        have H0 := Lib.hid hB.below
        clear hB hbl
        go_wp2_with fail
        refine (awake_any _).mono ?_
        rintro e w1 ⟨rfl, hB⟩
        have H1 := Below.on H0 hB
        have HA1 := Lies.on HA (Lib.hid hB)
        clear hB
        go_wp2_with fail
        refine (words_any a0 l cap0 w1 (by omega) hb (Lies.on hl H1)).mono ?_
        rintro e w2 ⟨rfl, hB⟩
        have H2 := Below.on H1 hB
        have HA2 := Lies.on HA1 (Lib.hid hB)
        clear hB
        go_wp2_with fail
        refine (bytes_any A bs c w2 (by have := HN.out; omega) HP HA2).mono ?_
        rintro e w3 ⟨rfl, hB⟩
        have H3 := Below.on H2 hB
        clear hB
        rw [HE.out]
        go_wp2_with fail
        refine (words_any a0 l cap0 w3 (by omega) hb (Lies.on hl H3)).mono ?_
        rintro e w4 ⟨rfl, hB⟩
        have H4 := Below.on H3 hB
        clear hB
        go_wp2_with fail
        refine (refWords_any a0 l cap0 w4 (by omega) hb (Lies.on hl H4)).mono ?_
        rintro e w5 ⟨rfl, hB⟩
        have H5 := Below.on H4 hB
        clear hB
        go_wp2
        go_ret
        exact ⟨rfl, H5.out⟩
  · go_enter Try.func4, Try.ntmps4
    go_wp2
    go_ret
    exact ⟨rfl, Below.refl _ _⟩

set_option maxRecDepth 100000 in
theorem lifted (os : Os) (started : os.Started) (H : Type) (enc : TypeId × Value → H) :
    ReturnsInHanded {} Try.checked os 4 .any (Rows.crcWordsSpec.pre6 enc Try.prog Try.f4 Rows.crcWordsRow.domain false) (Rows.crcWordsSpec.post enc Try.prog Try.f4 false true false false) := by
  refine returnsInHanded_of_change (C := Try.checked) own started (by kernel_rfl) Try.func4
    (ChangeSpec.witness6 (enc := enc) (C := Try.checked) false ⟨#[], #[.slice none 0 0], []⟩ 8 (by kernel_rfl) (by kernel_rfl) (by kernel_rfl) (by kernel_rfl)) ?_
  intro W base args ds gs before hval0 hW hcnd _
  have hval : ∀ (j : Nat) t v, Try.f4.params[j]? = some t → args[j]? = some v → Value.okWide Try.prog W .any base t v := hval0
  have hW' := hW
  obtain ⟨p, q, hA0, hV, rfl, hfz, hnd⟩ := hW
  have hA : DataW.TrodAll enc Try.prog W 0 (fun _ => true) true Try.f4.params.toList args.toList ds p := hA0
  rw [Try.params4] at hA hval
  obtain ⟨v0, vs0, d0, ds0, p0, q0, hargs, rfl, rfl, h0, r0⟩ := trodAll_cons hA
  obtain ⟨rfl, rfl, rfl⟩ := trodAll_nil r0
  obtain rfl : args = #[v0] := by cases args; simp_all
  obtain ⟨rfl, rfl⟩ := trodVars_none hV
  obtain ⟨a0, len0, cap0, rfl⟩ := okWide_slice Try.underlying27 (hval 0 27 v0 rfl rfl)
  have k0 := h0
  have lt0 : ∀ x ∈ p0, x.block < W.heap.size := by obtain ⟨m, hm⟩ := k0; exact DataW.trod_lt m _ _ _ hm
  obtain ⟨z0, w0⟩ : ∃ zs, IsRow .u64 W a0 len0 cap0 zs := by
    obtain ⟨fuel, hf⟩ := h0
    rcases open_ints Try.underlying27 Try.underlying24 (by kernel_rfl) hf with ⟨hcs, _⟩ | ⟨x, l, c, zs, hcs, _, hl, hm, hz, _, hcell, hwz⟩
    · simp [Value.cells] at hcs
      obtain ⟨rfl, rfl, rfl⟩ := hcs
      exact ⟨[], .inl ⟨rfl, rfl, rfl, rfl⟩⟩
    · simp [Value.cells] at hcs
      obtain ⟨rfl, rfl, rfl⟩ := hcs
      exact ⟨zs, .inr ⟨_, rfl, hl, hm, by simpa using hz, hcell, hwz⟩⟩
  clear hA0 hval0
  refine (walk a0 len0 cap0 z0 W w0).mono fun e W' ⟨he, bel⟩ => ?_
  subst he
  exact ⟨_, rfl, _, _, _, [], _, [], hW', trodAll_mk1 (shut_bool Try.underlying4 _), (trodAll_cons_mk (Below.trod laidOut (by kernel_rfl) (of_decide_eq_true (by kernel_rfl)) k0 bel lt0) trodAll_mk0), rfl, bel.frame _, fun h => by cases h⟩

theorem over : Rows.crcWordsRow.holds Try.pinned (OpenSpec.ofChange Rows.crcWordsSpec) :=
  OpenClaim.holds_of_wide 4 Try.f4 rfl rfl rfl rfl rfl rfl rfl ⟨rfl, rfl, rfl, rfl, rfl⟩ rfl rfl rfl rfl rfl (by kernel_rfl) Try.func4 (by kernel_rfl)
    (of_decide_eq_true (by kernel_rfl)) (by unfold Func.isWrapper; first | (rw [if_pos (by decide +kernel)]; kernel_rfl) | (rw [if_neg (by decide +kernel)]; exact ⟨rfl, rfl⟩))
    (fun os started H enc _ => lifted os started H enc)

/-- ████ THE STATEMENT ████ -/
theorem proved : Rows.CrcWordsSaid := over
end Go.Proofs.Ytfnmgehkalikfaa.crcWords

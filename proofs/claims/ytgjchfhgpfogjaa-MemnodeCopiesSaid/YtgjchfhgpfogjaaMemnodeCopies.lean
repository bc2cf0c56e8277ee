/-
  For every input MemnodeCopies returns true, and each argument reads afterwards as before: package memnode keeps the document here. No condition.
-/
import Derived.Test.YtgjchfhgpfogjaaRows
import Derived.Test.YtgjchfhgpfogjaaNu
import Derived.WalkKit
import Derived.ProofKit
import Derived.OpenShut
import Derived.ShutString
import Derived.ChangeOld
import Derived.Below
namespace Go.Proofs.Ytgjchfhgpfogjaa.memnodeCopies
open Go.ChangeShapes Go.WideShapes Go.ChangeAt Go.RowKit Ga Ma Ca Cb Cc Cd Ce Na Nb Nc Nd_ Nk Nf Ng Nh No Np Nq Nr Ns Nt Nu
set_option linter.unusedSimpArgs false
set_option linter.unusedVariables false

theorem own : ownKnob Try.prog.godebug = none := by kernel_rfl
theorem laidOut : laidOutB Try.prog = true := of_decide_eq_true (by kernel_rfl)

set_option maxRecDepth 100000 in
set_option maxHeartbeats 4000000 in
theorem walk (a0 : Option Addr) (len0 cap0 : Nat) (a1 : Option Addr) (len1 cap1 : Nat) (a2 : Option Addr) (len2 cap2 : Nat) (w : World) (w0 : IsOps w a0 len0 cap0) (w1 : IsOps w a1 len1 cap1) (w2 : IsOps w a2 len2 cap2) :
    Calls Try.prog 6 #[.slice a0 len0 cap0, .slice a1 len1 cap1, .slice a2 len2 cap2] w fun e w' => e = .returned (.bool true) ∧ Below w.heap.size w w' := by
  have hlen0 := w0.len
  have hlen1 := w1.len
  have hlen2 := w2.len
  by_cases h0 : len0 ≤ 20
  · by_cases h1 : len1 ≤ 20
    · by_cases h2 : len2 ≤ 20
      · go_enter Try.func6, Try.ntmps6
        go_wp2_with fail
        refine (new_ok 2 w (by decide) (by decide)).mono ?_
        rintro e v1 ⟨b, g, rfl, hb, hg, HN, HB⟩
        go_wp2_with fail
        refine (awake_any v1).mono ?_
        rintro e v2 ⟨rfl, hB2⟩
        have HN2 : Lk (PN v2 b g 16 16 (List.replicate 16 0) true) := ⟨HN.out.keep (hB2.block b HN.out.size) (hB2.block g HN.out.row.size)⟩
        have HB2 : Lk (Below w.heap.size w v2) := ⟨HB.out.trans (hB2.mono HB.out.size)⟩
        clear HN HB hB2
        go_wp2_with fail
        refine (refNew_any 2 v2 (by decide) (by decide)).mono ?_
        rintro e v3 ⟨gr, rfl, HG, HR, HB⟩
        have HX := pair_made (HN2.out.keep (HB.out.block b HN2.out.size) (HB.out.block g HN2.out.row.size)) HR.out (by have := HN2.out.size; have := HG.out; omega) (by have := HN2.out.row.size; have := HG.out; omega)
        have HP : Lk (Pr _ b g 16 _ gr 16 16 (List.replicate 16 0) true) := ⟨HX.1⟩
        have HB3 : Lk (Below w.heap.size w _) := ⟨HB2.out.trans ((HB.out.trans (HX.2.mono HB.out.size)).mono HB2.out.size)⟩
        have HO : Lk (∀ i, Of b g v3.heap.size gr i → w.heap.size ≤ i) := ⟨fun i hi => by
          have := hb.out
          have := hg.out
          have := HG.out
          have := HB2.out.size
          have := HB.out.size
          unfold Of at hi; omega⟩
        clear HX HB HB2 HN2 HR HG hb hg
        go_wp2_with fail
        generalize hW : v3.alloc (.cells #[.slice (some ⟨gr, 0, none⟩) 16 16, .bool true] 31) = W at *
        clear hW
        generalize v3.heap.size = br at *
        go_loopw [10] (fun i wr => ∃ (k : Nat) (ws : List Nat) (up : Bool), k ≤ len0 ∧ i = .int .i64 k ∧ Lk (Pr wr b g 16 br gr 16 16 ws up) ∧ Lk (Below w.heap.size w wr)) (fun i _ => len0 - (intOf i).toNat)
        case atStart => exact ⟨0, _, _, by omega, rfl, HP, HB3⟩
        case round =>
          clear HP HB3
          obtain ⟨k, ws, up, hk, rfl, HP, HB⟩ := hrel
          by_cases hlt : k < len0
          · obtain ⟨p, rfl, hop⟩ := w0.at_ hlt
            have hop2 : OneOp wr p (k * 5) := by
              obtain ⟨q, a, c, x, y, e0, e1, e2, e3, e4, e5⟩ := hop
              exact ⟨q, a, c, x, y, (HB.out.cell (block_lt_of_cell e0)).trans e0, (HB.out.cell (block_lt_of_cell e1)).trans e1, (HB.out.cell (block_lt_of_cell e2)).trans e2, (HB.out.cell (block_lt_of_cell e3)).trans e3, (HB.out.cell (block_lt_of_cell e4)).trans e4, e5⟩
            obtain ⟨q, a, c, x, y, e0, e1, e2, e3, e4, q0, q1, a0, a1, c0, c1, hx, hy⟩ := hop2
            clear hop
            go_wp2_with fail
            refine (do_any b g 16 br gr 16 16 ws up q a c x y wr HP (by decide) (by decide) q0 q1 a0 a1 c0 c1 hx hy).mono ?_
            rintro e w4 ⟨rfl, ws', up', HP4, HO4, Hup⟩
            have HB4 : Lk (Below w.heap.size w w4) := ⟨HO4.out.below_on HB.out HO.out HB.out.size⟩
            go_wp2_with fail
            go_roundw
            case rel => exact ⟨k + 1, _, _, by omega, by go_num, HP4, HB4⟩
            case measure => simp [intOf]; omega
          · obtain rfl : len0 = k := by omega
            go_wp2_with fail
            refine (copy_any b g 16 16 ws up wr ⟨HP.out.p⟩ (by decide) (by decide)).mono ?_
            rintro e w5 ⟨b2, g2, cpm, rfl, HG5, HN5, HB5⟩
            have HP5 : Lk (Pr w5 b g 16 br gr 16 16 ws up) := ⟨HP.out.on0 HB5.out⟩
            have HB5' : Lk (Below w.heap.size w w5) := ⟨HB.out.trans (HB5.out.mono HB.out.size)⟩
            have HD5 : Lk (∀ i, Of b g br gr i → i < wr.heap.size) := ⟨fun i hi => by
              have h1 := HP.out.p.size
              have h2 := HP.out.p.row.size
              have h3 := HP.out.r.size
              have h4 := HP.out.r.row.size
              unfold Of at hi; omega⟩
            have HS5 : Lk (wr.heap.size ≤ w5.heap.size ∧ w.heap.size ≤ wr.heap.size) := ⟨HB5.out.size, HB.out.size⟩
            clear HP HB HB5
            obtain ⟨i0, hi, hz0, hz1, hz2⟩ := info_parts u64info
            have hcr0 := HP5.out.r.c0
            have hcr1 := HP5.out.r.c1
            have HCS : Lk (∀ wx, Below w5.heap.size w5 wx → ∀ j u, (ws.map u64v)[j]? = some u → wx.cell? ((⟨gr, 0, none⟩ : Addr).add j) = some u) := ⟨fun wx hb j u hj => by
              have hjl : j < ws.length := by
                by_cases h : j < ws.length
                · exact h
                · rw [List.getElem?_eq_none (by simpa using Nat.le_of_not_lt h)] at hj; simp at hj
              have hlw := HP5.out.r.row.len
              have hc := HP5.out.r.row.cell (show j < 16 by omega)
              rw [add_zero_, (hb.cell (block_lt_of_cell hc)), hc]
              rw [List.getElem?_map, List.getElem?_eq_getElem hjl] at hj
              obtain rfl : u64v ws[j] = u := by simpa using hj
              simp [hjl, u64v]⟩
            have HOS : Lk (∀ u ∈ ws.map u64v, u.oneCell' = true) := ⟨fun u hu => by
              rw [List.mem_map] at hu
              obtain ⟨x, _, rfl⟩ := hu
              rfl⟩
            have HLS : Lk ((ws.map u64v).length = 16) := ⟨by rw [List.length_map]; exact HP5.out.r.row.len⟩
            have HWS : Lk (∀ x ∈ ws, x < 18446744073709551616) := ⟨HP5.out.r.row.lt⟩
            have HLW : Lk (ws.length = 16) := ⟨HP5.out.r.row.len⟩
            have HBa : Lk (Below w5.heap.size w5 w5.drew) := ⟨(Below.refl _ w5).drew⟩
            have HBb : Lk (Below w5.heap.size w5 (w5.alloc (.cells #[.slice none 0 0, .bool false] 31)).drew) := ⟨((Below.refl _ w5).alloc (Nat.le_refl _) _).drew⟩
            have hcb1 := alloc_cell (.cells #[.slice none 0 0, .bool false] 31) hcr1
            have hcb0 := alloc_cell (.cells #[.slice none 0 0, .bool false] 31) hcr0
            go_upto_region 15 with fail
            go_cut [12] (fun s12 wx => ∃ bs gs cps : Nat, s12 = .pointer (some ⟨bs, 0, none⟩) ∧ Lk (RN wx bs gs 16 cps ws up) ∧ Lk (w5.heap.size ≤ bs ∧ w5.heap.size ≤ gs) ∧ Lk (Below w5.heap.size w5 wx))
            case first =>
              go_region_law (first
                | (refine step_append_lies _ rfl (.const (.slice none 0 0)) (.tmp 61) 29 rfl w5.heap.size 35 i0 (.int .u64 0) 1 8 Try.underlying29 hi hz0 hz1 hz2 rfl (by decide) (.slice none 0 0) 0 [] rfl (World.ownsRow_nil _ _ _ _) ⟨gr, 0, none⟩ 16 16 (ws.map u64v) (by simp [Act.eval, Act.put]) (by rw [HLS.out]) (HCS.out _ HBb.out) HOS.out (by decide) (by decide) (by decide) HBb.out.size _ rfl ?_; intro gs cps w6 hown hgrow hor hlt6; obtain ⟨f0, f1, f2, f3, HXB⟩ := made_before (up := up) hgrow (by simpa using hown) HLW.out HWS.out; have hcr6 := grown_cell hgrow hcb1)
                | (refine step_append_lies _ rfl (.const (.slice none 0 0)) (.tmp 61) 29 rfl w5.heap.size 35 i0 (.int .u64 0) 1 8 Try.underlying29 hi hz0 hz1 hz2 rfl (by decide) (.slice none 0 0) 0 [] rfl (World.ownsRow_nil _ _ _ _) ⟨gr, 0, none⟩ 16 16 (ws.map u64v) (by simp [Act.eval, Act.put]) (by rw [HLS.out]) (HCS.out _ HBa.out) HOS.out (by decide) (by decide) (by decide) HBa.out.size _ rfl ?_; intro gs cps w6 hown hgrow hor hlt6; have HXA := Lib.hid (made_after (up := up) HBa.out hgrow (by simpa using hown) HLW.out HWS.out); have hcr6 := grown_cell hgrow (p := ⟨br, 1, none⟩) (v := .bool up) hcr1; have hcr7 := alloc_cell (.cells #[.slice none 0 0, .bool false] 31) hcr6))
              all_goals go_wp2
              all_goals go_meet
              all_goals first
                | exact ⟨_, gs, cps, rfl, ⟨HXA.out.1⟩, ⟨HXA.out.2.1, HXA.out.2.2.1⟩, ⟨HXA.out.2.2.2⟩⟩
                | exact ⟨_, gs, cps, rfl, ⟨HXB.out.1⟩, ⟨Nat.le_refl _, HXB.out.2.1⟩, ⟨HXB.out.2.2⟩⟩
            case rest =>
              obtain ⟨bs, gs, cps, rfl, HR6, HG6, HB6⟩ := hcut
              clear hcr0 hcr1 HCS HOS HLS HWS HLW HBa HBb
              have HP6 : Lk (Pr wc b g 16 br gr 16 16 ws up) := ⟨HP5.out.on0 HB6.out⟩
              have HQ6 : Lk (Pr wc b2 g2 cpm bs gs cps 16 ws up) := ⟨⟨HN5.out.keep (HB6.out.block b2 HN5.out.size) (HB6.out.block g2 HN5.out.row.size), HR6.out, by have := HN5.out.size; have := HG6.out.1; omega, by have := HN5.out.size; have := HG6.out.2; omega, by have := HN5.out.row.size; have := HG6.out.1; omega, by have := HN5.out.row.size; have := HG6.out.2; omega⟩⟩
              have HB7 : Lk (Below w.heap.size w wc) := ⟨HB5'.out.trans (HB6.out.mono HB5'.out.size)⟩
              have HO2 : Lk (∀ i, Of b2 g2 bs gs i → wr.heap.size ≤ i) := ⟨fun i hi => by
                have h1 := HG5.out
                have h2 := HG6.out
                have h3 := HS5.out
                unfold Of at hi; omega⟩
              have HD1 : Lk (∀ i, Of b g br gr i → ¬ Of b2 g2 bs gs i) := ⟨fun i hi hj => by have h1 := HD5.out i hi; have h2 := HO2.out i hj; omega⟩
              have HD2 : Lk (∀ i, Of b2 g2 bs gs i → ¬ Of b g br gr i) := ⟨fun i hi hj => HD1.out i hj hi⟩
              have HO3 : Lk (∀ i, Of b2 g2 bs gs i → w.heap.size ≤ i) := ⟨fun i hi => by have h1 := HO2.out i hi; have h2 := HS5.out.2; omega⟩
              clear HP5 HN5 HR6 HB5' HB6 HG5 HG6 HD5 HS5 HO2 hi hz0 hz1 hz2
              go_wp2_with fail
              go_loopw [13] (fun i wr => ∃ (k : Nat) (ws1 : List Nat) (up1 : Bool), k ≤ len1 ∧ i = .int .i64 k ∧ Lk (Pr wr b g 16 br gr 16 16 ws1 up1) ∧ Lk (Pr wr b2 g2 cpm bs gs cps 16 ws up) ∧ Lk (Below w.heap.size w wr)) (fun i _ => len1 - (intOf i).toNat)
              case atStart => exact ⟨0, _, _, by omega, rfl, HP6, HQ6, HB7⟩
              case round =>
                clear HP6 HQ6 HB7
                obtain ⟨k, ws1, up1, hk, rfl, HP, HQ, HB⟩ := hrel
                by_cases hlt : k < len1
                · obtain ⟨p, rfl, hop⟩ := w1.at_ hlt
                  have hop2 : OneOp wr p (k * 5) := by
                    obtain ⟨q, a, c, x, y, e0, e1, e2, e3, e4, e5⟩ := hop
                    exact ⟨q, a, c, x, y, (HB.out.cell (block_lt_of_cell e0)).trans e0, (HB.out.cell (block_lt_of_cell e1)).trans e1, (HB.out.cell (block_lt_of_cell e2)).trans e2, (HB.out.cell (block_lt_of_cell e3)).trans e3, (HB.out.cell (block_lt_of_cell e4)).trans e4, e5⟩
                  obtain ⟨q, a, c, x, y, e0, e1, e2, e3, e4, q0, q1, a0, a1, c0, c1, hx, hy⟩ := hop2
                  clear hop
                  go_wp2_with fail
                  refine (do_any b g 16 br gr 16 16 ws1 up1 q a c x y wr HP (by decide) (by decide) q0 q1 a0 a1 c0 c1 hx hy).mono ?_
                  rintro e w4 ⟨rfl, ws', up', HP4, HO4, Hup⟩
                  have HQ4 : Lk (Pr w4 b2 g2 cpm bs gs cps 16 ws up) := ⟨HQ.out.on HO4.out HD1.out⟩
                  have HB4 : Lk (Below w.heap.size w w4) := ⟨HO4.out.below_on HB.out HO.out HB.out.size⟩
                  go_wp2_with fail
                  go_roundw
                  case rel => exact ⟨k + 1, _, _, by omega, by go_num, HP4, HQ4, HB4⟩
                  case measure => simp [intOf]; omega
                · obtain rfl : len1 = k := by omega
                  go_wp2_with fail
                  go_loopw [14] (fun i wr => ∃ (k : Nat) (ws2 : List Nat) (up2 : Bool), k ≤ len2 ∧ i = .int .i64 k ∧ Lk (Pr wr b g 16 br gr 16 16 ws1 up1) ∧ Lk (Pr wr b2 g2 cpm bs gs cps 16 ws2 up2) ∧ Lk (Below w.heap.size w wr)) (fun i _ => len2 - (intOf i).toNat)
                  case atStart => exact ⟨0, _, _, by omega, rfl, HP, HQ, HB⟩
                  case round =>
                    clear HP HQ HB
                    obtain ⟨k, ws2, up2, hk, rfl, HP, HQ, HB⟩ := hrel
                    by_cases hlt : k < len2
                    · obtain ⟨p, rfl, hop⟩ := w2.at_ hlt
                      have hop2 : OneOp wr p (k * 5) := by
                        obtain ⟨q, a, c, x, y, e0, e1, e2, e3, e4, e5⟩ := hop
                        exact ⟨q, a, c, x, y, (HB.out.cell (block_lt_of_cell e0)).trans e0, (HB.out.cell (block_lt_of_cell e1)).trans e1, (HB.out.cell (block_lt_of_cell e2)).trans e2, (HB.out.cell (block_lt_of_cell e3)).trans e3, (HB.out.cell (block_lt_of_cell e4)).trans e4, e5⟩
                      obtain ⟨q, a, c, x, y, e0, e1, e2, e3, e4, q0, q1, a0, a1, c0, c1, hx, hy⟩ := hop2
                      clear hop
                      go_wp2_with fail
                      refine (do_any b2 g2 cpm bs gs cps 16 ws2 up2 q a c x y wr HQ (by decide) (by decide) q0 q1 a0 a1 c0 c1 hx hy).mono ?_
                      rintro e w4 ⟨rfl, ws', up', HP4, HO4, Hup⟩
                      have HQ4 : Lk (Pr w4 b g 16 br gr 16 16 ws1 up1) := ⟨HP.out.on HO4.out HD2.out⟩
                      have HB4 : Lk (Below w.heap.size w w4) := ⟨HO4.out.below_on HB.out HO3.out HB.out.size⟩
                      go_wp2_with fail
                      go_roundw
                      case rel => exact ⟨k + 1, _, _, by omega, by go_num, HQ4, HP4, HB4⟩
                      case measure => simp [intOf]; omega
                    · obtain rfl : len2 = k := by omega
                      go_wp2_with fail
                      refine (image_any b g 16 16 ws1 up1 wr 2 ⟨HP.out.p⟩ rfl (by decide) (by decide)).mono ?_
                      rintro e x1 ⟨z1, rfl, HX1⟩
                      obtain ⟨A1, c1, rfl, _, hL1⟩ := HX1.out.form
                      have HL1 := Lib.hid hL1
                      clear hL1
                      have HP1 : Lk (Pr x1 b g 16 br gr 16 16 ws1 up1) := ⟨HP.out.on0 HX1.out.below⟩
                      have HQ1 : Lk (Pr x1 b2 g2 cpm bs gs cps 16 ws2 up2) := ⟨HQ.out.on0 HX1.out.below⟩
                      have HB1 : Lk (Below w.heap.size w x1) := ⟨HB.out.trans (HX1.out.below.mono HB.out.size)⟩
                      clear HX1 HP HQ HB
                      go_wp2_with fail
                      refine (sameImage_any A1 (img ws1 up1 2) _ c1 br gr 16 16 ws1 up1 x1 2 rfl ⟨HL1.out⟩ ⟨rfl⟩ ⟨HP1.out.r⟩ rfl (by decide) (by decide)).mono ?_
                      rintro e x2 ⟨rfl, HX2⟩
                      have HQ2 : Lk (Pr x2 b2 g2 cpm bs gs cps 16 ws2 up2) := ⟨HQ1.out.on0 HX2.out⟩
                      have HB2 : Lk (Below w.heap.size w x2) := ⟨HB1.out.trans (HX2.out.mono HB1.out.size)⟩
                      clear HX2 HP1 HQ1 HB1 HL1
                      go_wp2_with fail
                      refine (image_any b2 g2 16 cpm ws2 up2 x2 2 ⟨HQ2.out.p⟩ rfl (by decide) (by decide)).mono ?_
                      rintro e x3 ⟨z3, rfl, HX3⟩
                      obtain ⟨A3, c3, rfl, _, hL3⟩ := HX3.out.form
                      have HL3 := Lib.hid hL3
                      clear hL3
                      have HQ3 : Lk (Pr x3 b2 g2 cpm bs gs cps 16 ws2 up2) := ⟨HQ2.out.on0 HX3.out.below⟩
                      have HB3 : Lk (Below w.heap.size w x3) := ⟨HB2.out.trans (HX3.out.below.mono HB2.out.size)⟩
                      clear HX3 HQ2 HB2
                      go_wp2_with fail
                      refine (sameImage_any A3 (img ws2 up2 2) _ c3 bs gs 16 cps ws2 up2 x3 2 rfl ⟨HL3.out⟩ ⟨rfl⟩ ⟨HQ3.out.r⟩ rfl (by decide) (by decide)).mono ?_
                      rintro e x4 ⟨rfl, HX4⟩
                      go_wp2_with fail
                      go_ret
                      exact ⟨rfl, HB3.out.trans (HX4.out.mono HB3.out.size)⟩
      · go_enter Try.func6, Try.ntmps6
        go_wp2
        go_ret
        exact ⟨rfl, Below.refl _ _⟩
    · go_enter Try.func6, Try.ntmps6
      go_wp2
      go_ret
      exact ⟨rfl, Below.refl _ _⟩
  · go_enter Try.func6, Try.ntmps6
    go_wp2
    go_ret
    exact ⟨rfl, Below.refl _ _⟩

set_option maxRecDepth 100000 in
theorem lifted (os : Os) (started : os.Started) (H : Type) (enc : TypeId × Value → H) :
    ReturnsInHanded {} Try.checked os 6 .any (Rows.memnodeCopiesSpec.pre6 enc Try.prog Try.f6 Rows.memnodeCopiesRow.domain false) (Rows.memnodeCopiesSpec.post enc Try.prog Try.f6 false true false false) := by
  refine returnsInHanded_of_change (C := Try.checked) own started (by kernel_rfl) Try.func6
    (ChangeSpec.witness6 (enc := enc) (C := Try.checked) false ⟨#[], #[.slice none 0 0, .slice none 0 0, .slice none 0 0], []⟩ 8 (by kernel_rfl) (by kernel_rfl) (by kernel_rfl) (by kernel_rfl)) ?_
  intro W base args ds gs before hval0 hW hcnd _
  have hval : ∀ (j : Nat) t v, Try.f6.params[j]? = some t → args[j]? = some v → Value.okWide Try.prog W .any base t v := hval0
  have hW' := hW
  obtain ⟨p, q, hA0, hV, rfl, hfz, hnd⟩ := hW
  have hA : DataW.TrodAll enc Try.prog W 0 (fun _ => true) true Try.f6.params.toList args.toList ds p := hA0
  rw [Try.params6] at hA hval
  obtain ⟨v0, vs0, d0, ds0, p0, q0, hargs, rfl, rfl, h0, r0⟩ := trodAll_cons hA
  obtain ⟨v1, vs1, d1, ds1, p1, q1, rfl, rfl, rfl, h1, r1⟩ := trodAll_cons r0
  obtain ⟨v2, vs2, d2, ds2, p2, q2, rfl, rfl, rfl, h2, r2⟩ := trodAll_cons r1
  obtain ⟨rfl, rfl, rfl⟩ := trodAll_nil r2
  obtain rfl : args = #[v0, v1, v2] := by cases args; simp_all
  obtain ⟨rfl, rfl⟩ := trodVars_none hV
  obtain ⟨a0, len0, cap0, rfl⟩ := okWide_slice Try.underlying22 (hval 0 22 v0 rfl rfl)
  have k0 := h0
  have lt0 : ∀ x ∈ p0, x.block < W.heap.size := by obtain ⟨m, hm⟩ := k0; exact DataW.trod_lt m _ _ _ hm
  have w0 : IsOps W a0 len0 cap0 := by
    obtain ⟨fuel, hf⟩ := h0
    exact ops_of hf
  obtain ⟨a1, len1, cap1, rfl⟩ := okWide_slice Try.underlying22 (hval 1 22 v1 rfl rfl)
  have k1 := h1
  have lt1 : ∀ x ∈ p1, x.block < W.heap.size := by obtain ⟨m, hm⟩ := k1; exact DataW.trod_lt m _ _ _ hm
  have w1 : IsOps W a1 len1 cap1 := by
    obtain ⟨fuel, hf⟩ := h1
    exact ops_of hf
  obtain ⟨a2, len2, cap2, rfl⟩ := okWide_slice Try.underlying22 (hval 2 22 v2 rfl rfl)
  have k2 := h2
  have lt2 : ∀ x ∈ p2, x.block < W.heap.size := by obtain ⟨m, hm⟩ := k2; exact DataW.trod_lt m _ _ _ hm
  have w2 : IsOps W a2 len2 cap2 := by
    obtain ⟨fuel, hf⟩ := h2
    exact ops_of hf
  clear hA0 hval0
  refine (walk a0 len0 cap0 a1 len1 cap1 a2 len2 cap2 W w0 w1 w2).mono fun e W' ⟨he, bel⟩ => ?_
  subst he
  exact ⟨_, rfl, _, _, _, [], _, [], hW', trodAll_mk1 (shut_bool Try.underlying4 _), (trodAll_cons_mk (Below.trod laidOut (by kernel_rfl) (of_decide_eq_true (by kernel_rfl)) k0 bel lt0) (trodAll_cons_mk (Below.trod laidOut (by kernel_rfl) (of_decide_eq_true (by kernel_rfl)) k1 bel lt1) (trodAll_cons_mk (Below.trod laidOut (by kernel_rfl) (of_decide_eq_true (by kernel_rfl)) k2 bel lt2) trodAll_mk0))), rfl, bel.frame _, fun h => by cases h⟩

theorem over : Rows.memnodeCopiesRow.holds Try.pinned (OpenSpec.ofChange Rows.memnodeCopiesSpec) :=
  OpenClaim.holds_of_wide 6 Try.f6 rfl rfl rfl rfl rfl rfl rfl ⟨rfl, rfl, rfl, rfl, rfl⟩ rfl rfl rfl rfl rfl (by kernel_rfl) Try.func6 (by kernel_rfl)
    (of_decide_eq_true (by kernel_rfl)) (by unfold Func.isWrapper; first | (rw [if_pos (by decide +kernel)]; kernel_rfl) | (rw [if_neg (by decide +kernel)]; exact ⟨rfl, rfl⟩))
    (fun os started H enc _ => lifted os started H enc)

/-- ████ THE STATEMENT ████ -/
theorem proved : Rows.MemnodeCopiesSaid := over
end Go.Proofs.Ytgjchfhgpfogjaa.memnodeCopies

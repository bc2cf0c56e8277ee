/-
  For every input MemnodeImages returns true, and each argument reads afterwards as before: package memnode keeps the document here. No condition.
-/
import Derived.Test.YtgjchfhgpfogjaaRows
import Derived.Test.YtgjchfhgpfogjaaNaa
import Derived.WalkKit
import Derived.ProofKit
import Derived.OpenShut
import Derived.ShutString
import Derived.ChangeOld
import Derived.Below
namespace Go.Proofs.Ytgjchfhgpfogjaa.memnodeImages
open Go.ChangeShapes Go.WideShapes Go.ChangeAt Go.RowKit Ga Ma Ca Cb Cc Cd Ce Na Nb Nc Nd_ Nk Nf Ng Nh No Np Nq Nr Ns Nt Nu Nv Nx Ny Nz Naa
set_option linter.unusedSimpArgs false
set_option linter.unusedVariables false

theorem own : ownKnob Try.prog.godebug = none := by kernel_rfl
theorem laidOut : laidOutB Try.prog = true := of_decide_eq_true (by kernel_rfl)

set_option maxRecDepth 100000 in
set_option maxHeartbeats 8000000 in
theorem walk (a0 : Int) (a1 : Option Addr) (len1 cap1 : Nat) (a2 : Int) (a3 : Int) (a4 : Option Addr) (len4 cap4 : Nat) (z4 : List Int) (w : World) (w0 : (Lit.int .i64 a0).wf = true) (w1 : IsOps w a1 len1 cap1) (w2 : (Lit.int .i64 a2).wf = true) (w3 : (Lit.int .u8 a3).wf = true) (w4 : IsRow .u8 w a4 len4 cap4 z4) :
    Calls Try.prog 5 #[.int .i64 a0, .slice a1 len1 cap1, .int .i64 a2, .int .u8 a3, .slice a4 len4 cap4] w fun e w' => e = .returned (.bool true) ∧ Below w.heap.size w w' := by
  have hlen := w1.len
  have hwf := bounds_i64 w0
  have hwf2 := bounds_i64 w2
  obtain ⟨lr, rfl, hbr, hlr, hcr0, hcr1⟩ := w4.open8
  have hL5 := pk_lt a0 3 (by decide)
  have C0 := pick_any a0 3 w (by decide) (by decide) hwf.1 hwf.2
  obtain ⟨L, hL⟩ : ∃ L, Lk (pk a0 3 + 1 = L) := ⟨_, ⟨rfl⟩⟩
  generalize pk a0 3 = p5 at *
  have hL1 : 1 ≤ L := by have := hL.out; omega
  have hL2 : L ≤ 3 := by have := hL.out; omega
  have hpL : (p5 : Int) + 1 = L := by have := hL.out; omega
  have HPL := Lib.hid hpL
  clear hpL hL hL5 hwf w0 w4
  obtain ⟨n, hn⟩ : ∃ n, 8 * L = n := ⟨_, rfl⟩
  have HN8 : Lk (n = 8 * L) := ⟨hn.symm⟩
  have CN := new_ok L w hL1 (by omega)
  have CR := fun wx => refNew_any L wx hL1 (by omega)
  rw [hn] at CN
  simp only [hn] at CR
  have HCR := Lib.hid CR
  have hn8 : 8 ≤ n := by omega
  have hn40 : n ≤ 24 := by omega
  clear hn CR
  go_enter Try.func5, Try.ntmps5
  go_wp2_with fail
  refine C0.mono ?_
  rintro e w' ⟨rfl, rfl⟩
  clear C0
  go_upto_region 2 with fail
  rw [HPL.out, show wrap64 (L : Int) = L from by unfold wrap64; omega]
  by_cases h30 : len1 ≤ 30
  · by_cases h400 : lr.length ≤ 400
    · go_wp2_with fail
      refine CN.mono ?_
      rintro e v1 ⟨b, g, rfl, hb, hg, HN, HB⟩
      clear CN
      go_wp2_with fail
      refine (awake_any v1).mono ?_
      rintro e v2 ⟨rfl, hB2⟩
      have HN2 : Lk (PN v2 b g n n (List.replicate n 0) true) := ⟨HN.out.keep (hB2.block b HN.out.size) (hB2.block g HN.out.row.size)⟩
      have HB2 : Lk (Below w.heap.size w v2) := ⟨HB.out.trans (hB2.mono HB.out.size)⟩
      clear HN HB hB2
      go_wp2_with fail
      refine (HCR.out v2).mono ?_
      rintro e v3 ⟨gr, rfl, HG, HR, HB⟩
      have HX := pair_made (HN2.out.keep (HB.out.block b HN2.out.size) (HB.out.block g HN2.out.row.size)) HR.out (by have := HN2.out.size; have := HG.out; omega) (by have := HN2.out.row.size; have := HG.out; omega)
      have HP : Lk (Pr _ b g n _ gr n n (List.replicate n 0) true) := ⟨HX.1⟩
      have HB3 : Lk (Below w.heap.size w _) := ⟨HB2.out.trans ((HB.out.trans (HX.2.mono HB.out.size)).mono HB2.out.size)⟩
      have HO : Lk (∀ i, Of b g v3.heap.size gr i → w.heap.size ≤ i) := ⟨fun i hi => by
        have := hb.out
        have := hg.out
        have := HG.out
        have := HB2.out.size
        have := HB.out.size
        unfold Of at hi; omega⟩
      clear HX HB HB2 HN2 HR HG hb hg HCR
      go_wp2_with fail
      generalize hW : v3.alloc (.cells #[.slice (some ⟨gr, 0, none⟩) n n, .bool true] 31) = W at *
      clear hW
      generalize v3.heap.size = br at *
      go_loopw [14] (fun i wr => ∃ (k : Nat) (ws : List Nat) (up : Bool), k ≤ len1 ∧ i = .int .i64 k ∧ Lk (Pr wr b g n br gr n n ws up) ∧ Lk (Below w.heap.size w wr)) (fun i _ => len1 - (intOf i).toNat)
      case atStart => exact ⟨0, _, _, by omega, rfl, HP, HB3⟩
      case round =>
        clear HP HB3
        obtain ⟨k, ws, up, hk, rfl, HP, HB⟩ := hrel
        by_cases hlt : k < len1
        · obtain ⟨p, rfl, hop⟩ := w1.at_ hlt
          have hop2 : OneOp wr p (k * 5) := by
            obtain ⟨q, a, c, x, y, e0, e1, e2, e3, e4, e5⟩ := hop
            exact ⟨q, a, c, x, y, (HB.out.cell (block_lt_of_cell e0)).trans e0, (HB.out.cell (block_lt_of_cell e1)).trans e1, (HB.out.cell (block_lt_of_cell e2)).trans e2, (HB.out.cell (block_lt_of_cell e3)).trans e3, (HB.out.cell (block_lt_of_cell e4)).trans e4, e5⟩
          obtain ⟨q, a, c, x, y, e0, e1, e2, e3, e4, q0, q1, a0, a1, c0, c1, hx, hy⟩ := hop2
          clear hop
          go_wp2_with fail
          refine (do_any b g n br gr n n ws up q a c x y wr HP (by omega) hn8 q0 q1 a0 a1 c0 c1 hx hy).mono ?_
          rintro e w4 ⟨rfl, ws', up', HP4, HO4, Hup⟩
          have HB4 : Lk (Below w.heap.size w w4) := ⟨HO4.out.below_on HB.out HO.out HB.out.size⟩
          go_wp2_with fail
          go_roundw
          case rel => exact ⟨k + 1, _, _, by omega, by go_num, HP4, HB4⟩
          case measure => simp [intOf]; omega
        · obtain rfl : len1 = k := by omega
          go_wp2_with fail
          refine (image_any b g n n ws up wr L ⟨HP.out.p⟩ HN8.out hL1 (by omega)).mono ?_
          rintro e x1 ⟨v5, rfl, HI⟩
          have HIs : Lk (Is (img ws up L) ws up L) := ⟨⟨rfl, by rw [HP.out.p.row.len]; exact HN8.out, hL1, by omega, HP.out.p.row.lt⟩⟩
          have HIl : Lk ((img ws up L).length = 15 + 64 * L) := ⟨HIs.out.lines.2.2⟩
          obtain ⟨g5, c5, hc5, hv5⟩ := bt_form HI.out (by rw [HIl.out]; omega)
          rw [HIl.out] at hc5 hv5
          subst hv5
          have hg5 := (HI.out.own.lt g5 rfl).1
          have HR1 : Lk (RN x1 br gr n n ws up) := ⟨HP.out.r.keep (HI.out.below.block br HP.out.r.size) (HI.out.below.block gr HP.out.r.row.size)⟩
          have HB1 : Lk (Below w.heap.size w x1) := ⟨HB.out.trans (HI.out.below.mono HB.out.size)⟩
          have hwg5 : w.heap.size ≤ g5 := Nat.le_trans HB.out.size hg5
          clear HP HB HO hg5
          go_wp2_with fail
          refine (load_any (some ⟨g5, 0, none⟩) (img ws up L) (15 + 64 * L) c5 x1 HIl.out hc5 (by omega) ⟨img_lt⟩ ⟨bt_lies HI.out⟩).mono ?_
          rintro e x2 ⟨HB2, ⟨ws2, up2, L2, b2, g2, hI2, rfl, HO2, HP2⟩ | ⟨hbad, _⟩⟩
          case inr => exact absurd ⟨ws, up, L, HIs.out⟩ hbad
          have HI2 := Lib.hid hI2
          clear hI2
          have hLL : L2 = L := by
            have h1 := HI2.out.lines.2.2
            rw [HIl.out] at h1
            omega
          subst hLL
          have HIx2 : Lk (Bt wr x2 (.slice (some ⟨g5, 0, none⟩) (15 + 64 * L2) c5) (img ws up L2)) := ⟨HI.out.on HB2.out⟩
          have HR2 : Lk (RN x2 br gr n n ws up) := ⟨HR1.out.keep (HB2.out.block br HR1.out.size) (HB2.out.block gr HR1.out.row.size)⟩
          have HB2' : Lk (Below w.heap.size w x2) := ⟨HB1.out.trans (HB2.out.mono HB1.out.size)⟩
          clear HI HR1 HB1 HB2
          go_wp2_with fail
          refine (image_any b2 g2 (8 * L2) (8 * L2) ws2 up2 x2 L2 HP2 rfl hL1 (by omega)).mono ?_
          rintro e x3 ⟨v3, rfl, HJ⟩
          obtain ⟨A3, c3, rfl, _, hl3⟩ := HJ.out.form
          have Hl3 := Lib.hid hl3
          clear hl3
          have HIx3 : Lk (Bt wr x3 (.slice (some ⟨g5, 0, none⟩) (15 + 64 * L2) c5) (img ws up L2)) := ⟨HIx2.out.on HJ.out.below⟩
          have HR3 : Lk (RN x3 br gr n n ws up) := ⟨HR2.out.keep (HJ.out.below.block br HR2.out.size) (HJ.out.below.block gr HR2.out.row.size)⟩
          have HB3' : Lk (Below w.heap.size w x3) := ⟨HB2'.out.trans (HJ.out.below.mono HB2'.out.size)⟩
          clear HJ HIx2 HR2 HB2' HP2
          go_wp2_with fail
          refine (sameImage_any A3 (img ws2 up2 L2) _ c3 br gr n n ws up x3 L2 rfl ⟨Hl3.out⟩ ⟨HI2.out.eq.symm⟩ HR3 HN8.out hL1 (by omega)).mono ?_
          rintro e x4 ⟨rfl, HB4⟩
          have HIx4 : Lk (Bt wr x4 (.slice (some ⟨g5, 0, none⟩) (15 + 64 * L2) c5) (img ws up L2)) := ⟨HIx3.out.on HB4.out⟩
          have HB4' : Lk (Below w.heap.size w x4) := ⟨HB3'.out.trans (HB4.out.mono HB3'.out.size)⟩
          clear HB4 HIx3 HR3 HB3' Hl3 HI2
          go_wp2_with fail
          have hq := pk_lt a2 (15 + 64 * (L2 : Int)) (by omega)
          refine (pick_any a2 (15 + 64 * (L2 : Int)) x4 (by omega) (by omega) hwf2.1 hwf2.2).mono ?_
          rintro e w' ⟨rfl, rfl⟩
          generalize pk a2 (15 + 64 * (L2 : Int)) = q at *
          have hq2 : q < 15 + 64 * L2 := by omega
          have hby := wf8 a3 w3
          obtain ⟨y, rfl⟩ : ∃ y : Nat, a3 = y := ⟨a3.toNat, by omega⟩
          have hy : y < 256 := by omega
          clear hby w3
          have hcq := bt_cell HIx4.out (show q < (img ws up L2).length by rw [HIl.out]; omega)
          have hfq := bt_free HIx4.out q
          have hbq := getD_lt (img_lt (ws := ws) (up := up) (L := L2)) (show q < (img ws up L2).length by rw [HIl.out]; omega)
          have HX : Lk (Bt wr (x4.setCell ⟨g5, q, none⟩ (.int .u8 (bits .xor .u8 (((img ws up L2).getD q 0 : Nat) : Int) (y : Int)))) (.slice (some ⟨g5, 0, none⟩) (15 + 64 * L2) c5) ((img ws up L2).set q ((img ws up L2).getD q 0 ^^^ y))) := ⟨by
            rw [xor8 _ _ hbq hy]
            exact bt_set HIx4.out q _ (xor8_lt hbq hy)⟩
          have HBx : Lk (Below w.heap.size w (x4.setCell ⟨g5, q, none⟩ (.int .u8 (bits .xor .u8 (((img ws up L2).getD q 0 : Nat) : Int) (y : Int))))) := ⟨HB4'.out.setCell (p := ⟨g5, q, none⟩) hwg5 _⟩
          have HK : Lk ((y = 0 → Nv.Good ((img ws up L2).set q ((img ws up L2).getD q 0 ^^^ y))) ∧ (y ≠ 0 → ¬ Nv.Good ((img ws up L2).set q ((img ws up L2).getD q 0 ^^^ y)))) := ⟨fun h => by
            subst h
            rw [Nat.xor_zero]
            have hs : (img ws up L2).set q ((img ws up L2).getD q 0) = img ws up L2 := by
              have hql : q < (img ws up L2).length := by rw [HIl.out]; omega
              rw [List.getD_eq_getElem?_getD, List.getElem?_eq_getElem hql]
              simp
            rw [hs]
            exact ⟨ws, up, L2, HIs.out⟩, fun h => flip_bad HIs.out (by rw [HIl.out]; omega) (xor8_lt hbq hy) (xor_ne h)⟩
          have HXl : Lk (((img ws up L2).set q ((img ws up L2).getD q 0 ^^^ y)).length = 15 + 64 * L2) := ⟨by rw [List.length_set, HIl.out]⟩
          generalize (img ws up L2).set q ((img ws up L2).getD q 0 ^^^ y) = l9 at *
          generalize (img ws up L2).getD q 0 = xq at *
          clear HIx4 HB4' HIs HIl hwg5 hbq
          go_wp2_with fail
          generalize x4.setCell ⟨g5, q, none⟩ (.int .u8 (bits .xor .u8 (xq : Int) (y : Int))) = X5 at *
          clear hcq hfq
          refine (load_any (some ⟨g5, 0, none⟩) l9 (15 + 64 * L2) c5 X5 HXl.out hc5 (by omega) ⟨HX.out.lt⟩ ⟨bt_lies HX.out⟩).mono ?_
          rintro e x5 ⟨HB5, hP5⟩
          have HB5' : Lk (Below w.heap.size w x5) := ⟨HBx.out.trans (HB5.out.mono HBx.out.size)⟩
          have HE5 : (y = 0 ∧ ∃ bx : Nat, e = .returned (.tuple #[.pointer (some ⟨bx, 0, none⟩), .int .i64 0])) ∨ (y ≠ 0 ∧ e = .returned (.tuple #[.pointer none, .int .i64 14])) := by
            rcases hP5 with ⟨ws9, up9, L9, b9, g9, hI9, e9, _⟩ | ⟨hbad, e9⟩
            · exact .inl ⟨Decidable.byContradiction fun h => HK.out.2 h ⟨ws9, up9, L9, hI9⟩, b9, e9⟩
            · exact .inr ⟨fun h => hbad (HK.out.1 h), e9⟩
          clear hP5 HK HX HXl HBx HB5
          have hlr5 : Lk (Lies .u8 x5 x5.heap.size a4 lr) := ⟨hlr.out.on_ HB5'.out⟩
          rcases HE5 with ⟨rfl, bx, rfl⟩ | ⟨hy0, rfl⟩
          · go_wp2_with fail
            refine (load_any a4 lr lr.length cap4 x5 rfl hcr0 (by omega) hbr hlr5).mono ?_
            rintro e x6 ⟨HB6, ⟨wsy, upy, Ly, b6, gy, hIy, rfl, HOy, HPy⟩ | ⟨hbady, rfl⟩⟩
            · have HB6' : Lk (Below w.heap.size w x6) := ⟨HB5'.out.trans (HB6.out.mono HB5'.out.size)⟩
              have hlr6 : Lk (Lies .u8 x6 x6.heap.size a4 lr) := ⟨hlr5.out.on_ HB6.out⟩
              have HIy := Lib.hid hIy
              clear hIy HB6 hlr5 HB5'
              go_wp2_with fail
              refine (refLoad_any a4 lr lr.length cap4 x6 rfl hcr0 (by omega) hbr hlr6).mono ?_
              rintro e x7 ⟨HB7, ⟨wsz, upz, Lz, gz, hIz, rfl, HOz, HRz⟩ | ⟨hbadz, _⟩⟩
              case inr => exact absurd ⟨wsy, upy, Ly, HIy.out⟩ hbadz
              have HIz := Lib.hid hIz
              clear hIz
              have hy1 := HIy.out.lines.2.2
              have hz1 := HIz.out.lines.2.2
              have hy2 := HIy.out.pos
              have hz2 := HIz.out.pos
              have hy3 : Ly ≤ 64 := by omega
              have hz3 : Lz ≤ 64 := by omega
              clear hy1 hz1
              have HB7' : Lk (Below w.heap.size w x7) := ⟨HB6'.out.trans (HB7.out.mono HB6'.out.size)⟩
              have HPy7 : Lk (PN x7 b6 gy (8 * Ly) (8 * Ly) wsy upy) := ⟨HPy.out.keep (HB7.out.block b6 HPy.out.size) (HB7.out.block gy HPy.out.row.size)⟩
              have HZ : Lk (RN (x7.alloc (.cells #[.slice (some ⟨gz, 0, none⟩) (8 * Lz) (8 * Lz), .bool upz] 31)) x7.heap.size gz (8 * Lz) (8 * Lz) wsz upz) := ⟨box_node HRz.out⟩
              have HPy8 : Lk (PN (x7.alloc (.cells #[.slice (some ⟨gz, 0, none⟩) (8 * Lz) (8 * Lz), .bool upz] 31)) b6 gy (8 * Ly) (8 * Ly) wsy upy) := ⟨HPy7.out.keep (Below.heap_alloc x7 _ b6 HPy7.out.size) (Below.heap_alloc x7 _ gy HPy7.out.row.size)⟩
              have HB8 : Lk (Below w.heap.size w (x7.alloc (.cells #[.slice (some ⟨gz, 0, none⟩) (8 * Lz) (8 * Lz), .bool upz] 31))) := ⟨HB7'.out.alloc HB7'.out.size _⟩
              clear HB6' HB7 HB7' HPy HPy7 HRz HOz HOy hlr6
              go_wp2_with fail
              generalize x7.alloc (.cells #[.slice (some ⟨gz, 0, none⟩) (8 * Lz) (8 * Lz), .bool upz] 31) = X8 at *
              generalize x7.heap.size = bz at *
              refine (image_any b6 gy (8 * Ly) (8 * Ly) wsy upy X8 Ly HPy8 rfl hy2 hy3).mono ?_
              rintro e x9 ⟨v9, rfl, HJ9⟩
              obtain ⟨A9, c9, rfl, _, hl9⟩ := HJ9.out.form
              have Hl9 := Lib.hid hl9
              clear hl9
              have HZ9 : Lk (RN x9 bz gz (8 * Lz) (8 * Lz) wsz upz) := ⟨HZ.out.keep (HJ9.out.below.block bz HZ.out.size) (HJ9.out.below.block gz HZ.out.row.size)⟩
              have HB9 : Lk (Below w.heap.size w x9) := ⟨HB8.out.trans (HJ9.out.below.mono HB8.out.size)⟩
              clear HJ9 HZ HB8 HPy8
              go_wp2_with fail
              refine (sameImage_any A9 (img wsy upy Ly) _ c9 bz gz (8 * Lz) (8 * Lz) wsz upz x9 Lz rfl ⟨Hl9.out⟩ ⟨HIy.out.eq.symm.trans HIz.out.eq⟩ HZ9 rfl hz2 hz3).mono ?_
              rintro e x10 ⟨rfl, HB10⟩
              go_wp2_with fail
              go_ret
              exact ⟨rfl, HB9.out.trans (HB10.out.mono HB9.out.size)⟩
            · have HB6' : Lk (Below w.heap.size w x6) := ⟨HB5'.out.trans (HB6.out.mono HB5'.out.size)⟩
              have hlr6 : Lk (Lies .u8 x6 x6.heap.size a4 lr) := ⟨hlr5.out.on_ HB6.out⟩
              clear HB6 hlr5 HB5'
              go_wp2_with fail
              refine (refLoad_any a4 lr lr.length cap4 x6 rfl hcr0 (by omega) hbr hlr6).mono ?_
              rintro e x7 ⟨HB7, ⟨wsz, upz, Lz, gz, hIz, _⟩ | ⟨_, Az, mz, cz, uz, rfl⟩⟩
              case inl => exact absurd ⟨wsz, upz, Lz, hIz⟩ hbady
              have HB7' : Lk (Below w.heap.size w x7) := ⟨HB6'.out.trans (HB7.out.mono HB6'.out.size)⟩
              have HB8 : Lk (Below w.heap.size w (x7.alloc (.cells #[.slice Az mz cz, .bool uz] 31))) := ⟨HB7'.out.alloc HB7'.out.size _⟩
              clear HB6' HB7 HB7' hlr6
              go_wp2_with fail
              go_ret
              exact ⟨rfl, HB8.out⟩
          · have hy1 : ((y : Int) == 0) = false := by simp; omega
            have hy9 : ¬ ((y : Int) = 0) := by omega
            go_wp2_with fail
            refine (load_any a4 lr lr.length cap4 x5 rfl hcr0 (by omega) hbr hlr5).mono ?_
            rintro e x6 ⟨HB6, ⟨wsy, upy, Ly, b6, gy, hIy, rfl, HOy, HPy⟩ | ⟨hbady, rfl⟩⟩
            · have HB6' : Lk (Below w.heap.size w x6) := ⟨HB5'.out.trans (HB6.out.mono HB5'.out.size)⟩
              have hlr6 : Lk (Lies .u8 x6 x6.heap.size a4 lr) := ⟨hlr5.out.on_ HB6.out⟩
              have HIy := Lib.hid hIy
              clear hIy HB6 hlr5 HB5'
              go_wp2_with fail
              refine (refLoad_any a4 lr lr.length cap4 x6 rfl hcr0 (by omega) hbr hlr6).mono ?_
              rintro e x7 ⟨HB7, ⟨wsz, upz, Lz, gz, hIz, rfl, HOz, HRz⟩ | ⟨hbadz, _⟩⟩
              case inr => exact absurd ⟨wsy, upy, Ly, HIy.out⟩ hbadz
              have HIz := Lib.hid hIz
              clear hIz
              have hy1 := HIy.out.lines.2.2
              have hz1 := HIz.out.lines.2.2
              have hy2 := HIy.out.pos
              have hz2 := HIz.out.pos
              have hy3 : Ly ≤ 64 := by omega
              have hz3 : Lz ≤ 64 := by omega
              clear hy1 hz1
              have HB7' : Lk (Below w.heap.size w x7) := ⟨HB6'.out.trans (HB7.out.mono HB6'.out.size)⟩
              have HPy7 : Lk (PN x7 b6 gy (8 * Ly) (8 * Ly) wsy upy) := ⟨HPy.out.keep (HB7.out.block b6 HPy.out.size) (HB7.out.block gy HPy.out.row.size)⟩
              have HZ : Lk (RN (x7.alloc (.cells #[.slice (some ⟨gz, 0, none⟩) (8 * Lz) (8 * Lz), .bool upz] 31)) x7.heap.size gz (8 * Lz) (8 * Lz) wsz upz) := ⟨box_node HRz.out⟩
              have HPy8 : Lk (PN (x7.alloc (.cells #[.slice (some ⟨gz, 0, none⟩) (8 * Lz) (8 * Lz), .bool upz] 31)) b6 gy (8 * Ly) (8 * Ly) wsy upy) := ⟨HPy7.out.keep (Below.heap_alloc x7 _ b6 HPy7.out.size) (Below.heap_alloc x7 _ gy HPy7.out.row.size)⟩
              have HB8 : Lk (Below w.heap.size w (x7.alloc (.cells #[.slice (some ⟨gz, 0, none⟩) (8 * Lz) (8 * Lz), .bool upz] 31))) := ⟨HB7'.out.alloc HB7'.out.size _⟩
              clear HB6' HB7 HB7' HPy HPy7 HRz HOz HOy hlr6
              go_wp2_with fail
              generalize x7.alloc (.cells #[.slice (some ⟨gz, 0, none⟩) (8 * Lz) (8 * Lz), .bool upz] 31) = X8 at *
              generalize x7.heap.size = bz at *
              refine (image_any b6 gy (8 * Ly) (8 * Ly) wsy upy X8 Ly HPy8 rfl hy2 hy3).mono ?_
              rintro e x9 ⟨v9, rfl, HJ9⟩
              obtain ⟨A9, c9, rfl, _, hl9⟩ := HJ9.out.form
              have Hl9 := Lib.hid hl9
              clear hl9
              have HZ9 : Lk (RN x9 bz gz (8 * Lz) (8 * Lz) wsz upz) := ⟨HZ.out.keep (HJ9.out.below.block bz HZ.out.size) (HJ9.out.below.block gz HZ.out.row.size)⟩
              have HB9 : Lk (Below w.heap.size w x9) := ⟨HB8.out.trans (HJ9.out.below.mono HB8.out.size)⟩
              clear HJ9 HZ HB8 HPy8
              go_wp2_with fail
              refine (sameImage_any A9 (img wsy upy Ly) _ c9 bz gz (8 * Lz) (8 * Lz) wsz upz x9 Lz rfl ⟨Hl9.out⟩ ⟨HIy.out.eq.symm.trans HIz.out.eq⟩ HZ9 rfl hz2 hz3).mono ?_
              rintro e x10 ⟨rfl, HB10⟩
              go_wp2_with fail
              go_ret
              first | exact ⟨rfl, HB9.out.trans (HB10.out.mono HB9.out.size)⟩ | exact ⟨ret_bool (by simp [hy0]), HB9.out.trans (HB10.out.mono HB9.out.size)⟩
            · have HB6' : Lk (Below w.heap.size w x6) := ⟨HB5'.out.trans (HB6.out.mono HB5'.out.size)⟩
              have hlr6 : Lk (Lies .u8 x6 x6.heap.size a4 lr) := ⟨hlr5.out.on_ HB6.out⟩
              clear HB6 hlr5 HB5'
              go_wp2_with fail
              refine (refLoad_any a4 lr lr.length cap4 x6 rfl hcr0 (by omega) hbr hlr6).mono ?_
              rintro e x7 ⟨HB7, ⟨wsz, upz, Lz, gz, hIz, _⟩ | ⟨_, Az, mz, cz, uz, rfl⟩⟩
              case inl => exact absurd ⟨wsz, upz, Lz, hIz⟩ hbady
              have HB7' : Lk (Below w.heap.size w x7) := ⟨HB6'.out.trans (HB7.out.mono HB6'.out.size)⟩
              have HB8 : Lk (Below w.heap.size w (x7.alloc (.cells #[.slice Az mz cz, .bool uz] 31))) := ⟨HB7'.out.alloc HB7'.out.size _⟩
              clear HB6' HB7 HB7' hlr6
              go_wp2_with fail
              go_ret
              first | exact ⟨rfl, HB8.out⟩ | exact ⟨ret_bool (by simp [hy0]), HB8.out⟩
    · go_wp2_with fail
      go_ret
      exact ⟨rfl, Below.refl _ _⟩
  · go_wp2_with fail
    go_ret
    exact ⟨rfl, Below.refl _ _⟩

set_option maxRecDepth 100000 in
theorem lifted (os : Os) (started : os.Started) (H : Type) (enc : TypeId × Value → H) :
    ReturnsInHanded {} Try.checked os 5 .any (Rows.memnodeImagesSpec.pre6 enc Try.prog Try.f5 Rows.memnodeImagesRow.domain false) (Rows.memnodeImagesSpec.post enc Try.prog Try.f5 false true false false) := by
  refine returnsInHanded_of_change (C := Try.checked) own started (by kernel_rfl) Try.func5
    (ChangeSpec.witness6 (enc := enc) (C := Try.checked) false ⟨#[], #[.int .i64 0, .slice none 0 0, .int .i64 0, .int .u8 0, .slice none 0 0], []⟩ 8 (by kernel_rfl) (by kernel_rfl) (by kernel_rfl) (by kernel_rfl)) ?_
  intro W base args ds gs before hval0 hW hcnd _
  have hval : ∀ (j : Nat) t v, Try.f5.params[j]? = some t → args[j]? = some v → Value.okWide Try.prog W .any base t v := hval0
  have hW' := hW
  obtain ⟨p, q, hA0, hV, rfl, hfz, hnd⟩ := hW
  have hA : DataW.TrodAll enc Try.prog W 0 (fun _ => true) true Try.f5.params.toList args.toList ds p := hA0
  rw [Try.params5] at hA hval
  obtain ⟨v0, vs0, d0, ds0, p0, q0, hargs, rfl, rfl, h0, r0⟩ := trodAll_cons hA
  obtain ⟨v1, vs1, d1, ds1, p1, q1, rfl, rfl, rfl, h1, r1⟩ := trodAll_cons r0
  obtain ⟨v2, vs2, d2, ds2, p2, q2, rfl, rfl, rfl, h2, r2⟩ := trodAll_cons r1
  obtain ⟨v3, vs3, d3, ds3, p3, q3, rfl, rfl, rfl, h3, r3⟩ := trodAll_cons r2
  obtain ⟨v4, vs4, d4, ds4, p4, q4, rfl, rfl, rfl, h4, r4⟩ := trodAll_cons r3
  obtain ⟨rfl, rfl, rfl⟩ := trodAll_nil r4
  obtain rfl : args = #[v0, v1, v2, v3, v4] := by cases args; simp_all
  obtain ⟨rfl, rfl⟩ := trodVars_none hV
  obtain ⟨a0, rfl, rfl, rfl, w0⟩ := open_int Try.underlying3 (hval 0 3 v0 rfl rfl) h0
  obtain ⟨a1, len1, cap1, rfl⟩ := okWide_slice Try.underlying22 (hval 1 22 v1 rfl rfl)
  have k1 := h1
  have lt1 : ∀ x ∈ p1, x.block < W.heap.size := by obtain ⟨m, hm⟩ := k1; exact DataW.trod_lt m _ _ _ hm
  have w1 : IsOps W a1 len1 cap1 := by
    obtain ⟨fuel, hf⟩ := h1
    exact ops_of hf
  obtain ⟨a2, rfl, rfl, rfl, w2⟩ := open_int Try.underlying3 (hval 2 3 v2 rfl rfl) h2
  obtain ⟨a3, rfl, rfl, rfl, w3⟩ := open_int Try.underlying5 (hval 3 5 v3 rfl rfl) h3
  obtain ⟨a4, len4, cap4, rfl⟩ := okWide_slice Try.underlying41 (hval 4 41 v4 rfl rfl)
  have k4 := h4
  have lt4 : ∀ x ∈ p4, x.block < W.heap.size := by obtain ⟨m, hm⟩ := k4; exact DataW.trod_lt m _ _ _ hm
  obtain ⟨z4, w4⟩ : ∃ zs, IsRow .u8 W a4 len4 cap4 zs := by
    obtain ⟨fuel, hf⟩ := h4
    rcases open_ints Try.underlying41 Try.underlying5 (by kernel_rfl) hf with ⟨hcs, _⟩ | ⟨x, l, c, zs, hcs, _, hl, hm, hz, _, hcell, hwz⟩
    · simp [Value.cells] at hcs
      obtain ⟨rfl, rfl, rfl⟩ := hcs
      exact ⟨[], .inl ⟨rfl, rfl, rfl, rfl⟩⟩
    · simp [Value.cells] at hcs
      obtain ⟨rfl, rfl, rfl⟩ := hcs
      exact ⟨zs, .inr ⟨_, rfl, hl, hm, by simpa using hz, hcell, hwz⟩⟩
  clear hA0 hval0
  refine (walk a0 a1 len1 cap1 a2 a3 a4 len4 cap4 z4 W w0 w1 w2 w3 w4).mono fun e W' ⟨he, bel⟩ => ?_
  subst he
  exact ⟨_, rfl, _, _, _, [], _, [], hW', trodAll_mk1 (shut_bool Try.underlying4 _), (trodAll_cons_mk (shut_int Try.underlying3 w0) (trodAll_cons_mk (Below.trod laidOut (by kernel_rfl) (of_decide_eq_true (by kernel_rfl)) k1 bel lt1) (trodAll_cons_mk (shut_int Try.underlying3 w2) (trodAll_cons_mk (shut_int Try.underlying5 w3) (trodAll_cons_mk (Below.trod laidOut (by kernel_rfl) (of_decide_eq_true (by kernel_rfl)) k4 bel lt4) trodAll_mk0))))), rfl, bel.frame _, fun h => by cases h⟩

theorem over : Rows.memnodeImagesRow.holds Try.pinned (OpenSpec.ofChange Rows.memnodeImagesSpec) :=
  OpenClaim.holds_of_wide 5 Try.f5 rfl rfl rfl rfl rfl rfl rfl ⟨rfl, rfl, rfl, rfl, rfl⟩ rfl rfl rfl rfl rfl (by kernel_rfl) Try.func5 (by kernel_rfl)
    (of_decide_eq_true (by kernel_rfl)) (by unfold Func.isWrapper; first | (rw [if_pos (by decide +kernel)]; kernel_rfl) | (rw [if_neg (by decide +kernel)]; exact ⟨rfl, rfl⟩))
    (fun os started H enc _ => lifted os started H enc)

/-- ████ THE STATEMENT ████ -/
theorem proved : Rows.MemnodeImagesSaid := over
end Go.Proofs.Ytgjchfhgpfogjaa.memnodeImages

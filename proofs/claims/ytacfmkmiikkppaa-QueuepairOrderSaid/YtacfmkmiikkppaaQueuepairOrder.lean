/-
  For every input QueuepairOrder returns true, and each argument reads afterwards as before: package queuepair keeps the document here. No condition.
-/
import Derived.Test.YtacfmkmiikkppaaRows
import Derived.Test.YtacfmkmiikkppaaTn
import Derived.WalkKit
import Derived.ProofKit
import Derived.OpenShut
import Derived.ShutString
import Derived.ChangeOld
import Derived.Below
namespace Go.Proofs.Ytacfmkmiikkppaa.queuepairOrder
open Go.ChangeShapes Go.WideShapes Go.ChangeAt Go.RowKit Ga Gb Na Nb Nc Nd_ Va Ve Vf Vg Vh Qa Qb Ta Tb Tc Td Te Tf Tg Th Ti Tj Tk Tl_ Tm Tn Un
set_option linter.unusedSimpArgs false
set_option linter.unusedVariables false

theorem own : ownKnob Try.prog.godebug = none := by kernel_rfl
theorem laidOut : laidOutB Try.prog = true := of_decide_eq_true (by kernel_rfl)

set_option maxRecDepth 100000 in
set_option maxHeartbeats 4000000 in
theorem walk (a0 : Option Addr) (len0 cap0 : Nat) (z0 : List Int) (a1 : Int) (w : World) (w0 : IsRow .i64 w a0 len0 cap0 z0) (w1 : (Lit.int .u64 a1).wf = true) :
    Calls Try.prog 5 #[.slice a0 len0 cap0, .int .u64 a1] w fun e w' => e = .returned (.bool true) ∧ Below w.heap.size w w' := by
  have hw1 := bounds_u64 w1
  obtain ⟨sd, rfl⟩ := Int.eq_ofNat_of_zero_le hw1.1
  have hsd : sd < 18446744073709551616 := by omega
  have hlc : len0 ≤ 9223372036854775807 := by
    rcases w0 with ⟨_, h1, _⟩ | ⟨_, _, h1, h2, _⟩
    · omega
    · unfold maxLen at h2; omega
  have CF := fresh_any 0 1 w (by decide) (by decide) (by decide) (by decide)
  rw [show pk 0 6 = 0 from rfl, show pk 1 4 = 1 from rfl] at CF
  have CA := Lk.mk (fun W => awake_any W)
  have HZs := Lk.mk w0
  clear w0 w1
  go_enter Try.func5, Try.ntmps5
  by_cases h30 : 30 < len0
  · go_wp2
    go_ret
    exact ⟨rfl, Below.refl _ _⟩
  go_upto_region 4 with (first
    | (go_at_call 8; refine CF.mono ?_; rintro e w1 ⟨F, x, rfl, HS, HF, HB1⟩; unfold pairV))
  have HX2 := Lk.mk (show Xb _ w1.heap.size x from heap_alloc_new w1 _)
  have hB2 := (Below.refl _ w1).alloc (Nat.le_refl _) (.cells #[.pointer (some ⟨x.bp, 0, none⟩), .pointer (some ⟨x.bn, 0, none⟩), .pointer (some ⟨x.rb, 0, none⟩), .pointer (some ⟨x.rn, 0, none⟩)] 28)
  have hs2 : w1.heap.size < (w1.alloc (.cells #[.pointer (some ⟨x.bp, 0, none⟩), .pointer (some ⟨x.bn, 0, none⟩), .pointer (some ⟨x.rb, 0, none⟩), .pointer (some ⟨x.rn, 0, none⟩)] 28)).heap.size := by simp
  have HB2 := Lk.mk (HB1.out.trans (hB2.mono HB1.out.size))
  have HPP := Lk.mk (HS.out.pp.below hB2)
  have HPN := Lk.mk (Nd.below HS.out.pn hB2)
  have HFf := Lk.mk (show (F x.bn ∧ F x.gn) ∧ (∀ k, F k → k < w1.heap.size) ∧ (x.bp < w1.heap.size ∧ x.bn < w1.heap.size ∧ x.gn < w1.heap.size) ∧ (w.heap.size ≤ x.bp ∧ w.heap.size ≤ x.bn ∧ w.heap.size ≤ x.gn) from ⟨HS.out.ff.1, HS.out.fb, ⟨HS.out.pp.lt, HS.out.pn.size, HS.out.pn.row.size⟩, ⟨HF.out _ HS.out.pp.f, HF.out _ HS.out.ff.1.1, HF.out _ HS.out.ff.1.2⟩⟩)
  have hw1s : w.heap.size ≤ w1.heap.size := HB1.out.size
  clear hB2 HS CF HB1
  generalize w1.heap.size = gx at *
  generalize w1.alloc _ = w2 at *
  obtain ⟨i0, hi, hz0, hz1, hz2⟩ := info_parts u64info
  go_upto_region 7 with (first
    | (go_at_call 9; refine (CA.out _).mono ?_; rintro e w3 ⟨rfl, HB3⟩)
    | (at_make; refine wpList_make_full _ rfl _ _ 49 rfl w3.heap.size 33 i0 (.int .u64 0) 1 Try.underlying49 hi hz0 hz1 .i64 .i64 _ _ 320 rfl rfl rfl rfl ?b2 ?b3 (Nat.le_refl _) ?_))
  case b2 => rw [hz2]; omega
  case b3 => unfold maxLen; omega
  intro w4 hown hgrow
  have HR4 : Lk (Row w4 w3.heap.size 320 320 (List.replicate 320 0)) := ⟨Row.made (by simpa [Value.cells] using hown)⟩
  have hB34 := HB3.out.trans ((below_none hgrow).mono HB3.out.size)
  have HB4 := Lk.mk (HB2.out.trans (hB34.mono HB2.out.size))
  have HP4 := Lk.mk (HPP.out.below hB34)
  have HN4 := Lk.mk (Nd.below HPN.out hB34)
  have HX4 := Lk.mk (HX2.out.below hB34)
  have hs4 : w3.heap.size < w4.heap.size := HR4.out.size
  have hs3 : w2.heap.size ≤ w3.heap.size := HB3.out.size
  clear hown hgrow HB3 hB34 HPP HPN HX2 HB2
  generalize w3.heap.size = gw at *
  go_upto_region 8 with fail
  have hord : gx < w2.heap.size ∧ x.bp < gx ∧ x.bn < gx ∧ x.gn < gx := ⟨hs2, HFf.out.2.2.1⟩
  have hwo : w.heap.size ≤ x.bp ∧ w.heap.size ≤ x.bn ∧ w.heap.size ≤ x.gn := HFf.out.2.2.2
  have HPst : Lk (Pst w w4 w4 x gw gx (tsOf z0 sd 0) (fun k => F k ∨ k = gw) (.slice none 0 0) []) := ⟨HP4.out.none_ (fun k hk => .inl hk), rfl, ⟨.inl HFf.out.1.1, .inl HFf.out.1.2, .inr rfl⟩, (fun k hk => hk.elim (fun h => by have := HFf.out.2.1 k h; omega) (fun e => by omega)), (fun k hk => by cases hk), HN4.out, HR4.out, HX4.out, HB4.out, Nat.le_refl _⟩
  clear HP4 HN4 HR4 HX4 HB4 HFf
  go_loopw [8] (fun u wr => ∃ k : Nat, k ≤ len0 ∧ u = .int .i64 k ∧ ∃ (F : Nat → Prop) (V : Value) (q : List Pq), Lk (Pst w w4 wr x gw gx (tsOf z0 sd k) F V q)) (fun u _ => len0 - (intOf u).toNat)
  case atStart => exact ⟨0, by omega, rfl, _, _, _, HPst⟩
  case round =>
    obtain ⟨k, hk, rfl, F1, V1, q1, HS⟩ := hrel
    clear HPst
    by_cases hlt : k < len0
    · obtain ⟨ad, had, hadb, hcell, hzb⟩ := num_at HZs.out hlt
      have hzc := (HS.out.below.cell (block_lt_of_cell hcell)).trans hcell
      have HTk := Lk.mk (tOf_ok z0 sd k)
      have HTm := Lk.mk (tsOf_more z0 sd k)
      have HTd := Lk.mk (show tOf z0 sd k = (40 + pk (z0.getD k 0) 200, sd + 100 * k, pk ((z0.getD k 0).tdiv 200) 30 + 1) from rfl)
      generalize z0.getD k 0 = z at *
      have hzq : -9223372036854775808 ≤ z.tdiv 200 ∧ z.tdiv 200 ≤ 9223372036854775807 := by
        have hsg : Int.sign 200 = 1 := rfl
        rw [Int.tdiv_eq_ediv]
        split <;> omega
      have C0 := fun W => pick_any z 200 W (by decide) (by decide) hzb.1 hzb.2
      have C1 := fun W => pick_any (z.tdiv 200) 30 W (by decide) (by decide) hzq.1 hzq.2
      have p0 := pk_lt z 200 (by omega)
      have p1 := pk_lt (z.tdiv 200) 30 (by omega)
      generalize pk z 200 = fr at *
      generalize pk (z.tdiv 200) 30 = nn at *
      rw [had]
      go_upto_region 10 with fail
      have hw1 : IntKind.i64.wrap (z.tdiv 200) = z.tdiv 200 := IntWalk.i64_in _ (by omega)
      have hw2 : IntKind.i64.wrap (40 + (fr : Int)) = 40 + fr := IntWalk.i64_in _ (by omega)
      have hw3 : IntKind.i64.wrap ((nn : Int) + 1) = nn + 1 := IntWalk.i64_in _ (by omega)
      have HC := Lk.mk hzc
      have HC' : Lk (World.cell? wr.drew (ad.add k) = some (.int .i64 z)) := ⟨hzc⟩
      clear hzb hzq hcell
      go_region_held3 (fun W' => World.cell? W' (ad.add k) = some (.int .i64 z)) (first | with_reducible exact HC'.out | with_reducible assumption)
        (first
          | (go_at_call 13; (with_reducible refine (C0 _).mono ?_); rintro e w' ⟨rfl, rfl⟩)
          | (go_at_call 13; (with_reducible refine (C1 _).mono ?_); rintro e w' ⟨rfl, rfl⟩))
      have hBd : Below wr.heap.size wr wr.drew := (Below.refl _ _).drew
      have HPd := Lk.mk (HS.out.pp.below hBd)
      have HRd : Lk (Row wr.drew gw 320 320 (foldW (List.replicate 320 0) (tsOf z0 sd k))) := ⟨HS.out.row.keep rfl⟩
      have HNd := Lk.mk (Nd.below HS.out.pn hBd)
      have HXd := Lk.mk (HS.out.xb.below hBd)
      have HBd : Lk (Below w.heap.size w wr.drew) := ⟨HS.out.below.drew⟩
      have HSf := Lk.mk (show q1.map (·.v) = (tsOf z0 sd k).map vT ∧ (F1 x.bn ∧ F1 x.gn ∧ F1 gw) ∧ (∀ j, F1 j → j < wr.drew.heap.size) ∧ (∀ j, V1.ownBlock = some j → w4.heap.size ≤ j) from ⟨HS.out.vs, HS.out.ff, HS.out.fb, HS.out.vb⟩)
      have hw4r : w4.heap.size ≤ wr.drew.heap.size := HS.out.wsz
      clear hBd hzc HC HC' hw1 hw2 hw3 C0 C1
      generalize wr.drew = w5 at *
      rw [show (40 : Int) + fr = ((40 + fr : Nat) : Int) from by omega, show (nn : Int) + 1 = ((nn + 1 : Nat) : Int) from by omega]
      have hfr : 40 ≤ 40 + fr ∧ 40 + fr < 240 := by omega
      have hnn : 1 ≤ nn + 1 ∧ nn + 1 ≤ 30 := by omega
      generalize 40 + fr = fm at *
      generalize nn + 1 = n at *
      have hsgw : gw < w5.heap.size := HRd.out.size
      obtain ⟨i0, hi, hz0, hz1, hz2⟩ := info_parts u64info
      go_upto_region 12 with (first
        | (at_make; refine wpList_make_full _ rfl _ _ 49 rfl w5.heap.size 33 i0 (.int .u64 0) 1 Try.underlying49 hi hz0 hz1 .i64 .i64 _ _ n rfl rfl rfl rfl ?b2 ?b3 (Nat.le_refl _) ?_))
      case b2 => rw [hz2]; omega
      case b3 => unfold maxLen; omega
      intro w6 hown hgrow
      have HR6 : Lk (Row w6 w5.heap.size n n (fillW (sd + 100 * k) n 0)) := ⟨by rw [fill_zero]; exact Row.made (by simpa [Value.cells] using hown)⟩
      have hB6 := below_none hgrow
      have HB6 := Lk.mk hB6
      clear hown hgrow
      go_wp2
      have HO6 : Lk (Only (fun i => i = gw) w5 w6) := ⟨Only.of_below hB6⟩
      have HG6 : Lk (Row w6 gw 320 320 (putW (foldW (List.replicate 320 0) (tsOf z0 sd k)) fm ((rawW (sd + 100 * k) n).take 0))) := ⟨by rw [List.take_zero, putW_nil]; exact HRd.out.keep (hB6.block gw hsgw)⟩
      have hbl : (foldW (List.replicate 320 0) (tsOf z0 sd k)).length = 320 := HRd.out.len
      clear hB6 HB6
      generalize hgi : w5.heap.size = gi at *
      have HGi := Lk.mk hgi
      have HW4 : Lk (w4.heap.size ≤ gi) := ⟨hw4r⟩
      clear hgi
      generalize hbase : foldW (List.replicate 320 0) (tsOf z0 sd k) = base at *
      have HBase := Lk.mk hbase
      clear hbase
      go_loopw [12] (fun u wq => ∃ j : Nat, j ≤ n ∧ u = .int .i64 j ∧ Lk (Row wq gi n n (fillW (sd + 100 * k) n j)) ∧ Lk (Row wq gw 320 320 (putW base fm ((rawW (sd + 100 * k) n).take j))) ∧ Lk (Only (fun i => i = gw) w5 wq)) (fun u _ => n - (intOf u).toNat)
      case atStart => exact ⟨0, by omega, rfl, HR6, HG6, HO6⟩
      case round =>
        obtain ⟨j, hj, rfl, HRj, HGj, HOj⟩ := hrel
        clear HR6 HG6 HO6
        by_cases hjl : j < n
        · have c1 := HRj.out.cell hjl
          have f1 := HRj.out.free j
          have HS1 := Lk.mk (HRj.out.set j ((sd + 100 * k + j) % 18446744073709551616) (Nat.mod_lt _ (by omega)))
          rw [fill_next hjl] at HS1
          have HG1 := Lk.mk (HGj.out.on ((Only.refl (fun i => i = gi) wr).setCell (p := ⟨gi, j, none⟩) (.inl rfl) (.int .u64 (((sd + 100 * k + j) % 18446744073709551616 : Nat) : Int))) (fun e => by omega))
          have e : IntKind.u64.wrap ((sd : Int) + (100 * k + j)) = (((sd + 100 * k + j) % 18446744073709551616 : Nat) : Int) := by
            rw [show (sd : Int) + (100 * k + j) = ((sd + 100 * k + j : Nat) : Int) by omega]
            simp [IntKind.wrap, IntKind.signed, IntKind.bits]
          have e2 : ((sd : Int) + (100 * k + j)) % 18446744073709551616 = (((sd + 100 * k + j) % 18446744073709551616 : Nat) : Int) := by omega
          have HE := Lk.mk e
          have HE2 := Lk.mk e2
          clear e e2
          go_upto_region 16 with fail
          rw [HE.out]
          have HO1 := Lk.mk (HOj.out.setCell (p := ⟨gi, j, none⟩) (.inr (Nat.le_of_eq HGi.out)) (.int .u64 (((sd + 100 * k + j) % 18446744073709551616 : Nat) : Int)))
          have HS1' : Lk (Row (wr.setCell ⟨gi, j, none⟩ (.int .u64 (((sd + 100 * k + j) % 18446744073709551616 : Nat) : Int))) gi n n (fillW (sd + 100 * k) n (j + 1))) := HS1
          clear HS1 c1 f1 HE HE2 HRj HGj HOj
          generalize wr.setCell _ _ = wq at *
          have c1 := HS1'.out.cell hjl
          have hv : (fillW (sd + 100 * k) n (j + 1)).getD j 0 = (sd + 100 * k + j) % 18446744073709551616 := by
            rw [← fill_next hjl, List.getD_eq_getElem?_getD, List.getElem?_set, if_pos rfl, if_pos (by unfold fillW; rw [List.length_append, List.length_take, rawW_len, List.length_replicate]; omega)]
            rfl
          rw [hv] at c1
          have c2 := HG1.out.cell (j := fm + j) (by omega)
          have f2 := HG1.out.free (fm + j)
          have HG2 := Lk.mk (HG1.out.set (fm + j) ((sd + 100 * k + j) % 18446744073709551616) (Nat.mod_lt _ (by omega)))
          have hv2 : (rawW (sd + 100 * k) n).getD j 0 = (sd + 100 * k + j) % 18446744073709551616 := by rw [List.getD_eq_getElem?_getD, rawW_get hjl]; rfl
          rw [← hv2, putW_more (by rw [rawW_len]; omega) (by rw [rawW_len]; exact hjl), hv2] at HG2
          have HS2 := Lk.mk (HS1'.out.on ((Only.refl (fun i => i = gw) wq).setCell (p := ⟨gw, fm + j, none⟩) (.inl rfl) (.int .u64 (((sd + 100 * k + j) % 18446744073709551616 : Nat) : Int))) (fun e => by omega))
          have HO2 := Lk.mk (HO1.out.setCell (p := ⟨gw, fm + j, none⟩) (.inl rfl) (.int .u64 (((sd + 100 * k + j) % 18446744073709551616 : Nat) : Int)))
          clear hv hv2
          generalize (sd + 100 * k + j) % 18446744073709551616 = val at *
          have hidl : fm + j < 320 := by omega
          have hidl2 : (fm : Int) + j < 320 := by omega
          go_wp2
          go_roundw
          case rel => exact ⟨j + 1, by omega, by go_num, HS2, HG2, HO2⟩
          case measure => simp [intOf]; omega
        · obtain rfl : n = j := by omega
          rw [fill_all] at HRj
          rw [List.take_of_length_le (by rw [rawW_len]; exact Nat.le_refl _)] at HGj
          go_upto_region 17 with fail
          have hVt : ∀ g, V1.ownBlock = some g → ∀ g' n' c' l, Row wr g' n' c' l → g ≠ g' := fun g hg g' n' c' l hr => by
            obtain ⟨cur, hc⟩ := HPd.out.own.typed g hg
            intro e
            subst e
            have h2 := (HOj.out.block g (HPd.out.own.lt g hg) (fun e => by
              have h3 := HRd.out
              obtain ⟨cur2, hc2⟩ := Row.typed h3
              rw [← e] at hc2
              exact ne_typed hc hc2 (by decide) rfl)).trans hc
            obtain ⟨cur2, hc2⟩ := Row.typed hr
            exact ne_typed h2 hc2 (by decide) rfl
          have HPe := Lk.mk (HPd.out.on HOj.out (fun e => by omega) (fun g hg e => hVt g hg gw _ _ _ HGj.out e) (fun g hg => by cases hg) (fun i hi => by subst hi; exact HSf.out.2.1.2.2))
          have hql : q1.length = k := by have := congrArg List.length HSf.out.1; simpa [tsOf_len] using this
          have CP := post_ok F1 x.bp 0 1 V1 q1 0 none 0 [] 2 0 fm 0 0 0 (some ⟨gi, 0, none⟩) n 1 1 (rawW (sd + 100 * k) n) 40 wr HPe (by omega) (by rw [rawW_len]; unfold cnt; rw [if_neg (by decide), if_pos rfl]; omega) (by
            have := wv_valid (fm := fm) (n := n) (L := 40) hnn.1 hfr.1 (by omega) (by omega) (by omega)
            rw [rawW_len]
            exact this) ⟨HRj.out.lies⟩ ⟨⟨by rw [rawW_len]; omega, rawW_lt _ n⟩⟩ ⟨fun ad' h h2 => by cases h; exact hVt _ h2 gi _ _ _ HRj.out rfl⟩ ⟨fun i hi hh => by have := HSf.out.2.2.1 i hh; have := HOj.out.size; have := HGi.out; omega⟩
          rw [rawW_len] at CP
          have HXe := Lk.mk (HXd.out.on HOj.out (fun e => by omega))
          have HNe := Lk.mk (HNd.out.on HOj.out (fun e => by omega) (fun e => by omega))
          obtain ⟨x0, x1, _, _⟩ := HXe.out.c
          have hbase := HBase.out
          clear HBase
          go_upto_region 9 with (first
            | (go_at_call 19; refine CP.mono ?_; rintro e w8 ⟨F2, V2, A2, c2, rfl, HP8, HO8, HG8, HF8, HE8⟩))
          have hVb : ∀ i, V1.ownBlock = some i → w4.heap.size ≤ i := HSf.out.2.2.2
          have hwr : w5.heap.size ≤ wr.heap.size := HOj.out.size
          have hw4 : w4.heap.size ≤ gi := HW4.out
          have HP9 : Lk (Pst w w4 w8 x gw gx (tsOf z0 sd (k + 1)) F2 V2 (q1 ++ [⟨⟨2, 0, fm, 0, 0, 0, 1, 1, rawW (sd + 100 * k) n⟩, A2, c2⟩])) := by
            have hb1 : Below w.heap.size w wr := HOj.out.below_on (B := w.heap.size) HBd.out (fun i hi => by subst hi; omega) HBd.out.size
            refine ⟨⟨HP8.out, ?_, ⟨HG8.out.sub _ HSf.out.2.1.1, HG8.out.sub _ HSf.out.2.1.2.1, HG8.out.sub _ HSf.out.2.1.2.2⟩, fun i hi => ?_, fun i hi => ?_, ?_, ?_, ?_, ?_, by have := HO8.out.size; have := HGi.out; omega⟩⟩
            · rw [List.map_append, HSf.out.1, HTm.out, List.map_append, HTd.out]
              rfl
            · rcases HG8.out.new i hi with h | h
              · have := HSf.out.2.2.1 i h
                have := HGi.out
                have := HO8.out.size
                omega
              · exact h.2
            · rcases HE8.out with h | h
              · exact hVb i (h ▸ hi)
              · have := h i hi
                have := HGi.out
                omega
            · exact HNe.out.on HO8.out (fun hh => hh.elim (fun e => ne_typed HNe.out.node HPe.out.z (by decide) e) (fun e => by obtain ⟨cur, hc⟩ := HPe.out.own.typed _ e; exact ne_typed HNe.out.node hc (by decide) rfl)) (fun hh => hh.elim (fun e => by obtain ⟨cur, hc⟩ := Row.typed HNe.out.row; exact ne_typed hc HPe.out.z (by decide) e) (fun e => hVt _ e x.gn _ _ _ HNe.out.row rfl))
            · rw [HTm.out, fold_more, hbase, HTd.out]
              exact HGj.out.on HO8.out (fun hh => hh.elim (fun e => by omega) (fun e => hVt _ e gw _ _ _ HGj.out rfl))
            · exact HXe.out.on HO8.out (fun hh => hh.elim (fun e => by omega) (fun e => by have := hVb _ e; omega))
            · exact HO8.out.below_on (B := w.heap.size) hb1 (fun i hi => hi.elim (fun e => by have e' : i = x.bp := e; show w.heap.size ≤ i; omega) (fun e => by have e' : w4.heap.size ≤ i := hVb i e; show w.heap.size ≤ i; omega)) hb1.size
          clear HP8 HO8 HG8 HF8 HE8 HPe HXe HNe HRj HGj HOj HSf HBd HPd HRd HNd HXd
          go_wp2
          go_roundw
          case rel => exact ⟨k + 1, by omega, by go_num, F2, V2, _, HP9⟩
          case measure => simp [intOf]; omega
    · obtain rfl : len0 = k := by omega
      go_upto_region 19 with fail
      have HTs := Lk.mk (tsOf_ok z0 sd len0)
      have HTl := Lk.mk (tsOf_len z0 sd len0)
      generalize tsOf z0 sd len0 = ts at *
      have hwsz : w4.heap.size ≤ wr.heap.size := HS.out.wsz
      have hvb : ∀ k, V1.ownBlock = some k → w4.heap.size ≤ k := HS.out.vb
      have HRw := Lk.mk HS.out.row
      have HXw := Lk.mk HS.out.xb
      have HBw := Lk.mk HS.out.below
      have HSq : Lk (Sq wr wr x V1.ownBlock ts [] ts q1 0 0) := ⟨⟨rfl, HS.out.vs, ⟨⟨F1, V1, none, 0, HS.out.pp, rfl, ⟨HS.out.ff.1, HS.out.ff.2.1⟩, (fun g hg => by cases hg), HS.out.fb⟩, (by
        have := HS.out.pn
        match ts with
        | [] => exact this
        | t :: ts' => show PN wr x.bn x.gn 320 x.cp (wsI wsF (vT t) 0) true; rw [wsI_zero]; exact this), Only.refl _ _, by have := HXw.out.lt; omega⟩, fun _ => rfl, fun t rest h => (HTs.out t (by rw [h]; exact List.mem_cons_self ..)).num.1, rfl⟩⟩
      clear HS hk
      go_upto_region 20 with fail
      obtain ⟨w9, hw9⟩ : ∃ w9, w9 = wr := ⟨_, rfl⟩
      subst hw9
      have hbpx : x.bp < gx := hord.2.1
      go_loopw [13] (fun u wr => ∃ (i : Nat) (dn rs : List Tr) (q : List Pq) (ex : Nat), u = .int .i64 i ∧ Lk (Sq w9 wr x V1.ownBlock ts dn rs q ex i)) (fun u _ => 150 - (intOf u).toNat)
      case atStart => exact ⟨0, [], ts, q1, 0, rfl, HSq⟩
      case round =>
        obtain ⟨i, dn, rs, q, ex, rfl, HQ⟩ := hrel
        have hlim := HQ.out.lim HTs.out
        have hl30 := HTl.out
        have hi : i ≤ 150 := by have := hlim.1; omega
        have hnS : ∀ k, (k = gx ∨ k = gw) → ¬ (k = x.bp ∨ V1.ownBlock = some k ∨ k = x.bn ∨ k = x.gn) := fun k hk hh => by
          rcases hh with e | e | e | e
          · omega
          · have := hvb k e; omega
          · omega
          · omega
        have HXi := Lk.mk (HXw.out.on HQ.out.wr.only (hnS gx (.inl rfl)))
        have HRi := Lk.mk (HRw.out.on HQ.out.wr.only (hnS gw (.inr rfl)))
        have HBi := Lk.mk (HQ.out.wr.only.below_on (B := w.heap.size) HBw.out (fun k hk => by
          rcases hk with e | e | e | e
          · show w.heap.size ≤ k; omega
          · have := hvb k e; show w.heap.size ≤ k; omega
          · show w.heap.size ≤ k; omega
          · show w.heap.size ≤ k; omega) HBw.out.size)
        obtain ⟨x0, x1, _, _⟩ := HXi.out.c
        have HPn : Lk (∀ W : World, W = wr → Calls Try.prog 18 #[.pointer (some ⟨x.bp, 0, none⟩)] W fun e w' => e = .returned (.int .i64 q.length) ∧ W = w') := ⟨fun W e => by
          subst e
          obtain ⟨F, V, B, cb, hp⟩ := HQ.out.wr.p
          exact pending_any F x.bp 0 1 0 V q ex B cb [] _ ⟨hp.pp⟩⟩
        by_cases hq : q = []
        · subst hq
          have HNe := Lk.mk HQ.out.end_
          clear HQ hlim
          go_upto_region 27 with (first
            | (go_at_call 18; refine (HPn.out _ rfl).mono ?_; rintro e w' ⟨rfl, rfl⟩))
          have CRd := read_ok x.bn x.gn 320 x.cp (foldW wsF ts) 40 230 wr HNe (by omega) (by omega) (by omega)
          rw [same_rest HTs.out] at CRd
          have HRi2 := Lk.mk HRi.out.lies
          have hrl := HRi.out.len
          have hsl : ∀ w, (Instr.sliceAt 49 (.slice (some ⟨gw, 0, none⟩) 320 320) (some (.int .i64 40)) (some (.int .i64 270)) none).run Try.prog w = .ok (.slice (some ⟨gw, 40, none⟩) 230 280) w := fun w => slice_words gw 320 320 40 230 w (by omega) (by omega) (by omega) (by omega)
          have HCut := Lk.mk (HRi.out.lies.cut (i := 40) (n := 230) (cap := 320) (by omega) (by omega))
          rw [if_neg (by omega), show (some (⟨gw, 0, none⟩ : Addr)).map (·.add 40) = some ⟨gw, 40, none⟩ from by simp [add_zero_]] at HCut
          have hLl : (((foldW (List.replicate 320 0) ts).drop 40).take 230).length = 230 := cut_len (by omega)
          generalize ((foldW (List.replicate 320 0) ts).drop 40).take 230 = Ls at *
          go_upto_region 28 with (first
            | (go_at_call 21; refine CRd.mono ?_; rintro e wj ⟨g1, cap1, rfl, HGj, HRj, HBj⟩))
          have CSm := Vs.same_any (some ⟨g1, 0, none⟩) (some ⟨gw, 40, none⟩) 230 cap1 230 280 Ls Ls wj hLl hLl ⟨HRj.out.lies⟩ ⟨HCut.out.on_ HBj.out⟩ (by omega) (by omega)
          rw [decide_eq_true rfl] at CSm
          go_wp2_with (first
            | (go_at_call 22; refine CSm.mono ?_; rintro e wk ⟨rfl, HBk⟩))
          go_ret
          exact ⟨rfl, HBi.out.trans ((HBj.out.trans (HBk.out.mono HBj.out.size)).mono HBi.out.size)⟩
        · have hql : 0 < q.length := List.length_pos_iff.2 hq
          have hi2 : i < 150 := by have := hlim.2 hq; omega
          have CS := sq_step HQ HTs hq
          go_upto_region 24 with (first
            | (go_at_call 18; refine (HPn.out _ rfl).mono ?_; rintro e w' ⟨rfl, rfl⟩))
          go_upto_region 21 with (first
            | (go_at_call 20; refine CS.mono ?_; rintro e ws ⟨don, B, cb, dn', rs', q', ex', rfl, HQ'⟩; cases don))
          all_goals go_wp2
          all_goals go_roundw
          case rel => exact ⟨i + 1, dn', rs', q', ex', by go_num, ⟨HQ'.out.on ((Below.refl _ _).alloc (Nat.le_refl _) _)⟩⟩
          case measure => simp [intOf]; omega
          case rel => exact ⟨i + 1, dn', rs', q', ex', by go_num, ⟨HQ'.out.on ((Below.refl _ _).alloc (Nat.le_refl _) _)⟩⟩
          case measure => simp [intOf]; omega

set_option maxRecDepth 100000 in
theorem lifted (os : Os) (started : os.Started) (H : Type) (enc : TypeId × Value → H) :
    ReturnsInHanded {} Try.checked os 5 .any (Rows.queuepairOrderSpec.pre6 enc Try.prog Try.f5 Rows.queuepairOrderRow.domain false) (Rows.queuepairOrderSpec.post enc Try.prog Try.f5 false true false false) := by
  refine returnsInHanded_of_change (C := Try.checked) own started (by kernel_rfl) Try.func5
    (ChangeSpec.witness6 (enc := enc) (C := Try.checked) false ⟨#[], #[.slice none 0 0, .int .u64 0], []⟩ 8 (by kernel_rfl) (by kernel_rfl) (by kernel_rfl) (by kernel_rfl)) ?_
  intro W base args ds gs before hval0 hW hcnd _
  have hval : ∀ (j : Nat) t v, Try.f5.params[j]? = some t → args[j]? = some v → Value.okWide Try.prog W .any base t v := hval0
  have hW' := hW
  obtain ⟨p, q, hA0, hV, rfl, hfz, hnd⟩ := hW
  have hA : DataW.TrodAll enc Try.prog W 0 (fun _ => true) true Try.f5.params.toList args.toList ds p := hA0
  rw [Try.params5] at hA hval
  obtain ⟨v0, vs0, d0, ds0, p0, q0, hargs, rfl, rfl, h0, r0⟩ := trodAll_cons hA
  obtain ⟨v1, vs1, d1, ds1, p1, q1, rfl, rfl, rfl, h1, r1⟩ := trodAll_cons r0
  obtain ⟨rfl, rfl, rfl⟩ := trodAll_nil r1
  obtain rfl : args = #[v0, v1] := by cases args; simp_all
  obtain ⟨rfl, rfl⟩ := trodVars_none hV
  obtain ⟨a0, len0, cap0, rfl⟩ := okWide_slice Try.underlying48 (hval 0 48 v0 rfl rfl)
  have k0 := h0
  have lt0 : ∀ x ∈ p0, x.block < W.heap.size := by obtain ⟨m, hm⟩ := k0; exact DataW.trod_lt m _ _ _ hm
  obtain ⟨z0, w0⟩ : ∃ zs, IsRow .i64 W a0 len0 cap0 zs := by
    obtain ⟨fuel, hf⟩ := h0
    exact nums_of hf
  obtain ⟨a1, rfl, rfl, rfl, w1⟩ := open_int Try.underlying33 (hval 1 33 v1 rfl rfl) h1
  clear hA0 hval0
  refine (walk a0 len0 cap0 z0 a1 W w0 w1).mono fun e W' ⟨he, bel⟩ => ?_
  subst he
  exact ⟨_, rfl, _, _, _, [], _, [], hW', trodAll_mk1 (shut_bool Try.underlying4 _), (trodAll_cons_mk (Below.trod laidOut (by kernel_rfl) (of_decide_eq_true (by kernel_rfl)) k0 bel lt0) (trodAll_cons_mk (shut_int Try.underlying33 w1) trodAll_mk0)), rfl, bel.frame _, fun h => by cases h⟩

theorem over : Rows.queuepairOrderRow.holds Try.pinned (OpenSpec.ofChange Rows.queuepairOrderSpec) :=
  OpenClaim.holds_of_wide 5 Try.f5 rfl rfl rfl rfl rfl rfl rfl ⟨rfl, rfl, rfl, rfl, rfl⟩ rfl rfl rfl rfl rfl (by kernel_rfl) Try.func5 (by kernel_rfl)
    (of_decide_eq_true (by kernel_rfl)) (by unfold Func.isWrapper; first | (rw [if_pos (by decide +kernel)]; kernel_rfl) | (rw [if_neg (by decide +kernel)]; exact ⟨rfl, rfl⟩))
    (fun os started H enc _ => lifted os started H enc)

/-- ████ THE STATEMENT ████ -/
theorem proved : Rows.QueuepairOrderSaid := over
end Go.Proofs.Ytacfmkmiikkppaa.queuepairOrder

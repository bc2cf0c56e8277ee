/-
  Contract of the program's Body.
-/
import Derived.Test.YtdodigfojbijfaaRf
namespace Go.Proofs.Ytdodigfojbijfaa.Rg
open Go.ChangeShapes Go.WideShapes Go.ChangeAt Go.RowKit Ga Gb Ra Rb Rc Rd Re Rf
set_option linter.unusedVariables false
set_option linter.unusedSimpArgs false
set_option maxRecDepth 10000
set_option maxHeartbeats 1000000

theorem bodyWords_any (n : Nat) (w : World) (h : n ≤ 1000) : Calls Try.prog 46 #[.int .i64 n] w fun e w' => e = .returned (.int .i64 ((3 + 9 * n : Nat) : Int)) ∧ w = w' := by
  go_enter Try.func46, Try.ntmps46
  go_wp2
  go_ret
  exact ⟨ret_int (by omega), rfl⟩
/-- What Body returns: nil, or a row of the call's own. -/
def bodyX (s : Int) (l : List Pg) : List Nat := if validR s l 256 = 0 then bodyW s l else []
theorem body_any (s : Int) (A : Option Addr) (l : List Pg) (n c : Nat) (w : World) (hn : l.length = n) (hb : n ≤ 4294967296) (hw : Lk (PgsWf l)) (h1 : Lk (Pgs w w.heap.size A l)) :
    Calls Try.prog 17 #[rcv s A n c] w fun e w' => ∃ v, e = .returned v ∧ Lk (Wt w w' v (bodyX s l)) := by
  obtain ⟨i0, hi, hz0, hz1, hz2⟩ := info_parts u64info
  have HB0 := Lk.mk (Br.start w s A n c 35)
  have CV := Lk.mk (fun (W : World) (H : Br w W w.heap.size s A n c) => valid_any s 256 A l n c W hn hb hw ⟨(h1.out.below H.below).more H.below.size⟩)
  unfold rcv at *
  by_cases hV : validR s l 256 = 0
  · have HX := Lk.mk (show bodyX s l = bodyW s l from if_pos hV)
    obtain ⟨_, hs, hl, hp, _, _⟩ := valid_zero hV
    have HP := Lk.mk hp
    rw [hV] at CV
    have hn1 : 1 ≤ n ∧ n ≤ 12 := by omega
    clear hp hl hV
    obtain ⟨S, rfl⟩ : ∃ S : Nat, s = (S : Int) := ⟨s.toNat, by omega⟩
    have hS : 1 ≤ S ∧ S ≤ 1073741823 := by omega
    obtain ⟨cp, hcp⟩ : ∃ cp, 3 + 9 * n = cp := ⟨_, rfl⟩
    have CB := Lk.mk (fun w => bodyWords_any n w (by omega))
    rw [hcp] at CB
    have hcb : cp ≤ 1000 := by omega
    have HZ := Lk.mk (show pfx (S : Int) l 0 = [S, n] from by rw [pfx_zero, hn]; simp)
    clear hcp hs
    go_enter Try.func17, Try.ntmps17
    go_wp2_with (first
      | (go_at_call 12; refine (CV.out _ HB0.out).mono ?_; rintro e w1 ⟨rfl, H1⟩; have HB1 := Lk.mk (HB0.out.on H1.out); have q0 := HB1.out.c0; have q1 := HB1.out.c1)
      | (go_at_call 46; refine (CB.out _).mono ?_; rintro e w' ⟨rfl, rfl⟩)
      | (at_make; refine wpList_make_own _ rfl _ _ 41 rfl w1.heap.size 28 i0 (.int .u64 0) 1 Try.underlying41 hi hz0 hz1 .i64 .i64 _ cp rfl rfl rfl ?b2 ?b3 (Nat.le_refl _) ?_))
    case b2 => rw [hz2]; omega
    case b3 => unfold maxLen; omega
    intro w2 hown hgrow
    have HW : Lk (Wt w1 w2 (.slice (some ⟨w1.heap.size, 0, none⟩) 0 cp) []) := ⟨hown, below_none hgrow, by simp⟩
    have HB2 := Lk.mk (HB1.out.on HW.out.below)
    have q0 := HB2.out.c0
    have q1 := HB2.out.c1
    clear hown hgrow CV CB HB0 H1
    generalize (Value.slice (some ⟨w1.heap.size, 0, none⟩) 0 cp) = v1 at *
    go_wp2_with (first
      | (at_builtin; refine wpList_append_own _ rfl _ _ 41 rfl w1.heap.size 28 i0 (.int .u64 0) 1 8 Try.underlying41 hi hz0 hz1 hz2 rfl (by decide) _ _ _ rfl (HW.out.alloc _).own ⟨w2.heap.size, 0, none⟩ 2 2 [.int .u64 (S : Int), .int .u64 (n : Int)] rfl rfl ?c1 ?c2 ?c3 ?c4 ?c5 ?_))
    case c1 =>
      intro j u hj
      match j, hj with
      | 0, hj => simp at hj; subst hj; simp [Addr.add]
      | 1, hj => simp at hj; subst hj; simp [Addr.add]
    case c2 => intro u hu; simp at hu; rcases hu with rfl | rfl <;> rfl
    case c3 => unfold maxLen; simp
    case c4 => simp
    case c5 => have := HW.out.below.size; simp; omega
    intro v2 w3 hown hgrow _
    have HW2 : Lk (Wt w1 w3 v2 (pfx (S : Int) l 0)) := ⟨by rw [HZ.out]; exact (HW.out.alloc _).after (l := [S, n]) (fun z hz => by simp at hz; omega) (by simpa [u64v] using hown) hgrow⟩
    have HB3 := Lk.mk (HB1.out.on HW2.out.below)
    have q0 := HB3.out.c0
    have q1 := HB3.out.c1
    clear hown hgrow HW HB2
    go_wp2_with fail
    go_loopw [3, 27] (fun s3 s27 wr => ∃ k : Nat, k ≤ n ∧ s27 = .int .i64 k ∧ Lk (Wt w1 wr s3 (pfx (S : Int) l k))) (fun _ i _ => n - (intOf i).toNat)
    case atStart => exact ⟨0, by omega, rfl, HW2⟩
    case round =>
      clear HW2 HB3 q0 q1
      obtain ⟨k, hk, rfl, HW⟩ := hrel
      by_cases hlt : k < n
      · obtain ⟨ad, rfl, hab, hp⟩ := h1.out.at_ (k := k) (by omega)
        have hpw := Lk.mk (hw.out.at_ k)
        have hpl := mem_at HP.out (k := k) (by omega)
        have P1 := ((hp.below HB1.out.below (by rw [block_of_add]; exact hab)).below HW.out.below (by rw [block_of_add]; have := HB1.out.below.size; omega))
        have HT := Lk.mk (pfx_next (S : Int) l (k := k) (by omega))
        have HK := Lk.mk (pfx_len (S : Int) l (k := k) (by omega))
        clear hp
        generalize l.getD k pz = p at *
        obtain ⟨a0, a1, a2, a3, a4, a5, a6, a7, a8⟩ := P1
        have hki : (k : Int) < n := by omega
        have HQ := Lk.mk (Bp.new wr p 31)
        have HW1 := Lk.mk (HW.out.alloc (.cells p.arr 31))
        have HNE := Lk.mk (fun k (h : u3.ownBlock = some k) => (show k ≠ wr.heap.size from by have := (HW.out.own.lt k h).2; omega))
        unfold Pg.arr at HQ HW1
        obtain ⟨g, hg⟩ : ∃ g, wr.heap.size = g := ⟨_, rfl⟩
        rw [hg] at HQ HNE
        go_upto_region 8 with fail
        clear a0 a1 a2 a3 a4 a5 a6 a7 a8 HW
        clear hg
        generalize wr.alloc _ = W at *
        have q0 := HQ.out.c0
        have q1 := HQ.out.c1
        have hh := hpw.out.h
        obtain ⟨L, hL⟩ : ∃ L : Nat, p.line = (L : Int) := ⟨p.line.toNat, by omega⟩
        have HL := Lk.mk (show p.line.toNat = L from by omega)
        rw [HL.out] at HT
        rw [hL] at q0 hpl
        clear hL
        go_wp2_with (first
          | (at_builtin; refine wpList_append_own _ rfl _ _ 41 rfl w1.heap.size 28 i0 (.int .u64 0) 1 8 Try.underlying41 hi hz0 hz1 hz2 rfl (by decide) _ _ _ rfl (HW1.out.alloc _).own ⟨W.heap.size, 0, none⟩ 2 2 [.int .u64 (L : Int), .int .u64 (p.head : Int)] rfl rfl ?c1 ?c2 ?c3 ?c4 ?c5 ?_))
        case c1 =>
          intro j u hj
          match j, hj with
          | 0, hj => simp at hj; subst hj; simp [Addr.add]
          | 1, hj => simp at hj; subst hj; simp [Addr.add]
        case c2 => intro u hu; simp at hu; rcases hu with rfl | rfl <;> rfl
        case c3 => unfold maxLen; rw [HK.out]; omega
        case c4 => rw [HK.out]; omega
        case c5 => have := HW1.out.below.size; simp; omega
        intro v4 w4 hown hgrow _
        have HW2 : Lk (Wt w1 w4 v4 (pfx (S : Int) l k ++ [L, p.head])) := ⟨(HW1.out.alloc _).after (l := [L, p.head]) (fun z hz => by simp at hz; omega) (by simpa [u64v] using hown) hgrow⟩
        have HQ2 : Lk (Bp w4 g p) := ⟨HQ.out.keep ((grown_keep hgrow (by simp; have := HQ.out.lt; omega) HNE.out).trans (Below.heap_alloc _ _ _ HQ.out.lt))⟩
        have HK2 := Lk.mk (show (pfx (S : Int) l k ++ [L, p.head]).length = 4 + 9 * k from by rw [List.length_append, HK.out]; simp; omega)
        clear hown hgrow HW1 HQ HNE q0 q1
        go_wp2_with (first
          | (at_builtin; refine wpList_append_own _ rfl _ _ 41 rfl w1.heap.size 28 i0 (.int .u64 0) 1 8 Try.underlying41 hi hz0 hz1 hz2 rfl (by decide) _ _ _ rfl HW2.out.own ⟨g, 2, none⟩ 7 7 (p.data.map u64v) rfl rfl HQ2.out.words ?d2 ?d3 ?d4 HW2.out.below.size ?_))
        case d2 => exact words_one _
        case d3 => unfold maxLen; rw [HK2.out]; omega
        case d4 => rw [HK2.out]; omega
        intro v5 w5 hown hgrow _
        have HW3 : Lk (Wt w1 w5 v5 (pfx (S : Int) l (k + 1))) := ⟨by rw [HT.out]; exact HW2.out.after (data_lt hpw.out) (by simpa [Pg.data] using hown) hgrow⟩
        clear hown hgrow HW2 HQ2 HT
        go_wp2_with fail
        go_roundw
        case rel => exact ⟨k + 1, by omega, by go_num, HW3⟩
        case measure => simp [intOf]; omega
      · obtain rfl : n = k := by omega
        rw [pfx_all _ l hn] at HW
        have HLh := Lk.mk (show (heads (S : Int) l).length = 2 + 9 * n from by rw [heads_len, hn])
        obtain ⟨A3, c3, rfl, hc3, hc3', hL3⟩ := HW.out.form
        have CW := Lk.mk (Cf.words_any A3 (heads (S : Int) l) _ c3 wr rfl (by rw [HLh.out]; omega) ⟨HW.out.lt⟩ ⟨hL3⟩)
        have HXX := Lk.mk (show bodyW (S : Int) l = heads (S : Int) l ++ [Cf.crcW (heads (S : Int) l)] from rfl)
        have hcl := Cf.crcW_lt (heads (S : Int) l)
        have HBk := Lk.mk HB1.out.below
        clear hL3 hc3 hc3'
        generalize Cf.crcW (heads (S : Int) l) = crc at *
        go_wp2_with (first
          | (go_at_call 47; refine CW.out.mono ?_; rintro e w5 ⟨rfl, H5⟩; have HW5 := Lk.mk (HW.out.on H5.out))
          | (at_builtin; refine wpList_append_own _ rfl _ _ 41 rfl w1.heap.size 28 i0 (.int .u64 0) 1 8 Try.underlying41 hi hz0 hz1 hz2 rfl (by decide) _ _ _ rfl (HW5.out.alloc _).own ⟨w5.heap.size, 0, none⟩ 1 1 [.int .u64 (crc : Int)] rfl rfl ?e1 ?e2 ?e3 ?e4 ?e5 ?_))
        case e1 =>
          intro j u hj
          match j, hj with
          | 0, hj => simp at hj; subst hj; simp [Addr.add]
        case e2 => intro u hu; simp at hu; subst hu; rfl
        case e3 => unfold maxLen; rw [HLh.out]; omega
        case e4 => rw [HLh.out]; omega
        case e5 => have := HW5.out.below.size; simp; omega
        intro v6 w6 hown hgrow _
        have HW6 : Lk (Wt w1 w6 v6 (bodyW (S : Int) l)) := ⟨by rw [HXX.out]; exact (HW5.out.alloc _).after (l := [crc]) (fun z hz => by simp at hz; omega) (by simpa [u64v] using hown) hgrow⟩
        clear hown hgrow HW5 HW
        go_wp2
        go_ret
        rw [HX.out]
        exact ⟨_, rfl, ⟨HW6.out.lower HBk.out⟩⟩
  · have HX := Lk.mk (show bodyX s l = [] from if_neg hV)
    go_enter Try.func17, Try.ntmps17
    go_wp2_with (first | (go_at_call 12; refine (CV.out _ HB0.out).mono ?_; rintro e w1 ⟨rfl, H1⟩; have HB1 := Lk.mk (HB0.out.on H1.out)))
    go_ret
    rw [HX.out]
    exact ⟨_, rfl, ⟨World.ownsRow_nil _ _ _ _, HB1.out.below, by simp⟩⟩
end Go.Proofs.Ytdodigfojbijfaa.Rg

/-
  Contracts: two slices of words compared; the reference's Body.
-/
import Derived.Test.YtdodigfojbijfaaRg
namespace Go.Proofs.Ytdodigfojbijfaa.Rh
open Go.ChangeShapes Go.WideShapes Go.ChangeAt Go.RowKit Ga Gb Ra Rb Rc Rd Re Rf Rg
set_option linter.unusedVariables false
set_option linter.unusedSimpArgs false
set_option maxRecDepth 10000
set_option maxHeartbeats 2000000
theorem lists_ne {l m : List Nat} {k : Nat} (h1 : k < l.length) (h2 : k < m.length) (h : l.getD k 0 ≠ m.getD k 0) : l ≠ m := fun e => h (by rw [e])
theorem lists_eq {l m : List Nat} (hl : l.length = m.length) (h : ∀ j, j < l.length → l.getD j 0 = m.getD j 0) : l = m := by
  apply List.ext_getElem hl
  intro i h1 h2
  have := h i h1
  simpa [List.getD_eq_getElem?_getD, h1, h2] using this

theorem sameWords_any (A1 A2 : Option Addr) (l1 c1 l2 c2 : Nat) (s1 s2 : List Nat) (w : World) (h1 : s1.length = l1) (h2 : s2.length = l2) (H1 : Lk (Lies .u64 w w.heap.size A1 s1)) (H2 : Lk (Lies .u64 w w.heap.size A2 s2)) (hm : l1 ≤ 4294967296) (hm2 : l2 ≤ 4294967296) :
    Calls Try.prog 18 #[.slice A1 l1 c1, .slice A2 l2 c2] w fun e w' => e = .returned (.bool (decide (s1 = s2))) ∧ Lk (Below w.heap.size w w') := by
  go_enter Try.func18, Try.ntmps18
  by_cases hne : l1 = l2
  · subst hne
    have HL1 := Lk.mk h1
    have HL2 := Lk.mk h2
    clear h1 h2
    have h0 : Lk (Below w.heap.size w w) := ⟨Below.refl _ _⟩
    have HP0 : Lk (∀ j, j < 0 → s1.getD j 0 = s2.getD j 0) := ⟨fun j hj => absurd hj (by omega)⟩
    go_wp2_with fail
    go_loopw [5] (fun s wr => ∃ k : Nat, k ≤ l1 ∧ s = .int .i64 k ∧ Lk (∀ j, j < k → s1.getD j 0 = s2.getD j 0) ∧ Lk (Below w.heap.size w wr)) (fun s _ => l1 - (intOf s).toNat)
    case atStart => exact ⟨0, by omega, rfl, HP0, h0⟩
    case round =>
      clear HP0 h0
      obtain ⟨k, hk, rfl, HP, HB⟩ := hrel
      by_cases hlt : k < l1
      · obtain ⟨a1, rfl, hb1, hc1⟩ := H1.out.at_ (show k < s1.length by have := HL1.out; omega)
        obtain ⟨a2, rfl, hb2, hc2⟩ := H2.out.at_ (show k < s2.length by have := HL2.out; omega)
        have d1 := (HB.out.cell (by rw [block_of_add]; exact hb1)).trans hc1
        have d2 := (HB.out.cell (by rw [block_of_add]; exact hb2)).trans hc2
        clear hc1 hc2 hb1 hb2
        have HE := Lk.mk (fun (h : s1.getD k 0 ≠ s2.getD k 0) => lists_ne (k := k) (by have := HL1.out; omega) (by have := HL2.out; omega) h)
        have HPn := Lk.mk (fun (h : s1.getD k 0 = s2.getD k 0) (j : Nat) (hj : j < k + 1) => if hjk : j < k then HP.out j hjk else (show j = k by omega) ▸ h)
        obtain ⟨x, hx⟩ : ∃ x, s1.getD k 0 = x := ⟨_, rfl⟩
        obtain ⟨y, hy⟩ : ∃ y, s2.getD k 0 = y := ⟨_, rfl⟩
        rw [hx] at d1 HE HPn
        rw [hy] at d2 HE HPn
        clear hx hy
        by_cases hxy : x = y
        · have HPm := Lk.mk (HPn.out hxy)
          clear HE HPn
          subst hxy
          go_wp2_with fail
          go_quiet (fail)
          have HB2 := Lk.mk (show Below w.heap.size w (wr.drewN nq) from ⟨HB.out.os, HB.out.tape, HB.out.output, HB.out.size, HB.out.block⟩)
          generalize wr.drewN nq = wq at *
          clear HB d1 d2
          go_wp2_with fail
          go_roundw
          case rel => exact ⟨k + 1, by omega, (by first | rfl | go_num), HPm, HB2⟩
          case measure => simp [intOf] <;> omega
        · have hf := Lk.mk (decide_eq_false (HE.out hxy))
          have hxi : ((x : Int) != (y : Int)) = true := by simp; omega
          clear HPn HE
          go_wp2_with fail
          go_quiet (fail)
          have HB2 := Lk.mk (show Below w.heap.size w (wr.drewN nq) from ⟨HB.out.os, HB.out.tape, HB.out.output, HB.out.size, HB.out.block⟩)
          generalize wr.drewN nq = wq at *
          go_wp2
          go_ret
          exact ⟨ret_bool hf.out.symm, HB2⟩
      · obtain rfl : k = l1 := by omega
        have he := Lk.mk (decide_eq_true (lists_eq (by rw [HL1.out, HL2.out]) (fun j hj => HP.out j (by have := HL1.out; omega))))
        go_wp2
        go_ret
        exact ⟨ret_bool he.out.symm, HB⟩
  · have hf := Lk.mk (decide_eq_false (show ¬ s1 = s2 from fun e => hne (by rw [← h1, ← h2, e])))
    clear h1 h2
    go_wp2
    go_ret
    exact ⟨ret_bool hf.out.symm, ⟨Below.refl _ _⟩⟩
theorem eqWords_any (A1 A2 : Option Addr) (l1 c1 l2 c2 : Nat) (s1 s2 : List Nat) (w : World) (h1 : s1.length = l1) (h2 : s2.length = l2) (H1 : Lk (Lies .u64 w w.heap.size A1 s1)) (H2 : Lk (Lies .u64 w w.heap.size A2 s2)) (hm : l1 ≤ 4294967296) (hm2 : l2 ≤ 4294967296) :
    Calls Try.prog 50 #[.slice A1 l1 c1, .slice A2 l2 c2] w fun e w' => e = .returned (.bool (decide (s1 = s2))) ∧ Lk (Below w.heap.size w w') := by
  go_enter Try.func50, Try.ntmps50
  by_cases hne : l1 = l2
  · subst hne
    have HL1 := Lk.mk h1
    have HL2 := Lk.mk h2
    clear h1 h2
    have h0 : Lk (Below w.heap.size w w) := ⟨Below.refl _ _⟩
    have HP0 : Lk (∀ j, j < 0 → s1.getD j 0 = s2.getD j 0) := ⟨fun j hj => absurd hj (by omega)⟩
    go_wp2_with fail
    go_loopw [13] (fun s wr => ∃ k : Nat, k ≤ l1 ∧ s = .int .i64 k ∧ Lk (∀ j, j < k → s1.getD j 0 = s2.getD j 0) ∧ Lk (Below w.heap.size w wr)) (fun s _ => l1 - (intOf s).toNat)
    case atStart => exact ⟨0, by omega, rfl, HP0, h0⟩
    case round =>
      clear HP0 h0
      obtain ⟨k, hk, rfl, HP, HB⟩ := hrel
      by_cases hlt : k < l1
      · obtain ⟨a1, rfl, hb1, hc1⟩ := H1.out.at_ (show k < s1.length by have := HL1.out; omega)
        obtain ⟨a2, rfl, hb2, hc2⟩ := H2.out.at_ (show k < s2.length by have := HL2.out; omega)
        have d1 := (HB.out.cell (by rw [block_of_add]; exact hb1)).trans hc1
        have d2 := (HB.out.cell (by rw [block_of_add]; exact hb2)).trans hc2
        clear hc1 hc2 hb1 hb2
        have HE := Lk.mk (fun (h : s1.getD k 0 ≠ s2.getD k 0) => lists_ne (k := k) (by have := HL1.out; omega) (by have := HL2.out; omega) h)
        have HPn := Lk.mk (fun (h : s1.getD k 0 = s2.getD k 0) (j : Nat) (hj : j < k + 1) => if hjk : j < k then HP.out j hjk else (show j = k by omega) ▸ h)
        obtain ⟨x, hx⟩ : ∃ x, s1.getD k 0 = x := ⟨_, rfl⟩
        obtain ⟨y, hy⟩ : ∃ y, s2.getD k 0 = y := ⟨_, rfl⟩
        rw [hx] at d1 HE HPn
        rw [hy] at d2 HE HPn
        clear hx hy
        by_cases hxy : x = y
        · have HPm := Lk.mk (HPn.out hxy)
          clear HE HPn
          subst hxy
          go_wp2_with fail
          go_quiet (fail)
          have HB2 := Lk.mk (show Below w.heap.size w (wr.drewN nq) from ⟨HB.out.os, HB.out.tape, HB.out.output, HB.out.size, HB.out.block⟩)
          generalize wr.drewN nq = wq at *
          clear HB d1 d2
          go_wp2_with fail
          go_roundw
          case rel => exact ⟨k + 1, by omega, (by first | rfl | go_num), HPm, HB2⟩
          case measure => simp [intOf] <;> omega
        · have hf := Lk.mk (decide_eq_false (HE.out hxy))
          have hxi : ((x : Int) != (y : Int)) = true := by simp; omega
          clear HPn HE
          go_wp2_with fail
          go_quiet (fail)
          have HB2 := Lk.mk (show Below w.heap.size w (wr.drewN nq) from ⟨HB.out.os, HB.out.tape, HB.out.output, HB.out.size, HB.out.block⟩)
          generalize wr.drewN nq = wq at *
          go_wp2
          go_ret
          exact ⟨ret_bool hf.out.symm, HB2⟩
      · obtain rfl : k = l1 := by omega
        have he := Lk.mk (decide_eq_true (lists_eq (by rw [HL1.out, HL2.out]) (fun j hj => HP.out j (by have := HL1.out; omega))))
        go_wp2
        go_ret
        exact ⟨ret_bool he.out.symm, HB⟩
  · have hf := Lk.mk (decide_eq_false (show ¬ s1 = s2 from fun e => hne (by rw [← h1, ← h2, e])))
    clear h1 h2
    go_wp2
    go_ret
    exact ⟨ret_bool hf.out.symm, ⟨Below.refl _ _⟩⟩
theorem From.words2 (w : World) (x y : Value) (t : TypeId) : From (w.alloc (.cells #[x, y] t)) (some ⟨w.heap.size, 0, none⟩) 1 2 [x, y] :=
  ⟨rfl, fun _ => ⟨_, rfl, fun j u hj => by
    rw [add_zero_, cell_of_row _ _ _ _ _ _ (heap_alloc_new w (.cells #[x, y] t))]
    simpa using hj⟩⟩
theorem At.word {w : World} {ad : Addr} {p : Pg} (h : At w ad p) {j : Nat} (hj : j < 7) : w.cell? ⟨ad.block, ad.off + 2 + j, none⟩ = some (.int .u64 ((p.data.getD j 0 : Nat) : Int)) := by
  match j, hj with
  | 0, _ => exact h.c2
  | 1, _ => exact h.c3
  | 2, _ => exact h.c4
  | 3, _ => exact h.c5
  | 4, _ => exact h.c6
  | 5, _ => exact h.c7
  | 6, _ => exact h.c8
theorem refBody_any (s : Int) (A : Option Addr) (l : List Pg) (n c : Nat) (w : World) (hn : l.length = n) (hb : n ≤ 4294967296) (hw : Lk (PgsWf l)) (h1 : Lk (Pgs w w.heap.size A l)) :
    Calls Try.prog 19 #[rcv s A n c] w fun e w' => ∃ v, e = .returned v ∧ Lk (Wt w w' v (bodyX s l)) := by
  obtain ⟨i0, hi, hz0, hz1, hz2⟩ := info_parts u64info
  have HB0 := Lk.mk (Br.start w s A n c 25)
  have CV := Lk.mk (fun (W : World) (H : Br w W w.heap.size s A n c) => validRecord_any s 256 A l n c W hn hb hw ⟨(h1.out.below H.below).more H.below.size⟩)
  unfold rcv at *
  by_cases hV : validR s l 256 = 0
  · have HX := Lk.mk (show bodyX s l = bodyW s l from if_pos hV)
    obtain ⟨_, hs, hl, hp, _, _⟩ := valid_zero hV
    have HP := Lk.mk hp
    rw [hV] at CV
    have hn1 : 1 ≤ n ∧ n ≤ 12 := by omega
    clear hp hl hV
    obtain ⟨S, rfl⟩ : ∃ S : Nat, s = (S : Int) := ⟨s.toNat, by omega⟩
    have hS : 1 ≤ S ∧ S ≤ 1073741823 := by omega
    have HZ := Lk.mk (show pfx (S : Int) l 0 = [S, n] from by rw [pfx_zero, hn]; simp)
    clear hs
    go_enter Try.func19, Try.ntmps19
    go_wp2_with (first
      | (go_at_call 14; refine (CV.out _ HB0.out).mono ?_; rintro e w1 ⟨rfl, H1⟩; have HB1 := Lk.mk (HB0.out.on H1.out); have q0 := HB1.out.c0; have q1 := HB1.out.c1))
    have HW2 : Lk (Wt w1 (w1.alloc (.cells #[.int .u64 (S : Int), .int .u64 (n : Int)] 28)) (.slice (some ⟨w1.heap.size, 0, none⟩) 2 2) (pfx (S : Int) l 0)) := ⟨by
      rw [HZ.out]
      exact ⟨World.ownsRow_lit w1 #[.int .u64 (S : Int), .int .u64 (n : Int)] 2 (Nat.le_refl _) (by decide) rfl, (Below.refl _ _).alloc (Nat.le_refl _) _, fun x hx => by simp at hx; omega⟩⟩
    clear CV HB0 H1 q0
    go_loopw [3, 4] (fun s3 s4 wr => ∃ k : Nat, k ≤ n ∧ s4 = .int .i64 k ∧ Lk (Wt w1 wr s3 (pfx (S : Int) l k))) (fun _ i _ => n - (intOf i).toNat)
    case atStart => exact ⟨0, by omega, rfl, HW2⟩
    case round =>
      clear HW2 q1
      obtain ⟨k, hk, rfl, HW⟩ := hrel
      have q1 := (HB1.out.on HW.out.below).c1
      by_cases hlt : k < n
      · obtain ⟨ad, rfl, hab, hp⟩ := h1.out.at_ (k := k) (by omega)
        have hpw := Lk.mk (hw.out.at_ k)
        have hpl := mem_at HP.out (k := k) (by omega)
        have P1 := (hp.below HB1.out.below (by rw [block_of_add]; exact hab))
        have HA := Lk.mk (show At w1 (ad.add (k * 9)) (l.getD k pz) ∧ (ad.add (k * 9)).block < w1.heap.size from ⟨P1, by rw [block_of_add]; have := HB1.out.below.size; omega⟩)
        have P2 := HA.out.1.below HW.out.below HA.out.2
        have a0 := P2.c0
        have a1 := P2.c1
        have HT := Lk.mk (pfx_next (S : Int) l (k := k) (by omega))
        have HK := Lk.mk (pfx_len (S : Int) l (k := k) (by omega))
        clear hp P1 P2
        generalize l.getD k pz = p at *
        have hki : (k : Int) < n := by omega
        have hh := hpw.out.h
        obtain ⟨L, hL⟩ : ∃ L : Nat, p.line = (L : Int) := ⟨p.line.toNat, by omega⟩
        have HL := Lk.mk (show p.line.toNat = L from by omega)
        rw [HL.out] at HT
        rw [hL] at a0 hpl
        clear hL
        have HF2 := Lk.mk (From.words2 wr (.int .u64 (L : Int)) (.int .u64 (p.head : Int)) 28)
        have HWd := Lk.mk ((HW.out.alloc (.cells #[.int .u64 (L : Int), .int .u64 (p.head : Int)] 28)).on (w' := (wr.alloc (.cells #[.int .u64 (L : Int), .int .u64 (p.head : Int)] 28)).drew) ⟨rfl, rfl, rfl, Nat.le_refl _, fun _ _ => rfl⟩)
        have hwL : IntKind.u64.wrap (L : Int) = L := Wb.wraps_u64 _ (by omega) (by omega)
        go_upto_region 7 with fail
        go_cut [3] (fun s3 wx => Lk (Wt w1 wx s3 (pfx (S : Int) l k ++ [L, p.head])))
        case first =>
          go_region_law (first
            | (refine step_onto rfl (.tmp 24) (.tmp 38) 41 rfl w1.heap.size 28 i0 (.int .u64 0) 1 8 Try.underlying41 hi hz0 hz1 hz2 rfl (by decide) u3 (pfx (S : Int) l k).length ((pfx (S : Int) l k).map u64v) (by simp [Act.eval, Act.put]) HWd.out.own (some ⟨wr.heap.size, 0, none⟩) 2 2 [.int .u64 (L : Int), .int .u64 (p.head : Int)] (by simp [Act.eval, Act.put]) HF2.out (by intro u hu; simp at hu; rcases hu with rfl | rfl <;> rfl) (by unfold maxLen; rw [HK.out]; omega) (by rw [HK.out]; omega) HWd.out.below.size ?_; intro v6 w6 hown6 hgrow6))
          all_goals go_wp2
          all_goals go_meet
          all_goals exact ⟨(HWd.out.after (l := [L, p.head]) (fun z hz => by simp at hz; omega) (by simpa [u64v] using hown6) hgrow6)⟩
        case rest =>
          have HW0 := hcut
          clear hcut hwL HF2 HWd HW q1 a0 a1
          have HQ := Lk.mk (HB1.out.on HW0.out.below)
          have H0 : Lk (Wt w1 wc u3 (pfx (S : Int) l k ++ [L, p.head] ++ p.data.take 0)) := ⟨by simpa using HW0.out⟩
          have HK2 := Lk.mk (show (pfx (S : Int) l k ++ [L, p.head]).length = 4 + 9 * k from by rw [List.length_append, HK.out]; simp; omega)
          rename_i K aK
          refine aK _ _ ?_
          generalize pfx (S : Int) l k ++ [L, p.head] = acc at *
          go_wp2_with fail
          go_loopw [3, 5] (fun s3 s5 wx => ∃ j : Nat, j ≤ 7 ∧ s5 = .int .i64 j ∧ Lk (Wt w1 wx s3 (acc ++ p.data.take j))) (fun _ i _ => 7 - (intOf i).toNat)
          case atStart => exact ⟨0, by omega, rfl, H0⟩
          case round =>
            clear H0 HW0 HQ
            obtain ⟨j, hj, rfl, HW⟩ := hrel
            have q1 := (HB1.out.on HW.out.below).c1
            by_cases h7 : j < 7
            · have hc := At.word (HA.out.1.below HW.out.below HA.out.2) h7
              have hx := getD_lt (data_lt hpw.out) (k := j) h7
              have HM := Lk.mk (show acc ++ p.data.take (j + 1) = acc ++ p.data.take j ++ [p.data.getD j 0] from by rw [take_snoc p.data j h7, List.append_assoc])
              have HLn := Lk.mk (show (acc ++ p.data.take j).length = 4 + 9 * k + j from by rw [List.length_append, HK2.out, List.length_take, show p.data.length = 7 from rfl]; omega)
              have hji : (j : Int) < 7 := by omega
              generalize p.data.getD j 0 = x at *
              generalize acc ++ p.data.take j = acc2 at *
              go_wp2_with (first
                | (at_builtin; refine wpList_append_own _ rfl _ _ 41 rfl w1.heap.size 28 i0 (.int .u64 0) 1 8 Try.underlying41 hi hz0 hz1 hz2 rfl (by decide) _ _ _ rfl (HW.out.alloc _).own ⟨_, 0, none⟩ 1 1 [.int .u64 (x : Int)] rfl rfl ?e1 ?e2 ?e3 ?e4 ?e5 ?_))
              case e1 =>
                intro j u hj
                match j, hj with
                | 0, hj => simp at hj; subst hj; simp [Addr.add]
              case e2 => intro u hu; simp at hu; subst hu; rfl
              case e3 => unfold maxLen; rw [HLn.out]; omega
              case e4 => rw [HLn.out]; omega
              case e5 => have := HW.out.below.size; simp; omega
              intro v6 w6 hown hgrow _
              have HW6 : Lk (Wt w1 w6 v6 (acc ++ p.data.take (j + 1))) := ⟨by rw [HM.out]; exact (HW.out.alloc _).after (l := [x]) (fun z hz => by simp at hz; omega) (by simpa [u64v] using hown) hgrow⟩
              clear hown hgrow HW hc
              go_wp2
              go_roundw
              case rel => exact ⟨j + 1, by omega, by go_num, HW6⟩
              case measure => simp [intOf]; omega
            · obtain rfl : j = 7 := by omega
              have HW6 : Lk (Wt w1 _ _ (pfx (S : Int) l (k + 1))) := ⟨by rw [HT.out]; exact HW.out⟩
              clear HW
              go_wp2
              go_roundw
              case rel => exact ⟨k + 1, by omega, by go_num, HW6⟩
              case measure => simp [intOf]; omega
      · obtain rfl : n = k := by omega
        rw [pfx_all _ l hn] at HW
        have HLh := Lk.mk (show (heads (S : Int) l).length = 2 + 9 * n from by rw [heads_len, hn])
        obtain ⟨A3, c3, rfl, hc3, hc3', hL3⟩ := HW.out.form
        have CW := Lk.mk (Cf.refWords_any A3 (heads (S : Int) l) _ c3 wr rfl (by rw [HLh.out]; omega) ⟨HW.out.lt⟩ ⟨hL3⟩)
        have HXX := Lk.mk (show bodyW (S : Int) l = heads (S : Int) l ++ [Cf.crcW (heads (S : Int) l)] from rfl)
        have hcl := Cf.crcW_lt (heads (S : Int) l)
        have HBk := Lk.mk HB1.out.below
        clear hL3 hc3 hc3'
        generalize Cf.crcW (heads (S : Int) l) = crc at *
        go_wp2_with (first
          | (go_at_call 48; refine CW.out.mono ?_; rintro e w5 ⟨rfl, H5⟩; have HW5 := Lk.mk (HW.out.on H5.out))
          | (at_builtin; refine wpList_append_own _ rfl _ _ 41 rfl w1.heap.size 28 i0 (.int .u64 0) 1 8 Try.underlying41 hi hz0 hz1 hz2 rfl (by decide) _ _ _ rfl (HW5.out.alloc _).own ⟨w5.heap.size, 0, none⟩ 1 1 [.int .u64 (crc : Int)] rfl rfl ?e1 ?e2 ?e3 ?e4 ?e5 ?_))
        case e1 =>
          intro j u hj
          match j, hj with
          | 0, hj => simp at hj; subst hj; simp [Addr.add]
        case e2 => intro u hu; simp at hu; subst hu; rfl
        case e3 => unfold maxLen; rw [HLh.out]; omega
        case e4 => rw [HLh.out]; omega
        case e5 => have := HW5.out.below.size; simp; omega
        intro v6 w6 hown hgrow _
        have HW6 : Lk (Wt w1 w6 v6 (bodyW (S : Int) l)) := ⟨by rw [HXX.out]; exact (HW5.out.alloc _).after (l := [crc]) (fun z hz => by simp at hz; omega) (by simpa [u64v] using hown) hgrow⟩
        clear hown hgrow HW5 HW
        go_wp2
        go_ret
        rw [HX.out]
        exact ⟨_, rfl, ⟨HW6.out.lower HBk.out⟩⟩
  · have HX := Lk.mk (show bodyX s l = [] from if_neg hV)
    go_enter Try.func19, Try.ntmps19
    go_wp2_with (first | (go_at_call 14; refine (CV.out _ HB0.out).mono ?_; rintro e w1 ⟨rfl, H1⟩; have HB1 := Lk.mk (HB0.out.on H1.out)))
    go_ret
    rw [HX.out]
    exact ⟨_, rfl, ⟨World.ownsRow_nil _ _ _ _, HB1.out.below, by simp⟩⟩
end Go.Proofs.Ytdodigfojbijfaa.Rh

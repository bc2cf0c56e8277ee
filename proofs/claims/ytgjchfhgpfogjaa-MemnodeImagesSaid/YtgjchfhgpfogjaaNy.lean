/-
  Contract of package memnode's Load.
-/
import Derived.Test.YtgjchfhgpfogjaaNx
import Derived.Lib.Bytes
namespace Go.Proofs.Ytgjchfhgpfogjaa.Ny
open Go.ChangeShapes Go.WideShapes Go.ChangeAt Go.RowKit Ga Ma Ca Cb Cc Cd Ce Na Nb Nc Nd_ Nf Ng Nh Np Nq Nr Ns Nt Nv Nx
set_option linter.unusedVariables false
set_option linter.unusedSimpArgs false

theorem under_bytes : Try.prog.underlying 41 = some (.slice (Try.prog.elem 41)) := by kernel_rfl
theorem size_byte (w : World) : (sizeOf (Try.prog.elem 41)).run Try.prog w = .ok 1 w := by kernel_rfl
theorem slice_bytes (b o n c lo hi : Nat) (w : World) (h1 : lo < hi) (h2 : hi ≤ c) :
    (Instr.sliceAt 41 (.slice (some ⟨b, o, none⟩) n c) (some (.int .i64 (lo : Int))) (some (.int .i64 (hi : Int))) none).run Try.prog w = .ok (.slice (some ⟨b, o + lo, none⟩) (hi - lo) (c - lo)) w := by
  rw [run_sliceAt_slice _ _ _ _ _ _ under_bytes, run_slice_lh _ _ _ _ _ under_bytes _ _ _ _ (by omega) (by omega) (by omega), size_byte]
  have e : (if c = lo then (some ⟨b, o, none⟩ : Option Addr) else (some (⟨b, o, none⟩ : Addr)).map (·.add (lo * 1))) = some ⟨b, o + lo, none⟩ := by
    rw [if_neg (by omega)]
    simp [add_at]
  simp only [Result.andThen, sliced, e, Int.toNat_natCast]
theorem equal_any (A1 A2 : Option Addr) (a b : List Nat) (n m c d : Nat) (w : World) (B : Nat) (hn : a.length = n) (hm : b.length = m) (pn : 0 < n) (pm : 0 < m) (ha : Lk (∀ x ∈ a, x < 256)) (hb : Lk (∀ x ∈ b, x < 256)) (H1 : Lk (Lies .u8 w B A1 a)) (H2 : Lk (Lies .u8 w B A2 b)) :
    Calls Try.prog 40 #[.slice A1 n c, .slice A2 m d] w fun e w' => e = .returned (.bool (decide (a = b))) ∧ w = w' := by
  have c1 := conv_run (c := c) hn pn H1.out
  have c2 := conv_run (c := d) hm pm H2.out
  have HE : Lk (((str a).toList == (str b).toList) = decide (a = b)) := ⟨by
    by_cases h : a = b
    · subst h; simp
    · have : ¬ (str a).toList = (str b).toList := fun e => h (str_inj ha.out hb.out (by
        have e2 : (str a).data.toList = (str b).data.toList := by
          have h1 := Go.Lib.strOfNums_toList (a.map fun x : Nat => (x : Int))
          have h2 := Go.Lib.strOfNums_toList (b.map fun x : Nat => (x : Int))
          have h3 := strOfNums_data (a.map fun x : Nat => (x : Int))
          have h4 := strOfNums_data (b.map fun x : Nat => (x : Int))
          unfold str at e ⊢
          rw [h3, h4]
          rw [h1, h2] at e
          exact e
        cases ha' : str a with
        | mk x => cases hb' : str b with
          | mk y =>
            rw [ha', hb'] at e2
            congr
            exact Array.toList_inj.1 e2))
      simp [h, this]⟩
  clear ha hb H1 H2 hn hm
  go_enter Try.func40, Try.ntmps40
  go_wp2
  go_ret
  exact ⟨ret_bool HE.out, rfl⟩

/-- What Load hands back for these bytes. -/
def LoadPost (l : List Nat) (w : World) (e : Ending) (w' : World) : Prop :=
  Lk (Below w.heap.size w w') ∧ ((∃ (ws : List Nat) (up : Bool) (L b g : Nat), Is l ws up L ∧ e = .returned (.tuple #[.pointer (some ⟨b, 0, none⟩), .int .i64 0]) ∧ Lk (w.heap.size ≤ b ∧ w.heap.size ≤ g) ∧ Lk (PN w' b g (8 * L) (8 * L) ws up)) ∨
    (¬ Nv.Good l ∧ e = .returned (.tuple #[.pointer none, .int .i64 14])))

set_option maxRecDepth 100000 in
set_option maxHeartbeats 2000000 in
theorem load_any (A : Option Addr) (l : List Nat) (n c : Nat) (w : World) (hn : l.length = n) (hnc : n ≤ c) (h5 : n ≤ 4000) (hlb : Lk (∀ x ∈ l, x < 256)) (HL : Lk (Lies .u8 w w.heap.size A l)) :
    Calls Try.prog 19 #[.slice A n c] w (LoadPost l w) := by
  by_cases h7 : 7 ≤ n
  · obtain ⟨⟨b, o, s⟩, rfl, hbl, hc⟩ := HL.out (by omega)
    obtain rfl : s = none := by simpa [Addr.add] using World.cell?_spot (hc 0 (by omega))
    have HC : Lk (∀ j, j < n → w.cell? ⟨b, o + j, none⟩ = some (.int .u8 ((l.getD j 0 : Nat) : Int))) := ⟨fun j hj => by have := hc j (by omega); rwa [add_at] at this⟩
    have hb : b < w.heap.size := hbl
    clear hc hbl
    have HN : Lk (l.length = n) := ⟨hn⟩
    have s46 := slice_bytes b o n c 4 6 w (by decide) (by omega)
    have CN := number_any b (o + 4) (c - 4) ((l.drop 4).take 2) 2 (cut_len (by omega)) w ⟨cut_lt hlb.out 4 2⟩ (by decide) hb ⟨fun j hj => by
      have := HC.out (4 + j) (by omega)
      rw [← Nat.add_assoc] at this
      rw [this, List.getD_eq_getElem?_getD, List.getD_eq_getElem?_getD, List.getElem?_take, if_pos hj, List.getElem?_drop]⟩
    have hnum : num ((l.drop 4).take 2) = l.getD 4 0 + 256 * l.getD 5 0 := by
      have e : (l.drop 4).take 2 = [l.getD 4 0, l.getD 5 0] := by
        apply List.ext_getElem
        · rw [cut_len (by omega)]; rfl
        · intro i i1 i2
          have : i = 0 ∨ i = 1 := by simp at i2; omega
          rcases this with rfl | rfl
          · simp [show 4 < l.length by omega]
          · simp [show 5 < l.length by omega]
      rw [e]; simp [num]
    have h4 := getD_lt hlb.out (show 4 < l.length by omega)
    have h5 := getD_lt hlb.out (show 5 < l.length by omega)
    rw [hnum] at CN
    have HG : Lk (∀ ws up L, Is l ws up L → l.getD 4 0 + 256 * l.getD 5 0 = L ∧ n = 15 + 64 * L) := ⟨fun ws up L h => ⟨h.lines.1, by have := h.lines.2.2; omega⟩⟩
    clear hnum hn
    have hL0 : l.getD 4 0 + 256 * l.getD 5 0 ≤ 65535 := by omega
    generalize l.getD 4 0 + 256 * l.getD 5 0 = L0 at *
    clear h4 h5
    go_enter Try.func19, Try.ntmps19
    go_wp2_with fail
    refine CN.mono ?_
    rintro e w1 ⟨rfl, hB1⟩
    have HB1 : Lk (Below w.heap.size w w1) := ⟨hB1⟩
    clear CN hB1 s46
    by_cases hLr : 1 ≤ L0 ∧ L0 ≤ 256
    · go_wp2_with fail
      refine (new_ok L0 w1 hLr.1 hLr.2).mono ?_
      rintro e w2 ⟨b2, g2, rfl, HG2, HGg2, HP2, HB2⟩
      have HB3 : Lk (Below w.heap.size w w2) := ⟨HB1.out.trans (HB2.out.mono HB1.out.size)⟩
      have HO : Lk (w.heap.size ≤ b2 ∧ w.heap.size ≤ g2) := ⟨by have h1 := HB1.out.size; have h2 := HG2.out; have h3 := HGg2.out; omega⟩
      clear HB1 HB2 HG2 HGg2
      have CI := imageBytes_any L0 w2 hLr.2
      obtain ⟨ib, hib⟩ : ∃ ib, Lk (7 + (8 * L0 + 1) * 8 = ib) := ⟨_, ⟨rfl⟩⟩
      rw [hib.out] at CI
      by_cases hlen : n = ib
      · obtain ⟨N, hN⟩ : ∃ N, 8 * L0 = N := ⟨_, rfl⟩
        rw [hN] at HP2
        have HNL : Lk (8 * L0 = N) := ⟨hN⟩
        have hnN : n = 15 + 8 * N := by have := hib.out; omega
        have HnN := Lib.hid hnN
        have hN1 : 8 ≤ N := by omega
        have hN2 : N ≤ 512 := by omega
        subst hlen
        clear hN hnN
        go_upto_region 7 with (first
          | (go_at_call 33; refine CI.mono ?_; rintro e w' ⟨rfl, rfl⟩))
        clear CI
        have h6 := (HB3.out.cell (p := ⟨b, o + 6, none⟩) hb).trans (HC.out 6 (by omega))
        have hx6 := getD_lt hlb.out (show 6 < l.length by have := HN.out; omega)
        have H6 : Lk (∀ ws up L, Is l ws up L → l.getD 6 0 = upB up) := ⟨fun ws up L h => h.lines.2.1⟩
        generalize l.getD 6 0 = x6 at *
        have hu := HP2.out.c1
        have hf := HP2.out.f1 1
        have HPu : Lk (∀ u : Bool, PN ((w2.setCell ⟨b2, 1, none⟩ (.bool u)).drewN 1) b2 g2 N N (List.replicate N 0) u) := ⟨fun u => (HP2.out.setUp u).drew 1⟩
        have HBu : Lk (∀ u : Bool, Below w.heap.size w ((w2.setCell ⟨b2, 1, none⟩ (.bool u)).drewN 1)) := ⟨fun u => (HB3.out.setCell (p := ⟨b2, 1, none⟩) HO.out.1 _).trans ⟨rfl, rfl, rfl, Nat.le_refl _, fun _ _ => rfl⟩⟩
        obtain ⟨up, hup⟩ : ∃ up : Bool, ((x6 : Int) == 1) = up := ⟨_, rfl⟩
        have HU : Lk (upB up = if x6 = 1 then 1 else 0) := ⟨by
          rw [← hup]
          by_cases h : x6 = 1
          · subst h; rfl
          · have : ((x6 : Int) == 1) = false := by simp; omega
            rw [this, if_neg h]; rfl⟩
        go_cut [30] (fun _ wx => Lk (PN wx b2 g2 N N (List.replicate N 0) up) ∧ Lk (Below w.heap.size w wx))
        case first =>
          go_region_with (first
            | (go_at_call 35; refine (upByte_any true _).mono ?_; rintro e w' ⟨rfl, rfl⟩))
          all_goals go_wp2
          all_goals go_meet
          all_goals rw [show ((x6 : Int) == ((upB true : Nat) : Int)) = up from hup]
          all_goals exact ⟨⟨HPu.out up⟩, ⟨HBu.out up⟩⟩
        case rest =>
          obtain ⟨HP3, HB4⟩ := hcut
          clear hu hf HPu HBu hup h6 HP2 HB3
          have hc0 := HP3.out.c0
          have HS0 : Lk (∀ j, j < 0 → (List.replicate N 0).getD j 0 = num ((l.drop (7 + 8 * j)).take 8)) := ⟨fun j hj => absurd hj (by omega)⟩
          go_wp2_with fail
          go_loopw [43] (fun i wr => ∃ (k : Nat) (ws : List Nat), k ≤ N ∧ i = .int .i64 k ∧ Lk (PN wr b2 g2 N N ws up) ∧ Lk (∀ j, j < k → ws.getD j 0 = num ((l.drop (7 + 8 * j)).take 8)) ∧ Lk (Below w.heap.size w wr)) (fun i _ => N - (intOf i).toNat)
          case atStart => exact ⟨0, _, by omega, rfl, HP3, HS0, HB4⟩
          case round =>
            clear HP3 HS0 HB4 hc0
            obtain ⟨k, ws, hk, rfl, HP, HS, HB⟩ := hrel
            by_cases hlt : k < N
            · have hnn : 7 + 8 * k + 8 ≤ n := by have := HnN.out; omega
              have sl : ∀ wx : World, (Instr.sliceAt 41 (.slice (some ⟨b, o, none⟩) n c) (some (.int .i64 (7 + (k : Int) * 8))) (some (.int .i64 (7 + (k : Int) * 8 + 8))) none).run Try.prog wx = .ok (.slice (some ⟨b, o + (7 + 8 * k), none⟩) 8 (c - (7 + 8 * k))) wx := by
                intro wx
                have := slice_bytes b o n c (7 + 8 * k) (7 + 8 * k + 8) wx (by omega) (by omega)
                rw [show ((7 + 8 * k + 8 : Nat) : Int) = 7 + (k : Int) * 8 + 8 by omega, show ((7 + 8 * k : Nat) : Int) = 7 + (k : Int) * 8 by omega, show 7 + 8 * k + 8 - (7 + 8 * k) = 8 by omega] at this
                exact this
              have hw1 : wrap64 (7 + (k : Int) * 8 + 8) = 7 + (k : Int) * 8 + 8 := by unfold wrap64; omega
              have hw2 : IntKind.i64.wrap (7 + (k : Int) * 8 + 8) = 7 + (k : Int) * 8 + 8 := by simp [IntKind.wrap, IntKind.bits, IntKind.signed]; omega
              have sl1 := sl
              have sl2 := sl
              rw [← hw1] at sl1
              rw [← hw2] at sl2
              clear hw1 hw2
              have CK := number_any b (o + (7 + 8 * k)) (c - (7 + 8 * k)) ((l.drop (7 + 8 * k)).take 8) 8 (cut_len (by have := HN.out; omega)) wr.drew ⟨cut_lt hlb.out _ 8⟩ (by decide) (Nat.lt_of_lt_of_le hb HB.out.size) ⟨fun j hj => by
                have := (HB.out.cell (p := ⟨b, o + (7 + 8 * k + j), none⟩) hb).trans (HC.out (7 + 8 * k + j) (by omega))
                rw [← Nat.add_assoc o] at this
                refine Eq.trans (show _ = wr.cell? ⟨b, o + (7 + 8 * k) + j, none⟩ from rfl) ?_
                rw [this, List.getD_eq_getElem?_getD, List.getD_eq_getElem?_getD, List.getElem?_take, if_pos hj, List.getElem?_drop]⟩
              have HZ : Lk (num ((l.drop (7 + 8 * k)).take 8) < 18446744073709551616) := ⟨by
                have h1 := num_bound ((l.drop (7 + 8 * k)).take 8) (cut_lt hlb.out _ 8)
                rw [cut_len (by have := HN.out; omega)] at h1
                exact Nat.lt_of_lt_of_le h1 (by decide)⟩
              have HSn : Lk (∀ j, j < k + 1 → (ws.set k (num ((l.drop (7 + 8 * k)).take 8))).getD j 0 = num ((l.drop (7 + 8 * j)).take 8)) := ⟨fun j hj => by
                have hwl := HP.out.row.len
                by_cases e : k = j
                · subst e; simp [hwl, hlt]
                · have := HS.out j (by omega)
                  rw [List.getD_eq_getElem?_getD] at this ⊢
                  rw [List.getElem?_set_ne e]; exact this⟩
              generalize num ((l.drop (7 + 8 * k)).take 8) = z at *
              generalize o + (7 + 8 * k) = o2 at *
              generalize c - (7 + 8 * k) = c2 at *
              have HPd : Lk (PN wr.drew b2 g2 N N ws up) := ⟨HP.out.drew 1⟩
              have hc0 := HP.out.c0
              have HBd : Lk (Below w.heap.size w wr.drew) := ⟨HB.out.drew⟩
              go_wp2_with fail
              go_region_with (first
                | (go_at_call 39; refine CK.mono ?_; rintro e w5 ⟨rfl, hB5⟩; have HP5 := (⟨HPd.out.keep (hB5.block b2 HPd.out.size) (hB5.block g2 HPd.out.row.size)⟩ : Lk (PN w5 b2 g2 N N ws up)); have hd0 := HP5.out.c0; have hdk := HP5.out.row.cell hlt; have hfk := HP5.out.row.free k; have HX5 := (⟨HP5.out.set k z HZ.out, (HBd.out.trans (hB5.mono HBd.out.size)).setCell (p := ⟨g2, k, none⟩) HO.out.2 (.int .u64 (z : Int))⟩ : Lk (_ ∧ _))))
              all_goals clear sl sl1 sl2 CK HPd hc0 HBd HP HB HS
              all_goals go_wp2
              all_goals exact ⟨⟨k + 1, _, by omega, by go_num, ⟨HX5.out.1⟩, HSn, ⟨HX5.out.2⟩⟩, by simp [intOf]; omega⟩
            · obtain rfl : N = k := by omega
              have HW : Lk (ws = spelt l N) := ⟨by
                have hwl := HP.out.row.len
                apply List.ext_getElem
                · rw [spelt_len, hwl]
                · intro i h1 h2
                  have := HS.out i (by omega)
                  rw [List.getD_eq_getElem?_getD, List.getElem?_eq_getElem h1] at this
                  simp [spelt] at this ⊢
                  exact this⟩
              clear HS
              have hL62 : L0 ≤ 64 := by have := hib.out; omega
              go_wp2_with fail
              refine (image_any b2 g2 N N ws up wr L0 HP HNL.out.symm hLr.1 hL62).mono ?_
              rintro e w5 ⟨v5, rfl, HB5⟩
              obtain ⟨A5, c5, rfl, hc5, hL5⟩ := HB5.out.form
              have HL5 := Lib.hid hL5
              clear hL5
              have HP5 : Lk (PN w5 b2 g2 N N ws up) := ⟨HP.out.keep (HB5.out.below.block b2 HP.out.size) (HB5.out.below.block g2 HP.out.row.size)⟩
              have HB6 : Lk (Below w.heap.size w w5) := ⟨HB.out.trans (HB5.out.below.mono HB.out.size)⟩
              have HM5 : Lk (0 < (img ws up L0).length) := ⟨by rw [img_len]; omega⟩
              have CE := equal_any A5 (some ⟨b, o, none⟩) (img ws up L0) l _ n c5 c w5 w5.heap.size rfl HN.out HM5.out (by omega) ⟨img_lt⟩ hlb ⟨HL5.out⟩ ⟨(HL.out.below HB6.out).more HB6.out.size⟩
              clear HB5 hc5 HP HB
              by_cases heq : img ws up L0 = l
              · rw [decide_eq_true heq] at CE
                have HI : Lk (Is l ws up L0) := ⟨⟨heq.symm, by rw [HP5.out.row.len]; exact HNL.out.symm, hLr.1, hLr.2, HP5.out.row.lt⟩⟩
                clear heq
                go_wp2_with (first
                  | (go_at_call 40; refine CE.mono ?_; rintro e w' ⟨rfl, rfl⟩))
                go_ret2
                exact ⟨HB6, .inl ⟨ws, up, L0, b2, g2, HI.out, rfl, HO, ⟨by rw [HNL.out]; exact HP5.out⟩⟩⟩
              · rw [decide_eq_false heq] at CE
                have HI : Lk (¬ Nv.Good l) := ⟨by
                  rintro ⟨ws', up', L', h⟩
                  have h1 := (HG.out ws' up' L' h).1
                  subst h1
                  have h2 := h.words
                  rw [HNL.out, ← HW.out] at h2
                  subst h2
                  have h3 := H6.out _ _ _ h
                  have h4 := HU.out
                  have h5 : up = up' := by
                    rw [h3] at h4
                    cases up <;> cases up' <;> simp [upB] at h4 ⊢
                  subst h5
                  exact heq h.eq.symm⟩
                clear heq
                go_wp2_with (first
                  | (go_at_call 40; refine CE.mono ?_; rintro e w' ⟨rfl, rfl⟩))
                go_ret2
                exact ⟨HB6, .inr ⟨HI.out, rfl⟩⟩
      · go_wp2_with (first
          | (go_at_call 33; refine CI.mono ?_; rintro e w' ⟨rfl, rfl⟩))
        go_ret2
        refine ⟨HB3, .inr ⟨?_, rfl⟩⟩
        rintro ⟨ws, up, L, h⟩
        have h1 := HG.out ws up L h
        have h2 := hib.out
        omega
    · go_wp2_with fail
      refine (new_no L0 w1 (by omega)).mono ?_
      rintro e w' ⟨rfl, rfl⟩
      go_wp2_with fail
      go_ret2
      refine ⟨HB1, .inr ⟨?_, rfl⟩⟩
      rintro ⟨ws, up, L, h⟩
      have h1 := HG.out ws up L h
      have h2 := h.pos
      have h3 := h.most
      omega
  · go_enter Try.func19, Try.ntmps19
    go_wp2
    go_ret2
    refine ⟨⟨Below.refl _ _⟩, .inr ⟨?_, rfl⟩⟩
    rintro ⟨ws, up, L, h⟩
    have h1 := h.lines.2.2
    have h2 := h.pos
    omega
end Go.Proofs.Ytgjchfhgpfogjaa.Ny

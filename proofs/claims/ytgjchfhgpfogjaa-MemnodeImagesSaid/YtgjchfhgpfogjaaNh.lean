/-
  The law's own helper 'do': one operation, on the program's node and on the reference's.
-/
import Derived.Test.YtgjchfhgpfogjaaNg
namespace Go.Proofs.Ytgjchfhgpfogjaa.Nh
open Go.ChangeShapes Go.WideShapes Go.ChangeAt Go.RowKit Ga Na Nb Nc Nd_ Nf Ng
set_option linter.unusedVariables false
set_option linter.unusedSimpArgs false

/-- A run of 'do': where the operation lies (block o), the pair, and what is as it was. -/
structure Ev (w0 wr : World) (o : Nat) (k a c : Int) (x y : Nat) (b g cap br gr capr n : Nat) (ws : List Nat) (up : Bool) : Prop where
  pr : Pr wr b g cap br gr capr n ws up
  op : wr.heap[o]? = some (.cells #[.int .i64 k, .int .i64 a, .int .i64 c, .int .u64 x, .int .u64 y] 37 (0, 0))
  only : Only (Of b g br gr) w0 wr
  ge : w0.heap.size ≤ o
  lt : ∀ i, Of b g br gr i → i < w0.heap.size
section
variable {w0 wr wr' : World} {o b g cap br gr capr n x y : Nat} {k a c : Int} {ws : List Nat} {up : Bool} {S : Nat → Prop}
theorem Ev.start (h : Pr w0 b g cap br gr capr n ws up) : Ev w0 (w0.alloc (.cells #[.int .i64 k, .int .i64 a, .int .i64 c, .int .u64 x, .int .u64 y] 37)) w0.heap.size k a c x y b g cap br gr capr n ws up :=
  ⟨h.on0 ((Below.refl _ w0).alloc (Nat.le_refl _) _), heap_alloc_new w0 _, (Only.refl _ w0).alloc _, Nat.le_refl _, fun i hi => by
    have h1 := h.p.size
    have h2 := h.p.row.size
    have h3 := h.r.size
    have h4 := h.r.row.size
    unfold Of at hi; omega⟩
theorem Ev.o_lt (h : Ev w0 wr o k a c x y b g cap br gr capr n ws up) : o < wr.heap.size := (Array.getElem?_eq_some_iff.1 h.op).1
/-- Something new was laid, or a block of the run's own was turned. -/
theorem Ev.step (h : Ev w0 wr o k a c x y b g cap br gr capr n ws up) (ho : Only S wr wr') (hs : ∀ i, S i → w0.heap.size ≤ i ∧ i ≠ o) : Ev w0 wr' o k a c x y b g cap br gr capr n ws up :=
  ⟨h.pr.on ho fun i hi hf => by have := (hs i hi).1; have := h.lt i hf; omega, (ho.block o h.o_lt fun e => (hs o e).2 rfl).trans h.op,
   ⟨ho.os.trans h.only.os, ho.tape.trans h.only.tape, ho.output.trans h.only.output, Nat.le_trans h.only.size ho.size, fun i hi hn => (ho.block i (Nat.lt_of_lt_of_le hi h.only.size) (fun e => by have := (hs i e).1; omega)).trans (h.only.block i hi hn)⟩, h.ge, h.lt⟩
theorem Ev.below (h : Ev w0 wr o k a c x y b g cap br gr capr n ws up) (hb : Below wr.heap.size wr wr') : Ev w0 wr' o k a c x y b g cap br gr capr n ws up := h.step (S := fun _ => False) (Only.of_below hb) fun _ e => e.elim
theorem Ev.drew (h : Ev w0 wr o k a c x y b g cap br gr capr n ws up) (m : Nat) : Ev w0 (wr.drewN m) o k a c x y b g cap br gr capr n ws up := h.step (S := fun _ => False) ((Only.refl _ wr).drew m) fun _ e => e.elim
theorem Ev.k0 (h : Ev w0 wr o k a c x y b g cap br gr capr n ws up) : wr.cell? ⟨o, 0, none⟩ = some (.int .i64 k) := (cell_of_row _ o 0 _ _ _ h.op).trans rfl
theorem Ev.k1 (h : Ev w0 wr o k a c x y b g cap br gr capr n ws up) : wr.cell? ⟨o, 1, none⟩ = some (.int .i64 a) := (cell_of_row _ o 1 _ _ _ h.op).trans rfl
theorem Ev.k2 (h : Ev w0 wr o k a c x y b g cap br gr capr n ws up) : wr.cell? ⟨o, 2, none⟩ = some (.int .i64 c) := (cell_of_row _ o 2 _ _ _ h.op).trans rfl
theorem Ev.k3 (h : Ev w0 wr o k a c x y b g cap br gr capr n ws up) : wr.cell? ⟨o, 3, none⟩ = some (.int .u64 (x : Int)) := (cell_of_row _ o 3 _ _ _ h.op).trans rfl
theorem Ev.k4 (h : Ev w0 wr o k a c x y b g cap br gr capr n ws up) : wr.cell? ⟨o, 4, none⟩ = some (.int .u64 (y : Int)) := (cell_of_row _ o 4 _ _ _ h.op).trans rfl
end
/-- Where 'do' ends. -/
def Done (w0 : World) (b g cap br gr capr n : Nat) (q : Nat) (up : Bool) (e : Ending) (w' : World) : Prop :=
  e = .returned (.bool true) ∧ ∃ (ws' : List Nat) (up' : Bool), Lk (Pr w' b g cap br gr capr n ws' up') ∧ Lk (Only (Of b g br gr) w0 w') ∧ Lk (q < 6 → up' = up)

set_option maxRecDepth 100000 in
set_option maxHeartbeats 2000000 in
theorem do_any (b g cap br gr capr n : Nat) (ws : List Nat) (up : Bool) (k a c : Int) (x y : Nat) (w0 : World) (HP : Lk (Pr w0 b g cap br gr capr n ws up)) (hn : n ≤ 4294967296) (hn8 : 8 ≤ n)
    (k0 : -9223372036854775808 ≤ k) (k1 : k ≤ 9223372036854775807) (a0 : -9223372036854775808 ≤ a) (a1 : a ≤ 9223372036854775807) (c0 : -9223372036854775808 ≤ c) (c1 : c ≤ 9223372036854775807) (hx : x < 18446744073709551616) (hy : y < 18446744073709551616) :
    Calls Try.prog 12 #[.pointer (some ⟨b, 0, none⟩), .pointer (some ⟨br, 0, none⟩), .agg #[.int .i64 k, .int .i64 a, .int .i64 c, .int .u64 x, .int .u64 y]] w0 (Done w0 b g cap br gr capr n (pk k 10) up) := by
  have HE : Lk (Ev w0 (w0.alloc (.cells #[.int .i64 k, .int .i64 a, .int .i64 c, .int .u64 x, .int .u64 y] 37)) w0.heap.size k a c x y b g cap br gr capr n ws up) := ⟨Ev.start HP.out⟩
  obtain ⟨i0, hi, hz0, hz1, hz2⟩ := info_parts u64info
  go_enter Try.func12, Try.ntmps12
  go_upto_region 1 with fail
  generalize hW : w0.alloc (.cells #[.int .i64 k, .int .i64 a, .int .i64 c, .int .u64 x, .int .u64 y] 37) = W at *
  clear hW HP
  generalize w0.heap.size = o at *
  have h1 := HE.out.k1
  have h2 := HE.out.k2
  go_region
  have HE1 : Lk (Ev w0 W.drew o k a c x y b g cap br gr capr n ws up) := ⟨HE.out.drew 1⟩
  generalize W.drew = W1 at *
  clear HE h1 h2 W
  have h3 := HE1.out.k3
  go_upto_if 26 with fail
  go_cut [7, 8] (fun s7 s8 wx => wx = W1 ∧ ∃ t d : Int, s7 = .int .i64 t ∧ s8 = .int .i64 d ∧ -9223372036854775808 ≤ t ∧ t ≤ 9223372036854775807 ∧ -9223372036854775808 ≤ d ∧ d ≤ 9223372036854775807)
  case first =>
    have h4 := HE1.out.pr.r.c0
    by_cases hx3 : x % 3 = 0
    · go_wp2
      all_goals go_meet
      all_goals exact ⟨rfl, _, _, rfl, rfl, a0, a1, c0, c1⟩
    · have hp1 := pk_lt a n (by omega)
      have hp2 := pk_lt c 20 (by omega)
      go_wp2_with fail
      refine (pick_any a n W1 (by omega) (by omega) a0 a1).mono ?_
      rintro e w' ⟨rfl, rfl⟩
      go_wp2_with fail
      refine (pick_any c 20 W1 (by omega) (by omega) c0 c1).mono ?_
      rintro e w' ⟨rfl, rfl⟩
      go_wp2_with fail
      all_goals go_meet
      all_goals exact ⟨rfl, _, _, rfl, rfl, by omega, by omega, by omega, by omega⟩
  case rest =>
  obtain ⟨rfl, t, d, rfl, rfl, t0, t1, d0, d1⟩ := hcut
  clear a0 a1 c0 c1
  go_wp2_with fail
  refine (pick_any d 20 wc (by omega) (by omega) d0 d1).mono ?_
  rintro e w' ⟨rfl, rfl⟩
  have hm20 := pk_lt d 20 (by omega)
  generalize pk d 20 = m at *
  go_wp2_with (first
    | (at_make; refine wpList_make_full _ rfl _ _ 29 rfl wc.heap.size 35 i0 (.int .u64 0) 1 Try.underlying29 hi hz0 hz1 .i64 .i64 _ _ m rfl rfl rfl rfl ?b2 ?b3 (Nat.le_refl _) ?_))
  case b2 => rw [hz2]; omega
  case b3 => unfold maxLen; omega
  intro w1 hown hgrow
  have HR : Lk (Row w1 wc.heap.size m m (List.replicate m 0)) := ⟨Row.made (by simpa [Value.cells] using hown)⟩
  have HE : Lk (Ev w0 w1 o k a c x y b g cap br gr capr n ws up) := ⟨HE1.out.below ((Below.refl _ wc).grown hgrow (Nat.le_refl _) (fun k hk => by cases hk))⟩
  have hG : Lk (w0.heap.size ≤ wc.heap.size ∧ wc.heap.size ≠ o) := ⟨HE1.out.only.size, by have := HE1.out.o_lt; omega⟩
  generalize wc.heap.size = gw at *
  clear hown hgrow HE1
  go_wp2_with fail
  clear h3
  go_loopw [10] (fun i wr => ∃ (j : Nat) (l : List Nat), j ≤ m ∧ i = .int .i64 j ∧ Lk (Row wr gw m m l) ∧ Lk (Ev w0 wr o k a c x y b g cap br gr capr n ws up)) (fun i _ => m - (intOf i).toNat)
  case atStart => exact ⟨0, _, by omega, rfl, HR, HE⟩
  case round =>
    clear HR HE
    obtain ⟨j, l, hj, rfl, HR, HE⟩ := hrel
    by_cases hlt : j < m
    · have h4 := HE.out.k4
      have hc := HR.out.cell hlt
      have hf := HR.out.free j
      have HR2 : Lk (Row (wr.setCell ⟨gw, j, none⟩ (.int .u64 (IntKind.u64.wrap ((y : Int) + j)))) gw m m (l.set j ((y + j) % 18446744073709551616))) := ⟨by rw [wrap_add]; exact HR.out.set j ((y + j) % 18446744073709551616) (Nat.mod_lt _ (by decide))⟩
      have HE2 : Lk (Ev w0 (wr.setCell ⟨gw, j, none⟩ (.int .u64 (IntKind.u64.wrap ((y : Int) + j)))) o k a c x y b g cap br gr capr n ws up) := ⟨HE.out.step (S := fun i => i = gw) (Only.setCell (S := fun i => i = gw) (p := ⟨gw, j, none⟩) (Only.refl _ wr) (.inl rfl) _) (fun i hi => by rw [hi]; exact hG.out)⟩
      go_wp2
      go_roundw
      case rel => exact ⟨j + 1, _, by omega, by go_num, HR2, HE2⟩
      case measure => simp [intOf]; omega
    · obtain rfl : m = j := by omega
      have h0 := HE.out.k0
      go_wp2_with fail
      refine (pick_any k 10 wr (by omega) (by omega) k0 k1).mono ?_
      rintro e w' ⟨rfl, rfl⟩
      have hq10 := pk_lt k 10 (by omega)
      generalize pk k 10 = q at *
      clear h0
      have hcases : (q = 0 ∨ q = 1) ∨ (q = 2 ∨ q = 3) ∨ (q = 4 ∨ q = 5) ∨ q = 6 ∨ (q = 7 ∨ q = 8) ∨ q = 9 := by omega
      clear hq10
      rcases hcases with hc | hc | hc | hc | hc | hc
      · rcases code_cases up n t d with ⟨_, hup, f0, f1, f2⟩ | hk
        · obtain ⟨j, rfl⟩ : ∃ j : Nat, t = j := ⟨t.toNat, by omega⟩
          obtain ⟨cn, rfl⟩ : ∃ cn : Nat, d = cn := ⟨d.toNat, by omega⟩
          subst hup
          rcases hc with rfl | rfl
          all_goals
            go_wp2_with fail
            refine (read_ok b g n cap ws j cn wr ⟨HE.out.pr.p⟩ hn (by omega) (by omega)).mono ?_
            rintro e w2 ⟨g1, cap1, rfl, HG1, HR1, HB1⟩
            have HE2 : Lk (Ev w0 w2 o k a c x y b g cap br gr capr n ws true) := ⟨HE.out.below HB1.out⟩
            have hr0 := HE2.out.pr.r.c0
            have hcp := HE2.out.pr.r.row.cap_
            have CA := access_any br gr n capr true j cn w2 hn hr0 HE2.out.pr.r.c1 (by omega) (by omega) (by omega) (by omega)
            rw [code_ok (by omega) (by omega)] at CA
            have hs := slice_words gr n capr j cn w2 (by omega) (by omega) hcp.1 hcp.2
            have HL1 : Lk (∀ i, i < cn → w2.cell? ((⟨g1, 0, none⟩ : Addr).add i) = some (.int .u64 ((((ws.drop j).take cn).getD i 0 : Nat) : Int))) := ⟨fun i hi => by rw [add_zero_]; exact HR1.out.cell hi⟩
            have HL2 : Lk (∀ i, i < cn → w2.cell? ((⟨gr, j, none⟩ : Addr).add i) = some (.int .u64 ((((ws.drop j).take cn).getD i 0 : Nat) : Int))) := ⟨fun i hi => by
              rw [add_at, HE2.out.pr.r.row.cell (show j + i < n by omega), List.getD_eq_getElem?_getD, List.getD_eq_getElem?_getD, List.getElem?_take, if_pos hi, List.getElem?_drop]⟩
            have CS := same_any ⟨g1, 0, none⟩ ⟨gr, j, none⟩ ((ws.drop j).take cn) cn cap1 (capr - j) w2 (by omega) HL1 HL2
            clear HL1 HL2 HR1 HB1 HR HE
            go_wp2_with (first
              | (go_at_call 28; refine CA.mono ?_; rintro e w' ⟨rfl, rfl⟩)
              | (go_at_call 27; refine CS.mono ?_; rintro e w3 ⟨rfl, HB3⟩))
            go_ret
            exact ⟨rfl, ws, true, ⟨(HE2.out.below HB3.out).pr⟩, ⟨(HE2.out.below HB3.out).only⟩, ⟨fun _ => rfl⟩⟩
        · rcases hc with rfl | rfl
          all_goals
            go_wp2_with fail
            have CR := read_no b g n cap ws up t d wr ⟨HE.out.pr.p⟩ hn t0 t1 d0 d1 hk
            have CA := access_any br gr n capr up t d wr hn HE.out.pr.r.c0 HE.out.pr.r.c1 t0 t1 d0 d1
            generalize codeOf up n t d = z at *
            refine CR.mono ?_
            rintro e w' ⟨rfl, rfl⟩
            go_wp2_with (first
              | (go_at_call 28; refine CA.mono ?_; rintro e w' ⟨rfl, rfl⟩))
            go_ret
            exact ⟨rfl, ws, up, ⟨HE.out.pr⟩, ⟨HE.out.only⟩, ⟨fun _ => rfl⟩⟩
      · rcases code_cases up n t m with ⟨_, hup, f0, f1, f2⟩ | hk
        · obtain ⟨j, rfl⟩ : ∃ j : Nat, t = j := ⟨t.toNat, by omega⟩
          subst hup
          rcases hc with rfl | rfl
          all_goals
            go_wp2_with fail
            refine (write_ok b g n cap ws j ⟨gw, 0, none⟩ l m m wr ⟨HE.out.pr.p⟩ hn HR.out.len (by omega) (by omega) ⟨HR.out.lt⟩ ⟨fun i hi => by rw [add_zero_]; exact HR.out.cell hi⟩).mono ?_
            rintro e w2 ⟨rfl, HN2, HO2⟩
            have hgw : Lk (¬ Of b g br gr gw) := ⟨fun e => by have := HE.out.lt gw e; have := hG.out.1; omega⟩
            have HRN : Lk (RN w2 br gr n capr ws true) := ⟨HE.out.pr.left HO2.out⟩
            have HRW : Lk (Row w2 gw m m l) := ⟨HR.out.on (only_left (br := br) (gr := gr) HO2.out) hgw.out⟩
            have HO : Lk (Only (Of b g br gr) w0 w2) := ⟨HE.out.only.trans (only_left HO2.out)⟩
            have HD : Lk (b ≠ br ∧ b ≠ gr ∧ g ≠ br ∧ g ≠ gr) := ⟨HE.out.pr.d1, HE.out.pr.d2, HE.out.pr.d3, HE.out.pr.d4⟩
            have hwl : Lk (ws.length = n) := ⟨HE.out.pr.p.row.len⟩
            clear HE HR HO2
            have CA := access_any br gr n capr true j m w2 hn HRN.out.c0 HRN.out.c1 (by omega) (by omega) (by omega) (by omega)
            rw [code_ok (by omega) (by omega)] at CA
            go_wp2_with (first
              | (go_at_call 28; refine CA.mono ?_; rintro e w' ⟨rfl, rfl⟩))
            clear CA
            go_loopw [16] (fun i wv => ∃ kk : Nat, kk ≤ m ∧ i = .int .i64 kk ∧ Lk (PN wv b g n cap (putW ws j l) true) ∧ Lk (RN wv br gr n capr (putW ws j (l.take kk)) true) ∧ Lk (Row wv gw m m l) ∧ Lk (Only (Of b g br gr) w0 wv)) (fun i _ => m - (intOf i).toNat)
            case atStart => exact ⟨0, by omega, rfl, HN2, by rw [List.take_zero, putW_nil]; exact HRN, HRW, HO⟩
            case round =>
              clear HN2 HRN HRW HO
              obtain ⟨kk, hkk, rfl, HN2, HRN, HRW, HO⟩ := hrel
              by_cases hlt2 : kk < m
              · have hr0 := HRN.out.c0
                have hrj := HRN.out.row.cell (show j + kk < n by omega)
                have hrf := HRN.out.row.free (j + kk)
                have hwk := HRW.out.cell hlt2
                have hvl := getD_lt HRW.out.lt (show kk < l.length by have := HRW.out.len; omega)
                have HM : Lk ((putW ws j (l.take kk)).set (j + kk) (l.getD kk 0) = putW ws j (l.take (kk + 1))) := ⟨putW_more (by have := HRW.out.len; have := hwl.out; omega) (by have := HRW.out.len; omega)⟩
                generalize l.getD kk 0 = v at *
                generalize (putW ws j (l.take kk)).getD (j + kk) 0 = v0 at *
                have HS : Lk (Only (fun i => i = br ∨ i = gr) wr ((wr.setCell ⟨gr, j + kk, none⟩ (.int .u64 (v : Int))).drewN 1)) := ⟨(Only.setCell (S := fun i => i = br ∨ i = gr) (p := ⟨gr, j + kk, none⟩) (Only.refl _ wr) (.inl (.inr rfl)) _).drew 1⟩
                have HX : Lk (_ ∧ _ ∧ _ ∧ _) := ⟨HN2.out.on HS.out (fun e => e.elim HD.out.1 HD.out.2.1) (fun e => e.elim HD.out.2.2.1 HD.out.2.2.2), (HRN.out.set (j + kk) v hvl).drew 1, HRW.out.on HS.out (fun e => hgw.out (e.elim (fun e => .inr (.inr (.inl e))) (fun e => .inr (.inr (.inr e))))), HO.out.trans (only_right (b := b) (g := g) HS.out)⟩
                rw [HM.out] at HX
                clear HM HS
                go_wp2_with fail
                go_region
                go_wp2_with fail
                go_roundw
                case rel => exact ⟨kk + 1, by omega, by go_num, ⟨HX.out.1⟩, ⟨HX.out.2.1⟩, ⟨HX.out.2.2.1⟩, ⟨HX.out.2.2.2⟩⟩
                case measure => simp [intOf]; omega
              · obtain rfl : m = kk := by omega
                have HX : Lk (Pr wr b g cap br gr capr n (putW ws j l) true) := ⟨⟨HN2.out, by have := HRN.out; rwa [List.take_of_length_le (Nat.le_of_eq HRW.out.len)] at this, HD.out.1, HD.out.2.1, HD.out.2.2.1, HD.out.2.2.2⟩⟩
                go_wp2_with fail
                go_ret
                exact ⟨rfl, _, true, HX, HO, ⟨fun _ => rfl⟩⟩
        · rcases hc with rfl | rfl
          all_goals
            go_wp2_with fail
            have CR := write_no b g n cap ws up t (some ⟨gw, 0, none⟩) m m wr ⟨HE.out.pr.p⟩ hn t0 t1 (by omega) hk
            have CA := access_any br gr n capr up t m wr hn HE.out.pr.r.c0 HE.out.pr.r.c1 t0 t1 (by omega) (by omega)
            generalize codeOf up n t m = z at *
            refine CR.mono ?_
            rintro e w' ⟨rfl, rfl⟩
            go_wp2_with (first
              | (go_at_call 28; refine CA.mono ?_; rintro e w' ⟨rfl, rfl⟩))
            go_loop [16] (fun i => i = .int .i64 0) (fun _ => 0)
            case atStart => rfl
            case round =>
              obtain rfl := hrel
              go_wp2_with fail
              go_ret
              exact ⟨rfl, ws, up, ⟨HE.out.pr⟩, ⟨HE.out.only⟩, ⟨fun _ => rfl⟩⟩
      · rcases code_cases up n t 1 with ⟨_, hup, f0, f1, f2⟩ | hk
        · obtain ⟨j, rfl⟩ : ∃ j : Nat, t = j := ⟨t.toNat, by omega⟩
          subst hup
          have h0 := HE.out.k0
          have h1 := HE.out.k1
          have h2 := HE.out.k2
          have h3 := HE.out.k3
          have h4 := HE.out.k4
          rcases hc with rfl | rfl
          all_goals
            go_wp2_with fail
            refine (swap_ok b g cap br gr capr n ws k a c j x y wr _ ⟨rfl⟩ ⟨HE.out.pr⟩ hn (by omega) k0 k1 hx hy).mono ?_
            rintro e w2 ⟨rfl, HP2, HO2⟩
            go_wp2_with fail
            go_ret
            exact ⟨rfl, _, true, HP2, ⟨HE.out.only.trans HO2.out⟩, ⟨fun _ => rfl⟩⟩
        · have h0 := HE.out.k0
          have h1 := HE.out.k1
          have h2 := HE.out.k2
          have h3 := HE.out.k3
          have h4 := HE.out.k4
          rcases hc with rfl | rfl
          all_goals
            go_wp2_with fail
            refine (swap_no b g cap br gr capr n ws up k a c t x y wr ⟨HE.out.pr⟩ hn t0 t1 k0 k1 hx hy hk).mono ?_
            rintro e w2 ⟨rfl, HB2⟩
            go_wp2_with fail
            go_ret
            exact ⟨rfl, ws, up, ⟨(HE.out.below HB2.out).pr⟩, ⟨(HE.out.below HB2.out).only⟩, ⟨fun _ => rfl⟩⟩
      · subst hc
        go_wp2_with fail
        refine (fail_any b g n cap ws up wr ⟨HE.out.pr.p⟩).mono ?_
        rintro e w2 ⟨rfl, HN2, HO2⟩
        have HR2 : Lk (RN w2 br gr n capr ws up) := ⟨HE.out.pr.left (HO2.out.mono fun i e => .inl e)⟩
        have hf := HR2.out.f1 1
        have hu := HR2.out.c1
        have HX : Lk (Pr (w2.setCell ⟨br, 1, none⟩ (.bool false)) b g cap br gr capr n ws false ∧ Only (Of b g br gr) w0 (w2.setCell ⟨br, 1, none⟩ (.bool false))) := by
          have hk : Only (fun k => k = br ∨ k = gr) w2 (w2.setCell ⟨br, 1, none⟩ (.bool false)) := Only.setCell (S := fun k => k = br ∨ k = gr) (p := ⟨br, 1, none⟩) (Only.refl _ w2) (.inl (.inl rfl)) _
          exact ⟨HE.out.pr.again (HE.out.pr.right HN2.out hk) (HR2.out.setUp false), HE.out.only.trans ((HO2.out.mono fun i e => .inl e).trans (only_right hk))⟩
        go_wp2_with fail
        go_ret
        exact ⟨rfl, ws, false, ⟨HX.out.1⟩, ⟨HX.out.2⟩, ⟨fun h => by omega⟩⟩
      · rcases hc with rfl | rfl
        all_goals
          go_wp2_with fail
          refine (back_any b g n cap ws up wr ⟨HE.out.pr.p⟩ (by omega) hn).mono ?_
          rintro e w2 ⟨rfl, HN2, HO2⟩
          go_wp2_with fail
          refine (refBack_any br gr n capr ws up w2 ⟨HE.out.pr.left HO2.out⟩ (by omega)).mono ?_
          rintro e w3 ⟨rfl, HN3, HO3⟩
          have HX : Lk (Pr w3 b g cap br gr capr n _ _ ∧ Only (Of b g br gr) w0 w3) := ⟨HE.out.pr.again (HE.out.pr.right HN2.out HO3.out) HN3.out, HE.out.only.trans ((only_left HO2.out).trans (only_right HO3.out))⟩
          go_wp2_with fail
          go_ret
          exact ⟨ret_bool (by simp), _, _, ⟨HX.out.1⟩, ⟨HX.out.2⟩, ⟨fun h => by omega⟩⟩
      · subst hc
        have hp2 := pk_lt d 34 (by omega)
        go_wp2_with fail
        refine (pick_any d 34 wr (by omega) (by omega) d0 d1).mono ?_
        rintro e w' ⟨rfl, rfl⟩
        have hcp := fun wx => pick_any d 34 wx (by omega) (by omega) d0 d1
        generalize pk d 34 = v at *
        have HCP := Lib.hid hcp
        clear hcp
        go_wp2_with fail
        have HE1 : Lk (Ev w0 (wr.alloc (.cells #[.int .u64 (v : Int)] 35)) o k a c x y b g cap br gr capr n ws up) := ⟨HE.out.below ((Below.refl _ wr).alloc (Nat.le_refl _) _)⟩
        have hva : Lk ((wr.alloc (.cells #[.int .u64 (v : Int)] 35)).cell? ⟨wr.heap.size, 0, none⟩ = some (.int .u64 (v : Int))) := ⟨(cell_of_row _ wr.heap.size 0 _ _ _ (heap_alloc_new wr _)).trans rfl⟩
        generalize wr.alloc (.cells #[.int .u64 (v : Int)] 35) = W at *
        cases up with
        | true =>
          refine (write_ok b g n cap ws 1 ⟨wr.heap.size, 0, none⟩ [v] 1 1 W ⟨HE1.out.pr.p⟩ hn rfl (by omega) (by omega) ⟨fun z hz => by rw [List.mem_singleton] at hz; omega⟩ ⟨fun i hi => by
            have h0 : i = 0 := (by omega)
            subst h0
            exact hva.out⟩).mono ?_
          rintro e w2 ⟨rfl, HN2, HO2⟩
          have hlen := HE1.out.pr.p.row.len
          have e1 : putW ws 1 [v] = ws.set 1 v := by
            have := putW_more (ws := ws) (j := 1) (l := [v]) (k := 0) (by simp; omega) (by simp)
            simpa [putW_nil] using this.symm
          rw [e1] at HN2
          have HRN : Lk (RN w2 br gr n capr ws true) := ⟨HE1.out.pr.left HO2.out⟩
          have HO : Lk (Only (Of b g br gr) w0 w2) := ⟨HE1.out.only.trans (only_left HO2.out)⟩
          have HP1 : Lk (Pr W b g cap br gr capr n ws true) := ⟨HE1.out.pr⟩
          clear HE HE1 HR hva hlen e1 HO2
          have CA := access_any br gr n capr true 1 1 w2 hn HRN.out.c0 HRN.out.c1 (by omega) (by omega) (by omega) (by omega)
          rw [show codeOf true n 1 1 = 0 from code_ok (n := n) (j := 1) (m := 1) (by omega) (by omega)] at CA
          have hr0 := HRN.out.c0
          have hr1 := HRN.out.row.cell (show 1 < n by omega)
          have hrf := HRN.out.row.free 1
          have HS : Lk (Only (fun i => i = br ∨ i = gr) w2 ((w2.setCell ⟨gr, 1, none⟩ (.int .u64 (v : Int))).drewN 1)) := ⟨(Only.setCell (S := fun i => i = br ∨ i = gr) (p := ⟨gr, 1, none⟩) (Only.refl _ w2) (.inl (.inr rfl)) _).drew 1⟩
          have HX : Lk (_ ∧ _) := ⟨HP1.out.again (HP1.out.right HN2.out HS.out) ((HRN.out.set 1 v (by omega)).drew 1), HO.out.trans (only_right (b := b) (g := g) HS.out)⟩
          clear HS HP1 HO HN2 HRN
          generalize ws.getD 1 0 = v0 at *
          go_wp2_with (first
            | (go_at_call 28; refine CA.mono ?_; rintro e w' ⟨rfl, rfl⟩))
          go_region_with (first
            | (go_at_call 8; refine (HCP.out _).mono ?_; rintro e w' ⟨rfl, rfl⟩))
          all_goals go_wp2
          all_goals go_ret
          all_goals exact ⟨rfl, _, true, ⟨HX.out.1⟩, ⟨HX.out.2⟩, ⟨fun h => by omega⟩⟩
        | false =>
          have hk : codeOf false n 1 1 ≠ 0 := by
            rcases code_cases false n 1 1 with ⟨_, h, _⟩ | h
            · cases h
            · exact h
          have CR := write_no b g n cap ws false 1 (some ⟨wr.heap.size, 0, none⟩) 1 1 W ⟨HE1.out.pr.p⟩ hn (by omega) (by omega) (by omega) hk
          have CA := access_any br gr n capr false 1 1 W hn HE1.out.pr.r.c0 HE1.out.pr.r.c1 (by omega) (by omega) (by omega) (by omega)
          have hk2 : codeOf false n 1 ((1 : Nat) : Int) = codeOf false n 1 1 := rfl
          rw [hk2] at CR
          clear hk2
          generalize codeOf false n 1 1 = z at *
          refine CR.mono ?_
          rintro e w' ⟨rfl, rfl⟩
          go_wp2_with (first
            | (go_at_call 28; refine CA.mono ?_; rintro e w' ⟨rfl, rfl⟩))
          go_ret
          exact ⟨rfl, ws, false, ⟨HE1.out.pr⟩, ⟨HE1.out.only⟩, ⟨fun _ => rfl⟩⟩
end Go.Proofs.Ytgjchfhgpfogjaa.Nh

/-
  A log that is written over, word by word.
-/
import Derived.Test.YtdodigfojbijfaaRz
namespace Go.Proofs.Ytdodigfojbijfaa.Sa
open Go.ChangeShapes Go.WideShapes Go.ChangeAt Go.RowKit Ga Gb Ra Rb Rc Rd Re Rf Rg Rh Ri Rj Rk Rl Rm Rn Ro Rp Rr Rs Rt Ru Rw Rx Ry Rz Un
set_option maxRecDepth 10000
theorem whole_body {L : List Nat} {s : Int} {l : List Pg} {more : List Nat} (hl : L.length = 120) (hv : validR s l 200 = 0) (hd : L.drop 8 = bodyW s l ++ more) : wholeE L 200 = true ∧ wholeS L 200 = s ∧ wholeL L 200 = l := by
  have hv2 := valid_more hv
  have hp := parse_body hv2 more 200
  rw [if_pos (by decide), if_pos hv] at hp
  obtain ⟨_, e1, e2⟩ := unp_body hv2 more
  have hE : wholeE L 200 = true := by rw [wholeE, hd, hp, decide_eq_true hl]; rfl
  exact ⟨hE, by rw [wholeS, if_pos hE, hd, e1], by rw [wholeL, if_pos hE, hd, e2]⟩
theorem log_committed {s : Int} {l : List Pg} {mk rest : Nat} (hv : validR s l 200 = 0) (hb : (bodyW s l).length ≤ 112) (hm : (mk : Int) = Wb.markV s) :
    commE (logW mk rest (bodyW s l)) 200 = true ∧ commS (logW mk rest (bodyW s l)) 200 = s ∧ commL (logW mk rest (bodyW s l)) 200 = l := by
  obtain ⟨h1, h2, h3⟩ := whole_body (logW_len mk rest (bodyW s l)) hv (logW_drop mk rest _ hb)
  have hE : commE (logW mk rest (bodyW s l)) 200 = true := by rw [commE, h1, h2, logW_zero, hm]; simp
  exact ⟨hE, by rw [commS, if_pos hE, h2], by rw [commL, if_pos hE, h3]⟩
theorem not_committed {L : List Nat} {sR sS : Int} {mk : Nat} (h0 : wd L 0 = mk) (hm : (mk : Int) = Wb.markV sR) (hr : 1 ≤ sR ∧ sR ≤ 1001) (hs : 1 ≤ sS ∧ sS ≤ 1001) (hne : sS ≠ sR) (hw : wd (L.drop 8) 0 = sS.toNat) :
    commE L 200 = false := by
  cases hE : commE L 200
  · rfl
  · exfalso
    rw [commE, Bool.and_eq_true, beq_iff_eq, h0, hm] at hE
    have h2 := hE.2
    have hS : wholeS L 200 = sS ∨ wholeS L 200 = 0 := by
      rw [wholeS, if_pos hE.1, unpS, hw, i64w_small (x := sS.toNat) (by omega)]
      split
      · left; omega
      · exact .inr rfl
    unfold Wb.markV at h2
    rw [if_pos (by omega)] at h2
    rcases hS with e | e
    · rw [e, if_pos (by omega)] at h2; omega
    · rw [e, if_neg (by omega)] at h2; omega
def tornF (mk : Nat) (bR bS : List Nat) (n : Nat) : Nat → Nat := fun j => if 8 ≤ j ∧ j < 8 + n then bS.getD (j - 8) 0 else logF mk 0 bR j
theorem torn_start (mk : Nat) (bR bS : List Nat) : logW mk 0 bR = mp (tornF mk bR bS 0) := mp_congr fun j _ => by
  unfold tornF
  rw [if_neg (by omega)]
theorem torn_step (mk : Nat) (bR bS : List Nat) (k : Nat) : (mp (tornF mk bR bS k)).set (8 + k) (bS.getD k 0) = mp (tornF mk bR bS (k + 1)) := by
  rw [mp_set]
  refine mp_congr fun j _ => ?_
  unfold tornF
  by_cases e : j = 8 + k
  · rw [if_pos e, if_pos (by omega), e, Nat.add_sub_cancel_left]
  · rw [if_neg e]
    by_cases q : 8 ≤ j ∧ j < 8 + k
    · rw [if_pos q, if_pos (by omega)]
    · rw [if_neg q, if_neg (show ¬ (8 ≤ j ∧ j < 8 + (k + 1)) by omega)]
theorem torn_zero (mk : Nat) (bR bS : List Nat) (n : Nat) : wd (mp (tornF mk bR bS n)) 0 = mk := by
  refine (mp_get _ (by decide)).trans ?_
  unfold tornF logF
  rw [if_neg (by omega), if_pos rfl]
theorem torn_head (mk : Nat) (bR bS : List Nat) (n : Nat) (h : 1 ≤ n) : wd ((mp (tornF mk bR bS n)).drop 8) 0 = wd bS 0 := by
  have h1 : wd ((mp (tornF mk bR bS n)).drop 8) 0 = (mp (tornF mk bR bS n)).getD 8 0 := by
    unfold wd
    rw [List.getD_eq_getElem?_getD, List.getElem?_drop, List.getD_eq_getElem?_getD]
  rw [h1, mp_get _ (by decide)]
  unfold tornF
  rw [if_pos (by omega)]
  rfl
theorem torn_end (mk : Nat) (bR bS : List Nat) (h : bS.length ≤ 112) : (mp (tornF mk bR bS bS.length)).drop 8 = bS ++ (mp (tornF mk bR bS bS.length)).drop (8 + bS.length) := by
  have e : (mp (tornF mk bR bS bS.length)).drop (8 + bS.length) = ((mp (tornF mk bR bS bS.length)).drop 8).drop bS.length := by rw [List.drop_drop]
  have ht : ((mp (tornF mk bR bS bS.length)).drop 8).take bS.length = bS := by
    apply List.ext_getElem
    · rw [List.length_take, List.length_drop, mp_len]; omega
    · intro j h1 h2
      simp only [mp, List.getElem_take, List.getElem_drop, List.getElem_map, List.getElem_range]
      unfold tornF
      rw [if_pos (by omega), show 8 + j - 8 = j by omega, List.getD_eq_getElem?_getD, List.getElem?_eq_getElem h2]
      rfl
  rw [e]
  conv => lhs; rw [← List.take_append_drop bS.length ((mp (tornF mk bR bS bS.length)).drop 8)]
  rw [ht]
theorem body_head {s : Int} {l : List Pg} (hv : validR s l 256 = 0) : wd (bodyW s l) 0 = s.toNat := by
  obtain ⟨_, h2, _⟩ := unp_body hv []
  rfl
theorem isrow_on {w W : World} {A : Option Addr} {len cap : Nat} {zs : List Int} (h : IsRow .i64 w A len cap zs) (hb : Below w.heap.size w W) : IsRow .i64 W A len cap zs := by
  rcases h with h | ⟨x, h1, h2, h3, h4, h5, h6⟩
  · exact .inl h
  · exact .inr ⟨x, h1, h2, h3, h4, fun i hi => (hb.cell (block_lt_of_cell (h5 i hi))).trans (h5 i hi), h6⟩
/-- Pages below a cell that is written. -/
theorem pt_one {W0 w4 : World} {B g j : Nat} {v : Value} {l : List Pg} (x : Value) (h : Pt W0 B w4 v l) (hlt : ∀ k, v.ownBlock = some k → k < g) (h0 : W0.heap.size ≤ g) : Pt W0 B (w4.setCell ⟨g, j, none⟩ x) v l :=
  ⟨owns_block h.own (fun k hk => Below.heap_setCell _ _ _ k (by have := hlt k hk; show k ≠ g; omega)), h.below.setCell (p := ⟨g, j, none⟩) h0 _⟩
/-- Pages as a call goes on that writes one block alone, behind them. -/
theorem pt_only {W0 w4 w5 : World} {B g : Nat} {v : Value} {l : List Pg} (h : Pt W0 B w4 v l) (ho : Only (fun i => i = g) w4 w5) (hlt : ∀ k, v.ownBlock = some k → k < g) (h0 : W0.heap.size ≤ g) : Pt W0 B w5 v l :=
  ⟨owns_block h.own (fun k hk => ho.block k (h.own.lt k hk).2 (by have := hlt k hk; show ¬ k = g; omega)), ho.below_on h.below (fun k hk => by rw [hk]; exact h0) h.below.size⟩
end Go.Proofs.Ytdodigfojbijfaa.Sa

/-
  Contract: the log that the tests make (Log of the hand).
-/
import Derived.Test.YtdodigfojbijfaaRy
namespace Go.Proofs.Ytdodigfojbijfaa.Rz
open Go.ChangeShapes Go.WideShapes Go.ChangeAt Go.RowKit Ga Gb Ra Rb Rc Rd Re Rf Rg Rh Ri Rj Rk Rl Rm Rn Ro Rp Rr Rs Rt Ru Rx Ry Un
set_option linter.unusedVariables false
set_option linter.unusedSimpArgs false
set_option maxRecDepth 10000
set_option maxHeartbeats 1000000

/-- 120 words, told by their places. -/
def mp (f : Nat → Nat) : List Nat := (List.range 120).map f
theorem mp_len (f : Nat → Nat) : (mp f).length = 120 := by simp [mp]
theorem mp_get (f : Nat → Nat) {j : Nat} (h : j < 120) : (mp f).getD j 0 = f j := by
  rw [List.getD_eq_getElem?_getD, mp, List.getElem?_map, List.getElem?_range h]; rfl
theorem mp_congr {f g : Nat → Nat} (h : ∀ j, j < 120 → f j = g j) : mp f = mp g := List.map_congr_left (fun j hj => h j (List.mem_range.1 hj))
theorem mp_set (f : Nat → Nat) (k x : Nat) : (mp f).set k x = mp (fun j => if j = k then x else f j) := by
  apply List.ext_getElem
  · simp [mp]
  · intro j h1 h2
    simp only [mp, List.getElem_set, List.getElem_map, List.getElem_range]
    by_cases h : k = j
    · rw [if_pos h, if_pos h.symm]
    · rw [if_neg h, if_neg (fun e => h e.symm)]
theorem mp_zero : List.replicate 120 0 = mp (fun _ => 0) := by
  apply List.ext_getElem
  · simp [mp]
  · intro j h1 h2
    simp only [mp, List.getElem_replicate, List.getElem_map]
def fillF (rest J : Nat) : Nat → Nat := fun j => if 8 ≤ j ∧ j < J then rest else 0
def copyF (rest : Nat) (bd : List Nat) (k : Nat) : Nat → Nat := fun j => if 8 ≤ j ∧ j < 8 + k then bd.getD (j - 8) 0 else if 8 ≤ j then rest else 0
def logF (mark rest : Nat) (bd : List Nat) : Nat → Nat := fun j => if j = 0 then mark else if j < 8 then 0 else if j < 8 + bd.length then bd.getD (j - 8) 0 else rest
def logW (mark rest : Nat) (bd : List Nat) : List Nat := mp (logF mark rest bd)
theorem fill_start (rest : Nat) : mp (fun _ => 0) = mp (fillF rest 8) := mp_congr fun j _ => by
  unfold fillF
  rw [if_neg (by omega)]
theorem fill_step (rest J : Nat) (h : 8 ≤ J) : (mp (fillF rest J)).set J rest = mp (fillF rest (J + 1)) := by
  rw [mp_set]
  refine mp_congr fun j _ => ?_
  unfold fillF
  by_cases e : j = J
  · rw [if_pos e, if_pos (by omega)]
  · rw [if_neg e]
    by_cases q : 8 ≤ j ∧ j < J
    · rw [if_pos q, if_pos (by omega)]
    · rw [if_neg q, if_neg (by omega)]
theorem copy_start (rest : Nat) (bd : List Nat) : mp (fillF rest 120) = mp (copyF rest bd 0) := mp_congr fun j h => by
  unfold fillF copyF
  rw [if_neg (show ¬ (8 ≤ j ∧ j < 8 + 0) by omega)]
  by_cases q : 8 ≤ j
  · rw [if_pos ⟨q, h⟩, if_pos q]
  · rw [if_neg (by omega), if_neg q]
theorem copy_step (rest : Nat) (bd : List Nat) (k : Nat) : (mp (copyF rest bd k)).set (8 + k) (bd.getD k 0) = mp (copyF rest bd (k + 1)) := by
  rw [mp_set]
  refine mp_congr fun j _ => ?_
  unfold copyF
  by_cases e : j = 8 + k
  · rw [if_pos e, if_pos (by omega), e, Nat.add_sub_cancel_left]
  · rw [if_neg e]
    by_cases q : 8 ≤ j ∧ j < 8 + k
    · rw [if_pos q, if_pos (by omega)]
    · rw [if_neg q, if_neg (show ¬ (8 ≤ j ∧ j < 8 + (k + 1)) by omega)]
theorem copy_end (mark rest : Nat) (bd : List Nat) : (mp (copyF rest bd bd.length)).set 0 mark = logW mark rest bd := by
  rw [mp_set, logW]
  refine mp_congr fun j _ => ?_
  unfold copyF logF
  by_cases e : j = 0
  · rw [if_pos e, if_pos e]
  · rw [if_neg e, if_neg e]
    by_cases q : j < 8
    · rw [if_neg (by omega), if_neg (by omega), if_pos q]
    · rw [if_neg q]
      by_cases r : j < 8 + bd.length
      · rw [if_pos ⟨by omega, r⟩, if_pos r]
      · rw [if_neg (by omega), if_neg r, if_pos (by omega)]
theorem logW_len (mark rest : Nat) (bd : List Nat) : (logW mark rest bd).length = 120 := mp_len _
theorem logW_zero (mark rest : Nat) (bd : List Nat) : wd (logW mark rest bd) 0 = mark := (mp_get _ (by decide)).trans (if_pos rfl)
theorem logW_drop (mark rest : Nat) (bd : List Nat) (h : bd.length ≤ 112) : (logW mark rest bd).drop 8 = bd ++ List.replicate (112 - bd.length) rest := by
  apply List.ext_getElem
  · rw [List.length_drop, logW_len, List.length_append, List.length_replicate]; omega
  · intro j h1 h2
    rw [List.length_drop, logW_len] at h1
    simp only [logW, mp, List.getElem_drop, List.getElem_map, List.getElem_range]
    unfold logF
    rw [if_neg (by omega), if_neg (by omega)]
    by_cases q : j < bd.length
    · rw [if_pos (by omega), List.getElem_append_left q, show 8 + j - 8 = j by omega, List.getD_eq_getElem?_getD, List.getElem?_eq_getElem q]
      rfl
    · rw [if_neg (by omega), List.getElem_append_right (by omega), List.getElem_replicate]
/-- A log under way: its row, and a box that stands before it. -/
structure Lw (w wr : World) (g : Nat) (o : Obj) (ws : List Nat) : Prop where
  row : Row wr g 120 120 ws
  below : Below w.heap.size w wr
  ge : w.heap.size < g
  box : wr.heap[w.heap.size]? = some o
theorem Lw.set {w wr : World} {g : Nat} {o : Obj} {ws : List Nat} (h : Lw w wr g o ws) (j x : Nat) (hx : x < 18446744073709551616) : Lw w (wr.setCell ⟨g, j, none⟩ (.int .u64 (x : Int))) g o (ws.set j x) :=
  ⟨h.row.set j x hx, h.below.setCell (p := ⟨g, j, none⟩) (Nat.le_of_lt h.ge) _, h.ge, (Below.heap_setCell wr ⟨g, j, none⟩ _ w.heap.size (Nat.ne_of_lt h.ge)).trans h.box⟩
theorem Lw.on {w wr W : World} {g : Nat} {o : Obj} {ws : List Nat} (h : Lw w wr g o ws) (hb : Below wr.heap.size wr W) : Lw w W g o ws :=
  ⟨h.row.on (Only.of_below (S := fun _ => False) hb) (fun e => e), btr h.below hb, h.ge, box_on h.box hb⟩
theorem log_any (s : Int) (A : Option Addr) (l : List Pg) (n c mark rest : Nat) (w : World) (hn : l.length = n) (hb : n ≤ 4294967296) (hw : Lk (PgsWf l)) (h1 : Lk (Pgs w w.heap.size A l)) (hT : (bodyX s l).length ≤ 112) (hmk : mark < 18446744073709551616) (hrs : rest < 18446744073709551616) :
    Calls Try.prog 24 #[rcv s A n c, .int .u64 (mark : Int), .int .u64 (rest : Int)] w fun e w' => ∃ g, e = .returned (.slice (some ⟨g, 0, none⟩) 120 120) ∧ Lk (w.heap.size < g) ∧ Lk (Below w.heap.size w w') ∧ Lk (Row w' g 120 120 (logW mark rest (bodyX s l))) := by
  obtain ⟨i0, hi, hz0, hz1, hz2⟩ := info_parts u64info
  have CB := Lk.mk (fun (W : World) (hB : Below w.heap.size w W) => refBody_any s A l n c W hn hb hw ⟨(h1.out.below hB).more hB.size⟩)
  have hbl : Lk (∀ (W wr : World) (v : Value), Wt W wr v (bodyX s l) → ∀ x ∈ bodyX s l, x < 18446744073709551616) := ⟨fun W wr v h => h.lt⟩
  unfold rcv at CB ⊢
  generalize bodyX s l = bd at *
  clear h1 hw hn
  have HB0 := Lk.mk (one_alloc w (.cells #[.int .i64 s, .slice A n c] 25))
  have HX0 := Lk.mk (heap_alloc_new w (.cells #[.int .i64 s, .slice A n c] 25))
  go_enter Try.func24, Try.ntmps24
  go_upto_region 1 with fail
  have hsz : (w.alloc (.cells #[.int .i64 s, .slice A n c] 25)).heap.size = w.heap.size + 1 := by simp
  have HSZ := Lk.mk hsz
  clear hsz
  generalize w.alloc _ = W0 at *
  go_wp2_with (first
    | (at_make; refine wpList_make_full _ rfl _ _ 41 rfl W0.heap.size 28 i0 (.int .u64 0) 1 Try.underlying41 hi hz0 hz1 .i64 .i64 _ _ 120 rfl rfl (by first | rfl | decide) (by first | rfl | decide) ?b2 ?b3 (Nat.le_refl _) ?_))
  case b2 => rw [hz2]; omega
  case b3 => unfold maxLen; omega
  intro w1 hown hgrow
  obtain ⟨g, hg⟩ : ∃ g, W0.heap.size = g := ⟨_, rfl⟩
  have HF : Lk (Lw w w1 W0.heap.size (.cells #[.int .i64 s, .slice A n c] 25 (0, 0)) (mp (fillF rest 8))) := by
    rw [← fill_start rest, ← mp_zero]
    exact ⟨⟨Row.made (by simpa [Value.cells] using hown), btr HB0.out (below_none hgrow), by have := HSZ.out; omega, box_on HX0.out (below_none hgrow)⟩⟩
  rw [hg] at HF
  simp only [hg]
  clear hown hgrow hi hz0 hz1 hz2 hg HB0 HX0 HSZ
  go_wp2_with fail
  go_loopw [8] (fun s8 wr => ∃ J : Nat, 8 ≤ J ∧ J ≤ 120 ∧ s8 = .int .i64 J ∧ Lk (Lw w wr g (.cells #[.int .i64 s, .slice A n c] 25 (0, 0)) (mp (fillF rest J)))) (fun i _ => 120 - (intOf i).toNat)
  case atStart => exact ⟨8, by omega, by omega, rfl, HF⟩
  case round =>
    clear HF
    obtain ⟨J, hJ1, hJ2, rfl, HF⟩ := hrel
    by_cases hlt : J < 120
    · have hlti : (J : Int) < 120 := by omega
      have hc := HF.out.row.cell (j := J) hlt
      have hf := HF.out.row.free J
      have HF1 := Lk.mk (HF.out.set J rest hrs)
      rw [fill_step rest J hJ1] at HF1
      have hJw : IntKind.i64.wrap ((J : Int) + 1) = (J : Int) + 1 := by rw [IntKind.wrap_i64]; omega
      go_wp2_with fail
      go_roundw
      case rel => exact ⟨J + 1, by omega, by omega, (by first | rfl | go_num), HF1⟩
      case measure => simp [intOf] <;> omega
    · obtain rfl : J = 120 := by omega
      rw [copy_start rest bd] at HF
      obtain ⟨b0, b1, _, _⟩ := two_cells HF.out.box
      obtain ⟨T, hTT⟩ : ∃ T, bd.length = T := ⟨_, rfl⟩
      rw [hTT] at hT
      have HT := Lk.mk hTT
      clear hTT hlt hJ1 hJ2
      obtain ⟨wo, rfl⟩ : ∃ wo : World, wo = wr := ⟨_, rfl⟩
      go_wp2_with (first
        | (go_at_call 19; refine (CB.out _ HF.out.below).mono ?_; rintro e w2 ⟨v2, rfl, HW⟩; have HFm := HW.out.form; have HO := Lk.mk HW.out.own; have hlt2 := Lk.mk HW.out.lt; have HF2 := Lk.mk (HF.out.on HW.out.below); rw [HT.out] at HFm; obtain ⟨A9, c9, rfl, hc9, hc9', hL9⟩ := HFm))
      have HL9 := Lk.mk hL9
      have hg9 : Lk (g < wo.heap.size) := ⟨HF.out.row.size⟩
      have HOn : Lk (Only (fun i => i = g) w2 w2) := ⟨Only.refl _ _⟩
      clear b0 b1 hL9 HW HF CB hbl
      go_loopw [10] (fun s10 wr => ∃ k : Nat, k ≤ T ∧ s10 = .int .i64 k ∧ Lk (Lw w wr g (.cells #[.int .i64 s, .slice A n c] 25 (0, 0)) (mp (copyF rest bd k))) ∧ Lk (Only (fun i => i = g) w2 wr)) (fun i _ => T - (intOf i).toNat)
      case atStart => exact ⟨0, by omega, rfl, HF2, HOn⟩
      case round =>
        clear HF2 HOn
        obtain ⟨k, hk, rfl, HF, HOn⟩ := hrel
        by_cases hkt : k < T
        · have hkti : (k : Int) < T := by omega
          obtain ⟨ad, rfl, hb1, hc1⟩ := HL9.out.at_ (show k < bd.length by have := HT.out; omega)
          have hne : ad.block ≠ g := by have h1 := (HO.out.lt _ rfl).1; have h2 := hg9.out; omega
          have d1 := (show wr.cell? (ad.add k) = w2.cell? (ad.add k) from World.cell?_of_block (by rw [block_of_add]; exact HOn.out.block ad.block hb1 hne)).trans hc1
          have hxl := getD_lt hlt2.out (k := k) (by rw [HT.out]; exact hkt)
          have hcs := copy_step rest bd k
          generalize bd.getD k 0 = x at *
          obtain ⟨J, hJ⟩ : ∃ J, 8 + k = J := ⟨_, rfl⟩
          rw [hJ] at hcs
          have hJb : J < 120 := by omega
          have hJi : (J : Int) < 120 := by omega
          have hJw : IntKind.i64.wrap (8 + (k : Int)) = (J : Int) := by rw [IntKind.wrap_i64]; omega
          have hkw : IntKind.i64.wrap ((k : Int) + 1) = (k : Int) + 1 := by rw [IntKind.wrap_i64]; omega
          have hc := HF.out.row.cell (j := J) hJb
          have hf := HF.out.row.free J
          have HF1 := Lk.mk (HF.out.set J x hxl)
          rw [hcs] at HF1
          have HOn1 := Lk.mk (HOn.out.setCell (p := ⟨g, J, none⟩) (.inl rfl) (.int .u64 (x : Int)))
          clear hne hc1 hcs HF HOn hJ
          go_wp2_with fail
          go_roundw
          case rel => exact ⟨k + 1, by omega, (by first | rfl | go_num), HF1, HOn1⟩
          case measure => simp [intOf] <;> omega
        · obtain rfl : k = T := by omega
          have hc := HF.out.row.cell (j := 0) (by decide)
          have hf := HF.out.row.free 0
          have HF1 := Lk.mk (HF.out.set 0 mark hmk)
          have hce := copy_end mark rest bd
          rw [HT.out] at hce
          rw [hce] at HF1
          clear hce HF HOn
          go_wp2_with fail
          go_ret
          exact ⟨g, rfl, ⟨HF1.out.ge⟩, ⟨HF1.out.below⟩, ⟨HF1.out.row⟩⟩
end Go.Proofs.Ytdodigfojbijfaa.Rz

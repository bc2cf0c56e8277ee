/-
  Contracts of the reference's word and Load.
-/
import Derived.Test.YtgjchfhgpfogjaaNy
import Derived.Test.YtgjchfhgpfogjaaNu
import Derived.Lib.EndianBits
import Derived.Laws.ResultCell
namespace Go.Proofs.Ytgjchfhgpfogjaa.Nz
open Go.ChangeShapes Go.WideShapes Go.ChangeAt Go.RowKit Ga Ma Ca Cb Cc Cd Ce Na Nb Nc Nd_ Nf Ng Nh Np Nq Nr Ns Nt Nv Nx Ny Nu
set_option linter.unusedVariables false
set_option linter.unusedSimpArgs false

theorem num_snoc (l : List Nat) (x : Nat) : num (l ++ [x]) = num l + 256 ^ l.length * x := by
  induction l with
  | nil => simp [num]
  | cons y l ih =>
    rw [List.cons_append, num, ih, num, List.length_cons, Nat.pow_succ, Nat.mul_add, ← Nat.mul_assoc, Nat.mul_comm 256 (256 ^ l.length)]
    omega
theorem or_shift (k v x : Nat) (hk : k < 8) (hv : v < 256 ^ k) (hx : x < 256) : bits .or .u64 (v : Int) (IntKind.u64.wrap ((x : Int) * 2 ^ (8 * k))) = ((v + 256 ^ k * x : Nat) : Int) := by
  have e : (256 : Nat) ^ k = 2 ^ (8 * k) := by rw [show (256 : Nat) = 2 ^ 8 by decide, ← Nat.pow_mul]
  rw [e] at hv ⊢
  have h1 : 2 ^ (8 * k) ≤ 2 ^ 56 := Nat.pow_le_pow_right (by decide) (by omega)
  have hb : x * 2 ^ (8 * k) < 18446744073709551616 := by
    have h2 : x * 2 ^ (8 * k) ≤ 255 * 2 ^ (8 * k) := Nat.mul_le_mul_right _ (by omega)
    have h3 : (2 : Nat) ^ 56 = 72057594037927936 := by decide
    omega
  have hv2 : v < 18446744073709551616 := by
    have h3 : (2 : Nat) ^ 56 = 72057594037927936 := by decide
    omega
  have hc : ((x : Int) * 2 ^ (8 * k)) = ((x * 2 ^ (8 * k) : Nat) : Int) := by simp
  rw [hc, IntKind.wrap_u64, Int.emod_eq_of_lt (by omega) (by omega)]
  rw [bits_join_low .u64 64 (by decide) (fun n h₀ h₁ => by rw [IntKind.wrap_u64]; omega) (8 * k) (v : Int) _ (by omega) (by exact_mod_cast hv) (by omega) (by omega) (by
    have : (x * 2 ^ (8 * k)) % 2 ^ (8 * k) = 0 := Nat.mul_mod_left _ _
    exact_mod_cast this) (by omega)]
  rw [Nat.mul_comm (2 ^ (8 * k)) x]
  omega
set_option maxRecDepth 100000 in
theorem word_any (b off n c : Nat) (l : List Nat) (w : World) (hl : l.length = 8) (hn : 8 ≤ n) (hlb : Lk (∀ x ∈ l, x < 256)) (HC : Lk (∀ j, j < 8 → w.cell? ⟨b, off + j, none⟩ = some (.int .u8 ((l.getD j 0 : Nat) : Int)))) :
    Calls Try.prog 41 #[.slice (some ⟨b, off, none⟩) n c] w fun e w' => e = .returned (.int .u64 (num l : Nat)) ∧ w = w' := by
  have HLn : Lk (l.length = 8) := ⟨hl⟩
  clear hl
  go_enter Try.func41, Try.ntmps41
  go_wp2
  go_loop [3, 4] (fun s3 s4 => ∃ k : Nat, k ≤ 8 ∧ s4 = .int .i64 k ∧ s3 = .int .u64 ((num (l.take k) : Nat) : Int)) (fun _ i => 8 - (intOf i).toNat)
  case atStart => exact ⟨0, by decide, rfl, by simp [num]⟩
  case round =>
    obtain ⟨k, hk, rfl, rfl⟩ := hrel
    by_cases hlt : k < 8
    · have hcell := HC.out k hlt
      have hx := getD_lt hlb.out (show k < l.length by have := HLn.out; omega)
      have HT : Lk (num (l.take (k + 1)) = num (l.take k) + 256 ^ k * l.getD k 0) := ⟨by
        rw [take_snoc l k (by have := HLn.out; omega), num_snoc, List.length_take, Nat.min_eq_left (by have := HLn.out; omega)]⟩
      have HV : Lk (num (l.take k) < 256 ^ k) := ⟨by
        have := num_bound (l.take k) (take_lt hlb.out k)
        rwa [List.length_take, Nat.min_eq_left (by have := HLn.out; omega)] at this⟩
      generalize l.getD k 0 = x at *
      generalize num (l.take k) = v at *
      have HR : Lk (bits .or .u64 (v : Int) (IntKind.u64.wrap ((x : Int) * 2 ^ (8 * k))) = ((num (l.take (k + 1)) : Nat) : Int)) := ⟨by rw [HT.out]; exact or_shift k v x hlt HV.out hx⟩
      go_wp2
      go_round
      case rel => exact ⟨k + 1, by omega, by go_num, by rw [HR.out]⟩
      case measure => simp [intOf]; omega
    · obtain rfl : k = 8 := by omega
      go_wp2
      go_ret
      refine ⟨ret_int ?_, rfl⟩
      rw [List.take_of_length_le (Nat.le_of_eq HLn.out)]

theorem str_beq {a b : List Nat} (ha : ∀ x ∈ a, x < 256) (hb : ∀ x ∈ b, x < 256) : ((str a).toList == (str b).toList) = decide (a = b) := by
  by_cases h : a = b
  · subst h; simp
  · have : ¬ (str a).toList = (str b).toList := fun e => h (str_inj ha hb (by
      have e2 : (str a).data.toList = (str b).data.toList := by
        have h1 := Go.Lib.strOfNums_toList (a.map fun x : Nat => (x : Int))
        have h2 := Go.Lib.strOfNums_toList (b.map fun x : Nat => (x : Int))
        have h3 := strOfNums_data (a.map fun x : Nat => (x : Int))
        have h4 := strOfNums_data (b.map fun x : Nat => (x : Int))
        unfold str at e ⊢
        rw [h3, h4]
        rw [h1, h2] at e
        exact e
      cases ha' : str a with
      | mk x => cases hb' : str b with
        | mk y =>
          rw [ha', hb'] at e2
          congr
          exact Array.toList_inj.1 e2))
    simp [h, this]
theorem lies_other {kd : IntKind} {w : World} {B : Nat} {A : Option Addr} {l : List Nat} (h : Lies kd w B A l) (g j : Nat) (v : Value) (hne : ∀ ad, A = some ad → ad.block ≠ g) : Lies kd (w.setCell ⟨g, j, none⟩ v) B A l := fun hp => by
  obtain ⟨ad, e, hb, hc⟩ := h hp
  refine ⟨ad, e, hb, fun i hi => ?_⟩
  rw [World.cell?_of_block (w := w) (Below.heap_setCell w ⟨g, j, none⟩ v _ (by rw [block_of_add]; exact hne ad e))]
  exact hc i hi
theorem slice_tail (b o n c lo : Nat) (w : World) (h1 : lo < n) (h2 : n ≤ c) :
    (Instr.sliceAt 41 (.slice (some ⟨b, o, none⟩) n c) (some (.int .i64 (lo : Int))) none none).run Try.prog w = .ok (.slice (some ⟨b, o + lo, none⟩) (n - lo) (c - lo)) w := by
  rw [run_sliceAt_slice _ _ _ _ _ _ under_bytes, run_slice_l _ _ _ _ _ under_bytes _ _ (by omega) (by omega), size_byte]
  have e : (if c = lo then (some ⟨b, o, none⟩ : Option Addr) else (some (⟨b, o, none⟩ : Addr)).map (·.add (lo * 1))) = some ⟨b, o + lo, none⟩ := by
    rw [if_neg (by omega)]
    simp [add_at]
  simp only [Result.andThen, sliced, e, Int.toNat_natCast]
/-- What the reference's Load hands back for these bytes. -/
def RefPost (l : List Nat) (w : World) (e : Ending) (w' : World) : Prop :=
  Lk (Below w.heap.size w w') ∧ ((∃ (ws : List Nat) (up : Bool) (L g : Nat), Is l ws up L ∧ e = .returned (.tuple #[.agg #[.slice (some ⟨g, 0, none⟩) (8 * L) (8 * L), .bool up], .bool true]) ∧ Lk (w.heap.size ≤ g) ∧ Lk (Row w' g (8 * L) (8 * L) ws)) ∨
    (¬ Nv.Good l ∧ ∃ (A : Option Addr) (m c : Nat) (u : Bool), e = .returned (.tuple #[.agg #[.slice A m c, .bool u], .bool false])))
theorem two_under : Try.prog.underlying 31 = some (.struct (match Try.prog.underlying 31 with | some (.struct fs) => fs | _ => #[])) := by kernel_rfl
theorem results_two {fn : Func} {p u : Tmp} (h : fn.results = #[.cell p 31, .tmp u]) (tmps : Array Value) (w : World) (g : Nat) (cs : Array Value) (hcs : cs.size = 2) (hp : tmps.getD p undef = .pointer (some ⟨g, 0, none⟩)) (hg : w.heap[g]? = some (.cells cs 31 (0, 0))) :
    (results fn tmps).run Try.prog w = .ok (.tuple #[.agg cs, tmps.getD u undef]) w := by
  rw [results_cell_tmp h, hp]
  have hi : (Try.prog.info? 31).map (·.size) = some cs.size := by rw [hcs]; kernel_rfl
  have hl := run_loadVar_row (P := Try.prog) w g 31 31 cs (0, 0) _ hg two_under rfl hi
  simp [asAddr, hl, Result.andThen]
theorem row_two {w w5 : World} {g0 gr n m : Nat} {ws : List Nat} {up : Bool} (hz : w5.heap[g0]? = some (.cells #[.slice none 0 0, .bool false] 31 (0, 0))) (hr : Row w5 gr n m ws) (hne : gr ≠ g0) (hb : Below w.heap.size w w5) (hg : w.heap.size ≤ g0) :
    Lk (((w5.setCell ⟨g0, 0, none⟩ (.slice (some ⟨gr, 0, none⟩) n m)).setCell ⟨g0, 1, none⟩ (.bool up)).heap[g0]? = some (.cells #[.slice (some ⟨gr, 0, none⟩) n m, .bool up] 31 (0, 0)) ∧
      Row ((w5.setCell ⟨g0, 0, none⟩ (.slice (some ⟨gr, 0, none⟩) n m)).setCell ⟨g0, 1, none⟩ (.bool up)) gr n m ws ∧
      Below w.heap.size w ((w5.setCell ⟨g0, 0, none⟩ (.slice (some ⟨gr, 0, none⟩) n m)).setCell ⟨g0, 1, none⟩ (.bool up))) :=
  ⟨heap_setCell_same _ g0 1 _ _ _ (heap_setCell_same w5 g0 0 _ _ _ hz), hr.keep ((Below.heap_setCell _ ⟨g0, 1, none⟩ _ gr hne).trans (Below.heap_setCell _ ⟨g0, 0, none⟩ _ gr hne)),
    (hb.setCell (p := ⟨g0, 0, none⟩) hg _).setCell (p := ⟨g0, 1, none⟩) hg _⟩
set_option maxRecDepth 100000 in
set_option maxHeartbeats 4000000 in
theorem refLoad_any (A : Option Addr) (l : List Nat) (n c : Nat) (w : World) (hn : l.length = n) (hnc : n ≤ c) (h5 : n ≤ 4000) (hlb : Lk (∀ x ∈ l, x < 256)) (HL : Lk (Lies .u8 w w.heap.size A l)) :
    Calls Try.prog 20 #[.slice A n c] w (RefPost l w) := by
  have HN : Lk (l.length = n) := ⟨hn⟩
  have HG : Lk (∀ ws up L, Is l ws up L → n = 15 + 64 * L ∧ 1 ≤ L ∧ L ≤ 256) := ⟨fun ws up L h => ⟨by have := h.lines.2.2; omega, h.pos, h.most⟩⟩
  clear hn
  by_cases hok : 79 ≤ n ∧ (n - 15) % 64 = 0
  · obtain ⟨L, hL⟩ : ∃ L, n = 15 + 64 * L := ⟨(n - 15) / 64, by omega⟩
    subst hL
    have hL1 : 1 ≤ L := by omega
    have hL62 : L ≤ 62 := by omega
    obtain ⟨⟨b, o, s⟩, rfl, hbl, hc⟩ := HL.out (by have := HN.out; omega)
    obtain rfl : s = none := by simpa [Addr.add] using World.cell?_spot (hc 0 (by have := HN.out; omega))
    have HC : Lk (∀ j, j < 15 + 64 * L → w.cell? ⟨b, o + j, none⟩ = some (.int .u8 ((l.getD j 0 : Nat) : Int))) := ⟨fun j hj => by have := hc j (by have := HN.out; omega); rwa [add_at] at this⟩
    have hb : b < w.heap.size := hbl
    clear hc hbl
    have hz0 : w.heap.size < (w.alloc (.cells #[.slice none 0 0, .bool false] 31)).heap.size := by simp
    have HZ0 := Lib.hid (heap_alloc_new w (.cells #[.slice none 0 0, .bool false] 31))
    have HB0 : Lk (Below w.heap.size w (w.alloc (.cells #[.slice none 0 0, .bool false] 31))) := ⟨(Below.refl _ w).alloc (Nat.le_refl _) _⟩
    obtain ⟨g0, hg0⟩ : ∃ g0, Lk (w.heap.size = g0) := ⟨_, ⟨rfl⟩⟩
    go_enter Try.func20, Try.ntmps20
    go_wp2_with fail
    generalize hW : w.alloc (.cells #[.slice none 0 0, .bool false] 31) = W at *
    clear hW
    rw [hg0.out] at hz0 HZ0 ⊢
    rw [show ((15 + 64 * (L : Int) - 15) / 64) = L by omega]
    refine (refNew_any L W hL1 (by omega)).mono ?_
    rintro e w2 ⟨gr, rfl, HG2, HR2, HB2⟩
    have HX : Lk (RN (w2.alloc (.cells #[.slice (some ⟨gr, 0, none⟩) (8 * L) (8 * L), .bool true] 31)) w2.heap.size gr (8 * L) (8 * L) (List.replicate (8 * L) 0) true) := ⟨box_node HR2.out⟩
    have HB3 : Lk (Below W.heap.size W (w2.alloc (.cells #[.slice (some ⟨gr, 0, none⟩) (8 * L) (8 * L), .bool true] 31))) := ⟨HB2.out.alloc HB2.out.size _⟩
    have HO : Lk (g0 < w2.heap.size ∧ g0 < gr ∧ W.heap.size ≤ w2.heap.size ∧ W.heap.size ≤ gr) := ⟨by have h1 := HB2.out.size; have h2 := HG2.out; omega⟩
    clear HR2 HB2 HG2
    obtain ⟨N, hN⟩ : ∃ N, 8 * L = N := ⟨_, rfl⟩
    rw [hN] at HX HB3
    have HNL : Lk (8 * L = N) := ⟨hN⟩
    have hN8 : 8 ≤ N := by omega
    have hN2 : N ≤ 512 := by omega
    have h6 := (HB3.out.cell (p := ⟨b, o + 6, none⟩) (Nat.lt_of_lt_of_le hb HB0.out.size)).trans ((HB0.out.cell (p := ⟨b, o + 6, none⟩) hb).trans (HC.out 6 (by omega)))
    clear hN
    go_upto_region 4 with fail
    rw [HNL.out]
    generalize hV : w2.alloc (.cells #[.slice (some ⟨gr, 0, none⟩) N N, .bool true] 31) = V at *
    clear hV
    generalize w2.heap.size = br at *
    have hx6 := getD_lt hlb.out (show 6 < l.length by have := HN.out; omega)
    have H6 : Lk (∀ ws up L, Is l ws up L → l.getD 6 0 = upB up) := ⟨fun ws up L h => h.lines.2.1⟩
    generalize l.getD 6 0 = x6 at *
    have hu := HX.out.c1
    have hf := HX.out.f1 1
    obtain ⟨up, hup⟩ : ∃ up : Bool, ((x6 : Int) == 1) = up := ⟨_, rfl⟩
    have HU : Lk (upB up = if x6 = 1 then 1 else 0) := ⟨by
      rw [← hup]
      by_cases h : x6 = 1
      · subst h; rfl
      · have : ((x6 : Int) == 1) = false := by simp; omega
        rw [this, if_neg h]; rfl⟩
    have HR3 : Lk (RN (V.setCell ⟨br, 1, none⟩ (.bool up)) br gr N N (List.replicate N 0) up) := ⟨HX.out.setUp up⟩
    have HB4 : Lk (Below W.heap.size W (V.setCell ⟨br, 1, none⟩ (.bool up))) := ⟨HB3.out.setCell (p := ⟨br, 1, none⟩) HO.out.2.2.1 _⟩
    have HS0 : Lk (∀ j, j < 0 → (List.replicate N 0).getD j 0 = num ((l.drop (7 + 8 * j)).take 8)) := ⟨fun j hj => absurd hj (by omega)⟩
    have hc0 := HR3.out.c0
    clear HB3 HX
    go_wp2_with fail
    generalize V.setCell ⟨br, 1, none⟩ (.bool up) = V2 at *
    clear hup hu hf h6 hc0
    go_loopw [5] (fun i wr => ∃ (k : Nat) (ws : List Nat), k ≤ N ∧ i = .int .i64 k ∧ Lk (RN wr br gr N N ws up) ∧ Lk (∀ j, j < k → ws.getD j 0 = num ((l.drop (7 + 8 * j)).take 8)) ∧ Lk (Below W.heap.size W wr)) (fun i _ => N - (intOf i).toNat)
    case atStart => exact ⟨0, _, by omega, rfl, HR3, HS0, HB4⟩
    case round =>
      clear HR3 HS0 HB4
      obtain ⟨k, ws, hk, rfl, HP, HS, HB⟩ := hrel
      have hc0 := HP.out.c0
      by_cases hlt : k < N
      · have hnn : 7 + 8 * k + 8 ≤ 15 + 64 * L := by have := HNL.out; omega
        have sl : ∀ wx : World, (Instr.sliceAt 41 (.slice (some ⟨b, o, none⟩) (15 + 64 * L) c) (some (.int .i64 (7 + 8 * (k : Int)))) none none).run Try.prog wx = .ok (.slice (some ⟨b, o + (7 + 8 * k), none⟩) (15 + 64 * L - (7 + 8 * k)) (c - (7 + 8 * k))) wx := by
          intro wx
          have := slice_tail b o (15 + 64 * L) c (7 + 8 * k) wx (by omega) (by omega)
          rw [show ((7 + 8 * k : Nat) : Int) = 7 + 8 * (k : Int) by omega] at this
          exact this
        have hw2 : IntKind.i64.wrap (7 + 8 * (k : Int)) = 7 + 8 * (k : Int) := by simp [IntKind.wrap, IntKind.bits, IntKind.signed]; omega
        have hw3 : IntKind.i64.wrap (8 * (k : Int)) = 8 * (k : Int) := by simp [IntKind.wrap, IntKind.bits, IntKind.signed]; omega
        have sl2 := sl
        have sl3 := sl
        rw [← hw2] at sl2
        rw [← hw2, ← hw3] at sl3
        clear hw2 hw3
        have hr : 8 ≤ 15 + 64 * L - (7 + 8 * k) := by omega
        have CK := fun wx (hx : ∀ j, j < 8 → wx.cell? ⟨b, o + (7 + 8 * k) + j, none⟩ = some (.int .u8 ((((l.drop (7 + 8 * k)).take 8).getD j 0 : Nat) : Int))) => word_any b (o + (7 + 8 * k)) (15 + 64 * L - (7 + 8 * k)) (c - (7 + 8 * k)) ((l.drop (7 + 8 * k)).take 8) wx (cut_len (by have := HN.out; omega)) hr ⟨cut_lt hlb.out _ 8⟩ ⟨hx⟩
        have CK2 := CK wr.drew (fun j hj => by
          have := (HB.out.cell (p := ⟨b, o + (7 + 8 * k + j), none⟩) (Nat.lt_of_lt_of_le hb HB0.out.size)).trans ((HB0.out.cell (p := ⟨b, o + (7 + 8 * k + j), none⟩) hb).trans (HC.out (7 + 8 * k + j) (by omega)))
          rw [← Nat.add_assoc o] at this
          refine Eq.trans (show _ = wr.cell? ⟨b, o + (7 + 8 * k) + j, none⟩ from rfl) ?_
          rw [this, List.getD_eq_getElem?_getD, List.getD_eq_getElem?_getD, List.getElem?_take, if_pos hj, List.getElem?_drop])
        clear CK
        have HZ : Lk (num ((l.drop (7 + 8 * k)).take 8) < 18446744073709551616) := ⟨by
          have h1 := num_bound ((l.drop (7 + 8 * k)).take 8) (cut_lt hlb.out _ 8)
          rw [cut_len (by have := HN.out; omega)] at h1
          exact Nat.lt_of_lt_of_le h1 (by decide)⟩
        have HSn : Lk (∀ j, j < k + 1 → (ws.set k (num ((l.drop (7 + 8 * k)).take 8))).getD j 0 = num ((l.drop (7 + 8 * j)).take 8)) := ⟨fun j hj => by
          have hwl := HP.out.row.len
          by_cases e : k = j
          · subst e; simp [hwl, hlt]
          · have := HS.out j (by omega)
            rw [List.getD_eq_getElem?_getD] at this ⊢
            rw [List.getElem?_set_ne e]; exact this⟩
        generalize num ((l.drop (7 + 8 * k)).take 8) = z at *
        generalize o + (7 + 8 * k) = o2 at *
        generalize c - (7 + 8 * k) = c2 at *
        generalize 15 + 64 * L - (7 + 8 * k) = n2 at *
        have hdk := HP.out.row.cell hlt
        have hfk := HP.out.row.free k
        have HX5 : Lk (_ ∧ _) := ⟨(HP.out.set k z HZ.out).drew 1, (HB.out.setCell (p := ⟨gr, k, none⟩) HO.out.2.2.2 (.int .u64 (z : Int))).drew⟩
        generalize ws.getD k 0 = v0 at *
        go_wp2_with fail
        go_region_with (first
          | (go_at_call 41; refine CK2.mono ?_; rintro e w' ⟨rfl, rfl⟩))
        all_goals clear sl sl2 sl3 CK2 HP HB HS
        all_goals go_wp2
        all_goals exact ⟨⟨k + 1, _, by omega, by go_num, ⟨HX5.out.1⟩, HSn, ⟨HX5.out.2⟩⟩, by simp [intOf]; omega⟩
      · obtain rfl : N = k := by omega
        have HW : Lk (ws = spelt l N) := ⟨by
          have hwl := HP.out.row.len
          apply List.ext_getElem
          · rw [spelt_len, hwl]
          · intro i h1 h2
            have := HS.out i (by omega)
            rw [List.getD_eq_getElem?_getD, List.getElem?_eq_getElem h1] at this
            simp [spelt] at this ⊢
            exact this⟩
        clear HS
        have HBw : Lk (Below w.heap.size w wr) := ⟨HB0.out.trans (HB.out.mono HB0.out.size)⟩
        have HZr : Lk (wr.heap[g0]? = some (.cells #[.slice none 0 0, .bool false] 31 (0, 0))) := ⟨(HB.out.block g0 hz0).trans HZ0.out⟩
        have HCI := Lib.hid (refImage_any br gr N N ws up wr.drew L ⟨HP.out.drew 1⟩ HNL.out.symm hL1 (by omega))
        have hc1 := HP.out.c1
        have HLr : Lk (Lies .u8 wr.drew wr.drew.heap.size (some ⟨b, o, none⟩) l) := ⟨(HL.out.below (HBw.out.drew)).more HBw.out.size⟩
        have hcB := conv_run (c := c) HN.out (by omega) HLr.out
        have HEQ : Lk _ := ⟨str_beq (img_lt (ws := ws) (up := up) (L := L)) hlb.out⟩
        have HRr : Lk (RN wr.drew br gr N N ws up) := ⟨HP.out.drew 1⟩
        have HGr : Lk (w.heap.size ≤ g0) := ⟨by have := hg0.out; omega⟩
        have hwl := HP.out.row.len
        have hwlt := HP.out.row.lt
        have FIN : Lk (∀ W6, Below w.heap.size w W6 → Row W6 gr N N ws → RefPost l w (.returned (.tuple #[.agg #[.slice (some ⟨gr, 0, none⟩) N N, .bool up], .bool ((str (img ws up L)).toList == (str l).toList)])) W6) := ⟨fun W6 hb6 hr6 => by
          refine ⟨⟨hb6⟩, ?_⟩
          rw [HEQ.out]
          by_cases heq : img ws up L = l
          · rw [decide_eq_true heq]
            exact .inl ⟨ws, up, L, gr, ⟨heq.symm, by rw [hwl]; exact HNL.out.symm, hL1, by omega, hwlt⟩, by rw [HNL.out], ⟨by have h1 := HO.out.2.1; have h2 := hg0.out; omega⟩, ⟨by rw [HNL.out]; exact hr6⟩⟩
          · rw [decide_eq_false heq]
            refine .inr ⟨?_, _, _, _, _, rfl⟩
            rintro ⟨ws', up', L', h⟩
            have h1 := (HG.out ws' up' L' h).1
            obtain rfl : L = L' := by omega
            have h2 := h.words
            rw [HNL.out, ← HW.out] at h2
            subst h2
            have h3 := H6.out _ _ _ h
            have h4 := HU.out
            have h5 : up = up' := by
              rw [h3] at h4
              cases up <;> cases up' <;> simp [upB] at h4 ⊢
            subst h5
            exact heq h.eq.symm⟩
        clear HP HB hwl hwlt HEQ HG H6 HU HW
        go_wp2_with fail
        go_region_with (go_at_call 32; refine HCI.out.mono ?_; rintro e w5 ⟨v5, rfl, HB5⟩; obtain ⟨A5, c5, rfl, hc5, hL5⟩ := HB5.out.form; have hcv1 := conv_run (c := c5) rfl (by rw [img_len]; omega) hL5; have hcv2 := conv_run (c := c) HN.out (by omega) (HLr.out.on_ HB5.out.below); have HR5 := (⟨HRr.out.keep (HB5.out.below.block br HRr.out.size) (HB5.out.below.block gr HRr.out.row.size)⟩ : Lk (RN w5 br gr N N ws up)); have hd0 := HR5.out.c0; have hd1 := HR5.out.c1; have HZ5 := (⟨(HB5.out.below.block g0 (by have h1 := HO.out.1; have h2 := HRr.out.size; omega)).trans HZr.out⟩ : Lk (w5.heap[g0]? = some (.cells #[.slice none 0 0, .bool false] 31 (0, 0)))); have z0 := (cell_of_row w5 g0 0 _ _ _ HZ5.out).trans rfl; have z1 := (cell_of_row w5 g0 1 _ _ _ HZ5.out).trans rfl; have f0 := frozen_of_row w5 g0 0 _ _ HZ5.out; have f1 := frozen_of_row w5 g0 1 _ _ HZ5.out; have hcv3 := conv_run (c := c) HN.out (by omega) (lies_other (lies_other (HLr.out.on_ HB5.out.below) g0 0 (.slice (some ⟨gr, 0, none⟩) N N) (fun ad e => by cases e; have h1 := HGr.out; show b ≠ g0; omega)) g0 1 (.bool up) (fun ad e => by cases e; have h1 := HGr.out; show b ≠ g0; omega)); have hcv4 := conv_run (c := c5) rfl (by rw [img_len]; omega) (lies_other (lies_other hL5 g0 0 (.slice (some ⟨gr, 0, none⟩) N N) (fun ad e => by cases e; have h1 := (HB5.out.own.lt ad.block rfl).1; have h2 := HRr.out.size; have h3 := HO.out.1; omega)) g0 1 (.bool up) (fun ad e => by cases e; have h1 := (HB5.out.own.lt ad.block rfl).1; have h2 := HRr.out.size; have h3 := HO.out.1; omega)); have HF := row_two (up := up) HZ5.out HR5.out.row (by have h3 := HO.out.2.1; omega) (HBw.out.drew.trans (HB5.out.below.mono HBw.out.drew.size)) HGr.out)
        all_goals go_wp2
        all_goals refine bodyPost_ret (results_two rfl _ _ g0 _ rfl rfl HF.out.1) rfl ?_
        all_goals refine Eq.mpr (congrArg (fun v => RefPost l w (.returned (.tuple #[.agg #[.slice (some ⟨gr, 0, none⟩) N N, .bool up], v])) _) ?_) (FIN.out _ HF.out.2.2 HF.out.2.1)
        all_goals first | rfl | (simp [Act.put]; done) | (unfold Act.put; rfl) | skip
  · have HBad : Lk (¬ Nv.Good l) := ⟨by
      rintro ⟨ws, up, L, h⟩
      have h1 := HG.out ws up L h
      omega⟩
    have hB0 : Lk (Below w.heap.size w (w.alloc (.cells #[.slice none 0 0, .bool false] 31))) := ⟨(Below.refl _ w).alloc (Nat.le_refl _) _⟩
    by_cases h15 : 15 ≤ n
    · by_cases h79 : 79 ≤ n
      · have hm1 : ¬ ((n : Int) - 15).tmod 64 = 0 := by rw [Int.tmod_eq_emod_of_nonneg (by omega)]; omega
        go_enter Try.func20, Try.ntmps20
        go_wp2
        all_goals exact bodyPost_ret (results_two rfl _ _ w.heap.size #[.slice none 0 0, .bool false] rfl rfl (heap_alloc_new _ _)) rfl ⟨hB0, .inr ⟨HBad.out, none, 0, 0, false, rfl⟩⟩
      · go_enter Try.func20, Try.ntmps20
        go_wp2
        all_goals exact bodyPost_ret (results_two rfl _ _ w.heap.size #[.slice none 0 0, .bool false] rfl rfl (heap_alloc_new _ _)) rfl ⟨hB0, .inr ⟨HBad.out, none, 0, 0, false, rfl⟩⟩
    · go_enter Try.func20, Try.ntmps20
      go_wp2
      all_goals exact bodyPost_ret (results_two rfl _ _ w.heap.size #[.slice none 0 0, .bool false] rfl rfl (heap_alloc_new _ _)) rfl ⟨hB0, .inr ⟨HBad.out, none, 0, 0, false, rfl⟩⟩
end Go.Proofs.Ytgjchfhgpfogjaa.Nz

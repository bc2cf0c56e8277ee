/-
  Contract of package memnode's Image.
-/
import Derived.Test.YtadeghfhjiohnaaNq
namespace Go.Proofs.Ytadeghfhjiohnaa.Nr
open Go.ChangeShapes Go.WideShapes Go.ChangeAt Go.RowKit Ga Ma Ca Cb Cc Cd Ce Na Nb Nc Nd_ Nf Nq
set_option linter.unusedVariables false
set_option linter.unusedSimpArgs false

def upB (up : Bool) : Nat := if up = true then 1 else 0
def head (L : Nat) (up : Bool) : List Nat := [77, 69, 77, 49] ++ low L 2 ++ [upB up]
def body (ws : List Nat) (up : Bool) (L : Nat) : List Nat := head L up ++ bytesOf ws
def img (ws : List Nat) (up : Bool) (L : Nat) : List Nat := body ws up L ++ little (crc (body ws up L))
theorem head_len (L : Nat) (up : Bool) : (head L up).length = 7 := by simp [head, low_len]
theorem bytesOf_len (l : List Nat) : (bytesOf l).length = 8 * l.length := by
  induction l with
  | nil => rfl
  | cons x l ih =>
    have : bytesOf (x :: l) = little x ++ bytesOf l := by simp [bytesOf]
    rw [this, List.length_append, ih, little_len, List.length_cons]; omega
theorem bytesOf_next {l : List Nat} {k : Nat} (h : k < l.length) : bytesOf (l.take (k + 1)) = bytesOf (l.take k) ++ little (l.getD k 0) := by
  rw [take_snoc l k h]; simp [bytesOf]
theorem body_len (ws : List Nat) (up : Bool) (L : Nat) : (body ws up L).length = 7 + 8 * ws.length := by rw [body, List.length_append, head_len, bytesOf_len]
theorem img_len (ws : List Nat) (up : Bool) (L : Nat) : (img ws up L).length = 15 + 8 * ws.length := by rw [img, List.length_append, body_len, little_len]; omega
theorem upB_lt (up : Bool) : upB up < 256 := by cases up <;> decide
theorem crc_lt {l : List Nat} (h : ∀ x ∈ l, x < 256) : crc l < 18446744073709551616 := by rw [← ext_zero]; exact ext_lt (by decide) h
theorem imageBytes_any (L : Nat) (w : World) (h : L ≤ 256) :
    Calls Try.prog 49 #[.int .i64 L] w fun e w' => e = .returned (.int .i64 ((7 + (8 * L + 1) * 8 : Nat) : Int)) ∧ w = w' := by
  go_enter Try.func49, Try.ntmps49
  go_wp2
  go_ret
  refine ⟨ret_int ?_, rfl⟩
  omega
theorem upByte_any (up : Bool) (w : World) :
    Calls Try.prog 52 #[.bool up] w fun e w' => e = .returned (.int .u8 (upB up : Nat)) ∧ w = w' := by
  cases up with
  | true =>
    go_enter Try.func52, Try.ntmps52
    go_wp2
    go_ret
    exact ⟨rfl, rfl⟩
  | false =>
    go_enter Try.func52, Try.ntmps52
    go_wp2
    go_ret
    exact ⟨rfl, rfl⟩
theorem crcBytes_on (w0 w : World) (v : Value) (bs : List Nat) (h : Lk (Bt w0 w v bs)) (hl : bs.length ≤ 20000) :
    Calls Try.prog 53 #[v] w fun e w' => e = .returned (.int .u64 ((crc bs : Nat) : Int)) ∧ Lk (Bt w0 w' v bs) := by
  obtain ⟨A, c, rfl, hc, hL⟩ := h.out.form
  exact (bytes_any A bs c w hl h.out.lt hL).mono fun e w' ⟨h1, h2⟩ => ⟨h1, ⟨h.out.on h2⟩⟩

set_option maxRecDepth 100000 in
set_option maxHeartbeats 2000000 in
theorem image_any (b g n cap : Nat) (ws : List Nat) (up : Bool) (w : World) (L : Nat) (HN : Lk (PN w b g n cap ws up)) (hL : n = 8 * L) (h1 : 1 ≤ L) (h2 : L ≤ 200) :
    Calls Try.prog 34 #[.pointer (some ⟨b, 0, none⟩)] w fun e w' => ∃ v, e = .returned v ∧ Lk (Bt w w' v (img ws up L)) := by
  obtain ⟨i0, hi, hz0, hz1, hz2⟩ := info_parts u8info
  have HL : Lk (n = 8 * L) := ⟨hL⟩
  have hn : n ≤ 1600 := by omega
  have CL := fun wx HNx => lines_any b g n cap ws up wx HNx L hL (by omega)
  clear hL
  go_enter Try.func34, Try.ntmps34
  go_wp2_with fail
  refine (CL w HN).mono ?_
  rintro e w' ⟨rfl, rfl⟩
  go_wp2_with fail
  refine (imageBytes_any L w (by omega)).mono ?_
  rintro e w' ⟨rfl, rfl⟩
  obtain ⟨cp, hcp⟩ : ∃ cp, Lk (7 + (8 * L + 1) * 8 = cp) := ⟨_, ⟨rfl⟩⟩
  rw [hcp.out]
  go_wp2_with (first
    | (at_make; refine wpList_make_own _ rfl _ _ 41 rfl w.heap.size 5 i0 (.int .u8 0) 1 Try.underlying41 hi hz0 hz1 .i64 .i64 _ cp rfl rfl rfl ?b2 ?b3 (Nat.le_refl _) ?_))
  case b2 => rw [hz2]; have := hcp.out; omega
  case b3 => unfold maxLen; have := hcp.out; omega
  intro w1 hown hgrow
  have HB1 : Lk (Bt w w1 (.slice (some ⟨w.heap.size, 0, none⟩) 0 cp) []) := ⟨hown, (Below.refl _ _).grown hgrow (Nat.le_refl _) (fun k hk => by cases hk), by simp⟩
  clear hown hgrow
  generalize (Value.slice (some ⟨w.heap.size, 0, none⟩) 0 cp) = v1 at *
  go_wp2_with (first
    | (at_builtin; refine Go.Lib.wpList_append_own_string _ rfl _ _ 41 9 rfl w.heap.size 5 i0 Try.underlying41 Try.underlying9 hi hz0 hz1 hz2 _ _ _ rfl HB1.out.own _ rfl ?d1 ?d2 HB1.out.below.size ?_))
  case d1 => unfold maxLen; decide
  case d2 => decide
  intro v2 w2 hown hgrow _
  have HB2 : Lk (Bt w w2 v2 [77, 69, 77, 49]) := ⟨HB1.out.after (l := [77, 69, 77, 49]) (by decide) hown hgrow⟩
  have HN2 : Lk (PN w2 b g n cap ws up) := ⟨HN.out.keep (HB2.out.below.block b HN.out.size) (HB2.out.below.block g HN.out.row.size)⟩
  clear hown hgrow HB1
  go_wp2_with fail
  refine (CL w2 HN2).mono ?_
  rintro e w' ⟨rfl, rfl⟩
  go_wp2_with fail
  refine (appendNumber_any w w2 v2 _ 2 L HB2 (by decide) (by omega)).mono ?_
  rintro e w3 ⟨v3, rfl, HB3⟩
  have HN3 : Lk (PN w3 b g n cap ws up) := ⟨HN.out.keep (HB3.out.below.block b HN.out.size) (HB3.out.below.block g HN.out.row.size)⟩
  clear HB2 HN2
  have hu := HN3.out.c1
  go_wp2_with fail
  refine (upByte_any up w3).mono ?_
  rintro e w' ⟨rfl, rfl⟩
  have HL3 : Lk (([77, 69, 77, 49] ++ low L 2 : List Nat).length = 6) := ⟨by simp [low_len]⟩
  generalize hacc : ([77, 69, 77, 49] ++ low L 2 : List Nat) = acc at *
  have HE : Lk (head L up = acc ++ [upB up]) := ⟨by rw [head, hacc]⟩
  clear hacc
  have hub := upB_lt up
  generalize upB up = ub at *
  go_wp2_with (first
    | (at_builtin; refine wpList_append_own _ rfl _ _ 41 rfl w.heap.size 5 i0 (.int .u8 0) 1 1 Try.underlying41 hi hz0 hz1 hz2 rfl (by decide) _ _ _ rfl (HB3.out.on ((Below.refl _ w3).alloc (Nat.le_refl _) _)).own ⟨w3.heap.size, 0, none⟩ 1 1 [.int .u8 (ub : Int)] rfl rfl ?c1 ?c2 ?c3 ?c4 ?c5 ?_))
  case c1 =>
    intro j u hj
    match j, hj with
    | 0, hj => simp at hj; subst hj; simp [Addr.add]
  case c2 => intro u hu; simp at hu; subst hu; rfl
  case c3 => rw [HL3.out]; unfold maxLen; omega
  case c4 => rw [HL3.out]; omega
  case c5 => have := HB3.out.below.size; simp; omega
  intro v4 w4 hown hgrow _
  have HB4 : Lk (Bt w w4 v4 (head L up)) := ⟨by
    have := (HB3.out.on ((Below.refl _ w3).alloc (Nat.le_refl _) (.cells #[.int .u8 (ub : Int)] 5))).after (l := [ub]) (fun z hz => by rw [List.mem_singleton] at hz; omega) (by simpa [u8v] using hown) hgrow
    rw [HE.out]; exact this⟩
  have HN4 : Lk (PN w4 b g n cap ws up) := ⟨HN.out.keep (HB4.out.below.block b HN.out.size) (HB4.out.below.block g HN.out.row.size)⟩
  clear hown hgrow HB3 HN3 hu HE HL3
  have hc := HN4.out.c0
  have HS : Lk (Bt w w4 v4 (head L up ++ bytesOf (ws.take 0))) := ⟨by have := HB4.out; simpa [bytesOf] using this⟩
  have hlw := HN.out.row.len
  have HWL : Lk (ws.length = n) := ⟨hlw⟩
  clear hlw HB4
  go_wp2_with fail
  go_loopw [3, 30] (fun s3 s30 wr => ∃ k : Nat, k ≤ n ∧ s30 = .int .i64 k ∧ Lk (Bt w wr s3 (head L up ++ bytesOf (ws.take k)))) (fun _ i _ => n - (intOf i).toNat)
  case atStart => exact ⟨0, by omega, rfl, HS⟩
  case round =>
    clear HS HN4 hc
    obtain ⟨k, hk, rfl, HB⟩ := hrel
    by_cases hlt : k < n
    · have hcell := (HB.out.below.cell (block_lt_of_cell (HN.out.row.cell hlt))).trans (HN.out.row.cell hlt)
      have hx := getD_lt HN.out.row.lt (show k < ws.length by have := HWL.out; omega)
      have HT : Lk (head L up ++ bytesOf (ws.take (k + 1)) = head L up ++ bytesOf (ws.take k) ++ low (ws.getD k 0) 8) := ⟨by rw [bytesOf_next (by have := HWL.out; omega), List.append_assoc]; rfl⟩
      have HK : Lk ((head L up ++ bytesOf (ws.take k)).length ≤ 7 + 8 * k) := ⟨by rw [List.length_append, head_len, bytesOf_len, List.length_take]; omega⟩
      generalize ws.getD k 0 = x at *
      generalize head L up ++ bytesOf (ws.take k) = acc2 at *
      go_wp2_with fail
      refine (appendNumber_any w _ _ _ 8 x HB (by have := HK.out; omega) hx).mono ?_
      rintro e w5 ⟨v5, rfl, HB5⟩
      rw [← HT.out] at HB5
      clear HB hcell HT
      go_wp2_with fail
      go_roundw
      case rel => exact ⟨k + 1, by omega, by go_num, HB5⟩
      case measure => simp [intOf]; omega
    · obtain rfl : n = k := by omega
      have HB6 : Lk (Bt w wr u3 (body ws up L)) := ⟨by have := HB.out; rw [List.take_of_length_le (Nat.le_of_eq HWL.out)] at this; exact this⟩
      have hbl := body_len ws up L
      have HC : Lk ((body ws up L).length = 7 + 8 * n) := ⟨by rw [hbl, HWL.out]⟩
      clear HB hbl
      go_wp2_with fail
      refine (crcBytes_on w wr u3 _ HB6 (by rw [HC.out]; omega)).mono ?_
      rintro e w7 ⟨rfl, HB7⟩
      have hcl := crc_lt HB7.out.lt
      go_wp2_with fail
      refine (appendNumber_any w w7 _ _ 8 _ HB7 (by rw [HC.out]; omega) hcl).mono ?_
      rintro e w8 ⟨v8, rfl, HB8⟩
      go_wp2_with fail
      go_ret
      exact ⟨v8, rfl, HB8⟩
end Go.Proofs.Ytadeghfhjiohnaa.Nr

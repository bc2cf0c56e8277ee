/-
  Contracts of the reference's Image and of SameImage.
-/
import Derived.Test.YtadeghfhjiohnaaNr
namespace Go.Proofs.Ytadeghfhjiohnaa.Ns
open Go.ChangeShapes Go.WideShapes Go.ChangeAt Go.RowKit Ga Ma Ca Cb Cc Cd Ce Na Nb Nc Nd_ Nf Nq Nr
set_option linter.unusedVariables false
set_option linter.unusedSimpArgs false

theorem bt_set {w0 wr : World} {g n cap : Nat} {bs : List Nat} (h : Bt w0 wr (.slice (some ⟨g, 0, none⟩) n cap) bs) (j x : Nat) (hx : x < 256) : Bt w0 (wr.setCell ⟨g, j, none⟩ (.int .u8 (x : Int))) (.slice (some ⟨g, 0, none⟩) n cap) (bs.set j x) := by
  have hge := (h.own.lt g rfl).1
  have hn : n = bs.length := by
    rcases h.own.2 with ⟨h', _⟩ | ⟨g', cap', cur, h', _⟩
    · simp at h'
    · simp only [Value.slice.injEq] at h'; omega
  subst hn
  refine ⟨?_, h.below.setCell (p := ⟨g, j, none⟩) hge _, set_lt h.lt hx j⟩
  have := (h.own.stored j (u8v x)).1
  rw [← List.map_set] at this
  rw [List.length_set]
  exact this
theorem refBytes_on (w0 w : World) (v : Value) (bs : List Nat) (h : Lk (Bt w0 w v bs)) (hl : bs.length ≤ 20000) :
    Calls Try.prog 66 #[v] w fun e w' => e = .returned (.int .u64 ((crc bs : Nat) : Int)) ∧ w = w' := by
  obtain ⟨A, c, rfl, hc, hL⟩ := h.out.form
  exact refBytes_any A bs c w w.heap.size hl h.out.lt hL
/-- Little, seen from a call that began in w0: eight new bytes. -/
theorem little_on (w0 w : World) (v : Value) (bs : List Nat) (x : Nat) (h : Lk (Bt w0 w v bs)) (hx : x < 18446744073709551616) :
    Calls Try.prog 65 #[.int .u64 x] w fun e w' => ∃ a : Nat, e = .returned (.slice (some ⟨a, 0, none⟩) 8 8) ∧ Lk (Bt w0 w' v bs) ∧ Lk (∀ j u, ((little x).map u8v)[j]? = some u → w'.cell? ((⟨a, 0, none⟩ : Addr).add j) = some u) :=
  (little_any x w hx).mono fun e w' ⟨h1, h2, h3⟩ => ⟨w.heap.size, h1, ⟨h.out.on h3⟩, ⟨by
    obtain ⟨ad, e1, _, hc⟩ := h2 (by rw [little_len]; decide)
    simp only [Option.some.injEq] at e1
    subst e1
    exact bytes_cells hc⟩⟩
def cells7 (L : Nat) : Array Value := #[.int .u8 77, .int .u8 69, .int .u8 77, .int .u8 49, .int .u8 (L : Int), .int .u8 ((L : Int) / 256), .int .u8 0]
theorem low2 (L : Nat) : low L 2 = [L % 256, L / 256 % 256] := by simp [low, List.range, List.range.loop]
theorem seven (w : World) (L : Nat) (h : L ≤ 200) : Bt w (w.alloc (.cells (cells7 L) 5)) (.slice (some ⟨w.heap.size, 0, none⟩) 7 7) (head L false) := by
  refine ⟨?_, (Below.refl _ w).alloc (Nat.le_refl _) _, fun x hx => ?_⟩
  · have := World.ownsRow_lit (base := w.heap.size) (e := 5) (size := 1) w (cells7 L) 7 (Nat.le_refl _) (by decide) rfl
    rw [head_len]
    have e : (cells7 L).toList = (head L false).map u8v := by
      rw [head, low2, Nat.mod_eq_of_lt (show L < 256 by omega), Nat.mod_eq_of_lt (show L / 256 < 256 by omega)]
      simp [cells7, u8v, upB]
    rwa [e] at this
  · rw [head] at hx
    rcases List.mem_append.1 hx with hx | hx
    · rcases List.mem_append.1 hx with hx | hx
      · simp at hx; omega
      · exact low_lt L 2 x hx
    · rw [List.mem_singleton] at hx; rw [hx]; exact upB_lt _
theorem head_up (L : Nat) : (head L false).set 6 1 = head L true := by
  rw [head, head, low2]
  rfl

set_option maxRecDepth 100000 in
set_option maxHeartbeats 2000000 in
theorem refImage_any (b g n cap : Nat) (ws : List Nat) (up : Bool) (w : World) (L : Nat) (HN : Lk (RN w b g n cap ws up)) (hL : n = 8 * L) (h1 : 1 ≤ L) (h2 : L ≤ 200) :
    Calls Try.prog 55 #[.pointer (some ⟨b, 0, none⟩)] w fun e w' => ∃ v, e = .returned v ∧ Lk (Bt w w' v (img ws up L)) := by
  obtain ⟨i0, hi, hz0, hz1, hz2⟩ := info_parts u8info
  have hn : n ≤ 1600 := by omega
  have hc := HN.out.c0
  have hd : ((n : Int) / 8) = L := by omega
  have HD := Lib.hid hd
  clear hd
  have HL : Lk (n = 8 * L) := ⟨hL⟩
  have H7 : Lk _ := ⟨seven w L h2⟩
  clear hL
  go_enter Try.func55, Try.ntmps55
  go_upto_region 2 with fail
  rw [HD.out]
  go_upto_region 3 with fail
  have HW : Lk (w.alloc (.cells #[.int .u8 77, .int .u8 69, .int .u8 77, .int .u8 49, .int .u8 (L : Int), .int .u8 ((L : Int) / 256), .int .u8 0] 5) = w.alloc (.cells (cells7 L) 5)) := ⟨rfl⟩
  rw [HW.out]
  clear HW
  generalize w.alloc (.cells (cells7 L) 5) = W at *
  generalize w.heap.size = o at *
  have hu := (HN.out.keep (H7.out.below.block b HN.out.size) (H7.out.below.block g HN.out.row.size)).c1
  go_upto_if 21 with fail
  go_cut [22] (fun _ wx => Lk (Bt w wx (.slice (some ⟨o, 0, none⟩) 7 7) (head L up)))
  case first =>
    cases up with
    | false =>
      go_wp2
      all_goals go_meet
      all_goals exact H7
    | true =>
      have H8 : Lk (Bt w _ (.slice (some ⟨o, 0, none⟩) 7 7) (head L true)) := ⟨by rw [← head_up]; exact bt_set H7.out 6 1 (by decide)⟩
      have hc6 : Lk (∃ v, W.cell? ⟨o, 6, none⟩ = some v) := ⟨by
        have := H7.out.own.cellAt 6 (by decide)
        rw [this, List.getElem?_eq_getElem (by simp [head_len])]
        exact ⟨_, rfl⟩⟩
      obtain ⟨v6, hv6⟩ := hc6.out
      have hf6 := H7.out.own.frozenAt 6
      go_wp2
      all_goals go_meet
      all_goals exact H8
  case rest =>
  have HS : Lk (Bt w wc (.slice (some ⟨o, 0, none⟩) 7 7) (head L up ++ bytesOf (ws.take 0))) := ⟨by have := hcut.out; simpa [bytesOf] using this⟩
  have HWL : Lk (ws.length = n) := ⟨HN.out.row.len⟩
  clear hcut hu H7 HD W
  generalize (Value.slice (some ⟨o, 0, none⟩) 7 7) = v0 at *
  go_wp2_with fail
  go_loopw [4, 5] (fun s4 s5 wr => ∃ k : Nat, k ≤ n ∧ s5 = .int .i64 k ∧ Lk (Bt w wr s4 (head L up ++ bytesOf (ws.take k)))) (fun _ i _ => n - (intOf i).toNat)
  case atStart => exact ⟨0, by omega, rfl, HS⟩
  case round =>
    clear HS hc
    obtain ⟨k, hk, rfl, HB⟩ := hrel
    have hc := (HB.out.below.cell (block_lt_of_cell HN.out.c0)).trans HN.out.c0
    by_cases hlt : k < n
    · have hcell := (HB.out.below.cell (block_lt_of_cell (HN.out.row.cell hlt))).trans (HN.out.row.cell hlt)
      have hx := getD_lt HN.out.row.lt (show k < ws.length by have := HWL.out; omega)
      have HT : Lk (head L up ++ bytesOf (ws.take (k + 1)) = head L up ++ bytesOf (ws.take k) ++ little (ws.getD k 0)) := ⟨by rw [bytesOf_next (by have := HWL.out; omega), List.append_assoc]⟩
      have HK : Lk ((head L up ++ bytesOf (ws.take k)).length ≤ 7 + 8 * k) := ⟨by rw [List.length_append, head_len, bytesOf_len, List.length_take]; omega⟩
      generalize ws.getD k 0 = x at *
      generalize head L up ++ bytesOf (ws.take k) = acc2 at *
      go_wp2_with fail
      refine (little_on w wr u4 acc2 x HB hx).mono ?_
      rintro e w5 ⟨a5, rfl, HB5, HC5⟩
      clear HB hcell hc
      go_wp2_with (first
        | (at_builtin; refine wpList_append_own _ rfl _ _ 41 rfl w.heap.size 5 i0 (.int .u8 0) 1 1 Try.underlying41 hi hz0 hz1 hz2 rfl (by decide) _ _ _ rfl HB5.out.own ⟨a5, 0, none⟩ 8 8 ((little x).map u8v) rfl ?c1 HC5.out (bytes_one _) ?c3 ?c4 ?c5 ?_))
      case c1 => simp [little_len]
      case c3 => have := HK.out; unfold maxLen; omega
      case c4 => have := HK.out; omega
      case c5 => exact HB5.out.below.size
      intro v6 w6 hown hgrow _
      have HB6 : Lk (Bt w w6 v6 (acc2 ++ little x)) := ⟨HB5.out.after (fun y hy => low_lt x 8 y hy) (by rw [little_len]; exact hown) hgrow⟩
      rw [← HT.out] at HB6
      clear hown hgrow HB5 HC5 HT
      go_wp2_with fail
      go_roundw
      case rel => exact ⟨k + 1, by omega, by go_num, HB6⟩
      case measure => simp [intOf]; omega
    · obtain rfl : n = k := by omega
      have HB6 : Lk (Bt w wr u4 (body ws up L)) := ⟨by have := HB.out; rw [List.take_of_length_le (Nat.le_of_eq HWL.out)] at this; exact this⟩
      have hbl := body_len ws up L
      have HC : Lk ((body ws up L).length = 7 + 8 * n) := ⟨by rw [hbl, HWL.out]⟩
      clear HB hbl
      have hcl := crc_lt HB6.out.lt
      go_wp2_with fail
      refine (refBytes_on w wr u4 _ HB6 (by rw [HC.out]; omega)).mono ?_
      rintro e w7 ⟨rfl, rfl⟩
      go_wp2_with fail
      refine (little_on w wr u4 _ _ HB6 hcl).mono ?_
      rintro e w8 ⟨a8, rfl, HB8, HC8⟩
      generalize hxx : crc (body ws up L) = x at *
      have HXX : Lk (crc (body ws up L) = x) := ⟨hxx⟩
      clear hxx
      go_wp2_with (first
        | (at_builtin; refine wpList_append_own _ rfl _ _ 41 rfl w.heap.size 5 i0 (.int .u8 0) 1 1 Try.underlying41 hi hz0 hz1 hz2 rfl (by decide) _ _ _ rfl HB8.out.own ⟨a8, 0, none⟩ 8 8 ((little x).map u8v) rfl ?e1 HC8.out (bytes_one _) ?e3 ?e4 ?e5 ?_))
      case e1 => simp [little_len]
      case e3 => rw [HC.out]; unfold maxLen; omega
      case e4 => rw [HC.out]; omega
      case e5 => exact HB8.out.below.size
      intro v9 w9 hown hgrow _
      have HB9 : Lk (Bt w w9 v9 (body ws up L ++ little x)) := ⟨HB8.out.after (fun y hy => low_lt x 8 y hy) (by rw [little_len]; exact hown) hgrow⟩
      clear hown hgrow HB8 HC8
      go_wp2_with fail
      go_ret
      exact ⟨v9, rfl, ⟨by rw [img, HXX.out]; exact HB9.out⟩⟩
end Go.Proofs.Ytadeghfhjiohnaa.Ns

/-
  Contract of package memnode's Copy.
-/
import Derived.Test.YtacfmkmiikkppaaNf
import Derived.Test.YtacfmkmiikkppaaCe
import Derived.Lib.AppendStr
import Derived.Laws.BytesArg
import Derived.Deep.AppendLies
namespace Go.Proofs.Ytacfmkmiikkppaa.Nq
open Go.ChangeShapes Go.WideShapes Go.ChangeAt Go.RowKit Ga Ma Ca Cb Cc Cd Ce Na Nb Nc Nd_ Nf
set_option linter.unusedVariables false
set_option linter.unusedSimpArgs false
set_option maxRecDepth 10000

def u8v (x : Nat) : Value := .int .u8 (x : Int)
theorem u8info : (Try.prog.info? 5).map (fun i => (i.zero, i.size, i.bytes)) = some (some (.int .u8 0), 1, 1) := by kernel_rfl
/-- v is a row of the call's own (begun in w0), with these bytes. -/
structure Bt (w0 wr : World) (v : Value) (bs : List Nat) : Prop where
  own : wr.ownsRow w0.heap.size 5 1 v bs.length (bs.map u8v)
  below : Below w0.heap.size w0 wr
  lt : ∀ x ∈ bs, x < 256
section
variable {w0 wr w' : World} {v v' : Value} {bs : List Nat}
theorem Bt.form (h : Bt w0 wr v bs) : ∃ A c, v = .slice A bs.length c ∧ bs.length ≤ c ∧ Lies .u8 wr wr.heap.size A bs := by
  rcases h.own.2 with ⟨rfl, h0⟩ | ⟨g, cap, cur, rfl, hb, hg, hn, hm, hs, ht⟩
  · have : bs = [] := List.eq_nil_of_length_eq_zero h0
    subst this
    exact ⟨none, 0, rfl, Nat.le_refl _, Lies.none_⟩
  · refine ⟨some ⟨g, 0, none⟩, cap, rfl, hn, fun hl => ⟨_, rfl, (Array.getElem?_eq_some_iff.1 hg).1, fun j hj => ?_⟩⟩
    rw [add_zero_, h.own.cellAt j (by omega)]
    simp [hj, u8v]
theorem owns_on {base : Nat} {e : TypeId} {sz n : Nat} {xs : List Value} (h : wr.ownsRow base e sz v n xs) (hb : Below wr.heap.size wr w') : w'.ownsRow base e sz v n xs := by
  refine ⟨h.1, ?_⟩
  rcases h.2 with h' | ⟨g', cap', cur, h', h3, h4, h5⟩
  · exact .inl h'
  · exact .inr ⟨g', cap', cur, h', h3, (hb.block g' (Array.getElem?_eq_some_iff.1 h4).1).trans h4, h5⟩
theorem Bt.on (h : Bt w0 wr v bs) (hb : Below wr.heap.size wr w') : Bt w0 w' v bs := ⟨owns_on h.own hb, h.below.trans (hb.mono h.below.size), h.lt⟩
theorem Bt.drew (h : Bt w0 wr v bs) (m : Nat) : Bt w0 (wr.drewN m) v bs := h.on ⟨rfl, rfl, rfl, Nat.le_refl _, fun _ _ => rfl⟩
/-- An append: new bytes behind the old ones. -/
theorem Bt.after {l : List Nat} (h : Bt w0 wr v bs) (hl : ∀ x ∈ l, x < 256) (hown : w'.ownsRow w0.heap.size 5 1 v' (bs.length + l.length) (bs.map u8v ++ l.map u8v)) (hg : wr.grownBy w' v.ownBlock) : Bt w0 w' v' (bs ++ l) := by
  refine ⟨?_, h.below.grown hg h.below.size fun k hk => (h.own.lt k hk).1, fun x hx => (List.mem_append.1 hx).elim (h.lt x) (hl x)⟩
  rw [List.length_append, List.map_append]
  exact hown
theorem bytes_cells {l : List Nat} {ad : Addr} (h : ∀ j, j < l.length → wr.cell? (ad.add j) = some (.int .u8 ((l.getD j 0 : Nat) : Int))) : ∀ j u, (l.map u8v)[j]? = some u → wr.cell? (ad.add j) = some u := fun j u hj => by
  rw [List.getElem?_map] at hj
  have hjl : j < l.length := by
    by_cases h : j < l.length
    · exact h
    · rw [List.getElem?_eq_none (by omega)] at hj; simp at hj
  rw [List.getElem?_eq_getElem hjl] at hj
  obtain rfl : u8v l[j] = u := by simpa using hj
  rw [h j hjl]
  simp [hjl, u8v]
theorem bytes_one (l : List Nat) : ∀ u ∈ l.map u8v, u.oneCell' = true := fun u hu => by
  rw [List.mem_map] at hu
  obtain ⟨x, _, rfl⟩ := hu
  rfl
end
/-- The lowest k bytes of x, the least significant one first. -/
def low (x k : Nat) : List Nat := (List.range k).map fun j => x / 2 ^ (8 * j) % 256
theorem low_more (x k : Nat) : low x (k + 1) = low x k ++ [x / 2 ^ (8 * k) % 256] := by simp [low, List.range_succ]
theorem low_len (x k : Nat) : (low x k).length = k := by simp [low]
theorem low_lt (x k : Nat) : ∀ y ∈ low x k, y < 256 := fun y hy => by
  unfold low at hy
  rw [List.mem_map] at hy
  obtain ⟨j, _, rfl⟩ := hy
  exact Nat.mod_lt _ (by decide)
theorem low_next (x k : Nat) : x / 2 ^ (8 * k) / 256 = x / 2 ^ (8 * (k + 1)) := by
  rw [Nat.div_div_eq_div_mul]
  congr 1
  rw [show 8 * (k + 1) = 8 * k + 8 by omega, Nat.pow_add]

set_option maxHeartbeats 1000000 in
theorem appendNumber_any (w0 w : World) (v : Value) (bs : List Nat) (size x : Nat) (HB : Lk (Bt w0 w v bs)) (h1 : bs.length + size ≤ 100000) (hx : x < 18446744073709551616) :
    Calls Try.prog 45 #[v, .int .i64 size, .int .u64 x] w fun e w' => ∃ v', e = .returned v' ∧ Lk (Bt w0 w' v' (bs ++ low x size)) := by
  obtain ⟨i0, hi, hz0, hz1, hz2⟩ := info_parts u8info
  have H0 : Lk (Bt w0 w v (bs ++ low x 0)) := ⟨by have := HB.out; simpa [low] using this⟩
  have hx0 : x / 2 ^ (8 * 0) = x := by simp
  go_enter Try.func45, Try.ntmps45
  go_wp2_with fail
  go_loopw [0, 2, 8] (fun s0 s2 s8 wr => ∃ k : Nat, k ≤ size ∧ s8 = .int .i64 k ∧ s2 = .int .u64 ((x / 2 ^ (8 * k) : Nat) : Int) ∧ Lk (Bt w0 wr s0 (bs ++ low x k))) (fun s0 s2 s8 _ => size - (intOf s8).toNat)
  case atStart => exact ⟨0, by omega, rfl, by rw [hx0], H0⟩
  case round =>
    clear HB H0 hx0
    obtain ⟨k, hk, rfl, rfl, HB⟩ := hrel
    by_cases hlt : k < size
    · have HN : Lk (x / 2 ^ (8 * k) / 256 = x / 2 ^ (8 * (k + 1))) := ⟨low_next x k⟩
      have HM : Lk (bs ++ low x (k + 1) = bs ++ low x k ++ [x / 2 ^ (8 * k) % 256]) := ⟨by rw [low_more, List.append_assoc]⟩
      have HL : Lk ((bs ++ low x k).length = bs.length + k) := ⟨by rw [List.length_append, low_len]⟩
      have hy : x / 2 ^ (8 * k) < 18446744073709551616 := Nat.lt_of_le_of_lt (Nat.div_le_self _ _) hx
      generalize x / 2 ^ (8 * k) = y at *
      generalize bs ++ low x k = acc at *
      go_wp2_with (first
        | (at_builtin; refine wpList_append_own _ rfl _ _ 39 rfl w0.heap.size 5 i0 (.int .u8 0) 1 1 Try.underlying39 hi hz0 hz1 hz2 rfl (by decide) _ _ _ rfl (HB.out.on ((Below.refl _ wr).alloc (Nat.le_refl _) _)).own ⟨wr.heap.size, 0, none⟩ 1 1 [.int .u8 ((y : Int) % 256)] rfl rfl ?c1 ?c2 ?c3 ?c4 ?c5 ?_))
      case c1 =>
        intro j u hj
        match j, hj with
        | 0, hj => simp at hj; subst hj; simp [Addr.add]
      case c2 => intro u hu; simp at hu; subst hu; rfl
      case c3 => rw [HL.out]; unfold maxLen; omega
      case c4 => rw [HL.out]; omega
      case c5 => have := HB.out.below.size; simp; omega
      intro v' w1 hown' hgrow _
      have HB2 : Lk (Bt w0 w1 v' (acc ++ [y % 256])) := ⟨(HB.out.on ((Below.refl _ wr).alloc (Nat.le_refl _) _)).after (fun z hz => by rw [List.mem_singleton] at hz; omega) (by simpa [u8v] using hown') hgrow⟩
      rw [← HM.out] at HB2
      clear hown' hgrow HB HM
      go_wp2_with fail
      go_roundw
      case rel => exact ⟨k + 1, by omega, by go_num, by rw [← HN.out]; simp, HB2⟩
      case measure => simp [intOf]; omega
    · obtain rfl : size = k := by omega
      go_wp2
      go_ret
      exact ⟨_, rfl, HB⟩
end Go.Proofs.Ytacfmkmiikkppaa.Nq
namespace Go.Proofs.Ytacfmkmiikkppaa.Nr
open Go.ChangeShapes Go.WideShapes Go.ChangeAt Go.RowKit Ga Ma Ca Cb Cc Cd Ce Na Nb Nc Nd_ Nf Nq
set_option linter.unusedVariables false
set_option linter.unusedSimpArgs false

def upB (up : Bool) : Nat := if up = true then 1 else 0
def head (L : Nat) (up : Bool) : List Nat := [77, 69, 77, 49] ++ low L 2 ++ [upB up]
def body (ws : List Nat) (up : Bool) (L : Nat) : List Nat := head L up ++ bytesOf ws
def img (ws : List Nat) (up : Bool) (L : Nat) : List Nat := body ws up L ++ little (crc (body ws up L))
theorem head_len (L : Nat) (up : Bool) : (head L up).length = 7 := by simp [head, low_len]
theorem bytesOf_len (l : List Nat) : (bytesOf l).length = 8 * l.length := by
  induction l with
  | nil => rfl
  | cons x l ih =>
    have : bytesOf (x :: l) = little x ++ bytesOf l := by simp [bytesOf]
    rw [this, List.length_append, ih, little_len, List.length_cons]; omega
theorem bytesOf_next {l : List Nat} {k : Nat} (h : k < l.length) : bytesOf (l.take (k + 1)) = bytesOf (l.take k) ++ little (l.getD k 0) := by
  rw [take_snoc l k h]; simp [bytesOf]
theorem body_len (ws : List Nat) (up : Bool) (L : Nat) : (body ws up L).length = 7 + 8 * ws.length := by rw [body, List.length_append, head_len, bytesOf_len]
theorem img_len (ws : List Nat) (up : Bool) (L : Nat) : (img ws up L).length = 15 + 8 * ws.length := by rw [img, List.length_append, body_len, little_len]; omega
theorem upB_lt (up : Bool) : upB up < 256 := by cases up <;> decide
theorem crc_lt {l : List Nat} (h : ∀ x ∈ l, x < 256) : crc l < 18446744073709551616 := by rw [← ext_zero]; exact ext_lt (by decide) h
theorem imageBytes_any (L : Nat) (w : World) (h : L ≤ 256) :
    Calls Try.prog 43 #[.int .i64 L] w fun e w' => e = .returned (.int .i64 ((7 + (8 * L + 1) * 8 : Nat) : Int)) ∧ w = w' := by
  go_enter Try.func43, Try.ntmps43
  go_wp2
  go_ret
  refine ⟨ret_int ?_, rfl⟩
  omega
theorem upByte_any (up : Bool) (w : World) :
    Calls Try.prog 46 #[.bool up] w fun e w' => e = .returned (.int .u8 (upB up : Nat)) ∧ w = w' := by
  cases up with
  | true =>
    go_enter Try.func46, Try.ntmps46
    go_wp2
    go_ret
    exact ⟨rfl, rfl⟩
  | false =>
    go_enter Try.func46, Try.ntmps46
    go_wp2
    go_ret
    exact ⟨rfl, rfl⟩
theorem crcBytes_on (w0 w : World) (v : Value) (bs : List Nat) (h : Lk (Bt w0 w v bs)) (hl : bs.length ≤ 5000) :
    Calls Try.prog 47 #[v] w fun e w' => e = .returned (.int .u64 ((crc bs : Nat) : Int)) ∧ Lk (Bt w0 w' v bs) := by
  obtain ⟨A, c, rfl, hc, hL⟩ := h.out.form
  exact (bytes_any A bs c w hl h.out.lt hL).mono fun e w' ⟨h1, h2⟩ => ⟨h1, ⟨h.out.on h2⟩⟩

set_option maxRecDepth 100000 in
set_option maxHeartbeats 2000000 in
theorem image_any (b g n cap : Nat) (ws : List Nat) (up : Bool) (w : World) (L : Nat) (HN : Lk (PN w b g n cap ws up)) (hL : n = 8 * L) (h1 : 1 ≤ L) (h2 : L ≤ 64) :
    Calls Try.prog 12 #[.pointer (some ⟨b, 0, none⟩)] w fun e w' => ∃ v, e = .returned v ∧ Lk (Bt w w' v (img ws up L)) := by
  obtain ⟨i0, hi, hz0, hz1, hz2⟩ := info_parts u8info
  have HL : Lk (n = 8 * L) := ⟨hL⟩
  have hn : n ≤ 512 := by omega
  have CL := fun wx HNx => lines_any b g n cap ws up wx HNx L hL (by omega)
  clear hL
  go_enter Try.func12, Try.ntmps12
  go_wp2_with fail
  refine (CL w HN).mono ?_
  rintro e w' ⟨rfl, rfl⟩
  go_wp2_with fail
  refine (imageBytes_any L w (by omega)).mono ?_
  rintro e w' ⟨rfl, rfl⟩
  obtain ⟨cp, hcp⟩ : ∃ cp, Lk (7 + (8 * L + 1) * 8 = cp) := ⟨_, ⟨rfl⟩⟩
  rw [hcp.out]
  go_wp2_with (first
    | (at_make; refine wpList_make_own _ rfl _ _ 39 rfl w.heap.size 5 i0 (.int .u8 0) 1 Try.underlying39 hi hz0 hz1 .i64 .i64 _ cp rfl rfl rfl ?b2 ?b3 (Nat.le_refl _) ?_))
  case b2 => rw [hz2]; have := hcp.out; omega
  case b3 => unfold maxLen; have := hcp.out; omega
  intro w1 hown hgrow
  have HB1 : Lk (Bt w w1 (.slice (some ⟨w.heap.size, 0, none⟩) 0 cp) []) := ⟨hown, (Below.refl _ _).grown hgrow (Nat.le_refl _) (fun k hk => by cases hk), by simp⟩
  clear hown hgrow
  generalize (Value.slice (some ⟨w.heap.size, 0, none⟩) 0 cp) = v1 at *
  go_wp2_with (first
    | (at_builtin; refine Go.Lib.wpList_append_own_string _ rfl _ _ 39 9 rfl w.heap.size 5 i0 Try.underlying39 Try.underlying9 hi hz0 hz1 hz2 _ _ _ rfl HB1.out.own _ rfl ?d1 ?d2 HB1.out.below.size ?_))
  case d1 => unfold maxLen; decide
  case d2 => decide
  intro v2 w2 hown hgrow _
  have HB2 : Lk (Bt w w2 v2 [77, 69, 77, 49]) := ⟨HB1.out.after (l := [77, 69, 77, 49]) (by decide) hown hgrow⟩
  have HN2 : Lk (PN w2 b g n cap ws up) := ⟨HN.out.keep (HB2.out.below.block b HN.out.size) (HB2.out.below.block g HN.out.row.size)⟩
  clear hown hgrow HB1
  go_wp2_with fail
  refine (CL w2 HN2).mono ?_
  rintro e w' ⟨rfl, rfl⟩
  go_wp2_with fail
  refine (appendNumber_any w w2 v2 _ 2 L HB2 (by decide) (by omega)).mono ?_
  rintro e w3 ⟨v3, rfl, HB3⟩
  have HN3 : Lk (PN w3 b g n cap ws up) := ⟨HN.out.keep (HB3.out.below.block b HN.out.size) (HB3.out.below.block g HN.out.row.size)⟩
  clear HB2 HN2
  have hu := HN3.out.c1
  go_wp2_with fail
  refine (upByte_any up w3).mono ?_
  rintro e w' ⟨rfl, rfl⟩
  have HL3 : Lk (([77, 69, 77, 49] ++ low L 2 : List Nat).length = 6) := ⟨by simp [low_len]⟩
  generalize hacc : ([77, 69, 77, 49] ++ low L 2 : List Nat) = acc at *
  have HE : Lk (head L up = acc ++ [upB up]) := ⟨by rw [head, hacc]⟩
  clear hacc
  have hub := upB_lt up
  generalize upB up = ub at *
  go_wp2_with (first
    | (at_builtin; refine wpList_append_own _ rfl _ _ 39 rfl w.heap.size 5 i0 (.int .u8 0) 1 1 Try.underlying39 hi hz0 hz1 hz2 rfl (by decide) _ _ _ rfl (HB3.out.on ((Below.refl _ w3).alloc (Nat.le_refl _) _)).own ⟨w3.heap.size, 0, none⟩ 1 1 [.int .u8 (ub : Int)] rfl rfl ?c1 ?c2 ?c3 ?c4 ?c5 ?_))
  case c1 =>
    intro j u hj
    match j, hj with
    | 0, hj => simp at hj; subst hj; simp [Addr.add]
  case c2 => intro u hu; simp at hu; subst hu; rfl
  case c3 => rw [HL3.out]; unfold maxLen; omega
  case c4 => rw [HL3.out]; omega
  case c5 => have := HB3.out.below.size; simp; omega
  intro v4 w4 hown hgrow _
  have HB4 : Lk (Bt w w4 v4 (head L up)) := ⟨by
    have := (HB3.out.on ((Below.refl _ w3).alloc (Nat.le_refl _) (.cells #[.int .u8 (ub : Int)] 5))).after (l := [ub]) (fun z hz => by rw [List.mem_singleton] at hz; omega) (by simpa [u8v] using hown) hgrow
    rw [HE.out]; exact this⟩
  have HN4 : Lk (PN w4 b g n cap ws up) := ⟨HN.out.keep (HB4.out.below.block b HN.out.size) (HB4.out.below.block g HN.out.row.size)⟩
  clear hown hgrow HB3 HN3 hu HE HL3
  have hc := HN4.out.c0
  have HS : Lk (Bt w w4 v4 (head L up ++ bytesOf (ws.take 0))) := ⟨by have := HB4.out; simpa [bytesOf] using this⟩
  have hlw := HN.out.row.len
  have HWL : Lk (ws.length = n) := ⟨hlw⟩
  clear hlw HB4
  go_wp2_with fail
  go_loopw [3, 30] (fun s3 s30 wr => ∃ k : Nat, k ≤ n ∧ s30 = .int .i64 k ∧ Lk (Bt w wr s3 (head L up ++ bytesOf (ws.take k)))) (fun _ i _ => n - (intOf i).toNat)
  case atStart => exact ⟨0, by omega, rfl, HS⟩
  case round =>
    clear HS HN4 hc
    obtain ⟨k, hk, rfl, HB⟩ := hrel
    by_cases hlt : k < n
    · have hcell := (HB.out.below.cell (block_lt_of_cell (HN.out.row.cell hlt))).trans (HN.out.row.cell hlt)
      have hx := getD_lt HN.out.row.lt (show k < ws.length by have := HWL.out; omega)
      have HT : Lk (head L up ++ bytesOf (ws.take (k + 1)) = head L up ++ bytesOf (ws.take k) ++ low (ws.getD k 0) 8) := ⟨by rw [bytesOf_next (by have := HWL.out; omega), List.append_assoc]; rfl⟩
      have HK : Lk ((head L up ++ bytesOf (ws.take k)).length ≤ 7 + 8 * k) := ⟨by rw [List.length_append, head_len, bytesOf_len, List.length_take]; omega⟩
      generalize ws.getD k 0 = x at *
      generalize head L up ++ bytesOf (ws.take k) = acc2 at *
      go_wp2_with fail
      refine (appendNumber_any w _ _ _ 8 x HB (by have := HK.out; omega) hx).mono ?_
      rintro e w5 ⟨v5, rfl, HB5⟩
      rw [← HT.out] at HB5
      clear HB hcell HT
      go_wp2_with fail
      go_roundw
      case rel => exact ⟨k + 1, by omega, by go_num, HB5⟩
      case measure => simp [intOf]; omega
    · obtain rfl : n = k := by omega
      have HB6 : Lk (Bt w wr u3 (body ws up L)) := ⟨by have := HB.out; rw [List.take_of_length_le (Nat.le_of_eq HWL.out)] at this; exact this⟩
      have hbl := body_len ws up L
      have HC : Lk ((body ws up L).length = 7 + 8 * n) := ⟨by rw [hbl, HWL.out]⟩
      clear HB hbl
      go_wp2_with fail
      refine (crcBytes_on w wr u3 _ HB6 (by rw [HC.out]; omega)).mono ?_
      rintro e w7 ⟨rfl, HB7⟩
      have hcl := crc_lt HB7.out.lt
      go_wp2_with fail
      refine (appendNumber_any w w7 _ _ 8 _ HB7 (by rw [HC.out]; omega) hcl).mono ?_
      rintro e w8 ⟨v8, rfl, HB8⟩
      go_wp2_with fail
      go_ret
      exact ⟨v8, rfl, HB8⟩
end Go.Proofs.Ytacfmkmiikkppaa.Nr
namespace Go.Proofs.Ytacfmkmiikkppaa.Ns
open Go.ChangeShapes Go.WideShapes Go.ChangeAt Go.RowKit Ga Ma Ca Cb Cc Cd Ce Na Nb Nc Nd_ Nf Nq Nr
set_option linter.unusedVariables false
set_option linter.unusedSimpArgs false

theorem bt_set {w0 wr : World} {g n cap : Nat} {bs : List Nat} (h : Bt w0 wr (.slice (some ⟨g, 0, none⟩) n cap) bs) (j x : Nat) (hx : x < 256) : Bt w0 (wr.setCell ⟨g, j, none⟩ (.int .u8 (x : Int))) (.slice (some ⟨g, 0, none⟩) n cap) (bs.set j x) := by
  have hge := (h.own.lt g rfl).1
  have hn : n = bs.length := by
    rcases h.own.2 with ⟨h', _⟩ | ⟨g', cap', cur, h', _⟩
    · simp at h'
    · simp only [Value.slice.injEq] at h'; omega
  subst hn
  refine ⟨?_, h.below.setCell (p := ⟨g, j, none⟩) hge _, set_lt h.lt hx j⟩
  have := (h.own.stored j (u8v x)).1
  rw [← List.map_set] at this
  rw [List.length_set]
  exact this
theorem refBytes_on (w0 w : World) (v : Value) (bs : List Nat) (h : Lk (Bt w0 w v bs)) (hl : bs.length ≤ 5000) :
    Calls Try.prog 76 #[v] w fun e w' => e = .returned (.int .u64 ((crc bs : Nat) : Int)) ∧ w = w' := by
  obtain ⟨A, c, rfl, hc, hL⟩ := h.out.form
  exact refBytes_any A bs c w w.heap.size hl h.out.lt hL
/-- Little, seen from a call that began in w0: eight new bytes. -/
theorem little_on (w0 w : World) (v : Value) (bs : List Nat) (x : Nat) (h : Lk (Bt w0 w v bs)) (hx : x < 18446744073709551616) :
    Calls Try.prog 75 #[.int .u64 x] w fun e w' => ∃ a : Nat, e = .returned (.slice (some ⟨a, 0, none⟩) 8 8) ∧ Lk (Bt w0 w' v bs) ∧ Lk (∀ j u, ((little x).map u8v)[j]? = some u → w'.cell? ((⟨a, 0, none⟩ : Addr).add j) = some u) :=
  (little_any x w hx).mono fun e w' ⟨h1, h2, h3⟩ => ⟨w.heap.size, h1, ⟨h.out.on h3⟩, ⟨by
    obtain ⟨ad, e1, _, hc⟩ := h2 (by rw [little_len]; decide)
    simp only [Option.some.injEq] at e1
    subst e1
    exact bytes_cells hc⟩⟩
def cells7 (L : Nat) : Array Value := #[.int .u8 77, .int .u8 69, .int .u8 77, .int .u8 49, .int .u8 (L : Int), .int .u8 ((L : Int) / 256), .int .u8 0]
theorem low2 (L : Nat) : low L 2 = [L % 256, L / 256 % 256] := by simp [low, List.range, List.range.loop]
theorem seven (w : World) (L : Nat) (h : L ≤ 64) : Bt w (w.alloc (.cells (cells7 L) 5)) (.slice (some ⟨w.heap.size, 0, none⟩) 7 7) (head L false) := by
  refine ⟨?_, (Below.refl _ w).alloc (Nat.le_refl _) _, fun x hx => ?_⟩
  · have := World.ownsRow_lit (base := w.heap.size) (e := 5) (size := 1) w (cells7 L) 7 (Nat.le_refl _) (by decide) rfl
    rw [head_len]
    have e : (cells7 L).toList = (head L false).map u8v := by
      rw [head, low2, Nat.mod_eq_of_lt (show L < 256 by omega), Nat.mod_eq_of_lt (show L / 256 < 256 by omega)]
      simp [cells7, u8v, upB]
    rwa [e] at this
  · rw [head] at hx
    rcases List.mem_append.1 hx with hx | hx
    · rcases List.mem_append.1 hx with hx | hx
      · simp at hx; omega
      · exact low_lt L 2 x hx
    · rw [List.mem_singleton] at hx; rw [hx]; exact upB_lt _
theorem head_up (L : Nat) : (head L false).set 6 1 = head L true := by
  rw [head, head, low2]
  rfl

set_option maxRecDepth 100000 in
set_option maxHeartbeats 2000000 in
theorem refImage_any (b g n cap : Nat) (ws : List Nat) (up : Bool) (w : World) (L : Nat) (HN : Lk (RN w b g n cap ws up)) (hL : n = 8 * L) (h1 : 1 ≤ L) (h2 : L ≤ 64) :
    Calls Try.prog 42 #[.pointer (some ⟨b, 0, none⟩)] w fun e w' => ∃ v, e = .returned v ∧ Lk (Bt w w' v (img ws up L)) := by
  obtain ⟨i0, hi, hz0, hz1, hz2⟩ := info_parts u8info
  have hn : n ≤ 512 := by omega
  have hc := HN.out.c0
  have hd : ((n : Int) / 8) = L := by omega
  have HD := Lib.hid hd
  clear hd
  have HL : Lk (n = 8 * L) := ⟨hL⟩
  have H7 : Lk _ := ⟨seven w L h2⟩
  clear hL
  go_enter Try.func42, Try.ntmps42
  go_upto_region 2 with fail
  rw [HD.out]
  go_upto_region 3 with fail
  have HW : Lk (w.alloc (.cells #[.int .u8 77, .int .u8 69, .int .u8 77, .int .u8 49, .int .u8 (L : Int), .int .u8 ((L : Int) / 256), .int .u8 0] 5) = w.alloc (.cells (cells7 L) 5)) := ⟨rfl⟩
  rw [HW.out]
  clear HW
  generalize w.alloc (.cells (cells7 L) 5) = W at *
  generalize w.heap.size = o at *
  have hu := (HN.out.keep (H7.out.below.block b HN.out.size) (H7.out.below.block g HN.out.row.size)).c1
  go_upto_if 21 with fail
  go_cut [22] (fun _ wx => Lk (Bt w wx (.slice (some ⟨o, 0, none⟩) 7 7) (head L up)))
  case first =>
    cases up with
    | false =>
      go_wp2
      all_goals go_meet
      all_goals exact H7
    | true =>
      have H8 : Lk (Bt w _ (.slice (some ⟨o, 0, none⟩) 7 7) (head L true)) := ⟨by rw [← head_up]; exact bt_set H7.out 6 1 (by decide)⟩
      have hc6 : Lk (∃ v, W.cell? ⟨o, 6, none⟩ = some v) := ⟨by
        have := H7.out.own.cellAt 6 (by decide)
        rw [this, List.getElem?_eq_getElem (by simp [head_len])]
        exact ⟨_, rfl⟩⟩
      obtain ⟨v6, hv6⟩ := hc6.out
      have hf6 := H7.out.own.frozenAt 6
      go_wp2
      all_goals go_meet
      all_goals exact H8
  case rest =>
  have HS : Lk (Bt w wc (.slice (some ⟨o, 0, none⟩) 7 7) (head L up ++ bytesOf (ws.take 0))) := ⟨by have := hcut.out; simpa [bytesOf] using this⟩
  have HWL : Lk (ws.length = n) := ⟨HN.out.row.len⟩
  clear hcut hu H7 HD W
  generalize (Value.slice (some ⟨o, 0, none⟩) 7 7) = v0 at *
  go_wp2_with fail
  go_loopw [4, 5] (fun s4 s5 wr => ∃ k : Nat, k ≤ n ∧ s5 = .int .i64 k ∧ Lk (Bt w wr s4 (head L up ++ bytesOf (ws.take k)))) (fun _ i _ => n - (intOf i).toNat)
  case atStart => exact ⟨0, by omega, rfl, HS⟩
  case round =>
    clear HS hc
    obtain ⟨k, hk, rfl, HB⟩ := hrel
    have hc := (HB.out.below.cell (block_lt_of_cell HN.out.c0)).trans HN.out.c0
    by_cases hlt : k < n
    · have hcell := (HB.out.below.cell (block_lt_of_cell (HN.out.row.cell hlt))).trans (HN.out.row.cell hlt)
      have hx := getD_lt HN.out.row.lt (show k < ws.length by have := HWL.out; omega)
      have HT : Lk (head L up ++ bytesOf (ws.take (k + 1)) = head L up ++ bytesOf (ws.take k) ++ little (ws.getD k 0)) := ⟨by rw [bytesOf_next (by have := HWL.out; omega), List.append_assoc]⟩
      have HK : Lk ((head L up ++ bytesOf (ws.take k)).length ≤ 7 + 8 * k) := ⟨by rw [List.length_append, head_len, bytesOf_len, List.length_take]; omega⟩
      generalize ws.getD k 0 = x at *
      generalize head L up ++ bytesOf (ws.take k) = acc2 at *
      go_wp2_with fail
      refine (little_on w wr u4 acc2 x HB hx).mono ?_
      rintro e w5 ⟨a5, rfl, HB5, HC5⟩
      clear HB hcell hc
      go_wp2_with (first
        | (at_builtin; refine wpList_append_own _ rfl _ _ 39 rfl w.heap.size 5 i0 (.int .u8 0) 1 1 Try.underlying39 hi hz0 hz1 hz2 rfl (by decide) _ _ _ rfl HB5.out.own ⟨a5, 0, none⟩ 8 8 ((little x).map u8v) rfl ?c1 HC5.out (bytes_one _) ?c3 ?c4 ?c5 ?_))
      case c1 => simp [little_len]
      case c3 => have := HK.out; unfold maxLen; omega
      case c4 => have := HK.out; omega
      case c5 => exact HB5.out.below.size
      intro v6 w6 hown hgrow _
      have HB6 : Lk (Bt w w6 v6 (acc2 ++ little x)) := ⟨HB5.out.after (fun y hy => low_lt x 8 y hy) (by rw [little_len]; exact hown) hgrow⟩
      rw [← HT.out] at HB6
      clear hown hgrow HB5 HC5 HT
      go_wp2_with fail
      go_roundw
      case rel => exact ⟨k + 1, by omega, by go_num, HB6⟩
      case measure => simp [intOf]; omega
    · obtain rfl : n = k := by omega
      have HB6 : Lk (Bt w wr u4 (body ws up L)) := ⟨by have := HB.out; rw [List.take_of_length_le (Nat.le_of_eq HWL.out)] at this; exact this⟩
      have hbl := body_len ws up L
      have HC : Lk ((body ws up L).length = 7 + 8 * n) := ⟨by rw [hbl, HWL.out]⟩
      clear HB hbl
      have hcl := crc_lt HB6.out.lt
      go_wp2_with fail
      refine (refBytes_on w wr u4 _ HB6 (by rw [HC.out]; omega)).mono ?_
      rintro e w7 ⟨rfl, rfl⟩
      go_wp2_with fail
      refine (little_on w wr u4 _ _ HB6 hcl).mono ?_
      rintro e w8 ⟨a8, rfl, HB8, HC8⟩
      generalize hxx : crc (body ws up L) = x at *
      have HXX : Lk (crc (body ws up L) = x) := ⟨hxx⟩
      clear hxx
      go_wp2_with (first
        | (at_builtin; refine wpList_append_own _ rfl _ _ 39 rfl w.heap.size 5 i0 (.int .u8 0) 1 1 Try.underlying39 hi hz0 hz1 hz2 rfl (by decide) _ _ _ rfl HB8.out.own ⟨a8, 0, none⟩ 8 8 ((little x).map u8v) rfl ?e1 HC8.out (bytes_one _) ?e3 ?e4 ?e5 ?_))
      case e1 => simp [little_len]
      case e3 => rw [HC.out]; unfold maxLen; omega
      case e4 => rw [HC.out]; omega
      case e5 => exact HB8.out.below.size
      intro v9 w9 hown hgrow _
      have HB9 : Lk (Bt w w9 v9 (body ws up L ++ little x)) := ⟨HB8.out.after (fun y hy => low_lt x 8 y hy) (by rw [little_len]; exact hown) hgrow⟩
      clear hown hgrow HB8 HC8
      go_wp2_with fail
      go_ret
      exact ⟨v9, rfl, ⟨by rw [img, HXX.out]; exact HB9.out⟩⟩
end Go.Proofs.Ytacfmkmiikkppaa.Ns
namespace Go.Proofs.Ytacfmkmiikkppaa.Nt
open Go.ChangeShapes Go.WideShapes Go.ChangeAt Go.RowKit Ga Ma Ca Cb Cc Cd Ce Na Nb Nc Nd_ Nf Nq Nr Ns
set_option linter.unusedVariables false
set_option linter.unusedSimpArgs false
set_option maxRecDepth 10000

/-- The string of these bytes. -/
def str (l : List Nat) : ByteArray := strOfNums (l.map fun x : Nat => (x : Int))
theorem str_inj {a b : List Nat} (ha : ∀ x ∈ a, x < 256) (hb : ∀ x ∈ b, x < 256) (h : str a = str b) : a = b := by
  have h1 : (str a).data.toList = (str b).data.toList := by rw [h]
  unfold str at h1
  rw [strOfNums_data, strOfNums_data, List.map_map, List.map_map] at h1
  apply List.ext_getElem
  · have := congrArg List.length h1
    simpa using this
  · intro i hi1 hi2
    have h2 : (a.map ((fun n : Int => UInt8.ofNat n.toNat) ∘ fun x : Nat => (x : Int)))[i]? = (b.map ((fun n : Int => UInt8.ofNat n.toNat) ∘ fun x : Nat => (x : Int)))[i]? := by rw [h1]
    simp [hi1, hi2] at h2
    have e1 := ha a[i] (List.getElem_mem _)
    have e2 := hb b[i] (List.getElem_mem _)
    have h3 := congrArg UInt8.toNat h2
    simpa [UInt8.toNat_ofNat', Nat.mod_eq_of_lt, e1, e2] using h3
theorem conv_run {w : World} {B : Nat} {A : Option Addr} {l : List Nat} {n c : Nat} (hn : l.length = n) (hp : 0 < n) (h : Lies .u8 w B A l) :
    (convert 39 9 (.slice A n c)).run Try.prog w = .ok (.string (str l)) w := by
  obtain ⟨⟨b, o, s⟩, rfl, _, hc⟩ := h (by omega)
  obtain rfl : s = none := by simpa [Addr.add] using World.cell?_spot (hc 0 (by omega))
  refine run_convert_bytes_arg w 39 5 Try.underlying39 Try.underlying5 b o n c (l.map fun x : Nat => (x : Int)) (by simp [hn]) (fun i hi => ?_) 9 Try.underlying9
  have := hc i (by omega)
  rw [add_at] at this
  rw [this]
  have hil : i < l.length := by omega
  simp [hil]
theorem img_lt {ws : List Nat} {up : Bool} {L : Nat} : ∀ x ∈ img ws up L, x < 256 := fun x hx => by
  have hb : ∀ x ∈ body ws up L, x < 256 := fun x hx => by
    rcases List.mem_append.1 hx with hx | hx
    · rcases List.mem_append.1 hx with hx | hx
      · rcases List.mem_append.1 hx with hx | hx
        · simp at hx; omega
        · exact low_lt L 2 x hx
      · rw [List.mem_singleton] at hx; rw [hx]; exact upB_lt _
    · exact bytesOf_lt ws x hx
  rcases List.mem_append.1 hx with hx | hx
  · exact hb x hx
  · exact low_lt _ 8 x hx

theorem sameImage_any (A : Option Addr) (l : List Nat) (m c b g n cap : Nat) (ws : List Nat) (up : Bool) (w : World) (L : Nat) (hm : l.length = m) (HL : Lk (Lies .u8 w w.heap.size A l)) (HE : Lk (l = img ws up L)) (HN : Lk (RN w b g n cap ws up)) (hL : n = 8 * L) (h1 : 1 ≤ L) (h2 : L ≤ 64) :
    Calls Try.prog 11 #[.slice A m c, .pointer (some ⟨b, 0, none⟩)] w fun e w' => e = .returned (.bool true) ∧ Lk (Below w.heap.size w w') := by
  have hwl := HN.out.row.len
  have hil := img_len ws up L
  have hm15 : 15 ≤ m := by rw [← hm, HE.out, hil]; omega
  have HM : Lk (l.length = m) := ⟨hm⟩
  have CI := fun wx (hx : RN wx b g n cap ws up) => refImage_any b g n cap ws up wx L ⟨hx⟩ hL h1 h2
  have HCI := Lib.hid CI
  have hc0 := conv_run (w := w.drew) (c := c) hm (by omega) (HL.out.keep (w' := w.drew) fun _ _ => rfl)
  clear CI hL hm hil hwl
  go_enter Try.func11, Try.ntmps11
  go_wp2_with fail
  go_region_with (go_at_call 42; refine (HCI.out w.drew (HN.out.keep rfl rfl)).mono ?_; rintro e w2 ⟨v2, rfl, HB2⟩; obtain ⟨A2, c2, rfl, hc2, hL2⟩ := HB2.out.form; have HLn := Lib.hid (img_len ws up L); have hcv2 := conv_run (c := c2) rfl (by rw [img_len]; omega) hL2; have hcv1 := conv_run (c := c) HM.out (by omega) ((HL.out.keep (w' := w.drew) fun _ _ => rfl).below HB2.out.below))
  all_goals go_wp2
  all_goals go_ret
  all_goals exact ⟨ret_bool (by rw [HE.out]; simp), ⟨⟨HB2.out.below.os, HB2.out.below.tape, HB2.out.below.output, HB2.out.below.size, HB2.out.below.block⟩⟩⟩
end Go.Proofs.Ytacfmkmiikkppaa.Nt
namespace Go.Proofs.Ytacfmkmiikkppaa.Nu
open Go.ChangeShapes Go.WideShapes Go.ChangeAt Go.RowKit Ga Na Nb Nc Nd_ Nf
set_option linter.unusedVariables false
set_option linter.unusedSimpArgs false
set_option maxRecDepth 10000

theorem box_node {T : TypeId} {w : World} {g n cap : Nat} {ws : List Nat} {up : Bool} (h : Row w g n cap ws) : Nd T (w.alloc (.cells #[.slice (some ⟨g, 0, none⟩) n cap, .bool up] T)) w.heap.size g n cap ws up :=
  ⟨heap_alloc_new w _, h.keep (Below.heap_alloc w _ g h.size), by have := h.size; omega⟩
theorem copy_any (b g n cap : Nat) (ws : List Nat) (up : Bool) (w : World) (HN : Lk (PN w b g n cap ws up)) (h1 : 1 ≤ n) (h2 : n ≤ 4294967296) :
    Calls Try.prog 27 #[.pointer (some ⟨b, 0, none⟩)] w fun e w' => ∃ b2 g2 cap2 : Nat, e = .returned (.pointer (some ⟨b2, 0, none⟩)) ∧ Lk (w.heap.size ≤ b2 ∧ w.heap.size ≤ g2) ∧ Lk (PN w' b2 g2 n cap2 ws up) ∧ Lk (Below w.heap.size w w') := by
  have HN0 : Lk (PN w.drew b g n cap ws up) := ⟨HN.out.drew 1⟩
  have hc := HN.out.c0
  have hu := HN.out.c1
  have CC := clone_ok ⟨g, 0, none⟩ ws n cap w.drew HN.out.row.len h1 h2 ⟨HN.out.row.lt⟩ ⟨fun j hj => by rw [add_zero_]; exact HN0.out.row.cell hj⟩
  go_enter Try.func27, Try.ntmps27
  go_wp2_with fail
  go_region_with (go_at_call 56; refine CC.mono ?_; rintro e w2 ⟨g2, cap2, rfl, HG2, HR2, HB2⟩; have hu2 := (HB2.out.cell (block_lt_of_cell HN0.out.c1)).trans HN0.out.c1; have HB3 := HB2; have HX := (⟨box_node (T := 90) (up := up) HR2.out⟩ : Lk _); have HS := HB2.out.size)
  all_goals go_wp2
  all_goals go_ret
  all_goals exact ⟨_, g2, cap2, rfl, ⟨HS, HG2.out⟩, HX, ⟨(Below.trans (b := w2) ⟨HB2.out.os, HB2.out.tape, HB2.out.output, HB2.out.size, HB2.out.block⟩ ((Below.refl _ w2).alloc HS _))⟩⟩
/-- The reference's copy: its words appended to nothing, its struct laid behind .. -/
theorem made_after {w5 wx w6 : World} {gs cps : Nat} {ws : List Nat} {up : Bool} (hb : Below w5.heap.size w5 wx) (hg : wx.grownBy w6 none)
    (hown : w6.ownsRow w5.heap.size 33 1 (.slice (some ⟨gs, 0, none⟩) 16 cps) 16 (ws.map u64v)) (hl : ws.length = 16) (hlt : ∀ x ∈ ws, x < 18446744073709551616) :
    RN (w6.alloc (.cells #[.slice (some ⟨gs, 0, none⟩) 16 cps, .bool up] 72)) w6.heap.size gs 16 cps ws up ∧ w5.heap.size ≤ w6.heap.size ∧ w5.heap.size ≤ gs ∧
    Below w5.heap.size w5 (w6.alloc (.cells #[.slice (some ⟨gs, 0, none⟩) 16 cps, .bool up] 72)) := by
  have hB := hb.grown hg hb.size (fun k hk => by cases hk)
  exact ⟨box_node ⟨owns_base hown, hl, hlt⟩, hB.size, (hown.lt gs rfl).1, hB.alloc hB.size _⟩
/-- .. or ahead. -/
theorem made_before {w5 w6 : World} {gs cps : Nat} {ws : List Nat} {up : Bool} (hg : (w5.alloc (.cells #[.slice none 0 0, .bool false] 72)).drew.grownBy w6 none)
    (hown : w6.ownsRow w5.heap.size 33 1 (.slice (some ⟨gs, 0, none⟩) 16 cps) 16 (ws.map u64v)) (hl : ws.length = 16) (hlt : ∀ x ∈ ws, x < 18446744073709551616) :
    w6.cell? ⟨w5.heap.size, 0, none⟩ = some (.slice none 0 0) ∧ w6.cell? ⟨w5.heap.size, 1, none⟩ = some (.bool false) ∧ w6.frozen? ⟨w5.heap.size, 0, none⟩ = false ∧ w6.frozen? ⟨w5.heap.size, 1, none⟩ = false ∧
    Lk (RN ((w6.setCell ⟨w5.heap.size, 0, none⟩ (.slice (some ⟨gs, 0, none⟩) 16 cps)).setCell ⟨w5.heap.size, 1, none⟩ (.bool up)) w5.heap.size gs 16 cps ws up ∧ w5.heap.size ≤ gs ∧
      Below w5.heap.size w5 ((w6.setCell ⟨w5.heap.size, 0, none⟩ (.slice (some ⟨gs, 0, none⟩) 16 cps)).setCell ⟨w5.heap.size, 1, none⟩ (.bool up))) := by
  have hb : Below w5.heap.size w5 (w5.alloc (.cells #[.slice none 0 0, .bool false] 72)).drew := ((Below.refl _ w5).alloc (Nat.le_refl _) _).drew
  have hB := hb.grown hg hb.size (fun k hk => by cases hk)
  have e0 : w6.heap[w5.heap.size]? = some (.cells #[.slice none 0 0, .bool false] 72 (0, 0)) := (hg.block w5.heap.size (show w5.heap.size < (w5.alloc _).heap.size by simp) (by simp)).trans (heap_alloc_new w5 _)
  have e1 := heap_setCell_same w6 w5.heap.size 0 _ _ (.slice (some ⟨gs, 0, none⟩) 16 cps) e0
  have e2 := heap_setCell_same _ w5.heap.size 1 _ _ (.bool up) e1
  have hgs := (hown.lt gs rfl).1
  have hne : w5.heap.size ≠ gs := by
    rintro rfl
    rcases hown.2 with ⟨h', _⟩ | ⟨g', cap', cur, h', _, h4, _⟩
    · simp at h'
    · simp only [Value.slice.injEq, Option.some.injEq, Addr.mk.injEq, and_true, true_and] at h'
      obtain ⟨rfl, rfl⟩ := h'
      rw [e0] at h4
      simp at h4
  have hR : Row w6 gs 16 cps ws := ⟨owns_base hown, hl, hlt⟩
  exact ⟨(cell_of_row _ _ 0 _ _ _ e0).trans rfl, (cell_of_row _ _ 1 _ _ _ e0).trans rfl, frozen_of_row _ _ 0 _ _ e0, frozen_of_row _ _ 1 _ _ e0,
    ⟨⟨e2, hR.keep ((Below.heap_setCell _ ⟨w5.heap.size, 1, none⟩ _ gs (Ne.symm hne)).trans (Below.heap_setCell _ ⟨w5.heap.size, 0, none⟩ _ gs (Ne.symm hne))), hne⟩, hgs,
      (hB.setCell (p := ⟨w5.heap.size, 0, none⟩) (Nat.le_refl _) _).setCell (p := ⟨w5.heap.size, 1, none⟩) (Nat.le_refl _) _⟩⟩
theorem alloc_cell {w : World} {p : Addr} {v : Value} (o : Obj) (h : w.cell? p = some v) : (w.alloc o).cell? p = some v := (World.cell?_of_block (w := w) (Below.heap_alloc w o _ (block_lt_of_cell h))).trans h
theorem grown_cell {wx w6 : World} {p : Addr} {v : Value} (hg : wx.grownBy w6 none) (h : wx.cell? p = some v) : w6.cell? p = some v := hg.cell h (by simp)
end Go.Proofs.Ytacfmkmiikkppaa.Nu

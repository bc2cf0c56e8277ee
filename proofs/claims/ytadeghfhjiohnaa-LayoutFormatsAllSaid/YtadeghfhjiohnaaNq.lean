/-
  Rows of bytes of a call's own; a number appended byte by byte.
-/
import Derived.Test.YtadeghfhjiohnaaNf
import Derived.Test.YtadeghfhjiohnaaCe
import Derived.Lib.AppendStr
namespace Go.Proofs.Ytadeghfhjiohnaa.Nq
open Go.ChangeShapes Go.WideShapes Go.ChangeAt Go.RowKit Ga Ma Ca Cb Cc Cd Ce Na Nb Nc Nd_ Nf
set_option linter.unusedVariables false
set_option linter.unusedSimpArgs false
set_option maxRecDepth 10000

def u8v (x : Nat) : Value := .int .u8 (x : Int)
theorem u8info : (Try.prog.info? 5).map (fun i => (i.zero, i.size, i.bytes)) = some (some (.int .u8 0), 1, 1) := by kernel_rfl
/-- v is a row of the call's own (begun in w0), with these bytes. -/
structure Bt (w0 wr : World) (v : Value) (bs : List Nat) : Prop where
  own : wr.ownsRow w0.heap.size 5 1 v bs.length (bs.map u8v)
  below : Below w0.heap.size w0 wr
  lt : ∀ x ∈ bs, x < 256
section
variable {w0 wr w' : World} {v v' : Value} {bs : List Nat}
theorem Bt.form (h : Bt w0 wr v bs) : ∃ A c, v = .slice A bs.length c ∧ bs.length ≤ c ∧ Lies .u8 wr wr.heap.size A bs := by
  rcases h.own.2 with ⟨rfl, h0⟩ | ⟨g, cap, cur, rfl, hb, hg, hn, hm, hs, ht⟩
  · have : bs = [] := List.eq_nil_of_length_eq_zero h0
    subst this
    exact ⟨none, 0, rfl, Nat.le_refl _, Lies.none_⟩
  · refine ⟨some ⟨g, 0, none⟩, cap, rfl, hn, fun hl => ⟨_, rfl, (Array.getElem?_eq_some_iff.1 hg).1, fun j hj => ?_⟩⟩
    rw [add_zero_, h.own.cellAt j (by omega)]
    simp [hj, u8v]
theorem owns_on {base : Nat} {e : TypeId} {sz n : Nat} {xs : List Value} (h : wr.ownsRow base e sz v n xs) (hb : Below wr.heap.size wr w') : w'.ownsRow base e sz v n xs := by
  refine ⟨h.1, ?_⟩
  rcases h.2 with h' | ⟨g', cap', cur, h', h3, h4, h5⟩
  · exact .inl h'
  · exact .inr ⟨g', cap', cur, h', h3, (hb.block g' (Array.getElem?_eq_some_iff.1 h4).1).trans h4, h5⟩
theorem Bt.on (h : Bt w0 wr v bs) (hb : Below wr.heap.size wr w') : Bt w0 w' v bs := ⟨owns_on h.own hb, h.below.trans (hb.mono h.below.size), h.lt⟩
theorem Bt.drew (h : Bt w0 wr v bs) (m : Nat) : Bt w0 (wr.drewN m) v bs := h.on ⟨rfl, rfl, rfl, Nat.le_refl _, fun _ _ => rfl⟩
/-- An append: new bytes behind the old ones. -/
theorem Bt.after {l : List Nat} (h : Bt w0 wr v bs) (hl : ∀ x ∈ l, x < 256) (hown : w'.ownsRow w0.heap.size 5 1 v' (bs.length + l.length) (bs.map u8v ++ l.map u8v)) (hg : wr.grownBy w' v.ownBlock) : Bt w0 w' v' (bs ++ l) := by
  refine ⟨?_, h.below.grown hg h.below.size fun k hk => (h.own.lt k hk).1, fun x hx => (List.mem_append.1 hx).elim (h.lt x) (hl x)⟩
  rw [List.length_append, List.map_append]
  exact hown
theorem bytes_cells {l : List Nat} {ad : Addr} (h : ∀ j, j < l.length → wr.cell? (ad.add j) = some (.int .u8 ((l.getD j 0 : Nat) : Int))) : ∀ j u, (l.map u8v)[j]? = some u → wr.cell? (ad.add j) = some u := fun j u hj => by
  rw [List.getElem?_map] at hj
  have hjl : j < l.length := by
    by_cases h : j < l.length
    · exact h
    · rw [List.getElem?_eq_none (by omega)] at hj; simp at hj
  rw [List.getElem?_eq_getElem hjl] at hj
  obtain rfl : u8v l[j] = u := by simpa using hj
  rw [h j hjl]
  simp [hjl, u8v]
theorem bytes_one (l : List Nat) : ∀ u ∈ l.map u8v, u.oneCell' = true := fun u hu => by
  rw [List.mem_map] at hu
  obtain ⟨x, _, rfl⟩ := hu
  rfl
end
/-- The lowest k bytes of x, the least significant one first. -/
def low (x k : Nat) : List Nat := (List.range k).map fun j => x / 2 ^ (8 * j) % 256
theorem low_more (x k : Nat) : low x (k + 1) = low x k ++ [x / 2 ^ (8 * k) % 256] := by simp [low, List.range_succ]
theorem low_len (x k : Nat) : (low x k).length = k := by simp [low]
theorem low_lt (x k : Nat) : ∀ y ∈ low x k, y < 256 := fun y hy => by
  unfold low at hy
  rw [List.mem_map] at hy
  obtain ⟨j, _, rfl⟩ := hy
  exact Nat.mod_lt _ (by decide)
theorem low_next (x k : Nat) : x / 2 ^ (8 * k) / 256 = x / 2 ^ (8 * (k + 1)) := by
  rw [Nat.div_div_eq_div_mul]
  congr 1
  rw [show 8 * (k + 1) = 8 * k + 8 by omega, Nat.pow_add]

set_option maxHeartbeats 1000000 in
theorem appendNumber_any (w0 w : World) (v : Value) (bs : List Nat) (size x : Nat) (HB : Lk (Bt w0 w v bs)) (h1 : bs.length + size ≤ 100000) (hx : x < 18446744073709551616) :
    Calls Try.prog 51 #[v, .int .i64 size, .int .u64 x] w fun e w' => ∃ v', e = .returned v' ∧ Lk (Bt w0 w' v' (bs ++ low x size)) := by
  obtain ⟨i0, hi, hz0, hz1, hz2⟩ := info_parts u8info
  have H0 : Lk (Bt w0 w v (bs ++ low x 0)) := ⟨by have := HB.out; simpa [low] using this⟩
  have hx0 : x / 2 ^ (8 * 0) = x := by simp
  go_enter Try.func51, Try.ntmps51
  go_wp2_with fail
  go_loopw [0, 2, 8] (fun s0 s2 s8 wr => ∃ k : Nat, k ≤ size ∧ s8 = .int .i64 k ∧ s2 = .int .u64 ((x / 2 ^ (8 * k) : Nat) : Int) ∧ Lk (Bt w0 wr s0 (bs ++ low x k))) (fun s0 s2 s8 _ => size - (intOf s8).toNat)
  case atStart => exact ⟨0, by omega, rfl, by rw [hx0], H0⟩
  case round =>
    clear HB H0 hx0
    obtain ⟨k, hk, rfl, rfl, HB⟩ := hrel
    by_cases hlt : k < size
    · have HN : Lk (x / 2 ^ (8 * k) / 256 = x / 2 ^ (8 * (k + 1))) := ⟨low_next x k⟩
      have HM : Lk (bs ++ low x (k + 1) = bs ++ low x k ++ [x / 2 ^ (8 * k) % 256]) := ⟨by rw [low_more, List.append_assoc]⟩
      have HL : Lk ((bs ++ low x k).length = bs.length + k) := ⟨by rw [List.length_append, low_len]⟩
      have hy : x / 2 ^ (8 * k) < 18446744073709551616 := Nat.lt_of_le_of_lt (Nat.div_le_self _ _) hx
      generalize x / 2 ^ (8 * k) = y at *
      generalize bs ++ low x k = acc at *
      go_wp2_with (first
        | (at_builtin; refine wpList_append_own _ rfl _ _ 41 rfl w0.heap.size 5 i0 (.int .u8 0) 1 1 Try.underlying41 hi hz0 hz1 hz2 rfl (by decide) _ _ _ rfl (HB.out.on ((Below.refl _ wr).alloc (Nat.le_refl _) _)).own ⟨wr.heap.size, 0, none⟩ 1 1 [.int .u8 ((y : Int) % 256)] rfl rfl ?c1 ?c2 ?c3 ?c4 ?c5 ?_))
      case c1 =>
        intro j u hj
        match j, hj with
        | 0, hj => simp at hj; subst hj; simp [Addr.add]
      case c2 => intro u hu; simp at hu; subst hu; rfl
      case c3 => rw [HL.out]; unfold maxLen; omega
      case c4 => rw [HL.out]; omega
      case c5 => have := HB.out.below.size; simp; omega
      intro v' w1 hown' hgrow _
      have HB2 : Lk (Bt w0 w1 v' (acc ++ [y % 256])) := ⟨(HB.out.on ((Below.refl _ wr).alloc (Nat.le_refl _) _)).after (fun z hz => by rw [List.mem_singleton] at hz; omega) (by simpa [u8v] using hown') hgrow⟩
      rw [← HM.out] at HB2
      clear hown' hgrow HB HM
      go_wp2_with fail
      go_roundw
      case rel => exact ⟨k + 1, by omega, by go_num, by rw [← HN.out]; simp, HB2⟩
      case measure => simp [intOf]; omega
    · obtain rfl : size = k := by omega
      go_wp2
      go_ret
      exact ⟨_, rfl, HB⟩
end Go.Proofs.Ytadeghfhjiohnaa.Nq

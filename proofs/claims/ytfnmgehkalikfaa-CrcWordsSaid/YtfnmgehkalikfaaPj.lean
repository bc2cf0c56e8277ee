/-
  A slice of bytes that a law itself builds or makes.
-/
import Derived.Test.YtfnmgehkalikfaaPl
import Derived.OwnWalk
import Derived.Laws.OwnMore
import Derived.Deep.DeepCutAuto
import Derived.Deep.RegionWith
import Derived.Deep.RegionHeld3
import Derived.BigRegion
namespace Go.Proofs.Ytfnmgehkalikfaa.Pj
open Go.ChangeShapes Go.WideShapes Go.ChangeAt Go.RowKit Ma Pa Pb Pc Pd Pe Pf Pg Ph Pl
set_option linter.unusedVariables false
set_option linter.unusedSimpArgs false

def u8v (x : Nat) : Value := .int .u8 (x : Int)
theorem u8info : (Try.prog.info? 5).map (fun i => (i.zero, i.size, i.bytes)) = some (some (.int .u8 0), 1, 1) := by kernel_rfl
/-- v is the law's own row, with these bytes. -/
structure Built (w wr : World) (v : Value) (bs : List Nat) : Prop where
  own : wr.ownsRow w.heap.size 5 1 v bs.length (bs.map u8v)
  below : Below w.heap.size w wr
theorem Built.start (w : World) : Built w w (.slice none 0 0) [] := ⟨World.ownsRow_nil _ _ _ _, Below.refl _ _⟩
/-- The value, written out. -/
theorem Built.form {w wr : World} {v : Value} {bs : List Nat} (h : Built w wr v bs) : ∃ A c, v = .slice A bs.length c ∧ bs.length ≤ c ∧ Lies .u8 wr wr.heap.size A bs := by
  rcases h.own.2 with ⟨rfl, h0⟩ | ⟨g, cap, cur, rfl, hb, hg, hn, hm, hs, ht⟩
  · have : bs = [] := List.eq_nil_of_length_eq_zero h0
    subst this
    exact ⟨none, 0, rfl, Nat.le_refl _, Lies.none_⟩
  · refine ⟨some ⟨g, 0, none⟩, cap, rfl, hn, fun hl => ⟨_, rfl, (Array.getElem?_eq_some_iff.1 hg).1, fun j hj => ?_⟩⟩
    have hadd : (⟨g, 0, none⟩ : Addr).add j = ⟨g, j, none⟩ := by unfold Addr.add; split <;> simp_all
    rw [hadd, h.own.cellAt j (by omega)]
    simp [hj, u8v]
theorem Built.after {w wr w' : World} {v v' : Value} {bs : List Nat} {x : Nat} {o : Obj} (h : Built w wr v bs)
    (hown : w'.ownsRow w.heap.size 5 1 v' (bs.length + 1) (bs.map u8v ++ [u8v x])) (hg : (wr.alloc o).grownBy w' v.ownBlock) : Built w w' v' (bs ++ [x]) := by
  refine ⟨?_, (h.below.alloc h.below.size o).grown hg (by have := h.below.size; simp; omega) fun k hk => (h.own.lt k hk).1⟩
  rw [List.length_append, List.map_append]
  exact hown
theorem little_take {x m : Nat} (h : m < 8) : (little x).take (m + 1) = (little x).take m ++ [x / 2 ^ (8 * m) % 256] := by
  rw [take_snoc _ m (by rw [little_len]; exact h)]
  have : (little x).getD m 0 = x / 2 ^ (8 * m) % 256 := by simp [little, h]
  rw [this]
theorem take8 (x : Nat) : (little x).take 8 = little x := List.take_of_length_le (by rw [little_len]; exact Nat.le_refl _)
theorem bytesOf_len (l : List Nat) : (bytesOf l).length = 8 * l.length := by
  induction l with
  | nil => rfl
  | cons x l ih =>
    have : bytesOf (x :: l) = little x ++ bytesOf l := by simp [bytesOf]
    rw [this, List.length_append, ih, little_len, List.length_cons]; omega

/-- Block g is the law's own row of n bytes. -/
structure Mine (w wr : World) (g n cap : Nat) (bs : List Nat) : Prop where
  own : wr.ownsRow w.heap.size 5 1 (.slice (some ⟨g, 0, none⟩) n cap) n (bs.map u8v)
  below : Below w.heap.size w wr
  len : bs.length = n
  ge : w.heap.size ≤ g
  lt : ∀ x ∈ bs, x < 256
theorem Built.mine {w wr : World} {v : Value} {bs : List Nat} (h : Built w wr v bs) (hp : 0 < bs.length) (hb : ∀ x ∈ bs, x < 256) : ∃ g cap, v = .slice (some ⟨g, 0, none⟩) bs.length cap ∧ bs.length ≤ cap ∧ Mine w wr g bs.length cap bs := by
  have hown := h.own
  rcases hown.2 with ⟨_, h0⟩ | ⟨g, cap, cur, rfl, hge, hg, hn, hm, hs, ht⟩
  · omega
  · exact ⟨g, cap, rfl, hn, hown, h.below, rfl, hge, hb⟩
section
variable {w wr : World} {g n cap : Nat} {bs : List Nat}
theorem Mine.cell (h : Mine w wr g n cap bs) {j : Nat} (hj : j < n) : wr.cell? ⟨g, j, none⟩ = some (.int .u8 ((bs.getD j 0 : Nat) : Int)) := by
  rw [h.own.cellAt j (by omega)]
  have := h.len
  have hj' : j < bs.length := by omega
  simp [hj', u8v]
theorem Mine.free (h : Mine w wr g n cap bs) (j : Nat) : wr.frozen? ⟨g, j, none⟩ = false := h.own.frozenAt j
theorem Mine.set (h : Mine w wr g n cap bs) (j x : Nat) (hx : x < 256) : Mine w (wr.setCell ⟨g, j, none⟩ (u8v x)) g n cap (bs.set j x) :=
  ⟨by have := (h.own.stored j (u8v x)).1; rwa [← List.map_set] at this, h.below.setCell h.ge _, by rw [List.length_set, h.len], h.ge, fun y hy => by
    rcases List.mem_or_eq_of_mem_set hy with hy | rfl
    · exact h.lt y hy
    · exact hx⟩
theorem Mine.lies (h : Mine w wr g n cap bs) : Lies .u8 wr wr.heap.size (some ⟨g, 0, none⟩) bs := fun hp => by
  have hn := h.len
  refine ⟨_, rfl, ?_, fun j hj => ?_⟩
  · have := h.cell (j := 0) (by omega); exact block_lt_of_cell this
  · have hadd : (⟨g, 0, none⟩ : Addr).add j = ⟨g, j, none⟩ := by unfold Addr.add; split <;> simp_all
    rw [hadd, h.cell (by omega)]
end
theorem bit_test (p m : Nat) (h : p < 18446744073709551616) : bits .and .u64 ((p : Int) / 2 ^ m) 1 = ((p / 2 ^ m % 2 : Nat) : Int) := by
  have e : ((p : Int) / 2 ^ m) = ((p / 2 ^ m : Nat) : Int) := by simp
  rw [e]
  exact bit_ _ (Nat.lt_of_le_of_lt (Nat.div_le_self _ _) h)
theorem bit_yes {p m : Nat} (h : p < 18446744073709551616) (hb : p / 2 ^ m % 2 = 1) : (bits .and .u64 ((p : Int) / 2 ^ m) 1 == 1) = true := by rw [bit_test p m h, hb]; rfl
theorem bit_no {p m : Nat} (h : p < 18446744073709551616) (hb : ¬ p / 2 ^ m % 2 = 1) : (bits .and .u64 ((p : Int) / 2 ^ m) 1 == 1) = false := by
  have h0 : p / 2 ^ m % 2 = 0 := by omega
  rw [bit_test p m h, h0]; rfl
theorem xor8 (a b : Nat) (ha : a < 256) (hb : b < 256) : bits .xor .u8 (a : Int) (b : Int) = ((a ^^^ b : Nat) : Int) := u8_xor_nat a b ha hb
theorem flip_bound {x s : Nat} (hx : x < 256) (hs : s < 8) : x ^^^ 2 ^ s < 256 := Nat.xor_lt_two_pow (n := 8) hx (Nat.pow_lt_pow_right (by decide) hs)
theorem flip_num (x s : Nat) (hx : x < 256) (hs : s < 8) : Value.int .u8 (bits .xor .u8 (x : Int) (2 ^ s % 256)) = u8v (x ^^^ 2 ^ s) := by
  have h8 : 2 ^ s < 2 ^ 8 := Nat.pow_lt_pow_right (by decide) hs
  have e : ((2 : Int) ^ s % 256) = ((2 ^ s : Nat) : Int) := by
    have e1 : ((2 ^ s : Nat) : Int) = (2 : Int) ^ s := by simp
    rw [← e1]
    generalize 2 ^ s = q at *
    omega
  rw [e, xor8 x _ hx h8, u8v]
theorem map_cells {w : World} {l : List Nat} {ad : Addr} (h : ∀ j, j < l.length → w.cell? (ad.add j) = some (.int .u8 ((l.getD j 0 : Nat) : Int))) :
    ∀ j u, (l.map u8v)[j]? = some u → w.cell? (ad.add j) = some u := by
  intro j u hu
  have hj : j < l.length := by
    rcases Nat.lt_or_ge j l.length with h | h
    · exact h
    · rw [List.getElem?_eq_none (by simpa using h)] at hu; cases hu
  rw [h j hj]
  simpa [hj, u8v] using hu
theorem map_one (l : List Nat) : ∀ u ∈ l.map u8v, u.oneCell' = true := by
  intro u hu
  rw [List.mem_map] at hu
  obtain ⟨x, _, rfl⟩ := hu
  rfl
theorem Built.copied {w w1 : World} {v' : Value} {l : List Nat} (hown : w1.ownsRow w.heap.size 5 1 v' l.length (l.map u8v)) (hg : w.grownBy w1 none) : Built w w1 v' l :=
  ⟨hown, (Below.refl _ _).grown hg (Nat.le_refl _) (fun k hk => by cases hk)⟩

/-- The exclusive-or of three lists. -/
def mix (n : Nat) (a b c : List Nat) : List Nat := List.zipWith (· ^^^ ·) (List.zipWith (· ^^^ ·) (a.take n) (b.take n)) (c.take n)
theorem mix_len {n : Nat} {a b c : List Nat} (ha : n ≤ a.length) (hb : n ≤ b.length) (hc : n ≤ c.length) : (mix n a b c).length = n := by simp [mix]; omega
theorem mix_at {n k : Nat} {a b c : List Nat} (ha : n ≤ a.length) (hb : n ≤ b.length) (hc : n ≤ c.length) (hk : k < n) :
    (mix n a b c).getD k 0 = a.getD k 0 ^^^ b.getD k 0 ^^^ c.getD k 0 := by
  have h1 : k < a.length := by omega
  have h2 : k < b.length := by omega
  have h3 : k < c.length := by omega
  simp [mix, List.getElem?_zipWith, hk, h1, h2, h3]
/-- The first k bytes are as in z. -/
structure Part (z bs : List Nat) (k : Nat) : Prop where
  same : ∀ j, j < k → bs.getD j 0 = z.getD j 0
theorem Part.start (z bs : List Nat) : Part z bs 0 := ⟨fun j hj => by omega⟩
theorem Part.more {z bs : List Nat} {k x : Nat} (h : Part z bs k) (hk : k < bs.length) (hx : x = z.getD k 0) : Part z (bs.set k x) (k + 1) := ⟨fun j hj => by
  rw [List.getD_eq_getElem?_getD, List.getElem?_set]
  by_cases e : k = j
  · subst e; rw [if_pos rfl, if_pos hk]; exact hx
  · rw [if_neg e, ← List.getD_eq_getElem?_getD]; exact h.same j (by omega)⟩
theorem Part.whole {z bs : List Nat} {n : Nat} (h : Part z bs n) (hb : bs.length = n) (hz : z.length = n) : bs = z := by
  apply List.ext_getElem (by omega)
  intro i h1 h2
  have := h.same i (by omega)
  simpa [h1, h2] using this
theorem Mine.made {w w1 : World} {g n : Nat} (hg : g = w.heap.size) (hown : w1.ownsRow w.heap.size 5 1 (.slice (some ⟨g, 0, none⟩) n n) n (madeCells (Value.int .u8 0).cells (n * 1)).toList) (hgr : w.grownBy w1 none) : Mine w w1 g n n (List.replicate n 0) := by
  subst hg
  refine ⟨?_, (Below.refl _ _).grown hgr (Nat.le_refl _) (fun k hk => by cases hk), by simp, Nat.le_refl _, fun x hx => by rw [List.mem_replicate] at hx; omega⟩
  have : (madeCells (Value.int .u8 0).cells (n * 1)).toList = (List.replicate n 0).map u8v := by
    rw [Nat.mul_one]
    refine (toList_madeCells_one _ n).trans ?_
    simp [u8v]
  rwa [this] at hown
theorem Mine.drew {w wr : World} {g n cap : Nat} {bs : List Nat} (h : Mine w wr g n cap bs) (m : Nat) : Mine w (wr.drewN m) g n cap bs := ⟨h.own, h.below.trans ⟨rfl, rfl, rfl, Nat.le_refl _, fun _ _ => rfl⟩, h.len, h.ge, h.lt⟩
theorem mix_num {a b c : Nat} (ha : a < 256) (hb : b < 256) (hc : c < 256) : Value.int .u8 (bits .xor .u8 (bits .xor .u8 (a : Int) (b : Int)) (c : Int)) = u8v (a ^^^ b ^^^ c) := by
  rw [xor8 a b ha hb, xor8 _ c (Nat.xor_lt_two_pow (n := 8) ha hb) hc]; rfl
theorem mix_bound {a b c : Nat} (ha : a < 256) (hb : b < 256) (hc : c < 256) : a ^^^ b ^^^ c < 256 := Nat.xor_lt_two_pow (n := 8) (Nat.xor_lt_two_pow (n := 8) ha hb) hc

/-- Calls one behind the other, each told of the world W in which the first began. -/
theorem bytes_on (W w : World) (A : Option Addr) (l : List Nat) (n c : Nat) (hn : Lk (l.length = n)) (hl : n ≤ 5000) (hb : Hid (∀ x ∈ l, x < 256)) (h : Hid (Lies .u8 W W.heap.size A l)) (hB : Lk (Below W.heap.size W w)) :
    Calls Try.prog 9 #[.slice A n c] w fun e w' => e = .returned (.int .u64 ((crc l : Nat) : Int)) ∧ Lk (Below W.heap.size W w') :=
  (bytes_n A l n c w hn.out hl hb (Lies.on h (Lib.hid hB.out))).mono fun e w' ⟨h1, h2⟩ => ⟨h1, ⟨hB.out.trans (h2.mono hB.out.size)⟩⟩
theorem awake_on (W w : World) (hB : Lk (Below W.heap.size W w)) :
    Calls Try.prog 8 #[] w fun e w' => e = .returned (.bool true) ∧ Lk (Below W.heap.size W w') :=
  (awake_any w).mono fun e w' ⟨h1, h2⟩ => ⟨h1, ⟨hB.out.trans (h2.mono hB.out.size)⟩⟩
theorem lk_drew {W w : World} (h : Lk (Below W.heap.size W w)) : Lk (Below W.heap.size W w.drew) := ⟨h.out.drew⟩
theorem lk_refl (W : World) : Lk (Below W.heap.size W W) := ⟨Below.refl _ _⟩
theorem lies_take {k : IntKind} {w : World} {B : Nat} {A : Option Addr} {l : List Nat} (h : Lies k w B A l) {n : Nat} (hn : n ≤ l.length) : Lies k w B A (l.take n) := by
  intro hp
  have hlen : (l.take n).length = n := by simp; omega
  obtain ⟨ad, rfl, hb, hcell⟩ := h (by omega)
  refine ⟨ad, rfl, hb, fun j hj => ?_⟩
  rw [hcell j (by omega)]
  have : (l.take n).getD j 0 = l.getD j 0 := by
    rw [List.getD_eq_getElem?_getD, List.getD_eq_getElem?_getD, List.getElem?_take, if_pos (by omega)]
  rw [this]
theorem under_bytes : Try.prog.underlying 22 = some (.slice (Try.prog.elem 22)) := by kernel_rfl
theorem size_byte (w : World) : (sizeOf (Try.prog.elem 22)).run Try.prog w = .ok 1 w := by kernel_rfl
theorem slice_head (A : Option Addr) (n c k : Nat) (w : World) (h : (k : Int) ≤ (c : Int)) :
    (Instr.sliceAt 22 (.slice A n c) none (some (.int .i64 (k : Int))) none).run Try.prog w = .ok (.slice A k c) w := by
  rw [run_sliceAt_slice _ _ _ _ _ _ under_bytes, run_slice_h _ _ _ _ _ under_bytes _ _ (by omega) h, size_byte]
  have e : (if c = 0 then A else A.map (·.add (0 * 1))) = A := by
    split
    · rfl
    · cases A <;> simp [Addr.add]
  simp only [Result.andThen, sliced, e, Nat.sub_zero, Int.toNat_natCast]
theorem xor64 {a b : Nat} (ha : a < 18446744073709551616) (hb : b < 18446744073709551616) : bits .xor .u64 (a : Int) (b : Int) = ((a ^^^ b : Nat) : Int) := xor_ a b ha hb
theorem mix_crc {n : Nat} {a b c : List Nat} (ha : n ≤ a.length) (hb : n ≤ b.length) (hc : n ≤ c.length) (h1 : ∀ x ∈ a, x < 256) (h2 : ∀ x ∈ b, x < 256) (h3 : ∀ x ∈ c, x < 256) :
    ((crc (mix n a b c) : Nat) : Int) = bits .xor .u64 (bits .xor .u64 ((crc (a.take n) : Nat) : Int) ((crc (b.take n) : Nat) : Int)) ((crc (c.take n) : Nat) : Int) := by
  have q1 := crc_lt (take_lt h1 n)
  have q2 := crc_lt (take_lt h2 n)
  have q3 := crc_lt (take_lt h3 n)
  rw [xor64 q1 q2, xor64 (Nat.xor_lt_two_pow (n := 64) q1 q2) q3, mix, crc_linear (by simp; omega) (by simp; omega) (take_lt h1 n) (take_lt h2 n) (take_lt h3 n)]
end Go.Proofs.Ytfnmgehkalikfaa.Pj

/-
  do, whatever the operation.
-/
import Derived.Test.YtacfmkmiikkppaaGa
import Derived.Deep.Slices
import Derived.Deep.Fields
import Derived.ChangeArms
import Derived.ChangeSame
import Derived.Lib.SmallJoins
import Derived.Test.YtacfmkmiikkppaaDb
import Derived.Test.YtacfmkmiikkppaaDc
import Derived.Test.YtacfmkmiikkppaaDe
import Derived.Test.YtacfmkmiikkppaaDf
import Derived.Test.YtacfmkmiikkppaaDi
namespace Go.Proofs.Ytacfmkmiikkppaa.Dg
open Go.Joins Go.ChangeShapes Go.WideShapes Go.ChangeAt Go.RowKit Go.Deep Ga
set_option linter.unusedVariables false
set_option linter.unusedSimpArgs false
noncomputable def fieldsOf (t : TypeId) : Array Field := match Try.prog.underlying t with | some (.struct fs) => fs | _ => #[]
section
variable {H : Type} {enc : TypeId × Value → H} {w : World} {base : Nat} {held : Bool}
/-- The cells of a field of any size, with their reading. -/
theorem field_any {t ft : TypeId} {fuel off m j : Nat} {cs : List Value} {x : DataW H × List MemPlace} (hs : Try.prog.underlying t = some (.struct (fieldsOf t))) (hf : ((fieldsOf t)[j]?).map (fun f => (f.type, f.offset, Try.prog.cellsOf f.type)) = some (ft, off, m))
    (h : DataW.trod enc Try.prog w base (fun _ => true) held fuel t cs = some x) : ∃ n y, DataW.trod enc Try.prog w base (fun _ => true) held n ft ((cs.drop off).take m) = some y := by
  obtain ⟨xs, n', _, _, _, hxs, hh⟩ := DataW.trod_struct hs h
  rw [Option.map_eq_some_iff] at hf
  obtain ⟨f, h1, h2⟩ := hf
  simp only [Prod.mk.injEq] at h2
  obtain ⟨rfl, rfl, rfl⟩ := h2
  have h3 := hh j f h1
  have hj : j < xs.length := by rw [hxs]; exact (Array.getElem?_eq_some_iff.1 h1).1
  rw [List.getElem?_eq_getElem hj] at h3
  exact ⟨_, _, h3⟩
theorem one_int {n j : Nat} {t : TypeId} {k : IntKind} {cs : List Value} {y : DataW H × List MemPlace} (ht : Try.prog.underlying t = some (.int k)) (hj : j < cs.length) (h : DataW.trod enc Try.prog w base (fun _ => true) held n t ((cs.drop j).take 1) = some y) : ∃ z, cs[j]? = some (.int k z) ∧ (Lit.int k z).wf = true := by
  obtain ⟨z, e, _, b⟩ := DataW.trod_int ht h
  refine ⟨z, ?_, b⟩
  rw [List.drop_eq_getElem_cons hj] at e
  simp only [List.take_succ_cons, List.take_zero, List.cons.injEq, and_true] at e
  rw [List.getElem?_eq_getElem hj, e]
def B64 (z : Int) : Prop := -9223372036854775808 ≤ z ∧ z ≤ 9223372036854775807
def U64 (z : Int) : Prop := 0 ≤ z ∧ z < 18446744073709551616
theorem raw5_under : Try.prog.underlying 35 = some (.struct (fieldsOf 35)) := by kernel_rfl
theorem op5_under : Try.prog.underlying 37 = some (.struct (fieldsOf 37)) := by kernel_rfl
theorem op5_cells : Try.prog.cellsOf 37 = 10 := by kernel_rfl
theorem op5_at {fuel : Nat} {cs : List Value} {x : DataW H × List MemPlace} (hl : cs.length = 10) (h : DataW.trod enc Try.prog w base (fun _ => true) held fuel 37 cs = some x) :
    ∃ kd rk ra rn ry rb ro re at_ wd : Int, cs = [.int .i64 kd, .int .i64 rk, .int .i64 ra, .int .i64 rn, .int .i64 ry, .int .i64 rb, .int .u64 ro, .int .u64 re, .int .i64 at_, .int .u64 wd] ∧ (B64 kd ∧ B64 rk ∧ B64 ra ∧ B64 rn ∧ B64 ry ∧ B64 rb ∧ U64 ro ∧ U64 re ∧ B64 at_ ∧ U64 wd) := by
  obtain ⟨n0, y0, t0⟩ := field_any (j := 0) (ft := 3) (off := 0) (m := 1) op5_under (by kernel_rfl) h
  obtain ⟨n1, y1, t1⟩ := field_any (j := 1) (ft := 35) (off := 1) (m := 7) op5_under (by kernel_rfl) h
  obtain ⟨n2, y2, t2⟩ := field_any (j := 2) (ft := 3) (off := 8) (m := 1) op5_under (by kernel_rfl) h
  obtain ⟨n3, y3, t3⟩ := field_any (j := 3) (ft := 33) (off := 9) (m := 1) op5_under (by kernel_rfl) h
  have hl7 : ((cs.drop 1).take 7).length = 7 := by simp; omega
  obtain ⟨_, _, u0⟩ := field_any (j := 0) (ft := 3) (off := 0) (m := 1) raw5_under (by kernel_rfl) t1
  obtain ⟨_, _, u1⟩ := field_any (j := 1) (ft := 3) (off := 1) (m := 1) raw5_under (by kernel_rfl) t1
  obtain ⟨_, _, u2⟩ := field_any (j := 2) (ft := 3) (off := 2) (m := 1) raw5_under (by kernel_rfl) t1
  obtain ⟨_, _, u3⟩ := field_any (j := 3) (ft := 3) (off := 3) (m := 1) raw5_under (by kernel_rfl) t1
  obtain ⟨_, _, u4⟩ := field_any (j := 4) (ft := 3) (off := 4) (m := 1) raw5_under (by kernel_rfl) t1
  obtain ⟨_, _, u5⟩ := field_any (j := 5) (ft := 33) (off := 5) (m := 1) raw5_under (by kernel_rfl) t1
  obtain ⟨_, _, u6⟩ := field_any (j := 6) (ft := 33) (off := 6) (m := 1) raw5_under (by kernel_rfl) t1
  obtain ⟨kd, c0, b0⟩ := one_int Try.underlying3 (by omega) t0
  obtain ⟨at_, c8, b8⟩ := one_int Try.underlying3 (by omega) t2
  obtain ⟨wd, c9, b9⟩ := one_int Try.underlying33 (by omega) t3
  obtain ⟨rk, c1, b1⟩ := one_int Try.underlying3 (by omega) u0
  obtain ⟨ra, c2, b2⟩ := one_int Try.underlying3 (by omega) u1
  obtain ⟨rn, c3, b3⟩ := one_int Try.underlying3 (by omega) u2
  obtain ⟨ry, c4, b4⟩ := one_int Try.underlying3 (by omega) u3
  obtain ⟨rb, c5, b5⟩ := one_int Try.underlying3 (by omega) u4
  obtain ⟨ro, c6, b6⟩ := one_int Try.underlying33 (by omega) u5
  obtain ⟨re, c7, b7⟩ := one_int Try.underlying33 (by omega) u6
  have d6 := bounds_u64 b6
  have d7 := bounds_u64 b7
  have d9 := bounds_u64 b9
  refine ⟨kd, rk, ra, rn, ry, rb, ro, re, at_, wd, ?_, bounds_i64 b0, bounds_i64 b1, bounds_i64 b2, bounds_i64 b3, bounds_i64 b4, bounds_i64 b5, ⟨by omega, by omega⟩, ⟨by omega, by omega⟩, bounds_i64 b8, ⟨by omega, by omega⟩⟩
  match cs, hl with
  | [_, _, _, _, _, _, _, _, _, _], _ =>
    simp at c0 c1 c2 c3 c4 c5 c6 c7 c8 c9
    simp [c0, c1, c2, c3, c4, c5, c6, c7, c8, c9]
/-- The numbers of an operation that lies at cell i of p. -/
def OneO5 (w : World) (p : Addr) (i : Nat) : Prop := ∃ (kd rk ra rn ry rb at_ : Int) (ro re wd : Nat),
  w.cell? (p.add i) = some (.int .i64 kd) ∧ w.cell? ⟨(p.add i).block, (p.add i).off + 1, none⟩ = some (.int .i64 rk) ∧ w.cell? ⟨(p.add i).block, (p.add i).off + 2, none⟩ = some (.int .i64 ra) ∧ w.cell? ⟨(p.add i).block, (p.add i).off + 3, none⟩ = some (.int .i64 rn) ∧ w.cell? ⟨(p.add i).block, (p.add i).off + 4, none⟩ = some (.int .i64 ry) ∧ w.cell? ⟨(p.add i).block, (p.add i).off + 5, none⟩ = some (.int .i64 rb) ∧
  w.cell? ⟨(p.add i).block, (p.add i).off + 6, none⟩ = some (.int .u64 (ro : Int)) ∧ w.cell? ⟨(p.add i).block, (p.add i).off + 7, none⟩ = some (.int .u64 (re : Int)) ∧ w.cell? ⟨(p.add i).block, (p.add i).off + 8, none⟩ = some (.int .i64 at_) ∧ w.cell? ⟨(p.add i).block, (p.add i).off + 9, none⟩ = some (.int .u64 (wd : Int)) ∧
  (B64 kd ∧ B64 rk ∧ B64 ra ∧ B64 rn ∧ B64 ry ∧ B64 rb ∧ B64 at_) ∧ ro < 18446744073709551616 ∧ re < 18446744073709551616 ∧ wd < 18446744073709551616
theorem OneO5.on {w w' : World} {p : Addr} {i : Nat} (h : OneO5 w p i) (hb : Below w.heap.size w w') : OneO5 w' p i := by
  obtain ⟨kd, rk, ra, rn, ry, rb, at_, ro, re, wd, h0, h1, h2, h3, h4, h5, h6, h7, h8, h9, hw⟩ := h
  exact ⟨kd, rk, ra, rn, ry, rb, at_, ro, re, wd, (hb.cell (block_lt_of_cell h0)).trans h0, (hb.cell (block_lt_of_cell h1)).trans h1, (hb.cell (block_lt_of_cell h2)).trans h2, (hb.cell (block_lt_of_cell h3)).trans h3, (hb.cell (block_lt_of_cell h4)).trans h4, (hb.cell (block_lt_of_cell h5)).trans h5, (hb.cell (block_lt_of_cell h6)).trans h6, (hb.cell (block_lt_of_cell h7)).trans h7, (hb.cell (block_lt_of_cell h8)).trans h8, (hb.cell (block_lt_of_cell h9)).trans h9, hw⟩
def IsO5 (w : World) (A : Option Addr) (len cap : Nat) : Prop :=
  (A = none ∧ len = 0 ∧ cap = 0) ∨ ∃ p, A = some p ∧ len ≤ cap ∧ cap ≤ 9223372036854775807 ∧ ∀ i, i < len → OneO5 w p (i * 10)
theorem IsO5.len {w : World} {A : Option Addr} {len cap : Nat} (h : IsO5 w A len cap) : len ≤ cap ∧ cap ≤ 9223372036854775807 := by
  rcases h with ⟨_, h1, h2⟩ | ⟨p, _, h1, h2, _⟩
  · omega
  · exact ⟨h1, h2⟩
theorem IsO5.at_ {w : World} {A : Option Addr} {len cap i : Nat} (h : IsO5 w A len cap) (hi : i < len) : ∃ p, A = some p ∧ OneO5 w p (i * 10) := by
  rcases h with ⟨_, h1, h2⟩ | ⟨p, h0, h1, h2, h3⟩
  · omega
  · exact ⟨p, h0, h3 i hi⟩
theorem ops5_of {fuel : Nat} {A : Option Addr} {len cap : Nat} {x : DataW H × List MemPlace} (h : DataW.trod enc Try.prog w base (fun _ => true) held fuel 22 (Value.slice A len cap).cells.toList = some x) : IsO5 w A len cap := by
  rcases open_slice Try.underlying22 h with ⟨h0, _⟩ | ⟨a, l, c, m, n, D, Pl, hcs, _, hl, hm, hmm, _, hi⟩
  · simp [Value.cells] at h0
    exact .inl h0
  · simp [Value.cells] at hcs
    obtain ⟨rfl, rfl, rfl⟩ := hcs
    refine .inr ⟨a, rfl, hl, hm, fun i hil => ?_⟩
    have hlm : len ≤ m := by rw [hmm]; split <;> omega
    obtain ⟨cs, hc, ht⟩ := hi i (by omega)
    rw [op5_cells] at hc
    obtain ⟨_, hlen, hat⟩ := World.cells?_some hc
    obtain ⟨kd, rk, ra, rn, ry, rb, ro, re, at_, wd, rfl, b0, b1, b2, b3, b4, b5, b6, b7, b8, b9⟩ := op5_at hlen ht
    have e6 : ((ro.toNat : Nat) : Int) = ro := by unfold U64 at b6; omega
    have e7 : ((re.toNat : Nat) : Int) = re := by unfold U64 at b7; omega
    have e9 : ((wd.toNat : Nat) : Int) = wd := by unfold U64 at b9; omega
    refine ⟨kd, rk, ra, rn, ry, rb, at_, ro.toNat, re.toNat, wd.toNat, hat 0 (by decide), hat 1 (by decide), hat 2 (by decide), hat 3 (by decide), hat 4 (by decide), hat 5 (by decide), by rw [e6]; exact hat 6 (by decide), by rw [e7]; exact hat 7 (by decide), hat 8 (by decide), by rw [e9]; exact hat 9 (by decide), ⟨b0, b1, b2, b3, b4, b5, b8⟩, ?_, ?_, ?_⟩
    · unfold U64 at b6; omega
    · unfold U64 at b7; omega
    · unfold U64 at b9; omega
end
end Go.Proofs.Ytacfmkmiikkppaa.Dg
namespace Go.Proofs.Ytacfmkmiikkppaa.Dh
open Go.ChangeShapes Go.WideShapes Go.ChangeAt Go.RowKit Ga Tc Qd Tk Tv Da Db Dc Dd De Df Di Dg
set_option linter.unusedVariables false
set_option linter.unusedSimpArgs false
set_option maxRecDepth 100000
theorem do_any (F : Nat → Prop) (x : Plc) (cl inc m : Nat) (kd rk ra rn ry rb at_ : Int) (ro re wd : Nat) (w : World) (h : Lk (Okk F w x cl inc m)) (hm : m < 1000) (hw : B64 kd ∧ B64 rk ∧ B64 ra ∧ B64 rn ∧ B64 ry ∧ B64 rb ∧ B64 at_) (hro : ro < 18446744073709551616) (hre : re < 18446744073709551616) (hwd : wd < 18446744073709551616) :
    Calls Try.prog 10 #[pairV x, .agg #[.int .i64 kd, .int .i64 rk, .int .i64 ra, .int .i64 rn, .int .i64 ry, .int .i64 rb, .int .u64 (ro : Int), .int .u64 (re : Int), .int .i64 at_, .int .u64 (wd : Int)]] w fun e w' => e = .returned (.bool true) ∧ Lk (Nx F w x cl inc (m + 1) w') := by
  obtain ⟨⟨d0, d1⟩, h1, h2, h3, h4, h5, ⟨a0, a1⟩⟩ := hw
  have hp := pk_lt kd 13 (by decide)
  by_cases p1 : pk kd 13 < 4
  · exact do_post F x cl inc m kd rk ra rn ry rb at_ ro re wd w h hm d0 d1 p1 h1 h2 h3 h4 h5 hro hre
  by_cases p2 : pk kd 13 < 9
  · exact do_step F x cl inc m kd rk ra rn ry rb at_ ro re wd w h hm d0 d1 ⟨by omega, p2⟩
  by_cases p3 : pk kd 13 = 9
  · by_cases q3 : wd % 4 = 0
    · exact do_drop F x cl inc m kd rk ra rn ry rb at_ ro re wd w h hm d0 d1 p3 q3
    · exact do_skip9 F x cl inc m kd rk ra rn ry rb at_ ro re wd w h hm d0 d1 p3 q3
  by_cases p4 : pk kd 13 = 10
  · obtain ⟨V, q, ex, B, cb, r, Q, qe, ws, up, hIv, hq⟩ := h.out
    cases up with
    | true => exact do_word_true F x cl inc m kd rk ra rn ry rb at_ ro re wd w V q ex B cb r Q qe ws ⟨hIv⟩ hq hm d0 d1 p4 a0 a1
    | false => exact do_word_false F x cl inc m kd rk ra rn ry rb at_ ro re wd w V q ex B cb r Q qe ws ⟨hIv⟩ hq hm d0 d1 p4 a0 a1
  by_cases p5 : pk kd 13 = 11
  · by_cases q5 : wd % 3 = 0
    · exact do_fail F x cl inc m kd rk ra rn ry rb at_ ro re wd w h hm d0 d1 p5 q5
    · exact do_skip11 F x cl inc m kd rk ra rn ry rb at_ ro re wd w h hm d0 d1 p5 q5
  · exact do_back F x cl inc m kd rk ra rn ry rb at_ ro re wd w h hm d0 d1 (by omega)
end Go.Proofs.Ytacfmkmiikkppaa.Dh

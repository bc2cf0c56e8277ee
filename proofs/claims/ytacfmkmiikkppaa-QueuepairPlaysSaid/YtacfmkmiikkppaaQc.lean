/-
  The reference executes a piece of a Write.
-/
import Derived.Test.YtacfmkmiikkppaaQa
import Derived.Deep.AppendLies
import Derived.Deep.RegionLaw
namespace Go.Proofs.Ytacfmkmiikkppaa.Qb
open Go.ChangeShapes Go.WideShapes Go.ChangeAt Go.RowKit Ga Na Nb Nc Nd_ Nf Va Qa
set_option linter.unusedVariables false
set_option linter.unusedSimpArgs false
set_option maxHeartbeats 4000000
set_option maxRecDepth 100000
/-- Region n of a function's code. -/
def region (n : Nat) : Code → Option Code
  | .region id ops b => if id = n then some (.region id ops b) else none
  | .seq a b => match region n a with
    | some c => some c
    | none => region n b
  | .block _ c => region n c
  | .loop c => region n c
  | .scope c => region n c
  | .cond _ a b => match region n a with
    | some c => some c
    | none => region n b
  | _ => none
section
variable {w W W' : World} {b g n cap : Nat} {at_ m : Nat} {pb : Nat}
theorem was_below (h : World.cell? W ⟨b, 0, none⟩ = some (.slice (some ⟨g, 0, none⟩) n cap) ∧ World.cell? W ⟨pb, 0, none⟩ = some (.int .i64 (at_ : Int)) ∧ World.cell? W ⟨pb, 1, none⟩ = some (.int .i64 (m : Int)) ∧ Lk (Below w.heap.size w W)) : Lk (Below w.heap.size w W) := h.2.2.2
theorem was_on (h : World.cell? W ⟨b, 0, none⟩ = some (.slice (some ⟨g, 0, none⟩) n cap) ∧ World.cell? W ⟨pb, 0, none⟩ = some (.int .i64 (at_ : Int)) ∧ World.cell? W ⟨pb, 1, none⟩ = some (.int .i64 (m : Int)) ∧ Lk (Below w.heap.size w W)) (hb : Lk (Below W.heap.size W W')) : World.cell? W' ⟨b, 0, none⟩ = some (.slice (some ⟨g, 0, none⟩) n cap) ∧ World.cell? W' ⟨pb, 0, none⟩ = some (.int .i64 (at_ : Int)) ∧ World.cell? W' ⟨pb, 1, none⟩ = some (.int .i64 (m : Int)) ∧ Lk (Below w.heap.size w W') :=
  ⟨(hb.out.cell (block_lt_of_cell h.1)).trans h.1, (hb.out.cell (block_lt_of_cell h.2.1)).trans h.2.1, (hb.out.cell (block_lt_of_cell h.2.2.1)).trans h.2.2.1, ⟨h.2.2.2.out.trans (hb.out.mono h.2.2.2.out.size)⟩⟩
theorem below_of_grown (hg : W.grownBy W' none) : Below W.heap.size W W' := ⟨hg.os, hg.tape, hg.output, hg.size, fun k hk => hg.block k hk (by simp)⟩
end
noncomputable def reg1 : Code := (Try.f69.body.bind (region 1)).getD .skip
/-- 'was := append([]uint64(nil), n.Words[p.At:p.At+p.N]...)'. -/
theorem r1 {u1 u2 u3 u4 u6 u7 u8 u9 u10 u11 u12 u13 u14 u15 u16 u17 u18 u19 u20 u21 u22 u23 u24 u25 u26 u27 u28 u29 u30 u31 u32 u33 u34 u35 u36 u37 u38 u39 u40 u41 u42 u43 u44 u45 u46 u47 u48 u49 u50 u51 u52 u53 u54 u55 u56 u57 u58 u59 u60 u61 u62 u63 u64 u65 u66 u67 u68 u69 u70 u71 u72 u73 u74 u75 u76 u77 u78 u79 u80 u81 u82 u83 u84 u85 u86 u87 : Value} {K : Act → World → Prop} {Q' : Exit → Act → World → Prop} {w W : World} {b g n cap pb at_ m : Nat} {ws : List Nat}
    (hr : Row w g n cap ws) (hn : n ≤ 4294967296) (h1 : 1 ≤ m) (hat : at_ + m ≤ n) (HS : World.cell? W ⟨b, 0, none⟩ = some (.slice (some ⟨g, 0, none⟩) n cap) ∧ World.cell? W ⟨pb, 0, none⟩ = some (.int .i64 (at_ : Int)) ∧ World.cell? W ⟨pb, 1, none⟩ = some (.int .i64 (m : Int)) ∧ Lk (Below w.heap.size w W))
    (hK : ∀ (g1 c1 : Nat) (x9 x10 x11 x12 x13 x14 x15 x16 x17 x18 x19 x20 x21 : Value) (wx : World), Lk (w.heap.size ≤ g1) → Lk (Row wx g1 m c1 ((ws.drop at_).take m)) → Lk (Below W.heap.size W wx) → K ⟨#[.pointer (some ⟨b, 0, none⟩), u1, u2, u3, u4, .pointer (some ⟨pb, 0, none⟩), u6, .slice (some ⟨g1, 0, none⟩) m c1, u8, x9, x10, x11, x12, x13, x14, x15, x16, x17, x18, x19, x20, x21, u22, u23, u24, u25, u26, u27, u28, u29, u30, u31, u32, u33, u34, u35, u36, u37, u38, u39, u40, u41, u42, u43, u44, u45, u46, u47, u48, u49, u50, u51, u52, u53, u54, u55, u56, u57, u58, u59, u60, u61, u62, u63, u64, u65, u66, u67, u68, u69, u70, u71, u72, u73, u74, u75, u76, u77, u78, u79, u80, u81, u82, u83, u84, u85, u86, u87], []⟩ wx) :
    Code.wp Try.prog reg1 (Exit.then K Q') ⟨#[.pointer (some ⟨b, 0, none⟩), u1, u2, u3, u4, .pointer (some ⟨pb, 0, none⟩), u6, u7, u8, u9, u10, u11, u12, u13, u14, u15, u16, u17, u18, u19, u20, u21, u22, u23, u24, u25, u26, u27, u28, u29, u30, u31, u32, u33, u34, u35, u36, u37, u38, u39, u40, u41, u42, u43, u44, u45, u46, u47, u48, u49, u50, u51, u52, u53, u54, u55, u56, u57, u58, u59, u60, u61, u62, u63, u64, u65, u66, u67, u68, u69, u70, u71, u72, u73, u74, u75, u76, u77, u78, u79, u80, u81, u82, u83, u84, u85, u86, u87], []⟩ W := by
  have HK := Lk.mk hK
  clear hK
  have hcap := hr.cap_
  have hlen := hr.len
  have HSL := fun w => slice_words g n cap at_ m w h1 hat hcap.1 hcap.2
  have HLt := Lk.mk (cut_lt hr.lt at_ m)
  have HLn := Lk.mk (cut_len (show at_ + m ≤ ws.length by omega))
  have HCl := Lk.mk (fun (W : World) (hb : Lk (Below w.heap.size w W)) (j : Nat) (u : Value) (hj : (((ws.drop at_).take m).map u64v)[j]? = some u) => show W.cell? ((⟨g, at_, none⟩ : Addr).add j) = some u by
    have hjm : j < m := by
      by_cases h : j < m
      · exact h
      · rw [List.getElem?_eq_none (by simp; omega)] at hj; cases hj
    rw [add_at, hb.out.cell (block_lt_of_cell (hr.cell (show at_ + j < n by omega))), hr.cell (show at_ + j < n by omega), ← hj]
    simp [hjm, u64v, show at_ + j < ws.length by omega])
  generalize hacc : (ws.drop at_).take m = acc at *
  clear hacc
  have HO := Lk.mk (fun (u : Value) (hu : u ∈ acc.map u64v) => show u.oneCell' = true by
    rw [List.mem_map] at hu
    obtain ⟨x, _, rfl⟩ := hu
    rfl)
  obtain ⟨i0, hi, hz0, hz1, hz2⟩ := info_parts u64info
  have hw1 : IntKind.i64.wrap ((at_ : Int) + m) = at_ + m := IntWalk.i64_in _ (by omega)
  have hm0 : 0 < m := h1
  have hmx : 0 + m ≤ maxLen := by unfold maxLen; omega
  have hmb : (0 + m) * 8 ≤ 140737488355328 := by omega
  have HH := Lk.mk (show World.cell? W.drew ⟨b, 0, none⟩ = some (.slice (some ⟨g, 0, none⟩) n cap) ∧ World.cell? W.drew ⟨pb, 0, none⟩ = some (.int .i64 (at_ : Int)) ∧ World.cell? W.drew ⟨pb, 1, none⟩ = some (.int .i64 (m : Int)) ∧ Lk (Below w.heap.size w W.drew) from ⟨HS.1, HS.2.1, HS.2.2.1, ⟨HS.2.2.2.out.drew⟩⟩)
  have HSz := Lk.mk HS.2.2.2.out.size
  clear hcap hlen h1 hat hn HS hr
  conv => arg 2; whnf
  go_region_held3 (fun W' => World.cell? W' ⟨b, 0, none⟩ = some (.slice (some ⟨g, 0, none⟩) n cap) ∧ World.cell? W' ⟨pb, 0, none⟩ = some (.int .i64 (at_ : Int)) ∧ World.cell? W' ⟨pb, 1, none⟩ = some (.int .i64 (m : Int)) ∧ Lk (Below w.heap.size w W')) (first | with_reducible exact HH.out | with_reducible assumption | with_reducible exact was_on (by assumption) (by assumption))
    (first
      | (refine step_append_lies _ rfl (.const (.slice none 0 0)) (.tmp 20) 49 rfl w.heap.size 33 i0 (.int .u64 0) 1 8 Try.underlying49 hi hz0 hz1 hz2 rfl (by decide) (.slice none 0 0) 0 [] rfl (World.ownsRow_nil _ _ _ _) ⟨g, at_, none⟩ m (cap - at_) (acc.map u64v) rfl (by rw [List.length_map, HLn.out, Nat.mul_one]) (HCl.out _ (was_below (by assumption))) HO.out hm0 hmx hmb (was_below (by assumption)).out.size _ rfl ?_; intro g1 c1 w6 hown hgrow hor hlt6; have HB6 := Lk.mk (below_of_grown hgrow)))
  have HR : Lk (Row w6 g1 m c1 acc) := ⟨⟨owns_base (by simpa using hown), HLn.out, HLt.out⟩⟩
  have HG : Lk (w.heap.size ≤ g1) := ⟨(hown.lt g1 rfl).1⟩
  have HBW : Lk (Below W.heap.size W w6) := ⟨((Below.refl W.heap.size W).drew).trans HB6.out⟩
  clear hown hgrow hor hlt6 HB6
  go_wp2_with fail
  exact HK.out _ _ _ _ _ _ _ _ _ _ _ _ _ _ _ _ HG HR HBW
section
variable (b g n cap : Nat) (ws : List Nat) (nd a nn o ne : Int) (A : Option Addr) (l c : Nat) (ky bo : Int) (at_ m : Nat) (w : World)
theorem boxes (k : Int) (HN : Lk (RN w b g n cap ws true)) : ∃ w1 : World, w1 = w.alloc (.cells #[Value.int IntKind.i64 k, Value.int IntKind.i64 nd, Value.int IntKind.i64 a, Value.int IntKind.i64 nn, Value.int IntKind.u64 o, Value.int IntKind.u64 ne, Value.slice A l c, Value.int IntKind.u64 ky, Value.int IntKind.i64 bo] 52) ∧ w1.heap.size = w.heap.size + 1 ∧ Bx (w1.alloc (.cells #[Value.int IntKind.i64 at_, Value.int IntKind.i64 m] 64)) w.heap.size k nd a nn o ne A l c ky bo ∧
    World.cell? (w1.alloc (.cells #[Value.int IntKind.i64 at_, Value.int IntKind.i64 m] 64)) ⟨b, 0, none⟩ = some (.slice (some ⟨g, 0, none⟩) n cap) ∧ World.cell? (w1.alloc (.cells #[Value.int IntKind.i64 at_, Value.int IntKind.i64 m] 64)) ⟨w.heap.size + 1, 0, none⟩ = some (.int .i64 (at_ : Int)) ∧ World.cell? (w1.alloc (.cells #[Value.int IntKind.i64 at_, Value.int IntKind.i64 m] 64)) ⟨w.heap.size + 1, 1, none⟩ = some (.int .i64 (m : Int)) ∧ Lk (Below w.heap.size w (w1.alloc (.cells #[Value.int IntKind.i64 at_, Value.int IntKind.i64 m] 64))) := by
  have hB1 := (Below.refl _ w).alloc (Nat.le_refl _) (.cells #[Value.int IntKind.i64 k, Value.int IntKind.i64 nd, Value.int IntKind.i64 a, Value.int IntKind.i64 nn, Value.int IntKind.u64 o, Value.int IntKind.u64 ne, Value.slice A l c, Value.int IntKind.u64 ky, Value.int IntKind.i64 bo] 52)
  have hx := Bx.alloc w k nd a nn o ne A l c ky bo 52
  have hs1 : (w.alloc (.cells #[Value.int IntKind.i64 k, Value.int IntKind.i64 nd, Value.int IntKind.i64 a, Value.int IntKind.i64 nn, Value.int IntKind.u64 o, Value.int IntKind.u64 ne, Value.slice A l c, Value.int IntKind.u64 ky, Value.int IntKind.i64 bo] 52)).heap.size = w.heap.size + 1 := by simp
  refine ⟨_, rfl, hs1, ?_⟩
  generalize w.alloc _ = w1 at *
  have hB2 := (Below.refl _ w1).alloc (Nat.le_refl _) (.cells #[Value.int IntKind.i64 at_, Value.int IntKind.i64 m] 64)
  have hp0 := (cell_of_row _ w1.heap.size 0 _ _ _ (heap_alloc_new w1 (.cells #[Value.int IntKind.i64 at_, Value.int IntKind.i64 m] 64))).trans rfl
  have hp1 := (cell_of_row _ w1.heap.size 1 _ _ _ (heap_alloc_new w1 (.cells #[Value.int IntKind.i64 at_, Value.int IntKind.i64 m] 64))).trans rfl
  rw [hs1] at hp0 hp1
  have hB3 := hB1.trans (hB2.mono hB1.size)
  exact ⟨hx.on hB2, (hB3.cell (block_lt_of_cell HN.out.c0)).trans HN.out.c0, hp0, hp1, ⟨hB3⟩⟩
theorem exec_read (HN : Lk (RN w b g n cap ws true)) (hn : n ≤ 4294967296) (h1 : 1 ≤ m) (hat : at_ + m ≤ n) :
    Calls Try.prog 69 #[.pointer (some ⟨b, 0, none⟩), (Value.agg #[Value.int IntKind.i64 1, Value.int IntKind.i64 nd, Value.int IntKind.i64 a, Value.int IntKind.i64 nn, Value.int IntKind.u64 o, Value.int IntKind.u64 ne, Value.slice A l c, Value.int IntKind.u64 ky, Value.int IntKind.i64 bo]), .agg #[.int .i64 at_, .int .i64 m]] w fun e w' => ∃ g1 c1 : Nat, e = .returned (.slice (some ⟨g1, 0, none⟩) m c1) ∧ Lk (w.heap.size ≤ g1) ∧ Lk (Row w' g1 m c1 ((ws.drop at_).take m)) ∧ Lk (Below w.heap.size w w') := by
  obtain ⟨w1, hw1, hs1, hx, h0⟩ := boxes b g n cap ws nd a nn o ne A l c ky bo at_ m w 1 HN
  have HX := Lk.mk hx
  have HS := Lk.mk h0
  clear hx h0
  go_enter Try.func69, Try.ntmps69
  go_upto_region 1 with fail
  rw [← hw1]
  clear hw1
  generalize w1.alloc _ = W2 at *
  refine r1 HN.out.row hn h1 hat HS.out ?_
  intro g1 c1 x9 x10 x11 x12 x13 x14 x15 x16 x17 x18 x19 x20 x21 w3 HG HR HB
  have c0 := (HX.out.on HB.out).c0
  have HBF := Lk.mk (HS.out.2.2.2.out.trans (HB.out.mono HS.out.2.2.2.out.size))
  clear HX HS HB
  go_wp2
  go_ret
  exact ⟨g1, c1, rfl, HG, HR, HBF⟩
end
theorem Nd.below {T : TypeId} {w w' : World} {b g n cap : Nat} {ws : List Nat} {up : Bool} (h : Nd T w b g n cap ws up) (hb : Below w.heap.size w w') : Nd T w' b g n cap ws up := h.keep (hb.block b h.size) (hb.block g h.row.size)
section
variable {W : World} {b g n cap : Nat} {at_ j : Nat} {pb vb : Nat} {x : Value}
theorem far3 (h : World.cell? W ⟨b, 0, none⟩ = some (.slice (some ⟨g, 0, none⟩) n cap) ∧ World.cell? W ⟨pb, 0, none⟩ = some (.int .i64 (at_ : Int)) ∧ World.cell? W ⟨vb, j, none⟩ = some x) (hb : b ≠ g) (hp : pb ≠ g) (hv : vb ≠ g) (u : Value) : World.cell? (W.setCell ⟨g, at_, none⟩ u) ⟨b, 0, none⟩ = some (.slice (some ⟨g, 0, none⟩) n cap) ∧ World.cell? (W.setCell ⟨g, at_, none⟩ u) ⟨pb, 0, none⟩ = some (.int .i64 (at_ : Int)) ∧ World.cell? (W.setCell ⟨g, at_, none⟩ u) ⟨vb, j, none⟩ = some x :=
  ⟨(World.cell?_of_block (Below.heap_setCell W ⟨g, at_, none⟩ u b hb)).trans h.1, (World.cell?_of_block (Below.heap_setCell W ⟨g, at_, none⟩ u pb hp)).trans h.2.1, (World.cell?_of_block (Below.heap_setCell W ⟨g, at_, none⟩ u vb hv)).trans h.2.2⟩
end
section
variable (b g n cap : Nat) (ws : List Nat) (nd a nn : Int) (o ne : Nat) (A : Option Addr) (l c : Nat) (ky bo : Int) (at_ : Nat) (w : World)
theorem exec_cas (HN : Lk (RN w b g n cap ws true)) (hn : n ≤ 4294967296) (hat : at_ < n) (hne : ne < 18446744073709551616) :
    Calls Try.prog 69 #[.pointer (some ⟨b, 0, none⟩), (Value.agg #[Value.int IntKind.i64 3, Value.int IntKind.i64 nd, Value.int IntKind.i64 a, Value.int IntKind.i64 nn, Value.int IntKind.u64 o, Value.int IntKind.u64 ne, Value.slice A l c, Value.int IntKind.u64 ky, Value.int IntKind.i64 bo]), .agg #[.int .i64 at_, .int .i64 1]] w fun e w' => ∃ g1 c1 : Nat, e = .returned (.slice (some ⟨g1, 0, none⟩) 1 c1) ∧ Lk (w.heap.size ≤ g1) ∧ Lk (Row w' g1 1 c1 [ws.getD at_ 0]) ∧ Lk (RN w' b g n cap (casW ws at_ o ne) true) ∧ Lk (Only (fun k => k = g) w w') := by
  obtain ⟨w1, hw1, hs1, hx, h0⟩ := boxes b g n cap ws nd a nn o ne A l c ky bo at_ 1 w 3 HN
  have HX := Lk.mk hx
  have HS := Lk.mk h0
  clear hx h0
  have hlen := HN.out.row.len
  have he : (ws.drop at_).take 1 = [ws.getD at_ 0] := by
    have h : at_ < ws.length := by omega
    rw [List.drop_eq_getElem_cons h, List.take_succ_cons, List.take_zero]
    simp [h]
  have HLt := Lk.mk (getD_lt HN.out.row.lt (show at_ < ws.length by omega))
  go_enter Try.func69, Try.ntmps69
  go_upto_region 1 with fail
  rw [← hw1]
  clear hw1
  generalize w1.alloc _ = W2 at *
  refine r1 HN.out.row hn (Nat.le_refl 1) (by omega) HS.out ?_
  rw [he]
  intro g1 c1 x9 x10 x11 x12 x13 x14 x15 x16 x17 x18 x19 x20 x21 w3 HG HR HB
  have HX3 := Lk.mk (HX.out.on HB.out)
  have HBF := Lk.mk (HS.out.2.2.2.out.trans (HB.out.mono HS.out.2.2.2.out.size))
  have HN3 := Lk.mk (Nd.below HN.out HBF.out)
  have HP := Lk.mk ((HB.out.cell (block_lt_of_cell HS.out.2.1)).trans HS.out.2.1)
  have HNE := Lk.mk (show (b ≠ g ∧ w.heap.size + 1 ≠ g ∧ w.heap.size ≠ g) from ⟨HN.out.ne, by have := HN.out.row.size; omega, by have := HN.out.row.size; omega⟩)
  have hlw : at_ < ws.length := by omega
  have HNg := Lk.mk HN.out.row.size
  clear HX HS HB he hlen HN
  have HV := Lk.mk (HN3.out.row.cell hat)
  obtain ⟨v, hv⟩ : ∃ v, ws.getD at_ 0 = v := ⟨_, rfl⟩
  have HVe := Lk.mk hv
  rw [hv] at HR HLt HV
  have r0 := HR.out.cell (show 0 < 1 by omega)
  rw [show ([v] : List Nat).getD 0 0 = v from rfl] at r0
  obtain ⟨k0, k1, k2, k3, k4, k5, k6, k7, k8⟩ := HX3.out
  have hd := HN3.out.c0
  have hp := HP.out
  have hw := HV.out
  have hf := HN3.out.row.free at_
  clear hv
  by_cases heq : v = o
  · subst heq
    have e1 : Lk (casW ws at_ v ne = ws.set at_ ne) := ⟨by unfold casW; rw [if_pos HVe.out]⟩
    go_upto_region 12 with fail
    go_quiet (fail)
    go_upto_region 13 with fail
    have HN4 : Lk (RN (w3.drewN nq) b g n cap ws true) := ⟨HN3.out.keep rfl rfl⟩
    have HR4 : Lk (Row (w3.drewN nq) g1 1 c1 [v]) := ⟨HR.out.keep rfl⟩
    have HP4 : Lk ((w3.drewN nq).cell? ⟨w.heap.size + 1, 0, none⟩ = some (.int .i64 (at_ : Int))) := HP
    have HV4 : Lk ((w3.drewN nq).cell? ⟨w.heap.size, 5, none⟩ = some (.int .u64 (ne : Int))) := ⟨k5⟩
    have HB4 := Lk.mk (Only.drew (Only.of_below (S := fun k => k = g) HBF.out) nq)
    clear k0 k1 k2 k3 k4 k5 k6 k7 k8 hd hp hw hf r0 HX3 HR HBF HN3 HP HV
    generalize w3.drewN nq = W4 at *
    have hw := HN4.out.row.cell hat
    have hf := HN4.out.row.free at_
    have HH := Lk.mk (show World.cell? W4.drew ⟨b, 0, none⟩ = some (.slice (some ⟨g, 0, none⟩) n cap) ∧ World.cell? W4.drew ⟨w.heap.size + 1, 0, none⟩ = some (.int .i64 (at_ : Int)) ∧ World.cell? W4.drew ⟨w.heap.size, 5, none⟩ = some (.int .u64 (ne : Int)) from ⟨HN4.out.c0, HP4.out, HV4.out⟩)
    go_region_held3 (fun W' => World.cell? W' ⟨b, 0, none⟩ = some (.slice (some ⟨g, 0, none⟩) n cap) ∧ World.cell? W' ⟨w.heap.size + 1, 0, none⟩ = some (.int .i64 (at_ : Int)) ∧ World.cell? W' ⟨w.heap.size, 5, none⟩ = some (.int .u64 (ne : Int))) (first | with_reducible exact HH.out | with_reducible assumption | exact far3 HH.out HNE.out.1 HNE.out.2.1 HNE.out.2.2 _)
      (fail)
    go_wp2
    go_ret
    have hO := HB4.out.setCell (p := ⟨g, at_, none⟩) (.inl rfl) (.int .u64 (ne : Int))
    exact ⟨g1, c1, rfl, HG, ⟨by rw [HVe.out]; exact (HR4.out.keep (Below.heap_setCell W4 ⟨g, at_, none⟩ _ g1 (by have := HG.out; have := HNg.out; show g1 ≠ g; omega))).keep rfl⟩, ⟨by rw [e1.out]; exact (HN4.out.set at_ ne hne).keep rfl rfl⟩, ⟨⟨hO.os, hO.tape, hO.output, hO.size, hO.block⟩⟩⟩
  · have heq' : ((v : Int) == (o : Int)) = false := by simp; omega
    have e1 : Lk (casW ws at_ o ne = ws) := ⟨by unfold casW; rw [if_neg (by rw [HVe.out]; exact heq)]⟩
    go_upto_region 12 with fail
    go_quiet (fail)
    go_wp2
    go_ret
    exact ⟨g1, c1, rfl, HG, ⟨by rw [HVe.out]; exact HR.out.keep rfl⟩, ⟨by rw [e1.out]; exact HN3.out.keep rfl rfl⟩, ⟨Only.drew (Only.of_below HBF.out) nq⟩⟩
theorem exec_add (HN : Lk (RN w b g n cap ws true)) (hn : n ≤ 4294967296) (hat : at_ < n) (hne : ne < 18446744073709551616) :
    Calls Try.prog 69 #[.pointer (some ⟨b, 0, none⟩), (Value.agg #[Value.int IntKind.i64 4, Value.int IntKind.i64 nd, Value.int IntKind.i64 a, Value.int IntKind.i64 nn, Value.int IntKind.u64 o, Value.int IntKind.u64 ne, Value.slice A l c, Value.int IntKind.u64 ky, Value.int IntKind.i64 bo]), .agg #[.int .i64 at_, .int .i64 1]] w fun e w' => ∃ g1 c1 : Nat, e = .returned (.slice (some ⟨g1, 0, none⟩) 1 c1) ∧ Lk (w.heap.size ≤ g1) ∧ Lk (Row w' g1 1 c1 [ws.getD at_ 0]) ∧ Lk (RN w' b g n cap (addW ws at_ ne) true) ∧ Lk (Only (fun k => k = g) w w') := by
  obtain ⟨w1, hw1, hs1, hx, h0⟩ := boxes b g n cap ws nd a nn o ne A l c ky bo at_ 1 w 4 HN
  have HX := Lk.mk hx
  have HS := Lk.mk h0
  clear hx h0
  have hlen := HN.out.row.len
  have he : (ws.drop at_).take 1 = [ws.getD at_ 0] := by
    have h : at_ < ws.length := by omega
    rw [List.drop_eq_getElem_cons h, List.take_succ_cons, List.take_zero]
    simp [h]
  have HLt := Lk.mk (getD_lt HN.out.row.lt (show at_ < ws.length by omega))
  go_enter Try.func69, Try.ntmps69
  go_upto_region 1 with fail
  rw [← hw1]
  clear hw1
  generalize w1.alloc _ = W2 at *
  refine r1 HN.out.row hn (Nat.le_refl 1) (by omega) HS.out ?_
  rw [he]
  intro g1 c1 x9 x10 x11 x12 x13 x14 x15 x16 x17 x18 x19 x20 x21 w3 HG HR HB
  have HX3 := Lk.mk (HX.out.on HB.out)
  have HBF := Lk.mk (HS.out.2.2.2.out.trans (HB.out.mono HS.out.2.2.2.out.size))
  have HN3 := Lk.mk (Nd.below HN.out HBF.out)
  have HP := Lk.mk ((HB.out.cell (block_lt_of_cell HS.out.2.1)).trans HS.out.2.1)
  have HNE := Lk.mk (show (b ≠ g ∧ w.heap.size + 1 ≠ g ∧ w.heap.size ≠ g) from ⟨HN.out.ne, by have := HN.out.row.size; omega, by have := HN.out.row.size; omega⟩)
  have hlw : at_ < ws.length := by omega
  have HNg := Lk.mk HN.out.row.size
  clear HX HS HB he hlen HN
  have HV := Lk.mk (HN3.out.row.cell hat)
  obtain ⟨v, hv⟩ : ∃ v, ws.getD at_ 0 = v := ⟨_, rfl⟩
  have HVe := Lk.mk hv
  rw [hv] at HR HLt HV
  have r0 := HR.out.cell (show 0 < 1 by omega)
  rw [show ([v] : List Nat).getD 0 0 = v from rfl] at r0
  obtain ⟨k0, k1, k2, k3, k4, k5, k6, k7, k8⟩ := HX3.out
  have hd := HN3.out.c0
  have hp := HP.out
  have hw := HV.out
  have hf := HN3.out.row.free at_
  clear hv
  have e1 : Lk (addW ws at_ ne = ws.set at_ ((v + ne) % 18446744073709551616)) := ⟨by unfold addW; rw [HVe.out]⟩
  have ew : IntKind.u64.wrap ((v : Int) + ne) = (((v + ne) % 18446744073709551616 : Nat) : Int) := by simp [IntKind.wrap, IntKind.signed, IntKind.bits]
  generalize hsm : (v + ne) % 18446744073709551616 = sm at *
  have hsm2 : sm < 18446744073709551616 := by rw [← hsm]; exact Nat.mod_lt _ (by decide)
  clear hsm
  have HP4 := HP
  have HV4 := Lk.mk k5
  have HR4 := HR
  have HN4 := HN3
  have HB4 := Lk.mk (Only.of_below (S := fun k => k = g) HBF.out)
  clear k1 k2 k3 k5 k6 k7 k8 hd hp hw hf r0 HX3 HR HBF HN3 HP HV
  go_upto_region 15 with fail
  clear k0
  have hw := HN4.out.row.cell hat
  have hf := HN4.out.row.free at_
  have hrc := HR4.out.cell (show 0 < 1 by omega)
  rw [show ([v] : List Nat).getD 0 0 = v from rfl] at hrc
  have HH := Lk.mk (show World.cell? w3.drew ⟨b, 0, none⟩ = some (.slice (some ⟨g, 0, none⟩) n cap) ∧ World.cell? w3.drew ⟨w.heap.size + 1, 0, none⟩ = some (.int .i64 (at_ : Int)) ∧ World.cell? w3.drew ⟨w.heap.size, 5, none⟩ = some (.int .u64 (ne : Int)) ∧ World.cell? w3.drew ⟨g1, 0, none⟩ = some (.int .u64 (v : Int)) from ⟨HN4.out.c0, HP4.out, HV4.out, hrc⟩)
  go_region_held3 (fun W' => World.cell? W' ⟨b, 0, none⟩ = some (.slice (some ⟨g, 0, none⟩) n cap) ∧ World.cell? W' ⟨w.heap.size + 1, 0, none⟩ = some (.int .i64 (at_ : Int)) ∧ World.cell? W' ⟨w.heap.size, 5, none⟩ = some (.int .u64 (ne : Int)) ∧ World.cell? W' ⟨g1, 0, none⟩ = some (.int .u64 (v : Int))) (first | with_reducible exact HH.out | with_reducible assumption | exact ⟨(far3 ⟨HH.out.1, HH.out.2.1, HH.out.2.2.1⟩ HNE.out.1 HNE.out.2.1 HNE.out.2.2 _).1, (far3 ⟨HH.out.1, HH.out.2.1, HH.out.2.2.1⟩ HNE.out.1 HNE.out.2.1 HNE.out.2.2 _).2.1, (far3 ⟨HH.out.1, HH.out.2.1, HH.out.2.2.1⟩ HNE.out.1 HNE.out.2.1 HNE.out.2.2 _).2.2, (World.cell?_of_block (Below.heap_setCell _ ⟨g, at_, none⟩ _ g1 (by have := HG.out; have := HNg.out; show g1 ≠ g; omega))).trans hrc⟩)
    (fail)
  go_wp2
  go_ret
  have hO := HB4.out.setCell (p := ⟨g, at_, none⟩) (.inl rfl) (.int .u64 (sm : Int))
  exact ⟨g1, c1, rfl, HG, ⟨by rw [HVe.out]; exact (HR4.out.keep (Below.heap_setCell w3 ⟨g, at_, none⟩ _ g1 (by have := HG.out; have := HNg.out; show g1 ≠ g; omega))).keep rfl⟩, ⟨by rw [e1.out]; exact (HN4.out.set at_ sm hsm2).keep rfl rfl⟩, ⟨⟨hO.os, hO.tape, hO.output, hO.size, hO.block⟩⟩⟩
end
end Go.Proofs.Ytacfmkmiikkppaa.Qb
namespace Go.Proofs.Ytacfmkmiikkppaa.Qc
open Go.ChangeShapes Go.WideShapes Go.ChangeAt Go.RowKit Ga Na Nb Nc Nd_ Nf Va Qa Qb
set_option linter.unusedVariables false
set_option linter.unusedSimpArgs false
set_option maxHeartbeats 4000000
set_option maxRecDepth 100000
section
variable {W : World} {b g n cap at_ a l c j : Nat} {pb vb : Nat} {A : Option Addr} {sp : Addr} {x : Value}
theorem far5 (h : World.cell? W ⟨b, 0, none⟩ = some (.slice (some ⟨g, 0, none⟩) n cap) ∧ World.cell? W ⟨pb, 0, none⟩ = some (.int .i64 (at_ : Int)) ∧ World.cell? W ⟨vb, 2, none⟩ = some (.int .i64 (a : Int)) ∧ World.cell? W ⟨vb, 6, none⟩ = some (.slice A l c) ∧ World.cell? W sp = some x) (hb : b ≠ g) (hp : pb ≠ g) (hv : vb ≠ g) (hs : sp.block ≠ g) (u : Value) : World.cell? (W.setCell ⟨g, j, none⟩ u) ⟨b, 0, none⟩ = some (.slice (some ⟨g, 0, none⟩) n cap) ∧ World.cell? (W.setCell ⟨g, j, none⟩ u) ⟨pb, 0, none⟩ = some (.int .i64 (at_ : Int)) ∧ World.cell? (W.setCell ⟨g, j, none⟩ u) ⟨vb, 2, none⟩ = some (.int .i64 (a : Int)) ∧ World.cell? (W.setCell ⟨g, j, none⟩ u) ⟨vb, 6, none⟩ = some (.slice A l c) ∧ World.cell? (W.setCell ⟨g, j, none⟩ u) sp = some x :=
  ⟨(World.cell?_of_block (Below.heap_setCell W ⟨g, j, none⟩ u b hb)).trans h.1, (World.cell?_of_block (Below.heap_setCell W ⟨g, j, none⟩ u pb hp)).trans h.2.1, (World.cell?_of_block (Below.heap_setCell W ⟨g, j, none⟩ u vb hv)).trans h.2.2.1, (World.cell?_of_block (Below.heap_setCell W ⟨g, j, none⟩ u vb hv)).trans h.2.2.2.1, (World.cell?_of_block (Below.heap_setCell W ⟨g, j, none⟩ u sp.block hs)).trans h.2.2.2.2⟩
end
theorem exec_write (b g n cap : Nat) (ws : List Nat) (nd nn : Int) (a : Nat) (o ne : Int) (A : Option Addr) (l c : Nat) (ky bo : Int) (at_ m : Nat) (vw : List Nat) (w : World) (HN : Lk (RN w b g n cap ws true)) (hn : n ≤ 4294967296) (h1 : 1 ≤ m) (hat : at_ + m ≤ n)
    (HW : Lk (Lies .u64 w w.heap.size A vw)) (hvl : vw.length = l) (hl : l ≤ 4294967296) (hlt : Lk (∀ x ∈ vw, x < 18446744073709551616)) (ha : a ≤ at_) (hoff : at_ - a + m ≤ l) (hA : Lk (∀ ad, A = some ad → ad.block ≠ g)) :
    Calls Try.prog 69 #[.pointer (some ⟨b, 0, none⟩), (Value.agg #[Value.int IntKind.i64 2, Value.int IntKind.i64 nd, Value.int IntKind.i64 ((a : Int)), Value.int IntKind.i64 nn, Value.int IntKind.u64 o, Value.int IntKind.u64 ne, Value.slice A l c, Value.int IntKind.u64 ky, Value.int IntKind.i64 bo]), .agg #[.int .i64 at_, .int .i64 m]] w fun e w' => e = .returned (.slice none 0 0) ∧ Lk (RN w' b g n cap (putW ws at_ ((vw.drop (at_ - a)).take m)) true) ∧ Lk (Only (fun k => k = g) w w') := by
  obtain ⟨w1, hw1, hs1, hx, h0⟩ := boxes b g n cap ws nd a nn o ne A l c ky bo at_ m w 2 HN
  have HX := Lk.mk hx
  have HS := Lk.mk h0
  clear hx h0
  obtain ⟨ad, rfl, hab, hac⟩ := HW.out (by omega)
  have HC := Lk.mk hac
  have HAb := Lk.mk hab
  have HAg := Lk.mk (hA.out ad rfl)
  clear hac hab hA HW
  obtain ⟨q, hq⟩ : ∃ q, at_ - a = q := ⟨_, rfl⟩
  rw [hq] at hoff ⊢
  have hlen := HN.out.row.len
  have HLw := Lk.mk (cut_len (show q + m ≤ vw.length by omega))
  have HLt := Lk.mk (cut_lt hlt.out q m)
  have HGk := Lk.mk (fun (k : Nat) (hk : k < m) => show vw.getD (q + k) 0 = ((vw.drop q).take m).getD k 0 by
    rw [List.getD_eq_getElem?_getD, List.getD_eq_getElem?_getD, List.getElem?_take, if_pos hk, List.getElem?_drop])
  generalize hlw : (vw.drop q).take m = lw at *
  clear hlw
  go_enter Try.func69, Try.ntmps69
  go_upto_region 1 with fail
  rw [← hw1]
  clear hw1
  generalize w1.alloc _ = W2 at *
  refine r1 HN.out.row hn h1 hat HS.out ?_
  intro g1 c1 x9 x10 x11 x12 x13 x14 x15 x16 x17 x18 x19 x20 x21 w3 HG HR HB
  have HX3 := Lk.mk (HX.out.on HB.out)
  have HBF := Lk.mk (HS.out.2.2.2.out.trans (HB.out.mono HS.out.2.2.2.out.size))
  have HN3 := Lk.mk (Nd.below HN.out HBF.out)
  have HP := Lk.mk ((HB.out.cell (block_lt_of_cell HS.out.2.1)).trans HS.out.2.1)
  have HP1 := Lk.mk ((HB.out.cell (block_lt_of_cell HS.out.2.2.1)).trans HS.out.2.2.1)
  have HNE := Lk.mk (show (b ≠ g ∧ w.heap.size + 1 ≠ g ∧ w.heap.size ≠ g) from ⟨HN.out.ne, by have := HN.out.row.size; omega, by have := HN.out.row.size; omega⟩)
  have HCk := Lk.mk (fun (j : Nat) (hj : j < vw.length) => (HBF.out.cell (p := ad.add j) (by rw [block_of_add]; exact HAb.out)).trans (HC.out j hj))
  have HO0 := Lk.mk (Only.of_below (S := fun k => k = g) HBF.out)
  have HLn := Lk.mk hlen
  clear HX HS HB HN HG HR HC HBF hs1 hlen
  obtain ⟨k0, k1, k2, k3, k4, k5, k6, k7, k8⟩ := HX3.out
  go_wp2_with fail
  go_loopw [8] (fun s8 wr => ∃ k : Nat, k ≤ m ∧ s8 = .int .i64 k ∧ Lk (RN wr b g n cap (putW ws at_ (lw.take k)) true) ∧ Lk (Only (fun k => k = g) w3 wr)) (fun s8 _ => m - (intOf s8).toNat)
  case atStart => exact ⟨0, by omega, rfl, ⟨by rw [List.take_zero, putW_nil]; exact HN3.out⟩, ⟨Only.refl _ _⟩⟩
  case round =>
    obtain ⟨k, hk, rfl, HNk, HOk⟩ := hrel
    have HON := Lk.mk (fun (p : Addr) (v : Value) (hp : p.block ≠ g) (hv : w3.cell? p = some v) => (World.cell?_of_block (HOk.out.block p.block (block_lt_of_cell hv) hp)).trans hv)
    clear k0 k1 k2 k3 k4 k5 k6 k7 k8
    have p0 := HON.out _ _ HNE.out.2.1 HP.out
    have p1 := HON.out _ _ HNE.out.2.1 HP1.out
    have v2 := HON.out _ _ HNE.out.2.2 HX3.out.c2
    have v6 := HON.out _ _ HNE.out.2.2 HX3.out.c6
    by_cases hlt2 : k < m
    · have hkl : k < lw.length := by rw [HLw.out]; exact hlt2
      have hqv : q + k < vw.length := by omega
      have HSrc := Lk.mk (HON.out (ad.add (q + k)) _ (by rw [block_of_add]; exact HAg.out) (HCk.out (q + k) hqv))
      rw [HGk.out k hlt2] at HSrc
      have HU := Lk.mk (getD_lt HLt.out hkl)
      have hpl : at_ + lw.length ≤ ws.length := by rw [HLw.out, HLn.out]; exact hat
      have HM := Lk.mk (putW_more hpl hkl)
      have hcell := HNk.out.row.cell (show at_ + k < n by omega)
      have hfr := HNk.out.row.free (at_ + k)
      have hb0 := HNk.out.c0
      generalize lw.getD k 0 = u at *
      have hw1 : IntKind.i64.wrap ((at_ : Int) + k) = (at_ : Int) + k := IntWalk.i64_in _ (by omega)
      have hw2 : IntKind.i64.wrap ((at_ : Int) - a) = (q : Int) := by rw [IntWalk.i64_in _ (by omega)]; omega
      have hw3 : IntKind.i64.wrap ((q : Int) + k) = (q : Int) + k := IntWalk.i64_in _ (by omega)
      have hq0 : (0 : Int) ≤ (at_ : Int) + k := by omega
      have hq1 : (at_ : Int) + k < (n : Int) := by omega
      have hq3 : (0 : Int) ≤ (q : Int) + k := by omega
      have hq2 : (q : Int) + k < (l : Int) := by omega
      have ht1 : ((at_ : Int) + k).toNat = at_ + k := by omega
      have ht2 : ((q : Int) + k).toNat = q + k := by omega
      have HH := Lk.mk (show World.cell? wr.drew ⟨b, 0, none⟩ = some (.slice (some ⟨g, 0, none⟩) n cap) ∧ World.cell? wr.drew ⟨w.heap.size + 1, 0, none⟩ = some (.int .i64 (at_ : Int)) ∧ World.cell? wr.drew ⟨w.heap.size, 2, none⟩ = some (.int .i64 (a : Int)) ∧ World.cell? wr.drew ⟨w.heap.size, 6, none⟩ = some (.slice (some ad) l c) ∧ World.cell? wr.drew (ad.add (q + k)) = some (.int .u64 (u : Int)) from ⟨hb0, p0, v2, v6, HSrc.out⟩)
      clear p0 v2 v6 hb0 hpl hqv HSrc
      go_upto_region 9 with fail
      go_region_held3 (fun W' => World.cell? W' ⟨b, 0, none⟩ = some (.slice (some ⟨g, 0, none⟩) n cap) ∧ World.cell? W' ⟨w.heap.size + 1, 0, none⟩ = some (.int .i64 (at_ : Int)) ∧ World.cell? W' ⟨w.heap.size, 2, none⟩ = some (.int .i64 (a : Int)) ∧ World.cell? W' ⟨w.heap.size, 6, none⟩ = some (.slice (some ad) l c) ∧ World.cell? W' (ad.add (q + k)) = some (.int .u64 (u : Int))) (first | with_reducible exact HH.out | with_reducible assumption | exact far5 HH.out HNE.out.1 HNE.out.2.1 HNE.out.2.2 (by rw [block_of_add]; exact HAg.out) _)
        (fail)
      go_wp2_with fail
      go_roundw
      case rel =>
        have hO := HOk.out.setCell (p := ⟨g, at_ + k, none⟩) (.inl rfl) (.int .u64 (u : Int))
        exact ⟨k + 1, by omega, by go_num, ⟨by rw [← HM.out]; exact (HNk.out.set (at_ + k) u HU.out).keep rfl rfl⟩, ⟨⟨hO.os, hO.tape, hO.output, hO.size, hO.block⟩⟩⟩
      case measure => simp [intOf]; omega
    · obtain rfl : k = m := by omega
      go_wp2
      go_ret
      exact ⟨rfl, ⟨by rw [List.take_of_length_le (by rw [HLw.out]; exact Nat.le_refl _)] at HNk; exact HNk.out⟩, ⟨HO0.out.trans HOk.out⟩⟩
end Go.Proofs.Ytacfmkmiikkppaa.Qc

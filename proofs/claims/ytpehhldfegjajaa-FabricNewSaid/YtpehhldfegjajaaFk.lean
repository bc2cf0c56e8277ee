/-
  A fabric of one memory node and one compute node, new; the example that every law of chapter 6 asks first.
-/
import Derived.Test.YtpehhldfegjajaaFh
import Derived.Test.YtpehhldfegjajaaFi
import Derived.Test.YtpehhldfegjajaaFj
namespace Go.Proofs.Ytpehhldfegjajaa.Fk
open Go.ChangeShapes Go.WideShapes Go.ChangeAt Go.RowKit Ga Gb Na Nb Va Vb Ve Qb Qd Ta Tc Td Te Tg Th Fa Fb Fc Fd_ Fe Ff Fg Fh Fi Fj
set_option linter.unusedVariables false
set_option linter.unusedSimpArgs false
set_option maxHeartbeats 2000000
set_option maxRecDepth 100000
theorem s1_new {B : Nat} {w : World} {fb L cv ccap : Nat} {nds : List (Nat × Nat)} {NV : Value} {lv : Nat → Value} {bss : Nat → List Nat} {bs : Nat → Nat} (h : C1 B w fb L 1 1 cv ccap nds NV 1 lv bss bs) :
    ∃ (x : Pl1) (F : Nat → Prop), x.fb = fb ∧ S1 B F w x L (.slice none 0 0) [] 0 none 0 [] (.slice none 0 0) (.slice none 0 0) 0 0 (List.replicate (8 * L) 0) := by
  obtain ⟨p, rfl⟩ : ∃ p, nds = [p] := by
    match nds, h.nl with
    | [p], _ => exact ⟨p, rfl⟩
  have hl := h.lks 0 (by omega)
  obtain ⟨bp, hbp⟩ : ∃ bp, bss 0 = [bp] := by
    match bss 0, hl.2.1 with
    | [b], _ => exact ⟨b, rfl⟩
  rw [hbp] at hl
  have hrow := hl.1.row
  have hn := h.n1.row
  have hlow := h.low
  obtain ⟨lb, lc, hlv⟩ : ∃ lb lc, lv 0 = .slice (some ⟨lb, 0, none⟩) 1 lc := by
    rcases hrow.2 with ⟨h, h0⟩ | ⟨g, cap, cur, h, _⟩
    · simp at h0
    · exact ⟨g, cap, h⟩
  obtain ⟨nv, nc, hnv⟩ : ∃ nv nc, NV = .slice (some ⟨nv, 0, none⟩) 1 nc := by
    rcases hn.2 with ⟨h, h0⟩ | ⟨g, cap, cur, h, _⟩
    · simp at h0
    · exact ⟨g, cap, h⟩
  subst hnv
  rw [hlv] at hrow
  have hz := hl.1.prs 0 (by simp)
  have hbl : bs 0 ≤ bp := hl.1.low bp (by simp)
  have hcb := hlow.2.2 0 (by omega)
  have hlb := hrow.lt lb rfl
  have hnvl := hn.lt nv rfl
  have hp := h.n1.nodes p (by simp)
  have hpl := h.n1.low p (by simp)
  refine ⟨⟨fb, nv, cv, lb, bp, p.1, p.2, nc, ccap, lc⟩, fun k => k = bp ∨ k = p.1 ∨ k = p.2, rfl, ⟨h.z, SR.of_own ncs (fun _ => rfl) p hn rfl |>.eq (fun c hc => by (obtain rfl : c = 0 := by omega); rfl), h.crow.eq (fun c hc => by (obtain rfl : c = 0 := by omega); rw [if_pos (by omega), hlv]; rfl), SR.of_own lcs0 (fun _ => rfl) bp hrow rfl |>.eq (fun c hc => by (obtain rfl : c = 0 := by omega); rfl), prc_pp hz (.inl rfl), hp, (fun p hp => by cases hp), ⟨.inr (.inl rfl), .inr (.inr rfl)⟩, (fun g hg => by cases hg), fun k hk => ?_, ⟨hlow.1, hnvl.1, hlow.2.1, by show B ≤ lb; omega⟩⟩⟩
  rcases hk with rfl | rfl | rfl
  · exact ⟨by omega, (Array.getElem?_eq_some_iff.1 hz).1⟩
  · exact ⟨hpl.1, hp.size⟩
  · exact ⟨hpl.2, hp.row.size⟩
def v1 : Nw := ⟨3, 0, 0, 0, 0, 4, 0, 0⟩
def v2 : Nw := ⟨1, 0, 0, 1, 0, 0, 0, 0⟩
def vsA (i : Nat) : Nw := if i = 0 then v1 else v2
def ws0 : List Nat := List.replicate (8 * 5) 0
def ws1 : List Nat := wsS (mvN v1) ws0 0
theorem ok1 : OkV (mvN v1) := ⟨by decide, by decide, by decide, ⟨by decide, fun x hx => by cases hx⟩, by decide⟩
theorem ok2 : OkV (mvN v2) := ⟨by decide, by decide, by decide, ⟨by decide, fun x hx => by cases hx⟩, by decide⟩
theorem code1 : codeV 0 1 5 ws0 true (mvN v1) = 0 := by decide
theorem code2 : codeV 0 1 5 ws1 true (mvN v2) = 0 := by decide
theorem np1 : nP (mvN v1) = 1 := by decide
theorem np2 : nP (mvN v2) = 1 := by decide
theorem out1 : (outS (mvN v1) ws0 0).length = 1 := by decide
theorem out2 : outS (mvN v2) ws1 0 = [4] := by decide
theorem mvs2 : mvs vsA 2 = [mvN v1, mvN v2] := rfl
theorem two_made {w : World} : SR 56 9 (w.alloc (.cells #[.int .i64 3, .int .i64 0, .int .i64 0, .int .i64 0, .int .u64 0, .int .u64 4, .slice none 0 0, .int .u64 0, .int .i64 0, .int .i64 1, .int .i64 0, .int .i64 0, .int .i64 1, .int .u64 0, .int .u64 0, .slice none 0 0, .int .u64 0, .int .i64 0] 56)) w.heap.size 2 2 (fun i => vcs (vsA i)) := by
  refine ⟨⟨by omega, by unfold maxLen; omega⟩, ⟨_, heap_alloc_new w _, by decide, fun c hc j hj => ?_⟩, fun c hc => rfl⟩
  rcases c with _ | _ | c
  · rcases j with _ | _ | _ | _ | _ | _ | _ | _ | _ | j <;> first | rfl | omega
  · rcases j with _ | _ | _ | _ | _ | _ | _ | _ | _ | j <;> first | rfl | omega
  · omega
theorem two_list {q2 : List Pq} {a b : Mv} (h : q2.map (·.v) = [a, b]) : ∃ p1 p2, q2 = [p1, p2] ∧ p1.v = a ∧ p2.v = b := by
  match q2, h with
  | [p1, p2], h =>
    simp only [List.map_cons, List.map_nil, List.cons.injEq, and_true] at h
    exact ⟨p1, p2, rfl, h.1, h.2⟩
/-- A step behind a box of its own. -/
def SbR (B0 : Nat) (F : Nat → Prop) (x : Pl1) (v : Mv) (q : List Pq) (m : Nat) (xs : List Value) (bb n bc : Nat) (f : Nat → List Value) (pl : Nat) (tr po : Int) (ws : List Nat) (w : World) (e : Ending) (w' : World) : Prop :=
  ∃ W, Below w.heap.size w W ∧ StR B0 F x 5 v q m xs bb n bc f pl tr po ws W e w'
theorem sb_of {B0 : Nat} {F : Nat → Prop} {x : Pl1} {V : Value} {p : Pq} {v : Mv} {q : List Pq} {PV : Value} {m pl : Nat} {xs : List Value} {bb n bc : Nat} {f : Nat → List Value} {tr po : Int} {ws : List Nat} {w : World}
    (hS : S1 B0 F w x 5 V (p :: q) 0 none 0 [] PV (.slice (some ⟨bb, 0, none⟩) n bc) tr po ws) (hp : Tl w 3 1 PV (m + 1) (.int .i64 (pl : Nat) :: xs)) (hA : SR 86 3 w bb n bc f) (hB0 : B0 ≤ w.heap.size) (hbb : B0 ≤ bb) (hpl : pl < n)
    (hv : p.v = v) (hok : OkV v) (hk : codeV 0 1 5 ws true v = 0) (hn : nP v = 1) (hq : q.length ≤ 1024) :
    Calls Try.prog 21 #[.pointer (some ⟨x.fb, 0, none⟩), .agg #[.int .i64 (-1), .int .i64 0, .int .i64 0]] w fun e w' => SbR B0 F x v q m xs bb n bc f pl tr po ws w e w' := by
  obtain ⟨pg, poff, pc, rfl, _⟩ := hp.cells (by omega)
  subst hv
  refine step_of x.fb w _ ⟨fun W hb => ?_⟩
  have hsb := hb.size
  refine (step_one B0 F x 5 V p q pg poff pc m pl xs bb n bc f tr po ws W ⟨S1.below hS hb⟩ ⟨hp.on (fun g hg => hb.block g (hp.lt g hg))⟩ ⟨hA.below hb⟩ (by omega) hbb hpl (by omega) ⟨hok⟩ hk hn hq).mono ?_
  intro e w' h
  refine ⟨?_, W, hb, h⟩
  obtain ⟨_, _, _, _, he, _⟩ := h
  exact ⟨true, he⟩
theorem stepA {B0 : Nat} {F : Nat → Prop} {x : Pl1} {p2 : Pq} {bb bc : Nat} {tr po : Int} {w0 w3 w4 : World} {e : Ending} (hb : Below B0 w0 w3) (hB0 : B0 ≤ w3.heap.size) (hbb : B0 ≤ bb) (hp2 : p2.v = mvN v2)
    (h : SbR B0 F x (mvN v1) [p2] 1 [.int .i64 ((1 : Nat) : Int)] bb 2 bc (fun _ => zans) 0 tr po ws0 w3 e w4) :
    e = .returned (.bool true) ∧ Below B0 w0 w4 ∧ B0 ≤ w4.heap.size ∧ x.cv < w4.heap.size ∧ ∃ (B1 : Option Addr) (c1 : Nat), Lk (Calls Try.prog 21 #[.pointer (some ⟨x.fb, 0, none⟩), .agg #[.int .i64 (-1), .int .i64 0, .int .i64 0]] w4 fun e w' => SbR B0 F x (mvN v2) [] 0 [] bb 2 bc (upd (fun _ => zans) 0 [.bool true, .int .i64 0, .slice B1 1 c1]) 1 tr po ws1 w4 e w') := by
  obtain ⟨W, hW, V3, PV3, B1, c1, rfl, HS4, HT4, HA4, HL4, hB1, HB4⟩ := h
  have hsW := hW.size
  have hb5 : Below B0 w0 w4 := (hb.trans (hW.mono hB0)).trans HB4.out
  have hs4 := HB4.out.size
  have hA := HA4.out
  rw [out1] at hA
  exact ⟨rfl, hb5, by omega, HS4.out.crow.lt, B1, c1, ⟨sb_of (v := mvN v2) (pl := 1) (m := 0) (xs := []) HS4.out HT4.out hA (by omega) hbb (by omega) hp2 ok2 code2 np2 (by decide)⟩⟩
def TkB (B0 : Nat) (w0 : World) (e : Ending) (w6 : World) : Prop :=
  ∃ (g c : Nat) (B1 : Option Addr) (c1 : Nat) (ad : Addr) (c2 : Nat), e = .returned (.tuple #[.slice (some ⟨g, 0, none⟩) 2 c, .bool true]) ∧ w6.cell? ⟨g, 1, none⟩ = some (.slice B1 1 c1) ∧ w6.cell? ⟨g, 3, none⟩ = some (.slice (some ad) 1 c2) ∧ w6.cell? ad = some (.int .u64 4) ∧ Lk (Below B0 w0 w6)
theorem stepB {B0 : Nat} {F : Nat → Prop} {x : Pl1} {B1 : Option Addr} {c1 bb bc : Nat} {tr po : Int} {w0 w4 w5 : World} {e : Ending} (hb : Below B0 w0 w4) (hB0 : B0 ≤ w4.heap.size) (hcv : x.cv < w4.heap.size)
    (h : SbR B0 F x (mvN v2) [] 0 [] bb 2 bc (upd (fun _ => zans) 0 [.bool true, .int .i64 0, .slice B1 1 c1]) 1 tr po ws1 w4 e w5) :
    e = .returned (.bool true) ∧ Lk (Calls Try.prog 22 #[.pointer (some ⟨x.fb, 0, none⟩), .int .i64 0] w5 fun e w6 => TkB B0 w0 e w6) := by
  obtain ⟨W, hW, V3, PV3, B2, c2, rfl, HS5, HT5, HA5, HL5, hB2, HB5⟩ := h
  have hsW := hW.size
  have hb5 : Below B0 w0 w5 := (hb.trans (hW.mono hB0)).trans HB5.out
  have hs5 := HB5.out.size
  have hA := HA5.out
  have hL := HL5.out
  rw [out2] at hA hL
  obtain ⟨ad, hB2e, _, hc⟩ := hL (by decide)
  have hc0 := hc 0 (by decide)
  rw [Addr.add_zero'] at hc0
  subst hB2e
  obtain ⟨PA, pc, rfl⟩ := HT5.out.slice
  refine ⟨rfl, ⟨(take_n B0 F x 5 V3 PA 0 pc bb 2 bc tr po _ (fun i => if i = 0 then B1 else some ad) (fun _ => 1) (fun i => if i = 0 then c1 else c2) w5 HS5 ⟨hA.eq (fun c hc => ?_)⟩ (by omega)).mono ?_⟩⟩
  · rcases c with _ | _ | c
    · rfl
    · rfl
    · omega
  · rintro e w6 ⟨g, cc, rfl, HD, HO⟩
    refine ⟨g, cc, B1, c1, ad, c2, rfl, (HD.out.cell (c := 0) (j := 1) (by decide) (by decide)), (HD.out.cell (c := 1) (j := 1) (by decide) (by decide)), ?_, ⟨HO.out.below_on hb5 (fun k (e : k = x.cv) => by rw [e]; exact HS5.out.lo.2.2.1) (by omega)⟩⟩
    have hne : ad.block ≠ x.cv := by
      have h1 := hB2 ad rfl
      have h2 := hcv
      omega
    exact (World.cell?_of_block (w := w5) (w' := w6) (a := ad) (HO.out.block _ (block_lt_of_cell hc0) hne)).trans hc0
theorem awake_any (w : World) : Calls Try.prog 8 #[] w fun e w' => e = .returned (.bool true) ∧ Lk (Below w.heap.size w w') := by
  have CN : Calls Try.prog 7 #[.int .i64 1, .int .i64 1, .int .i64 5] w (fun e w' => ∃ (x : Pl1) (F : Nat → Prop), e = .returned (.tuple #[.pointer (some ⟨x.fb, 0, none⟩), .int .i64 0]) ∧ Lk (S1 w.heap.size F w' x 5 (.slice none 0 0) [] 0 none 0 [] (.slice none 0 0) (.slice none 0 0) 0 0 ws0) ∧ Lk (Below w.heap.size w w')) := by
    refine (newf_ok 1 1 5 w (by omega) (by omega) (by omega)).mono ?_
    rintro e w' ⟨fb, cv, ccap, nds, NV, lv, bss, bs, rfl, HC, HB⟩
    obtain ⟨x, F, rfl, hS⟩ := s1_new HC.out
    exact ⟨x, F, rfl, ⟨hS⟩, HB⟩
  go_enter Try.func8, Try.ntmps8
  go_upto_region 4 with (first
    | (go_at_call 7; refine CN.mono ?_; rintro e w1 ⟨x, F, rfl, HS1, HB1⟩))
  clear CN
  have hBa := (Below.refl _ w1).alloc (Nat.le_refl _) (.cells #[.int .i64 3, .int .i64 0, .int .i64 0, .int .i64 0, .int .u64 0, .int .u64 4, .slice none 0 0, .int .u64 0, .int .i64 0, .int .i64 1, .int .i64 0, .int .i64 0, .int .i64 1, .int .u64 0, .int .u64 0, .slice none 0 0, .int .u64 0, .int .i64 0] 56)
  have HVa := Lk.mk (two_made (w := w1))
  have HSa := Lk.mk (S1.below HS1.out hBa)
  have hs1 := HB1.out.size
  have HBa := Lk.mk (HB1.out.trans (hBa.mono hs1))
  have hgv : ¬ F w1.heap.size := fun hh => by have := (HS1.out.fl _ hh).2; omega
  clear hBa HS1 HB1
  have CP := fun W hS hv hB => post_n w.heap.size F x 5 (.slice none 0 0) ws0 0 0 w1.heap.size 2 2 vsA W hS hv hB hgv (by omega) (by omega) (fun i hi => by rcases i with _ | _ | i <;> first | decide | omega) (fun i hi => by rcases i with _ | _ | i <;> first | decide | omega) (fun i hi => by rcases i with _ | _ | i <;> first | rfl | omega) (fun i hi => by rcases i with _ | _ | i <;> first | decide | omega) (by omega)
  have hsa : w.heap.size ≤ (w1.alloc (.cells #[.int .i64 3, .int .i64 0, .int .i64 0, .int .i64 0, .int .u64 0, .int .u64 4, .slice none 0 0, .int .u64 0, .int .i64 0, .int .i64 1, .int .i64 0, .int .i64 0, .int .i64 1, .int .u64 0, .int .u64 0, .slice none 0 0, .int .u64 0, .int .i64 0] 56)).heap.size := HBa.out.size
  have CP1 := Lk.mk (CP _ HSa HVa hsa)
  clear CP HSa HVa hgv
  go_upto_region 5 with (first
    | (go_at_call 18; refine CP1.out.mono ?_; rintro e w2 ⟨F2, V2, PV2, q2, bb, bc, rfl, HS2, hq2, Hp2, HA2, hbb, HB2⟩))
  clear CP1
  have HBb := Lk.mk (HBa.out.trans HB2.out)
  clear HBa HB2
  obtain ⟨p1, p2, rfl, hp1, hp2⟩ := two_list (hq2.trans mvs2)
  clear hq2
  obtain ⟨PA, pc, rfl⟩ := (Tl.of_own Hp2.out).slice
  have CC := choices_one w.heap.size F2 x 5 V2 [p1, p2] 0 none 0 [] PA (some ⟨bb, 0, none⟩) 2 pc 2 bc _ _ ws0 w2 HS2 (by simp)
  go_upto_region 6 with (first
    | (go_at_call 20; refine CC.mono ?_; rintro e w3 ⟨cA, cc, rfl, HB3⟩))
  have hs2 := HBb.out.size
  have HS3 := Lk.mk (S1.below HS2.out HB3.out)
  have hs3 := HB3.out.size
  have CS1 := Lk.mk (sb_of (v := mvN v1) (pl := 0) (m := 1) (xs := [.int .i64 ((1 : Nat) : Int)]) HS3.out ((Tl.of_own Hp2.out).on (fun g hg => HB3.out.block g (Hp2.out.lt g hg).2)) (HA2.out.below HB3.out) (by omega) hbb (by omega) hp1 ok1 code1 np1 (by simp))
  have HBc := Lk.mk (HBb.out.trans (HB3.out.mono hs2))
  have hs4 : w.heap.size ≤ w3.heap.size := by omega
  clear CC HS2 HS3 HA2 HB3 HBb Hp2 hp1
  go_upto_region 7 with (first
    | (go_at_call 21; (with_reducible refine CS1.out.mono ?_); rintro e w4 HR4; have hA := stepA HBc.out hs4 hbb hp2 HR4; clear HR4; obtain ⟨he, hb4, hs5, hcv4, B1, c1, CS2⟩ := hA; subst he)
    | (go_at_call 21; (with_reducible refine CS2.out.mono ?_); rintro e w5 HR5; have hB := stepB hb4 hs5 hcv4 HR5; clear HR5; obtain ⟨he, CT⟩ := hB; subst he))
  clear CS1 CS2 HBc hp2
  go_upto_region 8 with (first
    | (go_at_call 22; (with_reducible refine CT.out.mono ?_); rintro e w6 ⟨gd, cd, B3, c3, ad, c2, rfl, d1, d3, d4, HB6⟩))
  go_wp2
  go_ret
  exact ⟨rfl, HB6⟩
end Go.Proofs.Ytpehhldfegjajaa.Fk

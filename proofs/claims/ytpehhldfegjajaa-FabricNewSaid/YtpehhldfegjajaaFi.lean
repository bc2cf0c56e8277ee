/-
  A fabric of one memory node and one compute node: a step that completes a verb.
-/
import Derived.Test.YtpehhldfegjajaaFg
import Derived.Test.YtpehhldfegjajaaTi
namespace Go.Proofs.Ytpehhldfegjajaa.Fi
open Go.ChangeShapes Go.WideShapes Go.ChangeAt Go.RowKit Ga Gb Na Nb Va Vb Ve Qb Qd Ta Tb Tc Td Te Tf Tg Th Ti Fa Fb Fc Fd_ Fe Ff Fg
set_option linter.unusedVariables false
set_option linter.unusedSimpArgs false
set_option maxHeartbeats 2000000
set_option maxRecDepth 100000
theorem under_is : Try.prog.underlying 35 = some (.slice 3) := Try.underlying35
theorem size_is (w : World) : (sizeOf (Try.prog.elem 35)).run Try.prog w = .ok 1 w := by kernel_rfl
theorem tail_is (g off n c : Nat) (w : World) (h1 : 1 ≤ n) (h3 : n ≤ c) (h4 : c ≤ 9223372036854775807) :
    (Instr.sliceAt 35 (.slice (some ⟨g, off, none⟩) n c) (some (.int .i64 1)) none none).run Try.prog w = .ok (.slice (some ⟨g, if c = 1 then off else off + 1, none⟩) (n - 1) (c - 1)) w := by
  have e : (Value.int IntKind.i64 1) = Value.int IntKind.i64 ((1 : Nat) : Int) := rfl
  rw [e, run_sliceAt_slice _ _ _ _ _ _ under_is, run_slice_l _ _ _ _ _ under_is _ _ (by omega) (by omega), size_is]
  have e2 : (if c = 1 then (some ⟨g, off, none⟩ : Option Addr) else (some (⟨g, off, none⟩ : Addr)).map (·.add (1 * 1))) = some ⟨g, if c = 1 then off else off + 1, none⟩ := by
    split
    · rfl
    · simp [add_at]
  simp only [Result.andThen, sliced, Int.toNat_natCast, e2]
theorem tl_tail {w : World} {g off n c : Nat} {x : Value} {xs : List Value} (h : Tl w 3 1 (.slice (some ⟨g, off, none⟩) (n + 1) c) (n + 1) (x :: xs)) :
    Tl w 3 1 (.slice (some ⟨g, if c = 1 then off else off + 1, none⟩) n (c - 1)) n xs := by
  have hl := h.1
  rw [List.length_cons] at hl
  rcases h.2 with ⟨h', _⟩ | ⟨g', off', c', cur, h', hz, h1, h2, h3, h4⟩
  · simp at h'
  · simp only [Value.slice.injEq, Option.some.injEq, Addr.mk.injEq, and_true, true_and] at h'
    obtain ⟨⟨rfl, rfl⟩, rfl⟩ := h'
    refine ⟨by omega, .inr ⟨g, _, c - 1, cur, rfl, hz, by omega, by omega, ?_, fun j hj => ?_⟩⟩
    · split <;> omega
    · by_cases hc : c = 1
      · omega
      · rw [if_neg hc, Nat.add_assoc, Nat.add_comm 1 j, h4 (j + 1) (by omega)]
        rfl
theorem s1_ran {B0 : Nat} {F : Nat → Prop} {w w4 : World} {x : Pl1} {L : Nat} {V V2 : Value} {p : Pq} {q : List Pq} {PV BV : Value} {tr po : Int} {ws ws' : List Nat}
    (HS : S1 B0 F w x L V (p :: q) 0 none 0 [] PV BV tr po ws) (HP : PP F w4 x.bp 0 1 0 V2 q 0 none 0 []) (HN : PN w4 x.bn x.gn (8 * L) (8 * L) ws' true) (HO : Only (fun k => k = x.bp ∨ V.ownBlock = some k ∨ (Value.slice none 0 0).ownBlock = some k ∨ k = x.bn ∨ k = x.gn) w w4) :
    S1 B0 F w4 x L V2 q 0 none 0 [] PV BV tr po ws' ∧ ∀ (k : Nat) (cur : Array Value) (T : TypeId), w.heap[k]? = some (.cells cur T (0, 0)) → T ≠ 98 → T ≠ 56 → T ≠ 69 → T ≠ 53 → ¬ (k = x.bp ∨ V.ownBlock = some k ∨ (Value.slice none 0 0).ownBlock = some k ∨ k = x.bn ∨ k = x.gn) := by
  obtain ⟨c1, e1⟩ := HS.nrow.typed
  obtain ⟨c2, e2⟩ := HS.crow.typed
  obtain ⟨c3, e3⟩ := HS.lrow.typed
  obtain ⟨c4, e4⟩ := Row.typed HS.pn.row
  have hfar : ∀ (k : Nat) (cur : Array Value) (T : TypeId), w.heap[k]? = some (.cells cur T (0, 0)) → T ≠ 98 → T ≠ 56 → T ≠ 69 → T ≠ 53 → ¬ (k = x.bp ∨ V.ownBlock = some k ∨ (Value.slice none 0 0).ownBlock = some k ∨ k = x.bn ∨ k = x.gn) := fun k cur T hk h1 h2 h3 h4 hh => by
    rcases hh with e | e | e | e | e
    · exact ne_typed hk HS.pp.z h1 e
    · obtain ⟨c5, e5⟩ := HS.pp.own.typed _ e
      exact ne_typed hk e5 h2 rfl
    · cases e
    · exact ne_typed hk HS.pn.node h3 e
    · exact ne_typed hk e4 h4 e
  refine ⟨⟨(HO.block _ (Array.getElem?_eq_some_iff.1 HS.z).1 (hfar _ _ _ HS.z (by decide) (by decide) (by decide) (by decide))).trans HS.z, HS.nrow.on HO (hfar _ _ _ e1 (by decide) (by decide) (by decide) (by decide)), HS.crow.on HO (hfar _ _ _ e2 (by decide) (by decide) (by decide) (by decide)), HS.lrow.on HO (hfar _ _ _ e3 (by decide) (by decide) (by decide) (by decide)), HP, HN, fun p' hp' => HS.q0 p' (List.mem_cons_of_mem _ hp'), HS.fn, (fun g hg => by cases hg), fun k hk => ⟨(HS.fl k hk).1, Nat.lt_of_lt_of_le (HS.fl k hk).2 HO.size⟩, HS.lo⟩, hfar⟩
/-- The link's places stored. -/
theorem S1.putL {B0 : Nat} {F : Nat → Prop} {w : World} {x : Pl1} {L : Nat} {V : Value} {q : List Pq} {ex : Nat} {B : Option Addr} {cb : Nat} {r : List Nat} {PV BV PV' : Value} {tr po : Int} {ws : List Nat} (h : S1 B0 F w x L V q ex B cb r PV BV tr po ws) : S1 B0 F (w.setCell ⟨x.lb, 1, none⟩ PV') x L V q ex B cb r PV' BV tr po ws := by
  have ho : Only (fun k => k = x.lb) w (w.setCell ⟨x.lb, 1, none⟩ PV') := (Only.refl (fun k => k = x.lb) w).setCell (p := ⟨x.lb, 1, none⟩) (.inl rfl) PV'
  obtain ⟨c1, e1⟩ := h.nrow.typed
  obtain ⟨c2, e2⟩ := h.crow.typed
  obtain ⟨c3, e3⟩ := h.lrow.typed
  obtain ⟨c4, e4⟩ := Row.typed h.pn.row
  have hs := h.lrow.set (c := 0) (j := 1) (by decide) (by decide) PV'
  rw [Nat.zero_mul, Nat.zero_add] at hs
  refine ⟨(ho.block _ (Array.getElem?_eq_some_iff.1 h.z).1 (ne_typed h.z e3 (by decide))).trans h.z, h.nrow.on ho (ne_typed e1 e3 (by decide)), h.crow.on ho (ne_typed e2 e3 (by decide)), hs.eq (fun c hc => by (obtain rfl : c = 0 := by omega); rw [upd_same]; rfl), Ff.calm h.pp h.q0 ho (ne_typed h.pp.z e3 (by decide)) (fun g hg e => ?_) (fun g hg e => ?_), h.pn.on ho (ne_typed h.pn.node e3 (by decide)) (ne_typed e4 e3 (by decide)), h.q0, h.fn, h.bb, fun k hk => ⟨(h.fl k hk).1, Nat.lt_of_lt_of_le (h.fl k hk).2 ho.size⟩, h.lo⟩
  · obtain ⟨c5, e5⟩ := h.pp.own.typed g hg
    exact ne_typed e5 e3 (by decide) e
  · obtain ⟨c5, e5⟩ := h.pp.ow.typed g hg
    exact ne_typed e5 e3 (by decide) e
/-- What a step leaves that completes the verb v. -/
def StR (B0 : Nat) (F : Nat → Prop) (x : Pl1) (L : Nat) (v : Mv) (q : List Pq) (m : Nat) (xs : List Value) (bb n bc : Nat) (f : Nat → List Value) (pl : Nat) (tr po : Int) (ws : List Nat) (w : World) (e : Ending) (w' : World) : Prop :=
  ∃ (V2 PV2 : Value) (B2 : Option Addr) (c2 : Nat), e = .returned (.bool true) ∧ Lk (S1 B0 F w' x L V2 q 0 none 0 [] PV2 (.slice (some ⟨bb, 0, none⟩) n bc) tr po (wsS v ws 0)) ∧ Lk (Tl w' 3 1 PV2 m xs) ∧
      Lk (SR 86 3 w' bb n bc (upd f pl [.bool true, .int .i64 0, .slice B2 (outS v ws 0).length c2])) ∧ Lk (Lies .u64 w' w'.heap.size B2 (outS v ws 0)) ∧ (∀ ad, B2 = some ad → w.heap.size ≤ ad.block) ∧ Lk (Below B0 w w')
theorem step_one (B0 : Nat) (F : Nat → Prop) (x : Pl1) (L : Nat) (V : Value) (p : Pq) (q : List Pq) (pg poff pc m pl : Nat) (xs : List Value) (bb n bc : Nat) (f : Nat → List Value) (tr po : Int) (ws : List Nat) (w : World)
    (hS : Lk (S1 B0 F w x L V (p :: q) 0 none 0 [] (.slice (some ⟨pg, poff, none⟩) (m + 1) pc) (.slice (some ⟨bb, 0, none⟩) n bc) tr po ws)) (hp : Lk (Tl w 3 1 (.slice (some ⟨pg, poff, none⟩) (m + 1) pc) (m + 1) (.int .i64 (pl : Nat) :: xs))) (hA : Lk (SR 86 3 w bb n bc f)) (hB0 : B0 ≤ w.heap.size) (hbb : B0 ≤ bb) (hpl : pl < n) (hL : 1 ≤ L ∧ L ≤ 256)
    (hok : Lk (OkV p.v)) (hk : codeV 0 1 L ws true p.v = 0) (hn : nP p.v = 1) (hq : q.length ≤ 1024) :
    Calls Try.prog 44 #[.pointer (some ⟨x.fb, 0, none⟩), .int .i64 0, .int .i64 0] w fun e w' => StR B0 F x L p.v q m xs bb n bc f pl tr po ws w e w' := by
  obtain ⟨k0, k1, k2, k3, k4, k5⟩ := six_of hS.out.crow
  have CL : Calls Try.prog 34 #[.pointer (some ⟨x.fb, 0, none⟩), .int .i64 0] w (fun e w' => e = .returned (.pointer (some ⟨x.cv, 0, none⟩)) ∧ w = w') := living_at x.fb L (some ⟨x.nv, 0, none⟩) 1 x.nc 1 x.cc (.slice none 0 0) w x.cv 0 true ⟨hS.out.z⟩ (by omega) (by omega) ⟨k0⟩
  have CN : Calls Try.prog 9 #[.pointer (some ⟨x.fb, 0, none⟩), .int .i64 0] w (fun e w' => e = .returned (.pointer (some ⟨x.bn, 0, none⟩)) ∧ w = w') := node_at x.fb L (some ⟨x.cv, 0, none⟩) 1 x.nc 1 x.cc (.slice none 0 0) w x.nv x.bn 0 ⟨hS.out.z⟩ (by omega) (by omega) ⟨hS.out.nrow.cell (c := 0) (j := 0) (by decide) (by decide)⟩
  have CP := pending_any F x.bp 0 1 0 V (p :: q) 0 none 0 [] w ⟨hS.out.pp⟩
  obtain ⟨l0, l1⟩ := two_of (i := 0) hS.out.lrow (by decide) rfl
  rw [Nat.zero_mul] at l0 l1
  rw [Nat.zero_add] at l1
  have hpos := hok.out.pos
  have hpc := hok.out.piece (show 0 < nP p.v by omega)
  have CS := step_run F x.bp 0 1 0 V p q 0 none 0 [] x.bn x.gn (8 * L) (8 * L) ws L w ⟨hS.out.pp⟩ ⟨hS.out.pn⟩ rfl hL (by decide) (by decide) hok hk (by omega) ⟨hS.out.fn⟩ ⟨fun g hg => by cases hg⟩ ⟨fun g hg hF => by have := (hS.out.fl g hF).2; omega⟩ (by show 0 + _ ≤ _; omega)
  have hqn : ¬ ((q.length : Int) + 1 = 0) := by omega
  go_enter Try.func44, Try.ntmps44
  go_upto_region 7 with (first
    | (go_at_call 34; refine CL.mono ?_; rintro e w' ⟨rfl, rfl⟩)
    | (go_at_call 9; refine CN.mono ?_; rintro e w' ⟨rfl, rfl⟩)
    | (go_at_call 41; refine CP.mono ?_; rintro e w' ⟨rfl, rfl⟩))
  clear CL CN CP
  go_upto_region 8 with (first
    | (go_at_call 57; refine CS.mono ?_; rintro e w4 ⟨HN4, HO4, HR4⟩; rcases HR4 with ⟨h, _⟩ | ⟨hx9, V2, B2, c2, rfl, HP4, HL4, HV4⟩; (exact absurd h (by omega)); clear hx9))
  have hran := s1_ran hS.out HP4.out HN4.out HO4.out
  have HS4 := Lk.mk hran.1
  have hfar := hran.2
  obtain ⟨cga, ega⟩ := hA.out.typed
  have HA4 := Lk.mk (hA.out.on HO4.out (hfar _ _ _ ega (by decide) (by decide) (by decide) (by decide)))
  have Hp4 := Lk.mk (hp.out.on (fun g hg => HO4.out.block g (hp.out.lt g hg) (by obtain ⟨cur, hc⟩ := hp.out.typed g hg; exact hfar _ _ _ hc (by decide) (by decide) (by decide) (by decide))))
  have HB4 := Lk.mk (HO4.out.to_below (B := B0) (fun k hk => by
    rcases hk with e | e | e | e | e
    · rw [e]; exact (hS.out.fl _ hS.out.pp.f).1
    · exact (hS.out.fl _ (hS.out.pp.vf k e)).1
    · cases e
    · rw [e]; exact (hS.out.fl _ hS.out.fn.1).1
    · rw [e]; exact (hS.out.fl _ hS.out.fn.2).1) hB0)
  have hs4 : w.heap.size ≤ w4.heap.size := HO4.out.size
  have hbw : bb < w.heap.size := hA.out.lt
  have HN5 : x.lb < w.heap.size := hS.out.lrow.lt
  have HL4a := Lk.mk HL4.out.1
  have HN4b := Lk.mk (show ∀ ad, B2 = some ad → w.heap.size ≤ ad.block from fun ad e => (HL4.out.2 ad.block (by rw [e]; rfl)).elim (fun h => by cases h) id)
  clear hran hfar HP4 HN4 HO4 HL4 HV4 CS hS hA hp l0 l1 k0 k1 k2 k3 k4 k5 ega
  rw [List.nil_append] at HL4a
  have hBa := (Below.refl _ w4).alloc (Nat.le_refl _) (.cells #[.int .i64 0, .slice B2 (outS p.v ws 0).length c2] 67)
  have HD := Lk.mk (heap_alloc_new w4 (.cells #[.int .i64 0, .slice B2 (outS p.v ws 0).length c2] 67))
  have HSa := Lk.mk (S1.below HS4.out hBa)
  have HAa := Lk.mk (HA4.out.below hBa)
  have Hpa := Lk.mk (Hp4.out.on (fun g hg => hBa.block g (Hp4.out.lt g hg)))
  have HBa := Lk.mk (HB4.out.trans (hBa.mono (Nat.le_trans hB0 hs4)))
  have HLa := Lk.mk (HL4a.out.on_ hBa)
  clear hBa HS4 HA4 Hp4 HB4 HL4a
  generalize w4.alloc _ = W at *
  generalize w4.heap.size = gd at *
  obtain ⟨k0, k1, k2, k3, k4, k5⟩ := six_of HSa.out.crow
  obtain ⟨l0, l1⟩ := two_of (i := 0) HSa.out.lrow (by decide) rfl
  rw [Nat.zero_mul] at l0 l1
  rw [Nat.zero_add] at l1
  have d0 := (cell_of_row W gd 0 _ _ _ HD.out).trans rfl
  have d1 := (cell_of_row W gd 1 _ _ _ HD.out).trans rfl
  obtain ⟨pg', poff', pc', hPV, hpc1, hpc2, hfz, hpx⟩ := Hpa.out.cells (by omega)
  injection hPV with hPV1 hPV2 hPV3
  injection hPV1 with hPV1
  injection hPV1 with hPV1 hPV4
  subst hPV1 hPV3 hPV4
  have p0 := hpx 0 _ rfl
  rw [Nat.add_zero] at p0
  have hlen := HAa.out.len pl hpl
  obtain ⟨y0, s0⟩ : ∃ u, W.cell? ⟨bb, pl * 3, none⟩ = some u := ⟨_, (HAa.out.cell0 hpl (by decide)).trans (List.getElem?_eq_getElem (by omega))⟩
  obtain ⟨y1, s1⟩ : ∃ u, W.cell? ⟨bb, pl * 3 + 1, none⟩ = some u := ⟨_, (HAa.out.cell hpl (by decide)).trans (List.getElem?_eq_getElem (by omega))⟩
  obtain ⟨y2, s2⟩ : ∃ u, W.cell? ⟨bb, pl * 3 + 2, none⟩ = some u := ⟨_, (HAa.out.cell hpl (by decide)).trans (List.getElem?_eq_getElem (by omega))⟩
  have f0 := HAa.out.fr (pl * 3)
  have f1 := HAa.out.fr (pl * 3 + 1)
  have f2 := HAa.out.fr (pl * 3 + 2)
  have hpli : (pl : Int) < n := by omega
  have hm0 : (0 : Int) < (m : Int) + 1 := by omega
  go_upto_region 9 with fail
  clear HD hlen hfz hpx
  go_cut [58] (fun _ wx => wx = (((W.setCell ⟨bb, pl * 3, none⟩ (.bool true)).setCell ⟨bb, pl * 3 + 1, none⟩ (.int .i64 0)).setCell ⟨bb, pl * 3 + 2, none⟩ (.slice B2 (outS p.v ws 0).length c2)).drew ∧ True)
  case first =>
    clear HSa HAa Hpa HBa HLa HN4b hok
    go_region
    all_goals go_wp2
    all_goals go_meet
    all_goals exact ⟨rfl, trivial⟩
  case rest =>
    rename_i K aK
    refine aK _ _ ?_
    clear aK
    obtain ⟨hwc, _⟩ := hcut
    have hO6 : Only (fun k => k = bb) W (((W.setCell ⟨bb, pl * 3, none⟩ (.bool true)).setCell ⟨bb, pl * 3 + 1, none⟩ (.int .i64 0)).setCell ⟨bb, pl * 3 + 2, none⟩ (.slice B2 (outS p.v ws 0).length c2)).drew := ((((Only.refl (fun k => k = bb) W).setCell (p := ⟨bb, pl * 3, none⟩) (.inl rfl) (.bool true)).setCell (p := ⟨bb, pl * 3 + 1, none⟩) (.inl rfl) (.int .i64 0)).setCell (p := ⟨bb, pl * 3 + 2, none⟩) (.inl rfl) (.slice B2 (outS p.v ws 0).length c2)).drew 1
    have hA6 := ((HAa.out.set hpl (show 0 < 3 by decide) (.bool true)).set hpl (show 1 < 3 by decide) (.int .i64 0)).set hpl (show 2 < 3 by decide) (.slice B2 (outS p.v ws 0).length c2)
    obtain ⟨cgb, egb⟩ := HAa.out.typed
    have hap := HSa.out.apart egb (by decide) (by decide) (by decide) (by decide) (by decide) (by decide) (by decide) (by decide)
    have HS6 := Lk.mk (HSa.out.calm hO6 hap.1 (fun g hg e => hap.2.1 g hg e) (fun g hg e => hap.2.2 g hg e))
    simp only [Nat.add_zero] at hA6
    have hA7 := hA6.eq (f' := upd f pl [.bool true, .int .i64 0, .slice B2 (outS p.v ws 0).length c2]) (fun c hc => by
      by_cases hcp : c = pl
      · subst hcp
        have h3 := HAa.out.len c hc
        simp only [upd_same]
        match hf : f c, h3 with
        | [_, _, _], _ => rfl
      · simp only [upd_other _ _ hcp])
    have HA6 : Lk (SR 86 3 (((W.setCell ⟨bb, pl * 3, none⟩ (.bool true)).setCell ⟨bb, pl * 3 + 1, none⟩ (.int .i64 0)).setCell ⟨bb, pl * 3 + 2, none⟩ (.slice B2 (outS p.v ws 0).length c2)).drew bb n bc (upd f pl [.bool true, .int .i64 0, .slice B2 (outS p.v ws 0).length c2])) := ⟨hA7.keep rfl⟩
    have hpt := Hpa.out.typed
    have Hp6 := Lk.mk (Hpa.out.on (fun g hg => hO6.block g (Hpa.out.lt g hg) (fun e => by obtain ⟨cur, hc⟩ := hpt g hg; exact ne_typed hc egb (by decide) e)))
    have HB6 := Lk.mk (hO6.below_on (B := B0) HBa.out (fun k (e : k = bb) => by rw [e]; exact hbb) (by have := HBa.out.size; omega))
    have hbl : bb < w.heap.size := hbw
    have HL6 := Lk.mk (lies_only HLa.out hO6 (fun ad e (hh : ad.block = bb) => by have := HN4b.out ad e; omega))
    clear hO6 hA6 hA7 hap egb HAa HSa Hpa HBa HLa hpt s0 s1 s2 f0 f1 f2 d0 d1 k0 k1 k2 k3 k4 k5 l0 l1 p0
    rw [← hwc] at HS6 HA6 Hp6 HB6 HL6
    clear hwc
    have hsl := fun w => tail_is pg poff (m + 1) pc w (by omega) hpc1 (by unfold maxLen at hpc2; omega)
    simp only [Nat.add_sub_cancel] at hsl
    obtain ⟨l0, l1⟩ := two_of (i := 0) HS6.out.lrow (by decide) rfl
    have fl := HS6.out.lrow.fr 1
    rw [Nat.zero_mul] at l0 l1
    rw [Nat.zero_add] at l1
    have HT6 := Lk.mk (tl_tail Hp6.out)
    have hpcb : pc ≤ 9223372036854775807 := by unfold maxLen at hpc2; omega
    have hmpc : (m : Int) < 9223372036854775807 := by omega
    generalize hoff : (if pc = 1 then poff else poff + 1) = off2 at *
    clear hoff hpos hpc hn hk hok
    go_wp2
    go_ret
    have hO7 : Only (fun k => k = x.lb) wc (wc.setCell ⟨x.lb, 1, none⟩ (.slice (some ⟨pg, off2, none⟩) m (pc - 1))) := (Only.refl (fun k => k = x.lb) wc).setCell (p := ⟨x.lb, 1, none⟩) (.inl rfl) _
    obtain ⟨clb, elb⟩ := HS6.out.lrow.typed
    obtain ⟨cgb, egb⟩ := HA6.out.typed
    have hpt := HT6.out.typed
    refine ⟨V2, _, B2, c2, rfl, ⟨S1.putL HS6.out⟩, ⟨HT6.out.on (fun g hg => hO7.block g (HT6.out.lt g hg) (fun e => by obtain ⟨cur, hc⟩ := hpt g hg; exact ne_typed hc elb (by decide) e))⟩, ⟨HA6.out.on hO7 (ne_typed egb elb (by decide))⟩, ⟨lies_only HL6.out hO7 (fun ad e (hh : ad.block = x.lb) => by have := HN4b.out ad e; have := HN5; omega)⟩, HN4b.out, ⟨hO7.below_on (B := B0) HB6.out (fun k (e : k = x.lb) => by rw [e]; exact HS6.out.lo.2.2.2) (by have := HB6.out.size; omega)⟩⟩
end Go.Proofs.Ytpehhldfegjajaa.Fi

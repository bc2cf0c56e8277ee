/-
  A fabric of one memory node and one compute node: Post.
-/
import Derived.Test.YtpehhldfegjajaaFf
namespace Go.Proofs.Ytpehhldfegjajaa.Fg
open Go.ChangeShapes Go.WideShapes Go.ChangeAt Go.RowKit Ga Gb Na Nb Va Vb Ve Qb Qd Ta Tc Td Th Fa Fb Fc Fd_ Fe Ff
set_option linter.unusedVariables false
set_option linter.unusedSimpArgs false
set_option maxHeartbeats 2000000
set_option maxRecDepth 100000
theorem ainfo : (Try.prog.info? 86).map (fun i => (i.zero, i.size, i.bytes)) = some (some (.agg #[.bool false, .int .i64 0, .slice none 0 0]), 3, 40) := by kernel_rfl
structure Pl1 where
  fb : Nat
  nv : Nat
  cv : Nat
  lb : Nat
  bp : Nat
  bn : Nat
  gn : Nat
  nc : Nat
  cc : Nat
  lc : Nat
def cells1 (x : Pl1) (BV : Value) (tr po : Int) : List Value := [.bool true, .int .i64 1, .slice (some ⟨x.lb, 0, none⟩) 1 x.lc, BV, .int .i64 tr, .int .i64 po]
structure S1 (B0 : Nat) (F : Nat → Prop) (w : World) (x : Pl1) (L : Nat) (V : Value) (q : List Pq) (ex : Nat) (B : Option Addr) (cb : Nat) (r : List Nat) (PV BV : Value) (tr po : Int) (ws : List Nat) : Prop where
  z : w.heap[x.fb]? = some (fbc L (.slice (some ⟨x.nv, 0, none⟩) 1 x.nc) (.slice (some ⟨x.cv, 0, none⟩) 1 x.cc) (.slice none 0 0))
  nrow : SR 28 1 w x.nv 1 x.nc (fun _ => [.pointer (some ⟨x.bn, 0, none⟩)])
  crow : SR 75 6 w x.cv 1 x.cc (fun _ => cells1 x BV tr po)
  lrow : SR 82 2 w x.lb 1 x.lc (fun _ => [.pointer (some ⟨x.bp, 0, none⟩), PV])
  pp : PP F w x.bp 0 1 0 V q ex B cb r
  pn : PN w x.bn x.gn (8 * L) (8 * L) ws true
  q0 : ∀ p ∈ q, p.v.s = []
  fn : F x.bn ∧ F x.gn
  bb : ∀ g, (Value.slice B r.length cb).ownBlock = some g → g ≠ x.gn
  fl : ∀ k, F k → B0 ≤ k ∧ k < w.heap.size
  lo : B0 ≤ x.fb ∧ B0 ≤ x.nv ∧ B0 ≤ x.cv ∧ B0 ≤ x.lb
section
variable {B0 : Nat} {F S : Nat → Prop} {w w' : World} {x : Pl1} {L : Nat} {V : Value} {q : List Pq} {ex : Nat} {B : Option Addr} {cb : Nat} {r : List Nat} {PV BV : Value} {tr po : Int} {ws : List Nat}
theorem S1.calm (h : S1 B0 F w x L V q ex B cb r PV BV tr po ws) (ho : Only S w w') (hs : ¬ S x.fb ∧ ¬ S x.nv ∧ ¬ S x.cv ∧ ¬ S x.lb ∧ ¬ S x.bp ∧ ¬ S x.bn ∧ ¬ S x.gn) (hv : ∀ g, V.ownBlock = some g → ¬ S g) (hw : ∀ g, (Value.slice B r.length cb).ownBlock = some g → ¬ S g) : S1 B0 F w' x L V q ex B cb r PV BV tr po ws :=
  ⟨(ho.block _ (Array.getElem?_eq_some_iff.1 h.z).1 hs.1).trans h.z, h.nrow.on ho hs.2.1, h.crow.on ho hs.2.2.1, h.lrow.on ho hs.2.2.2.1, Ff.calm h.pp h.q0 ho hs.2.2.2.2.1 hv hw, h.pn.on ho hs.2.2.2.2.2.1 hs.2.2.2.2.2.2, h.q0, h.fn, h.bb, fun k hk => ⟨(h.fl k hk).1, Nat.lt_of_lt_of_le (h.fl k hk).2 ho.size⟩, h.lo⟩
theorem S1.below (h : S1 B0 F w x L V q ex B cb r PV BV tr po ws) (hb : Below w.heap.size w w') : S1 B0 F w' x L V q ex B cb r PV BV tr po ws :=
  h.calm (S := fun _ => False) (Only.of_below hb) ⟨id, id, id, id, id, id, id⟩ (fun _ _ h => h) (fun _ _ h => h)
/-- What a block of another type cannot be. -/
theorem S1.apart (h : S1 B0 F w x L V q ex B cb r PV BV tr po ws) {k : Nat} {cur : Array Value} {T : TypeId} (hk : w.heap[k]? = some (.cells cur T (0, 0))) (h1 : T ≠ 63) (h2 : T ≠ 28) (h3 : T ≠ 75) (h4 : T ≠ 82) (h5 : T ≠ 98) (h6 : T ≠ 69) (h7 : T ≠ 53) (h8 : T ≠ 56) :
    (x.fb ≠ k ∧ x.nv ≠ k ∧ x.cv ≠ k ∧ x.lb ≠ k ∧ x.bp ≠ k ∧ x.bn ≠ k ∧ x.gn ≠ k) ∧ (∀ g, V.ownBlock = some g → g ≠ k) ∧ (∀ g, (Value.slice B r.length cb).ownBlock = some g → g ≠ k) := by
  obtain ⟨c1, e1⟩ := h.nrow.typed
  obtain ⟨c2, e2⟩ := h.crow.typed
  obtain ⟨c3, e3⟩ := h.lrow.typed
  obtain ⟨c4, e4⟩ := Row.typed h.pn.row
  refine ⟨⟨ne_typed h.z hk h1.symm, ne_typed e1 hk h2.symm, ne_typed e2 hk h3.symm, ne_typed e3 hk h4.symm, ne_typed h.pp.z hk h5.symm, ne_typed h.pn.node hk h6.symm, ne_typed e4 hk h7.symm⟩, fun g hg => ?_, fun g hg => ?_⟩
  · obtain ⟨c5, e5⟩ := h.pp.own.typed g hg
    exact ne_typed e5 hk h8.symm
  · obtain ⟨c5, e5⟩ := h.pp.ow.typed g hg
    exact ne_typed e5 hk h7.symm
theorem six_of {x : Pl1} {BV : Value} {tr po : Int} {w : World} {cc : Nat} (h : SR 75 6 w x.cv 1 cc (fun _ => cells1 x BV tr po)) : w.cell? ⟨x.cv, 0, none⟩ = some (.bool true) ∧ w.cell? ⟨x.cv, 1, none⟩ = some (.int .i64 1) ∧ w.cell? ⟨x.cv, 2, none⟩ = some (.slice (some ⟨x.lb, 0, none⟩) 1 x.lc) ∧ w.cell? ⟨x.cv, 3, none⟩ = some BV ∧ w.cell? ⟨x.cv, 4, none⟩ = some (.int .i64 tr) ∧ w.cell? ⟨x.cv, 5, none⟩ = some (.int .i64 po) :=
  ⟨h.cell (c := 0) (j := 0) (by decide) (by decide), h.cell (c := 0) (j := 1) (by decide) (by decide), h.cell (c := 0) (j := 2) (by decide) (by decide), h.cell (c := 0) (j := 3) (by decide) (by decide), h.cell (c := 0) (j := 4) (by decide) (by decide), h.cell (c := 0) (j := 5) (by decide) (by decide)⟩
/-- A field of the compute node stored. -/
theorem S1.put (h : S1 B0 F w x L V q ex B cb r PV BV tr po ws) {j : Nat} {u : Value} {BV' : Value} {tr' po' : Int} (hj : j < 6) (he : (cells1 x BV tr po).set j u = cells1 x BV' tr' po') : S1 B0 F (w.setCell ⟨x.cv, j, none⟩ u) x L V q ex B cb r PV BV' tr' po' ws := by
  have ho : Only (fun k => k = x.cv) w (w.setCell ⟨x.cv, j, none⟩ u) := (Only.refl (fun k => k = x.cv) w).setCell (p := ⟨x.cv, j, none⟩) (.inl rfl) u
  obtain ⟨c1, e1⟩ := h.nrow.typed
  obtain ⟨c2, e2⟩ := h.crow.typed
  obtain ⟨c3, e3⟩ := h.lrow.typed
  obtain ⟨c4, e4⟩ := Row.typed h.pn.row
  have hs := h.crow.set (c := 0) (by decide) hj u
  rw [Nat.zero_mul, Nat.zero_add, he] at hs
  refine ⟨(ho.block _ (Array.getElem?_eq_some_iff.1 h.z).1 (ne_typed h.z e2 (by decide))).trans h.z, h.nrow.on ho (ne_typed e1 e2 (by decide)), hs.eq (fun c hc => by (obtain rfl : c = 0 := by omega); rw [upd_same]), h.lrow.on ho (ne_typed e3 e2 (by decide)), Ff.calm h.pp h.q0 ho (ne_typed h.pp.z e2 (by decide)) (fun g hg e => ?_) (fun g hg e => ?_), h.pn.on ho (ne_typed h.pn.node e2 (by decide)) (ne_typed e4 e2 (by decide)), h.q0, h.fn, h.bb, fun k hk => ⟨(h.fl k hk).1, Nat.lt_of_lt_of_le (h.fl k hk).2 ho.size⟩, h.lo⟩
  · obtain ⟨c5, e5⟩ := h.pp.own.typed g hg
    exact ne_typed e5 e2 (by decide) e
  · obtain ⟨c5, e5⟩ := h.pp.ow.typed g hg
    exact ne_typed e5 e2 (by decide) e
end
/-- The batch's verbs as the pair keeps them. -/
def mvs (vs : Nat → Nw) (k : Nat) : List Mv := (List.range k).map (fun i => mvN (vs i))
def pls (k : Nat) : List Value := (List.range k).map (fun i => Value.int .i64 ((i : Nat) : Int))
theorem mvs_more (vs : Nat → Nw) (k : Nat) : mvs vs (k + 1) = mvs vs k ++ [mvN (vs k)] := by simp [mvs, List.range_succ]
theorem pls_more (k : Nat) : pls (k + 1) = pls k ++ [Value.int .i64 ((k : Nat) : Int)] := by simp [pls, List.range_succ]
def zans : List Value := [.bool false, .int .i64 0, .slice none 0 0]
theorem s1_posted {B0 : Nat} {F2 F3 : Nat → Prop} {w W w3 : World} {x : Pl1} {L : Nat} {V2 V3 PV3 BV : Value} {q2 : List Pq} {p : Pq} {PA : Option Addr} {pl pc : Nat} {tr po : Int} {ws : List Nat} {xs : List Value} {bb n nb gv m cap : Nat} {g1 : Nat → List Value} {g2 : Nat → List Value} {f : Nat → List Value}
    (HS : S1 B0 F2 W x L V2 q2 0 none 0 [] (.slice PA pl pc) BV tr po ws) (Hp : W.ownsRow B0 3 1 (.slice PA pl pc) pl xs) (HA : SR 86 3 W bb n nb g1) (HV : SR 56 9 W gv m cap g2) (hgv : ¬ F2 gv) (HB : Below B0 w W) (hWB : B0 ≤ W.heap.size)
    (HP3 : PP F3 w3 x.bp 0 1 0 V3 (q2 ++ [p]) 0 none 0 []) (hp0 : p.v.s = []) (HL3 : SR 82 2 w3 x.lb 1 x.lc (upd f 0 [.pointer (some ⟨x.bp, 0, none⟩), PV3])) (HO3 : Only (fun k => k = x.bp ∨ V2.ownBlock = some k ∨ k = x.lb ∨ (Value.slice PA pl pc).ownBlock = some k) W.drew w3) (HG3 : Grow F2 W.drew F3 w3) :
    S1 B0 F3 w3 x L V3 (q2 ++ [p]) 0 none 0 [] PV3 BV tr po ws ∧ SR 86 3 w3 bb n nb g1 ∧ SR 56 9 w3 gv m cap g2 ∧ ¬ F3 gv ∧ Below B0 w w3 := by
  have hO : Only (fun k => k = x.bp ∨ V2.ownBlock = some k ∨ k = x.lb ∨ (Value.slice PA pl pc).ownBlock = some k) W w3 := (Only.of_below (Below.refl _ W).drew).trans HO3
  have hs : W.heap.size ≤ w3.heap.size := hO.size
  obtain ⟨c1, e1⟩ := HS.nrow.typed
  obtain ⟨c2, e2⟩ := HS.crow.typed
  obtain ⟨c3, e3⟩ := HS.lrow.typed
  obtain ⟨c4, e4⟩ := Row.typed HS.pn.row
  obtain ⟨c7, e7⟩ := HA.typed
  obtain ⟨c8, e8⟩ := HV.typed
  have hfar : ∀ {k : Nat} {cur : Array Value} {T : TypeId}, W.heap[k]? = some (.cells cur T (0, 0)) → T ≠ 98 → T ≠ 82 → T ≠ 3 → (∀ g, V2.ownBlock = some g → k ≠ g) → ¬ (k = x.bp ∨ V2.ownBlock = some k ∨ k = x.lb ∨ (Value.slice PA pl pc).ownBlock = some k) := fun hk h1 h2 h3 h4 hh => by
    rcases hh with e | e | e | e
    · exact ne_typed hk HS.pp.z h1 e
    · exact h4 _ e rfl
    · exact ne_typed hk e3 h2 e
    · obtain ⟨c5, e5⟩ := (Tl.of_own Hp).typed _ e
      exact ne_typed hk e5 h3 rfl
  have hv : ∀ {k : Nat} {cur : Array Value} {T : TypeId}, W.heap[k]? = some (.cells cur T (0, 0)) → T ≠ 56 → ∀ g, V2.ownBlock = some g → k ≠ g := fun hk h1 g hg => by
    obtain ⟨c5, e5⟩ := HS.pp.own.typed g hg
    exact ne_typed hk e5 h1
  have hgl : gv < W.heap.size := HV.lt
  refine ⟨⟨(hO.block _ (Array.getElem?_eq_some_iff.1 HS.z).1 (hfar HS.z (by decide) (by decide) (by decide) (hv HS.z (by decide)))).trans HS.z, HS.nrow.on hO (hfar e1 (by decide) (by decide) (by decide) (hv e1 (by decide))), HS.crow.on hO (hfar e2 (by decide) (by decide) (by decide) (hv e2 (by decide))), HL3.eq (fun c hc => by (obtain rfl : c = 0 := by omega); rw [upd_same]), HP3, HS.pn.on hO (hfar HS.pn.node (by decide) (by decide) (by decide) (hv HS.pn.node (by decide))) (hfar e4 (by decide) (by decide) (by decide) (hv e4 (by decide))), fun p' hp' => ?_, ⟨HG3.sub _ HS.fn.1, HG3.sub _ HS.fn.2⟩, (fun g hg => by cases hg), fun k hk => ?_, HS.lo⟩, HA.on hO (hfar e7 (by decide) (by decide) (by decide) (hv e7 (by decide))), HV.on hO (hfar e8 (by decide) (by decide) (by decide) (fun g hg e => hgv (e ▸ HS.pp.vf g hg))), fun hh => ?_, ?_⟩
  · rcases List.mem_append.1 hp' with h | h
    · exact HS.q0 p' h
    · rw [List.mem_singleton] at h; rw [h]; exact hp0
  · rcases HG3.new k hk with h | h
    · exact ⟨(HS.fl k h).1, Nat.lt_of_lt_of_le (HS.fl k h).2 hs⟩
    · have h1 : W.heap.size ≤ k := h.1
      exact ⟨by omega, h.2⟩
  · rcases HG3.new gv hh with h | h
    · exact hgv h
    · have h1 : W.heap.size ≤ gv := h.1
      omega
  · refine hO.below_on HB (fun k hk => ?_) hWB
    rcases hk with e | e | e | e
    · rw [e]; exact (HS.fl _ HS.pp.f).1
    · exact (HS.fl _ (HS.pp.vf k e)).1
    · rw [e]; exact HS.lo.2.2.2
    · exact (Hp.lt k e).1
theorem post_n (B0 : Nat) (F : Nat → Prop) (x : Pl1) (L : Nat) (V : Value) (ws : List Nat) (tr po : Int) (gv n cap : Nat) (vs : Nat → Nw) (w : World) (hS : Lk (S1 B0 F w x L V [] 0 none 0 [] (.slice none 0 0) (.slice none 0 0) tr po ws)) (hv : Lk (SR 56 9 w gv n cap (fun i => vcs (vs i)))) (hB0 : B0 ≤ w.heap.size) (hgv : ¬ F gv) (hn : 1 ≤ n ∧ n ≤ 8) (hL : L ≤ 256)
    (hk : ∀ i, i < n → validC (vs i).k (vs i).nd (vs i).a (cnt (vs i).k (vs i).n 0) (1 : Nat) L = 0) (hk5 : ∀ i, i < n → validC (vs i).k (vs i).nd (vs i).a (cnt (vs i).k (vs i).n 0) 5 L = 0) (hnd : ∀ i, i < n → (vs i).nd = 0) (hc : ∀ i, i < n → cnt (vs i).k (vs i).n 0 ≤ 9223372036854775807) (ht : 0 ≤ tr ∧ tr ≤ 1000 ∧ 0 ≤ po ∧ po ≤ 1000) :
    Calls Try.prog 18 #[.pointer (some ⟨x.fb, 0, none⟩), .int .i64 0, .slice (some ⟨gv, 0, none⟩) n cap] w fun e w' =>
      ∃ (F2 : Nat → Prop) (V2 PV2 : Value) (q2 : List Pq) (bb bc : Nat), e = .returned (.int .i64 0) ∧ Lk (S1 B0 F2 w' x L V2 q2 0 none 0 [] PV2 (.slice (some ⟨bb, 0, none⟩) n bc) (tr + 1) (po + n) ws) ∧ q2.map (·.v) = mvs vs n ∧ Lk (w'.ownsRow B0 3 1 PV2 n (pls n)) ∧ Lk (SR 86 3 w' bb n bc (fun _ => zans)) ∧ B0 ≤ bb ∧ Lk (Below B0 w w') := by
  obtain ⟨i0, hi0, hz0, hz1, hz2⟩ := info_parts ainfo
  obtain ⟨k0, k1, k2, k3, k4, k5⟩ := six_of hS.out.crow
  have CL : Calls Try.prog 34 #[.pointer (some ⟨x.fb, 0, none⟩), .int .i64 0] w (fun e w' => e = .returned (.pointer (some ⟨x.cv, 0, none⟩)) ∧ w = w') := living_at x.fb L (some ⟨x.nv, 0, none⟩) 1 x.nc 1 x.cc (.slice none 0 0) w x.cv 0 true ⟨hS.out.z⟩ (by omega) (by omega) ⟨k0⟩
  have CB : Calls Try.prog 37 #[.pointer (some ⟨x.cv, 0, none⟩)] w (fun e w' => e = .returned (.bool false) ∧ w = w') := busy_any x.cv 0 0 0 none w ⟨k3⟩
  have CC := check_ok x.fb gv n cap L (some ⟨x.nv, 0, none⟩) (some ⟨x.cv, 0, none⟩) 1 x.nc 1 x.cc (.slice none 0 0) vs w ⟨hS.out.z⟩ hv (by omega) hk hc
  clear k0 k1 k2 k3 k4 k5
  go_enter Try.func18, Try.ntmps18
  go_upto_region 9 with (first
    | (go_at_call 34; refine CL.mono ?_; rintro e w' ⟨rfl, rfl⟩)
    | (go_at_call 37; refine CB.mono ?_; rintro e w' ⟨rfl, rfl⟩)
    | (go_at_call 38; refine CC.mono ?_; rintro e w1 ⟨rfl, HB1⟩))
  have HS1 := Lk.mk (S1.below hS.out HB1.out)
  have HV1 := Lk.mk (hv.out.below HB1.out)
  have hs1 := HB1.out.size
  have hB1 : B0 ≤ w1.heap.size := by omega
  clear CL CB CC
  go_wp2_with (first
    | (at_make; refine wpList_make_full _ rfl _ _ 73 rfl B0 86 i0 (.agg #[.bool false, .int .i64 0, .slice none 0 0]) 3 Try.underlying73 hi0 hz0 hz1 .i64 .i64 _ _ n rfl rfl rfl rfl ?b2 ?b3 ?b4 ?_))
  case b2 => rw [hz2]; omega
  case b3 => unfold maxLen; omega
  case b4 => exact hB1
  intro w2 hown hgrow
  have hb2 := below_of_grown hgrow
  have HA2 := Lk.mk (show SR 86 3 w2 w1.heap.size n n (fun _ => zans) from SR.made (zs := #[.bool false, .int .i64 0, .slice none 0 0]) rfl hown)
  have HS2 := Lk.mk (S1.below HS1.out hb2)
  have HV2 := Lk.mk (HV1.out.below hb2)
  have HBB := Lk.mk (HB1.out.trans (hb2.mono HB1.out.size))
  clear hown hgrow hb2 HS1 HV1
  obtain ⟨k0, k1, k2, k3, k4, k5⟩ := six_of HS2.out.crow
  have f3 := HS2.out.crow.fr 3
  go_upto_region 10 with fail
  clear k0 k1 k2 k3 k4 k5 f3
  generalize hbb : w1.heap.size = bb at *
  have hbb0 : B0 ≤ bb := hB1
  have hput := HS2.out.put (j := 3) (u := .slice (some ⟨bb, 0, none⟩) n n) (BV' := .slice (some ⟨bb, 0, none⟩) n n) (tr' := tr) (po' := po) (by decide) rfl
  have hO3 : Only (fun k => k = x.cv) w2 (w2.setCell ⟨x.cv, 3, none⟩ (.slice (some ⟨bb, 0, none⟩) n n)) := (Only.refl (fun k => k = x.cv) w2).setCell (p := ⟨x.cv, 3, none⟩) (.inl rfl) _
  obtain ⟨ccv, ecv⟩ := HS2.out.crow.typed
  obtain ⟨cga, ega⟩ := HA2.out.typed
  obtain ⟨cgv, egv⟩ := HV2.out.typed
  have HS3 := Lk.mk hput
  have HA3 := Lk.mk (HA2.out.on hO3 (ne_typed ega ecv (by decide)))
  have HV3 := Lk.mk (HV2.out.on hO3 (ne_typed egv ecv (by decide)))
  have HB3 := Lk.mk (hO3.below_on (B := B0) (w0 := w) ⟨HBB.out.os, HBB.out.tape, HBB.out.output, HBB.out.size, fun k hk => HBB.out.block k (by omega)⟩ (fun k (e : k = x.cv) => by rw [e]; exact HS2.out.lo.2.2.1) (by have := HBB.out.size; omega))
  clear hput hO3 HS2 HA2 HV2 HBB ecv ega egv HB1
  generalize w2.setCell _ _ = w3 at *
  go_wp2_with fail
  go_loopw [32] (fun s32 wr => ∃ (k : Nat) (F2 : Nat → Prop) (V2 PV2 : Value) (q2 : List Pq), k ≤ n ∧ s32 = .int .i64 k ∧ Lk (S1 B0 F2 wr x L V2 q2 0 none 0 [] PV2 (.slice (some ⟨bb, 0, none⟩) n n) tr po ws) ∧ q2.map (·.v) = mvs vs k ∧ Lk (wr.ownsRow B0 3 1 PV2 k (pls k)) ∧ Lk (SR 86 3 wr bb n n (fun _ => zans)) ∧ Lk (SR 56 9 wr gv n cap (fun i => vcs (vs i))) ∧ ¬ F2 gv ∧ Lk (Below B0 w wr)) (fun s32 _ => n - (intOf s32).toNat)
  case atStart => exact ⟨0, F, V, .slice none 0 0, [], by omega, rfl, HS3, rfl, ⟨World.ownsRow_nil _ _ _ _⟩, HA3, HV3, hgv, HB3⟩
  case round =>
    clear HS3 HA3 HV3 HB3
    obtain ⟨k, F2, V2, PV2, q2, hkn, rfl, HSr, hq2, Hpr, HAr, HVr, hV2, HBr⟩ := hrel
    by_cases hlt : k < n
    · have c0 := HVr.out.cell0 hlt (by decide)
      have c1 := HVr.out.cell hlt (show 1 < 9 by decide)
      have c2 := HVr.out.cell hlt (show 2 < 9 by decide)
      have c3 := HVr.out.cell hlt (show 3 < 9 by decide)
      have c4 := HVr.out.cell hlt (show 4 < 9 by decide)
      have c5 := HVr.out.cell hlt (show 5 < 9 by decide)
      have c6 := HVr.out.cell hlt (show 6 < 9 by decide)
      have c7 := HVr.out.cell hlt (show 7 < 9 by decide)
      have c8 := HVr.out.cell hlt (show 8 < 9 by decide)
      simp only [vcs, List.getElem?_cons_zero, List.getElem?_cons_succ] at c0 c1 c2 c3 c4 c5 c6 c7 c8
      have hk5k := hk5 k hlt
      have hck := hc k hlt
      have hmk := mvs_more vs k
      have hndk := hnd k hlt
      obtain ⟨PA, pc, hPV⟩ := (Tl.of_own Hpr.out).slice
      subst hPV
      have hql : q2.length = k := by have := congrArg List.length hq2; simpa [mvs] using this
      generalize vs k = v at *
      have hki : (k : Int) < n := by omega
      rw [hndk] at c1
      go_upto_region 13 with fail
      have hBa := (Below.refl _ wr).alloc (Nat.le_refl _) (.cells #[Value.int IntKind.i64 v.k, Value.int IntKind.i64 0, Value.int IntKind.i64 v.a, Value.int IntKind.i64 v.n, Value.int IntKind.u64 ((v.o : Int)), Value.int IntKind.u64 ((v.ne : Int)), Value.slice none 0 0, Value.int IntKind.u64 v.ky, Value.int IntKind.i64 v.bo] 56)
      have HW := Lk.mk (heap_alloc_new wr (.cells #[Value.int IntKind.i64 v.k, Value.int IntKind.i64 0, Value.int IntKind.i64 v.a, Value.int IntKind.i64 v.n, Value.int IntKind.u64 ((v.o : Int)), Value.int IntKind.u64 ((v.ne : Int)), Value.slice none 0 0, Value.int IntKind.u64 v.ky, Value.int IntKind.i64 v.bo] 56))
      have HSa := Lk.mk (S1.below HSr.out hBa)
      have Hpa := Lk.mk (owns_block Hpr.out (fun g hg => hBa.block g (Hpr.out.lt g hg).2))
      have HAa := Lk.mk (HAr.out.below hBa)
      have HVa := Lk.mk (HVr.out.below hBa)
      have hsr : B0 ≤ wr.heap.size := by have := HBr.out.size; omega
      have HBa := Lk.mk (HBr.out.trans (hBa.mono hsr))
      clear hBa c0 c1 c2 c3 c4 c5 c6 c7 c8 HSr Hpr HAr HVr HBr
      generalize wr.alloc _ = W at *
      generalize wr.heap.size = gb at *
      have hWs : gb < W.heap.size := (Array.getElem?_eq_some_iff.1 HW.out).1
      have hWB : B0 ≤ W.heap.size := by omega
      have CP0 := lpost x.lb 0 1 x.lc x.bp k pc B0 _ PA (pls k) F2 0 1 V2 q2 0 none 0 [] v L k W.drew ⟨HSa.out.lrow.below (Below.refl _ W).drew⟩ (by decide) rfl ⟨owns_block Hpa.out (fun g hg => rfl)⟩ hWB ⟨by rw [hndk]; exact HSa.out.pp.below (Below.refl _ W).drew⟩ (by omega) HSa.out.q0 (by omega) hck hk5k ⟨fun g hg hF => by have := (HSa.out.fl g hF).2; have hg' : W.heap.size ≤ g := hg; omega⟩
      rw [hndk, Nat.zero_mul] at CP0
      have CP := Lk.mk CP0
      clear CP0 hk hk5 hc hnd
      obtain ⟨k0, k1, k2, k3, k4, k5⟩ := six_of HSa.out.crow
      have y0 := (cell_of_row W x.fb 0 _ _ _ HSa.out.z).trans rfl
      have x0 := (cell_of_row W gb 0 _ _ _ HW.out).trans rfl
      have x1 := (cell_of_row W gb 1 _ _ _ HW.out).trans rfl
      have x2 := (cell_of_row W gb 2 _ _ _ HW.out).trans rfl
      have x3 := (cell_of_row W gb 3 _ _ _ HW.out).trans rfl
      have x4 := (cell_of_row W gb 4 _ _ _ HW.out).trans rfl
      have x5 := (cell_of_row W gb 5 _ _ _ HW.out).trans rfl
      have x6 := (cell_of_row W gb 6 _ _ _ HW.out).trans rfl
      have x7 := (cell_of_row W gb 7 _ _ _ HW.out).trans rfl
      have x8 := (cell_of_row W gb 8 _ _ _ HW.out).trans rfl
      have HE := Lk.mk (fun (w3 : World) (F3 : Nat → Prop) (V3 PV3 : Value) (A3 : Option Addr) (c3 : Nat) HP3 HL3 HO3 HG3 => s1_posted (w := w) (w3 := w3) (F3 := F3) (V3 := V3) (PV3 := PV3) (p := ⟨mvN v, A3, c3⟩) (f := fun _ => [.pointer (some ⟨x.bp, 0, none⟩), .slice PA k pc]) HSa.out Hpa.out HAa.out HVa.out hV2 HBa.out hWB HP3 rfl HL3 HO3 HG3)
      have hq3 := Lk.mk (fun (A3 : Option Addr) (c3 : Nat) => show (q2 ++ [(⟨mvN v, A3, c3⟩ : Pq)]).map (·.v) = mvs vs (k + 1) from by rw [List.map_append, hq2, hmk]; rfl)
      have hp3 := Lk.mk (pls_more k)
      clear HW hS hv hq2 hmk hndk hck hk5k
      go_region_with (first
        | (go_at_call 39; refine CP.out.mono ?_; rintro e w3 ⟨F3, V3, PV3, A3, c3, rfl, HP3, HL3, Hp3, HO3, HG3, HF3⟩))
      all_goals have HR := Lk.mk (HE.out w3 F3 V3 PV3 A3 c3 HP3.out HL3.out HO3.out HG3.out)
      all_goals clear HE x0 x1 x2 x3 x4 x5 x6 x7 x8 y0 k0 k1 k2 k3 k4 k5 HP3 HL3 HO3 HG3 HSa Hpa HAa HVa HBa CP
      all_goals go_wp2_with fail
      all_goals go_roundw
      all_goals first
        | exact ⟨k + 1, F3, V3, PV3, q2 ++ [⟨mvN v, A3, c3⟩], by omega, by go_num, ⟨HR.out.1⟩, hq3.out A3 c3, ⟨by rw [hp3.out]; exact Hp3.out⟩, ⟨HR.out.2.1⟩, ⟨HR.out.2.2.1⟩, HR.out.2.2.2.1, ⟨HR.out.2.2.2.2⟩⟩
        | (simp [intOf]; omega)
    · obtain rfl : k = n := by omega
      obtain ⟨k0, k1, k2, k3, k4, k5⟩ := six_of HSr.out.crow
      have f4 := HSr.out.crow.fr 4
      have f5 := HSr.out.crow.fr 5
      have HS4 := Lk.mk (HSr.out.put (j := 4) (u := .int .i64 (tr + 1)) (BV' := .slice (some ⟨bb, 0, none⟩) k k) (tr' := tr + 1) (po' := po) (by decide) rfl)
      have HS5 := Lk.mk (HS4.out.put (j := 5) (u := .int .i64 (po + k)) (BV' := .slice (some ⟨bb, 0, none⟩) k k) (tr' := tr + 1) (po' := po + k) (by decide) rfl)
      have hO5 : Only (fun k => k = x.cv) wr ((wr.setCell ⟨x.cv, 4, none⟩ (.int .i64 (tr + 1))).setCell ⟨x.cv, 5, none⟩ (.int .i64 (po + k))) := ((Only.refl (fun k => k = x.cv) wr).setCell (p := ⟨x.cv, 4, none⟩) (.inl rfl) _).setCell (p := ⟨x.cv, 5, none⟩) (.inl rfl) _
      obtain ⟨ccv, ecv⟩ := HSr.out.crow.typed
      obtain ⟨cga, ega⟩ := HAr.out.typed
      have HA5 := Lk.mk (HAr.out.on hO5 (ne_typed ega ecv (by decide)))
      have hlp := (Tl.of_own Hpr.out).typed
      have Hp5 := Lk.mk (owns_block Hpr.out (fun g hg => hO5.block g (Hpr.out.lt g hg).2 (fun e => by obtain ⟨cur, hc⟩ := hlp g hg; exact ne_typed hc ecv (by decide) e)))
      have HB5 := Lk.mk (hO5.below_on (B := B0) HBr.out (fun j (e : j = x.cv) => by rw [e]; exact HSr.out.lo.2.2.1) (by have := HBr.out.size; omega))
      have ht1 : tr + 1 ≤ 9223372036854775807 := by omega
      have ht2 : po + (k : Int) ≤ 9223372036854775807 := by omega
      have ht3 : -9223372036854775808 ≤ tr + 1 := by omega
      have ht4 : -9223372036854775808 ≤ po + (k : Int) := by omega
      clear HS4 hO5 ecv ega hlp
      go_wp2_with fail
      go_ret
      exact ⟨F2, V2, PV2, q2, bb, k, rfl, HS5, hq2, Hp5, HA5, hbb0, HB5⟩
end Go.Proofs.Ytpehhldfegjajaa.Fg

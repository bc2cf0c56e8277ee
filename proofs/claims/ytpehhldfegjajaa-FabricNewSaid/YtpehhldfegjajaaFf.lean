/-
  A fabric in memory: a verb posted through a link.
-/
import Derived.Test.YtpehhldfegjajaaFe
namespace Go.Proofs.Ytpehhldfegjajaa.Ff
open Go.ChangeShapes Go.WideShapes Go.ChangeAt Go.RowKit Ga Gb Na Nb Va Vb Ve Qb Qd Ta Tc Td Th Fa Fb Fc Fd_ Fe
set_option linter.unusedVariables false
set_option linter.unusedSimpArgs false
set_option maxHeartbeats 1000000
set_option maxRecDepth 100000
theorem iinfo : (Try.prog.info? 3).map (fun i => (i.zero, i.size, i.bytes)) = some (some (.int .i64 0), 1, 8) := by kernel_rfl
def mvN (v : Nw) : Mv := ⟨v.k, v.nd, v.a, v.n, v.o, v.ne, v.ky, v.bo, []⟩
/-- A pair whose verbs have no words: whatever else turns. -/
theorem calm {F S : Nat → Prop} {w w' : World} {b : Nat} {cl inc nd : Int} {V : Value} {q : List Pq} {ex : Nat} {B : Option Addr} {cb : Nat} {r : List Nat} (h : PP F w b cl inc nd V q ex B cb r) (hq : ∀ p ∈ q, p.v.s = []) (ho : Only S w w') (hb : ¬ S b) (hv : ∀ g, V.ownBlock = some g → ¬ S g) (hw : ∀ g, (Value.slice B r.length cb).ownBlock = some g → ¬ S g) : PP F w' b cl inc nd V q ex B cb r :=
  ⟨(ho.block b h.lt hb).trans h.z, h.f, h.own.on (fun g hg => ho.block g (h.own.lt g hg) (hv g hg)), h.vf, h.ow.on (fun g hg => ho.block g (h.ow.lt g hg) (hw g hg)), h.wf, fun p hp => ⟨by rw [hq p hp]; exact LiesF.nil, (h.wd p hp).2⟩, h.wr⟩
theorem two_of {lb i m lc : Nat} {f : Nat → List Value} {w : World} {x y : Value} (h : SR 82 2 w lb m lc f) (hi : i < m) (hf : f i = [x, y]) : w.cell? ⟨lb, i * 2, none⟩ = some x ∧ w.cell? ⟨lb, i * 2 + 1, none⟩ = some y := by
  have h0 := h.cell0 hi (by decide)
  have h1 := h.cell hi (show 1 < 2 by decide)
  rw [hf] at h0 h1
  exact ⟨h0, h1⟩
theorem lpost (lb i m lc bp pl pc pb : Nat) (f : Nat → List Value) (PA : Option Addr) (xs : List Value) (F : Nat → Prop) (cl inc : Int) (V : Value) (q : List Pq) (ex : Nat) (B : Option Addr) (cb : Nat) (r : List Nat) (v : Nw) (L place : Int) (w : World)
    (hl : Lk (SR 82 2 w lb m lc f)) (hi : i < m) (hf : f i = [.pointer (some ⟨bp, 0, none⟩), .slice PA pl pc]) (hp : Lk (w.ownsRow pb 3 1 (.slice PA pl pc) pl xs)) (hpb0 : pb ≤ w.heap.size) (HP : Lk (PP F w bp cl inc v.nd V q ex B cb r)) (hq : q.length < 1024) (hq0 : ∀ p ∈ q, p.v.s = []) (hpl : pl ≤ 2048)
    (hc : cnt v.k v.n 0 ≤ 9223372036854775807) (hv : validC v.k v.nd v.a (cnt v.k v.n 0) 5 L = 0) (HF : Lk (∀ g, w.heap.size ≤ g → ¬ F g)) :
    Calls Try.prog 39 #[.pointer (some ⟨lb, i * 2, none⟩), (Value.agg #[Value.int IntKind.i64 v.k, Value.int IntKind.i64 v.nd, Value.int IntKind.i64 v.a, Value.int IntKind.i64 v.n, Value.int IntKind.u64 ((v.o : Int)), Value.int IntKind.u64 ((v.ne : Int)), Value.slice none 0 0, Value.int IntKind.u64 v.ky, Value.int IntKind.i64 v.bo]), .int .i64 L, .int .i64 place] w fun e w' =>
      ∃ (F2 : Nat → Prop) (V2 PV2 : Value) (A2 : Option Addr) (c2 : Nat), e = .returned (.tuple #[]) ∧ Lk (PP F2 w' bp cl inc v.nd V2 (q ++ [⟨mvN v, A2, c2⟩]) ex B cb r) ∧ Lk (SR 82 2 w' lb m lc (upd f i [.pointer (some ⟨bp, 0, none⟩), PV2])) ∧ Lk (w'.ownsRow pb 3 1 PV2 (pl + 1) (xs ++ [.int .i64 place])) ∧
        Lk (Only (fun k => k = bp ∨ V.ownBlock = some k ∨ k = lb ∨ (Value.slice PA pl pc).ownBlock = some k) w w') ∧ Lk (Grow F w F2 w') ∧ Lk (∀ k, F2 k → F k ∨ V2.ownBlock = some k) := by
  obtain ⟨i0, hi0, hz0, hz1, hz2⟩ := info_parts iinfo
  go_enter Try.func39, Try.ntmps39
  go_upto_region 1 with fail
  have hBa := (Below.refl _ w).alloc (Nat.le_refl _) (.cells #[Value.int IntKind.i64 v.k, Value.int IntKind.i64 v.nd, Value.int IntKind.i64 v.a, Value.int IntKind.i64 v.n, Value.int IntKind.u64 ((v.o : Int)), Value.int IntKind.u64 ((v.ne : Int)), Value.slice none 0 0, Value.int IntKind.u64 v.ky, Value.int IntKind.i64 v.bo] 56)
  have HW := Lk.mk (heap_alloc_new w (.cells #[Value.int IntKind.i64 v.k, Value.int IntKind.i64 v.nd, Value.int IntKind.i64 v.a, Value.int IntKind.i64 v.n, Value.int IntKind.u64 ((v.o : Int)), Value.int IntKind.u64 ((v.ne : Int)), Value.slice none 0 0, Value.int IntKind.u64 v.ky, Value.int IntKind.i64 v.bo] 56))
  have HPa := Lk.mk (HP.out.below hBa)
  have HLa := Lk.mk (hl.out.below hBa)
  have hpa := Lk.mk (owns_block hp.out (fun g hg => hBa.block g (hp.out.lt g hg).2))
  have HBa := Lk.mk hBa
  have hsz := hBa.size
  have HFa := Lk.mk (show ∀ g, (w.alloc (.cells #[Value.int IntKind.i64 v.k, Value.int IntKind.i64 v.nd, Value.int IntKind.i64 v.a, Value.int IntKind.i64 v.n, Value.int IntKind.u64 ((v.o : Int)), Value.int IntKind.u64 ((v.ne : Int)), Value.slice none 0 0, Value.int IntKind.u64 v.ky, Value.int IntKind.i64 v.bo] 56)).heap.size ≤ g → ¬ F g from fun g hg => HF.out g (by omega))
  clear hBa HP hl hp HF
  generalize w.alloc _ = W at *
  generalize hgb : w.heap.size = gb at *
  have CP := Lk.mk (post_ok F bp cl inc V q ex B cb r v.k v.nd v.a v.n v.o v.ne none 0 v.ky v.bo [] L W.drew ⟨HPa.out.below (Below.refl _ W).drew⟩ hq hc hv ⟨Lies.none_⟩ ⟨⟨by simp, by simp⟩⟩ ⟨fun ad e => by cases e⟩ ⟨fun g hg => HFa.out g hg⟩)
  obtain ⟨l0, l1⟩ := two_of HLa.out hi hf
  go_cut [14] (fun _ wx => ∃ (F2 : Nat → Prop) (V2 : Value) (A2 : Option Addr) (c2 : Nat), Lk (PP F2 wx bp cl inc v.nd V2 (q ++ [⟨mvN v, A2, c2⟩]) ex B cb r) ∧ Lk (Only (fun k => k = bp ∨ V.ownBlock = some k) W wx) ∧ Lk (Grow F W F2 wx) ∧ Lk (∀ k, F2 k → F k ∨ V2.ownBlock = some k))
  case first =>
    have x0 := (cell_of_row W gb 0 _ _ _ HW.out).trans rfl
    have x1 := (cell_of_row W gb 1 _ _ _ HW.out).trans rfl
    have x2 := (cell_of_row W gb 2 _ _ _ HW.out).trans rfl
    have x3 := (cell_of_row W gb 3 _ _ _ HW.out).trans rfl
    have x4 := (cell_of_row W gb 4 _ _ _ HW.out).trans rfl
    have x5 := (cell_of_row W gb 5 _ _ _ HW.out).trans rfl
    have x6 := (cell_of_row W gb 6 _ _ _ HW.out).trans rfl
    have x7 := (cell_of_row W gb 7 _ _ _ HW.out).trans rfl
    have x8 := (cell_of_row W gb 8 _ _ _ HW.out).trans rfl
    clear HW HPa HLa hpa HBa HFa
    go_region_with (first
      | (go_at_call 56; refine CP.out.mono ?_; rintro e w3 ⟨F2, V2, A2, c2, rfl, HP3, HO3, HG3, HF3, HE3⟩))
    all_goals go_wp2
    all_goals go_meet
    all_goals exact ⟨F2, V2, A2, c2, HP3, ⟨(Only.of_below (Below.refl _ W).drew).trans HO3.out⟩, ⟨⟨HG3.out.sub, HG3.out.new⟩⟩, HF3⟩
  case rest =>
    obtain ⟨F2, V2, A2, c2, HP3, HO3, HG3, HF3⟩ := hcut
    have hbz := HPa.out.z
    obtain ⟨lcur, hlt⟩ := HLa.out.typed
    have hlb : ¬ (lb = bp ∨ V.ownBlock = some lb) := fun hh => hh.elim (fun e => ne_typed hlt hbz (by decide) e) (fun e => by obtain ⟨cur, hc⟩ := HPa.out.own.typed _ e; exact ne_typed hlt hc (by decide) rfl)
    have HL3 := Lk.mk (HLa.out.on HO3.out hlb)
    have hp3 := Lk.mk (owns_block hpa.out (fun g hg => HO3.out.block g (hpa.out.lt g hg).2 (fun hh => by
      obtain ⟨cur0, hc0⟩ := (Tl.of_own hpa.out).typed g hg
      exact hh.elim (fun e => ne_typed hc0 hbz (by decide) e) (fun e => by obtain ⟨cur, hc⟩ := HPa.out.own.typed _ e; exact ne_typed hc0 hc (by decide) rfl))))
    clear HW CP hlb l0 l1
    obtain ⟨l0, l1⟩ := two_of HL3.out hi hf
    have hBb := (Below.refl _ wc).alloc (Nat.le_refl _) (.cells #[.int .i64 place] 3)
    have HPb := Lk.mk (HP3.out.below hBb)
    have HLb := Lk.mk (HL3.out.below hBb)
    have hpb := Lk.mk (owns_block hp3.out (fun g hg => hBb.block g (hp3.out.lt g hg).2))
    have HOb := Lk.mk (HO3.out.trans (Only.of_below hBb))
    have hGb := HG3.out
    have hsb := hBb.size
    clear hBb HP3 HL3 hp3 HO3
    go_wp2_with (first
      | (at_builtin; refine wpList_append_own _ rfl _ _ 35 rfl pb 3 i0 (.int .i64 0) 1 8 Try.underlying35 hi0 hz0 hz1 hz2 rfl (by decide) _ _ _ rfl hpb.out ⟨wc.heap.size, 0, none⟩ 1 1 [.int .i64 place] rfl rfl ?c1 ?c2 ?c3 ?c4 ?c5 ?_))
    case c1 => intro j u hj; rw [add_zero_, cell_of_row _ wc.heap.size j _ _ _ (heap_alloc_new wc _)]; simpa using hj
    case c2 => intro u hu; simp at hu; rw [hu]; rfl
    case c3 => unfold maxLen; omega
    case c4 => omega
    case c5 => have := HOb.out.size; omega
    intro PV2 w5 hown hgrow _
    obtain ⟨PA2, pc2, hPV⟩ := (Tl.of_own hown).slice
    subst hPV
    have hO5 : Only (fun k => (Value.slice PA pl pc).ownBlock = some k) (wc.alloc (.cells #[.int .i64 place] 3)) w5 := (Only.refl _ _).grown hgrow (fun k hk => .inl hk)
    have hpt : ∀ g, (Value.slice PA pl pc).ownBlock = some g → ∃ cur, (wc.alloc (.cells #[.int .i64 place] 3)).heap[g]? = some (.cells cur 3 (0, 0)) := (Tl.of_own hpb.out).typed
    obtain ⟨lcb, hlb⟩ := HLb.out.typed
    have hlp : ¬ (Value.slice PA pl pc).ownBlock = some lb := fun e => by obtain ⟨cur, hc⟩ := hpt lb e; exact ne_typed hc hlb (by decide) rfl
    have HL5 := Lk.mk (HLb.out.on hO5 hlp)
    have hqs : ∀ p ∈ q ++ [(⟨mvN v, A2, c2⟩ : Pq)], p.v.s = [] := fun p hp => by
      rcases List.mem_append.1 hp with h | h
      · exact hq0 p h
      · rw [List.mem_singleton] at h; rw [h]; rfl
    have hzb := HPb.out.z
    have HP5 := Lk.mk (calm HPb.out hqs hO5 (fun e => by obtain ⟨cur, hc⟩ := hpt bp e; exact ne_typed hc hzb (by decide) rfl) (fun g hg e => by obtain ⟨cur, hc⟩ := hpt g e; obtain ⟨cur2, hc2⟩ := HPb.out.own.typed g hg; exact ne_typed hc hc2 (by decide) rfl) (fun g hg e => by obtain ⟨cur, hc⟩ := hpt g e; obtain ⟨cur2, hc2⟩ := HPb.out.ow.typed g hg; exact ne_typed hc hc2 (by decide) rfl))
    have HO5 := Lk.mk ((HOb.out.mono (S' := fun k => k = bp ∨ V.ownBlock = some k ∨ k = lb ∨ (Value.slice PA pl pc).ownBlock = some k) (fun k hk => hk.elim .inl (fun e => .inr (.inl e)))).trans (hO5.mono (fun k hk => .inr (.inr (.inr hk)))))
    have hs5 := hO5.size
    have HR5 := Lk.mk hown
    clear hown hgrow hO5 hpt hlp hzb HPb HLb hpb HOb
    obtain ⟨l0', l1'⟩ := two_of HL5.out hi hf
    have f1' := HL5.out.fr (i * 2 + 1)
    clear l0 l1
    go_wp2
    obtain ⟨lc5, hl5⟩ := HL5.out.typed
    have hO6 := (Only.refl (fun k => k = lb) w5).setCell (p := ⟨lb, i * 2 + 1, none⟩) (.inl rfl) (.slice PA2 (pl + 1) pc2)
    have hS6 := HL5.out.set hi (show 1 < 2 by decide) (.slice PA2 (pl + 1) pc2)
    rw [hf] at hS6
    have hz5 := HP5.out.z
    refine bodyPost_end (results_none rfl _ _ _) rfl ⟨F2, V2, .slice PA2 (pl + 1) pc2, A2, c2, rfl, ⟨calm HP5.out hqs hO6 (fun e => ne_typed hz5 hl5 (by decide) e) (fun g hg e => by obtain ⟨cur, hc⟩ := HP5.out.own.typed g hg; exact ne_typed hc hl5 (by decide) e) (fun g hg e => by obtain ⟨cur, hc⟩ := HP5.out.ow.typed g hg; exact ne_typed hc hl5 (by decide) e)⟩, ⟨hS6⟩, ⟨owns_block HR5.out (fun g hg => hO6.block g (HR5.out.lt g hg).2 (fun e => by obtain ⟨cur, hc⟩ := (Tl.of_own HR5.out).typed g hg; exact ne_typed hc hl5 (by decide) e))⟩, ⟨?_⟩, ⟨⟨hGb.sub, fun k hk => ?_⟩⟩, HF3⟩
    · exact (Only.of_below (by rw [hgb]; exact HBa.out)).trans (HO5.out.trans (hO6.mono (fun k hk => .inr (.inr (.inl hk)))))
    · have hs6 := hO6.size
      exact (hGb.new k hk).imp id (fun h => ⟨by omega, by omega⟩)
end Go.Proofs.Ytpehhldfegjajaa.Ff

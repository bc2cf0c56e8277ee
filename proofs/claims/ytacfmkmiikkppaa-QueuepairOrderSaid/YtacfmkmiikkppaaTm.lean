/-
  A pair whose verbs are writes, and its node, step by step.
-/
import Derived.Test.YtacfmkmiikkppaaTl
import Derived.Test.YtacfmkmiikkppaaVh
namespace Go.Proofs.Ytacfmkmiikkppaa.Tm
open Go.ChangeShapes Go.WideShapes Go.ChangeAt Go.RowKit Ga Na Nb Nc Nd_ Va Vb Vd Ve Vf Qa Qb Qd Ta Tc Td Te Tf Tg Th Ti Tk Tl_
set_option linter.unusedVariables false
set_option linter.unusedSimpArgs false
set_option maxHeartbeats 1000000
set_option maxRecDepth 100000
/-- The program's pair has the writes q pending; nothing has been read; since w0 its blocks alone have turned. -/
structure Wp (w0 W : World) (x : Plc) (vb : Option Nat) (q : List Pq) (ex : Nat) (F : Nat → Prop) (V : Value) (B : Option Addr) (cb : Nat) : Prop where
  pp : PP F W x.bp 0 1 0 V q ex B cb []
  vb : V.ownBlock = vb
  ff : F x.bn ∧ F x.gn
  bb : ∀ g, (Value.slice B 0 cb).ownBlock = some g → w0.heap.size ≤ g
  fb : ∀ k, F k → k < W.heap.size
structure Wr (w0 W : World) (x : Plc) (vb : Option Nat) (q : List Pq) (ex : Nat) (ws : List Nat) (up : Bool) : Prop where
  p : ∃ F V B cb, Wp w0 W x vb q ex F V B cb
  pn : PN W x.bn x.gn 320 x.cp ws up
  only : Only (fun k => k = x.bp ∨ vb = some k ∨ k = x.bn ∨ k = x.gn) w0 W
  gn : x.gn < w0.heap.size
theorem Wr.on {w0 W W' : World} {x : Plc} {vb : Option Nat} {q : List Pq} {ex : Nat} {ws : List Nat} {up : Bool} (h : Wr w0 W x vb q ex ws up) (hb : Below W.heap.size W W') : Wr w0 W' x vb q ex ws up := by
  obtain ⟨F, V, B, cb, hp⟩ := h.p
  exact ⟨⟨F, V, B, cb, hp.pp.below hb, hp.vb, hp.ff, hp.bb, fun k hk => Nat.lt_of_lt_of_le (hp.fb k hk) hb.size⟩, Nd.below h.pn hb, h.only.trans (Only.of_below hb), h.gn⟩
theorem Wr.onS {w0 W W' : World} {x : Plc} {vb : Option Nat} {q : List Pq} {ex : Nat} {ws : List Nat} {up : Bool} (h : Wr w0 W x vb q ex ws up) {S : Nat → Prop} (ho : Only S W W') (hs : ∀ k, S k → k = x.bn ∨ k = x.gn) (ws' : List Nat) (up' : Bool) (hn : PN W' x.bn x.gn 320 x.cp ws' up') : Wr w0 W' x vb q ex ws' up' := by
  obtain ⟨F, V, B, cb, hp⟩ := h.p
  have hnb : x.bn ≠ x.bp := ne_typed h.pn.node hp.pp.z (by decide)
  have hng : x.gn ≠ x.bp := by obtain ⟨cur, hc⟩ := Row.typed h.pn.row; exact ne_typed hc hp.pp.z (by decide)
  refine ⟨⟨F, V, B, cb, hp.pp.on ho (fun hh => (hs _ hh).elim (fun e => hnb e.symm) (fun e => hng e.symm)) (fun g hg hh => ?_) (fun g hg hh => ?_) (fun k hk => (hs k hk).elim (fun e => e ▸ hp.ff.1) (fun e => e ▸ hp.ff.2)), hp.vb, hp.ff, hp.bb, fun k hk => Nat.lt_of_lt_of_le (hp.fb k hk) ho.size⟩, hn, h.only.trans (ho.mono (fun k hk => (hs k hk).elim (fun e => .inr (.inr (.inl e))) (fun e => .inr (.inr (.inr e))))), h.gn⟩
  · obtain ⟨cur, hc⟩ := hp.pp.own.typed g hg
    rcases hs g hh with e | e
    · exact ne_typed hc h.pn.node (by decide) e
    · obtain ⟨cur2, hc2⟩ := Row.typed h.pn.row
      exact ne_typed hc hc2 (by decide) e
  · have h1 := hp.bb g hg
    rcases hs g hh with e | e
    · obtain ⟨cur, hc⟩ := hp.pp.ow.typed g hg
      exact ne_typed hc h.pn.node (by decide) e
    · have := h.gn
      omega
theorem wr_step {w0 W : World} {x : Plc} {vb : Option Nat} {p : Pq} {q : List Pq} {ex : Nat} {ws : List Nat} (h : Lk (Wr w0 W x vb (p :: q) ex ws true)) (hok : Lk (OkV p.v)) (hk2 : p.v.k = 2) (hk : codeV 0 1 40 ws true p.v = 0) (hx : ex < nP p.v) :
    Calls Try.prog 20 #[.pointer (some ⟨x.bp, 0, none⟩), .pointer (some ⟨x.bn, 0, none⟩)] W fun e w' =>
      (ex + 1 < nP p.v ∧ e = .returned (.tuple #[.agg #[.int .i64 0, .slice none 0 0], .bool false]) ∧ Lk (Wr w0 w' x vb (p :: q) (ex + 1) (wsS p.v ws ex) true)) ∨
      (ex + 1 = nP p.v ∧ ∃ (B : Option Addr) (cb : Nat), e = .returned (.tuple #[.agg #[.int .i64 0, .slice B 0 cb], .bool true]) ∧ Lk (Wr w0 w' x vb q 0 (wsS p.v ws ex) true)) := by
  obtain ⟨F, V, B, cb, hp⟩ := h.out.p
  have hm : mM p.v ex ≤ 2048 := by
    have := hok.out.piece hx
    have := hok.out.pos
    omega
  have ho := out_write hk2 ws ex
  refine (step_run F x.bp 0 1 0 V p q ex B cb [] x.bn x.gn 320 x.cp ws 40 W ⟨hp.pp⟩ ⟨h.out.pn⟩ rfl (by decide) (by decide) (by decide) hok hk hx ⟨hp.ff⟩ ⟨fun g hg e => by have := hp.bb g hg; have := h.out.gn; omega⟩ ⟨fun k hk' hh => by have := hp.fb k hh; omega⟩ (by show 0 + _ ≤ _; omega)).mono ?_
  rintro e w' ⟨HN, HO, HR⟩
  have hO : Only (fun k => k = x.bp ∨ vb = some k ∨ k = x.bn ∨ k = x.gn) w0 w' := by
    have h1 := h.out.only
    refine ⟨HO.out.os.trans h1.os, HO.out.tape.trans h1.tape, HO.out.output.trans h1.output, Nat.le_trans h1.size HO.out.size, fun k hk1 hn => ?_⟩
    refine (HO.out.block k (Nat.lt_of_lt_of_le hk1 h1.size) (fun hh => ?_)).trans (h1.block k hk1 hn)
    rcases hh with e | e | e | e | e
    · exact hn (.inl e)
    · exact hn (.inr (.inl (hp.vb ▸ e)))
    · have := hp.bb k e; omega
    · exact hn (.inr (.inr (.inl e)))
    · exact hn (.inr (.inr (.inr e)))
  rcases HR with ⟨hlt, B2, cb2, he, HP, HW⟩ | ⟨heq, V2, B2, cb2, he, HP, HL, HV⟩
  · rw [ho] at HP HW
    refine .inl ⟨hlt, he, ⟨⟨⟨_, V, B2, cb2, HP.out, hp.vb, ⟨.inl hp.ff.1, .inl hp.ff.2⟩, fun g hg => ?_, fun k hk' => ?_⟩, HN.out, hO, h.out.gn⟩⟩⟩
    · rcases HW.out g hg with h1 | h1
      · exact hp.bb g h1
      · have := h.out.only.size; omega
    · rcases hk' with h1 | h1
      · exact Nat.lt_of_lt_of_le (hp.fb k h1) HO.out.size
      · exact HP.out.ow.lt k h1
  · rw [ho] at he
    refine .inr ⟨heq, B2, cb2, he, ⟨⟨⟨F, V2, none, 0, HP.out, HV.out.trans hp.vb, hp.ff, (fun g hg => by cases hg), fun k hk' => Nat.lt_of_lt_of_le (hp.fb k hk') HO.out.size⟩, HN.out, hO, h.out.gn⟩⟩⟩
theorem wr_gone {w0 W : World} {x : Plc} {vb : Option Nat} {p : Pq} {q : List Pq} {ex : Nat} {ws : List Nat} (h : Lk (Wr w0 W x vb (p :: q) ex ws false)) (hok : Lk (OkV p.v)) :
    Calls Try.prog 20 #[.pointer (some ⟨x.bp, 0, none⟩), .pointer (some ⟨x.bn, 0, none⟩)] W fun e w' =>
      e = .returned (.tuple #[.agg #[.int .i64 4, .slice none 0 0], .bool true]) ∧ Lk (PN w' x.bn x.gn 320 x.cp ws false) ∧ Lk (Only (fun k => k = x.bp ∨ vb = some k) W w') := by
  obtain ⟨F, V, B, cb, hp⟩ := h.out.p
  refine (step_no F x.bp 0 1 0 V p q ex B cb [] x.bn x.gn 320 x.cp ws false 40 W ⟨hp.pp⟩ ⟨h.out.pn⟩ rfl (by decide) (by decide) (by decide) hok (by show (4 : Int) ≠ 0; decide)).mono ?_
  rintro e w' ⟨V2, he, HP, HO, HE⟩
  have hO : Only (fun k => k = x.bp ∨ vb = some k) W w' := HO.out.mono (fun k hk => hk.imp id (fun e => hp.vb ▸ e))
  refine ⟨he, ⟨h.out.pn.on HO.out (fun hh => hh.elim (fun e => ne_typed h.out.pn.node hp.pp.z (by decide) e) (fun e => by obtain ⟨cur, hc⟩ := hp.pp.own.typed _ e; exact ne_typed h.out.pn.node hc (by decide) rfl)) (fun hh => ?_)⟩, ⟨hO⟩⟩
  obtain ⟨cur2, hc2⟩ := Row.typed h.out.pn.row
  exact hh.elim (fun e => ne_typed hc2 hp.pp.z (by decide) e) (fun e => by obtain ⟨cur, hc⟩ := hp.pp.own.typed _ e; exact ne_typed hc2 hc (by decide) rfl)
theorem wsI_code {fm sd n i : Nat} (h1 : 1 ≤ n) (h2 : 40 ≤ fm) (h3 : fm + n ≤ 320) (h5 : n ≤ 60) (hi : i ≤ nP (wv fm sd n)) : codeV 0 1 40 (wsI wsF (wv fm sd n) i) true (wv fm sd n) = 0 := by
  have hg := fun j => wsI_get (ws := wsF) (wv_ok h1 h2 h3 h5) rfl hi (by rw [wv_a, wv_c, wsF_len]; exact h3) j
  refine wv_code (i := 0) h1 h2 h3 h5 ?_ ?_ ?_
  · rw [hg, if_neg (by rw [wv_a]; omega)]; rfl
  · rw [hg, if_neg (by rw [wv_a]; omega)]; rfl
  · rw [hg, if_neg (by rw [wv_a]; omega)]; exact wsF_get (by omega) (by omega)
/-- The law's own struct of the four pointers, at block g. -/
def Xb (W : World) (g : Nat) (x : Plc) : Prop := W.heap[g]? = some (.cells #[.pointer (some ⟨x.bp, 0, none⟩), .pointer (some ⟨x.bn, 0, none⟩), .pointer (some ⟨x.rb, 0, none⟩), .pointer (some ⟨x.rn, 0, none⟩)] 28 (0, 0))
section
variable {W W' : World} {g : Nat} {x : Plc} {S : Nat → Prop}
theorem Xb.c (h : Xb W g x) : W.cell? ⟨g, 0, none⟩ = some (.pointer (some ⟨x.bp, 0, none⟩)) ∧ W.cell? ⟨g, 1, none⟩ = some (.pointer (some ⟨x.bn, 0, none⟩)) ∧ W.cell? ⟨g, 2, none⟩ = some (.pointer (some ⟨x.rb, 0, none⟩)) ∧ W.cell? ⟨g, 3, none⟩ = some (.pointer (some ⟨x.rn, 0, none⟩)) :=
  ⟨(cell_of_row W g 0 _ _ _ h).trans rfl, (cell_of_row W g 1 _ _ _ h).trans rfl, (cell_of_row W g 2 _ _ _ h).trans rfl, (cell_of_row W g 3 _ _ _ h).trans rfl⟩
theorem Xb.lt (h : Xb W g x) : g < W.heap.size := (Array.getElem?_eq_some_iff.1 h).1
theorem Xb.on (h : Xb W g x) (ho : Only S W W') (hs : ¬ S g) : Xb W' g x := (ho.block g h.lt hs).trans h
theorem Xb.below (h : Xb W g x) (hb : Below W.heap.size W W') : Xb W' g x := (hb.block g h.lt).trans h
end
theorem St.wr {F : Nat → Prop} {w1 W : World} {x : Plc} {V : Value} {q : List Pq} {B : Option Addr} {cb : Nat} {Q : Value} {qe : List Pe} {ws : List Nat} {up : Bool} (h : St F W x 0 1 V q 0 B cb [] Q qe ws up) (hb : ∀ g, (Value.slice B 0 cb).ownBlock = some g → W.heap.size ≤ g) : Wr W W x V.ownBlock q 0 ws up :=
  ⟨⟨F, V, B, cb, h.pp, rfl, h.ff.1, hb, h.fb⟩, h.pn, Only.refl _ _, h.pn.row.size⟩
end Go.Proofs.Ytacfmkmiikkppaa.Tm

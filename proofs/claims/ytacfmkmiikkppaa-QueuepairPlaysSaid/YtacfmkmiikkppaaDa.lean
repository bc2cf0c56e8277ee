/-
  The law's own boxes: the four pointers, an operation; same at any queue.
-/
import Derived.Test.YtacfmkmiikkppaaTu
import Derived.Test.YtacfmkmiikkppaaTo
import Derived.Test.YtacfmkmiikkppaaQg
import Derived.Test.YtacfmkmiikkppaaVsw
import Derived.Test.YtacfmkmiikkppaaGb
namespace Go.Proofs.Ytacfmkmiikkppaa.Tv
open Go.ChangeShapes Go.WideShapes Go.ChangeAt Go.RowKit Ga Gb Na Nb Nc Nd_ Nf Va Vb Vd Ve Vf Qa Qb Qc Qd Qe Qf Qg Qj Qk Ta Tb Tc Td Te Tf Tg Th Ti Tk To Tp Tq Tt Tu
set_option linter.unusedVariables false
set_option linter.unusedSimpArgs false
set_option maxHeartbeats 1000000
set_option maxRecDepth 100000
structure Iv (F : Nat → Prop) (w : World) (x : Plc) (cl inc : Nat) (V : Value) (q : List Pq) (ex : Nat) (B : Option Addr) (cb : Nat) (r : List Nat) (Q : Value) (qe : List Pe) (ws : List Nat) (up : Bool) : Prop where
  st : St F w x cl inc V q ex B cb r Q qe ws up
  mq : Mq q ex r qe
  ok : ∀ p ∈ q, OkV p.v
  hx : ∀ p t, q = p :: t → ex < nP p.v
  rl : r.length ≤ 2048 * ex
  cl : cl ≤ 5 ∧ inc ≤ 59
/-- Both sides hold the same, at most m verbs. -/
def Okk (F : Nat → Prop) (w : World) (x : Plc) (cl inc m : Nat) : Prop := ∃ (V : Value) (q : List Pq) (ex : Nat) (B : Option Addr) (cb : Nat) (r : List Nat) (Q : Value) (qe : List Pe) (ws : List Nat) (up : Bool), Iv F w x cl inc V q ex B cb r Q qe ws up ∧ q.length ≤ m
/-- What an operation leaves. -/
def Nx (F : Nat → Prop) (w : World) (x : Plc) (cl inc m : Nat) (w' : World) : Prop := ∃ F' : Nat → Prop, Okk F' w' x cl inc m ∧ (∀ k, F' k → F k ∨ w.heap.size ≤ k) ∧ Only F w w'
section
variable {F F' S : Nat → Prop} {w w' w'' : World} {x : Plc} {cl inc m : Nat} {V : Value} {q : List Pq} {ex : Nat} {B : Option Addr} {cb : Nat} {r : List Nat} {Q : Value} {qe : List Pe} {ws : List Nat} {up : Bool} {b : Nat} {c i n : Int}
theorem St.below (h : St F w x cl inc V q ex B cb r Q qe ws up) (hb : Below w.heap.size w w') : St F w' x cl inc V q ex B cb r Q qe ws up :=
  ⟨h.pp.below hb, Nd.below h.pn hb, h.rp.below hb, Nd.below h.rn hb, h.ff, h.bb, h.gg, fun k hk => Nat.lt_of_lt_of_le (h.fb k hk) hb.size⟩
theorem Iv.below (h : Iv F w x cl inc V q ex B cb r Q qe ws up) (hb : Below w.heap.size w w') : Iv F w' x cl inc V q ex B cb r Q qe ws up := ⟨St.below h.st hb, h.mq, h.ok, h.hx, h.rl, h.cl⟩
theorem Okk.below (h : Okk F w x cl inc m) (hb : Below w.heap.size w w') : Okk F w' x cl inc m := by
  obtain ⟨V, q, ex, B, cb, r, Q, qe, ws, up, hI, hm⟩ := h
  exact ⟨V, q, ex, B, cb, r, Q, qe, ws, up, hI.below hb, hm⟩
theorem Nx.below (h : Nx F w x cl inc m w') (hb : Below w'.heap.size w' w'') : Nx F w x cl inc m w'' := by
  obtain ⟨F', h1, h2, h3⟩ := h
  exact ⟨F', h1.below hb, h2, h3.trans (Only.of_below hb)⟩
theorem Nx.ahead (h : Nx F w' x cl inc m w'') (hb : Below w.heap.size w w') : Nx F w x cl inc m w'' := by
  obtain ⟨F', h1, h2, h3⟩ := h
  exact ⟨F', h1, fun k hk => (h2 k hk).imp id (fun h => Nat.le_trans hb.size h), (Only.of_below hb).trans h3⟩
theorem RP.to (h : RP F w b c i n Q qe) (h1 : ∀ k, F k → F' k) (h2 : ∀ k, F' k → F k ∨ w.heap.size ≤ k) : RP F' w b c i n Q qe :=
  ⟨h.z, h1 _ h.f, h.own, fun g hg hh => (h2 g hh).elim (h.nf g hg) (fun e => by have := (h.own.lt g hg).2; omega), fun p hp => ⟨liesF_to (h.wd p hp).a h2, (h.wd p hp).la, liesF_to (h.wd p hp).b h2, (h.wd p hp).lb⟩⟩
/-- The four roots and rows are different blocks. -/
structure Ap (F : Nat → Prop) (V : Value) (B : Option Addr) (cb rl : Nat) (x : Plc) : Prop where
  a : x.bp ≠ x.bn ∧ x.bp ≠ x.gn ∧ x.bp ≠ x.rb ∧ x.bp ≠ x.rn ∧ x.bp ≠ x.rg
  b : x.bn ≠ x.gn ∧ x.bn ≠ x.rb ∧ x.bn ≠ x.rn ∧ x.bn ≠ x.rg
  c : x.gn ≠ x.rb ∧ x.gn ≠ x.rn ∧ x.gn ≠ x.rg
  d : x.rb ≠ x.rn ∧ x.rb ≠ x.rg ∧ x.rn ≠ x.rg
  v : ∀ g, V.ownBlock = some g → g ≠ x.bp ∧ g ≠ x.bn ∧ g ≠ x.gn ∧ g ≠ x.rb ∧ g ≠ x.rn ∧ g ≠ x.rg ∧ F g
  w : ∀ g, (Value.slice B rl cb).ownBlock = some g → g ≠ x.bp ∧ g ≠ x.bn ∧ g ≠ x.gn ∧ g ≠ x.rb ∧ g ≠ x.rn ∧ g ≠ x.rg ∧ F g
  f : F x.bp ∧ F x.bn ∧ F x.gn ∧ F x.rb ∧ F x.rn ∧ F x.rg
theorem St.ap (h : St F w x cl inc V q ex B cb r Q qe ws up) : Ap F V B cb r.length x := by
  have hp := h.pp.z
  have hn := h.pn.node
  obtain ⟨cg, hg⟩ := Row.typed h.pn.row
  have hr := h.rp.z
  have hm := h.rn.node
  obtain ⟨cr, hs⟩ := Row.typed h.rn.row
  refine ⟨⟨ne_typed hp hn (by decide), ne_typed hp hg (by decide), ne_typed hp hr (by decide), ne_typed hp hm (by decide), ne_typed hp hs (by decide)⟩,
    ⟨ne_typed hn hg (by decide), ne_typed hn hr (by decide), ne_typed hn hm (by decide), ne_typed hn hs (by decide)⟩,
    ⟨ne_typed hg hr (by decide), ne_typed hg hm (by decide), h.gg⟩,
    ⟨ne_typed hr hm (by decide), ne_typed hr hs (by decide), ne_typed hm hs (by decide)⟩, fun g hv => ?_, fun g hv => ?_,
    ⟨h.pp.f, h.ff.1.1, h.ff.1.2, h.rp.f, h.ff.2.1, h.ff.2.2⟩⟩
  · obtain ⟨cv, hc⟩ := h.pp.own.typed g hv
    exact ⟨ne_typed hc hp (by decide), ne_typed hc hn (by decide), ne_typed hc hg (by decide), ne_typed hc hr (by decide), ne_typed hc hm (by decide), ne_typed hc hs (by decide), h.pp.vf g hv⟩
  · obtain ⟨cv, hc⟩ := h.pp.ow.typed g hv
    exact ⟨ne_typed hc hp (by decide), ne_typed hc hn (by decide), (h.bb g hv).1, ne_typed hc hr (by decide), ne_typed hc hm (by decide), (h.bb g hv).2, h.pp.wf g hv⟩
theorem nP_le {v : Mv} (h : OkV v) : nP v ≤ 257 := by
  have := h.pos
  unfold nP numP
  omega
theorem Iv.mM (h : Iv F w x cl inc V q ex B cb r Q qe ws up) {p : Pq} {t : List Pq} (hq : q = p :: t) : r.length + mM p.v ex ≤ 4294967296 := by
  have h1 := h.ok p (by rw [hq]; exact List.mem_cons_self ..)
  have h2 := h.hx p t hq
  have h3 := nP_le h1
  have h4 := h1.pos
  have h5 := h1.piece h2
  have h6 := h.rl
  omega
theorem valid_up {k nd a c : Int} (h : validC k nd a c 5 40 = 0) : validC k nd a c 5 256 = 0 := by
  unfold validC liesB at h ⊢
  by_cases h1 : c < 1
  · rw [if_pos h1] at h; omega
  · rw [if_neg h1] at h ⊢
    split at h
    · rename_i hh
      rw [if_pos]
      obtain ⟨a1, a2, a3, a4, a5, a6, a7, a8⟩ := hh
      simp only [decide_eq_true_eq] at a7 ⊢
      exact ⟨a1, a2, by omega, by omega, a5, a6, ⟨a7.1, by omega, a7.2.2⟩, a8⟩
    · omega
end
end Go.Proofs.Ytacfmkmiikkppaa.Tv
namespace Go.Proofs.Ytacfmkmiikkppaa.Tw
open Go.ChangeShapes Go.WideShapes Go.ChangeAt Go.RowKit Ga Gb Na Nb Nc Nd_ Nf Va Vb Vd Ve Vf Qa Qb Qc Qd Qe Qf Qg Qj Qk Ta Tb Tc Td Te Tf Tg Th Ti Tk To Tp Tq Tt Tu Tv
set_option linter.unusedVariables false
set_option linter.unusedSimpArgs false
set_option maxHeartbeats 1000000
set_option maxRecDepth 100000
section
variable (F : Nat → Prop) (x : Plc) (cl inc m : Nat) (V : Value) (q : List Pq) (ex : Nat) (B : Option Addr) (cb : Nat) (r : List Nat) (Q : Value) (qe : List Pe) (ws : List Nat) (up : Bool) (k nd a n : Int) (o ne : Nat) (A : Option Addr) (c : Nat) (ky bo : Int) (s : List Nat) (w : World)
theorem post_both (h : Lk (Iv F w x cl inc V q ex B cb r Q qe ws up)) (hm : q.length ≤ m) (hm2 : m < 1024) (ho : o < 18446744073709551616) (hne : ne < 18446744073709551616) (hbo : bo ≤ 9223372036854775807) (hn : n ≤ 9223372036854775807) (hs : Lk (wide s)) (HW : Lk (Lies .u64 w w.heap.size A s)) (HA : Lk (∀ ad, A = some ad → ¬ F ad.block)) :
    Calls Try.prog 19 #[.pointer (some ⟨x.bp, 0, none⟩), (Value.agg #[Value.int IntKind.i64 k, Value.int IntKind.i64 nd, Value.int IntKind.i64 a, Value.int IntKind.i64 n, Value.int IntKind.u64 ((o : Int)), Value.int IntKind.u64 ((ne : Int)), Value.slice A s.length c, Value.int IntKind.u64 ky, Value.int IntKind.i64 bo]), .int .i64 40] w fun e w1 => ∃ z : Int, e = .returned (.int .i64 z) ∧ Lk (Only F w w1) ∧
      Lk (∀ wx, Below w1.heap.size w1 wx → Calls Try.prog 35 #[.pointer (some ⟨x.rb, 0, none⟩), (Value.agg #[Value.int IntKind.i64 k, Value.int IntKind.i64 nd, Value.int IntKind.i64 a, Value.int IntKind.i64 n, Value.int IntKind.u64 ((o : Int)), Value.int IntKind.u64 ((ne : Int)), Value.slice A s.length c, Value.int IntKind.u64 ky, Value.int IntKind.i64 bo]), .int .i64 40, .int .i64 0] wx fun e2 w2 => e2 = .returned (.int .i64 z) ∧ Lk (Nx F w x cl inc (m + 1) w2)) := by
  have hI := h.out
  have hS := hI.st
  have hlen := hI.mq.len
  have hsl := hs.out.1
  have hc2 : cnt k n s.length ≤ 9223372036854775807 := cnt_hi hn (by omega)
  have hap := St.ap hS
  by_cases hp : postC (validC k nd a (cnt k n s.length) 5 40) nd 0 q.length = 0
  · have hp3 : validC k nd a (cnt k n s.length) 5 40 = 0 ∧ nd = 0 := by
      unfold postC at hp
      by_cases h1 : validC k nd a (cnt k n s.length) 5 40 = 0
      · rw [if_pos h1] at hp
        by_cases h2 : nd = 0
        · exact ⟨h1, h2⟩
        · rw [if_neg h2] at hp; omega
      · rw [if_neg h1] at hp; exact absurd hp h1
    obtain ⟨hv, rfl⟩ := hp3
    refine (post_ok F x.bp cl inc V q ex B cb r k 0 a n o ne A c ky bo s 40 w ⟨hS.pp⟩ (by omega) hc2 hv HW hs ⟨fun ad e hh => HA.out ad e (hS.pp.vf _ hh)⟩ ⟨fun g hg hF => by have := hS.fb g hF; omega⟩).mono ?_
    rintro e w1 ⟨F2, V2, A2, c2, rfl, HP1, HO1, HG1, HF2, HE1⟩
    have hsub : ∀ k, (k = x.bp ∨ V.ownBlock = some k) → F k := fun k hk => hk.elim (fun e => e ▸ hap.f.1) (fun e => hS.pp.vf k e)
    refine ⟨0, rfl, ⟨HO1.out.mono hsub⟩, ⟨fun wx hb => ?_⟩⟩
    have hF2 : ∀ k, F2 k → F k ∨ w.heap.size ≤ k := fun k hk => (HG1.out.new k hk).imp id (fun h => h.1)
    have hR1 := ((RP.to hS.rp HG1.out.sub hF2).on HO1.out (fun k hk => HG1.out.sub k (hsub k hk)) (fun hh => hh.elim (fun e => hap.a.2.2.1 e.symm) (fun e => (hap.v _ e).2.2.2.1 rfl))).below hb
    have hN1 := Nd.below (hS.pn.on HO1.out (fun hh => hh.elim (fun e => hap.a.1 e.symm) (fun e => (hap.v _ e).2.1 rfl)) (fun hh => hh.elim (fun e => hap.a.2.1 e.symm) (fun e => (hap.v _ e).2.2.1 rfl))) hb
    have hM1 := Nd.below (hS.rn.on HO1.out (fun hh => hh.elim (fun e => hap.a.2.2.2.1 e.symm) (fun e => (hap.v _ e).2.2.2.2.1 rfl)) (fun hh => hh.elim (fun e => hap.a.2.2.2.2 e.symm) (fun e => (hap.v _ e).2.2.2.2.2.1 rfl))) hb
    have hP1 := HP1.out.below hb
    have hfb1 : ∀ k, F2 k → k < wx.heap.size := fun k hk => by
      have h1 := HO1.out.size
      have h2 := hb.size
      rcases HG1.out.new k hk with h | h
      · have := hS.fb k h; omega
      · omega
    have hL1 : Lies .u64 wx wx.heap.size A s := (lies_only HW.out HO1.out (fun ad e hh => HA.out ad e (hsub _ hh))).on_ hb
    refine (refPost_ok F2 x.rb cl inc 0 Q qe k a n o ne A s.length c ky bo s 40 0 wx ⟨hR1⟩ ⟨fun g hg hF => by have := hfb1 g hF; omega⟩ hc2 hv (by rw [hlen]; omega) ⟨hL1⟩ rfl hsl).mono ?_
    rintro e2 w2 ⟨Q2, A3, c3, rfl, HR2, HO2⟩
    have hbp2 : x.bp ≠ x.rb := hap.a.2.2.1
    have hF2rb : F2 x.rb := HG1.out.sub _ hap.f.2.2.2.1
    refine ⟨rfl, ⟨F2, ⟨V2, q ++ [⟨⟨k, 0, a, n, o, ne, ky, bo, s⟩, A2, c2⟩], ex, B, cb, r, Q2, qe ++ [mkE ⟨k, 0, a, n, o, ne, ky, bo, s⟩ A3 c3 0 none 0 [] 0], ws, up, ⟨⟨?_, ?_, HR2.out, ?_, ⟨⟨HG1.out.sub _ hS.ff.1.1, HG1.out.sub _ hS.ff.1.2⟩, ⟨HG1.out.sub _ hS.ff.2.1, HG1.out.sub _ hS.ff.2.2⟩⟩, hS.bb, hS.gg, fun k hk => Nat.lt_of_lt_of_le (hfb1 k hk) HO2.out.size⟩, Mq.add _ _ _ hI.mq, ?_, ?_, hI.rl, hI.cl⟩, by rw [List.length_append]; simp; omega⟩, hF2, ?_⟩⟩
    · refine hP1.on HO2.out (fun e => hbp2 e) (fun g hg e => ?_) (fun g hg e => (hap.w g hg).2.2.2.1 e) (fun k hk => by rw [hk]; exact hF2rb)
      obtain ⟨cv, hc⟩ := hP1.own.typed g hg
      exact ne_typed hc hR1.z (by decide) e
    · exact hN1.on HO2.out (fun e => hap.b.2.1 e) (fun e => hap.c.1 e)
    · exact hM1.on HO2.out (fun e => hap.d.1 e.symm) (fun e => hap.d.2.1 e.symm)
    · intro p hp'
      rcases List.mem_append.1 hp' with h | h
      · exact hI.ok p h
      · rw [List.mem_singleton] at h
        subst h
        exact ⟨ho, hne, hbo, hs.out, valid_up hv⟩
    · intro p t hq
      match q, hq, hI with
      | [], hq, hI =>
        have : ex = 0 := hI.mq.1
        rw [this]
        unfold nP numP
        omega
      | p0 :: q0, hq, hI =>
        rw [List.cons_append] at hq
        injection hq with h1 h2
        rw [← h1]
        exact hI.hx p0 q0 rfl
    · exact (HO1.out.mono hsub).trans ((Only.of_below hb).trans (HO2.out.mono (fun k hk => by rw [hk]; exact hap.f.2.2.2.1)))
  · refine (post_no F x.bp cl inc 0 V q ex B cb r k nd a n o ne A s.length c ky bo 40 w ⟨hS.pp⟩ (by omega) hc2 hp).mono ?_
    rintro e w1 ⟨rfl, HB1⟩
    refine ⟨_, rfl, ⟨Only.of_below HB1.out⟩, ⟨fun wx hb => ?_⟩⟩
    have hbx := HB1.out.trans (hb.mono HB1.out.size)
    refine (refPost_no F x.rb cl inc 0 Q qe k nd a n o ne A s.length c ky bo 40 0 wx ⟨hS.rp.below hbx⟩ (by rw [hlen]; omega) hc2 (by rw [hlen]; exact hp)).mono ?_
    rintro e2 w2 ⟨rfl, HB2⟩
    have hb2 := hbx.trans (HB2.out.mono hbx.size)
    exact ⟨by rw [hlen], ⟨F, ⟨V, q, ex, B, cb, r, Q, qe, ws, up, hI.below hb2, by omega⟩, fun k hk => .inl hk, Only.of_below hb2⟩⟩
end
end Go.Proofs.Ytacfmkmiikkppaa.Tw
namespace Go.Proofs.Ytacfmkmiikkppaa.Tx
open Go.ChangeShapes Go.WideShapes Go.ChangeAt Go.RowKit Ga Gb Na Nb Nc Nd_ Nf Va Vb Vd Ve Vf Qa Qb Qc Qd Qe Qf Qg Qj Qk Ta Tb Tc Td Te Tf Tg Th Ti Tk To Tp Tq Tt Tu Tv
set_option linter.unusedVariables false
set_option linter.unusedSimpArgs false
set_option maxHeartbeats 1000000
set_option maxRecDepth 100000
section
variable (F : Nat → Prop) (x : Plc) (cl inc m : Nat) (V : Value) (q : List Pq) (ex : Nat) (B : Option Addr) (cb : Nat) (r : List Nat) (Q : Value) (qe : List Pe) (ws : List Nat) (up : Bool) (w : World)
/-- What the reference's Step returns behind the program's. -/
def Rf (F : Nat → Prop) (w : World) (x : Plc) (cl inc m : Nat) (k : Int) (A : Option Addr) (out : List Nat) (dn : Bool) (w1 : World) : Prop :=
  ∀ wx, Below w1.heap.size w1 wx → Calls Try.prog 36 #[.pointer (some ⟨x.rb, 0, none⟩), .pointer (some ⟨x.rn, 0, none⟩)] wx fun e2 w2 => ∃ (A2 : Option Addr) (c2 : Nat) (sl : Int) (i4 : Bool), e2 = .returned (.tuple #[.agg #[.int .i64 k, .slice A2 out.length c2], .int .i64 sl, .bool dn, .bool i4]) ∧ Lk (Lies .u64 w2 w2.heap.size A out) ∧ Lk (Lies .u64 w2 w2.heap.size A2 out) ∧ Lk (Nx F w x cl inc m w2) ∧ Lk (Only (fun k => k = x.rb ∨ k = x.rg) wx w2)
theorem step_nil (h : Lk (Iv F w x cl inc V [] ex B cb r Q qe ws up)) :
    Calls Try.prog 20 #[.pointer (some ⟨x.bp, 0, none⟩), .pointer (some ⟨x.bn, 0, none⟩)] w fun e w1 => ∃ (k : Int) (A : Option Addr) (c : Nat) (out : List Nat) (dn : Bool), e = .returned (.tuple #[.agg #[.int .i64 k, .slice A out.length c], .bool dn]) ∧ Lk (out.length ≤ 4294967296) ∧ Lk (Only F w w1) ∧ Lk (Lies .u64 w1 w1.heap.size A out) ∧ Lk (Rf F w x cl inc m k A out dn w1) := by
  have hI := h.out
  have hS := hI.st
  obtain ⟨h1, h2, rfl⟩ := hI.mq
  refine (step_empty F x.bp cl inc 0 V ex B cb r w _ ⟨hS.pp⟩).mono ?_
  rintro e w1 ⟨rfl, HB1⟩
  refine ⟨0, none, 0, [], false, rfl, ⟨by simp⟩, ⟨Only.of_below HB1.out⟩, ⟨Lies.none_⟩, ⟨fun wx hb => ?_⟩⟩
  have hbx := HB1.out.trans (hb.mono HB1.out.size)
  refine (refStep_empty F x.rb cl inc 0 Q _ wx ⟨hS.rp.below hbx⟩).mono ?_
  rintro e2 w2 ⟨rfl, HB2⟩
  have hb2 := hbx.trans (HB2.out.mono hbx.size)
  exact ⟨none, 0, -1, false, rfl, ⟨Lies.none_⟩, ⟨Lies.none_⟩, ⟨F, ⟨V, [], ex, B, cb, r, Q, [], ws, up, hI.below hb2, by simp⟩, fun k hk => .inl hk, Only.of_below hb2⟩, ⟨Only.of_below HB2.out⟩⟩
theorem step_gone (p : Pq) (h : Lk (Iv F w x cl inc V (p :: q) ex B cb r Q qe ws up)) (hm : q.length ≤ m) (hm2 : m < 1024) (hk : codeV cl inc 40 ws up p.v ≠ 0) :
    Calls Try.prog 20 #[.pointer (some ⟨x.bp, 0, none⟩), .pointer (some ⟨x.bn, 0, none⟩)] w fun e w1 => ∃ (k : Int) (A : Option Addr) (c : Nat) (out : List Nat) (dn : Bool), e = .returned (.tuple #[.agg #[.int .i64 k, .slice A out.length c], .bool dn]) ∧ Lk (out.length ≤ 4294967296) ∧ Lk (Only F w w1) ∧ Lk (Lies .u64 w1 w1.heap.size A out) ∧ Lk (Rf F w x cl inc m k A out dn w1) := by
  have hI := h.out
  have hS := hI.st
  have hap := St.ap hS
  obtain ⟨A0, c0, B0, cB0, t, rfl, ht⟩ := hI.mq
  have hlen := ht.len
  have hok := hI.ok p (List.mem_cons_self ..)
  refine (step_no F x.bp cl inc 0 V p q ex B cb r x.bn x.gn 320 x.cp ws up 40 w ⟨hS.pp⟩ ⟨hS.pn⟩ rfl (by omega) hI.cl.1 hI.cl.2 ⟨hok⟩ hk).mono ?_
  rintro e w1 ⟨V2, rfl, HP1, HO1, HE1⟩
  have hsub : ∀ k, (k = x.bp ∨ V.ownBlock = some k) → F k := fun k hk => hk.elim (fun e => e ▸ hap.f.1) (fun e => hS.pp.vf k e)
  refine ⟨_, none, 0, [], true, rfl, ⟨by simp⟩, ⟨HO1.out.mono hsub⟩, ⟨Lies.none_⟩, ⟨fun wx hb => ?_⟩⟩
  have hR1 := (hS.rp.on HO1.out hsub (fun hh => hh.elim (fun e => hap.a.2.2.1 e.symm) (fun e => (hap.v _ e).2.2.2.1 rfl))).below hb
  have hN1 := Nd.below (hS.pn.on HO1.out (fun hh => hh.elim (fun e => hap.a.1 e.symm) (fun e => (hap.v _ e).2.1 rfl)) (fun hh => hh.elim (fun e => hap.a.2.1 e.symm) (fun e => (hap.v _ e).2.2.1 rfl))) hb
  have hM1 := Nd.below (hS.rn.on HO1.out (fun hh => hh.elim (fun e => hap.a.2.2.2.1 e.symm) (fun e => (hap.v _ e).2.2.2.2.1 rfl)) (fun hh => hh.elim (fun e => hap.a.2.2.2.2 e.symm) (fun e => (hap.v _ e).2.2.2.2.2.1 rfl))) hb
  have hP1 := HP1.out.below hb
  have hsz : w.heap.size ≤ wx.heap.size := Nat.le_trans HO1.out.size hb.size
  have hfb : ∀ g, wx.heap.size ≤ g → ¬ F g := fun g hg hF => by have := hS.fb g hF; omega
  have hfin : ∀ (Q2 : Value) (w2 : World), RP F w2 x.rb cl inc 0 Q2 t → Only (fun k => k = x.rb) wx w2 → Nx F w x cl inc m w2 := fun Q2 w2 hR2 hO2 => by
    refine ⟨F, ⟨V2, q, 0, none, 0, [], Q2, t, ws, up, ⟨⟨?_, ?_, hR2, ?_, hS.ff, (fun g hg => by cases hg), hS.gg, fun k hk => Nat.lt_of_lt_of_le (Nat.lt_of_lt_of_le (hS.fb k hk) hsz) hO2.size⟩, ht, fun p' hp' => hI.ok p' (List.mem_cons_of_mem _ hp'), fun p' t' hq => ?_, by simp, hI.cl⟩, hm⟩, fun k hk => .inl hk, ?_⟩
    · refine hP1.on hO2 (fun e => hap.a.2.2.1 e) (fun g hg e => (hap.v g (HE1.out ▸ hg)).2.2.2.1 e) (fun g hg => by cases hg) (fun k hk => by rw [hk]; exact hap.f.2.2.2.1)
    · exact hN1.on hO2 (fun e => hap.b.2.1 e) (fun e => hap.c.1 e)
    · exact hM1.on hO2 (fun e => hap.d.1 e.symm) (fun e => hap.d.2.1 e.symm)
    · unfold nP numP
      omega
    · exact (HO1.out.mono hsub).trans ((Only.of_below hb).trans (hO2.mono (fun k hk => by rw [hk]; exact hap.f.2.2.2.1)))
  cases up with
  | false =>
    refine (refStep_gone F x.rb cl inc 0 Q _ t x.rn x.rg 320 x.cr ws wx ⟨hR1⟩ ⟨hfb⟩ ⟨hM1⟩ (by rw [hlen]; omega)).mono ?_
    rintro e2 w2 ⟨Q2, rfl, HR2, HO2⟩
    exact ⟨none, 0, _, true, rfl, ⟨Lies.none_⟩, ⟨Lies.none_⟩, ⟨hfin Q2 w2 HR2.out HO2.out⟩, ⟨HO2.out.mono (fun k hk => .inl hk)⟩⟩
  | true =>
    have hbo := hok.bo
    have hpos := hok.pos
    have hcn : cnt p.v.k p.v.n p.v.s.length ≤ 9223372036854775807 := by
      have : cnt p.v.k p.v.n p.v.s.length = cM p.v := hpos.2.1
      omega
    refine (refStep_code F x.rb cl inc 0 Q (mkE p.v A0 c0 ex B0 cB0 r 0) t x.rn x.rg 320 x.cr ws 40 wx ⟨hR1⟩ ⟨hfb⟩ ⟨hM1⟩ (by rw [hlen]; omega) rfl (by omega) hI.cl.1 hI.cl.2 hcn hbo hk).mono ?_
    rintro e2 w2 ⟨Q2, rfl, HR2, HO2⟩
    exact ⟨none, 0, _, true, rfl, ⟨Lies.none_⟩, ⟨Lies.none_⟩, ⟨hfin Q2 w2 HR2.out HO2.out⟩, ⟨HO2.out.mono (fun k hk => .inl hk)⟩⟩
theorem step_goes (p : Pq) (h : Lk (Iv F w x cl inc V (p :: q) ex B cb r Q qe ws true)) (hm : q.length + 1 ≤ m) (hm2 : m < 1024) (hk : codeV cl inc 40 ws true p.v = 0) :
    Calls Try.prog 20 #[.pointer (some ⟨x.bp, 0, none⟩), .pointer (some ⟨x.bn, 0, none⟩)] w fun e w1 => ∃ (k : Int) (A : Option Addr) (c : Nat) (out : List Nat) (dn : Bool), e = .returned (.tuple #[.agg #[.int .i64 k, .slice A out.length c], .bool dn]) ∧ Lk (out.length ≤ 4294967296) ∧ Lk (Only F w w1) ∧ Lk (Lies .u64 w1 w1.heap.size A out) ∧ Lk (Rf F w x cl inc m k A out dn w1) := by
  have hI := h.out
  have hS := hI.st
  have hap := St.ap hS
  have hmM := hI.mM rfl
  obtain ⟨A0, c0, B0, cB0, t, rfl, ht⟩ := hI.mq
  have hlen := ht.len
  have hok := hI.ok p (List.mem_cons_self ..)
  have hlt := hI.hx p q rfl
  have hol : (r ++ outS p.v ws ex).length ≤ r.length + mM p.v ex ∧ (outS p.v ws ex).length ≤ 2048 := by
    have h1 : (outS p.v ws ex).length ≤ mM p.v ex := by
      unfold outS outM
      split
      · simp
      · rw [List.length_take]; omega
    have h2 := hok.piece hlt
    have h3 := hok.pos
    rw [List.length_append]
    omega
  refine (step_run F x.bp cl inc 0 V p q ex B cb r x.bn x.gn 320 x.cp ws 40 w ⟨hS.pp⟩ ⟨hS.pn⟩ rfl (by omega) hI.cl.1 hI.cl.2 ⟨hok⟩ hk hlt ⟨hS.ff.1⟩ ⟨fun g hg => (hS.bb g hg).1⟩ ⟨fun g hg hF => by have := hS.fb g hF; omega⟩ hmM).mono ?_
  rintro e w1 ⟨HN1, HO1, HR1⟩
  have hsub : ∀ k, (k = x.bp ∨ V.ownBlock = some k ∨ (Value.slice B r.length cb).ownBlock = some k ∨ k = x.bn ∨ k = x.gn) → F k := fun k hk => by
    rcases hk with e | e | e | e | e
    · rw [e]; exact hap.f.1
    · exact hS.pp.vf k e
    · exact hS.pp.wf k e
    · rw [e]; exact hap.f.2.1
    · rw [e]; exact hap.f.2.2.1
  have hrb : ¬ (x.rb = x.bp ∨ V.ownBlock = some x.rb ∨ (Value.slice B r.length cb).ownBlock = some x.rb ∨ x.rb = x.bn ∨ x.rb = x.gn) := fun hh => by
    rcases hh with e | e | e | e | e
    · exact hap.a.2.2.1 e.symm
    · exact (hap.v _ e).2.2.2.1 rfl
    · exact (hap.w _ e).2.2.2.1 rfl
    · exact hap.b.2.1 e.symm
    · exact hap.c.1 e.symm
  have hrn : ¬ (x.rn = x.bp ∨ V.ownBlock = some x.rn ∨ (Value.slice B r.length cb).ownBlock = some x.rn ∨ x.rn = x.bn ∨ x.rn = x.gn) := fun hh => by
    rcases hh with e | e | e | e | e
    · exact hap.a.2.2.2.1 e.symm
    · exact (hap.v _ e).2.2.2.2.1 rfl
    · exact (hap.w _ e).2.2.2.2.1 rfl
    · exact hap.b.2.2.1 e.symm
    · exact hap.c.2.1 e.symm
  have hrg : ¬ (x.rg = x.bp ∨ V.ownBlock = some x.rg ∨ (Value.slice B r.length cb).ownBlock = some x.rg ∨ x.rg = x.bn ∨ x.rg = x.gn) := fun hh => by
    rcases hh with e | e | e | e | e
    · exact hap.a.2.2.2.2 e.symm
    · exact (hap.v _ e).2.2.2.2.2.1 rfl
    · exact (hap.w _ e).2.2.2.2.2.1 rfl
    · exact hap.b.2.2.2 e.symm
    · exact hap.c.2.2 e.symm
  have hM1 := hS.rn.on HO1.out hrn hrg
  have hrbl := hS.rp.lt
  have hrgl := hS.rn.row.size
  have hs1 := HO1.out.size
  rcases HR1 with ⟨hx1, B2, cb2, rfl, HP1, HW1⟩ | ⟨hx1, V2, B2, cb2, rfl, HP1, HL1, HV1⟩
  · refine ⟨0, none, 0, [], false, rfl, ⟨by simp⟩, ⟨HO1.out.mono hsub⟩, ⟨Lies.none_⟩, ⟨fun wx hb => ?_⟩⟩
    have hs2 := hb.size
    have hW := HW1.out
    have hF2 : ∀ k, (F k ∨ (Value.slice B2 (r ++ outS p.v ws ex).length cb2).ownBlock = some k) → F k ∨ w.heap.size ≤ k := fun k hk => hk.elim .inl (fun e => (hW k e).elim (fun e => .inl (hS.pp.wf k e)) (fun h => .inr h.1))
    have hfb1 : ∀ k, (F k ∨ (Value.slice B2 (r ++ outS p.v ws ex).length cb2).ownBlock = some k) → k < wx.heap.size := fun k hk => by
      rcases hk with h | h
      · have := hS.fb k h; omega
      · have := HP1.out.ow.lt k h; omega
    have hR2 := ((RP.to hS.rp (F' := fun k => F k ∨ (Value.slice B2 (r ++ outS p.v ws ex).length cb2).ownBlock = some k) (fun k hk => .inl hk) hF2).on HO1.out (fun k hk => .inl (hsub k hk)) hrb).below hb
    have hP2 := HP1.out.below hb
    have hN2 := Nd.below HN1.out hb
    have hM2 := Nd.below hM1 hb
    have hbb : ∀ g, (Value.slice B2 (r ++ outS p.v ws ex).length cb2).ownBlock = some g → g ≠ x.gn ∧ g ≠ x.rg ∧ g ≠ x.rb := fun g hg => by
      rcases hW g hg with h | h
      · have := hap.w g h
        exact ⟨this.2.2.1, this.2.2.2.2.2.1, this.2.2.2.1⟩
      · have := hS.pn.row.size
        exact ⟨by omega, by omega, by omega⟩
    refine (refStep_run (fun k => F k ∨ (Value.slice B2 (r ++ outS p.v ws ex).length cb2).ownBlock = some k) x.rb cl inc 0 Q p.v A0 c0 ex B0 cB0 r 0 t x.rn x.rg 320 x.cr ws 40 wx ⟨hR2⟩ ⟨fun g hg hF => by have := hfb1 g hF; omega⟩ ⟨hM2⟩ ⟨.inl hS.ff.2.1, .inl hS.ff.2.2⟩ (by rw [hlen]; omega) rfl (by omega) hI.cl.1 hI.cl.2 ⟨hok⟩ hk hlt hmM).mono ?_
    rintro e2 w2 ⟨HM3, HO3, HR3⟩
    rcases HR3 with ⟨_, Q2, B3, c3, rfl, HR3⟩ | ⟨h2, _⟩
    · refine ⟨none, 0, -1, true, rfl, ⟨Lies.none_⟩, ⟨Lies.none_⟩, ⟨_, ⟨V, p :: q, ex + 1, B2, cb2, r ++ outS p.v ws ex, Q2, _, wsS p.v ws ex, true, ⟨⟨?_, ?_, HR3.out, HM3.out, ⟨⟨.inl hS.ff.1.1, .inl hS.ff.1.2⟩, ⟨.inl hS.ff.2.1, .inl hS.ff.2.2⟩⟩, fun g hg => ⟨(hbb g hg).1, (hbb g hg).2.1⟩, hS.gg, fun k hk => Nat.lt_of_lt_of_le (hfb1 k hk) HO3.out.size⟩, ⟨A0, c0, B3, c3, t, rfl, ht⟩, hI.ok, fun p' t' hq => ?_, ?_, hI.cl⟩, by simpa using hm⟩, hF2, ?_⟩, HO3⟩
      · exact hP2.on HO3.out (fun hh => hh.elim (fun e => hap.a.2.2.1 e) (fun e => hap.a.2.2.2.2 e)) (fun g hg hh => hh.elim (fun e => (hap.v g hg).2.2.2.1 e) (fun e => (hap.v g hg).2.2.2.2.2.1 e)) (fun g hg hh => hh.elim (fun e => (hbb g hg).2.2 e) (fun e => (hbb g hg).2.1 e)) (fun k hk => hk.elim (fun e => by rw [e]; exact .inl hap.f.2.2.2.1) (fun e => by rw [e]; exact .inl hap.f.2.2.2.2.2))
      · exact hN2.on HO3.out (fun hh => hh.elim (fun e => hap.b.2.1 e) (fun e => hap.b.2.2.2 e)) (fun hh => hh.elim (fun e => hap.c.1 e) (fun e => hap.c.2.2 e))
      · injection hq with h1 h2
        rw [← h1]; exact hx1
      · have := hI.rl
        rw [List.length_append]
        omega
      · exact (HO1.out.mono hsub).trans ((Only.of_below hb).trans (HO3.out.mono (fun k hk => hk.elim (fun e => by rw [e]; exact hap.f.2.2.2.1) (fun e => by rw [e]; exact hap.f.2.2.2.2.2))))
    · omega
  · refine ⟨0, B2, cb2, r ++ outS p.v ws ex, true, rfl, ⟨by omega⟩, ⟨HO1.out.mono hsub⟩, ⟨HL1.out.1⟩, ⟨fun wx hb => ?_⟩⟩
    have hs2 := hb.size
    have hW := HL1.out.2
    have hfb1 : ∀ k, F k → k < wx.heap.size := fun k hk => by have := hS.fb k hk; omega
    have hR2 := (hS.rp.on HO1.out hsub hrb).below hb
    have hP2 := HP1.out.below hb
    have hN2 := Nd.below HN1.out hb
    have hM2 := Nd.below hM1 hb
    have hbb : ∀ g, (Value.slice B2 (r ++ outS p.v ws ex).length cb2).ownBlock = some g → g ≠ x.rg ∧ g ≠ x.rb := fun g hg => by
      rcases hW g hg with h | h
      · have := hap.w g h
        exact ⟨this.2.2.2.2.2.1, this.2.2.2.1⟩
      · exact ⟨by omega, by omega⟩
    refine (refStep_run F x.rb cl inc 0 Q p.v A0 c0 ex B0 cB0 r 0 t x.rn x.rg 320 x.cr ws 40 wx ⟨hR2⟩ ⟨fun g hg hF => by have := hfb1 g hF; omega⟩ ⟨hM2⟩ ⟨hS.ff.2.1, hS.ff.2.2⟩ (by rw [hlen]; omega) rfl (by omega) hI.cl.1 hI.cl.2 ⟨hok⟩ hk hlt hmM).mono ?_
    rintro e2 w2 ⟨HM3, HO3, HR3⟩
    rcases HR3 with ⟨h2, _⟩ | ⟨_, Q2, B3, c3, rfl, HR3, HL3⟩
    · omega
    · refine ⟨B3, c3, 0, true, rfl, ⟨lies_only (HL1.out.1.on_ hb) HO3.out (fun ad e hh => ?_)⟩, HL3, ⟨F, ⟨V2, q, 0, none, 0, [], Q2, t, wsS p.v ws ex, true, ⟨⟨?_, ?_, HR3.out, HM3.out, hS.ff, (fun g hg => by cases hg), hS.gg, fun k hk => Nat.lt_of_lt_of_le (hfb1 k hk) HO3.out.size⟩, ht, fun p' hp' => hI.ok p' (List.mem_cons_of_mem _ hp'), fun p' t' hq => ?_, by simp, hI.cl⟩, by omega⟩, fun k hk => .inl hk, ?_⟩, HO3⟩
      · exact hh.elim (fun e' => (hbb ad.block (by rw [e]; rfl)).2 e') (fun e' => (hbb ad.block (by rw [e]; rfl)).1 e')
      · exact hP2.on HO3.out (fun hh => hh.elim (fun e => hap.a.2.2.1 e) (fun e => hap.a.2.2.2.2 e)) (fun g hg hh => by rw [HV1.out] at hg; exact hh.elim (fun e => (hap.v g hg).2.2.2.1 e) (fun e => (hap.v g hg).2.2.2.2.2.1 e)) (fun g hg => by cases hg) (fun k hk => hk.elim (fun e => by rw [e]; exact hap.f.2.2.2.1) (fun e => by rw [e]; exact hap.f.2.2.2.2.2))
      · exact hN2.on HO3.out (fun hh => hh.elim (fun e => hap.b.2.1 e) (fun e => hap.b.2.2.2 e)) (fun hh => hh.elim (fun e => hap.c.1 e) (fun e => hap.c.2.2 e))
      · unfold nP numP
        omega
      · exact (HO1.out.mono hsub).trans ((Only.of_below hb).trans (HO3.out.mono (fun k hk => hk.elim (fun e => by rw [e]; exact hap.f.2.2.2.1) (fun e => by rw [e]; exact hap.f.2.2.2.2.2))))
theorem step_both (h : Lk (Iv F w x cl inc V q ex B cb r Q qe ws up)) (hm : q.length ≤ m) (hm2 : m < 1024) :
    Calls Try.prog 20 #[.pointer (some ⟨x.bp, 0, none⟩), .pointer (some ⟨x.bn, 0, none⟩)] w fun e w1 => ∃ (k : Int) (A : Option Addr) (c : Nat) (out : List Nat) (dn : Bool), e = .returned (.tuple #[.agg #[.int .i64 k, .slice A out.length c], .bool dn]) ∧ Lk (out.length ≤ 4294967296) ∧ Lk (Only F w w1) ∧ Lk (Lies .u64 w1 w1.heap.size A out) ∧ Lk (Rf F w x cl inc m k A out dn w1) := by
  match q, hm, h with
  | [], _, h => exact step_nil F x cl inc m V ex B cb r Q qe ws up w h
  | p :: q, hm, h =>
    rw [List.length_cons] at hm
    by_cases hk : codeV cl inc 40 ws up p.v = 0
    · have hu := (codeV_ok hk).1
      subst hu
      exact step_goes F x cl inc m V q ex B cb r Q qe ws w p h hm hm2 hk
    · exact step_gone F x cl inc m V q ex B cb r Q qe ws up w p h (by omega) hm2 hk
end
end Go.Proofs.Ytacfmkmiikkppaa.Tx
namespace Go.Proofs.Ytacfmkmiikkppaa.Qh
open Go.ChangeShapes Go.WideShapes Go.ChangeAt Go.RowKit Ga Gb Va
set_option linter.unusedVariables false
set_option linter.unusedSimpArgs false
set_option maxHeartbeats 4000000
set_option maxRecDepth 100000
theorem sameDone_any (k1 : Int) (A1 : Option Addr) (l1 c1 : Nat) (s1 : List Nat) (k2 : Int) (A2 : Option Addr) (l2 c2 : Nat) (s2 : List Nat) (w : World) (h1 : s1.length = l1) (h2 : s2.length = l2) (H1 : Lk (Lies .u64 w w.heap.size A1 s1)) (H2 : Lk (Lies .u64 w w.heap.size A2 s2)) (hm : l1 ≤ 4294967296) (hm2 : l2 ≤ 4294967296) :
    Calls Try.prog 37 #[.agg #[.int .i64 k1, .slice A1 l1 c1], .agg #[.int .i64 k2, .slice A2 l2 c2]] w fun e w' => e = .returned (.bool (decide (k1 = k2 ∧ s1 = s2))) ∧ Lk (Below w.heap.size w w') := by
  have HC := Lk.mk (fun (wb : World) (hb : Lk (Below w.heap.size w wb)) => Vs.same_any A1 A2 l1 c1 l2 c2 s1 s2 wb h1 h2 ⟨H1.out.on_ hb.out⟩ ⟨H2.out.on_ hb.out⟩ hm hm2)
  clear H1 H2 h1 h2 hm hm2
  go_enter Try.func37, Try.ntmps37
  go_upto_region 1 with fail
  have hB := ((Below.refl _ w).alloc (Nat.le_refl _) (.cells #[.int .i64 k1, .slice A1 l1 c1] 54)).alloc (by simp) (.cells #[.int .i64 k2, .slice A2 l2 c2] 54)
  have x0 := (cell_of_row _ w.heap.size 0 _ _ _ ((Below.heap_alloc (w.alloc (.cells #[.int .i64 k1, .slice A1 l1 c1] 54)) (.cells #[.int .i64 k2, .slice A2 l2 c2] 54) w.heap.size (by simp)).trans (heap_alloc_new w (.cells #[.int .i64 k1, .slice A1 l1 c1] 54)))).trans rfl
  have x1 := (cell_of_row _ w.heap.size 1 _ _ _ ((Below.heap_alloc (w.alloc (.cells #[.int .i64 k1, .slice A1 l1 c1] 54)) (.cells #[.int .i64 k2, .slice A2 l2 c2] 54) w.heap.size (by simp)).trans (heap_alloc_new w (.cells #[.int .i64 k1, .slice A1 l1 c1] 54)))).trans rfl
  have y0 := (cell_of_row _ _ 0 _ _ _ (heap_alloc_new (w.alloc (.cells #[.int .i64 k1, .slice A1 l1 c1] 54)) (.cells #[.int .i64 k2, .slice A2 l2 c2] 54))).trans rfl
  have y1 := (cell_of_row _ _ 1 _ _ _ (heap_alloc_new (w.alloc (.cells #[.int .i64 k1, .slice A1 l1 c1] 54)) (.cells #[.int .i64 k2, .slice A2 l2 c2] 54))).trans rfl
  rw [World.size_alloc] at y0 y1
  have HB := Lk.mk hB
  clear hB
  generalize (w.alloc _).alloc _ = W at *
  by_cases hk : k1 = k2
  · subst hk
    go_wp2_with (first | (go_at_call 22; refine (HC.out _ HB).mono ?_; rintro e w' ⟨rfl, HB2⟩))
    go_ret
    exact ⟨ret_bool (by simp), ⟨HB.out.trans (HB2.out.mono HB.out.size)⟩⟩
  · have hb : (k1 == k2) = false := by simpa using hk
    go_wp2
    go_ret
    exact ⟨ret_bool (by simp [hk]), HB⟩
end Go.Proofs.Ytacfmkmiikkppaa.Qh
namespace Go.Proofs.Ytacfmkmiikkppaa.Da
open Go.ChangeShapes Go.WideShapes Go.ChangeAt Go.RowKit Ga Gb Na Nb Nc Nd_ Nf Va Vb Vd Ve Vf Vg Qa Qb Qc Qd Qe Qf Qg Qh Qj Qk Ta Tb Tc Td Te Tf Tg Th Ti Tk To Tp Tq Tt Tu Tv Tw Tx
set_option linter.unusedVariables false
set_option linter.unusedSimpArgs false
set_option maxHeartbeats 1000000
set_option maxRecDepth 100000

section
variable {F S : Nat → Prop} {w w' W W' : World} {x : Plc} {cl inc m g : Nat} {kd rk ra rn ry rb at_ : Int} {ro re wd : Nat}
theorem same_okk (h : Lk (Okk F w x cl inc m)) : Calls Try.prog 41 #[pairV x] w fun e w' => e = .returned (.bool true) ∧ Lk (Below w.heap.size w w') := by
  obtain ⟨V, q, ex, B, cb, r, Q, qe, ws, up, hI, hm⟩ := h.out
  match q, hI with
  | [], hI =>
    obtain ⟨h1, h2, h3⟩ := hI.mq
    subst h1 h2 h3
    exact same_none F x cl inc V B cb Q ws up w ⟨hI.st⟩
  | p :: q, hI =>
    obtain ⟨A, c, B0, cB, t, rfl, ht⟩ := hI.mq
    exact same_some F x cl inc V B cb Q ws up w p q ex r A c B0 cB t ht.len ⟨hI.st⟩
theorem Okk.fb (h : Okk F w x cl inc m) : ∀ k, F k → k < w.heap.size := by
  obtain ⟨V, q, ex, B, cb, r, Q, qe, ws, up, hI, hm⟩ := h
  exact hI.st.fb
theorem Okk.more {n : Nat} (h : Okk F w x cl inc m) (hn : m ≤ n) : Okk F w x cl inc n := by
  obtain ⟨V, q, ex, B, cb, r, Q, qe, ws, up, hI, hm⟩ := h
  exact ⟨V, q, ex, B, cb, r, Q, qe, ws, up, hI, by omega⟩
theorem Nx.more {n : Nat} (h : Nx F w x cl inc m w') (hn : m ≤ n) : Nx F w x cl inc n w' := by
  obtain ⟨F', h1, h2, h3⟩ := h
  exact ⟨F', Okk.more h1 hn, h2, h3⟩
theorem Nx.only (h : Nx F w x cl inc m w') : Only F w w' := by
  obtain ⟨F', h1, h2, h3⟩ := h
  exact h3
theorem Okk.nx (h : Okk F w x cl inc m) (hb : Below w.heap.size w w') : Nx F w x cl inc m w' := ⟨F, Okk.below h hb, fun k hk => .inl hk, Only.of_below hb⟩
/-- The box of the four pointers at g, the box of the operation behind it. -/
structure Bx2 (W : World) (g : Nat) (x : Plc) (kd rk ra rn ry rb at_ : Int) (ro re wd : Nat) : Prop where
  za : W.heap[g]? = some (.cells #[.pointer (some ⟨x.bp, 0, none⟩), .pointer (some ⟨x.bn, 0, none⟩), .pointer (some ⟨x.rb, 0, none⟩), .pointer (some ⟨x.rn, 0, none⟩)] 28 (0, 0))
  zb : W.heap[g + 1]? = some (.cells #[.int .i64 kd, .int .i64 rk, .int .i64 ra, .int .i64 rn, .int .i64 ry, .int .i64 rb, .int .u64 (ro : Int), .int .u64 (re : Int), .int .i64 at_, .int .u64 (wd : Int)] 37 (0, 0))
theorem Bx2.on (h : Bx2 W g x kd rk ra rn ry rb at_ ro re wd) (ho : Only S W W') (h1 : ¬ S g) (h2 : ¬ S (g + 1)) : Bx2 W' g x kd rk ra rn ry rb at_ ro re wd :=
  ⟨(ho.block _ (Array.getElem?_eq_some_iff.1 h.za).1 h1).trans h.za, (ho.block _ (Array.getElem?_eq_some_iff.1 h.zb).1 h2).trans h.zb⟩
theorem Bx2.below (h : Bx2 W g x kd rk ra rn ry rb at_ ro re wd) (hb : Below W.heap.size W W') : Bx2 W' g x kd rk ra rn ry rb at_ ro re wd := h.on (S := fun _ => False) (Only.of_below hb) (fun h => h) (fun h => h)
theorem Bx2.p (h : Bx2 W g x kd rk ra rn ry rb at_ ro re wd) : W.cell? ⟨g, 0, none⟩ = some (.pointer (some ⟨x.bp, 0, none⟩)) ∧ W.cell? ⟨g, 1, none⟩ = some (.pointer (some ⟨x.bn, 0, none⟩)) ∧ W.cell? ⟨g, 2, none⟩ = some (.pointer (some ⟨x.rb, 0, none⟩)) ∧ W.cell? ⟨g, 3, none⟩ = some (.pointer (some ⟨x.rn, 0, none⟩)) :=
  ⟨(cell_of_row W g 0 _ _ _ h.za).trans rfl, (cell_of_row W g 1 _ _ _ h.za).trans rfl, (cell_of_row W g 2 _ _ _ h.za).trans rfl, (cell_of_row W g 3 _ _ _ h.za).trans rfl⟩
theorem Bx2.o (h : Bx2 W g x kd rk ra rn ry rb at_ ro re wd) : W.cell? ⟨g + 1, 0, none⟩ = some (.int .i64 kd) ∧ W.cell? ⟨g + 1, 1, none⟩ = some (.int .i64 rk) ∧ W.cell? ⟨g + 1, 2, none⟩ = some (.int .i64 ra) ∧ W.cell? ⟨g + 1, 3, none⟩ = some (.int .i64 rn) ∧ W.cell? ⟨g + 1, 4, none⟩ = some (.int .i64 ry) ∧ W.cell? ⟨g + 1, 5, none⟩ = some (.int .i64 rb) ∧ W.cell? ⟨g + 1, 6, none⟩ = some (.int .u64 (ro : Int)) ∧ W.cell? ⟨g + 1, 7, none⟩ = some (.int .u64 (re : Int)) ∧ W.cell? ⟨g + 1, 8, none⟩ = some (.int .i64 at_) ∧ W.cell? ⟨g + 1, 9, none⟩ = some (.int .u64 (wd : Int)) :=
  ⟨(cell_of_row W (g + 1) 0 _ _ _ h.zb).trans rfl, (cell_of_row W (g + 1) 1 _ _ _ h.zb).trans rfl, (cell_of_row W (g + 1) 2 _ _ _ h.zb).trans rfl, (cell_of_row W (g + 1) 3 _ _ _ h.zb).trans rfl, (cell_of_row W (g + 1) 4 _ _ _ h.zb).trans rfl, (cell_of_row W (g + 1) 5 _ _ _ h.zb).trans rfl, (cell_of_row W (g + 1) 6 _ _ _ h.zb).trans rfl, (cell_of_row W (g + 1) 7 _ _ _ h.zb).trans rfl, (cell_of_row W (g + 1) 8 _ _ _ h.zb).trans rfl, (cell_of_row W (g + 1) 9 _ _ _ h.zb).trans rfl⟩
theorem Bx2.made (w : World) : Bx2 ((w.alloc (.cells #[.pointer (some ⟨x.bp, 0, none⟩), .pointer (some ⟨x.bn, 0, none⟩), .pointer (some ⟨x.rb, 0, none⟩), .pointer (some ⟨x.rn, 0, none⟩)] 28)).alloc (.cells #[.int .i64 kd, .int .i64 rk, .int .i64 ra, .int .i64 rn, .int .i64 ry, .int .i64 rb, .int .u64 (ro : Int), .int .u64 (re : Int), .int .i64 at_, .int .u64 (wd : Int)] 37)) w.heap.size x kd rk ra rn ry rb at_ ro re wd ∧ Below w.heap.size w ((w.alloc (.cells #[.pointer (some ⟨x.bp, 0, none⟩), .pointer (some ⟨x.bn, 0, none⟩), .pointer (some ⟨x.rb, 0, none⟩), .pointer (some ⟨x.rn, 0, none⟩)] 28)).alloc (.cells #[.int .i64 kd, .int .i64 rk, .int .i64 ra, .int .i64 rn, .int .i64 ry, .int .i64 rb, .int .u64 (ro : Int), .int .u64 (re : Int), .int .i64 at_, .int .u64 (wd : Int)] 37)) ∧ ((w.alloc (.cells #[.pointer (some ⟨x.bp, 0, none⟩), .pointer (some ⟨x.bn, 0, none⟩), .pointer (some ⟨x.rb, 0, none⟩), .pointer (some ⟨x.rn, 0, none⟩)] 28)).alloc (.cells #[.int .i64 kd, .int .i64 rk, .int .i64 ra, .int .i64 rn, .int .i64 ry, .int .i64 rb, .int .u64 (ro : Int), .int .u64 (re : Int), .int .i64 at_, .int .u64 (wd : Int)] 37)).heap.size = w.heap.size + 2 := by
  have hs : (w.alloc (.cells #[.pointer (some ⟨x.bp, 0, none⟩), .pointer (some ⟨x.bn, 0, none⟩), .pointer (some ⟨x.rb, 0, none⟩), .pointer (some ⟨x.rn, 0, none⟩)] 28)).heap.size = w.heap.size + 1 := by simp
  refine ⟨⟨(Below.heap_alloc _ _ _ (by omega)).trans (heap_alloc_new w _), ?_⟩, ((Below.refl _ w).alloc (Nat.le_refl _) _).alloc (by omega) _, by simp⟩
  rw [← hs]
  exact heap_alloc_new _ _
end
end Go.Proofs.Ytacfmkmiikkppaa.Da

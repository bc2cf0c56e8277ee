/-
  The reference's Step where a piece is executed.
-/
import Derived.Test.YtacfmkmiikkppaaTp
namespace Go.Proofs.Ytacfmkmiikkppaa.Tq
open Go.ChangeShapes Go.WideShapes Go.ChangeAt Go.RowKit Ga Gb Na Nb Nc Nd_ Nf Va Vb Vc Vd Vf Vg Vh Qa Qb Qc Qd Qi Qj Ta Tc Te Tf Tg Th Ti To Tp
set_option linter.unusedVariables false
set_option linter.unusedSimpArgs false
set_option maxHeartbeats 4000000
set_option maxRecDepth 100000
theorem ng_facts {F : Nat → Prop} {W w4 : World} {pb b nb ng n cap : Nat} {cl inc nd : Int} {Q : Value} {v : Mv} {A : Option Addr} {cA ex : Nat} {B : Option Addr} {cB : Nat} {r : List Nat} {slot : Int} {q : List Pe} {ws : List Nat}
    (HR : Lk (RP F W b cl inc nd Q (mkE v A cA ex B cB r slot :: q))) (HK : Lk (Box W pb (mkE v A cA ex B cB r slot))) (HN : Lk (RN W nb ng n cap ws true)) (HF : Lk (F ng)) (HO : Lk (Only (fun k => k = ng) W w4)) :
    Lk (From w4 B 1 r.length (r.map u64v)) ∧ Lk (Box w4 pb (mkE v A cA ex B cB r slot)) := by
  have hng : ng ≠ pb := by obtain ⟨cur, hc⟩ := Row.typed HN.out.row; exact ne_typed hc HK.out (by decide)
  have hw := HR.out.wd _ (List.mem_cons_self ..)
  refine ⟨⟨From.words (B := w4.heap.size) (LiesF.lies (hw.b.on HO.out (fun k hk => by subst hk; exact HF.out)))⟩, ⟨(HO.out.block pb (Array.getElem?_eq_some_iff.1 HK.out).1 (fun e => hng e.symm)).trans HK.out⟩⟩
theorem only_two {S S' : Nat → Prop} {w w1 w2 : World} (h : Only S w w1) (h2 : Only S' w1 w2) (hs : ∀ k, S' k → S k ∨ w.heap.size ≤ k) : Only S w w2 :=
  ⟨h2.os.trans h.os, h2.tape.trans h.tape, h2.output.trans h.output, Nat.le_trans h.size h2.size, fun k hk hn => (h2.block k (Nat.lt_of_lt_of_le hk h.size) (fun hh => (hs k hh).elim hn (fun h => by omega))).trans (h.block k hk hn)⟩
theorem first_set {w : World} {base m : Nat} {V : Value} {e : TypeId} (u : List Value) : ∀ (j : Nat) (xs : List Value), w.ownsRow base e 12 V m xs → True := fun _ _ _ => trivial
/-- The box of the pending verb, read cell by cell behind an append. -/
theorem a_first {W w6 : World} {pb : Nat} {v : Mv} {A : Option Addr} {cA ex : Nat} {B : Option Addr} {cB : Nat} {r : List Nat} {slot : Int} (HK : Lk (Box W pb (mkE v A cA ex B cB r slot))) (hB : Lk (Below W.drew.heap.size W.drew w6)) :
    w6.cell? ⟨pb, 0, none⟩ = some (.int .i64 v.k) ∧ w6.cell? ⟨pb, 1, none⟩ = some (.int .i64 v.nd) ∧ w6.cell? ⟨pb, 2, none⟩ = some (.int .i64 v.a) ∧ w6.cell? ⟨pb, 3, none⟩ = some (.int .i64 v.n) ∧ w6.cell? ⟨pb, 4, none⟩ = some (.int .u64 (v.o : Int)) ∧ w6.cell? ⟨pb, 5, none⟩ = some (.int .u64 (v.ne : Int)) ∧ w6.cell? ⟨pb, 6, none⟩ = some (.slice A v.s.length cA) ∧ w6.cell? ⟨pb, 7, none⟩ = some (.int .u64 v.ky) ∧ w6.cell? ⟨pb, 8, none⟩ = some (.int .i64 v.bo) ∧ w6.cell? ⟨pb, 9, none⟩ = some (.int .i64 (ex : Int)) := by
  have hk : Box w6 pb (mkE v A cA ex B cB r slot) := (hB.out.block pb (Array.getElem?_eq_some_iff.1 HK.out).1).trans HK.out
  exact ⟨Box.c hk 0 _ rfl, Box.c hk 1 _ rfl, Box.c hk 2 _ rfl, Box.c hk 3 _ rfl, Box.c hk 4 _ rfl, Box.c hk 5 _ rfl, Box.c hk 6 _ rfl, Box.c hk 7 _ rfl, Box.c hk 8 _ rfl, Box.c hk 9 _ rfl⟩
/-- The words appended so far, those that the piece has read, the node: at the second append. -/
structure Tt (W wx : World) (pb nb ng n cap : Nat) (v : Mv) (A : Option Addr) (cA ex : Nat) (B : Option Addr) (cB : Nat) (slot : Int) (r out ws2 : List Nat) (v6 : Value) (A2 : Option Addr) : Prop where
  own : wx.ownsRow W.heap.size 33 1 v6 (0 + r.length) ([] ++ r.map u64v)
  from_ : From wx A2 1 out.length (out.map u64v)
  only : Only (fun k => k = ng) W wx
  rn : RN wx nb ng n cap ws2 true
  box : Box wx pb (mkE v A cA ex B cB r slot)
theorem t_first {W w4 w6 : World} {pb nb ng n cap : Nat} {v : Mv} {A : Option Addr} {cA ex : Nat} {B : Option Addr} {cB : Nat} {slot : Int} {r out ws2 : List Nat} {v6 : Value} {A2 : Option Addr}
    (HK : Lk (Box W pb (mkE v A cA ex B cB r slot))) (HNe : Lk (ng < W.heap.size ∧ ng ≠ pb)) (HO6 : Lk (w6.ownsRow W.heap.size 33 1 v6 (0 + r.length) ([] ++ r.map u64v))) (HB6 : Lk (Below W.drew.heap.size W.drew w6)) (HO : Lk (Only (fun k => k = ng) w6 w4)) (HN : Lk (RN w4 nb ng n cap ws2 true)) (HL : Lk (Lies .u64 w4 w4.heap.size A2 out)) : Tt W w4 pb nb ng n cap v A cA ex B cB slot r out ws2 v6 A2 := by
  have hB : Below W.heap.size W w6 := (Below.refl _ W).drew.trans HB6.out
  have hl := (Array.getElem?_eq_some_iff.1 HK.out).1
  exact ⟨owns_block HO6.out (fun g hg => HO.out.block g (HO6.out.lt g hg).2 (fun e => by have := (HO6.out.lt g hg).1; have := HNe.out.1; omega)), From.words HL.out, (Only.of_below hB).trans HO.out, HN.out, (HO.out.block pb (Nat.lt_of_lt_of_le hl hB.size) (fun e => HNe.out.2 e.symm)).trans ((hB.block pb hl).trans HK.out)⟩
theorem t_second {W w4 w6 : World} {pb nb ng n cap : Nat} {v : Mv} {A : Option Addr} {cA ex : Nat} {B : Option Addr} {cB : Nat} {slot : Int} {r out ws2 : List Nat} {v6 : Value} {A2 : Option Addr}
    (HO : Lk (Only (fun k => k = ng) W.drew w4)) (HN : Lk (RN w4 nb ng n cap ws2 true)) (HL : Lk (Lies .u64 w4 w4.heap.size A2 out)) (HK : Lk (Box w4 pb (mkE v A cA ex B cB r slot))) (hown : w6.ownsRow W.heap.size 33 1 v6 (0 + r.length) ([] ++ r.map u64v)) (hg : w4.grownBy w6 (Value.slice none 0 0).ownBlock) : Tt W w6 pb nb ng n cap v A cA ex B cB slot r out ws2 v6 A2 := by
  have hB : Below w4.heap.size w4 w6 := below_none hg
  have hO : Only (fun k => k = ng) W w4 := ⟨HO.out.os, HO.out.tape, HO.out.output, HO.out.size, HO.out.block⟩
  exact ⟨hown, From.words (HL.out.on_ hB), hO.trans (Only.of_below hB), Nd.below HN.out hB, (hB.block pb (Array.getElem?_eq_some_iff.1 HK.out).1).trans HK.out⟩
theorem t_end {W wx w7 : World} {pb nb ng n cap : Nat} {v : Mv} {A : Option Addr} {cA ex : Nat} {B : Option Addr} {cB : Nat} {slot : Int} {r out ws2 : List Nat} {v6 v7 : Value} {A2 : Option Addr}
    (HT : Lk (Tt W wx pb nb ng n cap v A cA ex B cB slot r out ws2 v6 A2)) (hown : w7.ownsRow W.heap.size 33 1 v7 (0 + r.length + out.length) (([] ++ r.map u64v) ++ out.map u64v)) (hg : wx.grownBy w7 v6.ownBlock) (hpb : Lk (pb < W.heap.size ∧ ng < W.heap.size ∧ nb < W.heap.size)) :
    w7.cell? ⟨pb, 10, none⟩ = some (.slice B r.length cB) ∧ w7.frozen? ⟨pb, 10, none⟩ = false ∧ Lk (RN w7 nb ng n cap ws2 true) ∧ Lk (Only (fun k => k = ng) W w7) ∧ Lk (w7.ownsRow W.heap.size 33 1 v7 (r.length + out.length) ((r ++ out).map u64v)) := by
  have hT := HT.out
  have hne : ∀ k, k < W.heap.size → some k ≠ v6.ownBlock := fun k hk e => by have := (hT.own.lt k e.symm).1; omega
  have hz : Box w7 pb (mkE v A cA ex B cB r slot) := (hg.block pb (Array.getElem?_eq_some_iff.1 hT.box).1 (hne pb hpb.out.1)).trans hT.box
  refine ⟨Box.c hz 10 _ rfl, frozen_of_row w7 pb 10 _ _ hz, ⟨Nd.keep hT.rn (hg.block nb hT.rn.size (hne nb hpb.out.2.2)) (hg.block ng hT.rn.row.size (hne ng hpb.out.2.1))⟩, ⟨hT.only.grown hg (fun k hk => .inr (hT.own.lt k hk).1)⟩, ⟨?_⟩⟩
  have := hown
  rw [Nat.zero_add, List.nil_append, ← List.map_append] at this
  exact this
section
variable (F : Nat → Prop) (b : Nat) (cl inc : Nat) (nd : Int) (Q : Value) (v : Mv) (A : Option Addr) (cA ex : Nat) (B : Option Addr) (cB : Nat) (r : List Nat) (slot : Int) (q : List Pe) (nb ng n cap : Nat) (ws : List Nat) (L : Nat) (w : World)
/-- What a Step of the reference that executes a piece returns and leaves. -/
def RRan (F : Nat → Prop) (b : Nat) (cl inc : Nat) (nd : Int) (v : Mv) (A : Option Addr) (cA ex : Nat) (r : List Nat) (slot : Int) (q : List Pe) (nb ng n cap : Nat) (ws : List Nat) (w : World) (e : Ending) (w' : World) : Prop :=
  Lk (RN w' nb ng n cap (wsS v ws ex) true) ∧ Lk (Only (fun k => k = b ∨ k = ng) w w') ∧
  ((ex + 1 < nP v ∧ ∃ (Q2 : Value) (B2 : Option Addr) (c2 : Nat), e = .returned (.tuple #[.agg #[.int .i64 0, .slice none 0 0], .int .i64 (-1), .bool false, .bool true]) ∧ Lk (RP F w' b cl inc nd Q2 (mkE v A cA (ex + 1) B2 c2 (r ++ outS v ws ex) slot :: q))) ∨
   (ex + 1 = nP v ∧ ∃ (Q2 : Value) (B2 : Option Addr) (c2 : Nat), e = .returned (.tuple #[.agg #[.int .i64 0, .slice B2 (r ++ outS v ws ex).length c2], .int .i64 slot, .bool true, .bool true]) ∧ Lk (RP F w' b cl inc nd Q2 q) ∧ Lk (Lies .u64 w' w'.heap.size B2 (r ++ outS v ws ex))))
theorem refStep_run (HR : Lk (RP F w b cl inc nd Q (mkE v A cA ex B cB r slot :: q))) (hF : Lk (∀ g, w.heap.size ≤ g → ¬ F g)) (HN : Lk (RN w nb ng n cap ws true)) (HFn : Lk (F nb ∧ F ng)) (hq : q.length < 1024) (hL : n = 8 * L) (hL1 : 1 ≤ L ∧ L ≤ 256) (hcl : cl ≤ 5) (hinc : inc ≤ 59) (hok : Lk (OkV v)) (hk : codeV cl inc L ws true v = 0) (hx : ex < nP v) (hrl : r.length + mM v ex ≤ 4294967296) :
    Calls Try.prog 36 #[.pointer (some ⟨b, 0, none⟩), .pointer (some ⟨nb, 0, none⟩)] w fun e w' => RRan F b cl inc nd v A cA ex r slot q nb ng n cap ws w e w' := by
  have hbo := hok.out.bo
  have hpos := hok.out.pos
  have hpc := hok.out.piece hx
  have hcn : cnt v.k v.n v.s.length ≤ 9223372036854775807 := by
    have : cnt v.k v.n v.s.length = cM v := hpos.2.1
    omega
  have CV := Lk.mk (fun W => validR_ok v.k v.nd v.a v.n v.o v.ne A v.s.length cA v.ky v.bo W 5 L hcn)
  have hv : validC v.k v.nd v.a (cnt v.k v.n v.s.length) 5 L = 0 := (codeV_ok hk).2
  rw [hv] at CV
  have HVv := Lk.mk hv
  have HRR : Lk (codeM cl inc v.k v.nd v.a (cnt v.k v.n v.s.length) v.ky v.bo L ws true = (0 : Int)) := ⟨hk⟩
  have hin : aM v + cM v ≤ n := by
    have := valid_pos (codeV_ok hk).2
    rw [hpos.1, hpos.2.1] at this
    omega
  have HPc : Lk (∀ W, Calls Try.prog 23 #[(Value.agg #[Value.int IntKind.i64 v.k, Value.int IntKind.i64 v.nd, Value.int IntKind.i64 v.a, Value.int IntKind.i64 v.n, Value.int IntKind.u64 ((v.o : Int)), Value.int IntKind.u64 ((v.ne : Int)), Value.slice A v.s.length cA, Value.int IntKind.u64 v.ky, Value.int IntKind.i64 v.bo])] W fun e w' => ∃ vl, e = .returned vl ∧ Lk (w'.ownsRow W.heap.size 64 2 vl (nP v) (flat (Vf.pcs (aM v) (aM v + cM v) (nP v)))) ∧ Lk (Below W.heap.size W w')) := ⟨fun W => by
    have := PiecesR_ok v.k v.nd v.n v.o v.ne (aM v) (cM v) A v.s.length cA v.ky v.bo W hpos.2.1 hpos.2.2.1 hpos.2.2.2.1
    rw [← hpos.1] at this
    exact this⟩
  have hwd := HR.out.wd _ (List.mem_cons_self ..)
  have HXe : Lk (∀ W, Below w.heap.size w W → Calls Try.prog 69 #[.pointer (some ⟨nb, 0, none⟩), (Value.agg #[Value.int IntKind.i64 v.k, Value.int IntKind.i64 v.nd, Value.int IntKind.i64 v.a, Value.int IntKind.i64 v.n, Value.int IntKind.u64 ((v.o : Int)), Value.int IntKind.u64 ((v.ne : Int)), Value.slice A v.s.length cA, Value.int IntKind.u64 v.ky, Value.int IntKind.i64 v.bo]), .agg #[.int .i64 (atM v ex : Nat), .int .i64 (mM v ex : Nat)]] W fun e w' =>
      ∃ (A2 : Option Addr) (c2 : Nat), e = .returned (.slice A2 (outS v ws ex).length c2) ∧ Lk (Lies .u64 w' w'.heap.size A2 (outS v ws ex)) ∧ Lk (RN w' nb ng n cap (wsS v ws ex) true) ∧ Lk (Only (fun k => k = ng) W w')) := ⟨fun W hb => by
    have := rexec_any nb ng n cap ws v.nd v.n (aM v) v.o v.ne A cA v.ky v.bo v.s (atM v ex) (mM v ex) W v.k hpos.2.2.2.2 ⟨Nd.below HN.out hb⟩ (by omega) hpc.2.1 (by omega) hpc.2.2.2.1 hpc.2.2.2.2 ⟨hok.out.s⟩ ⟨(LiesF.lies hwd.a).on_ hb⟩ ⟨fun ad hp e => by
      obtain ⟨ad', e', hf, _⟩ := hwd.a hp
      have e2 : some ad = some ad' := e.symm.trans e'
      injection e2 with e2
      subst e2
      intro e3
      exact hf (e3 ▸ HFn.out.2)⟩ hok.out.o hok.out.ne
    rw [← hpos.1] at this
    exact this⟩
  have hol : (outS v ws ex).length ≤ mM v ex := by
    unfold outS outM
    split
    · simp
    · rw [List.length_take]; omega
  have hxl : ex < (Vf.pcs (aM v) (aM v + cM v) (nP v)).length := by rw [Vf.pcs_len]; exact hx
  have HPx := Lk.mk (show (flat (Vf.pcs (aM v) (aM v + cM v) (nP v)))[ex * 2]? = some (.int .i64 (atM v ex : Nat)) ∧ (flat (Vf.pcs (aM v) (aM v + cM v) (nP v)))[ex * 2 + 1]? = some (.int .i64 (mM v ex : Nat)) by
    have hc := flat_at2 _ ex hxl
    have he : (Vf.pcs (aM v) (aM v + cM v) (nP v))[ex]'hxl = (atM v ex, mM v ex) := by simp [Vf.pcs, atM, mM]
    rw [he] at hc
    exact hc)
  unfold RRan
  generalize flat (Vf.pcs (aM v) (aM v + cM v) (nP v)) = fl at *
  have hquo : IntKind.i64.wrap ((n : Int) / 8) = (L : Int) := by
    rw [IntWalk.i64_in _ (by omega)]
    omega
  have HQuo := Lk.mk hquo
  have hnL : n ≤ 2048 := by omega
  have HL := Lk.mk hL
  clear hv hxl hk hpc hpos hin hwd hquo hL
  obtain ⟨ip, hpi, hp0, hp1, hp2⟩ := info_parts Qd.pinfo
  have HFb := Lk.mk HR.out.f
  have HR := Lk.mk (RP.more_ HR.out (Nat.le_refl w.heap.size))
  go_enter Try.func36, Try.ntmps36
  go_upto_region 1 with fail
  have hB0 := (Below.refl _ w).alloc (Nat.le_refl _) (.cells #[.int .i64 0, .slice none 0 0] 54)
  have HR0 := Lk.mk (HR.out.below hB0)
  have HN0 := Lk.mk (Nd.below HN.out hB0)
  have HB0 := Lk.mk hB0
  have HZ0 := Lk.mk (heap_alloc_new w (.cells #[.int .i64 0, .slice none 0 0] 54))
  clear hB0
  generalize w.alloc _ = W0 at *
  obtain ⟨g, c, hQ, hc1, hc2, hcell⟩ := first_of HR0.out
  subst hQ
  have HTl := fun w => tail_pend g (q.length + 1) c w (by omega) hc1 hc2
  simp only [Nat.add_sub_cancel] at HTl
  have HFt := Lk.mk (From.tail (From.own (by simpa using HR0.out.own)) hc1)
  obtain ⟨x0, x1, x2, x3, x4, x5, x6, x7, x8, x9, x10, x11⟩ : W0.cell? ⟨g, 0, none⟩ = some (.int .i64 v.k) ∧ W0.cell? ⟨g, 1, none⟩ = some (.int .i64 v.nd) ∧ W0.cell? ⟨g, 2, none⟩ = some (.int .i64 v.a) ∧ W0.cell? ⟨g, 3, none⟩ = some (.int .i64 v.n) ∧ W0.cell? ⟨g, 4, none⟩ = some (.int .u64 (v.o : Int)) ∧ W0.cell? ⟨g, 5, none⟩ = some (.int .u64 (v.ne : Int)) ∧ W0.cell? ⟨g, 6, none⟩ = some (.slice A v.s.length cA) ∧ W0.cell? ⟨g, 7, none⟩ = some (.int .u64 v.ky) ∧ W0.cell? ⟨g, 8, none⟩ = some (.int .i64 v.bo) ∧ W0.cell? ⟨g, 9, none⟩ = some (.int .i64 (ex : Int)) ∧ W0.cell? ⟨g, 10, none⟩ = some (.slice B r.length cB) ∧ W0.cell? ⟨g, 11, none⟩ = some (.int .i64 slot) :=
    ⟨hcell 0 _ rfl, hcell 1 _ rfl, hcell 2 _ rfl, hcell 3 _ rfl, hcell 4 _ rfl, hcell 5 _ rfl, hcell 6 _ rfl, hcell 7 _ rfl, hcell 8 _ rfl, hcell 9 _ rfl, hcell 10 _ rfl, hcell 11 _ rfl⟩
  have p3 := HR0.out.c3
  have nu := HN0.out.c1
  clear hcell
  go_upto_region 6 with fail
  clear x0 x1 x2 x3 x4 x5 x6 x7 x8 x9 x10 x11 p3 nu
  have hB1 := (Below.refl _ W0).alloc (Nat.le_refl _) (.cells #[Value.int IntKind.i64 v.k, Value.int IntKind.i64 v.nd, Value.int IntKind.i64 v.a, Value.int IntKind.i64 v.n, Value.int IntKind.u64 (v.o : Int), Value.int IntKind.u64 (v.ne : Int), Value.slice A v.s.length cA, Value.int IntKind.u64 v.ky, Value.int IntKind.i64 v.bo, Value.int IntKind.i64 (ex : Int), Value.slice B r.length cB, Value.int IntKind.i64 slot] 112)
  have HR1 := Lk.mk ((RP.more_ HR0.out (Nat.le_refl W0.heap.size)).below hB1)
  have HK1 := Lk.mk (show Box _ W0.heap.size (mkE v A cA ex B cB r slot) from heap_alloc_new W0 (.cells #[Value.int IntKind.i64 v.k, Value.int IntKind.i64 v.nd, Value.int IntKind.i64 v.a, Value.int IntKind.i64 v.n, Value.int IntKind.u64 (v.o : Int), Value.int IntKind.u64 (v.ne : Int), Value.slice A v.s.length cA, Value.int IntKind.u64 v.ky, Value.int IntKind.i64 v.bo, Value.int IntKind.i64 (ex : Int), Value.slice B r.length cB, Value.int IntKind.i64 slot] 112))
  have HN1 := Lk.mk (Nd.below HN0.out hB1)
  have HB1 := Lk.mk (HB0.out.trans (hB1.mono HB0.out.size))
  have HZ1 := Lk.mk ((hB1.block _ (Array.getElem?_eq_some_iff.1 HZ0.out).1).trans HZ0.out)
  have HS1 := Lk.mk (show World.cell? _ ⟨W0.heap.size, 11, none⟩ = some (.int .i64 slot) from (cell_of_row _ W0.heap.size 11 _ _ _ (heap_alloc_new W0 (.cells #[Value.int IntKind.i64 v.k, Value.int IntKind.i64 v.nd, Value.int IntKind.i64 v.a, Value.int IntKind.i64 v.n, Value.int IntKind.u64 (v.o : Int), Value.int IntKind.u64 (v.ne : Int), Value.slice A v.s.length cA, Value.int IntKind.u64 v.ky, Value.int IntKind.i64 v.bo, Value.int IntKind.i64 (ex : Int), Value.slice B r.length cB, Value.int IntKind.i64 slot] 112))).trans rfl)
  have HX1 := Lk.mk (show (World.cell? ((W0.alloc (.cells #[Value.int IntKind.i64 v.k, Value.int IntKind.i64 v.nd, Value.int IntKind.i64 v.a, Value.int IntKind.i64 v.n, Value.int IntKind.u64 (v.o : Int), Value.int IntKind.u64 (v.ne : Int), Value.slice A v.s.length cA, Value.int IntKind.u64 v.ky, Value.int IntKind.i64 v.bo, Value.int IntKind.i64 (ex : Int), Value.slice B r.length cB, Value.int IntKind.i64 slot] 112))) (Addr.mk W0.heap.size 0 none) = some (Value.int IntKind.i64 v.k) ∧ World.cell? ((W0.alloc (.cells #[Value.int IntKind.i64 v.k, Value.int IntKind.i64 v.nd, Value.int IntKind.i64 v.a, Value.int IntKind.i64 v.n, Value.int IntKind.u64 (v.o : Int), Value.int IntKind.u64 (v.ne : Int), Value.slice A v.s.length cA, Value.int IntKind.u64 v.ky, Value.int IntKind.i64 v.bo, Value.int IntKind.i64 (ex : Int), Value.slice B r.length cB, Value.int IntKind.i64 slot] 112))) (Addr.mk W0.heap.size 1 none) = some (Value.int IntKind.i64 v.nd) ∧ World.cell? ((W0.alloc (.cells #[Value.int IntKind.i64 v.k, Value.int IntKind.i64 v.nd, Value.int IntKind.i64 v.a, Value.int IntKind.i64 v.n, Value.int IntKind.u64 (v.o : Int), Value.int IntKind.u64 (v.ne : Int), Value.slice A v.s.length cA, Value.int IntKind.u64 v.ky, Value.int IntKind.i64 v.bo, Value.int IntKind.i64 (ex : Int), Value.slice B r.length cB, Value.int IntKind.i64 slot] 112))) (Addr.mk W0.heap.size 2 none) = some (Value.int IntKind.i64 v.a) ∧ World.cell? ((W0.alloc (.cells #[Value.int IntKind.i64 v.k, Value.int IntKind.i64 v.nd, Value.int IntKind.i64 v.a, Value.int IntKind.i64 v.n, Value.int IntKind.u64 (v.o : Int), Value.int IntKind.u64 (v.ne : Int), Value.slice A v.s.length cA, Value.int IntKind.u64 v.ky, Value.int IntKind.i64 v.bo, Value.int IntKind.i64 (ex : Int), Value.slice B r.length cB, Value.int IntKind.i64 slot] 112))) (Addr.mk W0.heap.size 3 none) = some (Value.int IntKind.i64 v.n) ∧ World.cell? ((W0.alloc (.cells #[Value.int IntKind.i64 v.k, Value.int IntKind.i64 v.nd, Value.int IntKind.i64 v.a, Value.int IntKind.i64 v.n, Value.int IntKind.u64 (v.o : Int), Value.int IntKind.u64 (v.ne : Int), Value.slice A v.s.length cA, Value.int IntKind.u64 v.ky, Value.int IntKind.i64 v.bo, Value.int IntKind.i64 (ex : Int), Value.slice B r.length cB, Value.int IntKind.i64 slot] 112))) (Addr.mk W0.heap.size 4 none) = some (Value.int IntKind.u64 ((v.o : Int))) ∧ World.cell? ((W0.alloc (.cells #[Value.int IntKind.i64 v.k, Value.int IntKind.i64 v.nd, Value.int IntKind.i64 v.a, Value.int IntKind.i64 v.n, Value.int IntKind.u64 (v.o : Int), Value.int IntKind.u64 (v.ne : Int), Value.slice A v.s.length cA, Value.int IntKind.u64 v.ky, Value.int IntKind.i64 v.bo, Value.int IntKind.i64 (ex : Int), Value.slice B r.length cB, Value.int IntKind.i64 slot] 112))) (Addr.mk W0.heap.size 5 none) = some (Value.int IntKind.u64 ((v.ne : Int))) ∧ World.cell? ((W0.alloc (.cells #[Value.int IntKind.i64 v.k, Value.int IntKind.i64 v.nd, Value.int IntKind.i64 v.a, Value.int IntKind.i64 v.n, Value.int IntKind.u64 (v.o : Int), Value.int IntKind.u64 (v.ne : Int), Value.slice A v.s.length cA, Value.int IntKind.u64 v.ky, Value.int IntKind.i64 v.bo, Value.int IntKind.i64 (ex : Int), Value.slice B r.length cB, Value.int IntKind.i64 slot] 112))) (Addr.mk W0.heap.size 6 none) = some (Value.slice A v.s.length cA) ∧ World.cell? ((W0.alloc (.cells #[Value.int IntKind.i64 v.k, Value.int IntKind.i64 v.nd, Value.int IntKind.i64 v.a, Value.int IntKind.i64 v.n, Value.int IntKind.u64 (v.o : Int), Value.int IntKind.u64 (v.ne : Int), Value.slice A v.s.length cA, Value.int IntKind.u64 v.ky, Value.int IntKind.i64 v.bo, Value.int IntKind.i64 (ex : Int), Value.slice B r.length cB, Value.int IntKind.i64 slot] 112))) (Addr.mk W0.heap.size 7 none) = some (Value.int IntKind.u64 v.ky) ∧ World.cell? ((W0.alloc (.cells #[Value.int IntKind.i64 v.k, Value.int IntKind.i64 v.nd, Value.int IntKind.i64 v.a, Value.int IntKind.i64 v.n, Value.int IntKind.u64 (v.o : Int), Value.int IntKind.u64 (v.ne : Int), Value.slice A v.s.length cA, Value.int IntKind.u64 v.ky, Value.int IntKind.i64 v.bo, Value.int IntKind.i64 (ex : Int), Value.slice B r.length cB, Value.int IntKind.i64 slot] 112))) (Addr.mk W0.heap.size 8 none) = some (Value.int IntKind.i64 v.bo) ∧ Lk (Below (Array.size (World.heap w)) w ((W0.alloc (.cells #[Value.int IntKind.i64 v.k, Value.int IntKind.i64 v.nd, Value.int IntKind.i64 v.a, Value.int IntKind.i64 v.n, Value.int IntKind.u64 (v.o : Int), Value.int IntKind.u64 (v.ne : Int), Value.slice A v.s.length cA, Value.int IntKind.u64 v.ky, Value.int IntKind.i64 v.bo, Value.int IntKind.i64 (ex : Int), Value.slice B r.length cB, Value.int IntKind.i64 slot] 112))))) by
    have h := heap_alloc_new W0 (.cells #[Value.int IntKind.i64 v.k, Value.int IntKind.i64 v.nd, Value.int IntKind.i64 v.a, Value.int IntKind.i64 v.n, Value.int IntKind.u64 (v.o : Int), Value.int IntKind.u64 (v.ne : Int), Value.slice A v.s.length cA, Value.int IntKind.u64 v.ky, Value.int IntKind.i64 v.bo, Value.int IntKind.i64 (ex : Int), Value.slice B r.length cB, Value.int IntKind.i64 slot] 112)
    exact ⟨(cell_of_row _ W0.heap.size 0 _ _ _ h).trans rfl, (cell_of_row _ W0.heap.size 1 _ _ _ h).trans rfl, (cell_of_row _ W0.heap.size 2 _ _ _ h).trans rfl, (cell_of_row _ W0.heap.size 3 _ _ _ h).trans rfl, (cell_of_row _ W0.heap.size 4 _ _ _ h).trans rfl, (cell_of_row _ W0.heap.size 5 _ _ _ h).trans rfl, (cell_of_row _ W0.heap.size 6 _ _ _ h).trans rfl, (cell_of_row _ W0.heap.size 7 _ _ _ h).trans rfl, (cell_of_row _ W0.heap.size 8 _ _ _ h).trans rfl, ⟨HB0.out.trans (hB1.mono HB0.out.size)⟩⟩)
  have HFt1 := Lk.mk (HFt.out.on hB1)
  have HQ1 := Lk.mk (fun (pp : Pe) (hpp : pp ∈ q) => HR1.out.wd pp (List.mem_cons_of_mem _ hpp))
  have HPb := Lk.mk (show w.heap.size < W0.heap.size from (Array.getElem?_eq_some_iff.1 HZ0.out).1)
  have HBl := Lk.mk HR.out.lt
  clear hB1 HR0 HN0 HB0 HZ0 HFt
  generalize W0.alloc _ = W1 at *
  generalize W0.heap.size = pb at *
  have p3 := HR1.out.c3
  have nu := HN1.out.c1
  have s11 := HS1.out
  have n0 := HN1.out.c0
  have HH := Lk.mk (show World.cell? W1.drew ⟨nb, 0, none⟩ = some (.slice (some ⟨ng, 0, none⟩) n cap) ∧ (World.cell? W1.drew (Addr.mk pb 0 none) = some (Value.int IntKind.i64 v.k) ∧ World.cell? W1.drew (Addr.mk pb 1 none) = some (Value.int IntKind.i64 v.nd) ∧ World.cell? W1.drew (Addr.mk pb 2 none) = some (Value.int IntKind.i64 v.a) ∧ World.cell? W1.drew (Addr.mk pb 3 none) = some (Value.int IntKind.i64 v.n) ∧ World.cell? W1.drew (Addr.mk pb 4 none) = some (Value.int IntKind.u64 ((v.o : Int))) ∧ World.cell? W1.drew (Addr.mk pb 5 none) = some (Value.int IntKind.u64 ((v.ne : Int))) ∧ World.cell? W1.drew (Addr.mk pb 6 none) = some (Value.slice A v.s.length cA) ∧ World.cell? W1.drew (Addr.mk pb 7 none) = some (Value.int IntKind.u64 v.ky) ∧ World.cell? W1.drew (Addr.mk pb 8 none) = some (Value.int IntKind.i64 v.bo) ∧ Lk (Below (Array.size (World.heap w)) w W1.drew)) from ⟨n0, held_on HX1.out ⟨(Below.refl _ _).drew⟩⟩)
  clear n0
  go_upto_region 8 with fail
  have hquo := HQuo.out
  go_region_held3 (fun W' => World.cell? W' ⟨nb, 0, none⟩ = some (.slice (some ⟨ng, 0, none⟩) n cap) ∧ (World.cell? W' (Addr.mk pb 0 none) = some (Value.int IntKind.i64 v.k) ∧ World.cell? W' (Addr.mk pb 1 none) = some (Value.int IntKind.i64 v.nd) ∧ World.cell? W' (Addr.mk pb 2 none) = some (Value.int IntKind.i64 v.a) ∧ World.cell? W' (Addr.mk pb 3 none) = some (Value.int IntKind.i64 v.n) ∧ World.cell? W' (Addr.mk pb 4 none) = some (Value.int IntKind.u64 ((v.o : Int))) ∧ World.cell? W' (Addr.mk pb 5 none) = some (Value.int IntKind.u64 ((v.ne : Int))) ∧ World.cell? W' (Addr.mk pb 6 none) = some (Value.slice A v.s.length cA) ∧ World.cell? W' (Addr.mk pb 7 none) = some (Value.int IntKind.u64 v.ky) ∧ World.cell? W' (Addr.mk pb 8 none) = some (Value.int IntKind.i64 v.bo) ∧ Lk (Below (Array.size (World.heap w)) w W'))) (first | with_reducible exact HH.out | with_reducible assumption | with_reducible exact rn_on (by assumption) (by assumption))
    (first
      | (go_at_call 66; (with_reducible refine (CV.out _).mono ?_); rintro e w2 ⟨rfl, HBv⟩))
  clear hquo HQuo HH
  have hBv : Below W1.heap.size W1 w2 := (Below.refl _ W1).drew.trans HBv.out
  clear HBv
  have HR3 := Lk.mk (HR1.out.below hBv)
  have HN3 := Lk.mk (Nd.below HN1.out hBv)
  have HB3 := Lk.mk (HB1.out.trans (hBv.mono HB1.out.size))
  have HZ3 := Lk.mk ((hBv.block _ (Array.getElem?_eq_some_iff.1 HZ1.out).1).trans HZ1.out)
  have HS3 := Lk.mk ((hBv.cell (block_lt_of_cell HS1.out)).trans HS1.out)
  have HX3 := Lk.mk (held_on HX1.out ⟨hBv⟩)
  have HFt3 := Lk.mk (HFt1.out.on hBv)
  have HQ3 := Lk.mk (fun (pp : Pe) (hpp : pp ∈ q) => HR3.out.wd pp (List.mem_cons_of_mem _ hpp))
  have HK3 := Lk.mk ((hBv.block _ (Array.getElem?_eq_some_iff.1 HK1.out).1).trans HK1.out)
  clear HR1 HN1 HB1 HZ1 HS1 HX1 HFt1 HQ1 HK1 p3 nu s11
  have hp := valid_pos HVv.out
  have hRc : checkC v.k v.a (cnt v.k v.n v.s.length) v.ky v.bo inc (atW ws (24 + cl)) (atW ws 0) (atW ws 1) = (0 : Int) := by rw [← HRR.out]; unfold codeM; rw [if_neg (by simp), if_neg (by simpa using HVv.out)]
  have CD := Lk.mk (fun W => door_any cl W (by omega))
  have CAd := Lk.mk (fun W (hb : Below w.heap.size w W) => show Calls Try.prog 68 #[.pointer (some ⟨nb, 0, none⟩), .int .i64 (24 + (cl : Int))] W (fun e w' => e = .returned (.int .u64 (atW ws (24 + cl) : Int)) ∧ W = w') by
    have h := at_any nb ng n cap ws true (24 + cl) W ⟨Nd.below HN.out hb⟩ (by omega) (by omega)
    rw [show ((24 + cl : Nat) : Int) = 24 + (cl : Int) from by omega] at h
    exact h)
  have CA0 := Lk.mk (fun W (hb : Below w.heap.size w W) => show Calls Try.prog 68 #[.pointer (some ⟨nb, 0, none⟩), .int .i64 0] W (fun e w' => e = .returned (.int .u64 (atW ws 0 : Int)) ∧ W = w') from at_any nb ng n cap ws true 0 W ⟨Nd.below HN.out hb⟩ (by omega) (by omega))
  have CA1 := Lk.mk (fun W (hb : Below w.heap.size w W) => show Calls Try.prog 68 #[.pointer (some ⟨nb, 0, none⟩), .int .i64 1] W (fun e w' => e = .returned (.int .u64 (atW ws 1 : Int)) ∧ W = w') from at_any nb ng n cap ws true 1 W ⟨Nd.below HN.out hb⟩ (by omega) (by omega))
  have CC := Lk.mk (fun W => checkR_ok v.k v.nd v.a v.n (v.o : Int) (v.ne : Int) A v.s.length cA v.ky v.bo W inc (atW ws (24 + cl)) (atW ws 0) (atW ws 1) hp.1 hp.2.1 (by omega) (by omega) hbo)
  rw [hRc] at CC
  go_upto_region 5 with fail
  have q0 := HR3.out.c0
  have q1 := HR3.out.c1
  have HH := Lk.mk (show World.cell? w2.drew ⟨b, 0, none⟩ = some (.int .i64 cl) ∧ World.cell? w2.drew ⟨b, 1, none⟩ = some (.int .i64 inc) ∧ (World.cell? w2.drew (Addr.mk pb 0 none) = some (Value.int IntKind.i64 v.k) ∧ World.cell? w2.drew (Addr.mk pb 1 none) = some (Value.int IntKind.i64 v.nd) ∧ World.cell? w2.drew (Addr.mk pb 2 none) = some (Value.int IntKind.i64 v.a) ∧ World.cell? w2.drew (Addr.mk pb 3 none) = some (Value.int IntKind.i64 v.n) ∧ World.cell? w2.drew (Addr.mk pb 4 none) = some (Value.int IntKind.u64 ((v.o : Int))) ∧ World.cell? w2.drew (Addr.mk pb 5 none) = some (Value.int IntKind.u64 ((v.ne : Int))) ∧ World.cell? w2.drew (Addr.mk pb 6 none) = some (Value.slice A v.s.length cA) ∧ World.cell? w2.drew (Addr.mk pb 7 none) = some (Value.int IntKind.u64 v.ky) ∧ World.cell? w2.drew (Addr.mk pb 8 none) = some (Value.int IntKind.i64 v.bo) ∧ Lk (Below (Array.size (World.heap w)) w w2.drew)) from ⟨q0, q1, held_on HX3.out ⟨(Below.refl _ _).drew⟩⟩)
  clear q0 q1
  go_region_held3 (fun W' => World.cell? W' ⟨b, 0, none⟩ = some (.int .i64 cl) ∧ World.cell? W' ⟨b, 1, none⟩ = some (.int .i64 inc) ∧ (World.cell? W' (Addr.mk pb 0 none) = some (Value.int IntKind.i64 v.k) ∧ World.cell? W' (Addr.mk pb 1 none) = some (Value.int IntKind.i64 v.nd) ∧ World.cell? W' (Addr.mk pb 2 none) = some (Value.int IntKind.i64 v.a) ∧ World.cell? W' (Addr.mk pb 3 none) = some (Value.int IntKind.i64 v.n) ∧ World.cell? W' (Addr.mk pb 4 none) = some (Value.int IntKind.u64 ((v.o : Int))) ∧ World.cell? W' (Addr.mk pb 5 none) = some (Value.int IntKind.u64 ((v.ne : Int))) ∧ World.cell? W' (Addr.mk pb 6 none) = some (Value.slice A v.s.length cA) ∧ World.cell? W' (Addr.mk pb 7 none) = some (Value.int IntKind.u64 v.ky) ∧ World.cell? W' (Addr.mk pb 8 none) = some (Value.int IntKind.i64 v.bo) ∧ Lk (Below (Array.size (World.heap w)) w W'))) (first | with_reducible exact HH.out | with_reducible assumption | with_reducible exact pc_on (by assumption) (by assumption))
    (first
      | (go_at_call 39; (with_reducible refine (CD.out _).mono ?_); rintro e w4 ⟨rfl, rfl⟩)
      | (go_at_call 68; (with_reducible refine (CAd.out _ (pc_below (by assumption)).out).mono ?_); rintro e w4 ⟨rfl, rfl⟩)
      | (go_at_call 68; (with_reducible refine (CA0.out _ (pc_below (by assumption)).out).mono ?_); rintro e w4 ⟨rfl, rfl⟩)
      | (go_at_call 68; (with_reducible refine (CA1.out _ (pc_below (by assumption)).out).mono ?_); rintro e w4 ⟨rfl, rfl⟩)
      | (go_at_call 67; (with_reducible refine (CC.out _).mono ?_); rintro e w4 ⟨rfl, HBc⟩))
  have hBc : Below w2.heap.size w2 w4 := (Below.refl _ w2).drew.trans HBc.out
  clear HBc HH CD CAd CA0 CA1 CC
  have HR4 := Lk.mk (HR3.out.below hBc)
  have HN4 := Lk.mk (Nd.below HN3.out hBc)
  have HB4 := Lk.mk (HB3.out.trans (hBc.mono HB3.out.size))
  have HZ4 := Lk.mk ((hBc.block _ (Array.getElem?_eq_some_iff.1 HZ3.out).1).trans HZ3.out)
  have HS4 := Lk.mk ((hBc.cell (block_lt_of_cell HS3.out)).trans HS3.out)
  have HX4 := Lk.mk (held_on HX3.out ⟨hBc⟩)
  have HFt4 := Lk.mk (HFt3.out.on hBc)
  have HQ4 := Lk.mk (fun (pp : Pe) (hpp : pp ∈ q) => HR4.out.wd pp (List.mem_cons_of_mem _ hpp))
  have HK4 := Lk.mk ((hBc.block _ (Array.getElem?_eq_some_iff.1 HK3.out).1).trans HK3.out)
  clear HR3 HN3 HB3 HZ3 HS3 HX3 HFt3 HQ3 HK3
  obtain ⟨b0, b1, b2, b3, b4, b5, b6, b7, b8, _⟩ := HX4.out
  go_upto_region 14 with (first
    | (go_at_call 23; (with_reducible refine (HPc.out _).mono ?_); rintro e w5 ⟨vl, rfl, HL5, HB5⟩))
  clear b0 b1 b2 b3 b4 b5 b6 b7 b8
  have HR5 := Lk.mk (HR4.out.below HB5.out)
  have HN5 := Lk.mk (Nd.below HN4.out HB5.out)
  have HB5w := Lk.mk (HB4.out.trans (HB5.out.mono HB4.out.size))
  have HZ5 := Lk.mk ((HB5.out.block _ (Array.getElem?_eq_some_iff.1 HZ4.out).1).trans HZ4.out)
  have HS5 := Lk.mk ((HB5.out.cell (block_lt_of_cell HS4.out)).trans HS4.out)
  have HX5 := Lk.mk (held_on HX4.out ⟨HB5.out⟩)
  have HFt5 := Lk.mk (HFt4.out.on HB5.out)
  have HQ5 := Lk.mk (fun (pp : Pe) (hpp : pp ∈ q) => HR5.out.wd pp (List.mem_cons_of_mem _ hpp))
  have HK5 := Lk.mk ((HB5.out.block _ (Array.getElem?_eq_some_iff.1 HK4.out).1).trans HK4.out)
  obtain ⟨gl, cg, hvl, hcp, hq0, hq1⟩ : ∃ gl cg, vl = .slice (some ⟨gl, 0, none⟩) (nP v) cg ∧ (nP v ≤ cg ∧ cg ≤ 9223372036854775807) ∧ w5.cell? ⟨gl, ex * 2, none⟩ = some (.int .i64 (atM v ex : Nat)) ∧ w5.cell? ⟨gl, ex * 2 + 1, none⟩ = some (.int .i64 (mM v ex : Nat)) := by
    have h0 := HL5.out
    rcases h0.2 with ⟨_, h0⟩ | ⟨gl, cg, cur, rfl, _, _, h2, h3, _⟩
    · omega
    · have hc := HPx.out
      refine ⟨gl, cg, rfl, ⟨h2, by unfold maxLen at h3; omega⟩, ?_, ?_⟩
      · have := h0.cells (g := gl) rfl (ex * 2) _ hc.1
        rwa [add_zero_] at this
      · have := h0.cells (g := gl) rfl (ex * 2 + 1) _ hc.2
        rwa [add_zero_] at this
  subst hvl
  clear HR4 HN4 HB4 HZ4 HS4 HX4 HFt4 HQ4 HK4 HL5 HPc HPx HB5 CV
  have HFn5 := Lk.mk (show (F nb ∨ nb = w.heap.size) ∨ nb = pb from .inl (.inl HFn.out.1))
  have HFg5 := Lk.mk (show (F ng ∨ ng = w.heap.size) ∨ ng = pb from .inl (.inl HFn.out.2))
  have HF5 : Lk (∀ k, w5.heap.size ≤ k → ¬ ((F k ∨ k = w.heap.size) ∨ k = pb)) := ⟨fun k hk' hh => by
    have h1 := (Array.getElem?_eq_some_iff.1 HK5.out).1
    have h2 := HPb.out
    rcases hh with (hh | hh) | hh
    · exact hF.out k (Nat.le_trans HB5w.out.size hk') hh
    · omega
    · omega⟩
  have HOUT := Lk.mk (rfl : outS v ws ex = outS v ws ex)
  have HWS2 := Lk.mk (rfl : wsS v ws ex = wsS v ws ex)
  generalize hout : outS v ws ex = out at *
  generalize hws2 : wsS v ws ex = ws2 at *
  clear HOUT HWS2
  have HOUT := Lk.mk hout
  have HWS2 := Lk.mk hws2
  clear hout hws2
  have hrl3 : r.length + out.length ≤ 4294967296 := by omega
  go_cut [90] (fun _ wx => ∃ (B2 : Option Addr) (c2 : Nat), Lk (R14 (fun k => (F k ∨ k = w.heap.size) ∨ k = pb) w5 wx pb nb ng n cap v A cA ex slot (r ++ out) ws2 B2 c2))
  case first =>
    obtain ⟨i0, hi, hz0, hz1, hz2⟩ := info_parts u64info
    have hm1 : 0 + r.length ≤ maxLen := by unfold maxLen; omega
    have hm2 : (0 + r.length) * 8 ≤ 140737488355328 := by omega
    have hm3 : 0 + r.length + out.length ≤ maxLen := by unfold maxLen; omega
    have hm4 : (0 + r.length + out.length) * 8 ≤ 140737488355328 := by omega
    obtain ⟨b0, b1, b2, b3, b4, b5, b6, b7, b8, _⟩ := HX5.out
    have b9 := Box.c (p := mkE v A cA ex B cB r slot) HK5.out 9 _ rfl
    have b10 := Box.c (p := mkE v A cA ex B cB r slot) HK5.out 10 _ rfl
    have C9 := HXe.out w5.drew HB5w.out.drew
    have hexi : (0 : Int) ≤ ex := by omega
    have hexl : (ex : Int) < (nP v : Nat) := by omega
    have HFd : Lk (From w5.drew B 1 r.length (r.map u64v)) := (ng_facts HR5 HK5 HN5 HFg5 ⟨(Only.refl _ w5).drew 1⟩).1
    have HNG := Lk.mk (fun (w4 : World) (HO4 : Lk (Only (fun k => k = ng) w5.drew w4)) => ng_facts HR5 HK5 HN5 HFg5 (w4 := w4) ⟨⟨HO4.out.os, HO4.out.tape, HO4.out.output, HO4.out.size, HO4.out.block⟩⟩)
    have HE := Lk.mk (fun (w7 : World) (A7 : Option Addr) (c7 l7 : Nat) (HN7 : Lk (RN w7 nb ng n cap ws2 true)) (HO7 : Lk (Only (fun k => k = ng) w5 w7)) (Hown : Lk (w7.ownsRow w5.heap.size 33 1 (.slice A7 l7 c7) l7 ((r ++ out).map u64v))) (hl : Lk ((r ++ out).length = l7)) => r14_end HK5 HN5 HF5 HN7 HO7 Hown hl)
    have hpb5 : pb < w5.heap.size := (Array.getElem?_eq_some_iff.1 HK5.out).1
    have HNe := Lk.mk (show ng < w5.heap.size ∧ ng ≠ pb from ⟨HN5.out.row.size, by obtain ⟨cur, hc⟩ := Row.typed HN5.out.row; exact ne_typed hc HK5.out (by decide)⟩)
    have HPl := Lk.mk (show pb < w5.heap.size ∧ ng < w5.heap.size ∧ nb < w5.heap.size from ⟨hpb5, HNe.out.1, HN5.out.size⟩)
    have hbd : w5.heap.size ≤ w5.drew.heap.size := Nat.le_refl _
    clear HX5 HR5 HN5 HZ5 HS5 HFt5 HQ5 HFn5 HF5 hnL
    go_region_law (first
      | (refine step_onto rfl (.const (.slice none 0 0)) (.tmp 79) 49 rfl w5.heap.size 33 i0 (.int .u64 0) 1 8 Try.underlying49 hi hz0 hz1 hz2 rfl (by decide) (.slice none 0 0) 0 [] rfl (World.ownsRow_nil _ _ _ _) B r.length cB (r.map u64v) (by simp [Act.eval, Act.put]) HFd.out (words_one r) hm1 hm2 hbd ?_; intro v6 w6 hown6 hgrow6; have HO6 := Lk.mk hown6; have HB6 := Lk.mk (below_none hgrow6); have C9 := HXe.out w6 (HB5w.out.drew.trans (HB6.out.mono HB5w.out.size)); have HKA := Lk.mk (a_first HK5 HB6); obtain ⟨b0, b1, b2, b3, b4, b5, b6, b7, b8, b9⟩ := HKA.out; have p60 := (HB6.out.cell (w := w5.drew) (p := ⟨gl, ex * 2, none⟩) (block_lt_of_cell hq0)).trans hq0; have p61 := (HB6.out.cell (w := w5.drew) (p := ⟨gl, ex * 2 + 1, none⟩) (block_lt_of_cell hq1)).trans hq1; clear HFd HNG)
      | (refine step_onto rfl (.const (.slice none 0 0)) (.tmp 79) 49 rfl w5.heap.size 33 i0 (.int .u64 0) 1 8 Try.underlying49 hi hz0 hz1 hz2 rfl (by decide) (.slice none 0 0) 0 [] rfl (World.ownsRow_nil _ _ _ _) B r.length cB (r.map u64v) (by simp [Act.eval, Act.put]) HF4.out (words_one r) hm1 hm2 HOn4.out.size ?_; intro v6 w6 hown6 hgrow6; have HT := Lk.mk (t_second HOn4 HN4 HL4 HK4 hown6 hgrow6); clear HF4 HL4 HK4)
      | (rw [if_pos (by rfl)]; go_simp; go_at_call 69; (with_reducible refine C9.mono ?_); rintro e w4 ⟨A2, c2, rfl, HL4, HN4, HOn4⟩; first | (have HT := Lk.mk (t_first HK5 HNe HO6 HB6 HOn4 HN4 HL4); clear HL4; go_simp) | (have hng4 := HNG.out w4 HOn4; have HF4 := hng4.1; have HK4 := hng4.2; clear hng4; have b10 := Box.c (p := mkE v A cA ex B cB r slot) HK4.out 10 _ rfl; go_simp))
      | (refine step_onto rfl (.tmp 80) (.tmp 89) 49 rfl w5.heap.size 33 i0 (.int .u64 0) 1 8 Try.underlying49 hi hz0 hz1 hz2 rfl (by decide) v6 (0 + r.length) ([] ++ r.map u64v) (by simp [Act.eval, Act.put]) HT.out.own A2 out.length c2 (out.map u64v) (by simp [Act.eval, Act.put]) HT.out.from_ (words_one out) hm3 hm4 HT.out.only.size ?_; intro v7 w7 hown7 hgrow7; have HT7 := Lk.mk (t_end HT hown7 hgrow7 HPl); have hc7 := HT7.out.1; have hf7 := HT7.out.2.1; obtain ⟨A7, c7, rfl⟩ := own_slice hown7))
    all_goals go_wp2
    all_goals go_meet
    all_goals (have hl7 := HT7.out.2.2.2.2; simp only [Nat.zero_add] at hl7 ⊢)
    all_goals exact ⟨A7, c7, HE.out _ _ _ _ HT7.out.2.2.1 HT7.out.2.2.2.1 hl7 ⟨List.length_append⟩⟩
  case rest =>
    obtain ⟨B2, c2, H14⟩ := hcut
    have hzl : w.heap.size < w5.heap.size := (Array.getElem?_eq_some_iff.1 HZ5.out).1
    have hbl := HBl.out
    have hpl := HPb.out
    have hnl : nb < w.heap.size ∧ ng < w.heap.size := ⟨HN.out.size, HN.out.row.size⟩
    have hbng : b ≠ ng := by obtain ⟨cur, hc⟩ := Row.typed HN5.out.row; exact ne_typed HR5.out.z hc (by decide)
    have HR6 := Lk.mk (HR5.out.on H14.out.only (fun k hk => hk.elim (fun e => e ▸ HFg5.out) (fun e => .inr e)) (fun hh => hh.elim hbng (fun e => by omega)))
    have HZ6 := Lk.mk ((H14.out.only.block w.heap.size hzl (fun hh => by omega)).trans HZ5.out)
    have HO6 := Lk.mk (only_two (S := fun k => k = b ∨ k = ng) (Only.of_below HB5w.out) H14.out.only (fun k hk => hk.elim (fun e => .inl (.inr e)) (fun e => .inr (by omega))))
    have HN6 := Lk.mk H14.out.rn
    have HK6 := Lk.mk H14.out.box
    have HL6 := Lk.mk H14.out.lies
    have hex : (ex : Int) + 1 ≤ nP v := by omega
    have hnpl : nP v ≤ 2048 := by
      have := hok.out.pos
      unfold nP numP
      omega
    clear HR5 HN5 HZ5 HS5 HX5 HFt5 HQ5 HK5 HB5w H14 HXe HF5 HRR HVv
    have k9 : wc.cell? ⟨pb, 9, none⟩ = some (.int .i64 (ex : Int)) := Box.c (p := mkE v A cA ex B2 c2 (r ++ out) slot) HK6.out 9 _ rfl
    have fk := fun j => frozen_of_row wc pb j _ _ HK6.out
    have fk9 := fk 9
    clear fk
    have he1 : ((ex + 1 : Nat) : Int) = ex + 1 := by omega
    have HK7 : Lk (Box (wc.setCell ⟨pb, 9, none⟩ (.int .i64 ((ex : Int) + 1))) pb (mkE v A cA (ex + 1) B2 c2 (r ++ out) slot)) := ⟨by
      have := heap_setCell_same wc pb 9 _ _ (.int .i64 ((ex : Int) + 1)) HK6.out
      unfold Box
      rw [this, show pcs (mkE v A cA (ex + 1) B2 c2 (r ++ out) slot) = (pcs (mkE v A cA ex B2 c2 (r ++ out) slot)).set 9 (.int .i64 ((ex + 1 : Nat) : Int)) from rfl, he1]
      simp⟩
    have hO7 := (Only.refl (fun k => k = pb) wc).setCell (p := ⟨pb, 9, none⟩) (.inl rfl) (.int .i64 ((ex : Int) + 1))
    have HR7 := Lk.mk (HR6.out.on hO7 (fun k hk => .inr hk) (fun e => by omega))
    have HN7 := Lk.mk (HN6.out.on hO7 (fun e => by omega) (fun e => by omega))
    have HZ7 := Lk.mk ((hO7.block w.heap.size (Array.getElem?_eq_some_iff.1 HZ6.out).1 (fun e => by omega)).trans HZ6.out)
    have HL7 := Lk.mk (LiesF.on HL6.out hO7 (fun k hk => .inr hk))
    have HO7 := Lk.mk (HO6.out.setCell (p := ⟨pb, 9, none⟩) (.inr (by show w.heap.size ≤ pb; omega)) (.int .i64 ((ex : Int) + 1)))
    clear hO7 he1
    go_upto_region 16 with fail
    clear HR6 HN6 HZ6 HL6 HO6 HK6 k9 fk9
    generalize wc.setCell _ _ = w7 at *
    have k9 : w7.cell? ⟨pb, 9, none⟩ = some (.int .i64 ((ex + 1 : Nat) : Int)) := Box.c (p := mkE v A cA (ex + 1) B2 c2 (r ++ out) slot) HK7.out 9 _ rfl
    have HF7 : Lk (∀ k, w7.heap.size ≤ k → ¬ ((F k ∨ k = w.heap.size) ∨ k = pb)) := ⟨fun k hk' hh => by
      have h1 := (Array.getElem?_eq_some_iff.1 HK7.out).1
      rcases hh with (hh | hh) | hh
      · exact hF.out k (by have := HO7.out.size; omega) hh
      · omega
      · omega⟩
    have p3 := HR7.out.c3
    have HFo := Lk.mk (From.own HR7.out.own)
    have HQw := Lk.mk HR7.out.wd
    by_cases hm : ex + 1 < nP v
    · have hd : decide (ex + 1 < nP v) = true := decide_eq_true hm
      have hd2 : decide ((ex : Int) + 1 < (nP v : Nat)) = true := decide_eq_true (by omega)
      generalize hro : r ++ out = ro at *
      have HRO := Lk.mk hro
      clear hro
      have hm1 : 0 + (q.length + 1) ≤ maxLen := by unfold maxLen; omega
      have hm2 : (0 + (q.length + 1)) * 128 ≤ 140737488355328 := by omega
      have HQn := Lk.mk (flat_one Qd.pcs pcs_one (mkE v A cA ex B cB r slot :: q))
      go_upto_region 17 with fail
      go_upto_region 18 with (first
        | (at_builtin; refine wpList_onto rfl _ _ 68 rfl w7.heap.size 112 ip _ 12 128 Try.underlying68 hpi hp0 hp1 hp2 rfl (by decide) _ _ _ rfl (World.ownsRow_nil _ _ _ _) (some ⟨g, 0, none⟩) (q.length + 1) c ((mkE v A cA ex B cB r slot :: q).flatMap Qd.pcs) rfl HFo.out HQn.out hm1 hm2 (Nat.le_refl _) ?_))
      intro v8 w8 hown8 hgrow8
      have hB8 := below_none hgrow8
      obtain ⟨g8, c8, rfl⟩ : ∃ g8 c8, v8 = .slice (some ⟨g8, 0, none⟩) (q.length + 1) c8 := by
        rcases hown8.2 with ⟨_, h0⟩ | ⟨g8, c8, cur, e, _⟩
        · omega
        · exact ⟨g8, c8, e⟩
      have HW8 := Lk.mk hown8
      have hcap8 := Tb.own_cap hown8
      have hg8 : w7.heap.size ≤ g8 ∧ g8 < w8.heap.size := hown8.lt g8 rfl
      have HK8 := Lk.mk (show Box w8 pb (mkE v A cA (ex + 1) B2 c2 ro slot) from (hB8.block pb (Array.getElem?_eq_some_iff.1 HK7.out).1).trans HK7.out)
      have hc8 : ∀ j u, (Qd.pcs (mkE v A cA ex B cB r slot))[j]? = some u → w8.cell? ⟨g8, j, none⟩ = some u := fun j u hj => by
        have hjl : j < (Qd.pcs (mkE v A cA ex B cB r slot)).length := by
          rcases Nat.lt_or_ge j (Qd.pcs (mkE v A cA ex B cB r slot)).length with h | h
          · exact h
          · rw [List.getElem?_eq_none h] at hj; cases hj
        have := hown8.cells (g := g8) rfl j u (by rw [List.getElem?_append_left hjl]; exact hj)
        rwa [add_zero_] at this
      have HB8 := Lk.mk hB8
      clear hown8 hgrow8 hB8 k9 p3 HFo HQn
      have k0 : w8.cell? ⟨pb, 0, none⟩ = some (.int .i64 v.k) := Box.c (p := mkE v A cA (ex + 1) B2 c2 ro slot) HK8.out 0 _ rfl
      have k1 : w8.cell? ⟨pb, 1, none⟩ = some (.int .i64 v.nd) := Box.c (p := mkE v A cA (ex + 1) B2 c2 ro slot) HK8.out 1 _ rfl
      have k2 : w8.cell? ⟨pb, 2, none⟩ = some (.int .i64 v.a) := Box.c (p := mkE v A cA (ex + 1) B2 c2 ro slot) HK8.out 2 _ rfl
      have k3 : w8.cell? ⟨pb, 3, none⟩ = some (.int .i64 v.n) := Box.c (p := mkE v A cA (ex + 1) B2 c2 ro slot) HK8.out 3 _ rfl
      have k4 : w8.cell? ⟨pb, 4, none⟩ = some (.int .u64 (v.o : Int)) := Box.c (p := mkE v A cA (ex + 1) B2 c2 ro slot) HK8.out 4 _ rfl
      have k5 : w8.cell? ⟨pb, 5, none⟩ = some (.int .u64 (v.ne : Int)) := Box.c (p := mkE v A cA (ex + 1) B2 c2 ro slot) HK8.out 5 _ rfl
      have k6 : w8.cell? ⟨pb, 6, none⟩ = some (.slice A v.s.length cA) := Box.c (p := mkE v A cA (ex + 1) B2 c2 ro slot) HK8.out 6 _ rfl
      have k7 : w8.cell? ⟨pb, 7, none⟩ = some (.int .u64 v.ky) := Box.c (p := mkE v A cA (ex + 1) B2 c2 ro slot) HK8.out 7 _ rfl
      have k8 : w8.cell? ⟨pb, 8, none⟩ = some (.int .i64 v.bo) := Box.c (p := mkE v A cA (ex + 1) B2 c2 ro slot) HK8.out 8 _ rfl
      have k9 : w8.cell? ⟨pb, 9, none⟩ = some (.int .i64 (((ex + 1 : Nat)) : Int)) := Box.c (p := mkE v A cA (ex + 1) B2 c2 ro slot) HK8.out 9 _ rfl
      have k10 : w8.cell? ⟨pb, 10, none⟩ = some (.slice B2 ro.length c2) := Box.c (p := mkE v A cA (ex + 1) B2 c2 ro slot) HK8.out 10 _ rfl
      have k11 : w8.cell? ⟨pb, 11, none⟩ = some (.int .i64 slot) := Box.c (p := mkE v A cA (ex + 1) B2 c2 ro slot) HK8.out 11 _ rfl
      have cc0 : w8.cell? ⟨g8, 0, none⟩ = some (.int .i64 v.k) := hc8 0 _ rfl
      have f0 := HW8.out.frozenAt 0
      have cc1 : w8.cell? ⟨g8, 1, none⟩ = some (.int .i64 v.nd) := hc8 1 _ rfl
      have f1 := HW8.out.frozenAt 1
      have cc2 : w8.cell? ⟨g8, 2, none⟩ = some (.int .i64 v.a) := hc8 2 _ rfl
      have f2 := HW8.out.frozenAt 2
      have cc3 : w8.cell? ⟨g8, 3, none⟩ = some (.int .i64 v.n) := hc8 3 _ rfl
      have f3 := HW8.out.frozenAt 3
      have cc4 : w8.cell? ⟨g8, 4, none⟩ = some (.int .u64 (v.o : Int)) := hc8 4 _ rfl
      have f4 := HW8.out.frozenAt 4
      have cc5 : w8.cell? ⟨g8, 5, none⟩ = some (.int .u64 (v.ne : Int)) := hc8 5 _ rfl
      have f5 := HW8.out.frozenAt 5
      have cc6 : w8.cell? ⟨g8, 6, none⟩ = some (.slice A v.s.length cA) := hc8 6 _ rfl
      have f6 := HW8.out.frozenAt 6
      have cc7 : w8.cell? ⟨g8, 7, none⟩ = some (.int .u64 v.ky) := hc8 7 _ rfl
      have f7 := HW8.out.frozenAt 7
      have cc8 : w8.cell? ⟨g8, 8, none⟩ = some (.int .i64 v.bo) := hc8 8 _ rfl
      have f8 := HW8.out.frozenAt 8
      have cc9 : w8.cell? ⟨g8, 9, none⟩ = some (.int .i64 (ex : Int)) := hc8 9 _ rfl
      have f9 := HW8.out.frozenAt 9
      have cc10 : w8.cell? ⟨g8, 10, none⟩ = some (.slice B r.length cB) := hc8 10 _ rfl
      have f10 := HW8.out.frozenAt 10
      have cc11 : w8.cell? ⟨g8, 11, none⟩ = some (.int .i64 slot) := hc8 11 _ rfl
      have f11 := HW8.out.frozenAt 11
      have he1 : ((ex + 1 : Nat) : Int) = ex + 1 := by omega
      have st0 := (HW8.out.stored 0 (.int .i64 v.k)).1
      have st1 := (st0.stored 1 (.int .i64 v.nd)).1
      have st2 := (st1.stored 2 (.int .i64 v.a)).1
      have st3 := (st2.stored 3 (.int .i64 v.n)).1
      have st4 := (st3.stored 4 (.int .u64 (v.o : Int))).1
      have st5 := (st4.stored 5 (.int .u64 (v.ne : Int))).1
      have st6 := (st5.stored 6 (.slice A v.s.length cA)).1
      have st7 := (st6.stored 7 (.int .u64 v.ky)).1
      have st8 := (st7.stored 8 (.int .i64 v.bo)).1
      have st9 := (st8.stored 9 (.int .i64 ((ex : Int) + 1))).1
      have st10 := (st9.stored 10 (.slice B2 ro.length c2)).1
      have st11 := (st10.stored 11 (.int .i64 slot)).1
      have hown9 : _ := st11
      have HB9 := Lk.mk ((((((((((((((Below.refl w7.heap.size w7).trans HB8.out).setCell (p := ⟨g8, 0, none⟩) hg8.1 (.int .i64 v.k)).setCell (p := ⟨g8, 1, none⟩) hg8.1 (.int .i64 v.nd)).setCell (p := ⟨g8, 2, none⟩) hg8.1 (.int .i64 v.a)).setCell (p := ⟨g8, 3, none⟩) hg8.1 (.int .i64 v.n)).setCell (p := ⟨g8, 4, none⟩) hg8.1 (.int .u64 (v.o : Int))).setCell (p := ⟨g8, 5, none⟩) hg8.1 (.int .u64 (v.ne : Int))).setCell (p := ⟨g8, 6, none⟩) hg8.1 (.slice A v.s.length cA)).setCell (p := ⟨g8, 7, none⟩) hg8.1 (.int .u64 v.ky)).setCell (p := ⟨g8, 8, none⟩) hg8.1 (.int .i64 v.bo)).setCell (p := ⟨g8, 9, none⟩) hg8.1 (.int .i64 ((ex : Int) + 1))).setCell (p := ⟨g8, 10, none⟩) hg8.1 (.slice B2 ro.length c2)).setCell (p := ⟨g8, 11, none⟩) hg8.1 (.int .i64 slot))
      have HW9 := Lk.mk hown9
      clear st0 st1 st2 st3 st4 st5 st6 st7 st8 st9 st10 st11 hown9
      clear hc8
      go_upto_region 19 with fail
      clear k0 cc0 f0 k1 cc1 f1 k2 cc2 f2 k3 cc3 f3 k4 cc4 f4 k5 cc5 f5 k6 cc6 f6 k7 cc7 f7 k8 cc8 f8 k9 cc9 f9 k10 cc10 f10 k11 cc11 f11 HK8 HW8
      generalize ((((((((((((w8.setCell _ _).setCell _ _).setCell _ _).setCell _ _).setCell _ _).setCell _ _).setCell _ _).setCell _ _).setCell _ _).setCell _ _).setCell _ _).setCell _ _) = w9 at *
      have hlist : (((((((((((((Qd.pcs (mkE v A cA ex B cB r slot) ++ List.flatMap Qd.pcs q).set 0 (.int .i64 v.k)).set 1 (.int .i64 v.nd)).set 2 (.int .i64 v.a)).set 3 (.int .i64 v.n)).set 4 (.int .u64 (v.o : Int))).set 5 (.int .u64 (v.ne : Int))).set 6 (.slice A v.s.length cA)).set 7 (.int .u64 v.ky)).set 8 (.int .i64 v.bo)).set 9 (.int .i64 ((ex : Int) + 1))).set 10 (.slice B2 ro.length c2)).set 11 (.int .i64 slot)) = (mkE v A cA (ex + 1) B2 c2 ro slot :: q).flatMap Qd.pcs := by
        rw [List.flatMap_cons, show Qd.pcs (mkE v A cA (ex + 1) B2 c2 ro slot) = [.int .i64 v.k, .int .i64 v.nd, .int .i64 v.a, .int .i64 v.n, .int .u64 (v.o : Int), .int .u64 (v.ne : Int), .slice A v.s.length cA, .int .u64 v.ky, .int .i64 v.bo, .int .i64 ((ex + 1 : Nat) : Int), .slice B2 ro.length c2, .int .i64 slot] from rfl, he1]
        rfl
      rw [hlist] at HW9
      clear hlist he1
      have hB9 : Below w7.heap.size w7 w9 := HB9.out
      have HPt := Lk.mk (RP.put (q2 := mkE v A cA (ex + 1) B2 c2 ro slot :: q) HR7.out hB9 HW9.out HF7.out (fun pp hpp => by
        rcases List.mem_cons.1 hpp with h | h
        · subst h
          have hw := (HQw.out _ (List.mem_cons_self ..)).on (Only.of_below (S := fun _ => False) hB9) (fun _ h => h.elim)
          refine ⟨hw.a, hw.la, LiesF.on HL7.out (Only.of_below (S := fun _ => False) hB9) (fun _ h => h.elim), ⟨rfl, ?_⟩⟩
          show ro.length ≤ 4294967296
          rw [← HRO.out, List.length_append]
          omega
        · exact (HQw.out _ (List.mem_cons_of_mem _ h)).on (Only.of_below (S := fun _ => False) hB9) (fun _ h => h.elim)))
      have hf9 := HPt.out.2.1
      have hc9 := HPt.out.2.2
      have HR10 := Lk.mk HPt.out.1
      have hz7l : w.heap.size < w7.heap.size := (Array.getElem?_eq_some_iff.1 HZ7.out).1
      have HZ10 := Lk.mk ((Below.heap_setCell w9 ⟨b, 3, none⟩ (.slice (some ⟨g8, 0, none⟩) (q.length + 1) c8) w.heap.size (by show w.heap.size ≠ b; omega)).trans ((hB9.block _ hz7l).trans HZ7.out))
      have HN10 := Lk.mk ((Nd.below HN7.out hB9).on ((Only.refl (fun k => k = b) w9).setCell (p := ⟨b, 3, none⟩) (.inl rfl) (.slice (some ⟨g8, 0, none⟩) (q.length + 1) c8)) (fun e => ne_typed HN7.out.node HR7.out.z (by decide) e) (fun e => by obtain ⟨cur, hc⟩ := Row.typed HN7.out.row; exact ne_typed hc HR7.out.z (by decide) e))
      have HO10 := Lk.mk ((HO7.out.trans (Only.of_below hB9)).setCell (p := ⟨b, 3, none⟩) (.inl (.inl rfl)) (.slice (some ⟨g8, 0, none⟩) (q.length + 1) c8))
      clear HPt HR7 HZ7 HN7 HO7 HQw HL7 HK7 HW9 HB9 hB9 HB8
      go_upto_region 20 with fail
      generalize w9.setCell _ _ = w10 at *
      have z0 := (cell_of_row w10 w.heap.size 0 _ _ _ HZ10.out).trans rfl
      have z1 := (cell_of_row w10 w.heap.size 1 _ _ _ HZ10.out).trans rfl
      have g0 := frozen_of_row w10 w.heap.size 0 _ _ HZ10.out
      have g1 := frozen_of_row w10 w.heap.size 1 _ _ HZ10.out
      go_wp2
      have HZ11 : ((w10.setCell ⟨w.heap.size, 0, none⟩ (.int .i64 0)).setCell ⟨w.heap.size, 1, none⟩ (.slice none 0 0)).heap[w.heap.size]? = some (.cells #[.int .i64 0, .slice none 0 0] 54 (0, 0)) := heap_setCell_same _ w.heap.size 1 _ _ _ (heap_setCell_same w10 w.heap.size 0 _ _ _ HZ10.out)
      have hO := ((Only.refl (fun k => k = w.heap.size) w10).setCell (p := ⟨w.heap.size, 0, none⟩) (.inl rfl) (.int .i64 0)).setCell (p := ⟨w.heap.size, 1, none⟩) (.inl rfl) (.slice none 0 0)
      have hO2 := (HO10.out.setCell (p := ⟨w.heap.size, 0, none⟩) (.inr (Nat.le_refl _)) (.int .i64 0)).setCell (p := ⟨w.heap.size, 1, none⟩) (.inr (Nat.le_refl _)) (.slice none 0 0)
      have hR11 := RP.less_ (HR10.out.on hO (fun k hk => .inl (.inr hk)) (by omega)) (fun k hk => .inl (.inl hk)) HFb.out
      have hN11 := HN10.out.on hO (fun e => by omega) (fun e => by omega)
      have hro := HRO.out
      have hout := HOUT.out
      have hws2 := HWS2.out
      clear HRO HOUT HWS2
      subst hro hout hws2
      exact bodyPost_ret (results_four rfl _ _ w.heap.size _ rfl rfl HZ11) rfl ⟨⟨hN11⟩, ⟨hO2⟩, .inl ⟨hm, _, B2, c2, rfl, ⟨hR11⟩⟩⟩
    · have hme : ex + 1 = nP v := by omega
      have hd : decide (ex + 1 < nP v) = false := decide_eq_false hm
      have hd2 : decide ((ex : Int) + 1 < (nP v : Nat)) = false := decide_eq_false (by omega)
      generalize hro : r ++ out = ro at *
      have HRO := Lk.mk hro
      clear hro
      have hm1 : 0 + q.length ≤ maxLen := by unfold maxLen; omega
      have hm2 : (0 + q.length) * 128 ≤ 140737488355328 := by omega
      have HQn := Lk.mk (flat_one Qd.pcs pcs_one q)
      have HFt7 := Lk.mk (From.tail (From.own (by simpa using HR7.out.own)) hc1)
      clear HFo
      go_upto_region 21 with fail
      go_upto_region 22 with (first
        | (at_builtin; refine wpList_onto rfl _ _ 68 rfl w7.heap.size 112 ip _ 12 128 Try.underlying68 hpi hp0 hp1 hp2 rfl (by decide) _ _ _ rfl (World.ownsRow_nil _ _ _ _) (tailA (some ⟨g, 0, none⟩) c) q.length (c - 1) (q.flatMap Qd.pcs) rfl HFt7.out HQn.out hm1 hm2 (Nat.le_refl _) ?_))
      intro v8 w8 hown8 hgrow8
      have hB8 := below_none hgrow8
      obtain ⟨A8, c8, rfl⟩ := own_slice hown8
      have hpl7 : pb < w7.heap.size := (Array.getElem?_eq_some_iff.1 HK7.out).1
      have hz7l : w.heap.size < w7.heap.size := (Array.getElem?_eq_some_iff.1 HZ7.out).1
      have HPt := Lk.mk (RP.put (q2 := q) HR7.out hB8 (by simpa using hown8) HF7.out (fun pp hpp => (HQw.out _ (List.mem_cons_of_mem _ hpp)).on (Only.of_below (S := fun _ => False) hB8) (fun _ h => h.elim)))
      have hf8 := HPt.out.2.1
      have hc8 := HPt.out.2.2
      have HR10 := Lk.mk HPt.out.1
      have HZ10 := Lk.mk ((Below.heap_setCell w8 ⟨b, 3, none⟩ (.slice A8 (0 + q.length) c8) w.heap.size (by show w.heap.size ≠ b; omega)).trans ((hB8.block _ hz7l).trans HZ7.out))
      have HK10 : Lk (Box (w8.setCell ⟨b, 3, none⟩ (.slice A8 (0 + q.length) c8)) pb (mkE v A cA (ex + 1) B2 c2 ro slot)) := Lk.mk ((Below.heap_setCell w8 ⟨b, 3, none⟩ (.slice A8 (0 + q.length) c8) pb (by show pb ≠ b; omega)).trans ((hB8.block _ hpl7).trans HK7.out))
      have HN10 := Lk.mk ((Nd.below HN7.out hB8).on ((Only.refl (fun k => k = b) w8).setCell (p := ⟨b, 3, none⟩) (.inl rfl) (.slice A8 (0 + q.length) c8)) (fun e => ne_typed HN7.out.node HR7.out.z (by decide) e) (fun e => by obtain ⟨cur, hc⟩ := Row.typed HN7.out.row; exact ne_typed hc HR7.out.z (by decide) e))
      have HO10 := Lk.mk ((HO7.out.trans (Only.of_below hB8)).setCell (p := ⟨b, 3, none⟩) (.inl (.inl rfl)) (.slice A8 (0 + q.length) c8))
      have HL10 := Lk.mk (LiesF.on HL7.out ((Only.of_below (S := fun k => k = b) hB8).setCell (p := ⟨b, 3, none⟩) (.inl rfl) (.slice A8 (0 + q.length) c8)) (fun k hk => hk ▸ .inl (.inl HFb.out)))
      clear HPt HR7 HZ7 HN7 HO7 HQw HL7 HK7 hB8 hown8 hgrow8 HFt7 HQn k9 p3
      rw [Nat.zero_add] at *
      go_upto_region 22 with fail
      generalize w8.setCell _ _ = w10 at *
      have z0 := (cell_of_row w10 w.heap.size 0 _ _ _ HZ10.out).trans rfl
      have z1 := (cell_of_row w10 w.heap.size 1 _ _ _ HZ10.out).trans rfl
      have g0 := frozen_of_row w10 w.heap.size 0 _ _ HZ10.out
      have g1 := frozen_of_row w10 w.heap.size 1 _ _ HZ10.out
      have hne2 : pb ≠ w.heap.size := by omega
      have HH := Lk.mk (show w10.drew.cell? ⟨pb, 10, none⟩ = some (.slice B2 ro.length c2) ∧ w10.drew.cell? ⟨pb, 11, none⟩ = some (.int .i64 slot) from ⟨Box.c (p := mkE v A cA (ex + 1) B2 c2 ro slot) HK10.out 10 _ rfl, Box.c (p := mkE v A cA (ex + 1) B2 c2 ro slot) HK10.out 11 _ rfl⟩)
      go_region_held3 (fun W' => World.cell? W' ⟨pb, 10, none⟩ = some (.slice B2 ro.length c2) ∧ World.cell? W' ⟨pb, 11, none⟩ = some (.int .i64 slot)) (first | with_reducible exact HH.out | with_reducible assumption | exact ⟨((World.cell?_of_block ((Below.heap_setCell _ ⟨w.heap.size, 1, none⟩ _ pb hne2).trans (Below.heap_setCell w10.drew ⟨w.heap.size, 0, none⟩ _ pb hne2))).trans HH.out.1), ((World.cell?_of_block ((Below.heap_setCell _ ⟨w.heap.size, 1, none⟩ _ pb hne2).trans (Below.heap_setCell w10.drew ⟨w.heap.size, 0, none⟩ _ pb hne2))).trans HH.out.2)⟩)
        (fail)
      go_wp2
      have HZ11 : ((w10.setCell ⟨w.heap.size, 0, none⟩ (.int .i64 0)).setCell ⟨w.heap.size, 1, none⟩ (.slice B2 ro.length c2)).heap[w.heap.size]? = some (.cells #[.int .i64 0, .slice B2 ro.length c2] 54 (0, 0)) := heap_setCell_same _ w.heap.size 1 _ _ _ (heap_setCell_same w10 w.heap.size 0 _ _ _ HZ10.out)
      have hO := ((Only.refl (fun k => k = w.heap.size) w10).setCell (p := ⟨w.heap.size, 0, none⟩) (.inl rfl) (.int .i64 0)).setCell (p := ⟨w.heap.size, 1, none⟩) (.inl rfl) (.slice B2 ro.length c2)
      have hO2 := (HO10.out.setCell (p := ⟨w.heap.size, 0, none⟩) (.inr (Nat.le_refl _)) (.int .i64 0)).setCell (p := ⟨w.heap.size, 1, none⟩) (.inr (Nat.le_refl _)) (.slice B2 ro.length c2)
      have hR11 := RP.less_ (HR10.out.on hO (fun k hk => .inl (.inr hk)) (by omega)) (fun k hk => .inl (.inl hk)) HFb.out
      have hN11 := HN10.out.on hO (fun e => by omega) (fun e => by omega)
      have hL11 := (LiesF.on HL10.out hO (fun k hk => .inl (.inr hk))).lies
      have hro := HRO.out
      have hout := HOUT.out
      have hws2 := HWS2.out
      clear HRO HOUT HWS2
      subst hro hout hws2
      exact bodyPost_ret (results_four rfl _ _ w.heap.size _ rfl rfl HZ11) rfl ⟨⟨Nd.below hN11 (Below.refl _ _).drew⟩, ⟨⟨hO2.os, hO2.tape, hO2.output, hO2.size, hO2.block⟩⟩, .inr ⟨hme, _, B2, c2, rfl, ⟨hR11.below (Below.refl _ _).drew⟩, ⟨hL11⟩⟩⟩
end
end Go.Proofs.Ytacfmkmiikkppaa.Tq

/-
  Drop, Fail, Back and a word of the node, on both sides.
-/
import Derived.Test.YtacfmkmiikkppaaDa
namespace Go.Proofs.Ytacfmkmiikkppaa.Dd
open Go.ChangeShapes Go.WideShapes Go.ChangeAt Go.RowKit Ga Gb Na Nb Nc Nd_ Nf Va Vb Vd Ve Vf Vg Qa Qb Qc Qd Qe Qf Qg Qh Qj Qk Ta Tb Tc Td Te Tf Tg Th Ti Tk To Tp Tq Tt Tu Tv Tw Tx Da
set_option linter.unusedVariables false
set_option linter.unusedSimpArgs false
set_option maxHeartbeats 1000000
set_option maxRecDepth 100000
section
variable {F S : Nat → Prop} {w w' : World} {x : Plc} {cl inc m : Nat} {V : Value} {q : List Pq} {ex : Nat} {B : Option Addr} {cb : Nat} {r : List Nat} {Q : Value} {qe : List Pe} {ws ws' : List Nat} {up up' : Bool}
theorem Iv.nodes (h : Iv F w x cl inc V q ex B cb r Q qe ws up) (ho : Only S w w') (hs : ∀ k, S k → k = x.bn ∨ k = x.gn ∨ k = x.rn ∨ k = x.rg) (hn : PN w' x.bn x.gn 320 x.cp ws' up') (hm : RN w' x.rn x.rg 320 x.cr ws' up') : Iv F w' x cl inc V q ex B cb r Q qe ws' up' := by
  have hS := h.st
  have hap := St.ap hS
  have hsF : ∀ k, S k → F k := fun k hk => by
    rcases hs k hk with e | e | e | e
    · rw [e]; exact hap.f.2.1
    · rw [e]; exact hap.f.2.2.1
    · rw [e]; exact hap.f.2.2.2.2.1
    · rw [e]; exact hap.f.2.2.2.2.2
  refine ⟨⟨hS.pp.on ho (fun hh => ?_) (fun g hg hh => ?_) (fun g hg hh => ?_) hsF, hn, hS.rp.on ho hsF (fun hh => ?_), hm, hS.ff, hS.bb, hS.gg, fun k hk => Nat.lt_of_lt_of_le (hS.fb k hk) ho.size⟩, h.mq, h.ok, h.hx, h.rl, h.cl⟩
  · have := hap.a
    rcases hs _ hh with e | e | e | e <;> omega
  · have := hap.v g hg
    rcases hs _ hh with e | e | e | e <;> omega
  · have := hap.w g hg
    rcases hs _ hh with e | e | e | e <;> omega
  · have := hap.b
    have := hap.c
    have := hap.d
    rcases hs _ hh with e | e | e | e <;> omega
theorem Iv.nx (h : Iv F w x cl inc V q ex B cb r Q qe ws up) (hm : q.length ≤ m) : Okk F w x cl inc m := ⟨V, q, ex, B, cb, r, Q, qe, ws, up, h, hm⟩
end
section
variable (F : Nat → Prop) (x : Plc) (cl inc m : Nat) (w : World)
theorem drop_both (h : Lk (Okk F w x cl inc m)) :
    Calls Try.prog 38 #[.pointer (some ⟨x.bp, 0, none⟩)] w fun e w1 => e = .returned (.tuple #[]) ∧ Lk (Only F w w1) ∧ Lk (w1.frozen? ⟨x.rb, 3, none⟩ = false ∧ ∃ u, w1.cell? ⟨x.rb, 3, none⟩ = some u) ∧ Lk (Nx F w x cl inc m (w1.setCell ⟨x.rb, 3, none⟩ (.slice none 0 0))) := by
  obtain ⟨V, q, ex, B, cb, r, Q, qe, ws, up, hI, hm⟩ := h.out
  have hS := hI.st
  have hap := St.ap hS
  refine (drop_any F x.bp cl inc 0 V q ex B cb r w ⟨hS.pp⟩).mono ?_
  rintro e w1 ⟨rfl, HP1, HO1⟩
  have hsub : ∀ k, k = x.bp → F k := fun k e => by rw [e]; exact hap.f.1
  have hR1 := hS.rp.on HO1.out hsub (fun e => hap.a.2.2.1 e.symm)
  have hN1 := hS.pn.on HO1.out (fun e => hap.a.1 e.symm) (fun e => hap.a.2.1 e.symm)
  have hM1 := hS.rn.on HO1.out (fun e => hap.a.2.2.2.1 e.symm) (fun e => hap.a.2.2.2.2 e.symm)
  have hs1 := HO1.out.size
  have hfb : ∀ g, w1.heap.size ≤ g → ¬ F g := fun g hg hF => by have := hS.fb g hF; omega
  have hput := RP.put (q2 := []) (Q2 := .slice none 0 0) hR1 (Below.refl _ w1) (World.ownsRow_nil _ _ _ _) hfb (fun p hp => by cases hp)
  have hO2 : Only (fun k => k = x.rb) w1 (w1.setCell ⟨x.rb, 3, none⟩ (.slice none 0 0)) := (Only.refl (fun k => k = x.rb) w1).setCell (p := ⟨x.rb, 3, none⟩) (.inl rfl) _
  refine ⟨rfl, ⟨HO1.out.mono hsub⟩, ⟨hput.2.1, _, hput.2.2⟩, ⟨F, ⟨.slice none 0 0, [], 0, none, 0, [], .slice none 0 0, [], ws, up, ⟨⟨?_, ?_, hput.1, ?_, hS.ff, (fun g hg => by cases hg), hS.gg, fun k hk => Nat.lt_of_lt_of_le (Nat.lt_of_lt_of_le (hS.fb k hk) hs1) hO2.size⟩, ⟨rfl, rfl, rfl⟩, (fun p hp => by cases hp), (fun p t e => by cases e), by simp, hI.cl⟩, by simp⟩, fun k hk => .inl hk, ?_⟩⟩
  · exact HP1.out.on hO2 (fun e => hap.a.2.2.1 e) (fun g hg => by cases hg) (fun g hg => by cases hg) (fun k hk => by rw [hk]; exact hap.f.2.2.2.1)
  · exact hN1.on hO2 (fun e => hap.b.2.1 e) (fun e => hap.c.1 e)
  · exact hM1.on hO2 (fun e => hap.d.1 e.symm) (fun e => hap.d.2.1 e.symm)
  · exact (HO1.out.mono hsub).trans (hO2.mono (fun k hk => by rw [hk]; exact hap.f.2.2.2.1))
theorem fail_both (h : Lk (Okk F w x cl inc m)) :
    Calls Try.prog 24 #[.pointer (some ⟨x.bn, 0, none⟩)] w fun e w1 => e = .returned (.tuple #[]) ∧ Lk (Only F w w1) ∧ Lk (w1.frozen? ⟨x.rn, 1, none⟩ = false ∧ ∃ u, w1.cell? ⟨x.rn, 1, none⟩ = some (.bool u)) ∧ Lk (Nx F w x cl inc m (w1.setCell ⟨x.rn, 1, none⟩ (.bool false))) := by
  obtain ⟨V, q, ex, B, cb, r, Q, qe, ws, up, hI, hm⟩ := h.out
  have hS := hI.st
  have hap := St.ap hS
  refine (fail_any x.bn x.gn 320 x.cp ws up w ⟨hS.pn⟩).mono ?_
  rintro e w1 ⟨rfl, HN1, HO1⟩
  have hM1 := hS.rn.on HO1.out (fun e => hap.b.2.2.1 e.symm) (fun e => hap.b.2.2.2 e.symm)
  have hO2 : Only (fun k => k = x.rn) w1 (w1.setCell ⟨x.rn, 1, none⟩ (.bool false)) := (Only.refl (fun k => k = x.rn) w1).setCell (p := ⟨x.rn, 1, none⟩) (.inl rfl) _
  have hN2 := HN1.out.on hO2 (fun e => hap.b.2.2.1 e) (fun e => hap.c.2.1 e)
  have hO := (HO1.out.mono (S' := fun k => k = x.bn ∨ k = x.rn) (fun k hk => .inl hk)).trans (hO2.mono (fun k hk => .inr hk))
  have hFO : ∀ k, (k = x.bn ∨ k = x.rn) → F k := fun k hk => hk.elim (fun e => by rw [e]; exact hap.f.2.1) (fun e => by rw [e]; exact hap.f.2.2.2.2.1)
  exact ⟨rfl, ⟨HO1.out.mono (fun k e => hFO k (.inl e))⟩, ⟨hM1.f1 1, up, hM1.c1⟩, ⟨F, Iv.nx (Iv.nodes hI hO (fun k hk => hk.elim .inl (fun e => .inr (.inr (.inl e)))) hN2 (hM1.setUp false)) hm, fun k hk => .inl hk, hO.mono hFO⟩⟩
theorem back_both (h : Lk (Okk F w x cl inc m)) :
    Calls Try.prog 25 #[.pointer (some ⟨x.bn, 0, none⟩)] w fun e w1 => ∃ z : Bool, e = .returned (.bool z) ∧ Lk (Only F w w1) ∧ Lk (∀ wx, Below w1.heap.size w1 wx → Calls Try.prog 40 #[.pointer (some ⟨x.rn, 0, none⟩)] wx fun e2 w2 => e2 = .returned (.bool z) ∧ Lk (Nx F w x cl inc m w2)) := by
  obtain ⟨V, q, ex, B, cb, r, Q, qe, ws, up, hI, hm⟩ := h.out
  have hS := hI.st
  have hap := St.ap hS
  refine (back_any x.bn x.gn 320 x.cp ws up w ⟨hS.pn⟩ (by omega) (by omega)).mono ?_
  rintro e w1 ⟨rfl, HN1, HO1⟩
  have hF1 : ∀ k, (k = x.bn ∨ k = x.gn) → F k := fun k hk => hk.elim (fun e => by rw [e]; exact hap.f.2.1) (fun e => by rw [e]; exact hap.f.2.2.1)
  refine ⟨_, rfl, ⟨HO1.out.mono hF1⟩, ⟨fun wx hb => ?_⟩⟩
  have hM1 := Nd.below (hS.rn.on HO1.out (fun hh => hh.elim (fun e => hap.b.2.2.1 e.symm) (fun e => hap.c.2.1 e.symm)) (fun hh => hh.elim (fun e => hap.b.2.2.2 e.symm) (fun e => hap.c.2.2 e.symm))) hb
  refine (refBack_any x.rn x.rg 320 x.cr ws up wx ⟨hM1⟩ (by omega)).mono ?_
  rintro e2 w2 ⟨rfl, HM2, HO2⟩
  have hN2 := (Nd.below HN1.out hb).on HO2.out (fun hh => hh.elim (fun e => hap.b.2.2.1 e) (fun e => hap.b.2.2.2 e)) (fun hh => hh.elim (fun e => hap.c.2.1 e) (fun e => hap.c.2.2 e))
  have hO : Only (fun k => k = x.bn ∨ k = x.gn ∨ k = x.rn ∨ k = x.rg) w w2 := (HO1.out.mono (fun k hk => hk.elim .inl (fun e => .inr (.inl e)))).trans ((Only.of_below hb).trans (HO2.out.mono (fun k hk => .inr (.inr hk))))
  have hFO : ∀ k, (k = x.bn ∨ k = x.gn ∨ k = x.rn ∨ k = x.rg) → F k := fun k hk => by
    rcases hk with e | e | e | e
    · rw [e]; exact hap.f.2.1
    · rw [e]; exact hap.f.2.2.1
    · rw [e]; exact hap.f.2.2.2.2.1
    · rw [e]; exact hap.f.2.2.2.2.2
  exact ⟨rfl, ⟨F, Iv.nx (Iv.nodes hI hO (fun k hk => hk) hN2 HM2.out) hm, fun k hk => .inl hk, hO.mono hFO⟩⟩
theorem put_one {ws : List Nat} {j y : Nat} (h : j < ws.length) : putW ws j [y] = ws.set j y := by
  apply List.ext_getElem?
  intro i
  rw [putW_get (by simp; omega), List.getElem?_set]
  simp only [List.length_cons, List.length_nil]
  by_cases h1 : j = i
  · subst h1
    rw [if_neg (by omega), if_pos (by omega), if_pos rfl, if_pos h, Nat.sub_self]
    rfl
  · rw [if_neg h1]
    split
    · rfl
    · rw [if_neg (by omega)]
/-- A word of the node that is up, on the reference's side first. -/
theorem word_up {V : Value} {q : List Pq} {ex : Nat} {B : Option Addr} {cb : Nat} {r : List Nat} {Q : Value} {qe : List Pe} {ws : List Nat} (hI : Lk (Iv F w x cl inc V q ex B cb r Q qe ws true)) (hm : q.length ≤ m) (j y : Nat) (hj : j < 320) (hy : y < 18446744073709551616) (wx : World) (hb : Lk (Below w.heap.size (w.setCell ⟨x.rg, j, none⟩ (.int .u64 (y : Int))) wx)) (g : Nat) (hg : Lk (wx.cell? ⟨g, 0, none⟩ = some (.int .u64 (y : Int)))) :
    Calls Try.prog 33 #[.pointer (some ⟨x.bn, 0, none⟩), .int .i64 j, .slice (some ⟨g, 0, none⟩) 1 1] wx fun e w2 => e = .returned (.int .i64 0) ∧ Lk (Nx F w x cl inc m w2) ∧ Lk (w2.cell? ⟨x.rn, 1, none⟩ = some (.bool true)) := by
  have hS := hI.out.st
  have hap := St.ap hS
  have hO1 : Only (fun k => k = x.rg) w (w.setCell ⟨x.rg, j, none⟩ (.int .u64 (y : Int))) := (Only.refl (fun k => k = x.rg) w).setCell (p := ⟨x.rg, j, none⟩) (.inl rfl) _
  have hs1 : (w.setCell ⟨x.rg, j, none⟩ (.int .u64 (y : Int))).heap.size = w.heap.size := by simp
  have hbx : Below (w.setCell ⟨x.rg, j, none⟩ (.int .u64 (y : Int))).heap.size (w.setCell ⟨x.rg, j, none⟩ (.int .u64 (y : Int))) wx := by rw [hs1]; exact hb.out
  have hM1 := Nd.below (hS.rn.set j y hy) hbx
  have hN1 := Nd.below (hS.pn.on hO1 (fun e => hap.b.2.2.2 e) (fun e => hap.c.2.2 e)) hbx
  refine (write_ok x.bn x.gn 320 x.cp ws j ⟨g, 0, none⟩ [y] 1 1 wx ⟨hN1⟩ (by omega) rfl (by omega) (by omega) ⟨fun z hz => by simp at hz; omega⟩ ⟨fun i hi => ?_⟩).mono ?_
  · obtain rfl : i = 0 := by omega
    rw [add_zero_]
    exact hg.out
  rintro e w2 ⟨rfl, HN2, HO2⟩
  have hM2 := hM1.on HO2.out (fun hh => hh.elim (fun e => hap.b.2.2.1 e.symm) (fun e => hap.c.2.1 e.symm)) (fun hh => hh.elim (fun e => hap.b.2.2.2 e.symm) (fun e => hap.c.2.2 e.symm))
  have hO : Only (fun k => k = x.bn ∨ k = x.gn ∨ k = x.rn ∨ k = x.rg) w w2 := (hO1.mono (fun k e => .inr (.inr (.inr e)))).trans ((Only.of_below hbx).trans (HO2.out.mono (fun k hk => hk.elim .inl (fun e => .inr (.inl e)))))
  have hFO : ∀ k, (k = x.bn ∨ k = x.gn ∨ k = x.rn ∨ k = x.rg) → F k := fun k hk => by
    rcases hk with e | e | e | e
    · rw [e]; exact hap.f.2.1
    · rw [e]; exact hap.f.2.2.1
    · rw [e]; exact hap.f.2.2.2.2.1
    · rw [e]; exact hap.f.2.2.2.2.2
  have hN3 := HN2.out
  rw [put_one (by rw [hS.pn.row.len]; omega)] at hN3
  exact ⟨rfl, ⟨F, Iv.nx (Iv.nodes hI.out hO (fun k hk => hk) hN3 hM2) hm, fun k hk => .inl hk, hO.mono hFO⟩, ⟨hM2.c1⟩⟩
end
end Go.Proofs.Ytacfmkmiikkppaa.Dd

/-
  The program's Step: at an empty queue, and where the node refuses.
-/
import Derived.Test.YtadeghfhjiohnaaTf
import Derived.Test.YtadeghfhjiohnaaHq
import Derived.Test.YtadeghfhjiohnaaVg
namespace Go.Proofs.Ytadeghfhjiohnaa.Tg
open Go.ChangeShapes Go.WideShapes Go.ChangeAt Go.RowKit Ga Gb Na Nb Nc Nd_ Va Vb Vd Ve Vf Vg Qa Qb Qd Qj Ta Tb Tc Td Te Tf
set_option linter.unusedVariables false
set_option linter.unusedSimpArgs false
set_option maxHeartbeats 1000000
set_option maxRecDepth 100000
def cntM (v : Mv) : Int := cnt v.k v.n v.s.length
/-- A verb that a pair takes. -/
structure OkV (v : Mv) : Prop where
  o : v.o < 18446744073709551616
  ne : v.ne < 18446744073709551616
  bo : v.bo ≤ 9223372036854775807
  s : wide v.s
  ok : validC v.k v.nd v.a (cntM v) 5 256 = 0
def aM (v : Mv) : Nat := v.a.toNat
def cM (v : Mv) : Nat := (cntM v).toNat
def nP (v : Mv) : Nat := numP (aM v) (aM v + cM v)
def atM (v : Mv) (ex : Nat) : Nat := cutp (aM v) (aM v + cM v) ex
def mM (v : Mv) (ex : Nat) : Nat := cutp (aM v) (aM v + cM v) (ex + 1) - cutp (aM v) (aM v + cM v) ex
theorem OkV.pos {v : Mv} (h : OkV v) : v.a = aM v ∧ cntM v = cM v ∧ 1 ≤ cM v ∧ aM v + cM v ≤ 2048 ∧ (v.k = 1 ∨ v.k = 2 ∨ v.k = 3 ∨ v.k = 4) := by
  have hp := valid_pos h.ok
  refine ⟨by unfold aM; omega, by unfold cM; omega, by unfold cM; omega, by unfold aM cM; omega, ?_⟩
  have h1 := hp.2.1
  unfold cntM cnt at h1
  by_cases e1 : v.k = 1
  · exact .inl e1
  · rw [if_neg e1] at h1
    by_cases e2 : v.k = 2
    · exact .inr (.inl e2)
    · rw [if_neg e2] at h1
      by_cases e3 : v.k = 3 ∨ v.k = 4
      · exact .inr (.inr e3)
      · rw [if_neg e3] at h1; omega
theorem OkV.piece {v : Mv} {ex : Nat} (h : OkV v) (hx : ex < nP v) : aM v ≤ atM v ex ∧ 1 ≤ mM v ex ∧ atM v ex + mM v ex ≤ aM v + cM v ∧ (v.k = 3 ∨ v.k = 4 → mM v ex = 1) ∧ (v.k = 2 → aM v ≤ atM v ex ∧ atM v ex - aM v + mM v ex ≤ v.s.length) := by
  obtain ⟨h1, h2, h3, h4, h5⟩ := h.pos
  have hlt := cut_lt' (a := aM v) (e := aM v + cM v) (by omega) hx
  have hn := cut_next (a := aM v) (e := aM v + cM v) (by omega) hx
  have ha : aM v ≤ atM v ex := by
    unfold atM cutp
    unfold nP numP at hx
    split
    · omega
    · omega
  have hm1 : 1 ≤ mM v ex := by unfold mM; omega
  have hm2 : atM v ex + mM v ex ≤ aM v + cM v := by unfold mM atM; omega
  refine ⟨ha, hm1, hm2, fun hk => ?_, fun hk => ⟨ha, ?_⟩⟩
  · have : cM v = 1 := by
      unfold cM cntM cnt
      rw [if_neg (by omega), if_neg (by omega), if_pos hk]
      rfl
    omega
  · have : cM v = v.s.length := by
      unfold cM cntM cnt
      rw [if_neg (by omega), if_pos hk]
      rfl
    omega
/-- The node's answer to a verb; what the next piece reads, and what it makes of the node's words. -/
def codeV (cl inc L : Nat) (ws : List Nat) (up : Bool) (v : Mv) : Int := codeM cl inc v.k v.nd v.a (cntM v) v.ky v.bo L ws up
def outS (v : Mv) (ws : List Nat) (ex : Nat) : List Nat := outM v.k ws (atM v ex) (mM v ex)
def wsS (v : Mv) (ws : List Nat) (ex : Nat) : List Nat := wsM v.k (aM v) v.o v.ne v.s ws (atM v ex) (mM v ex)
theorem codeV_ok {cl inc L : Nat} {ws : List Nat} {up : Bool} {v : Mv} (h : codeV cl inc L ws up v = 0) : up = true ∧ validC v.k v.nd v.a (cntM v) 5 L = 0 := by
  unfold codeV codeM at h
  cases up with
  | false => rw [if_pos rfl] at h; omega
  | true =>
    rw [if_neg (by simp)] at h
    by_cases hv : validC v.k v.nd v.a (cntM v) 5 L = 0
    · exact ⟨rfl, hv⟩
    · rw [if_pos hv] at h; omega
theorem results_done {fn : Func} {p u : Tmp} (h : fn.results = #[.cell p 117, .tmp u]) (tmps : Array Value) (w : World) (g : Nat) (cs : Array Value) (hcs : cs.size = 2) (hp : tmps.getD p undef = .pointer (some ⟨g, 0, none⟩)) (hg : w.heap[g]? = some (.cells cs 117 (0, 0))) :
    (results fn tmps).run Try.prog w = .ok (.tuple #[.agg cs, tmps.getD u undef]) w := by
  have hi : (Try.prog.info? 117).map (·.size) = some cs.size := by rw [hcs]; kernel_rfl
  have hl := run_loadVar_row (P := Try.prog) w g 117 117 cs (0, 0) _ hg done_under rfl hi
  have hp' : tmps[p]?.getD undef = .pointer (some ⟨g, 0, none⟩) := by simpa using hp
  simp [results, h, hp', asAddr, hl, Result.andThen]
theorem _root_.Go.Proofs.Ytadeghfhjiohnaa.Tc.PP.less {F F' : Nat → Prop} {w : World} {b : Nat} {cl inc nd : Int} {V : Value} {q : List Pq} {ex : Nat} {B : Option Addr} {cb : Nat} {r : List Nat} (h : PP F' w b cl inc nd V q ex B cb r) (hs : ∀ k, F k → F' k) (hb : F b) (hv : ∀ g, V.ownBlock = some g → F g) (hw : ∀ g, (Value.slice B r.length cb).ownBlock = some g → F g) : PP F w b cl inc nd V q ex B cb r :=
  ⟨h.z, hb, h.own, hv, h.ow, hw, fun p hp => ⟨LiesF.less_ (h.wd p hp).1 hs, (h.wd p hp).2⟩, h.wr⟩
/-- The first of the queue, cell by cell. -/
theorem first_q {F : Nat → Prop} {w : World} {b : Nat} {cl inc nd : Int} {V : Value} {p : Pq} {q : List Pq} {ex : Nat} {B : Option Addr} {cb : Nat} {r : List Nat} (h : PP F w b cl inc nd V (p :: q) ex B cb r) : ∃ g off c, V = .slice (some ⟨g, off, none⟩) (q.length + 1) c ∧ (World.cell? w (Addr.mk g off none) = some (Value.int IntKind.i64 p.v.k) ∧ World.cell? w (Addr.mk g (off + 1) none) = some (Value.int IntKind.i64 p.v.nd) ∧ World.cell? w (Addr.mk g (off + 2) none) = some (Value.int IntKind.i64 p.v.a) ∧ World.cell? w (Addr.mk g (off + 3) none) = some (Value.int IntKind.i64 p.v.n) ∧ World.cell? w (Addr.mk g (off + 4) none) = some (Value.int IntKind.u64 ((p.v.o : Int))) ∧ World.cell? w (Addr.mk g (off + 5) none) = some (Value.int IntKind.u64 ((p.v.ne : Int))) ∧ World.cell? w (Addr.mk g (off + 6) none) = some (Value.slice p.A p.v.s.length p.c) ∧ World.cell? w (Addr.mk g (off + 7) none) = some (Value.int IntKind.u64 p.v.ky) ∧ World.cell? w (Addr.mk g (off + 8) none) = some (Value.int IntKind.i64 p.v.bo)) ∧ q.length + 1 ≤ 9223372036854775807 := by
  obtain ⟨g, off, c, rfl, h1, h2, hfz, hc⟩ := h.own.cells (by simp)
  rw [List.length_cons] at h1
  refine ⟨g, off, c, rfl, ⟨hc 0 _ rfl, hc 1 _ rfl, hc 2 _ rfl, hc 3 _ rfl, hc 4 _ rfl, hc 5 _ rfl, hc 6 _ rfl, hc 7 _ rfl, hc 8 _ rfl⟩, by unfold maxLen at h2; omega⟩
section
variable (F : Nat → Prop) (b : Nat) (cl inc : Nat) (pnd : Int) (V : Value) (p : Pq) (q : List Pq) (ex : Nat) (B : Option Addr) (cb : Nat) (r : List Nat) (nb ng nn ncap : Nat) (ws : List Nat) (up : Bool) (L : Nat) (w : World)
end
end Go.Proofs.Ytadeghfhjiohnaa.Tg

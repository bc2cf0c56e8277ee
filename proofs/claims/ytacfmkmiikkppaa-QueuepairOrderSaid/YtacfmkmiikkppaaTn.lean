/-
  Several writes of one pair, one after the other.
-/
import Derived.Test.YtacfmkmiikkppaaTm
import Derived.Test.YtacfmkmiikkppaaUn
import Derived.Test.YtacfmkmiikkppaaVsw
namespace Go.Proofs.Ytacfmkmiikkppaa.Tn
open Go.ChangeShapes Go.WideShapes Go.ChangeAt Go.RowKit Ga Na Nb Nc Nd_ Va Vb Vd Ve Vf Qa Qb Qd Ta Tc Td Te Tf Tg Th Ti Tk Tl_ Tm
set_option linter.unusedVariables false
set_option linter.unusedSimpArgs false
set_option maxHeartbeats 1000000
set_option maxRecDepth 100000
abbrev Tr := Nat × Nat × Nat
def vT (t : Tr) : Mv := wv t.1 t.2.1 t.2.2
def okT (t : Tr) : Prop := 40 ≤ t.1 ∧ t.1 < 240 ∧ 1 ≤ t.2.2 ∧ t.2.2 ≤ 30
def foldW (ws : List Nat) (ts : List Tr) : List Nat := ts.foldl (fun ws t => putW ws t.1 (rawW t.2.1 t.2.2)) ws
theorem fold_more (ws : List Nat) (ts : List Tr) (t : Tr) : foldW ws (ts ++ [t]) = putW (foldW ws ts) t.1 (rawW t.2.1 t.2.2) := by simp [foldW]
theorem fold_len {ts : List Tr} (h : ∀ t ∈ ts, okT t) : ∀ ws : List Nat, ws.length = 320 → (foldW ws ts).length = 320 := by
  induction ts with
  | nil => exact fun ws h => h
  | cons t ts ih =>
    intro ws hw
    have ht := h t (List.mem_cons_self ..)
    unfold okT at ht
    show (foldW (putW ws t.1 (rawW t.2.1 t.2.2)) ts).length = 320
    exact ih (fun t ht => h t (List.mem_cons_of_mem _ ht)) _ (by rw [putW_len (by rw [rawW_len]; omega)]; exact hw)
theorem fold_low {ts : List Tr} (h : ∀ t ∈ ts, okT t) {j : Nat} (hj : j < 40) : ∀ ws : List Nat, ws.length = 320 → (foldW ws ts)[j]? = ws[j]? := by
  induction ts with
  | nil => exact fun ws h => rfl
  | cons t ts ih =>
    intro ws hw
    have ht := h t (List.mem_cons_self ..)
    unfold okT at ht
    show (foldW (putW ws t.1 (rawW t.2.1 t.2.2)) ts)[j]? = _
    rw [ih (fun t ht => h t (List.mem_cons_of_mem _ ht)) _ (by rw [putW_len (by rw [rawW_len]; omega)]; exact hw), putW_get (by rw [rawW_len]; omega), if_pos (by omega)]
theorem fold_same {ts : List Tr} (h : ∀ t ∈ ts, okT t) {j : Nat} : ∀ ws ws' : List Nat, ws.length = 320 → ws'.length = 320 → ws[j]? = ws'[j]? → (foldW ws ts)[j]? = (foldW ws' ts)[j]? := by
  induction ts with
  | nil => exact fun ws ws' _ _ h => h
  | cons t ts ih =>
    intro ws ws' hw hw' he
    have ht := h t (List.mem_cons_self ..)
    unfold okT at ht
    show (foldW (putW ws t.1 (rawW t.2.1 t.2.2)) ts)[j]? = (foldW (putW ws' t.1 (rawW t.2.1 t.2.2)) ts)[j]?
    refine ih (fun t ht => h t (List.mem_cons_of_mem _ ht)) _ _ (by rw [putW_len (by rw [rawW_len]; omega)]; exact hw) (by rw [putW_len (by rw [rawW_len]; omega)]; exact hw') ?_
    rw [putW_get (by rw [rawW_len]; omega), putW_get (by rw [rawW_len]; omega), he]
theorem fold_lt {ts : List Tr} : ∀ ws : List Nat, (∀ x ∈ ws, x < 18446744073709551616) → ∀ x ∈ foldW ws ts, x < 18446744073709551616 := by
  induction ts with
  | nil => exact fun ws h => h
  | cons t ts ih => exact fun ws h => ih _ (putW_lt h (rawW_lt _ _))
theorem okT.ok {t : Tr} (h : okT t) : OkV (vT t) := by
  unfold okT at h
  exact wv_ok (by omega) (by omega) (by omega) (by omega)
theorem okT.num {t : Tr} (h : okT t) : 1 ≤ nP (vT t) ∧ nP (vT t) ≤ 5 := by
  unfold okT at h
  unfold vT
  rw [wv_n]
  unfold numP
  omega
theorem okT.whole {t : Tr} (h : okT t) (ws : List Nat) : wsI ws (vT t) (nP (vT t)) = putW ws t.1 (rawW t.2.1 t.2.2) := by
  unfold okT at h
  unfold wsI
  have e : atM (vT t) (nP (vT t)) = t.1 + t.2.2 := by
    unfold atM nP
    rw [cut_end (by unfold vT; rw [wv_a, wv_c]; omega)]
    unfold vT
    rw [wv_a, wv_c]
  rw [e]
  unfold vT
  rw [wv_a]
  show putW ws t.1 (List.take (t.1 + t.2.2 - t.1) (rawW t.2.1 t.2.2)) = _
  rw [List.take_of_length_le (by rw [rawW_len]; omega)]
def curW (dn rs : List Tr) (ex : Nat) : List Nat := match rs with
  | [] => foldW wsF dn
  | t :: _ => wsI (foldW wsF dn) (vT t) ex
def left : List Tr → Nat
  | [] => 0
  | t :: rs => nP (vT t) + left rs
theorem left_le {ts : List Tr} (h : ∀ t ∈ ts, okT t) : left ts ≤ 5 * ts.length := by
  induction ts with
  | nil => simp [left]
  | cons t ts ih =>
    have h1 := (h t (List.mem_cons_self ..)).num
    have h2 := ih (fun t ht => h t (List.mem_cons_of_mem _ ht))
    simp only [left, List.length_cons]
    omega
theorem left_app (a b : List Tr) : left (a ++ b) = left a + left b := by
  induction a with
  | nil => simp [left]
  | cons t a ih => simp only [List.cons_append, left, ih]; omega
/-- The writes dn are done, rs are pending, ex pieces of the first executed, i in all. -/
structure Sq (w0 W : World) (x : Plc) (vb : Option Nat) (ts dn rs : List Tr) (q : List Pq) (ex i : Nat) : Prop where
  cut : ts = dn ++ rs
  vs : q.map (·.v) = rs.map vT
  wr : Wr w0 W x vb q ex (curW dn rs ex) true
  nil : rs = [] → ex = 0
  lt : ∀ t rest, rs = t :: rest → ex < nP (vT t)
  num2 : left dn + ex = i
theorem sq_step {w0 W : World} {x : Plc} {vb : Option Nat} {ts dn rs : List Tr} {q : List Pq} {ex i : Nat} (h : Lk (Sq w0 W x vb ts dn rs q ex i)) (hok : Lk (∀ t ∈ ts, okT t)) (hq : q ≠ []) :
    Calls Try.prog 20 #[.pointer (some ⟨x.bp, 0, none⟩), .pointer (some ⟨x.bn, 0, none⟩)] W fun e w' =>
      ∃ (don : Bool) (B : Option Addr) (cb : Nat) (dn' rs' : List Tr) (q' : List Pq) (ex' : Nat), e = .returned (.tuple #[.agg #[.int .i64 0, .slice B 0 cb], .bool don]) ∧ Lk (Sq w0 w' x vb ts dn' rs' q' ex' (i + 1)) := by
  have hS := h.out
  match q, hq, hS.vs with
  | [], hq, _ => exact absurd rfl hq
  | p :: q, _, hvs =>
    match rs, hvs, hS with
    | [], hvs, _ => simp at hvs
    | t :: rs, hvs, hS =>
      simp only [List.map_cons, List.cons.injEq] at hvs
      obtain ⟨hp, hqs⟩ := hvs
      have hlt := hS.lt t rs rfl
      have hts : ∀ t' ∈ dn, okT t' := fun t' ht' => hok.out t' (by rw [hS.cut]; exact List.mem_append_left _ ht')
      have ht : okT t := hok.out t (by rw [hS.cut]; exact List.mem_append_right _ (List.mem_cons_self ..))
      have htt := ht
      unfold okT at htt
      have hl := fold_len hts wsF wsF_len
      have hacl : aM (vT t) + cM (vT t) ≤ (foldW wsF dn).length := by rw [hl]; unfold vT; rw [wv_a, wv_c]; omega
      have hg := fun j => wsI_get (ws := foldW wsF dn) ht.ok rfl (Nat.le_of_lt hlt) hacl j
      have hcode : codeV 0 1 40 (curW dn (t :: rs) ex) true (vT t) = 0 := by
        have hav : aM (vT t) = t.1 := wv_a _ _ _
        refine wv_code (i := 0) (by omega) (by omega) (by omega) (by omega) ?_ ?_ ?_
        · exact (hg 0).trans (by rw [if_neg (by rw [hav]; omega), fold_low hts (by omega) _ wsF_len]; rfl)
        · exact (hg 1).trans (by rw [if_neg (by rw [hav]; omega), fold_low hts (by omega) _ wsF_len]; rfl)
        · exact (hg 24).trans (by rw [if_neg (by rw [hav]; omega), fold_low hts (by omega) _ wsF_len]; exact wsF_get (by omega) (by omega))
      have hnext : wsS (vT t) (curW dn (t :: rs) ex) ex = wsI (foldW wsF dn) (vT t) (ex + 1) := wsI_next ht.ok rfl hlt hacl
      rw [← hp] at hcode hnext hlt
      refine (wr_step ⟨hS.wr⟩ ⟨by rw [hp]; exact ht.ok⟩ (by rw [hp]; rfl) hcode hlt).mono ?_
      rintro e w' (⟨h1, he, HW⟩ | ⟨h1, B, cb, he, HW⟩)
      · rw [hnext] at HW
        refine ⟨false, none, 0, dn, t :: rs, p :: q, ex + 1, he, ⟨⟨hS.cut, by simp [hp, hqs], by rw [hp] at HW; exact HW.out, (fun h => by cases h), fun t' r' h => ?_, ?_⟩⟩⟩
        · cases h
          rw [← hp]; exact h1
        · have := hS.num2; omega
      · rw [hnext, h1, hp, ht.whole] at HW
        have h2 : ex + 1 = nP (vT t) := by rw [← hp]; exact h1
        have hc2 : ts = (dn ++ [t]) ++ rs := by rw [hS.cut]; simp
        have hll : left (dn ++ [t]) = left dn + nP (vT t) := by rw [left_app]; simp [left]
        have hlr : left ts = left dn + (nP (vT t) + left rs) := by rw [hS.cut, left_app]; rfl
        refine ⟨true, B, cb, dn ++ [t], rs, q, 0, he, ⟨⟨hc2, hqs, ?_, fun _ => rfl, fun t' r' h => ?_, ?_⟩⟩⟩
        · have hcur : curW (dn ++ [t]) rs 0 = putW (foldW wsF dn) t.1 (rawW t.2.1 t.2.2) := by
            rw [← fold_more]
            match rs with
            | [] => rfl
            | t' :: rs' => exact wsI_zero _ _
          rw [hcur]
          exact HW.out
        · have ht' : okT t' := hok.out t' (by rw [hS.cut, h]; simp)
          exact ht'.num.1
        · have := hS.num2; omega
theorem Sq.on {w0 W W' : World} {x : Plc} {vb : Option Nat} {ts dn rs : List Tr} {q : List Pq} {ex i : Nat} (h : Sq w0 W x vb ts dn rs q ex i) (hb : Below W.heap.size W W') : Sq w0 W' x vb ts dn rs q ex i := ⟨h.cut, h.vs, h.wr.on hb, h.nil, h.lt, h.num2⟩
theorem same_rest {ts : List Tr} (h : ∀ t ∈ ts, okT t) : ((foldW wsF ts).drop 40).take 230 = ((foldW (List.replicate 320 0) ts).drop 40).take 230 := by
  apply List.ext_getElem?
  intro j
  rw [List.getElem?_take, List.getElem?_take]
  split
  · rw [List.getElem?_drop, List.getElem?_drop]
    refine fold_same h _ _ wsF_len (by simp) ?_
    rw [wsF_get (by omega) (by omega), List.getElem?_replicate, if_pos (by omega)]
  · rfl
theorem Sq.lim {w0 W : World} {x : Plc} {vb : Option Nat} {ts dn rs : List Tr} {q : List Pq} {ex i : Nat} (h : Sq w0 W x vb ts dn rs q ex i) (hok : ∀ t ∈ ts, okT t) : i ≤ 5 * ts.length ∧ (q ≠ [] → i < 5 * ts.length) := by
  have hl := left_le hok
  have hc := h.num2
  have h2 : left ts = left dn + left rs := by rw [h.cut, left_app]
  match rs, h.vs, h with
  | [], hv, h =>
    have := h.nil rfl
    have hq : q = [] := by
      match q, hv with
      | [], _ => rfl
      | _ :: _, hv => simp at hv
    refine ⟨by omega, fun hh => absurd hq hh⟩
  | t :: rs, hv, h =>
    have h3 := h.lt t rs rfl
    have h4 : left (t :: rs) = nP (vT t) + left rs := rfl
    exact ⟨by omega, fun _ => by omega⟩
theorem Sq.end_ {w0 W : World} {x : Plc} {vb : Option Nat} {ts dn rs : List Tr} {ex i : Nat} (h : Sq w0 W x vb ts dn rs [] ex i) : PN W x.bn x.gn 320 x.cp (foldW wsF ts) true := by
  match rs, h.vs, h with
  | [], _, h =>
    have := h.wr.pn
    rw [h.cut, List.append_nil]
    exact this
  | t :: rs, hv, h => simp at hv
/-- The writes ts have been posted, and their words gathered at gw. -/
structure Pst (w w4 W : World) (x : Plc) (gw gx : Nat) (ts : List Tr) (F : Nat → Prop) (V : Value) (q : List Pq) : Prop where
  pp : PP F W x.bp 0 1 0 V q 0 none 0 []
  vs : q.map (·.v) = ts.map vT
  ff : F x.bn ∧ F x.gn ∧ F gw
  fb : ∀ k, F k → k < W.heap.size
  vb : ∀ k, V.ownBlock = some k → w4.heap.size ≤ k
  pn : PN W x.bn x.gn 320 x.cp wsF true
  row : Row W gw 320 320 (foldW (List.replicate 320 0) ts)
  xb : Xb W gx x
  below : Below w.heap.size w W
  wsz : w4.heap.size ≤ W.heap.size
/-- The numbers of the write i. -/
def tOf (zs : List Int) (sd i : Nat) : Tr := (40 + pk (zs.getD i 0) 200, sd + 100 * i, pk ((zs.getD i 0).tdiv 200) 30 + 1)
def tsOf (zs : List Int) (sd k : Nat) : List Tr := (List.range k).map (tOf zs sd)
theorem tsOf_more (zs : List Int) (sd k : Nat) : tsOf zs sd (k + 1) = tsOf zs sd k ++ [tOf zs sd k] := by simp [tsOf, List.range_succ]
theorem tsOf_len (zs : List Int) (sd k : Nat) : (tsOf zs sd k).length = k := by simp [tsOf]
theorem tOf_ok (zs : List Int) (sd i : Nat) : okT (tOf zs sd i) := by
  have h1 := pk_lt (zs.getD i 0) 200 (by omega)
  have h2 := pk_lt ((zs.getD i 0).tdiv 200) 30 (by omega)
  unfold okT tOf
  simp only
  omega
theorem tsOf_ok (zs : List Int) (sd k : Nat) : ∀ t ∈ tsOf zs sd k, okT t := fun t ht => by
  simp only [tsOf, List.mem_map] at ht
  obtain ⟨i, _, rfl⟩ := ht
  exact tOf_ok zs sd i
end Go.Proofs.Ytacfmkmiikkppaa.Tn

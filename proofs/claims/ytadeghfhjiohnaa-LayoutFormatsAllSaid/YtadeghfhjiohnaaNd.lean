/-
  Contract of package memnode's Write.
-/
import Derived.Test.YtadeghfhjiohnaaNc
namespace Go.Proofs.Ytadeghfhjiohnaa.Nd_
open Go.ChangeShapes Go.WideShapes Go.ChangeAt Go.RowKit Ga Na Nb Nc
set_option linter.unusedVariables false
set_option linter.unusedSimpArgs false
set_option maxRecDepth 10000

/-- The words from j on replaced by l. -/
def putW (ws : List Nat) (j : Nat) (l : List Nat) : List Nat := ws.take j ++ (l ++ ws.drop (j + l.length))
theorem putW_len {ws : List Nat} {j : Nat} {l : List Nat} (h : j + l.length ≤ ws.length) : (putW ws j l).length = ws.length := by simp [putW]; omega
theorem putW_lt {ws : List Nat} {j : Nat} {l : List Nat} {m : Nat} (h : ∀ x ∈ ws, x < m) (hl : ∀ x ∈ l, x < m) : ∀ x ∈ putW ws j l, x < m := fun x hx => by
  unfold putW at hx
  rcases List.mem_append.1 hx with hx | hx
  · exact h x (List.mem_of_mem_take hx)
  · rcases List.mem_append.1 hx with hx | hx
    · exact hl x hx
    · exact h x (List.mem_of_mem_drop hx)
theorem putW_nil (ws : List Nat) (j : Nat) : putW ws j [] = ws := by simp [putW]
theorem putW_get {ws : List Nat} {j : Nat} {l : List Nat} (h : j + l.length ≤ ws.length) (i : Nat) : (putW ws j l)[i]? = if i < j then ws[i]? else if i < j + l.length then l[i - j]? else ws[i]? := by
  unfold putW
  have ht : (ws.take j).length = j := by simp; omega
  by_cases h1 : i < j
  · rw [if_pos h1, List.getElem?_append_left (by omega), List.getElem?_take, if_pos h1]
  · rw [if_neg h1, List.getElem?_append_right (by omega), ht]
    by_cases h2 : i < j + l.length
    · rw [if_pos h2, List.getElem?_append_left (by omega)]
    · rw [if_neg h2, List.getElem?_append_right (by omega), List.getElem?_drop]
      congr 1; omega
theorem putW_more {ws : List Nat} {j : Nat} {l : List Nat} {k : Nat} (h : j + l.length ≤ ws.length) (hk : k < l.length) : (putW ws j (l.take k)).set (j + k) (l.getD k 0) = putW ws j (l.take (k + 1)) := by
  apply List.ext_getElem?
  intro i
  have h1 : (l.take k).length = k := by simp; omega
  have h2 : (l.take (k + 1)).length = k + 1 := by simp; omega
  have hlen := putW_len (ws := ws) (j := j) (l := l.take k) (by omega)
  rw [List.getElem?_set, putW_get (by omega), putW_get (by omega), h1, h2, List.getElem?_take, List.getElem?_take]
  by_cases e : j + k = i
  · subst e
    rw [if_pos rfl, if_pos (by rw [hlen]; omega), if_neg (by omega), if_pos (by omega), if_pos (by omega), Nat.add_sub_cancel_left]
    simp [hk]
  · rw [if_neg e]
    by_cases h3 : i < j
    · simp [h3]
    · by_cases h4 : i < j + k
      · have : i < j + (k + 1) := by omega
        simp [h3, h4, this]
        rw [if_pos (by omega), if_pos (by omega)]
      · have : ¬ i < j + (k + 1) := by omega
        simp [h3, h4, this]
theorem slice_from (g n cap j : Nat) (w : World) (h1 : j < n) (h3 : n ≤ cap) (h4 : cap ≤ 9223372036854775807) :
    (Instr.sliceAt 36 (.slice (some ⟨g, 0, none⟩) n cap) (some (.int .i64 (j : Int))) none none).run Try.prog w = .ok (.slice (some ⟨g, j, none⟩) (n - j) (cap - j)) w := by
  rw [run_sliceAt_slice _ _ _ _ _ _ under_words, run_slice_l _ _ _ _ _ under_words _ _ (by omega) (by omega), size_word]
  have e : (if cap = j then (some ⟨g, 0, none⟩ : Option Addr) else (some (⟨g, 0, none⟩ : Addr)).map (·.add (j * 1))) = some ⟨g, j, none⟩ := by
    rw [if_neg (by omega)]
    simp [add_zero_]
  simp only [Result.andThen, sliced, e, Int.toNat_natCast]
theorem words_size : (Try.prog.info? 23).map (·.size) = some 1 := by kernel_rfl
theorem copy_to {P : Program} {w : World} {ops : Array Oper} {rest : List Oper} {o : Oper} {a : Act} {Q : Exit → Act → World → Prop} (hgd : o.guard = none) (d s : Operand) (dT sT : TypeId)
    (ho : o.op = .call { callee := .builtin .copy, args := #[d, s], argTypes := #[dT, sT] }) (elem : TypeId) (hu : P.underlying dT = some (.slice elem)) (hsz : (P.info? elem).map (·.size) = some 1)
    (g off dLen dCap : Nat) (ad : Addr) (sLen sCap : Nat) (hd : a.eval d = .slice (some ⟨g, off, none⟩) dLen dCap) (hs : a.eval s = .slice (some ad) sLen sCap)
    (cur : Array Value) (t : TypeId) (hg : w.heap[g]? = some (.cells cur t (0, 0))) (cs : List Value) (hn : cs.length = Nat.min sLen dLen)
    (hsrc : ∀ j v, cs[j]? = some v → w.cell? (ad.add j) = some v) (hfit : off + cs.length ≤ cur.size) (h1 : ∀ v ∈ cs, v.oneCell' = true) (X : World)
    (hX : Lk (w.setRow g (cur.toList.take off ++ (cs ++ cur.toList.drop (off + cs.length))).toArray = X)) (h : wpList P ops Q rest (a.put o.dst (goInt cs.length)) X) : wpList P ops Q (o :: rest) a w :=
  wpList_copy_own hgd d s dT sT ho elem hu hsz g off dLen dCap ad sLen sCap hd hs cur t hg cs hn hsrc hfit h1 (by rw [hX.out]; exact h)
theorem write_ok (b g n cap : Nat) (ws : List Nat) (j : Nat) (ad : Addr) (l : List Nat) (m c : Nat) (w : World) (HN : Lk (PN w b g n cap ws true)) (hn : n ≤ 4294967296) (hm : l.length = m) (h1 : 1 ≤ m) (hj : j + m ≤ n)
    (hb : Lk (∀ x ∈ l, x < 18446744073709551616)) (hsrc : Lk (∀ i, i < m → w.cell? (ad.add i) = some (.int .u64 ((l.getD i 0 : Nat) : Int)))) :
    Calls Try.prog 32 #[.pointer (some ⟨b, 0, none⟩), .int .i64 j, .slice (some ad) m c] w fun e w' => e = .returned (.int .i64 0) ∧ Lk (PN w' b g n cap (putW ws j l) true) ∧ Lk (Only (fun k => k = b ∨ k = g) w w') := by
  have hc := HN.out.c0
  have C := check_any b g n cap true j m w hn hc HN.out.c1 (by omega) (by omega) (by omega) (by omega)
  rw [code_ok (by omega) (by omega)] at C
  have hcap := HN.out.row.cap_
  have hs := slice_from g n cap j w (by omega) hcap.1 hcap.2
  obtain ⟨cur, hg, hcur, htake⟩ : ∃ cur : Array Value, w.heap[g]? = some (.cells cur 23 (0, 0)) ∧ cur.size = cap ∧ cur.toList.take n = ws.map u64v := by
    rcases HN.out.row.own.2 with ⟨h', _⟩ | ⟨g', cap', cur, h', h3, h4, h5, h6, h7, h8⟩
    · simp at h'
    · simp only [Value.slice.injEq, Option.some.injEq, Addr.mk.injEq, and_true, true_and] at h'
      obtain ⟨rfl, rfl⟩ := h'
      exact ⟨cur, h4, by omega, by simpa using h8⟩
  have hlen := HN.out.row.len
  have HC : Lk (∀ i v, (l.map u64v)[i]? = some v → w.cell? (ad.add i) = some v) := ⟨fun i u hi => by
    rw [List.getElem?_map] at hi
    have hil : i < l.length := by
      by_cases h : i < l.length
      · exact h
      · rw [List.getElem?_eq_none (by omega)] at hi; simp at hi
    rw [List.getElem?_eq_getElem hil] at hi
    obtain rfl : u64v l[i] = u := by simpa using hi
    refine (hsrc.out i (by omega)).trans ?_
    simp [hil, u64v]⟩
  have HO : Lk (∀ u ∈ l.map u64v, u.oneCell' = true) := ⟨fun u hu => by
    rw [List.mem_map] at hu
    obtain ⟨x, _, rfl⟩ := hu
    rfl⟩
  have HR : Lk (PN (w.setRow g (cur.toList.take j ++ (l.map u64v ++ cur.toList.drop (j + (l.map u64v).length))).toArray) b g n cap (putW ws j l) true) := by
    refine ⟨⟨(setRow_other w g b _ HN.out.ne).trans HN.out.node, ⟨⟨by simp [putW_len (show j + l.length ≤ ws.length by omega), hlen], .inr ⟨g, cap, _, rfl, Nat.zero_le _, setRow_heap w g _ _ _ _ hg, hcap.1, by unfold maxLen; exact hcap.2, by simp; omega, ?_⟩⟩, by rw [putW_len (by omega), hlen], putW_lt HN.out.row.lt hb.out⟩, HN.out.ne⟩⟩
    have hcl : cur.toList.length = cap := by simpa using hcur
    rw [Nat.mul_one]
    apply List.ext_getElem?
    intro i
    have hti : ∀ i, (ws.map u64v)[i]? = if i < n then cur.toList[i]? else none := fun i => by rw [← htake, List.getElem?_take]
    rw [List.getElem?_take, List.getElem?_map, putW_get (by omega), List.length_map]
    by_cases h1 : i < j
    · rw [if_pos (by omega), if_pos h1, List.getElem?_append_left (by simp; omega), List.getElem?_take, if_pos h1, ← List.getElem?_map, hti, if_pos (by omega)]
    · by_cases h2 : i < j + l.length
      · rw [if_pos (by omega), if_neg h1, if_pos h2, List.getElem?_append_right (by simp; omega), List.getElem?_append_left (by simp; omega), List.getElem?_map]
        simp only [List.length_take, hcl]
        rw [Nat.min_eq_left (by omega)]
      · rw [if_neg h1, if_neg h2, ← List.getElem?_map, hti]
        by_cases h3 : i < n
        · rw [if_pos h3, if_pos h3, List.getElem?_append_right (by simp; omega), List.getElem?_append_right (by simp; omega), List.getElem?_drop]
          simp only [List.length_take, List.length_map, hcl]
          congr 1; omega
        · rw [if_neg h3, if_neg h3]
  have HB : Lk (Only (fun k => k = b ∨ k = g) w (w.setRow g (cur.toList.take j ++ (l.map u64v ++ cur.toList.drop (j + (l.map u64v).length))).toArray)) :=
    ⟨⟨rfl, rfl, rfl, by simp [World.setRow], fun k _ hk => setRow_other w g k _ fun e => hk (.inr e)⟩⟩
  obtain ⟨X, hX⟩ : ∃ X, Lk (w.setRow g (cur.toList.take j ++ (l.map u64v ++ cur.toList.drop (j + (l.map u64v).length))).toArray = X) := ⟨_, ⟨rfl⟩⟩
  rw [hX.out] at HR HB
  have hmin : (l.map u64v).length = Nat.min m (n - j) := by show (l.map u64v).length = min m (n - j); rw [List.length_map]; omega
  have hfit : j + (l.map u64v).length ≤ cur.size := by rw [List.length_map]; omega
  go_enter Try.func32, Try.ntmps32
  go_wp2_with (first
    | (go_at_call 48; refine C.mono ?_; rintro e w' ⟨rfl, rfl⟩)
    | (with_reducible refine copy_to (o := ⟨some 23, _, _, _, _, _⟩) rfl _ _ 36 36 rfl 23 Try.underlying36 words_size g j (n - j) (cap - j) ad m c rfl rfl cur 23 hg (l.map u64v) hmin HC.out hfit HO.out X hX ?_))
  go_ret
  exact ⟨rfl, HR, HB⟩
end Go.Proofs.Ytadeghfhjiohnaa.Nd_

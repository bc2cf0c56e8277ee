/-
  A pair: the program's node and the reference's, alike; and the law's own helper 'swap' on it.
-/
import Derived.Test.YtgjchfhgpfogjaaNf
namespace Go.Proofs.Ytgjchfhgpfogjaa.Ng
open Go.ChangeShapes Go.WideShapes Go.ChangeAt Go.RowKit Ga Na Nb Nc Nd_ Nf
set_option linter.unusedVariables false
set_option linter.unusedSimpArgs false

theorem _root_.Go.Proofs.Ytgjchfhgpfogjaa.Na.Nd.drew {T : TypeId} {w : World} {b g n cap : Nat} {ws : List Nat} {up : Bool} (h : Na.Nd T w b g n cap ws up) (m : Nat) : Na.Nd T (w.drewN m) b g n cap ws up := h.keep rfl rfl
/-- The blocks of a pair. -/
def Of (b g br gr : Nat) (k : Nat) : Prop := k = b ∨ k = g ∨ k = br ∨ k = gr
/-- Two nodes, the program's at b and the reference's at br, with the same words and both up or down. -/
structure Pr (w : World) (b g cap br gr capr n : Nat) (ws : List Nat) (up : Bool) : Prop where
  p : PN w b g n cap ws up
  r : RN w br gr n capr ws up
  d1 : b ≠ br
  d2 : b ≠ gr
  d3 : g ≠ br
  d4 : g ≠ gr
section
variable {w w' : World} {b g cap br gr capr n : Nat} {ws ws' : List Nat} {up up' : Bool} {S : Nat → Prop}
theorem Pr.on (h : Pr w b g cap br gr capr n ws up) (ho : Only S w w') (hs : ∀ k, S k → ¬ Of b g br gr k) : Pr w' b g cap br gr capr n ws up :=
  ⟨h.p.on ho (fun e => hs b e (.inl rfl)) (fun e => hs g e (.inr (.inl rfl))), h.r.on ho (fun e => hs br e (.inr (.inr (.inl rfl)))) (fun e => hs gr e (.inr (.inr (.inr rfl)))), h.d1, h.d2, h.d3, h.d4⟩
theorem Pr.on0 (h : Pr w b g cap br gr capr n ws up) (hb : Below w.heap.size w w') : Pr w' b g cap br gr capr n ws up := h.on (S := fun _ => False) (Only.of_below hb) (fun _ e => e.elim)
/-- The program's node has turned: the reference's has not. -/
theorem Pr.left (h : Pr w b g cap br gr capr n ws up) (ho : Only (fun k => k = b ∨ k = g) w w') : RN w' br gr n capr ws up :=
  h.r.on ho (fun e => e.elim (fun e => h.d1 e.symm) (fun e => h.d3 e.symm)) (fun e => e.elim (fun e => h.d2 e.symm) (fun e => h.d4 e.symm))
theorem Pr.right {w1 w2 : World} (h : Pr w b g cap br gr capr n ws up) (hp : PN w1 b g n cap ws' up') (ho : Only (fun k => k = br ∨ k = gr) w1 w2) : PN w2 b g n cap ws' up' :=
  hp.on ho (fun e => e.elim h.d1 h.d2) (fun e => e.elim h.d3 h.d4)
theorem Pr.again (h : Pr w b g cap br gr capr n ws up) (hp : PN w' b g n cap ws' up') (hr : RN w' br gr n capr ws' up') : Pr w' b g cap br gr capr n ws' up' := ⟨hp, hr, h.d1, h.d2, h.d3, h.d4⟩
theorem only_left (ho : Only (fun k => k = b ∨ k = g) w w') : Only (Of b g br gr) w w' := ho.mono fun k e => e.elim .inl (fun e => .inr (.inl e))
theorem only_right (ho : Only (fun k => k = br ∨ k = gr) w w') : Only (Of b g br gr) w w' := ho.mono fun k e => e.elim (fun e => .inr (.inr (.inl e))) (fun e => .inr (.inr (.inr e)))
theorem only_cell (ho : Only S w w') {p : Addr} {v : Value} (hc : w.cell? p = some v) (hn : ¬ S p.block) : w'.cell? p = some v :=
  (World.cell?_of_block (w := w) (ho.block p.block (block_lt_of_cell hc) hn)).trans hc
theorem Pr.both (h : Pr w b g cap br gr capr n ws up) {j x : Nat} (hx : x < 18446744073709551616) (hl : PN w' b g n cap (ws.set j x) up) (ho : Only (fun k => k = b ∨ k = g) w w') :
    Pr ((w'.setCell ⟨gr, j, none⟩ (.int .u64 (x : Int))).drewN 1) b g cap br gr capr n (ws.set j x) up ∧ Only (Of b g br gr) w ((w'.setCell ⟨gr, j, none⟩ (.int .u64 (x : Int))).drewN 1) := by
  have hr := (h.left ho).set j x hx
  have hk : Only (fun k => k = br ∨ k = gr) w' (w'.setCell ⟨gr, j, none⟩ (.int .u64 (x : Int))) := Only.setCell (S := fun k => k = br ∨ k = gr) (p := ⟨gr, j, none⟩) (Only.refl _ w') (.inl (.inr rfl)) _
  exact ⟨h.again ((h.right hl hk).drew 1) (hr.drew 1), ((only_left ho).trans (only_right hk)).drew 1⟩
end

def opV (k a c : Int) (x y : Nat) : Value := .agg #[.int .i64 k, .int .i64 a, .int .i64 c, .int .u64 x, .int .u64 y]
/-- What swap does to the words. -/
def swapW (ws : List Nat) (j : Nat) (m x y : Nat) : List Nat := if m = 4 then casW ws j (if x % 2 = 0 then ws.getD j 0 else y) x else addW ws j y

theorem code_cases (up : Bool) (n : Nat) (a c : Int) : codeOf up n a c = 0 ∧ up = true ∧ 0 ≤ a ∧ 1 ≤ c ∧ a + c ≤ n ∨ codeOf up n a c ≠ 0 := by
  unfold codeOf
  by_cases h : fits n a c = true
  · rw [if_pos h]
    cases up with
    | true => exact .inl ⟨rfl, rfl, fits_iff.1 h⟩
    | false => exact .inr (by decide)
  · rw [if_neg h]; exact .inr (by decide)

theorem wrap_add (v y : Nat) : IntKind.u64.wrap ((v : Int) + y) = (((v + y) % 18446744073709551616 : Nat) : Int) := by
  simp [IntKind.wrap, IntKind.signed, IntKind.bits]
theorem swap_no (b g cap br gr capr n : Nat) (ws : List Nat) (up : Bool) (k a c t : Int) (x y : Nat) (w : World) (HP : Lk (Pr w b g cap br gr capr n ws up)) (hn : n ≤ 4294967296) (t0 : -9223372036854775808 ≤ t) (t1 : t ≤ 9223372036854775807)
    (k0 : -9223372036854775808 ≤ k) (k1 : k ≤ 9223372036854775807) (hx : x < 18446744073709551616) (hy : y < 18446744073709551616) (hk : codeOf up n t 1 ≠ 0) :
    Calls Try.prog 29 #[.pointer (some ⟨b, 0, none⟩), .pointer (some ⟨br, 0, none⟩), .agg #[.int .i64 k, .int .i64 a, .int .i64 c, .int .u64 x, .int .u64 y], .int .i64 t] w fun e w' => e = .returned (.bool true) ∧ Lk (Below w.heap.size w w') := by
  have HP0 : Lk (Pr (w.alloc (.cells #[.int .i64 k, .int .i64 a, .int .i64 c, .int .u64 x, .int .u64 y] 37)) b g cap br gr capr n ws up) := ⟨HP.out.on0 ((Below.refl _ w).alloc (Nat.le_refl _) _)⟩
  have HB0 : Lk (Below w.heap.size w (w.alloc (.cells #[.int .i64 k, .int .i64 a, .int .i64 c, .int .u64 x, .int .u64 y] 37))) := ⟨(Below.refl _ w).alloc (Nat.le_refl _) _⟩
  have hop := heap_alloc_new w (.cells #[.int .i64 k, .int .i64 a, .int .i64 c, .int .u64 x, .int .u64 y] 37)
  have hk0 := (cell_of_row _ w.heap.size 0 _ _ _ hop).trans (show _ = some (.int .i64 k) from rfl)
  have hk3 := (cell_of_row _ w.heap.size 3 _ _ _ hop).trans (show _ = some (.int .u64 (x : Int)) from rfl)
  have hk4 := (cell_of_row _ w.heap.size 4 _ _ _ hop).trans (show _ = some (.int .u64 (y : Int)) from rfl)
  clear hop
  go_enter Try.func29, Try.ntmps29
  go_wp2_with fail
  generalize hW : w.alloc (.cells #[.int .i64 k, .int .i64 a, .int .i64 c, .int .u64 x, .int .u64 y] 37) = W at *
  clear hW
  refine (access_any br gr n capr up t 1 W hn HP0.out.r.c0 HP0.out.r.c1 t0 t1 (by omega) (by omega)).mono ?_
  rintro e w' ⟨rfl, rfl⟩
  have C2 := fun W' HN => cas_no b g n cap ws up t y x W' HN hn t0 t1 hk
  have C3 := fun W' HN => add_no b g n cap ws up t y W' HN hn t0 t1 hk
  generalize codeOf up n t 1 = q at *
  go_wp2_with fail
  go_region
  go_wp2_with fail
  refine (pick_any k 10 _ (by decide) (by decide) k0 k1).mono ?_
  rintro e w' ⟨rfl, rfl⟩
  generalize pk k 10 = m at *
  by_cases h4 : m = 4
  · subst h4
    go_wp2_with fail
    refine (C2 _ ⟨HP0.out.p.drew 1⟩).mono ?_
    rintro e w' ⟨rfl, rfl⟩
    go_wp2
    go_ret
    exact ⟨rfl, ⟨HB0.out.drew⟩⟩
  · go_wp2_with fail
    refine (C3 _ ⟨HP0.out.p.drew 1⟩).mono ?_
    rintro e w' ⟨rfl, rfl⟩
    go_wp2
    go_ret
    exact ⟨rfl, ⟨HB0.out.drew⟩⟩

set_option maxHeartbeats 1000000 in
theorem swap_ok (b g cap br gr capr n : Nat) (ws : List Nat) (k a c : Int) (j : Nat) (x y : Nat) (w : World) (wz : List Nat) (hz : Lk (swapW ws j (pk k 10) x y = wz)) (HP : Lk (Pr w b g cap br gr capr n ws true)) (hn : n ≤ 4294967296) (hj : j < n)
    (k0 : -9223372036854775808 ≤ k) (k1 : k ≤ 9223372036854775807) (hx : x < 18446744073709551616) (hy : y < 18446744073709551616) :
    Calls Try.prog 29 #[.pointer (some ⟨b, 0, none⟩), .pointer (some ⟨br, 0, none⟩), .agg #[.int .i64 k, .int .i64 a, .int .i64 c, .int .u64 x, .int .u64 y], .int .i64 j] w fun e w' => e = .returned (.bool true) ∧ Lk (Pr w' b g cap br gr capr n wz true) ∧ Lk (Only (Of b g br gr) w w') := by
  have HP0 : Lk (Pr (w.alloc (.cells #[.int .i64 k, .int .i64 a, .int .i64 c, .int .u64 x, .int .u64 y] 37)) b g cap br gr capr n ws true) := ⟨HP.out.on0 ((Below.refl _ w).alloc (Nat.le_refl _) _)⟩
  have HB0 : Lk (Only (Of b g br gr) w (w.alloc (.cells #[.int .i64 k, .int .i64 a, .int .i64 c, .int .u64 x, .int .u64 y] 37))) := ⟨(Only.refl _ w).alloc _⟩
  have hop := heap_alloc_new w (.cells #[.int .i64 k, .int .i64 a, .int .i64 c, .int .u64 x, .int .u64 y] 37)
  have HNE : Lk (¬ Of b g br gr w.heap.size) := ⟨fun e => by
    have h1 := HP.out.p.size
    have h2 := HP.out.p.row.size
    have h3 := HP.out.r.size
    have h4 := HP.out.r.row.size
    unfold Of at e; omega⟩
  have hk0 := (cell_of_row _ w.heap.size 0 _ _ _ hop).trans (show _ = some (.int .i64 k) from rfl)
  have hk3 := (cell_of_row _ w.heap.size 3 _ _ _ hop).trans (show _ = some (.int .u64 (x : Int)) from rfl)
  have hk4 := (cell_of_row _ w.heap.size 4 _ _ _ hop).trans (show _ = some (.int .u64 (y : Int)) from rfl)
  clear hop
  go_enter Try.func29, Try.ntmps29
  go_wp2_with fail
  generalize hW : w.alloc (.cells #[.int .i64 k, .int .i64 a, .int .i64 c, .int .u64 x, .int .u64 y] 37) = W at *
  clear hW
  generalize w.heap.size = o at *
  refine (access_any br gr n capr true j 1 W hn HP0.out.r.c0 HP0.out.r.c1 (by omega) (by omega) (by omega) (by omega)).mono ?_
  rw [code_ok (by omega) (by omega)]
  rintro e w' ⟨rfl, rfl⟩
  have hr0 := HP0.out.r.c0
  have hrj := HP0.out.r.row.cell hj
  have hv := getD_lt HP0.out.r.row.lt (show j < ws.length by have := HP0.out.r.row.len; omega)
  have C2 := fun old W' HN ho => cas_ok b g n cap ws j old x W' HN hn hj ho hx
  have C3 := fun W' HN => add_ok b g n cap ws j y W' HN hn hj hy
  have hzz := hz.out
  unfold swapW casW addW at hzz
  have hz2 : Lk _ := ⟨hzz⟩
  clear hz hzz
  unfold casW at C2
  unfold addW at C3
  generalize hvv : ws.getD j 0 = v at *
  clear hvv
  go_wp2_with fail
  go_region
  have HP1 : Lk (Pr W.drew b g cap br gr capr n ws true) := ⟨HP0.out.on (S := fun _ => False) ((Only.refl _ W).drew 1) (fun _ e => e.elim)⟩
  have HB1 : Lk (Only (Of b g br gr) w W.drew) := ⟨HB0.out.drew 1⟩
  have e0 : W.drew.cell? ⟨o, 0, none⟩ = _ := hk0
  have e3 : W.drew.cell? ⟨o, 3, none⟩ = _ := hk3
  have e4 : W.drew.cell? ⟨o, 4, none⟩ = _ := hk4
  have e5 : W.drew.cell? ⟨br, 0, none⟩ = _ := hr0
  have e6 : W.drew.cell? ⟨gr, j, none⟩ = _ := hrj
  generalize W.drew = W1 at *
  clear HP0 HB0 hk0 hk3 hk4 hr0 hrj
  have C1 := pick_any k 10 W1 (by decide) (by decide) k0 k1
  generalize pk k 10 = m at *
  by_cases hx2 : x % 2 = 0
  · by_cases h4 : m = 4
    · subst h4
      go_wp2_with (first | (go_at_call 8; refine C1.mono ?_; rintro e w' ⟨rfl, rfl⟩))
      refine (C2 v W1 ⟨HP1.out.p⟩ hv).mono ?_
      rintro e W2 ⟨rfl, HL, HO⟩
      rw [if_pos rfl] at HL
      have HR : Lk (RN W2 br gr n capr ws true) := ⟨HP1.out.left HO.out⟩
      have f3 := only_cell HO.out e3 (fun e => HNE.out (e.elim .inl (fun e => .inr (.inl e))))
      have f5 := HR.out.c0
      have f6 := HR.out.row.free j
      have f7 := HR.out.row.cell hj
      have HX : Lk _ := ⟨HP1.out.both hx HL.out HO.out⟩
      go_wp2_with fail
      go_region
      go_wp2
      go_ret
      refine ⟨rfl, ⟨?_⟩, ⟨HB1.out.trans HX.out.2⟩⟩
      have := hz2.out
      simp only [hx2, if_true] at this
      rw [← this]
      exact HX.out.1
    · go_wp2_with (first | (go_at_call 8; refine C1.mono ?_; rintro e w' ⟨rfl, rfl⟩))
      refine (C3 W1 ⟨HP1.out.p⟩).mono ?_
      rintro e W2 ⟨rfl, HL, HO⟩
      have f4 := only_cell HO.out e4 (fun e => HNE.out (e.elim .inl (fun e => .inr (.inl e))))
      have HR : Lk (RN W2 br gr n capr ws true) := ⟨HP1.out.left HO.out⟩
      have f5 := HR.out.c0
      have f6 := HR.out.row.free j
      have f7 := HR.out.row.cell hj
      have HX : Lk (_ ∧ Only (Of b g br gr) W1 ((W2.setCell ⟨gr, j, none⟩ (.int .u64 (IntKind.u64.wrap ((v : Int) + y)))).drewN 1)) := ⟨by rw [wrap_add]; exact HP1.out.both (j := j) (x := (v + y) % 18446744073709551616) (Nat.mod_lt _ (by decide)) HL.out HO.out⟩
      go_wp2_with fail
      go_region
      go_wp2
      go_ret
      refine ⟨rfl, ⟨?_⟩, ⟨HB1.out.trans HX.out.2⟩⟩
      have := hz2.out
      simp only [h4, if_false] at this
      rw [← this]
      exact HX.out.1
  · by_cases h4 : m = 4
    · subst h4
      by_cases hvy : v = y
      · go_wp2_with (first | (go_at_call 8; refine C1.mono ?_; rintro e w' ⟨rfl, rfl⟩))
        refine (C2 y W1 ⟨HP1.out.p⟩ hy).mono ?_
        rintro e W2 ⟨rfl, HL, HO⟩
        rw [if_pos hvy] at HL
        subst hvy
        have HR : Lk (RN W2 br gr n capr ws true) := ⟨HP1.out.left HO.out⟩
        have f3 := only_cell HO.out e3 (fun e => HNE.out (e.elim .inl (fun e => .inr (.inl e))))
        have f5 := HR.out.c0
        have f6 := HR.out.row.free j
        have f7 := HR.out.row.cell hj
        have HX : Lk _ := ⟨HP1.out.both hx HL.out HO.out⟩
        go_wp2_with fail
        go_region
        go_wp2
        go_ret
        refine ⟨rfl, ⟨?_⟩, ⟨HB1.out.trans HX.out.2⟩⟩
        have := hz2.out
        simp only [hx2, if_true, if_false] at this
        rw [← this]
        exact HX.out.1
      · go_wp2_with (first | (go_at_call 8; refine C1.mono ?_; rintro e w' ⟨rfl, rfl⟩))
        refine (C2 y W1 ⟨HP1.out.p⟩ hy).mono ?_
        rintro e W2 ⟨rfl, HL, HO⟩
        rw [if_neg hvy] at HL
        have HX : Lk (Pr W2 b g cap br gr capr n ws true ∧ Only (Of b g br gr) W1 W2) := ⟨HP1.out.again HL.out (HP1.out.left HO.out), only_left HO.out⟩
        go_wp2
        go_ret
        refine ⟨rfl, ⟨?_⟩, ⟨HB1.out.trans HX.out.2⟩⟩
        have := hz2.out
        simp only [hx2, hvy, if_true, if_false] at this
        rw [← this]
        exact HX.out.1
    · go_wp2_with (first | (go_at_call 8; refine C1.mono ?_; rintro e w' ⟨rfl, rfl⟩))
      refine (C3 W1 ⟨HP1.out.p⟩).mono ?_
      rintro e W2 ⟨rfl, HL, HO⟩
      have f4 := only_cell HO.out e4 (fun e => HNE.out (e.elim .inl (fun e => .inr (.inl e))))
      have HR : Lk (RN W2 br gr n capr ws true) := ⟨HP1.out.left HO.out⟩
      have f5 := HR.out.c0
      have f6 := HR.out.row.free j
      have f7 := HR.out.row.cell hj
      have HX : Lk (_ ∧ Only (Of b g br gr) W1 ((W2.setCell ⟨gr, j, none⟩ (.int .u64 (IntKind.u64.wrap ((v : Int) + y)))).drewN 1)) := ⟨by rw [wrap_add]; exact HP1.out.both (j := j) (x := (v + y) % 18446744073709551616) (Nat.mod_lt _ (by decide)) HL.out HO.out⟩
      go_wp2_with fail
      go_region
      go_wp2
      go_ret
      refine ⟨rfl, ⟨?_⟩, ⟨HB1.out.trans HX.out.2⟩⟩
      have := hz2.out
      simp only [h4, if_false] at this
      rw [← this]
      exact HX.out.1
end Go.Proofs.Ytgjchfhgpfogjaa.Ng

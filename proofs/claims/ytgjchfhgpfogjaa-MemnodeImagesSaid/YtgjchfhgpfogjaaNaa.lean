/-
  Small things for the law on images.
-/
import Derived.Test.YtgjchfhgpfogjaaNz
namespace Go.Proofs.Ytgjchfhgpfogjaa.Naa
open Go.ChangeShapes Go.WideShapes Go.ChangeAt Go.RowKit Ga Ma Ca Cb Cc Cd Ce Na Nb Nc Nd_ Nf Ng Nh Np Nq Nr Ns Nt Nv Nx Ny Nu Nz
set_option linter.unusedVariables false
set_option linter.unusedSimpArgs false

theorem bt_form {w0 wr : World} {v : Value} {bs : List Nat} (h : Bt w0 wr v bs) (hp : 0 < bs.length) : ∃ g c : Nat, bs.length ≤ c ∧ v = .slice (some ⟨g, 0, none⟩) bs.length c := by
  rcases h.own.2 with ⟨_, h0⟩ | ⟨g, cap, cur, rfl, hb, hg, hn, hm, hs, ht⟩
  · omega
  · exact ⟨g, cap, hn, rfl⟩
theorem bt_lies {w0 wr : World} {g n c : Nat} {bs : List Nat} (h : Bt w0 wr (.slice (some ⟨g, 0, none⟩) n c) bs) : Lies .u8 wr wr.heap.size (some ⟨g, 0, none⟩) bs := by
  obtain ⟨A, c', e, _, hl⟩ := h.form
  simp only [Value.slice.injEq] at e
  rw [e.1]; exact hl
theorem bt_cell {w0 wr : World} {g n c q : Nat} {bs : List Nat} (h : Bt w0 wr (.slice (some ⟨g, 0, none⟩) n c) bs) (hq : q < bs.length) : wr.cell? ⟨g, q, none⟩ = some (.int .u8 ((bs.getD q 0 : Nat) : Int)) := by
  obtain ⟨ad, e, _, hc⟩ := bt_lies h (by omega)
  simp only [Option.some.injEq] at e
  subst e
  have := hc q hq
  rwa [add_zero_] at this
theorem bt_free {w0 wr : World} {g n c : Nat} {bs : List Nat} (h : Bt w0 wr (.slice (some ⟨g, 0, none⟩) n c) bs) (q : Nat) : wr.frozen? ⟨g, q, none⟩ = false := by
  obtain ⟨A, c', e, _, _⟩ := h.form
  simp only [Value.slice.injEq] at e
  obtain ⟨_, rfl, _⟩ := e
  exact h.own.frozenAt q
theorem xor8 (a b : Nat) (ha : a < 256) (hb : b < 256) : bits .xor .u8 (a : Int) (b : Int) = ((a ^^^ b : Nat) : Int) := u8_xor_nat a b ha hb
theorem xor8_lt {a b : Nat} (ha : a < 256) (hb : b < 256) : a ^^^ b < 256 := Nat.xor_lt_two_pow (n := 8) ha hb
theorem xor_ne {a b : Nat} (hb : b ≠ 0) : a ^^^ b ≠ a := by
  intro e
  apply hb
  have := congrArg (a ^^^ ·) e
  simpa [← Nat.xor_assoc] using this
end Go.Proofs.Ytgjchfhgpfogjaa.Naa

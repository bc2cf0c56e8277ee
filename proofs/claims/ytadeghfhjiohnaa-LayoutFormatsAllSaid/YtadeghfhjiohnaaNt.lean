/-
  Bytes as strings; SameImage at equal images.
-/
import Derived.Test.YtadeghfhjiohnaaNs
import Derived.Laws.BytesArg
namespace Go.Proofs.Ytadeghfhjiohnaa.Nt
open Go.ChangeShapes Go.WideShapes Go.ChangeAt Go.RowKit Ga Ma Ca Cb Cc Cd Ce Na Nb Nc Nd_ Nf Nq Nr Ns
set_option linter.unusedVariables false
set_option linter.unusedSimpArgs false
set_option maxRecDepth 10000

/-- The string of these bytes. -/
def str (l : List Nat) : ByteArray := strOfNums (l.map fun x : Nat => (x : Int))
theorem str_inj {a b : List Nat} (ha : ∀ x ∈ a, x < 256) (hb : ∀ x ∈ b, x < 256) (h : str a = str b) : a = b := by
  have h1 : (str a).data.toList = (str b).data.toList := by rw [h]
  unfold str at h1
  rw [strOfNums_data, strOfNums_data, List.map_map, List.map_map] at h1
  apply List.ext_getElem
  · have := congrArg List.length h1
    simpa using this
  · intro i hi1 hi2
    have h2 : (a.map ((fun n : Int => UInt8.ofNat n.toNat) ∘ fun x : Nat => (x : Int)))[i]? = (b.map ((fun n : Int => UInt8.ofNat n.toNat) ∘ fun x : Nat => (x : Int)))[i]? := by rw [h1]
    simp [hi1, hi2] at h2
    have e1 := ha a[i] (List.getElem_mem _)
    have e2 := hb b[i] (List.getElem_mem _)
    have h3 := congrArg UInt8.toNat h2
    simpa [UInt8.toNat_ofNat', Nat.mod_eq_of_lt, e1, e2] using h3
theorem conv_run {w : World} {B : Nat} {A : Option Addr} {l : List Nat} {n c : Nat} (hn : l.length = n) (hp : 0 < n) (h : Lies .u8 w B A l) :
    (convert 41 9 (.slice A n c)).run Try.prog w = .ok (.string (str l)) w := by
  obtain ⟨⟨b, o, s⟩, rfl, _, hc⟩ := h (by omega)
  obtain rfl : s = none := by simpa [Addr.add] using World.cell?_spot (hc 0 (by omega))
  refine run_convert_bytes_arg w 41 5 Try.underlying41 Try.underlying5 b o n c (l.map fun x : Nat => (x : Int)) (by simp [hn]) (fun i hi => ?_) 9 Try.underlying9
  have := hc i (by omega)
  rw [add_at] at this
  rw [this]
  have hil : i < l.length := by omega
  simp [hil]
theorem img_lt {ws : List Nat} {up : Bool} {L : Nat} : ∀ x ∈ img ws up L, x < 256 := fun x hx => by
  have hb : ∀ x ∈ body ws up L, x < 256 := fun x hx => by
    rcases List.mem_append.1 hx with hx | hx
    · rcases List.mem_append.1 hx with hx | hx
      · rcases List.mem_append.1 hx with hx | hx
        · simp at hx; omega
        · exact low_lt L 2 x hx
      · rw [List.mem_singleton] at hx; rw [hx]; exact upB_lt _
    · exact bytesOf_lt ws x hx
  rcases List.mem_append.1 hx with hx | hx
  · exact hb x hx
  · exact low_lt _ 8 x hx

theorem sameImage_any (A : Option Addr) (l : List Nat) (m c b g n cap : Nat) (ws : List Nat) (up : Bool) (w : World) (L : Nat) (hm : l.length = m) (HL : Lk (Lies .u8 w w.heap.size A l)) (HE : Lk (l = img ws up L)) (HN : Lk (RN w b g n cap ws up)) (hL : n = 8 * L) (h1 : 1 ≤ L) (h2 : L ≤ 200) :
    Calls Try.prog 38 #[.slice A m c, .pointer (some ⟨b, 0, none⟩)] w fun e w' => e = .returned (.bool true) ∧ Lk (Below w.heap.size w w') := by
  have hwl := HN.out.row.len
  have hil := img_len ws up L
  have hm15 : 15 ≤ m := by rw [← hm, HE.out, hil]; omega
  have HM : Lk (l.length = m) := ⟨hm⟩
  have CI := fun wx (hx : RN wx b g n cap ws up) => refImage_any b g n cap ws up wx L ⟨hx⟩ hL h1 h2
  have HCI := Lib.hid CI
  have hc0 := conv_run (w := w.drew) (c := c) hm (by omega) (HL.out.keep (w' := w.drew) fun _ _ => rfl)
  clear CI hL hm hil hwl
  go_enter Try.func38, Try.ntmps38
  go_wp2_with fail
  go_region_with (go_at_call 55; refine (HCI.out w.drew (HN.out.keep rfl rfl)).mono ?_; rintro e w2 ⟨v2, rfl, HB2⟩; obtain ⟨A2, c2, rfl, hc2, hL2⟩ := HB2.out.form; have HLn := Lib.hid (img_len ws up L); have hcv2 := conv_run (c := c2) rfl (by rw [img_len]; omega) hL2; have hcv1 := conv_run (c := c) HM.out (by omega) ((HL.out.keep (w' := w.drew) fun _ _ => rfl).below HB2.out.below))
  all_goals go_wp2
  all_goals go_ret
  all_goals exact ⟨ret_bool (by rw [HE.out]; simp), ⟨⟨HB2.out.below.os, HB2.out.below.tape, HB2.out.below.output, HB2.out.below.size, HB2.out.below.block⟩⟩⟩
end Go.Proofs.Ytadeghfhjiohnaa.Nt

/-
  Contract of the hand's Pages.
-/
import Derived.Test.YtdodigfojbijfaaRr
namespace Go.Proofs.Ytdodigfojbijfaa.Rs
open Go.ChangeShapes Go.WideShapes Go.ChangeAt Go.RowKit Ga Gb Ra Rb Rc Rd Re Rf Rg Rh Ri Rj Rk Rl Rm Rn Ro Rp Rr Un
set_option linter.unusedVariables false
set_option linter.unusedSimpArgs false
set_option maxRecDepth 10000
set_option maxHeartbeats 1000000

theorem under_pages : Try.prog.underlying 22 = some (.slice (Try.prog.elem 22)) := by kernel_rfl
theorem size_page (w : World) : (sizeOf (Try.prog.elem 22)).run Try.prog w = .ok 9 w := by kernel_rfl
theorem slice_headP (A : Option Addr) (n c k : Nat) (w : World) (h : (k : Int) ≤ (c : Int)) :
    (Instr.sliceAt 22 (.slice A n c) none (some (.int .i64 (k : Int))) none).run Try.prog w = .ok (.slice A k c) w := by
  rw [run_sliceAt_slice _ _ _ _ _ _ under_pages, run_slice_h _ _ _ _ _ under_pages _ _ (by omega) h, size_page]
  have e : (if c = 0 then A else A.map (·.add (0 * 9))) = A := by
    split
    · rfl
    · cases A <;> simp [Addr.add]
  simp only [Result.andThen, sliced, e, Nat.sub_zero, Int.toNat_natCast]
theorem slice_tailP (A : Option Addr) (n c k : Nat) (w : World) (h : (k : Int) ≤ (n : Int)) (hc : n ≤ c) :
    (Instr.sliceAt 22 (.slice A n c) (some (.int .i64 (k : Int))) none none).run Try.prog w = .ok (.slice (if c = k then A else A.map (·.add (k * 9))) (n - k) (c - k)) w := by
  rw [run_sliceAt_slice _ _ _ _ _ _ under_pages, run_slice_l _ _ _ _ _ under_pages _ _ (by omega) h, size_page]
  simp only [Result.andThen, sliced, Int.toNat_natCast]
theorem From.pages {w : World} {B : Nat} {A : Option Addr} {l : List Pg} (h : Pgs w B A l) (i m : Nat) (c : Nat) (hi : i + m ≤ l.length) (hc : l.length ≤ c) : From w (if c = i then A else A.map (·.add (i * 9))) 9 m (((l.drop i).take m).flatMap Pg.cells) := by
  have hlen : ((l.drop i).take m).length = m := by simp; omega
  refine ⟨by rw [flat_len Pg.cells 9 (fun _ => rfl), hlen], fun hm => ?_⟩
  obtain ⟨ad, rfl, _, hat⟩ := h (by omega)
  rw [if_neg (by omega)]
  refine ⟨_, rfl, fun j u hu => ?_⟩
  have hj : j < m * 9 := by
    by_cases hj : j < m * 9
    · exact hj
    · rw [List.getElem?_eq_none (by rw [flat_len Pg.cells 9 (fun _ => rfl), hlen]; omega)] at hu; cases hu
  obtain ⟨a, b, rfl, hb⟩ : ∃ a b, j = a * 9 + b ∧ b < 9 := ⟨j / 9, j % 9, by omega, by omega⟩
  have ha : a < m := by omega
  have h1 := (hat (i + a) (by omega)).cells b hb
  rw [add_of_add] at h1
  show w.cell? ((ad.add (i * 9)).add (a * 9 + b)) = some u
  rw [add_of_add, show i * 9 + (a * 9 + b) = (i + a) * 9 + b by omega, h1]
  rw [flat_at Pg.cells 9 (fun _ => rfl) _ a b (by omega) hb] at hu
  rw [← hu]
  congr 1
  rw [List.getElem_take, List.getElem_drop, List.getD_eq_getElem?_getD, List.getElem?_eq_getElem (by omega)]
  rfl
theorem pages_one (l : List Pg) : ∀ u ∈ l.flatMap Pg.cells, u.oneCell' = true := fun u hu => by
  rw [List.mem_flatMap] at hu
  obtain ⟨p, _, hu⟩ := hu
  simp only [Pg.cells, List.mem_cons, List.not_mem_nil, or_false] at hu
  rcases hu with rfl | rfl | rfl | rfl | rfl | rfl | rfl | rfl | rfl <;> rfl
theorem insP_same {most : Nat} {p : Pg} {l : List Pg} {j : Nat} (hj : pos p.line l = j) (h : (j < l.length ∧ (l.getD j pz).line = p.line) ∨ most ≤ l.length) : insP most p l = l := by
  unfold insP; rw [hj, if_pos h]
theorem insP_new {most : Nat} {p : Pg} {l : List Pg} {j : Nat} (hj : pos p.line l = j) (h : ¬ ((j < l.length ∧ (l.getD j pz).line = p.line) ∨ most ≤ l.length)) : insP most p l = l.take j ++ p :: l.drop j := by
  unfold insP; rw [hj, if_neg h]
theorem pages_any (A : Option Addr) (zs : List Int) (len cap : Nat) (L : Int) (w : World) (h : IsRow .i64 w A len cap zs) (hlen : len ≤ 20) (hL : 97 ≤ L ∧ L ≤ 256) :
    Calls Try.prog 34 #[.slice A len cap, .int .i64 L, .int .i64 12] w fun e w' => ∃ v, e = .returned v ∧ Lk (Pt w w.heap.size w' v (pgsH L 12 (zs.take len))) := by
  obtain ⟨i0, hi, hi0, hi1, hi2⟩ := info_parts pinfo
  have HI := Lk.mk h
  have hzl : len ≤ zs.length := by
    rcases h with ⟨_, h1, _, h3⟩ | ⟨_, _, h1, _, h2, _⟩
    · subst h3; omega
    · omega
  have HN := Lk.mk (fun k (hk : k ≤ len) => pgsH_nice L 12 (by decide) zs k (by omega))
  have H0 : Lk (Pt w w.heap.size w (.slice none 0 0) (pgsH L 12 (zs.take 0))) := ⟨by rw [List.take_zero]; exact Pt.nil w _⟩
  clear h
  go_enter Try.func34, Try.ntmps34
  go_wp2
  go_loopw [7, 8] (fun s7 s8 wr => ∃ k : Nat, k ≤ len ∧ s8 = .int .i64 k ∧ Lk (Pt w w.heap.size wr s7 (pgsH L 12 (zs.take k)))) (fun _ i _ => len - (intOf i).toNat)
  case atStart => exact ⟨0, by omega, rfl, H0⟩
  case round =>
    clear H0
    obtain ⟨k, hk, rfl, HP⟩ := hrel
    by_cases hlt : k < len
    · obtain ⟨ad, rfl, hab, hcl, hz0, hz1⟩ := num_at HI.out hlt
      have hcell := (HP.out.below.cell (by rw [block_of_add]; exact hab)).trans hcl
      have HNx := Lk.mk (pgsH_next L 12 zs (k := k) (by omega))
      have hl12 := (HN.out k hk).2.1
      have HLt := Lk.mk hlt
      generalize zs.getD k 0 = z at *
      have CG := Lk.mk (fun W => page_any z L W hL hz0 hz1)
      generalize hpg z L = p at *
      generalize pgsH L 12 (zs.take k) = l at *
      unfold Pg.val at CG
      have hki : (k : Int) < len := by omega
      clear hcl
      go_upto_region 6 with (first
        | (go_at_call 29; refine (CG.out _).mono ?_; rintro e w1 ⟨rfl, H1⟩))
      have HB1 := Lk.mk (Bp.new w1 p 31)
      have HP1 := Lk.mk ((HP.out.on H1.out).on (one_alloc w1 (.cells p.arr 31)))
      unfold Pg.arr at HB1 HP1
      obtain ⟨g, hg⟩ : ∃ g, w1.heap.size = g := ⟨_, rfl⟩
      rw [hg] at HB1 ⊢
      clear hg hcell CG HP H1
      generalize w1.alloc _ = W2 at *
      obtain ⟨Ao, c, rfl, hnc, hcm, hPo⟩ := HP1.out.form
      have HPo := Lk.mk hPo
      obtain ⟨n, hn⟩ : ∃ n, l.length = n := ⟨_, rfl⟩
      have HLn := Lk.mk hn
      rw [hn] at HP1 hnc hl12 ⊢
      clear hPo hn
      go_wp2_with fail
      go_loopw [10] (fun s10 wx => ∃ j : Nat, j ≤ n ∧ s10 = .int .i64 j ∧ Lk (∀ i, i < j → (l.getD i pz).line < p.line) ∧ Lk (Below W2.heap.size W2 wx)) (fun i _ => n - (intOf i).toNat)
      case atStart => exact ⟨0, by omega, rfl, ⟨fun i hi => by omega⟩, ⟨Below.refl _ _⟩⟩
      case round =>
        obtain ⟨j, hj, rfl, HS, HB⟩ := hrel
        have c0 := (HB1.out.on HB.out).c0
        by_cases hjn : j < n
        · obtain ⟨ao, rfl, hao, hat⟩ := HPo.out.at_ (k := j) (by have := HLn.out; omega)
          have d0 := (hat.below HB.out (by rw [block_of_add]; exact hao)).c0
          have hji : decide ((j : Int) < (n : Int)) = true := decide_eq_true (by omega)
          have hji2 : (j : Int) < (n : Int) := by omega
          have hjc : (j : Int) < (c : Int) := by omega
          by_cases hxy : (l.getD j pz).line < p.line
          · have HS' : Lk (∀ i, i < j + 1 → (l.getD i pz).line < p.line) := ⟨fun i hi => by
              by_cases e : i = j
              · subst e; exact hxy
              · exact HS.out i (by omega)⟩
            have hd : decide ((l.getD j pz).line < p.line) = true := decide_eq_true hxy
            clear hat
            generalize (l.getD j pz).line = x at *
            go_wp2_with fail
            go_quiet (fail)
            go_wp2
            go_roundw
            case rel => exact ⟨j + 1, by omega, by go_num, HS', ⟨drewB HB.out⟩⟩
            case measure => simp [intOf]; omega
          · have HPs := Lk.mk (pos_is p.line l j HS.out (by have := HLn.out; omega) (fun _ => hxy))
            have hd : decide ((l.getD j pz).line < p.line) = false := decide_eq_false hxy
            obtain ⟨x, hx⟩ : ∃ x, (l.getD j pz).line = x := ⟨_, rfl⟩
            have HXx := Lk.mk hx
            rw [hx] at d0 hxy hd
            clear hx
            by_cases heq : x = p.line
            · have hq : (x == p.line) = true := by rw [heq]; simp
              have HE := Lk.mk (insP_same (most := 12) HPs.out (.inl ⟨by have := HLn.out; omega, by rw [HXx.out]; exact heq⟩))
              go_wp2_with fail
              go_quiet (fail)
              have HBq := Lk.mk (drewB (n := nq) HB.out)
              generalize wr.drewN nq = wq at *
              have c0 := (HB1.out.on HBq.out).c0
              have d0 := (hat.below HBq.out (by rw [block_of_add]; exact hao)).c0
              rw [HXx.out] at d0
              go_wp2_with fail
              go_quiet (fail)
              have HBz := Lk.mk (drewB (n := nq) HBq.out)
              generalize wq.drewN nq = wz at *
              have HPn : Lk (Pt w w.heap.size wz (.slice (some ao) n c) (pgsH L 12 (zs.take (k + 1)))) := ⟨by rw [HNx.out, HE.out]; have := HP1.out.on HBz.out; simpa using this⟩
              clear HP1 HPo HS HE HNx HPs HB1
              go_wp2
              go_roundw
              case rel => exact ⟨k + 1, by omega, by go_num, HPn⟩
              case measure => simp [intOf]; omega
            · have hq : (x == p.line) = false := by simp [heq]
              by_cases h12 : 12 ≤ n
              · have h12d : decide ((12 : Int) ≤ (n : Int)) = true := decide_eq_true (by omega)
                have HE := Lk.mk (insP_same (most := 12) HPs.out (.inr (by have := HLn.out; omega)))
                go_wp2_with fail
                go_quiet (fail)
                have HBq := Lk.mk (drewB (n := nq) HB.out)
                generalize wr.drewN nq = wq at *
                have c0 := (HB1.out.on HBq.out).c0
                have d0 := (hat.below HBq.out (by rw [block_of_add]; exact hao)).c0
                rw [HXx.out] at d0
                go_wp2_with fail
                go_quiet (fail)
                have HBz := Lk.mk (drewB (n := nq) HBq.out)
                generalize wq.drewN nq = wz at *
                have HPn : Lk (Pt w w.heap.size wz (.slice (some ao) n c) (pgsH L 12 (zs.take (k + 1)))) := ⟨by rw [HNx.out, HE.out]; have := HP1.out.on HBz.out; simpa using this⟩
                clear HP1 HPo HS HE HNx HPs HB1
                go_wp2
                go_roundw
                case rel => exact ⟨k + 1, by omega, by go_num, HPn⟩
                case measure => simp [intOf]; omega
              · have h12d : decide ((12 : Int) ≤ (n : Int)) = false := decide_eq_false (by omega)
                have HE := Lk.mk (insP_new (most := 12) HPs.out (fun h => by have := HLn.out; rcases h with h | h; exact heq (by rw [← HXx.out]; exact h.2); omega))
                have hn12 : n < 12 := by omega
                go_wp2_with fail
                go_quiet (fail)
                have HBq := Lk.mk (drewB (n := nq) HB.out)
                generalize wr.drewN nq = wq at *
                have c0 := (HB1.out.on HBq.out).c0
                have d0 := (hat.below HBq.out (by rw [block_of_add]; exact hao)).c0
                rw [HXx.out] at d0
                go_wp2_with fail
                go_quiet (fail)
                have HBz := Lk.mk (drewB (n := nq) HBq.out)
                generalize wq.drewN nq = wz at *
                have HBp := Lk.mk (HB1.out.on HBz.out)
                have HPr := Lk.mk (HP1.out.on HBz.out)
                have hlen := HLn.out
                have HF := Lk.mk (HPo.out.below HBz.out)
                have hs1 := fun (w : World) => slice_headP (some ao) n c j w (by omega)
                obtain ⟨At, hAt⟩ : ∃ At, (if c = j then (some ao) else (some ao).map (·.add (j * 9))) = At := ⟨_, rfl⟩
                have hs2 := fun (w : World) => slice_tailP (some ao) n c j w (by omega) hnc
                rw [hAt] at hs2
                have HX1 := Lk.mk (fun (W' : World) (hB : Below wz.heap.size wz W') => From.on (w := wz) (show From wz (some ao) 9 j ((l.take j).flatMap Pg.cells) from by have h := From.pages HF.out 0 j (c + 1) (by omega) (by omega); rw [if_neg (by omega)] at h; simpa [Addr.add] using h) hB)
                have HX2 := Lk.mk (fun (W' : World) (hB : Below wz.heap.size wz W') => From.on (w := wz) (show From wz At 9 (n - j) ((l.drop j).flatMap Pg.cells) from by have h := From.pages HF.out j (n - j) c (by omega) (by omega); rw [hAt, List.take_of_length_le (by simp; omega)] at h; exact h) hB)
                clear hAt
                obtain ⟨c0, c1, c2, c3, c4, c5, c6, c7, c8⟩ := HBp.out
                have HBa : Lk (Below wz.heap.size wz wz.drew) := ⟨(Below.refl _ wz).drew⟩
                have HBb : Lk (Below wz.heap.size wz (wz.alloc (Obj.cells #[Value.int .i64 p.line, .int .u64 (p.head : Int), .int .u64 (p.a : Int), .int .u64 (p.b : Int), .int .u64 (p.c : Int), .int .u64 (p.d : Int), .int .u64 (p.e : Int), .int .u64 (p.f : Int), .int .u64 (p.g : Int)] 31)).drew) := ⟨((Below.refl _ wz).alloc (Nat.le_refl _) _).drew⟩
                have HQ1 := Lk.mk (pages_one (l.take j))
                have HQ2 := Lk.mk (pages_one (l.drop j))
                have HQ3 : Lk (∀ u ∈ [Value.int .i64 p.line, .int .u64 (p.head : Int), .int .u64 (p.a : Int), .int .u64 (p.b : Int), .int .u64 (p.c : Int), .int .u64 (p.d : Int), .int .u64 (p.e : Int), .int .u64 (p.f : Int), .int .u64 (p.g : Int)], u.oneCell' = true) := ⟨pages_one [p]⟩
                have hm1 : 0 + j ≤ maxLen := by unfold maxLen; omega
                have hm2 : (0 + j) * 72 ≤ 140737488355328 := by omega
                have hm3 : 0 + j + 1 ≤ maxLen := by unfold maxLen; omega
                have hm4 : (0 + j + 1) * 72 ≤ 140737488355328 := by omega
                have hm5 : 0 + j + 1 + (n - j) ≤ maxLen := by unfold maxLen; omega
                have hm6 : (0 + j + 1 + (n - j)) * 72 ≤ 140737488355328 := by omega
                have HEnd := Lk.mk (fun (w8 : World) (v8 : Value) (ho : w8.ownsRow wz.heap.size 31 9 v8 (0 + j + 1 + (n - j)) ([] ++ (l.take j).flatMap Pg.cells ++ [Value.int .i64 p.line, .int .u64 (p.head : Int), .int .u64 (p.a : Int), .int .u64 (p.b : Int), .int .u64 (p.c : Int), .int .u64 (p.d : Int), .int .u64 (p.e : Int), .int .u64 (p.f : Int), .int .u64 (p.g : Int)] ++ (l.drop j).flatMap Pg.cells)) (hB : Below wz.heap.size wz w8) => show Pt w w.heap.size w8 v8 (pgsH L 12 (zs.take (k + 1))) from by
                  rw [HNx.out, HE.out]
                  refine Pt.lower (w1 := wz) ⟨?_, hB⟩ HPr.out.below HPr.out.below.size
                  rw [show (l.take j ++ p :: l.drop j).length = 0 + j + 1 + (n - j) from by simp; omega, List.flatMap_append, List.flatMap_cons]
                  simpa [Pg.cells] using ho)
                have HBp6 := Lk.mk (fun (W' : World) (hB : Below wz.heap.size wz W') => HBp.out.on hB)
                clear HP1 HPo HS HE HNx HPs HB1 HPr HF HBp
                go_upto_region 10 with fail
                go_region_law (first
                    | (refine step_onto rfl (.const (.slice none 0 0)) (.tmp 61) 22 rfl wz.heap.size 31 i0 pz.val 9 72 Try.underlying22 hi hi0 hi1 hi2 rfl (by decide) (.slice none 0 0) (0) ([]) rfl (World.ownsRow_nil _ _ _ _) (some ao) (j) (c) ((l.take j).flatMap Pg.cells) (by simp [Act.eval, Act.put]) (HX1.out _ HBa.out) (HQ1.out) hm1 hm2 HBa.out.size ?_; intro v6 w6 hown6 hgrow6; have HO6 := Lk.mk hown6; have HB6 := Lk.mk (HBa.out.grown hgrow6 HBa.out.size (fun k hk => by cases hk)); have HG6 := Lk.mk hgrow6; obtain ⟨c0, c1, c2, c3, c4, c5, c6, c7, c8⟩ := HBp6.out _ HB6.out)
                    | (refine step_onto rfl (.const (.slice none 0 0)) (.tmp 61) 22 rfl wz.heap.size 31 i0 pz.val 9 72 Try.underlying22 hi hi0 hi1 hi2 rfl (by decide) (.slice none 0 0) (0) ([]) rfl (World.ownsRow_nil _ _ _ _) (some ao) (j) (c) ((l.take j).flatMap Pg.cells) (by simp [Act.eval, Act.put]) (HX1.out _ HBb.out) (HQ1.out) hm1 hm2 HBb.out.size ?_; intro v6 w6 hown6 hgrow6; have HO6 := Lk.mk hown6; have HB6 := Lk.mk (HBb.out.grown hgrow6 HBb.out.size (fun k hk => by cases hk)); have HG6 := Lk.mk hgrow6; obtain ⟨c0, c1, c2, c3, c4, c5, c6, c7, c8⟩ := HBp6.out _ HB6.out)
                    | (refine step_onto rfl (.tmp 62) (.tmp 64) 22 rfl wz.heap.size 31 i0 pz.val 9 72 Try.underlying22 hi hi0 hi1 hi2 rfl (by decide) (v6) (0 + j) ([] ++ (l.take j).flatMap Pg.cells) (by simp [Act.eval, Act.put]) (HO6.out.alloc _) (some ⟨w6.heap.size, 0, none⟩) (1) (1) ([Value.int .i64 p.line, .int .u64 (p.head : Int), .int .u64 (p.a : Int), .int .u64 (p.b : Int), .int .u64 (p.c : Int), .int .u64 (p.d : Int), .int .u64 (p.e : Int), .int .u64 (p.f : Int), .int .u64 (p.g : Int)]) (by simp [Act.eval, Act.put]) (From.new w6 [Value.int .i64 p.line, .int .u64 (p.head : Int), .int .u64 (p.a : Int), .int .u64 (p.b : Int), .int .u64 (p.c : Int), .int .u64 (p.d : Int), .int .u64 (p.e : Int), .int .u64 (p.f : Int), .int .u64 (p.g : Int)] _ 9 rfl) (HQ3.out) hm3 hm4 (HB6.out.alloc HB6.out.size (Obj.cells #[Value.int .i64 p.line, .int .u64 (p.head : Int), .int .u64 (p.a : Int), .int .u64 (p.b : Int), .int .u64 (p.c : Int), .int .u64 (p.d : Int), .int .u64 (p.e : Int), .int .u64 (p.f : Int), .int .u64 (p.g : Int)] 31)).size ?_; intro v7 w7 hown7 hgrow7; have HO7 := Lk.mk hown7; have HB7 := Lk.mk ((HB6.out.alloc HB6.out.size (Obj.cells #[Value.int .i64 p.line, .int .u64 (p.head : Int), .int .u64 (p.a : Int), .int .u64 (p.b : Int), .int .u64 (p.c : Int), .int .u64 (p.d : Int), .int .u64 (p.e : Int), .int .u64 (p.f : Int), .int .u64 (p.g : Int)] 31)).grown hgrow7 (HB6.out.alloc HB6.out.size (Obj.cells #[Value.int .i64 p.line, .int .u64 (p.head : Int), .int .u64 (p.a : Int), .int .u64 (p.b : Int), .int .u64 (p.c : Int), .int .u64 (p.d : Int), .int .u64 (p.e : Int), .int .u64 (p.f : Int), .int .u64 (p.g : Int)] 31)).size (fun g hg => (HO6.out.lt g hg).1)))
                    | (refine step_onto rfl (.tmp 62) (.tmp 64) 22 rfl wz.heap.size 31 i0 pz.val 9 72 Try.underlying22 hi hi0 hi1 hi2 rfl (by decide) (v6) (0 + j) ([] ++ (l.take j).flatMap Pg.cells) (by simp [Act.eval, Act.put]) HO6.out (some ⟨wz.heap.size, 0, none⟩) (1) (1) ([Value.int .i64 p.line, .int .u64 (p.head : Int), .int .u64 (p.a : Int), .int .u64 (p.b : Int), .int .u64 (p.c : Int), .int .u64 (p.d : Int), .int .u64 (p.e : Int), .int .u64 (p.f : Int), .int .u64 (p.g : Int)]) (by simp [Act.eval, Act.put]) ((show From (wz.alloc (Obj.cells #[Value.int .i64 p.line, .int .u64 (p.head : Int), .int .u64 (p.a : Int), .int .u64 (p.b : Int), .int .u64 (p.c : Int), .int .u64 (p.d : Int), .int .u64 (p.e : Int), .int .u64 (p.f : Int), .int .u64 (p.g : Int)] 31)).drew _ 9 1 _ from From.new wz [Value.int .i64 p.line, .int .u64 (p.head : Int), .int .u64 (p.a : Int), .int .u64 (p.b : Int), .int .u64 (p.c : Int), .int .u64 (p.d : Int), .int .u64 (p.e : Int), .int .u64 (p.f : Int), .int .u64 (p.g : Int)] _ 9 rfl).on (below_none HG6.out)) (HQ3.out) hm3 hm4 HB6.out.size ?_; intro v7 w7 hown7 hgrow7; have HO7 := Lk.mk hown7; have HB7 := Lk.mk (HB6.out.grown hgrow7 HB6.out.size (fun g hg => (HO6.out.lt g hg).1)))
                    | (refine step_onto rfl (.tmp 65) (.tmp 68) 22 rfl wz.heap.size 31 i0 pz.val 9 72 Try.underlying22 hi hi0 hi1 hi2 rfl (by decide) (v7) (0 + j + 1) ([] ++ (l.take j).flatMap Pg.cells ++ [Value.int .i64 p.line, .int .u64 (p.head : Int), .int .u64 (p.a : Int), .int .u64 (p.b : Int), .int .u64 (p.c : Int), .int .u64 (p.d : Int), .int .u64 (p.e : Int), .int .u64 (p.f : Int), .int .u64 (p.g : Int)]) (by simp [Act.eval, Act.put]) HO7.out (At) (n - j) (c - j) ((l.drop j).flatMap Pg.cells) (by simp [Act.eval, Act.put]) (HX2.out _ HB7.out) (HQ2.out) hm5 hm6 HB7.out.size ?_; intro v8 w8 hown8 hgrow8; have HP8 := Lk.mk (HEnd.out w8 v8 hown8 (HB7.out.grown hgrow8 HB7.out.size (fun g hg => (HO7.out.lt g hg).1)))))
                all_goals go_wp2
                all_goals go_roundw
                all_goals first | exact ⟨k + 1, by omega, by go_num, HP8⟩ | (simp [intOf]; omega)
        · obtain rfl : n = j := by omega
          have hji : decide ((n : Int) < (n : Int)) = false := decide_eq_false (by omega)
          have HPs := Lk.mk (pos_is p.line l n HS.out (by have := HLn.out; omega) (fun h => by have := HLn.out; omega))
          by_cases h12 : 12 ≤ n
          · have h12d : decide ((12 : Int) ≤ (n : Int)) = true := decide_eq_true (by omega)
            have HE := Lk.mk (insP_same (most := 12) HPs.out (.inr (by have := HLn.out; omega)))
            go_wp2_with fail
            go_quiet (fail)
            have HBq := Lk.mk (drewB (n := nq) HB.out)
            generalize wr.drewN nq = wq at *
            have c0 := (HB1.out.on HBq.out).c0
            go_wp2_with fail
            go_quiet (fail)
            have HBz := Lk.mk (drewB (n := nq) HBq.out)
            generalize wq.drewN nq = wz at *
            have HPn : Lk (Pt w w.heap.size wz (.slice (Ao) n c) (pgsH L 12 (zs.take (k + 1)))) := ⟨by rw [HNx.out, HE.out]; have := HP1.out.on HBz.out; simpa using this⟩
            clear HP1 HPo HS HE HNx HPs HB1
            go_wp2
            go_roundw
            case rel => exact ⟨k + 1, by omega, by go_num, HPn⟩
            case measure => simp [intOf]; omega
          · have h12d : decide ((12 : Int) ≤ (n : Int)) = false := decide_eq_false (by omega)
            have HE := Lk.mk (insP_new (most := 12) HPs.out (fun h => by have := HLn.out; omega))
            have hn12 : n < 12 := by omega
            go_wp2_with fail
            go_quiet (fail)
            have HBq := Lk.mk (drewB (n := nq) HB.out)
            generalize wr.drewN nq = wq at *
            have c0 := (HB1.out.on HBq.out).c0
            go_wp2_with fail
            go_quiet (fail)
            have HBz := Lk.mk (drewB (n := nq) HBq.out)
            generalize wq.drewN nq = wz at *
            have HBp := Lk.mk (HB1.out.on HBz.out)
            have HPr := Lk.mk (HP1.out.on HBz.out)
            have hlen := HLn.out
            have HF := Lk.mk (HPo.out.below HBz.out)
            have hs1 := fun (w : World) => slice_headP (Ao) n c n w (by omega)
            obtain ⟨At, hAt⟩ : ∃ At, (if c = n then (Ao) else (Ao).map (·.add (n * 9))) = At := ⟨_, rfl⟩
            have hs2 := fun (w : World) => slice_tailP (Ao) n c n w (by omega) hnc
            rw [hAt] at hs2
            have HX1 := Lk.mk (fun (W' : World) (hB : Below wz.heap.size wz W') => From.on (w := wz) (show From wz (Ao) 9 n ((l.take n).flatMap Pg.cells) from by have h := From.pages HF.out 0 n (c + 1) (by omega) (by omega); rw [if_neg (by omega)] at h; simpa [Addr.add] using h) hB)
            have HX2 := Lk.mk (fun (W' : World) (hB : Below wz.heap.size wz W') => From.on (w := wz) (show From wz At 9 (n - n) ((l.drop n).flatMap Pg.cells) from by have h := From.pages HF.out n (n - n) c (by omega) (by omega); rw [hAt, List.take_of_length_le (by simp; omega)] at h; exact h) hB)
            clear hAt
            obtain ⟨c0, c1, c2, c3, c4, c5, c6, c7, c8⟩ := HBp.out
            have HBa : Lk (Below wz.heap.size wz wz.drew) := ⟨(Below.refl _ wz).drew⟩
            have HBb : Lk (Below wz.heap.size wz (wz.alloc (Obj.cells #[Value.int .i64 p.line, .int .u64 (p.head : Int), .int .u64 (p.a : Int), .int .u64 (p.b : Int), .int .u64 (p.c : Int), .int .u64 (p.d : Int), .int .u64 (p.e : Int), .int .u64 (p.f : Int), .int .u64 (p.g : Int)] 31)).drew) := ⟨((Below.refl _ wz).alloc (Nat.le_refl _) _).drew⟩
            have HQ1 := Lk.mk (pages_one (l.take n))
            have HQ2 := Lk.mk (pages_one (l.drop n))
            have HQ3 : Lk (∀ u ∈ [Value.int .i64 p.line, .int .u64 (p.head : Int), .int .u64 (p.a : Int), .int .u64 (p.b : Int), .int .u64 (p.c : Int), .int .u64 (p.d : Int), .int .u64 (p.e : Int), .int .u64 (p.f : Int), .int .u64 (p.g : Int)], u.oneCell' = true) := ⟨pages_one [p]⟩
            have hm1 : 0 + n ≤ maxLen := by unfold maxLen; omega
            have hm2 : (0 + n) * 72 ≤ 140737488355328 := by omega
            have hm3 : 0 + n + 1 ≤ maxLen := by unfold maxLen; omega
            have hm4 : (0 + n + 1) * 72 ≤ 140737488355328 := by omega
            have hm5 : 0 + n + 1 + (n - n) ≤ maxLen := by unfold maxLen; omega
            have hm6 : (0 + n + 1 + (n - n)) * 72 ≤ 140737488355328 := by omega
            have HEnd := Lk.mk (fun (w8 : World) (v8 : Value) (ho : w8.ownsRow wz.heap.size 31 9 v8 (0 + n + 1 + (n - n)) ([] ++ (l.take n).flatMap Pg.cells ++ [Value.int .i64 p.line, .int .u64 (p.head : Int), .int .u64 (p.a : Int), .int .u64 (p.b : Int), .int .u64 (p.c : Int), .int .u64 (p.d : Int), .int .u64 (p.e : Int), .int .u64 (p.f : Int), .int .u64 (p.g : Int)] ++ (l.drop n).flatMap Pg.cells)) (hB : Below wz.heap.size wz w8) => show Pt w w.heap.size w8 v8 (pgsH L 12 (zs.take (k + 1))) from by
              rw [HNx.out, HE.out]
              refine Pt.lower (w1 := wz) ⟨?_, hB⟩ HPr.out.below HPr.out.below.size
              rw [show (l.take n ++ p :: l.drop n).length = 0 + n + 1 + (n - n) from by simp; omega, List.flatMap_append, List.flatMap_cons]
              simpa [Pg.cells] using ho)
            have HBp6 := Lk.mk (fun (W' : World) (hB : Below wz.heap.size wz W') => HBp.out.on hB)
            clear HP1 HPo HS HE HNx HPs HB1 HPr HF HBp
            go_upto_region 10 with fail
            go_region_law (first
                | (refine step_onto rfl (.const (.slice none 0 0)) (.tmp 61) 22 rfl wz.heap.size 31 i0 pz.val 9 72 Try.underlying22 hi hi0 hi1 hi2 rfl (by decide) (.slice none 0 0) (0) ([]) rfl (World.ownsRow_nil _ _ _ _) (Ao) (n) (c) ((l.take n).flatMap Pg.cells) (by simp [Act.eval, Act.put]) (HX1.out _ HBa.out) (HQ1.out) hm1 hm2 HBa.out.size ?_; intro v6 w6 hown6 hgrow6; have HO6 := Lk.mk hown6; have HB6 := Lk.mk (HBa.out.grown hgrow6 HBa.out.size (fun k hk => by cases hk)); have HG6 := Lk.mk hgrow6; obtain ⟨c0, c1, c2, c3, c4, c5, c6, c7, c8⟩ := HBp6.out _ HB6.out)
                | (refine step_onto rfl (.const (.slice none 0 0)) (.tmp 61) 22 rfl wz.heap.size 31 i0 pz.val 9 72 Try.underlying22 hi hi0 hi1 hi2 rfl (by decide) (.slice none 0 0) (0) ([]) rfl (World.ownsRow_nil _ _ _ _) (Ao) (n) (c) ((l.take n).flatMap Pg.cells) (by simp [Act.eval, Act.put]) (HX1.out _ HBb.out) (HQ1.out) hm1 hm2 HBb.out.size ?_; intro v6 w6 hown6 hgrow6; have HO6 := Lk.mk hown6; have HB6 := Lk.mk (HBb.out.grown hgrow6 HBb.out.size (fun k hk => by cases hk)); have HG6 := Lk.mk hgrow6; obtain ⟨c0, c1, c2, c3, c4, c5, c6, c7, c8⟩ := HBp6.out _ HB6.out)
                | (refine step_onto rfl (.tmp 62) (.tmp 64) 22 rfl wz.heap.size 31 i0 pz.val 9 72 Try.underlying22 hi hi0 hi1 hi2 rfl (by decide) (v6) (0 + n) ([] ++ (l.take n).flatMap Pg.cells) (by simp [Act.eval, Act.put]) (HO6.out.alloc _) (some ⟨w6.heap.size, 0, none⟩) (1) (1) ([Value.int .i64 p.line, .int .u64 (p.head : Int), .int .u64 (p.a : Int), .int .u64 (p.b : Int), .int .u64 (p.c : Int), .int .u64 (p.d : Int), .int .u64 (p.e : Int), .int .u64 (p.f : Int), .int .u64 (p.g : Int)]) (by simp [Act.eval, Act.put]) (From.new w6 [Value.int .i64 p.line, .int .u64 (p.head : Int), .int .u64 (p.a : Int), .int .u64 (p.b : Int), .int .u64 (p.c : Int), .int .u64 (p.d : Int), .int .u64 (p.e : Int), .int .u64 (p.f : Int), .int .u64 (p.g : Int)] _ 9 rfl) (HQ3.out) hm3 hm4 (HB6.out.alloc HB6.out.size (Obj.cells #[Value.int .i64 p.line, .int .u64 (p.head : Int), .int .u64 (p.a : Int), .int .u64 (p.b : Int), .int .u64 (p.c : Int), .int .u64 (p.d : Int), .int .u64 (p.e : Int), .int .u64 (p.f : Int), .int .u64 (p.g : Int)] 31)).size ?_; intro v7 w7 hown7 hgrow7; have HO7 := Lk.mk hown7; have HB7 := Lk.mk ((HB6.out.alloc HB6.out.size (Obj.cells #[Value.int .i64 p.line, .int .u64 (p.head : Int), .int .u64 (p.a : Int), .int .u64 (p.b : Int), .int .u64 (p.c : Int), .int .u64 (p.d : Int), .int .u64 (p.e : Int), .int .u64 (p.f : Int), .int .u64 (p.g : Int)] 31)).grown hgrow7 (HB6.out.alloc HB6.out.size (Obj.cells #[Value.int .i64 p.line, .int .u64 (p.head : Int), .int .u64 (p.a : Int), .int .u64 (p.b : Int), .int .u64 (p.c : Int), .int .u64 (p.d : Int), .int .u64 (p.e : Int), .int .u64 (p.f : Int), .int .u64 (p.g : Int)] 31)).size (fun g hg => (HO6.out.lt g hg).1)))
                | (refine step_onto rfl (.tmp 62) (.tmp 64) 22 rfl wz.heap.size 31 i0 pz.val 9 72 Try.underlying22 hi hi0 hi1 hi2 rfl (by decide) (v6) (0 + n) ([] ++ (l.take n).flatMap Pg.cells) (by simp [Act.eval, Act.put]) HO6.out (some ⟨wz.heap.size, 0, none⟩) (1) (1) ([Value.int .i64 p.line, .int .u64 (p.head : Int), .int .u64 (p.a : Int), .int .u64 (p.b : Int), .int .u64 (p.c : Int), .int .u64 (p.d : Int), .int .u64 (p.e : Int), .int .u64 (p.f : Int), .int .u64 (p.g : Int)]) (by simp [Act.eval, Act.put]) ((show From (wz.alloc (Obj.cells #[Value.int .i64 p.line, .int .u64 (p.head : Int), .int .u64 (p.a : Int), .int .u64 (p.b : Int), .int .u64 (p.c : Int), .int .u64 (p.d : Int), .int .u64 (p.e : Int), .int .u64 (p.f : Int), .int .u64 (p.g : Int)] 31)).drew _ 9 1 _ from From.new wz [Value.int .i64 p.line, .int .u64 (p.head : Int), .int .u64 (p.a : Int), .int .u64 (p.b : Int), .int .u64 (p.c : Int), .int .u64 (p.d : Int), .int .u64 (p.e : Int), .int .u64 (p.f : Int), .int .u64 (p.g : Int)] _ 9 rfl).on (below_none HG6.out)) (HQ3.out) hm3 hm4 HB6.out.size ?_; intro v7 w7 hown7 hgrow7; have HO7 := Lk.mk hown7; have HB7 := Lk.mk (HB6.out.grown hgrow7 HB6.out.size (fun g hg => (HO6.out.lt g hg).1)))
                | (refine step_onto rfl (.tmp 65) (.tmp 68) 22 rfl wz.heap.size 31 i0 pz.val 9 72 Try.underlying22 hi hi0 hi1 hi2 rfl (by decide) (v7) (0 + n + 1) ([] ++ (l.take n).flatMap Pg.cells ++ [Value.int .i64 p.line, .int .u64 (p.head : Int), .int .u64 (p.a : Int), .int .u64 (p.b : Int), .int .u64 (p.c : Int), .int .u64 (p.d : Int), .int .u64 (p.e : Int), .int .u64 (p.f : Int), .int .u64 (p.g : Int)]) (by simp [Act.eval, Act.put]) HO7.out (At) (n - n) (c - n) ((l.drop n).flatMap Pg.cells) (by simp [Act.eval, Act.put]) (HX2.out _ HB7.out) (HQ2.out) hm5 hm6 HB7.out.size ?_; intro v8 w8 hown8 hgrow8; have HP8 := Lk.mk (HEnd.out w8 v8 hown8 (HB7.out.grown hgrow8 HB7.out.size (fun g hg => (HO7.out.lt g hg).1)))))
            all_goals go_wp2
            all_goals go_roundw
            all_goals first | exact ⟨k + 1, by omega, by go_num, HP8⟩ | (simp [intOf]; omega)
    · obtain rfl : len = k := by omega
      go_wp2
      go_ret
      exact ⟨_, rfl, HP⟩
end Go.Proofs.Ytdodigfojbijfaa.Rs

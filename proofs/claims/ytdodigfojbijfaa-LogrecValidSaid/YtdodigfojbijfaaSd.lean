/-
  LogrecValid's last region, which compares what the program and the reference say of four records: a theorem of its own.
-/
import Derived.Test.YtdodigfojbijfaaSc
import Derived.Deep.CutBlock
namespace Go.Proofs.Ytdodigfojbijfaa.Sd
open Go.ChangeShapes Go.WideShapes Go.ChangeAt Go.RowKit Ga Gb Ra Rb Rc Rd Re Rf Rg Rh Ri Rj Rk Rl Rm Rn Ro Rp Rq Rr Rs Rt Ru Rv Rw Rx Ry Rz Sa Sb Sc Un
set_option linter.unusedVariables false
set_option linter.unusedSimpArgs false
set_option maxRecDepth 100000
/-- Region n of a function's code. -/
def region (n : Nat) : Code → Option Code
  | .region id ops b => if id = n then some (.region id ops b) else none
  | .seq a b => match region n a with
    | some c => some c
    | none => region n b
  | .block _ c => region n c
  | .loop c => region n c
  | .scope c => region n c
  | .cond _ a b => match region n a with
    | some c => some c
    | none => region n b
  | _ => none
noncomputable def reg21 : Code := (Try.f3.body.bind (region 21)).getD .skip
set_option maxHeartbeats 4000000 in
theorem r21 {u0 u1 u2 u4 u5 u6 u7 u8 u9 u10 u11 u17 u19 u20 u21 u22 u23 u24 u25 u26 u27 u28 u29 u30 u31 u32 u33 u34 u35 u36 u37 u38 u39 u40 u41 u42 u43 u44 u45 u46 u47 u48 u49 u50 u51 u52 u53 u54 u55 u56 u57 u58 u59 u60 u61 u62 u63 u64 u65 u66 u67 u68 u69 u70 u71 u72 u73 u74 u75 u76 u77 u78 u79 u80 u81 u82 u83 u84 u85 u86 u87 u88 u89 u90 u91 u92 u93 u94 u95 u96 u97 u98 u99 u100 u101 u102 u103 u104 u105 u106 u107 u108 u109 u110 u111 u112 u113 u114 u115 u116 u117 u118 u119 u120 u121 u122 u123 u124 u125 u126 u127 u128 u129 u130 u131 u132 u133 u134 u135 u136 u137 u138 u139 u140 u141 u142 u143 u144 u145 u146 u147 u148 u149 u150 u151 u152 u153 u154 u155 u156 u157 u158 u159 u160 u161 u162 u163 u164 u165 u166 u167 u168 u169 u170 u171 u172 u173 u174 u175 u176 u177 u178 u179 u180 u181 u182 u183 u184 u185 u186 u187 u188 u189 u190 u191 u192 : Value} {K : Act → World → Prop} {Q' : Exit → Act → World → Prop} {W3 : World} {b13 b14 b15 b16 : Nat} {a0 a3 L s sD : Int} {a1 a2 A1 AD : Option Addr} {l1 l2 l lD : List Pg} {len1 cap1 len2 cap2 m c1 nD cD : Nat}
    (HX13c : Lk (W3.heap[b13]? = some (.cells #[.int .i64 a0, .slice a1 len1 cap1] 25 (0, 0)))) (HX14c : Lk (W3.heap[b14]? = some (.cells #[.int .i64 a0, .slice a2 len2 cap2] 25 (0, 0)))) (HX15c : Lk (W3.heap[b15]? = some (.cells #[.int .i64 s, .slice A1 m c1] 25 (0, 0)))) (HXD : Lk (W3.heap[b16]? = some (.cells #[.int .i64 sD, .slice AD nD cD] 25 (0, 0))))
    (HPa : Lk (Pgs W3 W3.heap.size a1 l1)) (HPb : Lk (Pgs W3 W3.heap.size a2 l2)) (HPC : Lk (Pgs W3 W3.heap.size A1 l)) (HPD : Lk (Pgs W3 W3.heap.size AD lD))
    (HNa : Lk (l1.length = len1)) (HNb : Lk (l2.length = len2)) (HM : Lk (l.length = m)) (HND : Lk (lD.length = nD)) (HWa : Lk (PgsWf l1)) (HWD : Lk (PgsWf lD))
    (hb1i : (len1 : Int) ≤ 20) (hb2i : (len2 : Int) ≤ 20) (hl2 : m ≤ 12) (hnD : nD ≤ 12)
    (hK : ∀ (v133 v134 v135 v136 v137 v138 v139 v140 v141 v142 v143 v144 v145 v146 v147 v148 v149 v150 v151 v152 v153 v154 v155 v156 v157 v158 v159 v160 v161 v162 v163 v164 v165 v166 v167 v168 v169 v170 v171 v172 v173 v174 v175 v176 v177 v178 v179 v180 v181 v182 v183 v184 v185 v186 v187 v188 v189 v190 v191 v192 : Value) (wx : World), Lk (Below W3.heap.size W3 wx) → K ⟨#[u0, u1, u2, .int .i64 a3, u4, u5, u6, u7, u8, u9, u10, u11, .bool true, .pointer (some ⟨b13, 0, none⟩), .pointer (some ⟨b14, 0, none⟩), .pointer (some ⟨b15, 0, none⟩), .pointer (some ⟨b16, 0, none⟩), u17, .int .i64 L, u19, u20, u21, u22, u23, u24, u25, u26, u27, u28, u29, u30, u31, u32, u33, u34, u35, u36, u37, u38, u39, u40, u41, u42, u43, u44, u45, u46, u47, u48, u49, u50, u51, u52, u53, u54, u55, u56, u57, u58, u59, u60, u61, u62, u63, u64, u65, u66, u67, u68, u69, u70, u71, u72, u73, u74, u75, u76, u77, u78, u79, u80, u81, u82, u83, u84, u85, u86, u87, u88, u89, u90, u91, u92, u93, u94, u95, u96, u97, u98, u99, u100, u101, u102, u103, u104, u105, u106, u107, u108, u109, u110, u111, u112, u113, u114, u115, u116, u117, u118, u119, u120, u121, u122, u123, u124, u125, u126, u127, u128, u129, u130, u131, u132, v133, v134, v135, v136, v137, v138, v139, v140, v141, v142, v143, v144, v145, v146, v147, v148, v149, v150, v151, v152, v153, v154, v155, v156, v157, v158, v159, v160, v161, v162, v163, v164, v165, v166, v167, v168, v169, v170, v171, v172, v173, v174, v175, v176, v177, v178, v179, v180, v181, v182, v183, v184, v185, v186, v187, v188, v189, v190, v191, v192], []⟩ wx) :
    Code.wp Try.prog reg21 (Exit.then K Q') ⟨#[u0, u1, u2, .int .i64 a3, u4, u5, u6, u7, u8, u9, u10, u11, .bool false, .pointer (some ⟨b13, 0, none⟩), .pointer (some ⟨b14, 0, none⟩), .pointer (some ⟨b15, 0, none⟩), .pointer (some ⟨b16, 0, none⟩), u17, .int .i64 L, u19, u20, u21, u22, u23, u24, u25, u26, u27, u28, u29, u30, u31, u32, u33, u34, u35, u36, u37, u38, u39, u40, u41, u42, u43, u44, u45, u46, u47, u48, u49, u50, u51, u52, u53, u54, u55, u56, u57, u58, u59, u60, u61, u62, u63, u64, u65, u66, u67, u68, u69, u70, u71, u72, u73, u74, u75, u76, u77, u78, u79, u80, u81, u82, u83, u84, u85, u86, u87, u88, u89, u90, u91, u92, u93, u94, u95, u96, u97, u98, u99, u100, u101, u102, u103, u104, u105, u106, u107, u108, u109, u110, u111, u112, u113, u114, u115, u116, u117, u118, u119, u120, u121, u122, u123, u124, u125, u126, u127, u128, u129, u130, u131, u132, u133, u134, u135, u136, u137, u138, u139, u140, u141, u142, u143, u144, u145, u146, u147, u148, u149, u150, u151, u152, u153, u154, u155, u156, u157, u158, u159, u160, u161, u162, u163, u164, u165, u166, u167, u168, u169, u170, u171, u172, u173, u174, u175, u176, u177, u178, u179, u180, u181, u182, u183, u184, u185, u186, u187, u188, u189, u190, u191, u192], []⟩ W3 := by
  have HK := Lk.mk hK
  clear hK
  have HCA := Lk.mk awake_any
  have CI := Lk.mk (fun (s : Int) (A : Option Addr) (n c : Nat) W => in_any s A n c W)
  have V1 := Lk.mk (fun (W : World) (hB : Below W3.heap.size W3 W) => valid_any a0 a3 a1 l1 len1 cap1 W HNa.out (by omega) HWa ⟨HPa.out.on hB⟩)
  have RV1 := Lk.mk (fun (W : World) (hB : Below W3.heap.size W3 W) => validRecord_any a0 a3 a1 l1 len1 cap1 W HNa.out (by omega) HWa ⟨HPa.out.on hB⟩)
  have V2 := Lk.mk (fun (W : World) (hB : Below W3.heap.size W3 W) => valid_any a0 L a1 l1 len1 cap1 W HNa.out (by omega) HWa ⟨HPa.out.on hB⟩)
  have RV2 := Lk.mk (fun (W : World) (hB : Below W3.heap.size W3 W) => validRecord_any a0 L a1 l1 len1 cap1 W HNa.out (by omega) HWa ⟨HPa.out.on hB⟩)
  have V3 := Lk.mk (fun (W : World) (hB : Below W3.heap.size W3 W) => valid_any sD L AD lD nD cD W HND.out (by omega) HWD ⟨HPD.out.on hB⟩)
  have RV3 := Lk.mk (fun (W : World) (hB : Below W3.heap.size W3 W) => validRecord_any sD L AD lD nD cD W HND.out (by omega) HWD ⟨HPD.out.on hB⟩)
  have M1 := Lk.mk (fun (W : World) (hB : Below W3.heap.size W3 W) => same_any a1 a2 l1 l2 len1 len2 cap1 cap2 W a0 a0 HNa.out HNb.out (by omega) (by omega) ⟨HPa.out.on hB⟩ ⟨HPb.out.on hB⟩)
  have RM1 := Lk.mk (fun (W : World) (hB : Below W3.heap.size W3 W) => sameRecord_any (w := W) (A := a1) (A' := a2) (l := l1) (m := l2) (n := len1) (n' := len2) (c := cap1) (c' := cap2) a0 a0 HNa.out HNb.out (by omega) (by omega) ⟨HPa.out.on hB⟩ ⟨HPb.out.on hB⟩)
  have M2 := Lk.mk (fun (W : World) (hB : Below W3.heap.size W3 W) => same_any A1 AD l lD m nD c1 cD W s sD HM.out HND.out (by omega) (by omega) ⟨HPC.out.on hB⟩ ⟨HPD.out.on hB⟩)
  have RM2 := Lk.mk (fun (W : World) (hB : Below W3.heap.size W3 W) => sameRecord_any (w := W) (A := A1) (A' := AD) (l := l) (m := lD) (n := m) (n' := nD) (c := c1) (c' := cD) s sD HM.out HND.out (by omega) (by omega) ⟨HPC.out.on hB⟩ ⟨HPD.out.on hB⟩)
  have M3 := Lk.mk (fun (W : World) (hB : Below W3.heap.size W3 W) => same_any A1 A1 l l m m c1 c1 W s s HM.out HM.out (by omega) (by omega) ⟨HPC.out.on hB⟩ ⟨HPC.out.on hB⟩)
  rw [show decide (s = s ∧ l = l) = true from by simp] at M3
  unfold rcv at CI V1 RV1 V2 RV2 V3 RV3 M1 RM1 M2 RM2 M3
  generalize validR a0 l1 a3 = v1 at *
  generalize validR a0 l1 L = v2 at *
  generalize validR sD lD L = v3 at *
  generalize decide (a0 = a0 ∧ l1 = l2) = b1 at *
  generalize decide (s = sD ∧ l = lD) = b2 at *
  conv => arg 2; whnf
  obtain ⟨x0, x1, _, _⟩ := two_cells HX13c.out
  obtain ⟨y0, y1, _, _⟩ := two_cells HX14c.out
  obtain ⟨z0, z1, _, _⟩ := two_cells HX15c.out
  obtain ⟨t0, t1, _, _⟩ := two_cells HXD.out
  have HQ0 := Lk.mk (show (W3.drew.cell? ⟨b13, 0, none⟩ = some (.int .i64 a0) ∧ W3.drew.cell? ⟨b13, 1, none⟩ = some (.slice a1 len1 cap1) ∧ W3.drew.cell? ⟨b14, 0, none⟩ = some (.int .i64 a0) ∧ W3.drew.cell? ⟨b14, 1, none⟩ = some (.slice a2 len2 cap2) ∧ W3.drew.cell? ⟨b15, 0, none⟩ = some (.int .i64 s) ∧ W3.drew.cell? ⟨b15, 1, none⟩ = some (.slice A1 m c1) ∧ W3.drew.cell? ⟨b16, 0, none⟩ = some (.int .i64 sD) ∧ W3.drew.cell? ⟨b16, 1, none⟩ = some (.slice AD nD cD) ∧ Lk (Below W3.heap.size W3 W3.drew)) from ⟨x0, x1, y0, y1, z0, z1, t0, t1, ⟨(Below.refl _ _).drew⟩⟩)
  have hu : undef = Value.tuple #[] := rfl
  clear x0 x1 y0 y1 z0 z1 t0 t1 HPa HPb HPC HPD HX13c HX14c HX15c HXD HNa HNb HWa HND HWD HM
  go_region_held3 (fun W' => (W'.cell? ⟨b13, 0, none⟩ = some (.int .i64 a0) ∧ W'.cell? ⟨b13, 1, none⟩ = some (.slice a1 len1 cap1) ∧ W'.cell? ⟨b14, 0, none⟩ = some (.int .i64 a0) ∧ W'.cell? ⟨b14, 1, none⟩ = some (.slice a2 len2 cap2) ∧ W'.cell? ⟨b15, 0, none⟩ = some (.int .i64 s) ∧ W'.cell? ⟨b15, 1, none⟩ = some (.slice A1 m c1) ∧ W'.cell? ⟨b16, 0, none⟩ = some (.int .i64 sD) ∧ W'.cell? ⟨b16, 1, none⟩ = some (.slice AD nD cD) ∧ Lk (Below W3.heap.size W3 W'))) (first | with_reducible exact HQ0.out | with_reducible assumption | with_reducible exact oct_on (by assumption) (by assumption))
    (first
      | (go_at_call 11; with_reducible refine (HCA.out _).mono ?_; rintro e w10 ⟨rfl, H10⟩)
      | (go_at_call 13; with_reducible refine (CI.out a0 a1 len1 cap1 _).mono ?_; rintro e w10 ⟨rfl, H10⟩)
      | (go_at_call 13; with_reducible refine (CI.out a0 a2 len2 cap2 _).mono ?_; rintro e w10 ⟨rfl, H10⟩)
      | (go_at_call 13; with_reducible refine (CI.out s A1 m c1 _).mono ?_; rintro e w10 ⟨rfl, H10⟩)
      | (go_at_call 13; with_reducible refine (CI.out sD AD nD cD _).mono ?_; rintro e w10 ⟨rfl, H10⟩)
      | (go_at_call 12; with_reducible refine (V1.out _ (oct_below (by assumption))).mono ?_; rintro e w10 ⟨rfl, H10⟩)
      | (go_at_call 14; with_reducible refine (RV1.out _ (oct_below (by assumption))).mono ?_; rintro e w10 ⟨rfl, H10⟩)
      | (go_at_call 12; with_reducible refine (V2.out _ (oct_below (by assumption))).mono ?_; rintro e w10 ⟨rfl, H10⟩)
      | (go_at_call 14; with_reducible refine (RV2.out _ (oct_below (by assumption))).mono ?_; rintro e w10 ⟨rfl, H10⟩)
      | (go_at_call 12; with_reducible refine (V3.out _ (oct_below (by assumption))).mono ?_; rintro e w10 ⟨rfl, H10⟩)
      | (go_at_call 14; with_reducible refine (RV3.out _ (oct_below (by assumption))).mono ?_; rintro e w10 ⟨rfl, H10⟩)
      | (go_at_call 15; with_reducible refine (M1.out _ (oct_below (by assumption))).mono ?_; rintro e w10 ⟨rfl, H10⟩)
      | (go_at_call 15; with_reducible refine (M2.out _ (oct_below (by assumption))).mono ?_; rintro e w10 ⟨rfl, H10⟩)
      | (go_at_call 15; with_reducible refine (M3.out _ (oct_below (by assumption))).mono ?_; rintro e w10 ⟨rfl, H10⟩)
      | (go_at_call 16; with_reducible refine (RM1.out _ (oct_below (by assumption))).mono ?_; rintro e w10 ⟨rfl, H10⟩)
      | (go_at_call 16; with_reducible refine (RM2.out _ (oct_below (by assumption))).mono ?_; rintro e w10 ⟨rfl, H10⟩))
  all_goals have HB4 := oct_below (by assumption)
  all_goals go_wp2
  all_goals exact HK.out _ _ _ _ _ _ _ _ _ _ _ _ _ _ _ _ _ _ _ _ _ _ _ _ _ _ _ _ _ _ _ _ _ _ _ _ _ _ _ _ _ _ _ _ _ _ _ _ _ _ _ _ _ _ _ _ _ _ _ _ _ ⟨HB4⟩
end Go.Proofs.Ytdodigfojbijfaa.Sd

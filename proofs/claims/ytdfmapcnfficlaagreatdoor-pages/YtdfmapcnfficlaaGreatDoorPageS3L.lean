/-
  The switch in the law's 'page'.
  The switch in the law's 'page': kind 0.
  The switch in the law's 'page': kind 1.
  The switch in the law's 'page': kind 2.
  The switch in the law's 'page': kind 3.
-/
import Derived.Test.YtdfmapcnfficlaaGreatDoorPageVL
import Derived.Test.YtdfmapcnfficlaaGreatDoorEscTL
set_option linter.unusedSimpArgs false
set_option linter.unusedVariables false
namespace Go.Proofs.YtdfmapcnfficlaaGreatDoor
open Go Go.RowKit

def cA : Code → Code
  | .seq a _ => a
  | .block _ b => b
  | .loop b => b
  | .cond _ t _ => t
  | c => c
def cB : Code → Code
  | .seq _ b => b
  | .cond _ _ e => e
  | c => c
/-- What the switch leaves. -/
def RelK (l : List PieceD) (k : Nat) (w : World) (v4 v5 v6 : Value) (wx : World) : Prop := ∃ (q2 : Sl) (ta2 : List Sl), v4 = .string ⟨(encs (pgS l (k + 1))).toArray⟩ ∧ v5 = .slice q2.a (pgO l (k + 1)).length q2.cap ∧ v6 = .string ⟨(encs (pgC l (k + 1))).toArray⟩ ∧ MineT w wx q2 (pgO l (k + 1)) ta2
theorem tagP_len (c : Int) : (encs (tagP c)).length ≤ 4 := by
  have h : ∀ l ∈ names7, (encs l).length ≤ 4 := by decide
  exact h _ (tag_mem c)
theorem words5_len : ∀ w ∈ words5, (encs w).length ≤ 8 ∧ ∀ t ∈ rawsP w, (encs t).length ≤ 12 := by decide
theorem ends3_len : ∀ l ∈ ends3, (encs l).length ≤ 2 := by decide
theorem pieceP_len (p : PieceD) : (encs (pieceP p)).length ≤ 500 := by
  have h1 := tagP_len p.n
  have h2 := values6_len _ (value_mem p.n)
  have h3 := attsP_len p.attrs (attK p.attrs) (by unfold attK; omega)
  have hk : attK p.attrs ≤ 6 := by unfold attK; omega
  have h4 := ends3_len _ (end_mem p.n)
  have h5 := (words5_len _ (word_mem p.n)).1
  have h6 := (words5_len _ (word_mem p.n)).2 _ (raw_mem p.n)
  unfold pieceP
  split
  · omega
  repeat' split
  all_goals simp only [doctypeP, encs_app, encs_cons, List.length_append, show (Lib.encodeRune 60).length = 1 from rfl, show (Lib.encodeRune 62).length = 1 from rfl, show (Lib.encodeRune 32).length = 1 from rfl, show (Lib.encodeRune 47).length = 1 from rfl, show (Lib.encodeRune 33).length = 1 from rfl, show (Lib.encodeRune 45).length = 1 from rfl, show (Lib.encodeRune 68).length = 1 from rfl, show (Lib.encodeRune 111).length = 1 from rfl, show (Lib.encodeRune 99).length = 1 from rfl, show (Lib.encodeRune 84).length = 1 from rfl, show (Lib.encodeRune 121).length = 1 from rfl, show (Lib.encodeRune 112).length = 1 from rfl, show (Lib.encodeRune 101).length = 1 from rfl, show (encs []).length = 0 from rfl]
  all_goals omega
theorem pgS_len (l : List PieceD) : ∀ k, (encs (pgS l k)).length ≤ 500 * k
  | 0 => by simp [pgS, encs]
  | k + 1 => by
    have h1 := pgS_len l k
    have h2 := pieceP_len (l.getD k noPiece)
    rw [pgS, encs_app, List.length_append]
    omega
theorem pgC_len (l : List PieceD) : ∀ k, (encs (pgC l k)).length ≤ 9 * k
  | 0 => by simp [pgC, encs]
  | k + 1 => by
    have h1 := pgC_len l k
    have h2 := values6_len _ (value_mem (l.getD k noPiece).n)
    rw [pgC]
    split
    · rw [encs_app, List.length_append]; omega
    · simp [encs]
theorem charsOf_len (t : Str) : (charsOf t).length ≤ 1 := by unfold charsOf; split <;> simp
theorem pieceT_len (p : PieceD) : (pieceT p).length ≤ 3 := by
  have := charsOf_len (encs (rawP p.n))
  unfold pieceT
  repeat' split
  all_goals simp
  omega
theorem pgO_len (l : List PieceD) : ∀ k, (pgO l k).length ≤ 4 * k
  | 0 => by simp [pgO]
  | k + 1 => by
    have h1 := pgO_len l k
    have h2 := charsOf_len (encs (pgC l k))
    have h3 := pieceT_len (l.getD k noPiece)
    rw [pgO]
    split
    · omega
    · rw [List.length_append, List.length_append]; omega
theorem nameCase (c : Int) : (lowL (encs (nameP c)) = [116, 105, 116, 108, 101] ∧ encs (tagP c) = [100, 105, 118]) ∨ ((lowL (encs (nameP c)) == [116, 105, 116, 108, 101]) = false ∧ encs (nameP c) = [115, 99, 114, 105, 112, 116] ∧ encs (tagP c) = [100, 105, 118]) ∨ ((lowL (encs (nameP c)) == [116, 105, 116, 108, 101]) = false ∧ (encs (nameP c) == [115, 99, 114, 105, 112, 116]) = false ∧ encs (tagP c) = encs (nameP c)) := by
  have h := pickN_range c 8 (by decide)
  unfold tagP nameP
  generalize pickN c 8 = k at *
  have : k = 0 ∨ k = 1 ∨ k = 2 ∨ k = 3 ∨ k = 4 ∨ k = 5 ∨ k = 6 ∨ k = 7 := by omega
  clear h
  rcases this with rfl | rfl | rfl | rfl | rfl | rfl | rfl | rfl <;> decide
theorem tok_room {n : Nat} (h : n ≤ 200) : n + 1 ≤ maxLen ∧ (n + 1) * 80 ≤ 140737488355328 := by unfold maxLen; omega
/-- A box beside the row. -/
theorem box_beside {w1 w' : World} {q : Sl} {b : Nat} (hg : w1.grownBy w' (q.a.map (·.block))) (hb : b < w1.heap.size) (hq : ∀ k, q.a.map (·.block) = some k → k < b) (o : Nat) : w'.cell? ⟨b, o, none⟩ = w1.cell? ⟨b, o, none⟩ :=
  World.cell?_of_block (w := w1) (hg.block b hb (fun e => by have := hq b e.symm; omega))
theorem atts400 (l : List Int) : (encs (attsP l (attK l))).length ≤ 400 := by
  have h1 : attK l ≤ 6 := by unfold attK; omega
  have h2 := attsP_len l (attK l) h1
  omega
theorem box_after {wb w8 : World} {q : Sl} {b : Nat} {o : Obj} (hg : (wb.alloc o).grownBy w8 (q.a.map (·.block))) (hb : b < wb.heap.size) (hq : ∀ k, q.a.map (·.block) = some k → k < b) (i : Nat) : w8.cell? ⟨b, i, none⟩ = wb.cell? ⟨b, i, none⟩ :=
  (box_beside hg (by simp; omega) hq i).trans (World.cell?_of_block (w := wb) (Below.heap_alloc _ _ _ hb))
theorem box_size {wb w8 : World} {row : Option Nat} {b : Nat} {o : Obj} (hg : (wb.alloc o).grownBy w8 row) (hb : b < wb.heap.size) : b < w8.heap.size := by
  have := hg.size
  simp at this
  omega
theorem tab_at (W : World) (xs : Array Value) (T : TypeId) (j : Nat) (v : Value) (h : xs[j]? = some v) : (W.alloc (.cells xs T)).cell? ⟨W.heap.size, j, none⟩ = some v := (World.cell?_alloc_at _ _ _ _ rfl).trans h
end Go.Proofs.YtdfmapcnfficlaaGreatDoor

set_option linter.unusedSimpArgs false
set_option linter.unusedVariables false
namespace Go.Proofs.YtdfmapcnfficlaaGreatDoor
open Go Go.RowKit

set_option maxHeartbeats 8000000 in
set_option maxRecDepth 1000000 in
theorem page_kind0 {l : List PieceD} {w wc : World} {k : Nat} {p : PieceD} {q1 : Sl} {ta1 : List Sl} {O1 : List Tok} {S C1 : Str} {b : Nat} {ao : Option Addr} {capA : Nat} {Post : Exit → Act → World → Prop} {u0 u1 u2 u3 u7 u11 u12 u13 u14 u15 u16 u17 u18 u19 u20 u21 u22 u23 u24 u25 u26 u27 u28 u29 u30 u31 u32 u33 u34 u35 u36 u37 u38 u39 u40 u41 u42 u43 u44 u45 u46 u47 u48 u49 u50 u51 u52 u53 u54 u55 u56 u58 u59 u60 u61 u62 u63 u64 u65 u66 u67 u68 u69 u70 u71 u72 u73 u74 u75 u76 u77 u78 u79 u80 u81 u82 u83 u84 u85 u86 u87 u88 u89 u90 u91 u92 u93 u94 u95 u96 u97 u98 u99 u100 u101 u102 u103 u104 u105 u106 u107 u108 u109 u110 u111 u112 u113 u114 u115 u116 u117 u118 u119 u120 u121 u122 u123 u124 u125 u126 u127 u128 u129 u130 u131 u132 u133 u134 u135 u136 u137 u138 u139 u140 u141 u142 u143 u144 u145 u146 u147 u148 u149 u150 u151 u152 u153 u154 u155 u156 u157 u158 u159 u160 u161 u162 u163 u164 u165 u166 u167 u168 u169 u170 u171 u172 u173 u174 u175 u176 u177 u178 u179 u180 u181 u182 u183 u184 u185 u186 u187 u188 u189 u190 u191 u192 u193 u194 u195 u196 u197 u198 u199 u200 u201 u202 u203 u204 u205 u206 u207 u208 u209 u210 u211 u212 u213 u214 u215 u216 u217 : Value} (hMc : MineT w wc q1 O1 ta1) (n1 : wc.cell? ⟨b, 1, none⟩ = some (.int .i64 p.n)) (n2 : wc.cell? ⟨b, 2, none⟩ = some (.slice ao p.attrs.length capA)) (hbc : b < wc.heap.size) (hI : IntsV w (.slice ao p.attrs.length capA) p.attrs) (hal : p.attrs.length ≤ 9223372036854775807) (hnr : -9223372036854775808 ≤ p.n ∧ p.n ≤ 9223372036854775807) (hR : pickN p.kind 7 = 0)
    (hO1l : O1.length ≤ 121) (hS : S.length ≤ 20000) (hC1 : C1.length ≤ 300) (hS1 : encs (pgS l (k + 1)) = S ++ encs (pieceP p)) (kC : 0 = 0 → encs (pgC l (k + 1)) = C1 ++ encs (valueP p.n)) (kO : 0 = 0 → pgO l (k + 1) = O1) (kCn : 0 ≠ 0 → encs (pgC l (k + 1)) = [] ∧ C1 = []) (kOn : 0 ≠ 0 → pgO l (k + 1) = O1 ++ pieceT p)
    (hPost : ∀ (v4 v5 v6 v11 v12 v13 v14 v15 v16 v17 v18 v58 v59 v60 v61 v62 v63 v64 v65 v66 v67 v68 v69 v70 v71 v72 v73 v74 v75 v76 v77 v78 v79 v80 v81 v82 v83 v84 v85 v86 v87 v88 v89 v90 v91 v92 v93 v94 v95 v96 v97 v98 v99 v100 v101 v102 v103 v104 v105 v106 v107 v108 v109 v110 v111 v112 v113 v114 v115 v116 v117 v118 v119 v120 v121 v122 v123 v124 v125 v126 v127 v128 v129 v130 v131 v132 v133 v134 v135 v136 v137 v138 v139 v140 v141 v142 v143 v144 v145 v146 v147 v148 v149 v150 v151 v152 v153 v154 v155 v156 v157 v158 v159 v160 v161 v162 v163 v164 v165 v166 v167 v168 v169 v170 v171 v172 v173 v174 v175 v176 v177 v178 v179 v180 v181 v182 v183 v184 v185 v186 v187 v188 v189 v190 v191 v192 v193 v194 v195 v196 v197 v198 v199 v200 v201 v202 v203 v204 v205 : Value) (wx : World), RelK l k w v4 v5 v6 wx → Post .normal ⟨#[u0, u1, u2, u3, v4, v5, v6, u7, .pointer (some ⟨b, 0, none⟩), .int .i64 0, .string ⟨(encs (tagP p.n)).toArray⟩, v11, v12, v13, v14, v15, v16, v17, v18, u19, u20, u21, u22, u23, u24, u25, u26, u27, u28, u29, u30, u31, u32, u33, u34, u35, u36, u37, u38, u39, u40, u41, u42, u43, u44, u45, u46, u47, u48, u49, u50, u51, u52, u53, u54, u55, u56, .int .i64 0, v58, v59, v60, v61, v62, v63, v64, v65, v66, v67, v68, v69, v70, v71, v72, v73, v74, v75, v76, v77, v78, v79, v80, v81, v82, v83, v84, v85, v86, v87, v88, v89, v90, v91, v92, v93, v94, v95, v96, v97, v98, v99, v100, v101, v102, v103, v104, v105, v106, v107, v108, v109, v110, v111, v112, v113, v114, v115, v116, v117, v118, v119, v120, v121, v122, v123, v124, v125, v126, v127, v128, v129, v130, v131, v132, v133, v134, v135, v136, v137, v138, v139, v140, v141, v142, v143, v144, v145, v146, v147, v148, v149, v150, v151, v152, v153, v154, v155, v156, v157, v158, v159, v160, v161, v162, v163, v164, v165, v166, v167, v168, v169, v170, v171, v172, v173, v174, v175, v176, v177, v178, v179, v180, v181, v182, v183, v184, v185, v186, v187, v188, v189, v190, v191, v192, v193, v194, v195, v196, v197, v198, v199, v200, v201, v202, v203, v204, v205, u206, u207, u208, u209, u210, u211, u212, u213, u214, u215, u216, u217], []⟩ wx) :
    Code.wp Tryz.prog (cB (cB (cB (cB (cB (cB (cA (cA (cB (cA (cA (cB (cA (cB (cB (cB (cB (Tryz.f23.body.getD .skip)))))))))))))))))) Post ⟨#[u0, u1, u2, u3, .string ⟨S.toArray⟩, .slice q1.a O1.length q1.cap, .string ⟨C1.toArray⟩, u7, .pointer (some ⟨b, 0, none⟩), .int .i64 0, .string ⟨(encs (tagP p.n)).toArray⟩, u11, u12, u13, u14, u15, u16, u17, u18, u19, u20, u21, u22, u23, u24, u25, u26, u27, u28, u29, u30, u31, u32, u33, u34, u35, u36, u37, u38, u39, u40, u41, u42, u43, u44, u45, u46, u47, u48, u49, u50, u51, u52, u53, u54, u55, u56, .int .i64 0, u58, u59, u60, u61, u62, u63, u64, u65, u66, u67, u68, u69, u70, u71, u72, u73, u74, u75, u76, u77, u78, u79, u80, u81, u82, u83, u84, u85, u86, u87, u88, u89, u90, u91, u92, u93, u94, u95, u96, u97, u98, u99, u100, u101, u102, u103, u104, u105, u106, u107, u108, u109, u110, u111, u112, u113, u114, u115, u116, u117, u118, u119, u120, u121, u122, u123, u124, u125, u126, u127, u128, u129, u130, u131, u132, u133, u134, u135, u136, u137, u138, u139, u140, u141, u142, u143, u144, u145, u146, u147, u148, u149, u150, u151, u152, u153, u154, u155, u156, u157, u158, u159, u160, u161, u162, u163, u164, u165, u166, u167, u168, u169, u170, u171, u172, u173, u174, u175, u176, u177, u178, u179, u180, u181, u182, u183, u184, u185, u186, u187, u188, u189, u190, u191, u192, u193, u194, u195, u196, u197, u198, u199, u200, u201, u202, u203, u204, u205, u206, u207, u208, u209, u210, u211, u212, u213, u214, u215, u216, u217], []⟩ wc := by
  obtain ⟨i0, hi, hz0, hz1, hz2⟩ := info_parts Tryz.infoToken
  have HMc := hide hMc
  have HR := hide hR
  have HS1 := hide hS1
  have HVl := hide (fun W => value_does p.n W hnr.1 hnr.2)
  have HAt := hide (fun W hW => attrsK_does p.attrs (.slice ao p.attrs.length capA) W (hI.more hW) hal)
  obtain ⟨hd8a, hd8b⟩ := tdiv_rangeP (n := 8) hnr.1 hnr.2 (by decide)
  obtain ⟨hd5a, hd5b⟩ := tdiv_rangeP (n := 5) hnr.1 hnr.2 (by decide)
  have htl := tagP_len p.n
  have HTL := hide (fun W => lowK_does (encs (tagP p.n)) W (by omega))
  rw [show lowL (encs (tagP p.n)) = tagN p.n from low_names7 _ (tag_mem p.n)] at HTL
  have HPost := hide hPost
  clear hI hal hR hPost hMc hS1
  conv => arg 2; whnf
  have HCn := hide (kC rfl)
  have HO := hide (kO rfl)
  clear kC kO kCn kOn
  have HPP := hide (show encs (pieceP p) = encs (valueP p.n) by unfold pieceP; rw [if_pos (unhide HR)])
  go_wp2_with fail
  refine (unhide HVl _).mono ?_
  rintro e w4 ⟨rfl, m4⟩
  have hvl := values6_len _ (value_mem p.n)
  have HMn := hide ((unhide HMc).later m4)
  generalize encs (valueP p.n) = V at *
  obtain ⟨Y1, hY1⟩ : ∃ Z : Str, Z = S ++ V := ⟨_, rfl⟩
  have lY1 : Y1.length = S.length + V.length := by rw [hY1, List.length_append]
  have q10 : (Op.stringOp .add ⟨S.toArray⟩ ⟨V.toArray⟩).run Tryz.prog w4 = .ok (.string ⟨Y1.toArray⟩) w4 := sum_cat (y := V) hY1 (by skip; omega) w4
  obtain ⟨Y6, hY6⟩ : ∃ Z : Str, Z = C1 ++ V := ⟨_, rfl⟩
  have lY6 : Y6.length = C1.length + V.length := by rw [hY6, List.length_append]
  have q15 : (Op.stringOp .add ⟨C1.toArray⟩ ⟨V.toArray⟩).run Tryz.prog w4 = .ok (.string ⟨Y6.toArray⟩) w4 := sum_cat (y := V) hY6 (by skip; omega) w4
  have HSn := hide (show encs (pgS l (k + 1)) = Y1 by rw [unhide HS1, unhide HPP, hY1])
  have HCm := hide (show encs (pgC l (k + 1)) = Y6 by rw [unhide HCn, hY6])
  clear hY1 hY6 lY1 lY6 HCn HMc n1 n2
  go_wp2
  try simp only [Exit.inBlock, Exit.then]
  refine unhide HPost _ _ _ _ _ _ _ _ _ _ _ _ _ _ _ _ _ _ _ _ _ _ _ _ _ _ _ _ _ _ _ _ _ _ _ _ _ _ _ _ _ _ _ _ _ _ _ _ _ _ _ _ _ _ _ _ _ _ _ _ _ _ _ _ _ _ _ _ _ _ _ _ _ _ _ _ _ _ _ _ _ _ _ _ _ _ _ _ _ _ _ _ _ _ _ _ _ _ _ _ _ _ _ _ _ _ _ _ _ _ _ _ _ _ _ _ _ _ _ _ _ _ _ _ _ _ _ _ _ _ _ _ _ _ _ _ _ _ _ _ _ _ _ _ _ _ _ _ _ _ _ _ _ _ _ _ _ _ _ _ ⟨q1, ta1, ?_, ?_, ?_, ?_⟩
  · rw [unhide HSn]
  · rw [unhide HO]
  · rw [unhide HCm]
  · rw [unhide HO]; exact unhide HMn
end Go.Proofs.YtdfmapcnfficlaaGreatDoor

set_option linter.unusedSimpArgs false
set_option linter.unusedVariables false
namespace Go.Proofs.YtdfmapcnfficlaaGreatDoor
open Go Go.RowKit

set_option maxHeartbeats 8000000 in
set_option maxRecDepth 1000000 in
theorem page_kind1 {l : List PieceD} {w wc : World} {k : Nat} {p : PieceD} {q1 : Sl} {ta1 : List Sl} {O1 : List Tok} {S C1 : Str} {b : Nat} {ao : Option Addr} {capA : Nat} {Post : Exit → Act → World → Prop} {u0 u1 u2 u3 u7 u11 u12 u13 u14 u15 u16 u17 u18 u19 u20 u21 u22 u23 u24 u25 u26 u27 u28 u29 u30 u31 u32 u33 u34 u35 u36 u37 u38 u39 u40 u41 u42 u43 u44 u45 u46 u47 u48 u49 u50 u51 u52 u53 u54 u55 u56 u58 u59 u60 u61 u62 u63 u64 u65 u66 u67 u68 u69 u70 u71 u72 u73 u74 u75 u76 u77 u78 u79 u80 u81 u82 u83 u84 u85 u86 u87 u88 u89 u90 u91 u92 u93 u94 u95 u96 u97 u98 u99 u100 u101 u102 u103 u104 u105 u106 u107 u108 u109 u110 u111 u112 u113 u114 u115 u116 u117 u118 u119 u120 u121 u122 u123 u124 u125 u126 u127 u128 u129 u130 u131 u132 u133 u134 u135 u136 u137 u138 u139 u140 u141 u142 u143 u144 u145 u146 u147 u148 u149 u150 u151 u152 u153 u154 u155 u156 u157 u158 u159 u160 u161 u162 u163 u164 u165 u166 u167 u168 u169 u170 u171 u172 u173 u174 u175 u176 u177 u178 u179 u180 u181 u182 u183 u184 u185 u186 u187 u188 u189 u190 u191 u192 u193 u194 u195 u196 u197 u198 u199 u200 u201 u202 u203 u204 u205 u206 u207 u208 u209 u210 u211 u212 u213 u214 u215 u216 u217 : Value} (hMc : MineT w wc q1 O1 ta1) (n1 : wc.cell? ⟨b, 1, none⟩ = some (.int .i64 p.n)) (n2 : wc.cell? ⟨b, 2, none⟩ = some (.slice ao p.attrs.length capA)) (hbc : b < wc.heap.size) (hI : IntsV w (.slice ao p.attrs.length capA) p.attrs) (hal : p.attrs.length ≤ 9223372036854775807) (hnr : -9223372036854775808 ≤ p.n ∧ p.n ≤ 9223372036854775807) (hR : pickN p.kind 7 = 1)
    (hO1l : O1.length ≤ 121) (hS : S.length ≤ 20000) (hC1 : C1.length ≤ 300) (hS1 : encs (pgS l (k + 1)) = S ++ encs (pieceP p)) (kC : 1 = 0 → encs (pgC l (k + 1)) = C1 ++ encs (valueP p.n)) (kO : 1 = 0 → pgO l (k + 1) = O1) (kCn : 1 ≠ 0 → encs (pgC l (k + 1)) = [] ∧ C1 = []) (kOn : 1 ≠ 0 → pgO l (k + 1) = O1 ++ pieceT p)
    (hPost : ∀ (v4 v5 v6 v11 v12 v13 v14 v15 v16 v17 v18 v58 v59 v60 v61 v62 v63 v64 v65 v66 v67 v68 v69 v70 v71 v72 v73 v74 v75 v76 v77 v78 v79 v80 v81 v82 v83 v84 v85 v86 v87 v88 v89 v90 v91 v92 v93 v94 v95 v96 v97 v98 v99 v100 v101 v102 v103 v104 v105 v106 v107 v108 v109 v110 v111 v112 v113 v114 v115 v116 v117 v118 v119 v120 v121 v122 v123 v124 v125 v126 v127 v128 v129 v130 v131 v132 v133 v134 v135 v136 v137 v138 v139 v140 v141 v142 v143 v144 v145 v146 v147 v148 v149 v150 v151 v152 v153 v154 v155 v156 v157 v158 v159 v160 v161 v162 v163 v164 v165 v166 v167 v168 v169 v170 v171 v172 v173 v174 v175 v176 v177 v178 v179 v180 v181 v182 v183 v184 v185 v186 v187 v188 v189 v190 v191 v192 v193 v194 v195 v196 v197 v198 v199 v200 v201 v202 v203 v204 v205 : Value) (wx : World), RelK l k w v4 v5 v6 wx → Post .normal ⟨#[u0, u1, u2, u3, v4, v5, v6, u7, .pointer (some ⟨b, 0, none⟩), .int .i64 1, .string ⟨(encs (tagP p.n)).toArray⟩, v11, v12, v13, v14, v15, v16, v17, v18, u19, u20, u21, u22, u23, u24, u25, u26, u27, u28, u29, u30, u31, u32, u33, u34, u35, u36, u37, u38, u39, u40, u41, u42, u43, u44, u45, u46, u47, u48, u49, u50, u51, u52, u53, u54, u55, u56, .int .i64 1, v58, v59, v60, v61, v62, v63, v64, v65, v66, v67, v68, v69, v70, v71, v72, v73, v74, v75, v76, v77, v78, v79, v80, v81, v82, v83, v84, v85, v86, v87, v88, v89, v90, v91, v92, v93, v94, v95, v96, v97, v98, v99, v100, v101, v102, v103, v104, v105, v106, v107, v108, v109, v110, v111, v112, v113, v114, v115, v116, v117, v118, v119, v120, v121, v122, v123, v124, v125, v126, v127, v128, v129, v130, v131, v132, v133, v134, v135, v136, v137, v138, v139, v140, v141, v142, v143, v144, v145, v146, v147, v148, v149, v150, v151, v152, v153, v154, v155, v156, v157, v158, v159, v160, v161, v162, v163, v164, v165, v166, v167, v168, v169, v170, v171, v172, v173, v174, v175, v176, v177, v178, v179, v180, v181, v182, v183, v184, v185, v186, v187, v188, v189, v190, v191, v192, v193, v194, v195, v196, v197, v198, v199, v200, v201, v202, v203, v204, v205, u206, u207, u208, u209, u210, u211, u212, u213, u214, u215, u216, u217], []⟩ wx) :
    Code.wp Tryz.prog (cB (cB (cB (cB (cB (cB (cA (cA (cB (cA (cA (cB (cA (cB (cB (cB (cB (Tryz.f23.body.getD .skip)))))))))))))))))) Post ⟨#[u0, u1, u2, u3, .string ⟨S.toArray⟩, .slice q1.a O1.length q1.cap, .string ⟨C1.toArray⟩, u7, .pointer (some ⟨b, 0, none⟩), .int .i64 1, .string ⟨(encs (tagP p.n)).toArray⟩, u11, u12, u13, u14, u15, u16, u17, u18, u19, u20, u21, u22, u23, u24, u25, u26, u27, u28, u29, u30, u31, u32, u33, u34, u35, u36, u37, u38, u39, u40, u41, u42, u43, u44, u45, u46, u47, u48, u49, u50, u51, u52, u53, u54, u55, u56, .int .i64 1, u58, u59, u60, u61, u62, u63, u64, u65, u66, u67, u68, u69, u70, u71, u72, u73, u74, u75, u76, u77, u78, u79, u80, u81, u82, u83, u84, u85, u86, u87, u88, u89, u90, u91, u92, u93, u94, u95, u96, u97, u98, u99, u100, u101, u102, u103, u104, u105, u106, u107, u108, u109, u110, u111, u112, u113, u114, u115, u116, u117, u118, u119, u120, u121, u122, u123, u124, u125, u126, u127, u128, u129, u130, u131, u132, u133, u134, u135, u136, u137, u138, u139, u140, u141, u142, u143, u144, u145, u146, u147, u148, u149, u150, u151, u152, u153, u154, u155, u156, u157, u158, u159, u160, u161, u162, u163, u164, u165, u166, u167, u168, u169, u170, u171, u172, u173, u174, u175, u176, u177, u178, u179, u180, u181, u182, u183, u184, u185, u186, u187, u188, u189, u190, u191, u192, u193, u194, u195, u196, u197, u198, u199, u200, u201, u202, u203, u204, u205, u206, u207, u208, u209, u210, u211, u212, u213, u214, u215, u216, u217], []⟩ wc := by
  obtain ⟨i0, hi, hz0, hz1, hz2⟩ := info_parts Tryz.infoToken
  have HMc := hide hMc
  have HR := hide hR
  have HS1 := hide hS1
  have HVl := hide (fun W => value_does p.n W hnr.1 hnr.2)
  have HAt := hide (fun W hW => attrsK_does p.attrs (.slice ao p.attrs.length capA) W (hI.more hW) hal)
  obtain ⟨hd8a, hd8b⟩ := tdiv_rangeP (n := 8) hnr.1 hnr.2 (by decide)
  obtain ⟨hd5a, hd5b⟩ := tdiv_rangeP (n := 5) hnr.1 hnr.2 (by decide)
  have htl := tagP_len p.n
  have HTL := hide (fun W => lowK_does (encs (tagP p.n)) W (by omega))
  rw [show lowL (encs (tagP p.n)) = tagN p.n from low_names7 _ (tag_mem p.n)] at HTL
  have HPost := hide hPost
  clear hI hal hR hPost hMc hS1
  conv => arg 2; whnf
  obtain ⟨eCn, eC1⟩ := kCn (by decide)
  have HCn := hide eCn
  have HOn := hide (kOn (by decide))
  clear eCn kC kO kCn kOn
  subst eC1
  have HPS := hide (show encs (pieceP p) = [60] ++ (encs (tagP p.n) ++ (encs (attsP p.attrs (attK p.attrs)) ++ [62])) by unfold pieceP; rw [if_neg (by rw [unhide HR]; decide), if_pos (unhide HR)]; rw [encs_app, encs_cons, encs_app, List.append_assoc]; rfl)
  have HPT := hide (show pieceT p = [{ kind := 1, name := tagN p.n, attrs := attsT p.attrs (attK p.attrs) }] by unfold pieceT; rw [if_pos (unhide HR)])
  have hasl := atts400 p.attrs
  have HATl := hide (show (attsT p.attrs (attK p.attrs)).length ≤ maxLen by rw [attsT_len]; unfold attK maxLen; omega)
  go_wp2_with fail
  refine (unhide HAt _ (unhide HMc).more).mono ?_
  rintro e w4 ⟨x, rfl, m4, hok4, hnew4⟩
  have HMd := hide ((unhide HMc).later m4)
  have HAA := hide (AttrAt.late (strsAt_of hok4) hnew4 (unhide HMc).lt)
  clear m4 hok4 hnew4 n1 n2 hbc HAt HMc
  generalize encs (attsP p.attrs (attK p.attrs)) = AS at *
  generalize attsT p.attrs (attK p.attrs) = AT at *
  generalize encs (tagP p.n) = TG at *
  generalize tagN p.n = TN at *
  obtain ⟨Y1, hY1⟩ : ∃ Z : Str, Z = S ++ [60] := ⟨_, rfl⟩
  have lY1 : Y1.length = S.length + 1 := by rw [hY1, List.length_append]; rfl
  have q10 : (Op.stringOp .add ⟨S.toArray⟩ ⟨#[60]⟩).run Tryz.prog w4 = .ok (.string ⟨Y1.toArray⟩) w4 := sum_cat (y := [60]) hY1 (by show _ + 1 ≤ _; omega) w4
  obtain ⟨Y2, hY2⟩ : ∃ Z : Str, Z = Y1 ++ TG := ⟨_, rfl⟩
  have lY2 : Y2.length = Y1.length + TG.length := by rw [hY2, List.length_append]
  have q11 : (Op.stringOp .add ⟨Y1.toArray⟩ ⟨TG.toArray⟩).run Tryz.prog w4 = .ok (.string ⟨Y2.toArray⟩) w4 := sum_cat (y := TG) hY2 (by skip; omega) w4
  obtain ⟨Y3, hY3⟩ : ∃ Z : Str, Z = Y2 ++ AS := ⟨_, rfl⟩
  have lY3 : Y3.length = Y2.length + AS.length := by rw [hY3, List.length_append]
  have q12 : (Op.stringOp .add ⟨Y2.toArray⟩ ⟨AS.toArray⟩).run Tryz.prog w4 = .ok (.string ⟨Y3.toArray⟩) w4 := sum_cat (y := AS) hY3 (by skip; omega) w4
  obtain ⟨Y4, hY4⟩ : ∃ Z : Str, Z = Y3 ++ [62] := ⟨_, rfl⟩
  have lY4 : Y4.length = Y3.length + 1 := by rw [hY4, List.length_append]; rfl
  have q13 : (Op.stringOp .add ⟨Y3.toArray⟩ ⟨#[62]⟩).run Tryz.prog w4 = .ok (.string ⟨Y4.toArray⟩) w4 := sum_cat (y := [62]) hY4 (by show _ + 1 ≤ _; omega) w4
  have HSn := hide (show encs (pgS l (k + 1)) = Y4 by rw [unhide HS1, unhide HPS, hY4, hY3, hY2, hY1]; simp [List.append_assoc])
  have HOn := hide (show pgO l (k + 1) = O1 ++ [({ kind := 1, name := TN, attrs := AT } : Tok)] by rw [unhide HOn, unhide HPT])
  clear hY1 hY2 hY3 hY4 lY1 lY2 lY3 lY4
  go_wp2_with fail
  refine (unhide HTL _).mono ?_
  rintro e w5 ⟨rfl, m5⟩
  have HMe := hide ((unhide HMd).later m5)
  have HAB := hide ((unhide HAA).more m5)
  clear m5 HAA HMd q10 q11 q12 q13
  have hrad := tok_room (n := O1.length) (by omega)
  have hoad := (unhide HMe).ok
  unfold Item.ok tokItem at hoad
  go_wp2_with (at_builtin; refine wpList_append_mine _ rfl _ _ 30 rfl 34 i0 _ 6 80 Tryz.underlying30 hi hz0 hz1 hz2 rfl (by decide) q1.a O1.length q1.cap (toldCells O1 ta1) rfl (by exact World.ownsRow.alloc hoad _) ⟨w5.heap.size, 0, none⟩ 1 1 (tokCells ({ kind := 1, name := TN, attrs := AT } : Tok) x) rfl rfl (by exact tokCells_cells' ({ kind := 1, name := TN, attrs := AT } : Tok) x w5 34 _ rfl) (tokCells_one _ _) (by decide) hrad.1 hrad.2 ?next)
  case next =>
    intro ad capad w6 g1 g2 g3
    have HMf := hide ((unhide HMe).one ({ kind := 1, name := TN, attrs := AT } : Tok) x ((More.refl w5).alloc _) g1 g2 (by simpa using g3) ((unhide HAB).more ((More.refl w5).alloc _)) (unhide HATl))
    clear g1 g2 g3 hoad hrad
    go_wp2
    try simp only [Exit.inBlock, Exit.then]
    refine unhide HPost _ _ _ _ _ _ _ _ _ _ _ _ _ _ _ _ _ _ _ _ _ _ _ _ _ _ _ _ _ _ _ _ _ _ _ _ _ _ _ _ _ _ _ _ _ _ _ _ _ _ _ _ _ _ _ _ _ _ _ _ _ _ _ _ _ _ _ _ _ _ _ _ _ _ _ _ _ _ _ _ _ _ _ _ _ _ _ _ _ _ _ _ _ _ _ _ _ _ _ _ _ _ _ _ _ _ _ _ _ _ _ _ _ _ _ _ _ _ _ _ _ _ _ _ _ _ _ _ _ _ _ _ _ _ _ _ _ _ _ _ _ _ _ _ _ _ _ _ _ _ _ _ _ _ _ _ _ _ _ _ ⟨⟨some ad, capad⟩, ta1 ++ [x], ?_, ?_, ?_, ?_⟩
    · rw [unhide HSn]
    · rw [unhide HOn, List.length_append]; rfl
    · rw [unhide HCn]
    · rw [unhide HOn]; exact unhide HMf
end Go.Proofs.YtdfmapcnfficlaaGreatDoor

set_option linter.unusedSimpArgs false
set_option linter.unusedVariables false
namespace Go.Proofs.YtdfmapcnfficlaaGreatDoor
open Go Go.RowKit

set_option maxHeartbeats 8000000 in
set_option maxRecDepth 1000000 in
theorem page_kind2 {l : List PieceD} {w wc : World} {k : Nat} {p : PieceD} {q1 : Sl} {ta1 : List Sl} {O1 : List Tok} {S C1 : Str} {b : Nat} {ao : Option Addr} {capA : Nat} {Post : Exit → Act → World → Prop} {u0 u1 u2 u3 u7 u11 u12 u13 u14 u15 u16 u17 u18 u19 u20 u21 u22 u23 u24 u25 u26 u27 u28 u29 u30 u31 u32 u33 u34 u35 u36 u37 u38 u39 u40 u41 u42 u43 u44 u45 u46 u47 u48 u49 u50 u51 u52 u53 u54 u55 u56 u58 u59 u60 u61 u62 u63 u64 u65 u66 u67 u68 u69 u70 u71 u72 u73 u74 u75 u76 u77 u78 u79 u80 u81 u82 u83 u84 u85 u86 u87 u88 u89 u90 u91 u92 u93 u94 u95 u96 u97 u98 u99 u100 u101 u102 u103 u104 u105 u106 u107 u108 u109 u110 u111 u112 u113 u114 u115 u116 u117 u118 u119 u120 u121 u122 u123 u124 u125 u126 u127 u128 u129 u130 u131 u132 u133 u134 u135 u136 u137 u138 u139 u140 u141 u142 u143 u144 u145 u146 u147 u148 u149 u150 u151 u152 u153 u154 u155 u156 u157 u158 u159 u160 u161 u162 u163 u164 u165 u166 u167 u168 u169 u170 u171 u172 u173 u174 u175 u176 u177 u178 u179 u180 u181 u182 u183 u184 u185 u186 u187 u188 u189 u190 u191 u192 u193 u194 u195 u196 u197 u198 u199 u200 u201 u202 u203 u204 u205 u206 u207 u208 u209 u210 u211 u212 u213 u214 u215 u216 u217 : Value} (hMc : MineT w wc q1 O1 ta1) (n1 : wc.cell? ⟨b, 1, none⟩ = some (.int .i64 p.n)) (n2 : wc.cell? ⟨b, 2, none⟩ = some (.slice ao p.attrs.length capA)) (hbc : b < wc.heap.size) (hI : IntsV w (.slice ao p.attrs.length capA) p.attrs) (hal : p.attrs.length ≤ 9223372036854775807) (hnr : -9223372036854775808 ≤ p.n ∧ p.n ≤ 9223372036854775807) (hR : pickN p.kind 7 = 2)
    (hO1l : O1.length ≤ 121) (hS : S.length ≤ 20000) (hC1 : C1.length ≤ 300) (hS1 : encs (pgS l (k + 1)) = S ++ encs (pieceP p)) (kC : 2 = 0 → encs (pgC l (k + 1)) = C1 ++ encs (valueP p.n)) (kO : 2 = 0 → pgO l (k + 1) = O1) (kCn : 2 ≠ 0 → encs (pgC l (k + 1)) = [] ∧ C1 = []) (kOn : 2 ≠ 0 → pgO l (k + 1) = O1 ++ pieceT p)
    (hPost : ∀ (v4 v5 v6 v11 v12 v13 v14 v15 v16 v17 v18 v58 v59 v60 v61 v62 v63 v64 v65 v66 v67 v68 v69 v70 v71 v72 v73 v74 v75 v76 v77 v78 v79 v80 v81 v82 v83 v84 v85 v86 v87 v88 v89 v90 v91 v92 v93 v94 v95 v96 v97 v98 v99 v100 v101 v102 v103 v104 v105 v106 v107 v108 v109 v110 v111 v112 v113 v114 v115 v116 v117 v118 v119 v120 v121 v122 v123 v124 v125 v126 v127 v128 v129 v130 v131 v132 v133 v134 v135 v136 v137 v138 v139 v140 v141 v142 v143 v144 v145 v146 v147 v148 v149 v150 v151 v152 v153 v154 v155 v156 v157 v158 v159 v160 v161 v162 v163 v164 v165 v166 v167 v168 v169 v170 v171 v172 v173 v174 v175 v176 v177 v178 v179 v180 v181 v182 v183 v184 v185 v186 v187 v188 v189 v190 v191 v192 v193 v194 v195 v196 v197 v198 v199 v200 v201 v202 v203 v204 v205 : Value) (wx : World), RelK l k w v4 v5 v6 wx → Post .normal ⟨#[u0, u1, u2, u3, v4, v5, v6, u7, .pointer (some ⟨b, 0, none⟩), .int .i64 2, .string ⟨(encs (tagP p.n)).toArray⟩, v11, v12, v13, v14, v15, v16, v17, v18, u19, u20, u21, u22, u23, u24, u25, u26, u27, u28, u29, u30, u31, u32, u33, u34, u35, u36, u37, u38, u39, u40, u41, u42, u43, u44, u45, u46, u47, u48, u49, u50, u51, u52, u53, u54, u55, u56, .int .i64 2, v58, v59, v60, v61, v62, v63, v64, v65, v66, v67, v68, v69, v70, v71, v72, v73, v74, v75, v76, v77, v78, v79, v80, v81, v82, v83, v84, v85, v86, v87, v88, v89, v90, v91, v92, v93, v94, v95, v96, v97, v98, v99, v100, v101, v102, v103, v104, v105, v106, v107, v108, v109, v110, v111, v112, v113, v114, v115, v116, v117, v118, v119, v120, v121, v122, v123, v124, v125, v126, v127, v128, v129, v130, v131, v132, v133, v134, v135, v136, v137, v138, v139, v140, v141, v142, v143, v144, v145, v146, v147, v148, v149, v150, v151, v152, v153, v154, v155, v156, v157, v158, v159, v160, v161, v162, v163, v164, v165, v166, v167, v168, v169, v170, v171, v172, v173, v174, v175, v176, v177, v178, v179, v180, v181, v182, v183, v184, v185, v186, v187, v188, v189, v190, v191, v192, v193, v194, v195, v196, v197, v198, v199, v200, v201, v202, v203, v204, v205, u206, u207, u208, u209, u210, u211, u212, u213, u214, u215, u216, u217], []⟩ wx) :
    Code.wp Tryz.prog (cB (cB (cB (cB (cB (cB (cA (cA (cB (cA (cA (cB (cA (cB (cB (cB (cB (Tryz.f23.body.getD .skip)))))))))))))))))) Post ⟨#[u0, u1, u2, u3, .string ⟨S.toArray⟩, .slice q1.a O1.length q1.cap, .string ⟨C1.toArray⟩, u7, .pointer (some ⟨b, 0, none⟩), .int .i64 2, .string ⟨(encs (tagP p.n)).toArray⟩, u11, u12, u13, u14, u15, u16, u17, u18, u19, u20, u21, u22, u23, u24, u25, u26, u27, u28, u29, u30, u31, u32, u33, u34, u35, u36, u37, u38, u39, u40, u41, u42, u43, u44, u45, u46, u47, u48, u49, u50, u51, u52, u53, u54, u55, u56, .int .i64 2, u58, u59, u60, u61, u62, u63, u64, u65, u66, u67, u68, u69, u70, u71, u72, u73, u74, u75, u76, u77, u78, u79, u80, u81, u82, u83, u84, u85, u86, u87, u88, u89, u90, u91, u92, u93, u94, u95, u96, u97, u98, u99, u100, u101, u102, u103, u104, u105, u106, u107, u108, u109, u110, u111, u112, u113, u114, u115, u116, u117, u118, u119, u120, u121, u122, u123, u124, u125, u126, u127, u128, u129, u130, u131, u132, u133, u134, u135, u136, u137, u138, u139, u140, u141, u142, u143, u144, u145, u146, u147, u148, u149, u150, u151, u152, u153, u154, u155, u156, u157, u158, u159, u160, u161, u162, u163, u164, u165, u166, u167, u168, u169, u170, u171, u172, u173, u174, u175, u176, u177, u178, u179, u180, u181, u182, u183, u184, u185, u186, u187, u188, u189, u190, u191, u192, u193, u194, u195, u196, u197, u198, u199, u200, u201, u202, u203, u204, u205, u206, u207, u208, u209, u210, u211, u212, u213, u214, u215, u216, u217], []⟩ wc := by
  obtain ⟨i0, hi, hz0, hz1, hz2⟩ := info_parts Tryz.infoToken
  have HMc := hide hMc
  have HR := hide hR
  have HS1 := hide hS1
  have HVl := hide (fun W => value_does p.n W hnr.1 hnr.2)
  have HAt := hide (fun W hW => attrsK_does p.attrs (.slice ao p.attrs.length capA) W (hI.more hW) hal)
  obtain ⟨hd8a, hd8b⟩ := tdiv_rangeP (n := 8) hnr.1 hnr.2 (by decide)
  obtain ⟨hd5a, hd5b⟩ := tdiv_rangeP (n := 5) hnr.1 hnr.2 (by decide)
  have htl := tagP_len p.n
  have HTL := hide (fun W => lowK_does (encs (tagP p.n)) W (by omega))
  rw [show lowL (encs (tagP p.n)) = tagN p.n from low_names7 _ (tag_mem p.n)] at HTL
  have HPost := hide hPost
  clear hI hal hR hPost hMc hS1
  conv => arg 2; whnf
  obtain ⟨eCn, eC1⟩ := kCn (by decide)
  have HCn := hide eCn
  have HOn := hide (kOn (by decide))
  clear eCn kC kO kCn kOn
  subst eC1
  have HPS := hide (show encs (pieceP p) = [60] ++ (encs (tagP p.n) ++ (encs (attsP p.attrs (attK p.attrs)) ++ [32, 47, 62])) by unfold pieceP; rw [if_neg (by rw [unhide HR]; decide), if_neg (by rw [unhide HR]; decide), if_pos (unhide HR)]; rw [encs_app, encs_cons, encs_app, List.append_assoc]; rfl)
  have HPT := hide (show pieceT p = [{ kind := 1, name := tagN p.n, attrs := attsT p.attrs (attK p.attrs), flag := true }] by unfold pieceT; rw [if_neg (by rw [unhide HR]; decide), if_pos (unhide HR)])
  have hasl := atts400 p.attrs
  have HATl := hide (show (attsT p.attrs (attK p.attrs)).length ≤ maxLen by rw [attsT_len]; unfold attK maxLen; omega)
  go_wp2_with fail
  refine (unhide HAt _ (unhide HMc).more).mono ?_
  rintro e w4 ⟨x, rfl, m4, hok4, hnew4⟩
  have HMd := hide ((unhide HMc).later m4)
  have HAA := hide (AttrAt.late (strsAt_of hok4) hnew4 (unhide HMc).lt)
  clear m4 hok4 hnew4 n1 n2 hbc HAt HMc
  generalize encs (attsP p.attrs (attK p.attrs)) = AS at *
  generalize attsT p.attrs (attK p.attrs) = AT at *
  generalize encs (tagP p.n) = TG at *
  generalize tagN p.n = TN at *
  obtain ⟨Y1, hY1⟩ : ∃ Z : Str, Z = S ++ [60] := ⟨_, rfl⟩
  have lY1 : Y1.length = S.length + 1 := by rw [hY1, List.length_append]; rfl
  have q10 : (Op.stringOp .add ⟨S.toArray⟩ ⟨#[60]⟩).run Tryz.prog w4 = .ok (.string ⟨Y1.toArray⟩) w4 := sum_cat (y := [60]) hY1 (by show _ + 1 ≤ _; omega) w4
  obtain ⟨Y2, hY2⟩ : ∃ Z : Str, Z = Y1 ++ TG := ⟨_, rfl⟩
  have lY2 : Y2.length = Y1.length + TG.length := by rw [hY2, List.length_append]
  have q11 : (Op.stringOp .add ⟨Y1.toArray⟩ ⟨TG.toArray⟩).run Tryz.prog w4 = .ok (.string ⟨Y2.toArray⟩) w4 := sum_cat (y := TG) hY2 (by skip; omega) w4
  obtain ⟨Y3, hY3⟩ : ∃ Z : Str, Z = Y2 ++ AS := ⟨_, rfl⟩
  have lY3 : Y3.length = Y2.length + AS.length := by rw [hY3, List.length_append]
  have q12 : (Op.stringOp .add ⟨Y2.toArray⟩ ⟨AS.toArray⟩).run Tryz.prog w4 = .ok (.string ⟨Y3.toArray⟩) w4 := sum_cat (y := AS) hY3 (by skip; omega) w4
  obtain ⟨Y4, hY4⟩ : ∃ Z : Str, Z = Y3 ++ [32, 47, 62] := ⟨_, rfl⟩
  have lY4 : Y4.length = Y3.length + 3 := by rw [hY4, List.length_append]; rfl
  have q13 : (Op.stringOp .add ⟨Y3.toArray⟩ ⟨#[32, 47, 62]⟩).run Tryz.prog w4 = .ok (.string ⟨Y4.toArray⟩) w4 := sum_cat (y := [32, 47, 62]) hY4 (by show _ + 3 ≤ _; omega) w4
  have HSn := hide (show encs (pgS l (k + 1)) = Y4 by rw [unhide HS1, unhide HPS, hY4, hY3, hY2, hY1]; simp [List.append_assoc])
  have HOn := hide (show pgO l (k + 1) = O1 ++ [({ kind := 1, name := TN, attrs := AT, flag := true } : Tok)] by rw [unhide HOn, unhide HPT])
  clear hY1 hY2 hY3 hY4 lY1 lY2 lY3 lY4
  go_wp2_with fail
  refine (unhide HTL _).mono ?_
  rintro e w5 ⟨rfl, m5⟩
  have HMe := hide ((unhide HMd).later m5)
  have HAB := hide ((unhide HAA).more m5)
  clear m5 HAA HMd q10 q11 q12 q13
  have hrad := tok_room (n := O1.length) (by omega)
  have hoad := (unhide HMe).ok
  unfold Item.ok tokItem at hoad
  go_wp2_with (at_builtin; refine wpList_append_mine _ rfl _ _ 30 rfl 34 i0 _ 6 80 Tryz.underlying30 hi hz0 hz1 hz2 rfl (by decide) q1.a O1.length q1.cap (toldCells O1 ta1) rfl (by exact World.ownsRow.alloc hoad _) ⟨w5.heap.size, 0, none⟩ 1 1 (tokCells ({ kind := 1, name := TN, attrs := AT, flag := true } : Tok) x) rfl rfl (by exact tokCells_cells' ({ kind := 1, name := TN, attrs := AT, flag := true } : Tok) x w5 34 _ rfl) (tokCells_one _ _) (by decide) hrad.1 hrad.2 ?next)
  case next =>
    intro ad capad w6 g1 g2 g3
    have HMf := hide ((unhide HMe).one ({ kind := 1, name := TN, attrs := AT, flag := true } : Tok) x ((More.refl w5).alloc _) g1 g2 (by simpa using g3) ((unhide HAB).more ((More.refl w5).alloc _)) (unhide HATl))
    clear g1 g2 g3 hoad hrad
    go_wp2
    try simp only [Exit.inBlock, Exit.then]
    refine unhide HPost _ _ _ _ _ _ _ _ _ _ _ _ _ _ _ _ _ _ _ _ _ _ _ _ _ _ _ _ _ _ _ _ _ _ _ _ _ _ _ _ _ _ _ _ _ _ _ _ _ _ _ _ _ _ _ _ _ _ _ _ _ _ _ _ _ _ _ _ _ _ _ _ _ _ _ _ _ _ _ _ _ _ _ _ _ _ _ _ _ _ _ _ _ _ _ _ _ _ _ _ _ _ _ _ _ _ _ _ _ _ _ _ _ _ _ _ _ _ _ _ _ _ _ _ _ _ _ _ _ _ _ _ _ _ _ _ _ _ _ _ _ _ _ _ _ _ _ _ _ _ _ _ _ _ _ _ _ _ _ _ ⟨⟨some ad, capad⟩, ta1 ++ [x], ?_, ?_, ?_, ?_⟩
    · rw [unhide HSn]
    · rw [unhide HOn, List.length_append]; rfl
    · rw [unhide HCn]
    · rw [unhide HOn]; exact unhide HMf
end Go.Proofs.YtdfmapcnfficlaaGreatDoor

set_option linter.unusedSimpArgs false
set_option linter.unusedVariables false
namespace Go.Proofs.YtdfmapcnfficlaaGreatDoor
open Go Go.RowKit

set_option maxHeartbeats 8000000 in
set_option maxRecDepth 1000000 in
theorem page_kind3 {l : List PieceD} {w wc : World} {k : Nat} {p : PieceD} {q1 : Sl} {ta1 : List Sl} {O1 : List Tok} {S C1 : Str} {b : Nat} {ao : Option Addr} {capA : Nat} {Post : Exit → Act → World → Prop} {u0 u1 u2 u3 u7 u11 u12 u13 u14 u15 u16 u17 u18 u19 u20 u21 u22 u23 u24 u25 u26 u27 u28 u29 u30 u31 u32 u33 u34 u35 u36 u37 u38 u39 u40 u41 u42 u43 u44 u45 u46 u47 u48 u49 u50 u51 u52 u53 u54 u55 u56 u58 u59 u60 u61 u62 u63 u64 u65 u66 u67 u68 u69 u70 u71 u72 u73 u74 u75 u76 u77 u78 u79 u80 u81 u82 u83 u84 u85 u86 u87 u88 u89 u90 u91 u92 u93 u94 u95 u96 u97 u98 u99 u100 u101 u102 u103 u104 u105 u106 u107 u108 u109 u110 u111 u112 u113 u114 u115 u116 u117 u118 u119 u120 u121 u122 u123 u124 u125 u126 u127 u128 u129 u130 u131 u132 u133 u134 u135 u136 u137 u138 u139 u140 u141 u142 u143 u144 u145 u146 u147 u148 u149 u150 u151 u152 u153 u154 u155 u156 u157 u158 u159 u160 u161 u162 u163 u164 u165 u166 u167 u168 u169 u170 u171 u172 u173 u174 u175 u176 u177 u178 u179 u180 u181 u182 u183 u184 u185 u186 u187 u188 u189 u190 u191 u192 u193 u194 u195 u196 u197 u198 u199 u200 u201 u202 u203 u204 u205 u206 u207 u208 u209 u210 u211 u212 u213 u214 u215 u216 u217 : Value} (hMc : MineT w wc q1 O1 ta1) (n1 : wc.cell? ⟨b, 1, none⟩ = some (.int .i64 p.n)) (n2 : wc.cell? ⟨b, 2, none⟩ = some (.slice ao p.attrs.length capA)) (hbc : b < wc.heap.size) (hI : IntsV w (.slice ao p.attrs.length capA) p.attrs) (hal : p.attrs.length ≤ 9223372036854775807) (hnr : -9223372036854775808 ≤ p.n ∧ p.n ≤ 9223372036854775807) (hR : pickN p.kind 7 = 3)
    (hO1l : O1.length ≤ 121) (hS : S.length ≤ 20000) (hC1 : C1.length ≤ 300) (hS1 : encs (pgS l (k + 1)) = S ++ encs (pieceP p)) (kC : 3 = 0 → encs (pgC l (k + 1)) = C1 ++ encs (valueP p.n)) (kO : 3 = 0 → pgO l (k + 1) = O1) (kCn : 3 ≠ 0 → encs (pgC l (k + 1)) = [] ∧ C1 = []) (kOn : 3 ≠ 0 → pgO l (k + 1) = O1 ++ pieceT p)
    (hPost : ∀ (v4 v5 v6 v11 v12 v13 v14 v15 v16 v17 v18 v58 v59 v60 v61 v62 v63 v64 v65 v66 v67 v68 v69 v70 v71 v72 v73 v74 v75 v76 v77 v78 v79 v80 v81 v82 v83 v84 v85 v86 v87 v88 v89 v90 v91 v92 v93 v94 v95 v96 v97 v98 v99 v100 v101 v102 v103 v104 v105 v106 v107 v108 v109 v110 v111 v112 v113 v114 v115 v116 v117 v118 v119 v120 v121 v122 v123 v124 v125 v126 v127 v128 v129 v130 v131 v132 v133 v134 v135 v136 v137 v138 v139 v140 v141 v142 v143 v144 v145 v146 v147 v148 v149 v150 v151 v152 v153 v154 v155 v156 v157 v158 v159 v160 v161 v162 v163 v164 v165 v166 v167 v168 v169 v170 v171 v172 v173 v174 v175 v176 v177 v178 v179 v180 v181 v182 v183 v184 v185 v186 v187 v188 v189 v190 v191 v192 v193 v194 v195 v196 v197 v198 v199 v200 v201 v202 v203 v204 v205 : Value) (wx : World), RelK l k w v4 v5 v6 wx → Post .normal ⟨#[u0, u1, u2, u3, v4, v5, v6, u7, .pointer (some ⟨b, 0, none⟩), .int .i64 3, .string ⟨(encs (tagP p.n)).toArray⟩, v11, v12, v13, v14, v15, v16, v17, v18, u19, u20, u21, u22, u23, u24, u25, u26, u27, u28, u29, u30, u31, u32, u33, u34, u35, u36, u37, u38, u39, u40, u41, u42, u43, u44, u45, u46, u47, u48, u49, u50, u51, u52, u53, u54, u55, u56, .int .i64 3, v58, v59, v60, v61, v62, v63, v64, v65, v66, v67, v68, v69, v70, v71, v72, v73, v74, v75, v76, v77, v78, v79, v80, v81, v82, v83, v84, v85, v86, v87, v88, v89, v90, v91, v92, v93, v94, v95, v96, v97, v98, v99, v100, v101, v102, v103, v104, v105, v106, v107, v108, v109, v110, v111, v112, v113, v114, v115, v116, v117, v118, v119, v120, v121, v122, v123, v124, v125, v126, v127, v128, v129, v130, v131, v132, v133, v134, v135, v136, v137, v138, v139, v140, v141, v142, v143, v144, v145, v146, v147, v148, v149, v150, v151, v152, v153, v154, v155, v156, v157, v158, v159, v160, v161, v162, v163, v164, v165, v166, v167, v168, v169, v170, v171, v172, v173, v174, v175, v176, v177, v178, v179, v180, v181, v182, v183, v184, v185, v186, v187, v188, v189, v190, v191, v192, v193, v194, v195, v196, v197, v198, v199, v200, v201, v202, v203, v204, v205, u206, u207, u208, u209, u210, u211, u212, u213, u214, u215, u216, u217], []⟩ wx) :
    Code.wp Tryz.prog (cB (cB (cB (cB (cB (cB (cA (cA (cB (cA (cA (cB (cA (cB (cB (cB (cB (Tryz.f23.body.getD .skip)))))))))))))))))) Post ⟨#[u0, u1, u2, u3, .string ⟨S.toArray⟩, .slice q1.a O1.length q1.cap, .string ⟨C1.toArray⟩, u7, .pointer (some ⟨b, 0, none⟩), .int .i64 3, .string ⟨(encs (tagP p.n)).toArray⟩, u11, u12, u13, u14, u15, u16, u17, u18, u19, u20, u21, u22, u23, u24, u25, u26, u27, u28, u29, u30, u31, u32, u33, u34, u35, u36, u37, u38, u39, u40, u41, u42, u43, u44, u45, u46, u47, u48, u49, u50, u51, u52, u53, u54, u55, u56, .int .i64 3, u58, u59, u60, u61, u62, u63, u64, u65, u66, u67, u68, u69, u70, u71, u72, u73, u74, u75, u76, u77, u78, u79, u80, u81, u82, u83, u84, u85, u86, u87, u88, u89, u90, u91, u92, u93, u94, u95, u96, u97, u98, u99, u100, u101, u102, u103, u104, u105, u106, u107, u108, u109, u110, u111, u112, u113, u114, u115, u116, u117, u118, u119, u120, u121, u122, u123, u124, u125, u126, u127, u128, u129, u130, u131, u132, u133, u134, u135, u136, u137, u138, u139, u140, u141, u142, u143, u144, u145, u146, u147, u148, u149, u150, u151, u152, u153, u154, u155, u156, u157, u158, u159, u160, u161, u162, u163, u164, u165, u166, u167, u168, u169, u170, u171, u172, u173, u174, u175, u176, u177, u178, u179, u180, u181, u182, u183, u184, u185, u186, u187, u188, u189, u190, u191, u192, u193, u194, u195, u196, u197, u198, u199, u200, u201, u202, u203, u204, u205, u206, u207, u208, u209, u210, u211, u212, u213, u214, u215, u216, u217], []⟩ wc := by
  obtain ⟨i0, hi, hz0, hz1, hz2⟩ := info_parts Tryz.infoToken
  have HMc := hide hMc
  have HR := hide hR
  have HS1 := hide hS1
  have HVl := hide (fun W => value_does p.n W hnr.1 hnr.2)
  have HAt := hide (fun W hW => attrsK_does p.attrs (.slice ao p.attrs.length capA) W (hI.more hW) hal)
  obtain ⟨hd8a, hd8b⟩ := tdiv_rangeP (n := 8) hnr.1 hnr.2 (by decide)
  obtain ⟨hd5a, hd5b⟩ := tdiv_rangeP (n := 5) hnr.1 hnr.2 (by decide)
  have htl := tagP_len p.n
  have HTL := hide (fun W => lowK_does (encs (tagP p.n)) W (by omega))
  rw [show lowL (encs (tagP p.n)) = tagN p.n from low_names7 _ (tag_mem p.n)] at HTL
  have HPost := hide hPost
  clear hI hal hR hPost hMc hS1
  conv => arg 2; whnf
  obtain ⟨eCn, eC1⟩ := kCn (by decide)
  have HCn := hide eCn
  have HOn := hide (kOn (by decide))
  clear eCn kC kO kCn kOn
  subst eC1
  have HPS := hide (show encs (pieceP p) = [60, 47] ++ (encs (tagP p.n) ++ (encs (endP p.n) ++ [62])) by unfold pieceP; rw [if_neg (by rw [unhide HR]; decide), if_neg (by rw [unhide HR]; decide), if_neg (by rw [unhide HR]; decide), if_pos (unhide HR)]; rw [encs_app, encs_cons, encs_cons, encs_app, List.append_assoc, List.append_assoc]; rfl)
  have HPT := hide (show pieceT p = [{ kind := 2, name := tagN p.n }] by unfold pieceT; rw [if_neg (by rw [unhide HR]; decide), if_neg (by rw [unhide HR]; decide), if_pos (unhide HR)])
  have HP3 := hide (fun W => pick_does (p.n.tdiv 8) 3 W hd8a hd8b (by decide) (by decide))
  have hr3 := pickN_range (p.n.tdiv 8) 3 (by decide)
  obtain ⟨j, hj⟩ : ∃ j : Nat, pickN (p.n.tdiv 8) 3 = j := ⟨(pickN (p.n.tdiv 8) 3).toNat, by omega⟩
  have hec := tab_at wc #[.string ⟨#[]⟩, .string ⟨#[32]⟩, .string ⟨#[10, 9]⟩] 9 j (.string ⟨(encs (endP p.n)).toArray⟩) (by
    unfold endP
    rw [hj] at hr3 ⊢
    have : j = 0 ∨ j = 1 ∨ j = 2 := by omega
    rcases this with rfl | rfl | rfl <;> rfl)
  have hj3 : j < 3 := by omega
  have hel := ends3_len _ (end_mem p.n)
  rw [hj] at HP3
  clear hj hr3
  generalize encs (endP p.n) = EB at *
  generalize encs (tagP p.n) = TG at *
  generalize tagN p.n = TN at *
  obtain ⟨Y1, hY1⟩ : ∃ Z : Str, Z = S ++ [60, 47] := ⟨_, rfl⟩
  have lY1 : Y1.length = S.length + 2 := by rw [hY1, List.length_append]; rfl
  have q10 : (Op.stringOp .add ⟨S.toArray⟩ ⟨#[60, 47]⟩).run Tryz.prog wc = .ok (.string ⟨Y1.toArray⟩) wc := sum_cat (y := [60, 47]) hY1 (by show _ + 2 ≤ _; omega) wc
  obtain ⟨Y2, hY2⟩ : ∃ Z : Str, Z = Y1 ++ TG := ⟨_, rfl⟩
  have lY2 : Y2.length = Y1.length + TG.length := by rw [hY2, List.length_append]
  have q11 : (Op.stringOp .add ⟨Y1.toArray⟩ ⟨TG.toArray⟩).run Tryz.prog wc = .ok (.string ⟨Y2.toArray⟩) wc := sum_cat (y := TG) hY2 (by skip; omega) wc
  obtain ⟨Y3, hY3⟩ : ∃ Z : Str, Z = Y2 ++ EB := ⟨_, rfl⟩
  have lY3 : Y3.length = Y2.length + EB.length := by rw [hY3, List.length_append]
  have q12 : (Op.stringOp .add ⟨Y2.toArray⟩ ⟨EB.toArray⟩).run Tryz.prog wc = .ok (.string ⟨Y3.toArray⟩) wc := sum_cat (y := EB) hY3 (by skip; omega) wc
  obtain ⟨Y4, hY4⟩ : ∃ Z : Str, Z = Y3 ++ [62] := ⟨_, rfl⟩
  have lY4 : Y4.length = Y3.length + 1 := by rw [hY4, List.length_append]; rfl
  have q13 : (Op.stringOp .add ⟨Y3.toArray⟩ ⟨#[62]⟩).run Tryz.prog wc = .ok (.string ⟨Y4.toArray⟩) wc := sum_cat (y := [62]) hY4 (by show _ + 1 ≤ _; omega) wc
  have q20 := sum_cat hY3 (by omega) (wc.alloc (.cells #[.string ⟨#[]⟩, .string ⟨#[32]⟩, .string ⟨#[10, 9]⟩] 9))
  have q21 : (Op.stringOp .add ⟨Y3.toArray⟩ ⟨#[62]⟩).run Tryz.prog (wc.alloc (.cells #[.string ⟨#[]⟩, .string ⟨#[32]⟩, .string ⟨#[10, 9]⟩] 9)) = .ok (.string ⟨Y4.toArray⟩) (wc.alloc (.cells #[.string ⟨#[]⟩, .string ⟨#[32]⟩, .string ⟨#[10, 9]⟩] 9)) := sum_cat (y := [62]) hY4 (by show _ + 1 ≤ _; omega) _
  have q22 : (Op.stringOp .add ⟨S.toArray⟩ ⟨#[60, 47]⟩).run Tryz.prog (wc.alloc (.cells #[.string ⟨#[]⟩, .string ⟨#[32]⟩, .string ⟨#[10, 9]⟩] 9)) = .ok (.string ⟨Y1.toArray⟩) (wc.alloc (.cells #[.string ⟨#[]⟩, .string ⟨#[32]⟩, .string ⟨#[10, 9]⟩] 9)) := sum_cat (y := [60, 47]) hY1 (by show _ + 2 ≤ _; omega) _
  have q23 := sum_cat hY2 (by omega) (wc.alloc (.cells #[.string ⟨#[]⟩, .string ⟨#[32]⟩, .string ⟨#[10, 9]⟩] 9))
  have HSn := hide (show encs (pgS l (k + 1)) = Y4 by rw [unhide HS1, unhide HPS, hY4, hY3, hY2, hY1]; simp [List.append_assoc])
  have HOn := hide (show pgO l (k + 1) = O1 ++ [({ kind := 2, name := TN } : Tok)] by rw [unhide HOn, unhide HPT])
  clear hY1 hY2 hY3 hY4 lY1 lY2 lY3 lY4
  go_wp2_with fail
  refine (unhide HP3 _).mono ?_
  rintro e w4 ⟨rfl, rfl⟩
  go_wp2_with fail
  refine (unhide HTL _).mono ?_
  rintro e w5 ⟨rfl, m5⟩
  have HMe := hide ((unhide HMc).later (((More.refl wc).alloc _).trans' m5))
  clear m5 HMc q10 q11 q12 q13 q20 q21 q22 q23 hec n1 n2
  have hrad := tok_room (n := O1.length) (by omega)
  have hoad := (unhide HMe).ok
  unfold Item.ok tokItem at hoad
  go_wp2_with (at_builtin; refine wpList_append_mine _ rfl _ _ 30 rfl 34 i0 _ 6 80 Tryz.underlying30 hi hz0 hz1 hz2 rfl (by decide) q1.a O1.length q1.cap (toldCells O1 ta1) rfl (by exact World.ownsRow.alloc hoad _) ⟨w5.heap.size, 0, none⟩ 1 1 (tokCells ({ kind := 2, name := TN } : Tok) nilSl) rfl rfl (by exact tokCells_cells' ({ kind := 2, name := TN } : Tok) nilSl w5 34 _ rfl) (tokCells_one _ _) (by decide) hrad.1 hrad.2 ?next)
  case next =>
    intro ad capad w6 g1 g2 g3
    have HMf := hide ((unhide HMe).one ({ kind := 2, name := TN } : Tok) nilSl ((More.refl w5).alloc _) g1 g2 (by simpa using g3) (AttrAt.nil _ _ _) (by simp))
    clear g1 g2 g3 hoad hrad
    go_wp2
    try simp only [Exit.inBlock, Exit.then]
    refine unhide HPost _ _ _ _ _ _ _ _ _ _ _ _ _ _ _ _ _ _ _ _ _ _ _ _ _ _ _ _ _ _ _ _ _ _ _ _ _ _ _ _ _ _ _ _ _ _ _ _ _ _ _ _ _ _ _ _ _ _ _ _ _ _ _ _ _ _ _ _ _ _ _ _ _ _ _ _ _ _ _ _ _ _ _ _ _ _ _ _ _ _ _ _ _ _ _ _ _ _ _ _ _ _ _ _ _ _ _ _ _ _ _ _ _ _ _ _ _ _ _ _ _ _ _ _ _ _ _ _ _ _ _ _ _ _ _ _ _ _ _ _ _ _ _ _ _ _ _ _ _ _ _ _ _ _ _ _ _ _ _ _ ⟨⟨some ad, capad⟩, ta1 ++ [nilSl], ?_, ?_, ?_, ?_⟩
    · rw [unhide HSn]
    · rw [unhide HOn, List.length_append]; rfl
    · rw [unhide HCn]
    · rw [unhide HOn]; exact unhide HMf
end Go.Proofs.YtdfmapcnfficlaaGreatDoor

/-
  The switch in the law's 'page': kind 4.
  The switch in the law's 'page': kind 5.
  The switch in the law's 'page': kind 6.
  The switch in the law's 'page', whole, and the name ahead of it.
-/
import Derived.Test.YtdfmapcnfficlaaGreatDoorPageS3L
import Derived.Deep.CutBlock
set_option linter.unusedSimpArgs false
set_option linter.unusedVariables false
namespace Go.Proofs.YtdfmapcnfficlaaGreatDoor
open Go Go.RowKit

set_option maxHeartbeats 8000000 in
set_option maxRecDepth 1000000 in
theorem page_kind4 {l : List PieceD} {w wc : World} {k : Nat} {p : PieceD} {q1 : Sl} {ta1 : List Sl} {O1 : List Tok} {S C1 : Str} {b : Nat} {ao : Option Addr} {capA : Nat} {Post : Exit → Act → World → Prop} {u0 u1 u2 u3 u7 u11 u12 u13 u14 u15 u16 u17 u18 u19 u20 u21 u22 u23 u24 u25 u26 u27 u28 u29 u30 u31 u32 u33 u34 u35 u36 u37 u38 u39 u40 u41 u42 u43 u44 u45 u46 u47 u48 u49 u50 u51 u52 u53 u54 u55 u56 u58 u59 u60 u61 u62 u63 u64 u65 u66 u67 u68 u69 u70 u71 u72 u73 u74 u75 u76 u77 u78 u79 u80 u81 u82 u83 u84 u85 u86 u87 u88 u89 u90 u91 u92 u93 u94 u95 u96 u97 u98 u99 u100 u101 u102 u103 u104 u105 u106 u107 u108 u109 u110 u111 u112 u113 u114 u115 u116 u117 u118 u119 u120 u121 u122 u123 u124 u125 u126 u127 u128 u129 u130 u131 u132 u133 u134 u135 u136 u137 u138 u139 u140 u141 u142 u143 u144 u145 u146 u147 u148 u149 u150 u151 u152 u153 u154 u155 u156 u157 u158 u159 u160 u161 u162 u163 u164 u165 u166 u167 u168 u169 u170 u171 u172 u173 u174 u175 u176 u177 u178 u179 u180 u181 u182 u183 u184 u185 u186 u187 u188 u189 u190 u191 u192 u193 u194 u195 u196 u197 u198 u199 u200 u201 u202 u203 u204 u205 u206 u207 u208 u209 u210 u211 u212 u213 u214 u215 u216 u217 : Value} (hMc : MineT w wc q1 O1 ta1) (n1 : wc.cell? ⟨b, 1, none⟩ = some (.int .i64 p.n)) (n2 : wc.cell? ⟨b, 2, none⟩ = some (.slice ao p.attrs.length capA)) (hbc : b < wc.heap.size) (hI : IntsV w (.slice ao p.attrs.length capA) p.attrs) (hal : p.attrs.length ≤ 9223372036854775807) (hnr : -9223372036854775808 ≤ p.n ∧ p.n ≤ 9223372036854775807) (hR : pickN p.kind 7 = 4)
    (hO1l : O1.length ≤ 121) (hS : S.length ≤ 20000) (hC1 : C1.length ≤ 300) (hS1 : encs (pgS l (k + 1)) = S ++ encs (pieceP p)) (kC : 4 = 0 → encs (pgC l (k + 1)) = C1 ++ encs (valueP p.n)) (kO : 4 = 0 → pgO l (k + 1) = O1) (kCn : 4 ≠ 0 → encs (pgC l (k + 1)) = [] ∧ C1 = []) (kOn : 4 ≠ 0 → pgO l (k + 1) = O1 ++ pieceT p)
    (hPost : ∀ (v4 v5 v6 v11 v12 v13 v14 v15 v16 v17 v18 v58 v59 v60 v61 v62 v63 v64 v65 v66 v67 v68 v69 v70 v71 v72 v73 v74 v75 v76 v77 v78 v79 v80 v81 v82 v83 v84 v85 v86 v87 v88 v89 v90 v91 v92 v93 v94 v95 v96 v97 v98 v99 v100 v101 v102 v103 v104 v105 v106 v107 v108 v109 v110 v111 v112 v113 v114 v115 v116 v117 v118 v119 v120 v121 v122 v123 v124 v125 v126 v127 v128 v129 v130 v131 v132 v133 v134 v135 v136 v137 v138 v139 v140 v141 v142 v143 v144 v145 v146 v147 v148 v149 v150 v151 v152 v153 v154 v155 v156 v157 v158 v159 v160 v161 v162 v163 v164 v165 v166 v167 v168 v169 v170 v171 v172 v173 v174 v175 v176 v177 v178 v179 v180 v181 v182 v183 v184 v185 v186 v187 v188 v189 v190 v191 v192 v193 v194 v195 v196 v197 v198 v199 v200 v201 v202 v203 v204 v205 : Value) (wx : World), RelK l k w v4 v5 v6 wx → Post .normal ⟨#[u0, u1, u2, u3, v4, v5, v6, u7, .pointer (some ⟨b, 0, none⟩), .int .i64 4, .string ⟨(encs (tagP p.n)).toArray⟩, v11, v12, v13, v14, v15, v16, v17, v18, u19, u20, u21, u22, u23, u24, u25, u26, u27, u28, u29, u30, u31, u32, u33, u34, u35, u36, u37, u38, u39, u40, u41, u42, u43, u44, u45, u46, u47, u48, u49, u50, u51, u52, u53, u54, u55, u56, .int .i64 4, v58, v59, v60, v61, v62, v63, v64, v65, v66, v67, v68, v69, v70, v71, v72, v73, v74, v75, v76, v77, v78, v79, v80, v81, v82, v83, v84, v85, v86, v87, v88, v89, v90, v91, v92, v93, v94, v95, v96, v97, v98, v99, v100, v101, v102, v103, v104, v105, v106, v107, v108, v109, v110, v111, v112, v113, v114, v115, v116, v117, v118, v119, v120, v121, v122, v123, v124, v125, v126, v127, v128, v129, v130, v131, v132, v133, v134, v135, v136, v137, v138, v139, v140, v141, v142, v143, v144, v145, v146, v147, v148, v149, v150, v151, v152, v153, v154, v155, v156, v157, v158, v159, v160, v161, v162, v163, v164, v165, v166, v167, v168, v169, v170, v171, v172, v173, v174, v175, v176, v177, v178, v179, v180, v181, v182, v183, v184, v185, v186, v187, v188, v189, v190, v191, v192, v193, v194, v195, v196, v197, v198, v199, v200, v201, v202, v203, v204, v205, u206, u207, u208, u209, u210, u211, u212, u213, u214, u215, u216, u217], []⟩ wx) :
    Code.wp Tryz.prog (cB (cB (cB (cB (cB (cB (cA (cA (cB (cA (cA (cB (cA (cB (cB (cB (cB (Tryz.f23.body.getD .skip)))))))))))))))))) Post ⟨#[u0, u1, u2, u3, .string ⟨S.toArray⟩, .slice q1.a O1.length q1.cap, .string ⟨C1.toArray⟩, u7, .pointer (some ⟨b, 0, none⟩), .int .i64 4, .string ⟨(encs (tagP p.n)).toArray⟩, u11, u12, u13, u14, u15, u16, u17, u18, u19, u20, u21, u22, u23, u24, u25, u26, u27, u28, u29, u30, u31, u32, u33, u34, u35, u36, u37, u38, u39, u40, u41, u42, u43, u44, u45, u46, u47, u48, u49, u50, u51, u52, u53, u54, u55, u56, .int .i64 4, u58, u59, u60, u61, u62, u63, u64, u65, u66, u67, u68, u69, u70, u71, u72, u73, u74, u75, u76, u77, u78, u79, u80, u81, u82, u83, u84, u85, u86, u87, u88, u89, u90, u91, u92, u93, u94, u95, u96, u97, u98, u99, u100, u101, u102, u103, u104, u105, u106, u107, u108, u109, u110, u111, u112, u113, u114, u115, u116, u117, u118, u119, u120, u121, u122, u123, u124, u125, u126, u127, u128, u129, u130, u131, u132, u133, u134, u135, u136, u137, u138, u139, u140, u141, u142, u143, u144, u145, u146, u147, u148, u149, u150, u151, u152, u153, u154, u155, u156, u157, u158, u159, u160, u161, u162, u163, u164, u165, u166, u167, u168, u169, u170, u171, u172, u173, u174, u175, u176, u177, u178, u179, u180, u181, u182, u183, u184, u185, u186, u187, u188, u189, u190, u191, u192, u193, u194, u195, u196, u197, u198, u199, u200, u201, u202, u203, u204, u205, u206, u207, u208, u209, u210, u211, u212, u213, u214, u215, u216, u217], []⟩ wc := by
  obtain ⟨i0, hi, hz0, hz1, hz2⟩ := info_parts Tryz.infoToken
  have HMc := hide hMc
  have HR := hide hR
  have HS1 := hide hS1
  have HVl := hide (fun W => value_does p.n W hnr.1 hnr.2)
  have HAt := hide (fun W hW => attrsK_does p.attrs (.slice ao p.attrs.length capA) W (hI.more hW) hal)
  obtain ⟨hd8a, hd8b⟩ := tdiv_rangeP (n := 8) hnr.1 hnr.2 (by decide)
  obtain ⟨hd5a, hd5b⟩ := tdiv_rangeP (n := 5) hnr.1 hnr.2 (by decide)
  have htl := tagP_len p.n
  have HTL := hide (fun W => lowK_does (encs (tagP p.n)) W (by omega))
  rw [show lowL (encs (tagP p.n)) = tagN p.n from low_names7 _ (tag_mem p.n)] at HTL
  have HPost := hide hPost
  clear hI hal hR hPost hMc hS1
  conv => arg 2; whnf
  obtain ⟨eCn, eC1⟩ := kCn (by decide)
  have HCn := hide eCn
  have HOn := hide (kOn (by decide))
  clear eCn kC kO kCn kOn
  subst eC1
  have HPS := hide (show encs (pieceP p) = [60, 33, 45, 45] ++ (encs (valueP p.n) ++ [45, 45, 62]) by unfold pieceP; rw [if_neg (by rw [unhide HR]; decide), if_neg (by rw [unhide HR]; decide), if_neg (by rw [unhide HR]; decide), if_neg (by rw [unhide HR]; decide), if_pos (unhide HR)]; rw [encs_app, encs_app]; rfl)
  have HPT := hide (show pieceT p = [{ kind := 3, text := encs (valueP p.n) }] by unfold pieceT; rw [if_neg (by rw [unhide HR]; decide), if_neg (by rw [unhide HR]; decide), if_neg (by rw [unhide HR]; decide), if_pos (unhide HR)])
  have hvl := values6_len _ (value_mem p.n)
  go_wp2_with fail
  refine (unhide HVl _).mono ?_
  rintro e w4 ⟨rfl, m4⟩
  have HMe := hide ((unhide HMc).later m4)
  clear m4 HMc n1 n2 HVl
  generalize encs (valueP p.n) = V at *
  obtain ⟨Y1, hY1⟩ : ∃ Z : Str, Z = S ++ [60, 33, 45, 45] := ⟨_, rfl⟩
  have lY1 : Y1.length = S.length + 4 := by rw [hY1, List.length_append]; rfl
  have q10 : (Op.stringOp .add ⟨S.toArray⟩ ⟨#[60, 33, 45, 45]⟩).run Tryz.prog w4 = .ok (.string ⟨Y1.toArray⟩) w4 := sum_cat (y := [60, 33, 45, 45]) hY1 (by show _ + 4 ≤ _; omega) w4
  obtain ⟨Y2, hY2⟩ : ∃ Z : Str, Z = Y1 ++ V := ⟨_, rfl⟩
  have lY2 : Y2.length = Y1.length + V.length := by rw [hY2, List.length_append]
  have q11 : (Op.stringOp .add ⟨Y1.toArray⟩ ⟨V.toArray⟩).run Tryz.prog w4 = .ok (.string ⟨Y2.toArray⟩) w4 := sum_cat (y := V) hY2 (by skip; omega) w4
  obtain ⟨Y3, hY3⟩ : ∃ Z : Str, Z = Y2 ++ [45, 45, 62] := ⟨_, rfl⟩
  have lY3 : Y3.length = Y2.length + 3 := by rw [hY3, List.length_append]; rfl
  have q12 : (Op.stringOp .add ⟨Y2.toArray⟩ ⟨#[45, 45, 62]⟩).run Tryz.prog w4 = .ok (.string ⟨Y3.toArray⟩) w4 := sum_cat (y := [45, 45, 62]) hY3 (by show _ + 3 ≤ _; omega) w4
  have HSn := hide (show encs (pgS l (k + 1)) = Y3 by rw [unhide HS1, unhide HPS, hY3, hY2, hY1]; simp [List.append_assoc])
  have HOn := hide (show pgO l (k + 1) = O1 ++ [({ kind := 3, text := V } : Tok)] by rw [unhide HOn, unhide HPT])
  clear hY1 hY2 hY3 lY1 lY2 lY3
  have hrad := tok_room (n := O1.length) (by omega)
  have hoad := (unhide HMe).ok
  unfold Item.ok tokItem at hoad
  go_wp2_with (at_builtin; refine wpList_append_mine _ rfl _ _ 30 rfl 34 i0 _ 6 80 Tryz.underlying30 hi hz0 hz1 hz2 rfl (by decide) q1.a O1.length q1.cap (toldCells O1 ta1) rfl (by exact World.ownsRow.alloc hoad _) ⟨w4.heap.size, 0, none⟩ 1 1 (tokCells ({ kind := 3, text := V } : Tok) nilSl) rfl rfl (by exact tokCells_cells' ({ kind := 3, text := V } : Tok) nilSl w4 34 _ rfl) (tokCells_one _ _) (by decide) hrad.1 hrad.2 ?next)
  case next =>
    intro ad capad w6 g1 g2 g3
    have HMf := hide ((unhide HMe).one ({ kind := 3, text := V } : Tok) nilSl ((More.refl w4).alloc _) g1 g2 (by simpa using g3) (AttrAt.nil _ _ _) (by simp))
    clear g1 g2 g3 hoad hrad
    go_wp2
    try simp only [Exit.inBlock, Exit.then]
    refine unhide HPost _ _ _ _ _ _ _ _ _ _ _ _ _ _ _ _ _ _ _ _ _ _ _ _ _ _ _ _ _ _ _ _ _ _ _ _ _ _ _ _ _ _ _ _ _ _ _ _ _ _ _ _ _ _ _ _ _ _ _ _ _ _ _ _ _ _ _ _ _ _ _ _ _ _ _ _ _ _ _ _ _ _ _ _ _ _ _ _ _ _ _ _ _ _ _ _ _ _ _ _ _ _ _ _ _ _ _ _ _ _ _ _ _ _ _ _ _ _ _ _ _ _ _ _ _ _ _ _ _ _ _ _ _ _ _ _ _ _ _ _ _ _ _ _ _ _ _ _ _ _ _ _ _ _ _ _ _ _ _ _ ⟨⟨some ad, capad⟩, ta1 ++ [nilSl], ?_, ?_, ?_, ?_⟩
    · rw [unhide HSn]
    · rw [unhide HOn, List.length_append]; rfl
    · rw [unhide HCn]
    · rw [unhide HOn]; exact unhide HMf
end Go.Proofs.YtdfmapcnfficlaaGreatDoor

set_option linter.unusedSimpArgs false
set_option linter.unusedVariables false
namespace Go.Proofs.YtdfmapcnfficlaaGreatDoor
open Go Go.RowKit

set_option maxHeartbeats 8000000 in
set_option maxRecDepth 1000000 in
theorem page_kind5 {l : List PieceD} {w wc : World} {k : Nat} {p : PieceD} {q1 : Sl} {ta1 : List Sl} {O1 : List Tok} {S C1 : Str} {b : Nat} {ao : Option Addr} {capA : Nat} {Post : Exit → Act → World → Prop} {u0 u1 u2 u3 u7 u11 u12 u13 u14 u15 u16 u17 u18 u19 u20 u21 u22 u23 u24 u25 u26 u27 u28 u29 u30 u31 u32 u33 u34 u35 u36 u37 u38 u39 u40 u41 u42 u43 u44 u45 u46 u47 u48 u49 u50 u51 u52 u53 u54 u55 u56 u58 u59 u60 u61 u62 u63 u64 u65 u66 u67 u68 u69 u70 u71 u72 u73 u74 u75 u76 u77 u78 u79 u80 u81 u82 u83 u84 u85 u86 u87 u88 u89 u90 u91 u92 u93 u94 u95 u96 u97 u98 u99 u100 u101 u102 u103 u104 u105 u106 u107 u108 u109 u110 u111 u112 u113 u114 u115 u116 u117 u118 u119 u120 u121 u122 u123 u124 u125 u126 u127 u128 u129 u130 u131 u132 u133 u134 u135 u136 u137 u138 u139 u140 u141 u142 u143 u144 u145 u146 u147 u148 u149 u150 u151 u152 u153 u154 u155 u156 u157 u158 u159 u160 u161 u162 u163 u164 u165 u166 u167 u168 u169 u170 u171 u172 u173 u174 u175 u176 u177 u178 u179 u180 u181 u182 u183 u184 u185 u186 u187 u188 u189 u190 u191 u192 u193 u194 u195 u196 u197 u198 u199 u200 u201 u202 u203 u204 u205 u206 u207 u208 u209 u210 u211 u212 u213 u214 u215 u216 u217 : Value} (hMc : MineT w wc q1 O1 ta1) (n1 : wc.cell? ⟨b, 1, none⟩ = some (.int .i64 p.n)) (n2 : wc.cell? ⟨b, 2, none⟩ = some (.slice ao p.attrs.length capA)) (hbc : b < wc.heap.size) (hI : IntsV w (.slice ao p.attrs.length capA) p.attrs) (hal : p.attrs.length ≤ 9223372036854775807) (hnr : -9223372036854775808 ≤ p.n ∧ p.n ≤ 9223372036854775807) (hR : pickN p.kind 7 = 5)
    (hO1l : O1.length ≤ 121) (hS : S.length ≤ 20000) (hC1 : C1.length ≤ 300) (hS1 : encs (pgS l (k + 1)) = S ++ encs (pieceP p)) (kC : 5 = 0 → encs (pgC l (k + 1)) = C1 ++ encs (valueP p.n)) (kO : 5 = 0 → pgO l (k + 1) = O1) (kCn : 5 ≠ 0 → encs (pgC l (k + 1)) = [] ∧ C1 = []) (kOn : 5 ≠ 0 → pgO l (k + 1) = O1 ++ pieceT p)
    (hPost : ∀ (v4 v5 v6 v11 v12 v13 v14 v15 v16 v17 v18 v58 v59 v60 v61 v62 v63 v64 v65 v66 v67 v68 v69 v70 v71 v72 v73 v74 v75 v76 v77 v78 v79 v80 v81 v82 v83 v84 v85 v86 v87 v88 v89 v90 v91 v92 v93 v94 v95 v96 v97 v98 v99 v100 v101 v102 v103 v104 v105 v106 v107 v108 v109 v110 v111 v112 v113 v114 v115 v116 v117 v118 v119 v120 v121 v122 v123 v124 v125 v126 v127 v128 v129 v130 v131 v132 v133 v134 v135 v136 v137 v138 v139 v140 v141 v142 v143 v144 v145 v146 v147 v148 v149 v150 v151 v152 v153 v154 v155 v156 v157 v158 v159 v160 v161 v162 v163 v164 v165 v166 v167 v168 v169 v170 v171 v172 v173 v174 v175 v176 v177 v178 v179 v180 v181 v182 v183 v184 v185 v186 v187 v188 v189 v190 v191 v192 v193 v194 v195 v196 v197 v198 v199 v200 v201 v202 v203 v204 v205 : Value) (wx : World), RelK l k w v4 v5 v6 wx → Post .normal ⟨#[u0, u1, u2, u3, v4, v5, v6, u7, .pointer (some ⟨b, 0, none⟩), .int .i64 5, .string ⟨(encs (tagP p.n)).toArray⟩, v11, v12, v13, v14, v15, v16, v17, v18, u19, u20, u21, u22, u23, u24, u25, u26, u27, u28, u29, u30, u31, u32, u33, u34, u35, u36, u37, u38, u39, u40, u41, u42, u43, u44, u45, u46, u47, u48, u49, u50, u51, u52, u53, u54, u55, u56, .int .i64 5, v58, v59, v60, v61, v62, v63, v64, v65, v66, v67, v68, v69, v70, v71, v72, v73, v74, v75, v76, v77, v78, v79, v80, v81, v82, v83, v84, v85, v86, v87, v88, v89, v90, v91, v92, v93, v94, v95, v96, v97, v98, v99, v100, v101, v102, v103, v104, v105, v106, v107, v108, v109, v110, v111, v112, v113, v114, v115, v116, v117, v118, v119, v120, v121, v122, v123, v124, v125, v126, v127, v128, v129, v130, v131, v132, v133, v134, v135, v136, v137, v138, v139, v140, v141, v142, v143, v144, v145, v146, v147, v148, v149, v150, v151, v152, v153, v154, v155, v156, v157, v158, v159, v160, v161, v162, v163, v164, v165, v166, v167, v168, v169, v170, v171, v172, v173, v174, v175, v176, v177, v178, v179, v180, v181, v182, v183, v184, v185, v186, v187, v188, v189, v190, v191, v192, v193, v194, v195, v196, v197, v198, v199, v200, v201, v202, v203, v204, v205, u206, u207, u208, u209, u210, u211, u212, u213, u214, u215, u216, u217], []⟩ wx) :
    Code.wp Tryz.prog (cB (cB (cB (cB (cB (cB (cA (cA (cB (cA (cA (cB (cA (cB (cB (cB (cB (Tryz.f23.body.getD .skip)))))))))))))))))) Post ⟨#[u0, u1, u2, u3, .string ⟨S.toArray⟩, .slice q1.a O1.length q1.cap, .string ⟨C1.toArray⟩, u7, .pointer (some ⟨b, 0, none⟩), .int .i64 5, .string ⟨(encs (tagP p.n)).toArray⟩, u11, u12, u13, u14, u15, u16, u17, u18, u19, u20, u21, u22, u23, u24, u25, u26, u27, u28, u29, u30, u31, u32, u33, u34, u35, u36, u37, u38, u39, u40, u41, u42, u43, u44, u45, u46, u47, u48, u49, u50, u51, u52, u53, u54, u55, u56, .int .i64 5, u58, u59, u60, u61, u62, u63, u64, u65, u66, u67, u68, u69, u70, u71, u72, u73, u74, u75, u76, u77, u78, u79, u80, u81, u82, u83, u84, u85, u86, u87, u88, u89, u90, u91, u92, u93, u94, u95, u96, u97, u98, u99, u100, u101, u102, u103, u104, u105, u106, u107, u108, u109, u110, u111, u112, u113, u114, u115, u116, u117, u118, u119, u120, u121, u122, u123, u124, u125, u126, u127, u128, u129, u130, u131, u132, u133, u134, u135, u136, u137, u138, u139, u140, u141, u142, u143, u144, u145, u146, u147, u148, u149, u150, u151, u152, u153, u154, u155, u156, u157, u158, u159, u160, u161, u162, u163, u164, u165, u166, u167, u168, u169, u170, u171, u172, u173, u174, u175, u176, u177, u178, u179, u180, u181, u182, u183, u184, u185, u186, u187, u188, u189, u190, u191, u192, u193, u194, u195, u196, u197, u198, u199, u200, u201, u202, u203, u204, u205, u206, u207, u208, u209, u210, u211, u212, u213, u214, u215, u216, u217], []⟩ wc := by
  obtain ⟨i0, hi, hz0, hz1, hz2⟩ := info_parts Tryz.infoToken
  have HMc := hide hMc
  have HR := hide hR
  have HS1 := hide hS1
  have HVl := hide (fun W => value_does p.n W hnr.1 hnr.2)
  have HAt := hide (fun W hW => attrsK_does p.attrs (.slice ao p.attrs.length capA) W (hI.more hW) hal)
  obtain ⟨hd8a, hd8b⟩ := tdiv_rangeP (n := 8) hnr.1 hnr.2 (by decide)
  obtain ⟨hd5a, hd5b⟩ := tdiv_rangeP (n := 5) hnr.1 hnr.2 (by decide)
  have htl := tagP_len p.n
  have HTL := hide (fun W => lowK_does (encs (tagP p.n)) W (by omega))
  rw [show lowL (encs (tagP p.n)) = tagN p.n from low_names7 _ (tag_mem p.n)] at HTL
  have HPost := hide hPost
  clear hI hal hR hPost hMc hS1
  conv => arg 2; whnf
  obtain ⟨eCn, eC1⟩ := kCn (by decide)
  have HCn := hide eCn
  have HOn := hide (kOn (by decide))
  clear eCn kC kO kCn kOn
  subst eC1
  have HPS := hide (show encs (pieceP p) = [60, 33, 68, 111, 99, 84, 121, 112, 101, 32] ++ (encs (tagP p.n) ++ [62]) by unfold pieceP; rw [if_neg (by rw [unhide HR]; decide), if_neg (by rw [unhide HR]; decide), if_neg (by rw [unhide HR]; decide), if_neg (by rw [unhide HR]; decide), if_neg (by rw [unhide HR]; decide), if_pos (unhide HR)]; rw [encs_app, encs_app]; rfl)
  have HPT := hide (show pieceT p = [{ kind := 4, name := tagN p.n }] by unfold pieceT; rw [if_neg (by rw [unhide HR]; decide), if_neg (by rw [unhide HR]; decide), if_neg (by rw [unhide HR]; decide), if_neg (by rw [unhide HR]; decide), if_pos (unhide HR)])
  generalize encs (tagP p.n) = TG at *
  generalize tagN p.n = TN at *
  obtain ⟨Y1, hY1⟩ : ∃ Z : Str, Z = S ++ [60, 33, 68, 111, 99, 84, 121, 112, 101, 32] := ⟨_, rfl⟩
  have lY1 : Y1.length = S.length + 10 := by rw [hY1, List.length_append]; rfl
  have q10 : (Op.stringOp .add ⟨S.toArray⟩ ⟨#[60, 33, 68, 111, 99, 84, 121, 112, 101, 32]⟩).run Tryz.prog wc = .ok (.string ⟨Y1.toArray⟩) wc := sum_cat (y := [60, 33, 68, 111, 99, 84, 121, 112, 101, 32]) hY1 (by show _ + 10 ≤ _; omega) wc
  obtain ⟨Y2, hY2⟩ : ∃ Z : Str, Z = Y1 ++ TG := ⟨_, rfl⟩
  have lY2 : Y2.length = Y1.length + TG.length := by rw [hY2, List.length_append]
  have q11 : (Op.stringOp .add ⟨Y1.toArray⟩ ⟨TG.toArray⟩).run Tryz.prog wc = .ok (.string ⟨Y2.toArray⟩) wc := sum_cat (y := TG) hY2 (by skip; omega) wc
  obtain ⟨Y3, hY3⟩ : ∃ Z : Str, Z = Y2 ++ [62] := ⟨_, rfl⟩
  have lY3 : Y3.length = Y2.length + 1 := by rw [hY3, List.length_append]; rfl
  have q12 : (Op.stringOp .add ⟨Y2.toArray⟩ ⟨#[62]⟩).run Tryz.prog wc = .ok (.string ⟨Y3.toArray⟩) wc := sum_cat (y := [62]) hY3 (by show _ + 1 ≤ _; omega) wc
  have HSn := hide (show encs (pgS l (k + 1)) = Y3 by rw [unhide HS1, unhide HPS, hY3, hY2, hY1]; simp [List.append_assoc])
  have HOn := hide (show pgO l (k + 1) = O1 ++ [({ kind := 4, name := TN } : Tok)] by rw [unhide HOn, unhide HPT])
  clear hY1 hY2 hY3 lY1 lY2 lY3
  go_wp2_with fail
  refine (unhide HTL _).mono ?_
  rintro e w5 ⟨rfl, m5⟩
  have HMe := hide ((unhide HMc).later m5)
  clear m5 HMc q10 q11 q12 n1 n2
  have hrad := tok_room (n := O1.length) (by omega)
  have hoad := (unhide HMe).ok
  unfold Item.ok tokItem at hoad
  go_wp2_with (at_builtin; refine wpList_append_mine _ rfl _ _ 30 rfl 34 i0 _ 6 80 Tryz.underlying30 hi hz0 hz1 hz2 rfl (by decide) q1.a O1.length q1.cap (toldCells O1 ta1) rfl (by exact World.ownsRow.alloc hoad _) ⟨w5.heap.size, 0, none⟩ 1 1 (tokCells ({ kind := 4, name := TN } : Tok) nilSl) rfl rfl (by exact tokCells_cells' ({ kind := 4, name := TN } : Tok) nilSl w5 34 _ rfl) (tokCells_one _ _) (by decide) hrad.1 hrad.2 ?next)
  case next =>
    intro ad capad w6 g1 g2 g3
    have HMf := hide ((unhide HMe).one ({ kind := 4, name := TN } : Tok) nilSl ((More.refl w5).alloc _) g1 g2 (by simpa using g3) (AttrAt.nil _ _ _) (by simp))
    clear g1 g2 g3 hoad hrad
    go_wp2
    try simp only [Exit.inBlock, Exit.then]
    refine unhide HPost _ _ _ _ _ _ _ _ _ _ _ _ _ _ _ _ _ _ _ _ _ _ _ _ _ _ _ _ _ _ _ _ _ _ _ _ _ _ _ _ _ _ _ _ _ _ _ _ _ _ _ _ _ _ _ _ _ _ _ _ _ _ _ _ _ _ _ _ _ _ _ _ _ _ _ _ _ _ _ _ _ _ _ _ _ _ _ _ _ _ _ _ _ _ _ _ _ _ _ _ _ _ _ _ _ _ _ _ _ _ _ _ _ _ _ _ _ _ _ _ _ _ _ _ _ _ _ _ _ _ _ _ _ _ _ _ _ _ _ _ _ _ _ _ _ _ _ _ _ _ _ _ _ _ _ _ _ _ _ _ ⟨⟨some ad, capad⟩, ta1 ++ [nilSl], ?_, ?_, ?_, ?_⟩
    · rw [unhide HSn]
    · rw [unhide HOn, List.length_append]; rfl
    · rw [unhide HCn]
    · rw [unhide HOn]; exact unhide HMf
end Go.Proofs.YtdfmapcnfficlaaGreatDoor

set_option linter.unusedSimpArgs false
set_option linter.unusedVariables false
namespace Go.Proofs.YtdfmapcnfficlaaGreatDoor
open Go Go.RowKit

set_option maxHeartbeats 8000000 in
set_option maxRecDepth 1000000 in
theorem page_kind6 {l : List PieceD} {w wc : World} {k : Nat} {p : PieceD} {q1 : Sl} {ta1 : List Sl} {O1 : List Tok} {S C1 : Str} {b : Nat} {ao : Option Addr} {capA : Nat} {Post : Exit → Act → World → Prop} {u0 u1 u2 u3 u7 u11 u12 u13 u14 u15 u16 u17 u18 u19 u20 u21 u22 u23 u24 u25 u26 u27 u28 u29 u30 u31 u32 u33 u34 u35 u36 u37 u38 u39 u40 u41 u42 u43 u44 u45 u46 u47 u48 u49 u50 u51 u52 u53 u54 u55 u56 u58 u59 u60 u61 u62 u63 u64 u65 u66 u67 u68 u69 u70 u71 u72 u73 u74 u75 u76 u77 u78 u79 u80 u81 u82 u83 u84 u85 u86 u87 u88 u89 u90 u91 u92 u93 u94 u95 u96 u97 u98 u99 u100 u101 u102 u103 u104 u105 u106 u107 u108 u109 u110 u111 u112 u113 u114 u115 u116 u117 u118 u119 u120 u121 u122 u123 u124 u125 u126 u127 u128 u129 u130 u131 u132 u133 u134 u135 u136 u137 u138 u139 u140 u141 u142 u143 u144 u145 u146 u147 u148 u149 u150 u151 u152 u153 u154 u155 u156 u157 u158 u159 u160 u161 u162 u163 u164 u165 u166 u167 u168 u169 u170 u171 u172 u173 u174 u175 u176 u177 u178 u179 u180 u181 u182 u183 u184 u185 u186 u187 u188 u189 u190 u191 u192 u193 u194 u195 u196 u197 u198 u199 u200 u201 u202 u203 u204 u205 u206 u207 u208 u209 u210 u211 u212 u213 u214 u215 u216 u217 : Value} (hMc : MineT w wc q1 O1 ta1) (n1 : wc.cell? ⟨b, 1, none⟩ = some (.int .i64 p.n)) (n2 : wc.cell? ⟨b, 2, none⟩ = some (.slice ao p.attrs.length capA)) (hbc : b < wc.heap.size) (hI : IntsV w (.slice ao p.attrs.length capA) p.attrs) (hal : p.attrs.length ≤ 9223372036854775807) (hnr : -9223372036854775808 ≤ p.n ∧ p.n ≤ 9223372036854775807) (hR : pickN p.kind 7 = 6)
    (hO1l : O1.length ≤ 121) (hS : S.length ≤ 20000) (hC1 : C1.length ≤ 300) (hS1 : encs (pgS l (k + 1)) = S ++ encs (pieceP p)) (kC : 6 = 0 → encs (pgC l (k + 1)) = C1 ++ encs (valueP p.n)) (kO : 6 = 0 → pgO l (k + 1) = O1) (kCn : 6 ≠ 0 → encs (pgC l (k + 1)) = [] ∧ C1 = []) (kOn : 6 ≠ 0 → pgO l (k + 1) = O1 ++ pieceT p)
    (hPost : ∀ (v4 v5 v6 v11 v12 v13 v14 v15 v16 v17 v18 v58 v59 v60 v61 v62 v63 v64 v65 v66 v67 v68 v69 v70 v71 v72 v73 v74 v75 v76 v77 v78 v79 v80 v81 v82 v83 v84 v85 v86 v87 v88 v89 v90 v91 v92 v93 v94 v95 v96 v97 v98 v99 v100 v101 v102 v103 v104 v105 v106 v107 v108 v109 v110 v111 v112 v113 v114 v115 v116 v117 v118 v119 v120 v121 v122 v123 v124 v125 v126 v127 v128 v129 v130 v131 v132 v133 v134 v135 v136 v137 v138 v139 v140 v141 v142 v143 v144 v145 v146 v147 v148 v149 v150 v151 v152 v153 v154 v155 v156 v157 v158 v159 v160 v161 v162 v163 v164 v165 v166 v167 v168 v169 v170 v171 v172 v173 v174 v175 v176 v177 v178 v179 v180 v181 v182 v183 v184 v185 v186 v187 v188 v189 v190 v191 v192 v193 v194 v195 v196 v197 v198 v199 v200 v201 v202 v203 v204 v205 : Value) (wx : World), RelK l k w v4 v5 v6 wx → Post .normal ⟨#[u0, u1, u2, u3, v4, v5, v6, u7, .pointer (some ⟨b, 0, none⟩), .int .i64 6, .string ⟨(encs (tagP p.n)).toArray⟩, v11, v12, v13, v14, v15, v16, v17, v18, u19, u20, u21, u22, u23, u24, u25, u26, u27, u28, u29, u30, u31, u32, u33, u34, u35, u36, u37, u38, u39, u40, u41, u42, u43, u44, u45, u46, u47, u48, u49, u50, u51, u52, u53, u54, u55, u56, .int .i64 6, v58, v59, v60, v61, v62, v63, v64, v65, v66, v67, v68, v69, v70, v71, v72, v73, v74, v75, v76, v77, v78, v79, v80, v81, v82, v83, v84, v85, v86, v87, v88, v89, v90, v91, v92, v93, v94, v95, v96, v97, v98, v99, v100, v101, v102, v103, v104, v105, v106, v107, v108, v109, v110, v111, v112, v113, v114, v115, v116, v117, v118, v119, v120, v121, v122, v123, v124, v125, v126, v127, v128, v129, v130, v131, v132, v133, v134, v135, v136, v137, v138, v139, v140, v141, v142, v143, v144, v145, v146, v147, v148, v149, v150, v151, v152, v153, v154, v155, v156, v157, v158, v159, v160, v161, v162, v163, v164, v165, v166, v167, v168, v169, v170, v171, v172, v173, v174, v175, v176, v177, v178, v179, v180, v181, v182, v183, v184, v185, v186, v187, v188, v189, v190, v191, v192, v193, v194, v195, v196, v197, v198, v199, v200, v201, v202, v203, v204, v205, u206, u207, u208, u209, u210, u211, u212, u213, u214, u215, u216, u217], []⟩ wx) :
    Code.wp Tryz.prog (cB (cB (cB (cB (cB (cB (cA (cA (cB (cA (cA (cB (cA (cB (cB (cB (cB (Tryz.f23.body.getD .skip)))))))))))))))))) Post ⟨#[u0, u1, u2, u3, .string ⟨S.toArray⟩, .slice q1.a O1.length q1.cap, .string ⟨C1.toArray⟩, u7, .pointer (some ⟨b, 0, none⟩), .int .i64 6, .string ⟨(encs (tagP p.n)).toArray⟩, u11, u12, u13, u14, u15, u16, u17, u18, u19, u20, u21, u22, u23, u24, u25, u26, u27, u28, u29, u30, u31, u32, u33, u34, u35, u36, u37, u38, u39, u40, u41, u42, u43, u44, u45, u46, u47, u48, u49, u50, u51, u52, u53, u54, u55, u56, .int .i64 6, u58, u59, u60, u61, u62, u63, u64, u65, u66, u67, u68, u69, u70, u71, u72, u73, u74, u75, u76, u77, u78, u79, u80, u81, u82, u83, u84, u85, u86, u87, u88, u89, u90, u91, u92, u93, u94, u95, u96, u97, u98, u99, u100, u101, u102, u103, u104, u105, u106, u107, u108, u109, u110, u111, u112, u113, u114, u115, u116, u117, u118, u119, u120, u121, u122, u123, u124, u125, u126, u127, u128, u129, u130, u131, u132, u133, u134, u135, u136, u137, u138, u139, u140, u141, u142, u143, u144, u145, u146, u147, u148, u149, u150, u151, u152, u153, u154, u155, u156, u157, u158, u159, u160, u161, u162, u163, u164, u165, u166, u167, u168, u169, u170, u171, u172, u173, u174, u175, u176, u177, u178, u179, u180, u181, u182, u183, u184, u185, u186, u187, u188, u189, u190, u191, u192, u193, u194, u195, u196, u197, u198, u199, u200, u201, u202, u203, u204, u205, u206, u207, u208, u209, u210, u211, u212, u213, u214, u215, u216, u217], []⟩ wc := by
  obtain ⟨i0, hi, hz0, hz1, hz2⟩ := info_parts Tryz.infoToken
  have HMc := hide hMc
  have HR := hide hR
  have HS1 := hide hS1
  have HVl := hide (fun W => value_does p.n W hnr.1 hnr.2)
  have HAt := hide (fun W hW => attrsK_does p.attrs (.slice ao p.attrs.length capA) W (hI.more hW) hal)
  obtain ⟨hd8a, hd8b⟩ := tdiv_rangeP (n := 8) hnr.1 hnr.2 (by decide)
  obtain ⟨hd5a, hd5b⟩ := tdiv_rangeP (n := 5) hnr.1 hnr.2 (by decide)
  have htl := tagP_len p.n
  have HTL := hide (fun W => lowK_does (encs (tagP p.n)) W (by omega))
  rw [show lowL (encs (tagP p.n)) = tagN p.n from low_names7 _ (tag_mem p.n)] at HTL
  have HPost := hide hPost
  clear hI hal hR hPost hMc hS1
  conv => arg 2; whnf
  obtain ⟨eCn, eC1⟩ := kCn (by decide)
  have HCn := hide eCn
  have HOn := hide (kOn (by decide))
  clear eCn kC kO kCn kOn
  subst eC1
  have HPS := hide (show encs (pieceP p) = [60] ++ (encs (wordP p.n) ++ ([62] ++ (encs (rawP p.n) ++ ([60, 47] ++ (encs (wordP p.n) ++ [32, 62]))))) by unfold pieceP; rw [if_neg (by rw [unhide HR]; decide), if_neg (by rw [unhide HR]; decide), if_neg (by rw [unhide HR]; decide), if_neg (by rw [unhide HR]; decide), if_neg (by rw [unhide HR]; decide), if_neg (by rw [unhide HR]; decide)]; rw [encs_app, encs_cons, encs_app, encs_app, encs_app, encs_app, List.append_assoc, List.append_assoc]; rfl)
  have HPT := hide (show pieceT p = [{ kind := 1, name := encs (wordP p.n) }] ++ (charsOf (encs (rawP p.n)) ++ [{ kind := 2, name := encs (wordP p.n) }]) by unfold pieceT; rw [if_neg (by rw [unhide HR]; decide), if_neg (by rw [unhide HR]; decide), if_neg (by rw [unhide HR]; decide), if_neg (by rw [unhide HR]; decide), if_neg (by rw [unhide HR]; decide)])
  have HP5 := hide (fun W => pick_does p.n 5 W hnr.1 hnr.2 (by decide) (by decide))
  have HP7 := hide (fun W => pick_does (p.n.tdiv 5) 7 W hd5a hd5b (by decide) (by decide))
  have hr5 := pickN_range p.n 5 (by decide)
  have hr7 := pickN_range (p.n.tdiv 5) 7 (by decide)
  obtain ⟨j, hj⟩ : ∃ j : Nat, pickN p.n 5 = j := ⟨(pickN p.n 5).toNat, by omega⟩
  obtain ⟨i, hi7⟩ : ∃ i : Nat, pickN (p.n.tdiv 5) 7 = i := ⟨(pickN (p.n.tdiv 5) 7).toNat, by omega⟩
  have hwc := tab_at wc #[.string ⟨#[116, 105, 116, 108, 101]⟩, .string ⟨#[116, 101, 120, 116, 97, 114, 101, 97]⟩, .string ⟨#[115, 99, 114, 105, 112, 116]⟩, .string ⟨#[115, 116, 121, 108, 101]⟩, .string ⟨#[120, 109, 112]⟩] 9 j (.string ⟨(encs (wordP p.n)).toArray⟩) (by
    unfold wordP
    rw [hj] at hr5 ⊢
    have : j = 0 ∨ j = 1 ∨ j = 2 ∨ j = 3 ∨ j = 4 := by omega
    rcases this with rfl | rfl | rfl | rfl | rfl <;> rfl)
  have HRW := hide (fun (WX : Str) (hWX : WX = [60, 47] ++ (encs (wordP p.n) ++ [120, 62])) => show (#[.string ⟨#[]⟩, .string ⟨#[60, 98, 62]⟩, .string ⟨#[60, 47, 98, 62]⟩, .string ⟨WX.toArray⟩, .string ⟨#[97, 60, 98]⟩, .string ⟨#[60, 33, 45, 45]⟩, .string ⟨#[60, 47]⟩] : Array Value)[i]? = some (.string ⟨(encs (rawP p.n)).toArray⟩) by
    unfold rawP
    rw [hi7] at hr7 ⊢
    have : i = 0 ∨ i = 1 ∨ i = 2 ∨ i = 3 ∨ i = 4 ∨ i = 5 ∨ i = 6 := by omega
    rcases this with rfl | rfl | rfl | rfl | rfl | rfl | rfl
    · rfl
    · rfl
    · rfl
    · rw [hWX]
      show some (Value.string ⟨([60, 47] ++ (encs (wordP p.n) ++ [120, 62])).toArray⟩) = some (.string ⟨(encs ([60, 47] ++ (wordP p.n ++ [120, 62]))).toArray⟩)
      rw [encs_app, encs_app]
      rfl
    · rfl
    · rfl
    · rfl)
  have hj5 : j < 5 := by omega
  have hi6 : i < 7 := by omega
  have hwl := (words5_len _ (word_mem p.n)).1
  have hrl := (words5_len _ (word_mem p.n)).2 _ (raw_mem p.n)
  rw [hj] at HP5
  rw [hi7] at HP7
  clear hj hr5 hi7 hr7
  generalize encs (rawP p.n) = RT at *
  generalize encs (wordP p.n) = WD at *
  go_wp2_with fail
  refine (unhide HP5 _).mono ?_
  rintro e w4 ⟨rfl, rfl⟩
  have n1' : (wc.alloc (.cells #[.string ⟨#[116, 105, 116, 108, 101]⟩, .string ⟨#[116, 101, 120, 116, 97, 114, 101, 97]⟩, .string ⟨#[115, 99, 114, 105, 112, 116]⟩, .string ⟨#[115, 116, 121, 108, 101]⟩, .string ⟨#[120, 109, 112]⟩] 9)).cell? ⟨b, 1, none⟩ = some (.int .i64 p.n) := (World.cell?_of_block (w := wc) (Below.heap_alloc _ _ _ hbc)).trans n1
  have hb4 : b < (wc.alloc (.cells #[.string ⟨#[116, 105, 116, 108, 101]⟩, .string ⟨#[116, 101, 120, 116, 97, 114, 101, 97]⟩, .string ⟨#[115, 99, 114, 105, 112, 116]⟩, .string ⟨#[115, 116, 121, 108, 101]⟩, .string ⟨#[120, 109, 112]⟩] 9)).heap.size := by simp; omega
  have M4 := hide ((More.refl wc).alloc (.cells #[.string ⟨#[116, 105, 116, 108, 101]⟩, .string ⟨#[116, 101, 120, 116, 97, 114, 101, 97]⟩, .string ⟨#[115, 99, 114, 105, 112, 116]⟩, .string ⟨#[115, 116, 121, 108, 101]⟩, .string ⟨#[120, 109, 112]⟩] 9))
  obtain ⟨w4, hw4⟩ : ∃ w4, w4 = wc.alloc (.cells #[.string ⟨#[116, 105, 116, 108, 101]⟩, .string ⟨#[116, 101, 120, 116, 97, 114, 101, 97]⟩, .string ⟨#[115, 99, 114, 105, 112, 116]⟩, .string ⟨#[115, 116, 121, 108, 101]⟩, .string ⟨#[120, 109, 112]⟩] 9) := ⟨_, rfl⟩
  rw [← hw4] at hwc n1' hb4 M4 ⊢
  obtain ⟨X1, hX1⟩ : ∃ Z : Str, Z = [60, 47] ++ WD := ⟨_, rfl⟩
  obtain ⟨X2, hX2⟩ : ∃ Z : Str, Z = X1 ++ [120, 62] := ⟨_, rfl⟩
  have lX1 : X1.length = 2 + WD.length := by rw [hX1, List.length_append]; rfl
  have x1 : (Op.stringOp .add ⟨#[60, 47]⟩ ⟨WD.toArray⟩).run Tryz.prog w4 = .ok (.string ⟨X1.toArray⟩) w4 := sum_cat (x := [60, 47]) hX1 (by show 2 + _ ≤ _; omega) w4
  have x2 : (Op.stringOp .add ⟨X1.toArray⟩ ⟨#[120, 62]⟩).run Tryz.prog w4 = .ok (.string ⟨X2.toArray⟩) w4 := sum_cat (y := [120, 62]) hX2 (by show _ + 2 ≤ _; omega) w4
  have hrc := tab_at w4 #[.string ⟨#[]⟩, .string ⟨#[60, 98, 62]⟩, .string ⟨#[60, 47, 98, 62]⟩, .string ⟨X2.toArray⟩, .string ⟨#[97, 60, 98]⟩, .string ⟨#[60, 33, 45, 45]⟩, .string ⟨#[60, 47]⟩] 9 i (.string ⟨RT.toArray⟩) (unhide HRW X2 (by rw [hX2, hX1, List.append_assoc]))
  clear hX1 hX2 lX1 HRW hw4
  go_wp2_with fail
  refine (unhide HP7 _).mono ?_
  rintro e w5 ⟨rfl, rfl⟩
  have HMe := hide (((unhide HMc).later (unhide M4)).later ((More.refl w4).alloc (.cells #[.string ⟨#[]⟩, .string ⟨#[60, 98, 62]⟩, .string ⟨#[60, 47, 98, 62]⟩, .string ⟨X2.toArray⟩, .string ⟨#[97, 60, 98]⟩, .string ⟨#[60, 33, 45, 45]⟩, .string ⟨#[60, 47]⟩] 9)))
  obtain ⟨w5, hw5⟩ : ∃ w5, w5 = w4.alloc (.cells #[.string ⟨#[]⟩, .string ⟨#[60, 98, 62]⟩, .string ⟨#[60, 47, 98, 62]⟩, .string ⟨X2.toArray⟩, .string ⟨#[97, 60, 98]⟩, .string ⟨#[60, 33, 45, 45]⟩, .string ⟨#[60, 47]⟩] 9) := ⟨_, rfl⟩
  rw [← hw5] at hrc HMe ⊢
  clear hw5 x1 x2 n1' n1 n2 hwc HMc M4 HP5 HP7
  obtain ⟨Y1, hY1⟩ : ∃ Z : Str, Z = S ++ [60] := ⟨_, rfl⟩
  have lY1 : Y1.length = S.length + 1 := by rw [hY1, List.length_append]; rfl
  have q10 : (Op.stringOp .add ⟨S.toArray⟩ ⟨#[60]⟩).run Tryz.prog w5 = .ok (.string ⟨Y1.toArray⟩) w5 := sum_cat (y := [60]) hY1 (by show _ + 1 ≤ _; omega) w5
  obtain ⟨Y2, hY2⟩ : ∃ Z : Str, Z = Y1 ++ WD := ⟨_, rfl⟩
  have lY2 : Y2.length = Y1.length + WD.length := by rw [hY2, List.length_append]
  have q11 : (Op.stringOp .add ⟨Y1.toArray⟩ ⟨WD.toArray⟩).run Tryz.prog w5 = .ok (.string ⟨Y2.toArray⟩) w5 := sum_cat (y := WD) hY2 (by skip; omega) w5
  obtain ⟨Y3, hY3⟩ : ∃ Z : Str, Z = Y2 ++ [62] := ⟨_, rfl⟩
  have lY3 : Y3.length = Y2.length + 1 := by rw [hY3, List.length_append]; rfl
  have q12 : (Op.stringOp .add ⟨Y2.toArray⟩ ⟨#[62]⟩).run Tryz.prog w5 = .ok (.string ⟨Y3.toArray⟩) w5 := sum_cat (y := [62]) hY3 (by show _ + 1 ≤ _; omega) w5
  obtain ⟨Y4, hY4⟩ : ∃ Z : Str, Z = Y3 ++ RT := ⟨_, rfl⟩
  have lY4 : Y4.length = Y3.length + RT.length := by rw [hY4, List.length_append]
  have q13 : (Op.stringOp .add ⟨Y3.toArray⟩ ⟨RT.toArray⟩).run Tryz.prog w5 = .ok (.string ⟨Y4.toArray⟩) w5 := sum_cat (y := RT) hY4 (by skip; omega) w5
  obtain ⟨Y5, hY5⟩ : ∃ Z : Str, Z = Y4 ++ [60, 47] := ⟨_, rfl⟩
  have lY5 : Y5.length = Y4.length + 2 := by rw [hY5, List.length_append]; rfl
  have q14 : (Op.stringOp .add ⟨Y4.toArray⟩ ⟨#[60, 47]⟩).run Tryz.prog w5 = .ok (.string ⟨Y5.toArray⟩) w5 := sum_cat (y := [60, 47]) hY5 (by show _ + 2 ≤ _; omega) w5
  obtain ⟨Y6, hY6⟩ : ∃ Z : Str, Z = Y5 ++ WD := ⟨_, rfl⟩
  have lY6 : Y6.length = Y5.length + WD.length := by rw [hY6, List.length_append]
  have q15 : (Op.stringOp .add ⟨Y5.toArray⟩ ⟨WD.toArray⟩).run Tryz.prog w5 = .ok (.string ⟨Y6.toArray⟩) w5 := sum_cat (y := WD) hY6 (by skip; omega) w5
  obtain ⟨Y7, hY7⟩ : ∃ Z : Str, Z = Y6 ++ [32, 62] := ⟨_, rfl⟩
  have lY7 : Y7.length = Y6.length + 2 := by rw [hY7, List.length_append]; rfl
  have q16 : (Op.stringOp .add ⟨Y6.toArray⟩ ⟨#[32, 62]⟩).run Tryz.prog w5 = .ok (.string ⟨Y7.toArray⟩) w5 := sum_cat (y := [32, 62]) hY7 (by show _ + 2 ≤ _; omega) w5
  have HSn := hide (show encs (pgS l (k + 1)) = Y7 by rw [unhide HS1, unhide HPS, hY7, hY6, hY5, hY4, hY3, hY2, hY1]; simp [List.append_assoc])
  clear hY1 hY2 hY3 hY4 hY5 hY6 hY7 lY1 lY2 lY3 lY4 lY5 lY6 lY7
  by_cases hRT : RT = []
  · subst hRT
    have HOn := hide (show pgO l (k + 1) = O1 ++ [({ kind := 1, name := WD } : Tok)] ++ [({ kind := 2, name := WD } : Tok)] by rw [unhide HOn, unhide HPT]; simp [charsOf])
    have hra1 := tok_room (n := O1.length) (by omega)
    have hoa1 := (unhide HMe).ok
    unfold Item.ok tokItem at hoa1
    go_wp2_with (at_builtin; refine wpList_append_mine _ rfl _ _ 30 rfl 34 i0 _ 6 80 Tryz.underlying30 hi hz0 hz1 hz2 rfl (by decide) q1.a O1.length q1.cap (toldCells O1 ta1) rfl (by exact World.ownsRow.alloc hoa1 _) ⟨w5.heap.size, 0, none⟩ 1 1 (tokCells ({ kind := 1, name := WD } : Tok) nilSl) rfl rfl (by exact tokCells_cells' ({ kind := 1, name := WD } : Tok) nilSl w5 34 _ rfl) (tokCells_one _ _) (by decide) hra1.1 hra1.2 ?next)
    case next =>
      intro a1 capa1 w6 g1 g2 g3
      have HMf := hide ((unhide HMe).one ({ kind := 1, name := WD } : Tok) nilSl ((More.refl w5).alloc _) g1 g2 (by simpa using g3) (AttrAt.nil _ _ _) (by simp))
      clear g1 g2 g3 hoa1 hra1
      generalize ta1 ++ [nilSl] = tb1 at *
      obtain ⟨O2, hO2⟩ : ∃ ON : List Tok, ON = O1 ++ [({ kind := 1, name := WD } : Tok)] := ⟨_, rfl⟩
      have eO2 : O1.length + 1 = O2.length := by rw [hO2, List.length_append]; rfl
      rw [eO2]
      rw [← hO2] at HMf
      have lO2 : O2.length ≤ 122 := by omega
      have HO2 := hide hO2
      clear hO2 eO2
      have HOn := hide (show pgO l (k + 1) = O2 ++ [({ kind := 2, name := WD } : Tok)] by rw [unhide HOn, unhide HO2])
      have hrad := tok_room (n := O2.length) (by omega)
      have hoad := (unhide HMf).ok
      unfold Item.ok tokItem at hoad
      go_wp2_with (at_builtin; refine wpList_append_mine _ rfl _ _ 30 rfl 34 i0 _ 6 80 Tryz.underlying30 hi hz0 hz1 hz2 rfl (by decide) (some a1) O2.length capa1 (toldCells O2 tb1) rfl (by exact World.ownsRow.alloc hoad _) ⟨w6.heap.size, 0, none⟩ 1 1 (tokCells ({ kind := 2, name := WD } : Tok) nilSl) rfl rfl (by exact tokCells_cells' ({ kind := 2, name := WD } : Tok) nilSl w6 34 _ rfl) (tokCells_one _ _) (by decide) hrad.1 hrad.2 ?next)
      case next =>
        intro ad capad w7 g1 g2 g3
        have HMg := hide ((unhide HMf).one ({ kind := 2, name := WD } : Tok) nilSl ((More.refl w6).alloc _) g1 g2 (by simpa using g3) (AttrAt.nil _ _ _) (by simp))
        clear g1 g2 g3 hoad hrad
        go_wp2
        try simp only [Exit.inBlock, Exit.then]
        refine unhide HPost _ _ _ _ _ _ _ _ _ _ _ _ _ _ _ _ _ _ _ _ _ _ _ _ _ _ _ _ _ _ _ _ _ _ _ _ _ _ _ _ _ _ _ _ _ _ _ _ _ _ _ _ _ _ _ _ _ _ _ _ _ _ _ _ _ _ _ _ _ _ _ _ _ _ _ _ _ _ _ _ _ _ _ _ _ _ _ _ _ _ _ _ _ _ _ _ _ _ _ _ _ _ _ _ _ _ _ _ _ _ _ _ _ _ _ _ _ _ _ _ _ _ _ _ _ _ _ _ _ _ _ _ _ _ _ _ _ _ _ _ _ _ _ _ _ _ _ _ _ _ _ _ _ _ _ _ _ _ _ _ ⟨⟨some ad, capad⟩, tb1 ++ [nilSl], ?_, ?_, ?_, ?_⟩
        · rw [unhide HSn]
        · rw [unhide HOn, List.length_append]; rfl
        · rw [unhide HCn]
        · rw [unhide HOn]; exact unhide HMg
  · have eRT : (RT == []) = false := by simpa using hRT
    have eRT' : (RT != []) = true := by simp [bne, eRT]
    have eRTi : RT.isEmpty = false := by simpa using hRT
    have HOn := hide (show pgO l (k + 1) = O1 ++ [({ kind := 1, name := WD } : Tok)] ++ [({ kind := 0, text := RT } : Tok)] ++ [({ kind := 2, name := WD } : Tok)] by rw [unhide HOn, unhide HPT, charsOf, if_neg hRT]; simp)
    clear hRT
    have hra1 := tok_room (n := O1.length) (by omega)
    have hoa1 := (unhide HMe).ok
    unfold Item.ok tokItem at hoa1
    go_wp2_with (at_builtin; refine wpList_append_mine _ rfl _ _ 30 rfl 34 i0 _ 6 80 Tryz.underlying30 hi hz0 hz1 hz2 rfl (by decide) q1.a O1.length q1.cap (toldCells O1 ta1) rfl (by exact World.ownsRow.alloc hoa1 _) ⟨w5.heap.size, 0, none⟩ 1 1 (tokCells ({ kind := 1, name := WD } : Tok) nilSl) rfl rfl (by exact tokCells_cells' ({ kind := 1, name := WD } : Tok) nilSl w5 34 _ rfl) (tokCells_one _ _) (by decide) hra1.1 hra1.2 ?next)
    case next =>
      intro a1 capa1 w6 g1 g2 g3
      have HMf := hide ((unhide HMe).one ({ kind := 1, name := WD } : Tok) nilSl ((More.refl w5).alloc _) g1 g2 (by simpa using g3) (AttrAt.nil _ _ _) (by simp))
      clear g1 g2 g3 hoa1 hra1
      generalize ta1 ++ [nilSl] = tb1 at *
      obtain ⟨O2, hO2⟩ : ∃ ON : List Tok, ON = O1 ++ [({ kind := 1, name := WD } : Tok)] := ⟨_, rfl⟩
      have eO2 : O1.length + 1 = O2.length := by rw [hO2, List.length_append]; rfl
      rw [eO2]
      rw [← hO2] at HMf
      have lO2 : O2.length ≤ 122 := by omega
      have HO2 := hide hO2
      clear hO2 eO2
      have hra2 := tok_room (n := O2.length) (by omega)
      have hoa2 := (unhide HMf).ok
      unfold Item.ok tokItem at hoa2
      go_wp2_with (at_builtin; refine wpList_append_mine _ rfl _ _ 30 rfl 34 i0 _ 6 80 Tryz.underlying30 hi hz0 hz1 hz2 rfl (by decide) (some a1) O2.length capa1 (toldCells O2 tb1) rfl (by exact World.ownsRow.alloc hoa2 _) ⟨w6.heap.size, 0, none⟩ 1 1 (tokCells ({ kind := 0, text := RT } : Tok) nilSl) rfl rfl (by exact tokCells_cells' ({ kind := 0, text := RT } : Tok) nilSl w6 34 _ rfl) (tokCells_one _ _) (by decide) hra2.1 hra2.2 ?next)
      case next =>
        intro a2 capa2 w7 g1 g2 g3
        have HMg := hide ((unhide HMf).one ({ kind := 0, text := RT } : Tok) nilSl ((More.refl w6).alloc _) g1 g2 (by simpa using g3) (AttrAt.nil _ _ _) (by simp))
        clear g1 g2 g3 hoa2 hra2
        generalize tb1 ++ [nilSl] = tb2 at *
        obtain ⟨O3, hO3⟩ : ∃ ON : List Tok, ON = O2 ++ [({ kind := 0, text := RT } : Tok)] := ⟨_, rfl⟩
        have eO3 : O2.length + 1 = O3.length := by rw [hO3, List.length_append]; rfl
        rw [eO3]
        rw [← hO3] at HMg
        have lO3 : O3.length ≤ 123 := by omega
        have HO3 := hide hO3
        clear hO3 eO3
        have HOn := hide (show pgO l (k + 1) = O3 ++ [({ kind := 2, name := WD } : Tok)] by rw [unhide HOn, unhide HO3, unhide HO2])
        have hrad := tok_room (n := O3.length) (by omega)
        have hoad := (unhide HMg).ok
        unfold Item.ok tokItem at hoad
        go_wp2_with (at_builtin; refine wpList_append_mine _ rfl _ _ 30 rfl 34 i0 _ 6 80 Tryz.underlying30 hi hz0 hz1 hz2 rfl (by decide) (some a2) O3.length capa2 (toldCells O3 tb2) rfl (by exact World.ownsRow.alloc hoad _) ⟨w7.heap.size, 0, none⟩ 1 1 (tokCells ({ kind := 2, name := WD } : Tok) nilSl) rfl rfl (by exact tokCells_cells' ({ kind := 2, name := WD } : Tok) nilSl w7 34 _ rfl) (tokCells_one _ _) (by decide) hrad.1 hrad.2 ?next)
        case next =>
          intro ad capad w8 g1 g2 g3
          have HMh := hide ((unhide HMg).one ({ kind := 2, name := WD } : Tok) nilSl ((More.refl w7).alloc _) g1 g2 (by simpa using g3) (AttrAt.nil _ _ _) (by simp))
          clear g1 g2 g3 hoad hrad
          go_wp2
          try simp only [Exit.inBlock, Exit.then]
          refine unhide HPost _ _ _ _ _ _ _ _ _ _ _ _ _ _ _ _ _ _ _ _ _ _ _ _ _ _ _ _ _ _ _ _ _ _ _ _ _ _ _ _ _ _ _ _ _ _ _ _ _ _ _ _ _ _ _ _ _ _ _ _ _ _ _ _ _ _ _ _ _ _ _ _ _ _ _ _ _ _ _ _ _ _ _ _ _ _ _ _ _ _ _ _ _ _ _ _ _ _ _ _ _ _ _ _ _ _ _ _ _ _ _ _ _ _ _ _ _ _ _ _ _ _ _ _ _ _ _ _ _ _ _ _ _ _ _ _ _ _ _ _ _ _ _ _ _ _ _ _ _ _ _ _ _ _ _ _ _ _ _ _ ⟨⟨some ad, capad⟩, tb2 ++ [nilSl], ?_, ?_, ?_, ?_⟩
          · rw [unhide HSn]
          · rw [unhide HOn, List.length_append]; rfl
          · rw [unhide HCn]
          · rw [unhide HOn]; exact unhide HMh
end Go.Proofs.YtdfmapcnfficlaaGreatDoor

set_option linter.unusedSimpArgs false
set_option linter.unusedVariables false
namespace Go.Proofs.YtdfmapcnfficlaaGreatDoor
open Go Go.RowKit

set_option maxHeartbeats 8000000 in
set_option maxRecDepth 1000000 in
theorem page_switch {l : List PieceD} {w wc : World} {k : Nat} {p : PieceD} {q1 : Sl} {ta1 : List Sl} {O1 : List Tok} {S C1 : Str} {b : Nat} {ao : Option Addr} {capA : Nat} {r : Int} {Post : Exit → Act → World → Prop} {u0 u1 u2 u3 u7 u11 u12 u13 u14 u15 u16 u17 u18 u19 u20 u21 u22 u23 u24 u25 u26 u27 u28 u29 u30 u31 u32 u33 u34 u35 u36 u37 u38 u39 u40 u41 u42 u43 u44 u45 u46 u47 u48 u49 u50 u51 u52 u53 u54 u55 u56 u58 u59 u60 u61 u62 u63 u64 u65 u66 u67 u68 u69 u70 u71 u72 u73 u74 u75 u76 u77 u78 u79 u80 u81 u82 u83 u84 u85 u86 u87 u88 u89 u90 u91 u92 u93 u94 u95 u96 u97 u98 u99 u100 u101 u102 u103 u104 u105 u106 u107 u108 u109 u110 u111 u112 u113 u114 u115 u116 u117 u118 u119 u120 u121 u122 u123 u124 u125 u126 u127 u128 u129 u130 u131 u132 u133 u134 u135 u136 u137 u138 u139 u140 u141 u142 u143 u144 u145 u146 u147 u148 u149 u150 u151 u152 u153 u154 u155 u156 u157 u158 u159 u160 u161 u162 u163 u164 u165 u166 u167 u168 u169 u170 u171 u172 u173 u174 u175 u176 u177 u178 u179 u180 u181 u182 u183 u184 u185 u186 u187 u188 u189 u190 u191 u192 u193 u194 u195 u196 u197 u198 u199 u200 u201 u202 u203 u204 u205 u206 u207 u208 u209 u210 u211 u212 u213 u214 u215 u216 u217 : Value} (hMc : MineT w wc q1 O1 ta1) (n1 : wc.cell? ⟨b, 1, none⟩ = some (.int .i64 p.n)) (n2 : wc.cell? ⟨b, 2, none⟩ = some (.slice ao p.attrs.length capA)) (hbc : b < wc.heap.size) (hI : IntsV w (.slice ao p.attrs.length capA) p.attrs) (hal : p.attrs.length ≤ 9223372036854775807) (hnr : -9223372036854775808 ≤ p.n ∧ p.n ≤ 9223372036854775807) (hR : pickN p.kind 7 = r)
    (hO1l : O1.length ≤ 121) (hS : S.length ≤ 20000) (hC1 : C1.length ≤ 300) (hS1 : encs (pgS l (k + 1)) = S ++ encs (pieceP p)) (kC : r = 0 → encs (pgC l (k + 1)) = C1 ++ encs (valueP p.n)) (kO : r = 0 → pgO l (k + 1) = O1) (kCn : r ≠ 0 → encs (pgC l (k + 1)) = [] ∧ C1 = []) (kOn : r ≠ 0 → pgO l (k + 1) = O1 ++ pieceT p)
    (hPost : ∀ (v4 v5 v6 v11 v12 v13 v14 v15 v16 v17 v18 v58 v59 v60 v61 v62 v63 v64 v65 v66 v67 v68 v69 v70 v71 v72 v73 v74 v75 v76 v77 v78 v79 v80 v81 v82 v83 v84 v85 v86 v87 v88 v89 v90 v91 v92 v93 v94 v95 v96 v97 v98 v99 v100 v101 v102 v103 v104 v105 v106 v107 v108 v109 v110 v111 v112 v113 v114 v115 v116 v117 v118 v119 v120 v121 v122 v123 v124 v125 v126 v127 v128 v129 v130 v131 v132 v133 v134 v135 v136 v137 v138 v139 v140 v141 v142 v143 v144 v145 v146 v147 v148 v149 v150 v151 v152 v153 v154 v155 v156 v157 v158 v159 v160 v161 v162 v163 v164 v165 v166 v167 v168 v169 v170 v171 v172 v173 v174 v175 v176 v177 v178 v179 v180 v181 v182 v183 v184 v185 v186 v187 v188 v189 v190 v191 v192 v193 v194 v195 v196 v197 v198 v199 v200 v201 v202 v203 v204 v205 : Value) (wx : World), RelK l k w v4 v5 v6 wx → Post .normal ⟨#[u0, u1, u2, u3, v4, v5, v6, u7, .pointer (some ⟨b, 0, none⟩), .int .i64 r, .string ⟨(encs (tagP p.n)).toArray⟩, v11, v12, v13, v14, v15, v16, v17, v18, u19, u20, u21, u22, u23, u24, u25, u26, u27, u28, u29, u30, u31, u32, u33, u34, u35, u36, u37, u38, u39, u40, u41, u42, u43, u44, u45, u46, u47, u48, u49, u50, u51, u52, u53, u54, u55, u56, .int .i64 r, v58, v59, v60, v61, v62, v63, v64, v65, v66, v67, v68, v69, v70, v71, v72, v73, v74, v75, v76, v77, v78, v79, v80, v81, v82, v83, v84, v85, v86, v87, v88, v89, v90, v91, v92, v93, v94, v95, v96, v97, v98, v99, v100, v101, v102, v103, v104, v105, v106, v107, v108, v109, v110, v111, v112, v113, v114, v115, v116, v117, v118, v119, v120, v121, v122, v123, v124, v125, v126, v127, v128, v129, v130, v131, v132, v133, v134, v135, v136, v137, v138, v139, v140, v141, v142, v143, v144, v145, v146, v147, v148, v149, v150, v151, v152, v153, v154, v155, v156, v157, v158, v159, v160, v161, v162, v163, v164, v165, v166, v167, v168, v169, v170, v171, v172, v173, v174, v175, v176, v177, v178, v179, v180, v181, v182, v183, v184, v185, v186, v187, v188, v189, v190, v191, v192, v193, v194, v195, v196, v197, v198, v199, v200, v201, v202, v203, v204, v205, u206, u207, u208, u209, u210, u211, u212, u213, u214, u215, u216, u217], []⟩ wx) :
    Code.wp Tryz.prog (cB (cB (cB (cB (cB (cB (cA (cA (cB (cA (cA (cB (cA (cB (cB (cB (cB (Tryz.f23.body.getD .skip)))))))))))))))))) Post ⟨#[u0, u1, u2, u3, .string ⟨S.toArray⟩, .slice q1.a O1.length q1.cap, .string ⟨C1.toArray⟩, u7, .pointer (some ⟨b, 0, none⟩), .int .i64 r, .string ⟨(encs (tagP p.n)).toArray⟩, u11, u12, u13, u14, u15, u16, u17, u18, u19, u20, u21, u22, u23, u24, u25, u26, u27, u28, u29, u30, u31, u32, u33, u34, u35, u36, u37, u38, u39, u40, u41, u42, u43, u44, u45, u46, u47, u48, u49, u50, u51, u52, u53, u54, u55, u56, .int .i64 r, u58, u59, u60, u61, u62, u63, u64, u65, u66, u67, u68, u69, u70, u71, u72, u73, u74, u75, u76, u77, u78, u79, u80, u81, u82, u83, u84, u85, u86, u87, u88, u89, u90, u91, u92, u93, u94, u95, u96, u97, u98, u99, u100, u101, u102, u103, u104, u105, u106, u107, u108, u109, u110, u111, u112, u113, u114, u115, u116, u117, u118, u119, u120, u121, u122, u123, u124, u125, u126, u127, u128, u129, u130, u131, u132, u133, u134, u135, u136, u137, u138, u139, u140, u141, u142, u143, u144, u145, u146, u147, u148, u149, u150, u151, u152, u153, u154, u155, u156, u157, u158, u159, u160, u161, u162, u163, u164, u165, u166, u167, u168, u169, u170, u171, u172, u173, u174, u175, u176, u177, u178, u179, u180, u181, u182, u183, u184, u185, u186, u187, u188, u189, u190, u191, u192, u193, u194, u195, u196, u197, u198, u199, u200, u201, u202, u203, u204, u205, u206, u207, u208, u209, u210, u211, u212, u213, u214, u215, u216, u217], []⟩ wc := by
  have hr := pickN_range p.kind 7 (by decide)
  rw [hR] at hr
  by_cases h0 : r = 0
  · subst h0
    exact page_kind0 hMc n1 n2 hbc hI hal hnr hR hO1l hS hC1 hS1 (fun _ => kC rfl) (fun _ => kO rfl) (fun e => absurd rfl e) (fun e => absurd rfl e) hPost
  by_cases h1 : r = 1
  · subst h1
    exact page_kind1 hMc n1 n2 hbc hI hal hnr hR hO1l hS hC1 hS1 (fun e => absurd e (by decide)) (fun e => absurd e (by decide)) (fun _ => kCn (by decide)) (fun _ => kOn (by decide)) hPost
  by_cases h2 : r = 2
  · subst h2
    exact page_kind2 hMc n1 n2 hbc hI hal hnr hR hO1l hS hC1 hS1 (fun e => absurd e (by decide)) (fun e => absurd e (by decide)) (fun _ => kCn (by decide)) (fun _ => kOn (by decide)) hPost
  by_cases h3 : r = 3
  · subst h3
    exact page_kind3 hMc n1 n2 hbc hI hal hnr hR hO1l hS hC1 hS1 (fun e => absurd e (by decide)) (fun e => absurd e (by decide)) (fun _ => kCn (by decide)) (fun _ => kOn (by decide)) hPost
  by_cases h4 : r = 4
  · subst h4
    exact page_kind4 hMc n1 n2 hbc hI hal hnr hR hO1l hS hC1 hS1 (fun e => absurd e (by decide)) (fun e => absurd e (by decide)) (fun _ => kCn (by decide)) (fun _ => kOn (by decide)) hPost
  by_cases h5 : r = 5
  · subst h5
    exact page_kind5 hMc n1 n2 hbc hI hal hnr hR hO1l hS hC1 hS1 (fun e => absurd e (by decide)) (fun e => absurd e (by decide)) (fun _ => kCn (by decide)) (fun _ => kOn (by decide)) hPost
  have h6 : r = 6 := by omega
  subst h6
  exact page_kind6 hMc n1 n2 hbc hI hal hnr hR hO1l hS hC1 hS1 (fun e => absurd e (by decide)) (fun e => absurd e (by decide)) (fun _ => kCn (by decide)) (fun _ => kOn (by decide)) hPost

set_option maxHeartbeats 8000000 in
set_option maxRecDepth 1000000 in
theorem page_tail {l : List PieceD} {w wc : World} {k : Nat} {p : PieceD} {q1 : Sl} {ta1 : List Sl} {O1 : List Tok} {S C1 : Str} {b : Nat} {ao : Option Addr} {capA : Nat} {r : Int} {Post : Exit → Act → World → Prop} {K : Act → World → Prop} {u0 u1 u2 u3 u7 u10 u11 u12 u13 u14 u15 u16 u17 u18 u19 u20 u21 u22 u23 u24 u25 u26 u27 u28 u29 u30 u31 u32 u33 u34 u35 u36 u37 u38 u39 u40 u41 u42 u43 u44 u45 u46 u47 u48 u49 u50 u51 u52 u53 u54 u55 u56 u57 u58 u59 u60 u61 u62 u63 u64 u65 u66 u67 u68 u69 u70 u71 u72 u73 u74 u75 u76 u77 u78 u79 u80 u81 u82 u83 u84 u85 u86 u87 u88 u89 u90 u91 u92 u93 u94 u95 u96 u97 u98 u99 u100 u101 u102 u103 u104 u105 u106 u107 u108 u109 u110 u111 u112 u113 u114 u115 u116 u117 u118 u119 u120 u121 u122 u123 u124 u125 u126 u127 u128 u129 u130 u131 u132 u133 u134 u135 u136 u137 u138 u139 u140 u141 u142 u143 u144 u145 u146 u147 u148 u149 u150 u151 u152 u153 u154 u155 u156 u157 u158 u159 u160 u161 u162 u163 u164 u165 u166 u167 u168 u169 u170 u171 u172 u173 u174 u175 u176 u177 u178 u179 u180 u181 u182 u183 u184 u185 u186 u187 u188 u189 u190 u191 u192 u193 u194 u195 u196 u197 u198 u199 u200 u201 u202 u203 u204 u205 u206 u207 u208 u209 u210 u211 u212 u213 u214 u215 u216 u217 : Value} (hK : ∀ a w', Code.wp Tryz.prog (cB (cB (cB (cB (cA (cA (cB (cA (cA (cB (cA (cB (cB (cB (cB (Tryz.f23.body.getD .skip)))))))))))))))) Post a w' → K a w') (hMc : MineT w wc q1 O1 ta1) (n1 : wc.cell? ⟨b, 1, none⟩ = some (.int .i64 p.n)) (n2 : wc.cell? ⟨b, 2, none⟩ = some (.slice ao p.attrs.length capA)) (hbc : b < wc.heap.size) (hI : IntsV w (.slice ao p.attrs.length capA) p.attrs) (hal : p.attrs.length ≤ 9223372036854775807) (hnr : -9223372036854775808 ≤ p.n ∧ p.n ≤ 9223372036854775807) (hR : pickN p.kind 7 = r)
    (hO1l : O1.length ≤ 121) (hS : S.length ≤ 20000) (hC1 : C1.length ≤ 300) (hS1 : encs (pgS l (k + 1)) = S ++ encs (pieceP p)) (kC : r = 0 → encs (pgC l (k + 1)) = C1 ++ encs (valueP p.n)) (kO : r = 0 → pgO l (k + 1) = O1) (kCn : r ≠ 0 → encs (pgC l (k + 1)) = [] ∧ C1 = []) (kOn : r ≠ 0 → pgO l (k + 1) = O1 ++ pieceT p)
    (hPost : ∀ (v4 v5 v6 v10 v11 v12 v13 v14 v15 v16 v17 v18 v19 v20 v21 v22 v23 v24 v25 v26 v27 v28 v29 v30 v31 v32 v33 v34 v35 v36 v37 v38 v39 v40 v41 v42 v43 v44 v45 v46 v47 v48 v49 v50 v51 v52 v53 v54 v55 v56 v57 v58 v59 v60 v61 v62 v63 v64 v65 v66 v67 v68 v69 v70 v71 v72 v73 v74 v75 v76 v77 v78 v79 v80 v81 v82 v83 v84 v85 v86 v87 v88 v89 v90 v91 v92 v93 v94 v95 v96 v97 v98 v99 v100 v101 v102 v103 v104 v105 v106 v107 v108 v109 v110 v111 v112 v113 v114 v115 v116 v117 v118 v119 v120 v121 v122 v123 v124 v125 v126 v127 v128 v129 v130 v131 v132 v133 v134 v135 v136 v137 v138 v139 v140 v141 v142 v143 v144 v145 v146 v147 v148 v149 v150 v151 v152 v153 v154 v155 v156 v157 v158 v159 v160 v161 v162 v163 v164 v165 v166 v167 v168 v169 v170 v171 v172 v173 v174 v175 v176 v177 v178 v179 v180 v181 v182 v183 v184 v185 v186 v187 v188 v189 v190 v191 v192 v193 v194 v195 v196 v197 v198 v199 v200 v201 v202 v203 v204 v205 : Value) (wx : World), RelK l k w v4 v5 v6 wx → Post .normal ⟨#[u0, u1, u2, u3, v4, v5, v6, u7, .pointer (some ⟨b, 0, none⟩), .int .i64 r, v10, v11, v12, v13, v14, v15, v16, v17, v18, v19, v20, v21, v22, v23, v24, v25, v26, v27, v28, v29, v30, v31, v32, v33, v34, v35, v36, v37, v38, v39, v40, v41, v42, v43, v44, v45, v46, v47, v48, v49, v50, v51, v52, v53, v54, v55, v56, v57, v58, v59, v60, v61, v62, v63, v64, v65, v66, v67, v68, v69, v70, v71, v72, v73, v74, v75, v76, v77, v78, v79, v80, v81, v82, v83, v84, v85, v86, v87, v88, v89, v90, v91, v92, v93, v94, v95, v96, v97, v98, v99, v100, v101, v102, v103, v104, v105, v106, v107, v108, v109, v110, v111, v112, v113, v114, v115, v116, v117, v118, v119, v120, v121, v122, v123, v124, v125, v126, v127, v128, v129, v130, v131, v132, v133, v134, v135, v136, v137, v138, v139, v140, v141, v142, v143, v144, v145, v146, v147, v148, v149, v150, v151, v152, v153, v154, v155, v156, v157, v158, v159, v160, v161, v162, v163, v164, v165, v166, v167, v168, v169, v170, v171, v172, v173, v174, v175, v176, v177, v178, v179, v180, v181, v182, v183, v184, v185, v186, v187, v188, v189, v190, v191, v192, v193, v194, v195, v196, v197, v198, v199, v200, v201, v202, v203, v204, v205, u206, u207, u208, u209, u210, u211, u212, u213, u214, u215, u216, u217], []⟩ wx) :
    Code.wp Tryz.prog (cA (cB (cB (cB (cA (cA (cB (cA (cA (cB (cA (cB (cB (cB (cB (Tryz.f23.body.getD .skip)))))))))))))))) (Exit.then K Post) ⟨#[u0, u1, u2, u3, .string ⟨S.toArray⟩, .slice q1.a O1.length q1.cap, .string ⟨C1.toArray⟩, u7, .pointer (some ⟨b, 0, none⟩), .int .i64 r, u10, u11, u12, u13, u14, u15, u16, u17, u18, u19, u20, u21, u22, u23, u24, u25, u26, u27, u28, u29, u30, u31, u32, u33, u34, u35, u36, u37, u38, u39, u40, u41, u42, u43, u44, u45, u46, u47, u48, u49, u50, u51, u52, u53, u54, u55, u56, u57, u58, u59, u60, u61, u62, u63, u64, u65, u66, u67, u68, u69, u70, u71, u72, u73, u74, u75, u76, u77, u78, u79, u80, u81, u82, u83, u84, u85, u86, u87, u88, u89, u90, u91, u92, u93, u94, u95, u96, u97, u98, u99, u100, u101, u102, u103, u104, u105, u106, u107, u108, u109, u110, u111, u112, u113, u114, u115, u116, u117, u118, u119, u120, u121, u122, u123, u124, u125, u126, u127, u128, u129, u130, u131, u132, u133, u134, u135, u136, u137, u138, u139, u140, u141, u142, u143, u144, u145, u146, u147, u148, u149, u150, u151, u152, u153, u154, u155, u156, u157, u158, u159, u160, u161, u162, u163, u164, u165, u166, u167, u168, u169, u170, u171, u172, u173, u174, u175, u176, u177, u178, u179, u180, u181, u182, u183, u184, u185, u186, u187, u188, u189, u190, u191, u192, u193, u194, u195, u196, u197, u198, u199, u200, u201, u202, u203, u204, u205, u206, u207, u208, u209, u210, u211, u212, u213, u214, u215, u216, u217], []⟩ wc := by
  have HK := hide hK
  clear hK
  have HMc := hide hMc
  have HNm := hide (fun W => name_does p.n W hnr.1 hnr.2)
  have HLow := hide (fun W => lowK_does (encs (nameP p.n)) W (by have := names8_len _ (name_mem p.n); omega))
  have HNC := hide (nameCase p.n)
  have HPost := hide hPost
  have HF := hide (And.intro hI (And.intro hal (And.intro hnr (And.intro hR (And.intro hO1l (And.intro hS (And.intro hC1 (And.intro hS1 (And.intro kC (And.intro kO (And.intro kCn kOn)))))))))))
  clear hMc hPost hI hal hnr hR hO1l hS hC1 hS1 kC kO kCn kOn
  generalize lowL (encs (nameP p.n)) = LN at *
  generalize encs (nameP p.n) = N0 at *
  conv => arg 2; whnf
  go_wp2_with fail
  refine (unhide HNm _).mono ?_
  rintro e w2 ⟨rfl, m2⟩
  go_wp2
  try simp only [Exit.then]
  refine unhide HK _ _ ?_
  conv => arg 2; whnf
  rcases unhide HNC with ⟨e1, e2⟩ | ⟨e1, e2, e3⟩ | ⟨e1, e2, e3⟩
  · subst e1
    have HE := hide e2
    clear e2 HNC
    go_wp2_with fail
    refine (unhide HLow _).mono ?_
    rintro e w3 ⟨rfl, m3⟩
    go_upto_block 2 with fail
    have M3 := m2.trans' m3
    obtain ⟨hI, hal, hnr, hR, hO1l, hS, hC1, hS1, kC, kO, kCn, kOn⟩ := unhide HF
    have k1 := (World.cell?_of_block (w := wc) (a := ⟨b, 1, none⟩) (M3.block b hbc)).trans n1
    have k2 := (World.cell?_of_block (w := wc) (a := ⟨b, 2, none⟩) (M3.block b hbc)).trans n2
    have kb : b < w3.heap.size := by have := M3.size; omega
    rw [← unhide HE]
    exact page_switch ((unhide HMc).later M3) k1 k2 kb hI hal hnr hR hO1l hS hC1 hS1 kC kO kCn kOn (fun v4 v5 v6 v11 v12 v13 v14 v15 v16 v17 v18 v58 v59 v60 v61 v62 v63 v64 v65 v66 v67 v68 v69 v70 v71 v72 v73 v74 v75 v76 v77 v78 v79 v80 v81 v82 v83 v84 v85 v86 v87 v88 v89 v90 v91 v92 v93 v94 v95 v96 v97 v98 v99 v100 v101 v102 v103 v104 v105 v106 v107 v108 v109 v110 v111 v112 v113 v114 v115 v116 v117 v118 v119 v120 v121 v122 v123 v124 v125 v126 v127 v128 v129 v130 v131 v132 v133 v134 v135 v136 v137 v138 v139 v140 v141 v142 v143 v144 v145 v146 v147 v148 v149 v150 v151 v152 v153 v154 v155 v156 v157 v158 v159 v160 v161 v162 v163 v164 v165 v166 v167 v168 v169 v170 v171 v172 v173 v174 v175 v176 v177 v178 v179 v180 v181 v182 v183 v184 v185 v186 v187 v188 v189 v190 v191 v192 v193 v194 v195 v196 v197 v198 v199 v200 v201 v202 v203 v204 v205 wx hrel => unhide HPost v4 v5 v6 _ v11 v12 v13 v14 v15 v16 v17 v18 _ _ _ _ _ _ _ _ _ _ _ _ _ _ _ _ _ _ _ _ _ _ _ _ _ _ _ _ _ _ _ _ _ _ _ _ _ _ _ v58 v59 v60 v61 v62 v63 v64 v65 v66 v67 v68 v69 v70 v71 v72 v73 v74 v75 v76 v77 v78 v79 v80 v81 v82 v83 v84 v85 v86 v87 v88 v89 v90 v91 v92 v93 v94 v95 v96 v97 v98 v99 v100 v101 v102 v103 v104 v105 v106 v107 v108 v109 v110 v111 v112 v113 v114 v115 v116 v117 v118 v119 v120 v121 v122 v123 v124 v125 v126 v127 v128 v129 v130 v131 v132 v133 v134 v135 v136 v137 v138 v139 v140 v141 v142 v143 v144 v145 v146 v147 v148 v149 v150 v151 v152 v153 v154 v155 v156 v157 v158 v159 v160 v161 v162 v163 v164 v165 v166 v167 v168 v169 v170 v171 v172 v173 v174 v175 v176 v177 v178 v179 v180 v181 v182 v183 v184 v185 v186 v187 v188 v189 v190 v191 v192 v193 v194 v195 v196 v197 v198 v199 v200 v201 v202 v203 v204 v205 wx hrel)
  · subst e2
    have HE := hide e3
    clear e3 HNC
    go_wp2_with fail
    refine (unhide HLow _).mono ?_
    rintro e w3 ⟨rfl, m3⟩
    go_upto_block 2 with fail
    have M3 := m2.trans' m3
    obtain ⟨hI, hal, hnr, hR, hO1l, hS, hC1, hS1, kC, kO, kCn, kOn⟩ := unhide HF
    have k1 := (World.cell?_of_block (w := wc) (a := ⟨b, 1, none⟩) (M3.block b hbc)).trans n1
    have k2 := (World.cell?_of_block (w := wc) (a := ⟨b, 2, none⟩) (M3.block b hbc)).trans n2
    have kb : b < w3.heap.size := by have := M3.size; omega
    rw [← unhide HE]
    exact page_switch ((unhide HMc).later M3) k1 k2 kb hI hal hnr hR hO1l hS hC1 hS1 kC kO kCn kOn (fun v4 v5 v6 v11 v12 v13 v14 v15 v16 v17 v18 v58 v59 v60 v61 v62 v63 v64 v65 v66 v67 v68 v69 v70 v71 v72 v73 v74 v75 v76 v77 v78 v79 v80 v81 v82 v83 v84 v85 v86 v87 v88 v89 v90 v91 v92 v93 v94 v95 v96 v97 v98 v99 v100 v101 v102 v103 v104 v105 v106 v107 v108 v109 v110 v111 v112 v113 v114 v115 v116 v117 v118 v119 v120 v121 v122 v123 v124 v125 v126 v127 v128 v129 v130 v131 v132 v133 v134 v135 v136 v137 v138 v139 v140 v141 v142 v143 v144 v145 v146 v147 v148 v149 v150 v151 v152 v153 v154 v155 v156 v157 v158 v159 v160 v161 v162 v163 v164 v165 v166 v167 v168 v169 v170 v171 v172 v173 v174 v175 v176 v177 v178 v179 v180 v181 v182 v183 v184 v185 v186 v187 v188 v189 v190 v191 v192 v193 v194 v195 v196 v197 v198 v199 v200 v201 v202 v203 v204 v205 wx hrel => unhide HPost v4 v5 v6 _ v11 v12 v13 v14 v15 v16 v17 v18 _ _ _ _ _ _ _ _ _ _ _ _ _ _ _ _ _ _ _ _ _ _ _ _ _ _ _ _ _ _ _ _ _ _ _ _ _ _ _ v58 v59 v60 v61 v62 v63 v64 v65 v66 v67 v68 v69 v70 v71 v72 v73 v74 v75 v76 v77 v78 v79 v80 v81 v82 v83 v84 v85 v86 v87 v88 v89 v90 v91 v92 v93 v94 v95 v96 v97 v98 v99 v100 v101 v102 v103 v104 v105 v106 v107 v108 v109 v110 v111 v112 v113 v114 v115 v116 v117 v118 v119 v120 v121 v122 v123 v124 v125 v126 v127 v128 v129 v130 v131 v132 v133 v134 v135 v136 v137 v138 v139 v140 v141 v142 v143 v144 v145 v146 v147 v148 v149 v150 v151 v152 v153 v154 v155 v156 v157 v158 v159 v160 v161 v162 v163 v164 v165 v166 v167 v168 v169 v170 v171 v172 v173 v174 v175 v176 v177 v178 v179 v180 v181 v182 v183 v184 v185 v186 v187 v188 v189 v190 v191 v192 v193 v194 v195 v196 v197 v198 v199 v200 v201 v202 v203 v204 v205 wx hrel)
  · have HE := hide e3
    clear e3 HNC
    go_wp2_with fail
    refine (unhide HLow _).mono ?_
    rintro e w3 ⟨rfl, m3⟩
    go_upto_block 2 with fail
    have M3 := m2.trans' m3
    obtain ⟨hI, hal, hnr, hR, hO1l, hS, hC1, hS1, kC, kO, kCn, kOn⟩ := unhide HF
    have k1 := (World.cell?_of_block (w := wc) (a := ⟨b, 1, none⟩) (M3.block b hbc)).trans n1
    have k2 := (World.cell?_of_block (w := wc) (a := ⟨b, 2, none⟩) (M3.block b hbc)).trans n2
    have kb : b < w3.heap.size := by have := M3.size; omega
    rw [← unhide HE]
    exact page_switch ((unhide HMc).later M3) k1 k2 kb hI hal hnr hR hO1l hS hC1 hS1 kC kO kCn kOn (fun v4 v5 v6 v11 v12 v13 v14 v15 v16 v17 v18 v58 v59 v60 v61 v62 v63 v64 v65 v66 v67 v68 v69 v70 v71 v72 v73 v74 v75 v76 v77 v78 v79 v80 v81 v82 v83 v84 v85 v86 v87 v88 v89 v90 v91 v92 v93 v94 v95 v96 v97 v98 v99 v100 v101 v102 v103 v104 v105 v106 v107 v108 v109 v110 v111 v112 v113 v114 v115 v116 v117 v118 v119 v120 v121 v122 v123 v124 v125 v126 v127 v128 v129 v130 v131 v132 v133 v134 v135 v136 v137 v138 v139 v140 v141 v142 v143 v144 v145 v146 v147 v148 v149 v150 v151 v152 v153 v154 v155 v156 v157 v158 v159 v160 v161 v162 v163 v164 v165 v166 v167 v168 v169 v170 v171 v172 v173 v174 v175 v176 v177 v178 v179 v180 v181 v182 v183 v184 v185 v186 v187 v188 v189 v190 v191 v192 v193 v194 v195 v196 v197 v198 v199 v200 v201 v202 v203 v204 v205 wx hrel => unhide HPost v4 v5 v6 _ v11 v12 v13 v14 v15 v16 v17 v18 _ _ _ _ _ _ _ _ _ _ _ _ _ _ _ _ _ _ _ _ _ _ _ _ _ _ _ _ _ _ _ _ _ _ _ _ _ _ _ v58 v59 v60 v61 v62 v63 v64 v65 v66 v67 v68 v69 v70 v71 v72 v73 v74 v75 v76 v77 v78 v79 v80 v81 v82 v83 v84 v85 v86 v87 v88 v89 v90 v91 v92 v93 v94 v95 v96 v97 v98 v99 v100 v101 v102 v103 v104 v105 v106 v107 v108 v109 v110 v111 v112 v113 v114 v115 v116 v117 v118 v119 v120 v121 v122 v123 v124 v125 v126 v127 v128 v129 v130 v131 v132 v133 v134 v135 v136 v137 v138 v139 v140 v141 v142 v143 v144 v145 v146 v147 v148 v149 v150 v151 v152 v153 v154 v155 v156 v157 v158 v159 v160 v161 v162 v163 v164 v165 v166 v167 v168 v169 v170 v171 v172 v173 v174 v175 v176 v177 v178 v179 v180 v181 v182 v183 v184 v185 v186 v187 v188 v189 v190 v191 v192 v193 v194 v195 v196 v197 v198 v199 v200 v201 v202 v203 v204 v205 wx hrel)
end Go.Proofs.YtdfmapcnfficlaaGreatDoor

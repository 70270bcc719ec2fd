/-
  The law's 'page'.
  Pages: a page of pieces is taken apart into these; the walk.
-/
import Derived.Test.YtdfmapcnfficlaaGreatDoorPageTL
import Derived.Deep.DeepCutAuto
import Derived.Deep.Light
import Derived.Test.YtdfmapcnfficlaaGreatDoorB45
set_option linter.unusedSimpArgs false
set_option linter.unusedVariables false
namespace Go.Proofs.YtdfmapcnfficlaaGreatDoor
open Go Go.RowKit

set_option maxHeartbeats 16000000 in
set_option maxRecDepth 1000000 in
theorem page_does (l : List PieceD) (v : Value) (w : World) (h : PcsV w v l) (hl : l.length ≤ 9223372036854775807) :
    Calls Tryz.prog 23 #[v] w fun e w' => ∃ v', e = .returned (.tuple #[.string ⟨(encs (pgS l (min l.length 30))).toArray⟩, v']) ∧ More w w' ∧ ToksV w' v' (pgO l (min l.length 30) ++ charsOf (encs (pgC l (min l.length 30))) ++ [{ kind := 6 }]) := by
  obtain ⟨a, cap, rfl, h1, h2, h3⟩ := h
  obtain ⟨i0, hi, hz0, hz1, hz2⟩ := info_parts Tryz.infoToken
  have H1 := hide h1
  have H3 := hide h3
  clear h1 h3
  go_enter Tryz.func23, Tryz.ntmps23
  go_wp2
  go_loopw [4, 5, 6, 7] (fun sv ov cv i wr => ∃ (k : Nat) (q : Sl) (ta : List Sl), k ≤ l.length ∧ k ≤ 30 ∧ i = .int .i64 (k : Int) ∧ sv = .string ⟨(encs (pgS l k)).toArray⟩ ∧ ov = .slice q.a (pgO l k).length q.cap ∧ cv = .string ⟨(encs (pgC l k)).toArray⟩ ∧ Hid (MineT w wr q (pgO l k) ta)) (fun _ _ _ i _ => 30 - (intOf i).toNat)
  case atStart => exact ⟨0, nilSl, [], Nat.zero_le _, by decide, rfl, rfl, rfl, rfl, hide (MineT.nil (More.refl w))⟩
  case round =>
    obtain ⟨k, q, ta, hk, hk30, rfl, rfl, rfl, rfl, HM⟩ := hrel
    by_cases hend : k < l.length ∧ k < 30
    · obtain ⟨hlt, hlt30⟩ := hend
      obtain ⟨p, hp⟩ : ∃ p, l[k]? = some p := ⟨l[k], by simp [hlt]⟩
      have hpD : l.getD k noPiece = p := by rw [List.getD_eq_getElem?_getD, hp]; rfl
      obtain ⟨g, o, rfl, hg, hcell⟩ := unhide H1 (fun e => by subst e; simp at hlt)
      obtain ⟨va, c0, c1, c2, hI⟩ := hcell k p hp
      have hI2 := hI
      obtain ⟨ao, capA, rfl, _⟩ := hI2
      have hm := (unhide HM).more
      have hblk := hm.block g hg
      have d0 := (World.cell?_of_block (w := w) (a := ⟨g, o + k * 3, none⟩) hblk).trans c0
      have d1 := (World.cell?_of_block (w := w) (a := ⟨g, o + k * 3 + 1, none⟩) hblk).trans c1
      have d2 := (World.cell?_of_block (w := w) (a := ⟨g, o + k * 3 + 2, none⟩) hblk).trans c2
      have hglt : g < wr.heap.size := by have := hm.size; omega
      obtain ⟨hkr, hnr, hal⟩ := unhide H3 p (List.mem_of_getElem? hp)
      have HP7 := hide (fun W => pick_does p.kind 7 W hkr.1 hkr.2 (by decide) (by decide))
      have HNm := hide (fun W => name_does p.n W hnr.1 hnr.2)
      have HVl := hide (fun W => value_does p.n W hnr.1 hnr.2)
      have HAt := hide (fun W hW => attrsK_does p.attrs (.slice ao p.attrs.length capA) W (hI.more hW) hal)
      have hr7 := pickN_range p.kind 7 (by decide)
      have hsl := pgS_len l k
      have hcl := pgC_len l k
      have hol := pgO_len l k
      have HS1 := hide (show encs (pgS l (k + 1)) = encs (pgS l k) ++ encs (pieceP p) by rw [pgS, encs_app, hpD])
      have HC1 := hide (show pgC l (k + 1) = if pickN p.kind 7 = 0 then pgC l k ++ valueP p.n else [] by rw [pgC, hpD])
      have HOO := hide (show pgO l (k + 1) = if pickN p.kind 7 = 0 then pgO l k else pgO l k ++ charsOf (encs (pgC l k)) ++ pieceT p by rw [pgO, hpD])
      have HCC := hide (show pickN p.kind 7 = 0 → encs (pgC l (k + 1)) = encs (pgC l k) ++ encs (valueP p.n) from fun e => by rw [pgC, hpD, if_pos e, encs_app])
      obtain ⟨hd8a, hd8b⟩ := tdiv_rangeP (n := 8) hnr.1 hnr.2 (by decide)
      obtain ⟨hd5a, hd5b⟩ := tdiv_rangeP (n := 5) hnr.1 hnr.2 (by decide)
      have HI := hide hI
      have HAL := hide hal
      have HNR := hide hnr
      clear hcell c0 c1 c2 hI hblk hp hpD hg hal
      generalize encs (pgS l k) = S at *
      generalize pgO l k = O at *
      generalize encs (pgC l k) = C at *
      have hql := (unhide HM).lt
      have HQL := hide hql
      have hO120 : O.length ≤ 120 := by omega
      have hS : S.length ≤ 20000 := by omega
      have hC : C.length ≤ 300 := by omega
      clear hql hsl hcl hol hm
      go_wp2_with fail
      refine (unhide HP7 _).mono ?_
      rintro e w1 ⟨rfl, rfl⟩
      obtain ⟨wb, hwb⟩ : ∃ wb, wb = wr.alloc (.cells #[.int .i64 p.kind, .int .i64 p.n, .slice ao p.attrs.length capA] 93) := ⟨_, rfl⟩
      have b1 : wb.cell? ⟨wr.heap.size, 1, none⟩ = some (.int .i64 p.n) := by rw [hwb]; simp
      have b2 : wb.cell? ⟨wr.heap.size, 2, none⟩ = some (.slice ao p.attrs.length capA) := by rw [hwb]; simp
      have hbs : wr.heap.size < wb.heap.size := by rw [hwb]; simp
      have HMb := hide ((unhide HM).later (show More wr wb by rw [hwb]; exact (More.refl wr).alloc _))
      rw [← hwb]
      clear hwb HM d0 d1 d2 hglt HP7
      generalize wr.heap.size = b at *
      generalize hrr : pickN p.kind 7 = r at *
      have HR := hide hrr
      clear hrr
      by_cases hr0 : r = 0
      · subst hr0
        have kO := hide (unhide HOO)
        have kC := hide (unhide HCC rfl)
        rw [if_pos rfl] at kO
        clear HOO HCC HC1
        go_upto_region 12 with fail
        refine page_tail (by assumption) (unhide HMb) b1 b2 hbs (unhide HI) (unhide HAL) (unhide HNR) (unhide HR) (by omega) hS hC (unhide HS1) (fun _ => unhide kC) (fun _ => unhide kO) (fun e => absurd rfl e) (fun e => absurd rfl e) ?_
        intro v4 v5 v6 v10 v11 v12 v13 v14 v15 v16 v17 v18 v19 v20 v21 v22 v23 v24 v25 v26 v27 v28 v29 v30 v31 v32 v33 v34 v35 v36 v37 v38 v39 v40 v41 v42 v43 v44 v45 v46 v47 v48 v49 v50 v51 v52 v53 v54 v55 v56 v57 v58 v59 v60 v61 v62 v63 v64 v65 v66 v67 v68 v69 v70 v71 v72 v73 v74 v75 v76 v77 v78 v79 v80 v81 v82 v83 v84 v85 v86 v87 v88 v89 v90 v91 v92 v93 v94 v95 v96 v97 v98 v99 v100 v101 v102 v103 v104 v105 v106 v107 v108 v109 v110 v111 v112 v113 v114 v115 v116 v117 v118 v119 v120 v121 v122 v123 v124 v125 v126 v127 v128 v129 v130 v131 v132 v133 v134 v135 v136 v137 v138 v139 v140 v141 v142 v143 v144 v145 v146 v147 v148 v149 v150 v151 v152 v153 v154 v155 v156 v157 v158 v159 v160 v161 v162 v163 v164 v165 v166 v167 v168 v169 v170 v171 v172 v173 v174 v175 v176 v177 v178 v179 v180 v181 v182 v183 v184 v185 v186 v187 v188 v189 v190 v191 v192 v193 v194 v195 v196 v197 v198 v199 v200 v201 v202 v203 v204 v205 wx hrel
        obtain ⟨q2, ta2, rfl, rfl, rfl, HM2⟩ := hrel
        have HM3 := hide HM2
        clear HM2
        try simp only [Exit.inBlock, Exit.then]
        go_wp2
        go_roundw
        case rel => exact ⟨k + 1, q2, ta2, by omega, by omega, by go_num, rfl, rfl, rfl, HM3⟩
        case measure => simp [intOf]; omega
      · have er0 : (r == 0) = false := by simpa using hr0
        have ern : (r != 0) = true := by simp [bne, er0]
        have kOn := hide (unhide HOO)
        have kC0 := hide (unhide HC1)
        rw [if_neg hr0] at kOn kC0
        have HR0 := hide hr0
        clear HOO HCC HC1 hr0
        by_cases hC0 : C = []
        · have eC : (C == []) = true := by simp [hC0]
          have eC' : (C != []) = false := by simp [hC0]
          have eCi : C.isEmpty = true := by simp [hC0]
          have HC0 := hide hC0
          clear hC0
          go_upto_region 12 with fail
          refine page_tail (by assumption) (unhide HMb) b1 b2 hbs (unhide HI) (unhide HAL) (unhide HNR) (unhide HR) (by omega) hS hC (unhide HS1) (fun e => absurd e (unhide HR0)) (fun e => absurd e (unhide HR0)) (fun _ => ⟨by rw [unhide kC0]; rfl, unhide HC0⟩) (fun _ => by rw [unhide kOn, unhide HC0]; simp [charsOf]) ?_
          intro v4 v5 v6 v10 v11 v12 v13 v14 v15 v16 v17 v18 v19 v20 v21 v22 v23 v24 v25 v26 v27 v28 v29 v30 v31 v32 v33 v34 v35 v36 v37 v38 v39 v40 v41 v42 v43 v44 v45 v46 v47 v48 v49 v50 v51 v52 v53 v54 v55 v56 v57 v58 v59 v60 v61 v62 v63 v64 v65 v66 v67 v68 v69 v70 v71 v72 v73 v74 v75 v76 v77 v78 v79 v80 v81 v82 v83 v84 v85 v86 v87 v88 v89 v90 v91 v92 v93 v94 v95 v96 v97 v98 v99 v100 v101 v102 v103 v104 v105 v106 v107 v108 v109 v110 v111 v112 v113 v114 v115 v116 v117 v118 v119 v120 v121 v122 v123 v124 v125 v126 v127 v128 v129 v130 v131 v132 v133 v134 v135 v136 v137 v138 v139 v140 v141 v142 v143 v144 v145 v146 v147 v148 v149 v150 v151 v152 v153 v154 v155 v156 v157 v158 v159 v160 v161 v162 v163 v164 v165 v166 v167 v168 v169 v170 v171 v172 v173 v174 v175 v176 v177 v178 v179 v180 v181 v182 v183 v184 v185 v186 v187 v188 v189 v190 v191 v192 v193 v194 v195 v196 v197 v198 v199 v200 v201 v202 v203 v204 v205 wx hrel
          obtain ⟨q2, ta2, rfl, rfl, rfl, HM2⟩ := hrel
          have HM3 := hide HM2
          clear HM2
          try simp only [Exit.inBlock, Exit.then]
          go_wp2
          go_roundw
          case rel => exact ⟨k + 1, q2, ta2, by omega, by omega, by go_num, rfl, rfl, rfl, HM3⟩
          case measure => simp [intOf]; omega
        · have eC : (C == []) = false := by simpa using hC0
          have eC' : (C != []) = true := by simp [bne, eC]
          have eCi : C.isEmpty = false := by simpa using hC0
          have HCh := hide (show charsOf C = [{ kind := 0, text := C }] by rw [charsOf, if_neg hC0])
          clear hC0
          have hrac := tok_room (n := O.length) (by omega)
          have hoac := (unhide HMb).ok
          unfold Item.ok tokItem at hoac
          go_wp2_with (at_builtin; refine wpList_append_mine _ rfl _ _ 30 rfl 34 i0 _ 6 80 Tryz.underlying30 hi hz0 hz1 hz2 rfl (by decide) q.a O.length q.cap (toldCells O ta) rfl (by exact World.ownsRow.alloc hoac _) ⟨wb.heap.size, 0, none⟩ 1 1 (tokCells ({ kind := 0, text := C } : Tok) nilSl) rfl rfl (by exact tokCells_cells' ({ kind := 0, text := C } : Tok) nilSl wb 34 _ rfl) (tokCells_one _ _) (by decide) hrac.1 hrac.2 ?next)
          case next =>
            intro ac capac wf g1 g2 g3
            have HM1 := hide ((unhide HMb).one ({ kind := 0, text := C } : Tok) nilSl ((More.refl wb).alloc _) g1 g2 (by simpa using g3) (AttrAt.nil _ _ _) (by simp))
            have fb := box_size g2 hbs
            have f1 := (box_after g2 hbs (unhide HQL) 1).trans b1
            have f2 := (box_after g2 hbs (unhide HQL) 2).trans b2
            clear g1 g2 g3 hoac hrac
            obtain ⟨O1, hO1⟩ : ∃ O1 : List Tok, O1 = O ++ [({ kind := 0, text := C } : Tok)] := ⟨_, rfl⟩
            have eO1 : O.length + 1 = O1.length := by rw [hO1, List.length_append]; rfl
            rw [eO1]
            rw [← hO1] at HM1
            have HO1 := hide hO1
            have lO1 : O1.length ≤ 121 := by omega
            clear hO1 eO1
            go_upto_region 12 with fail
            refine page_tail (by assumption) (unhide HM1) f1 f2 fb (unhide HI) (unhide HAL) (unhide HNR) (unhide HR) lO1 hS (by simp) (unhide HS1) (fun e => absurd e (unhide HR0)) (fun e => absurd e (unhide HR0)) (fun _ => ⟨by rw [unhide kC0]; rfl, rfl⟩) (fun _ => by rw [unhide kOn, unhide HCh, unhide HO1]) ?_
            intro v4 v5 v6 v10 v11 v12 v13 v14 v15 v16 v17 v18 v19 v20 v21 v22 v23 v24 v25 v26 v27 v28 v29 v30 v31 v32 v33 v34 v35 v36 v37 v38 v39 v40 v41 v42 v43 v44 v45 v46 v47 v48 v49 v50 v51 v52 v53 v54 v55 v56 v57 v58 v59 v60 v61 v62 v63 v64 v65 v66 v67 v68 v69 v70 v71 v72 v73 v74 v75 v76 v77 v78 v79 v80 v81 v82 v83 v84 v85 v86 v87 v88 v89 v90 v91 v92 v93 v94 v95 v96 v97 v98 v99 v100 v101 v102 v103 v104 v105 v106 v107 v108 v109 v110 v111 v112 v113 v114 v115 v116 v117 v118 v119 v120 v121 v122 v123 v124 v125 v126 v127 v128 v129 v130 v131 v132 v133 v134 v135 v136 v137 v138 v139 v140 v141 v142 v143 v144 v145 v146 v147 v148 v149 v150 v151 v152 v153 v154 v155 v156 v157 v158 v159 v160 v161 v162 v163 v164 v165 v166 v167 v168 v169 v170 v171 v172 v173 v174 v175 v176 v177 v178 v179 v180 v181 v182 v183 v184 v185 v186 v187 v188 v189 v190 v191 v192 v193 v194 v195 v196 v197 v198 v199 v200 v201 v202 v203 v204 v205 wx hrel
            obtain ⟨q2, ta2, rfl, rfl, rfl, HM2⟩ := hrel
            have HM3 := hide HM2
            clear HM2
            try simp only [Exit.inBlock, Exit.then]
            go_wp2
            go_roundw
            case rel => exact ⟨k + 1, q2, ta2, by omega, by omega, by go_num, rfl, rfl, rfl, HM3⟩
            case measure => simp [intOf]; omega
    · skip
      have hK : min l.length 30 = k := by omega
      have HS' := hide (show encs (pgS l (min l.length 30)) = encs (pgS l k) by rw [hK])
      have HO' := hide (show pgO l (min l.length 30) = pgO l k by rw [hK])
      have HC' := hide (show encs (pgC l (min l.length 30)) = encs (pgC l k) by rw [hK])
      have hol := pgO_len l k
      clear hK
      generalize encs (pgS l k) = S at *
      generalize pgO l k = O at *
      generalize encs (pgC l k) = C at *
      by_cases hC0 : C = []
      · subst hC0
        have HCh := hide (show charsOf [] = [] from rfl)
        by_cases hlt : k < l.length
        · have h30 : k = 30 := by omega
          subst h30
          have hrad := tok_room (n := O.length) (by omega)
          have hoad := (unhide HM).ok
          unfold Item.ok tokItem at hoad
          go_wp2_with (at_builtin; refine wpList_append_mine _ rfl _ _ 30 rfl 34 i0 _ 6 80 Tryz.underlying30 hi hz0 hz1 hz2 rfl (by decide) q.a O.length q.cap (toldCells O ta) rfl (by exact World.ownsRow.alloc hoad _) ⟨wr.heap.size, 0, none⟩ 1 1 (tokCells ({ kind := 6 } : Tok) nilSl) rfl rfl (by exact tokCells_cells' ({ kind := 6 } : Tok) nilSl wr 34 _ rfl) (tokCells_one _ _) (by decide) hrad.1 hrad.2 ?next)
          case next =>
            intro ad capad w6 g1 g2 g3
            have HMf := hide ((unhide HM).one ({ kind := 6 } : Tok) nilSl ((More.refl wr).alloc _) g1 g2 (by simpa using g3) (AttrAt.nil _ _ _) (by simp))
            clear g1 g2 g3 hoad hrad
            go_wp2
            go_ret2
            rw [unhide HS', unhide HO', unhide HC']
            exact ⟨_, rfl, (unhide HMf).more, by simpa [charsOf] using (unhide HMf).toks⟩
        · skip
          have hrad := tok_room (n := O.length) (by omega)
          have hoad := (unhide HM).ok
          unfold Item.ok tokItem at hoad
          go_wp2_with (at_builtin; refine wpList_append_mine _ rfl _ _ 30 rfl 34 i0 _ 6 80 Tryz.underlying30 hi hz0 hz1 hz2 rfl (by decide) q.a O.length q.cap (toldCells O ta) rfl (by exact World.ownsRow.alloc hoad _) ⟨wr.heap.size, 0, none⟩ 1 1 (tokCells ({ kind := 6 } : Tok) nilSl) rfl rfl (by exact tokCells_cells' ({ kind := 6 } : Tok) nilSl wr 34 _ rfl) (tokCells_one _ _) (by decide) hrad.1 hrad.2 ?next)
          case next =>
            intro ad capad w6 g1 g2 g3
            have HMf := hide ((unhide HM).one ({ kind := 6 } : Tok) nilSl ((More.refl wr).alloc _) g1 g2 (by simpa using g3) (AttrAt.nil _ _ _) (by simp))
            clear g1 g2 g3 hoad hrad
            go_wp2
            go_ret2
            rw [unhide HS', unhide HO', unhide HC']
            exact ⟨_, rfl, (unhide HMf).more, by simpa [charsOf] using (unhide HMf).toks⟩
      · have eC : (C == []) = false := by simpa using hC0
        have eC' : (C != []) = true := by simp [bne, eC]
        have eCi : C.isEmpty = false := by simpa using hC0
        have HCh := hide (show charsOf C = [{ kind := 0, text := C }] by rw [charsOf, if_neg hC0])
        clear hC0
        by_cases hlt : k < l.length
        · have h30 : k = 30 := by omega
          subst h30
          have hra1 := tok_room (n := O.length) (by omega)
          have hoa1 := (unhide HM).ok
          unfold Item.ok tokItem at hoa1
          go_wp2_with (at_builtin; refine wpList_append_mine _ rfl _ _ 30 rfl 34 i0 _ 6 80 Tryz.underlying30 hi hz0 hz1 hz2 rfl (by decide) q.a O.length q.cap (toldCells O ta) rfl (by exact World.ownsRow.alloc hoa1 _) ⟨wr.heap.size, 0, none⟩ 1 1 (tokCells ({ kind := 0, text := C } : Tok) nilSl) rfl rfl (by exact tokCells_cells' ({ kind := 0, text := C } : Tok) nilSl wr 34 _ rfl) (tokCells_one _ _) (by decide) hra1.1 hra1.2 ?next)
          case next =>
            intro a1 capa1 w5 g1 g2 g3
            have HMe := hide ((unhide HM).one ({ kind := 0, text := C } : Tok) nilSl ((More.refl wr).alloc _) g1 g2 (by simpa using g3) (AttrAt.nil _ _ _) (by simp))
            clear g1 g2 g3 hoa1 hra1
            generalize ta ++ [nilSl] = tb1 at *
            obtain ⟨O2, hO2⟩ : ∃ ON : List Tok, ON = O ++ [({ kind := 0, text := C } : Tok)] := ⟨_, rfl⟩
            have eO2 : O.length + 1 = O2.length := by rw [hO2, List.length_append]; rfl
            rw [eO2]
            rw [← hO2] at HMe
            have lO2 : O2.length ≤ 121 := by omega
            have HO2 := hide hO2
            clear hO2 eO2
            have hrad := tok_room (n := O2.length) (by omega)
            have hoad := (unhide HMe).ok
            unfold Item.ok tokItem at hoad
            go_wp2_with (at_builtin; refine wpList_append_mine _ rfl _ _ 30 rfl 34 i0 _ 6 80 Tryz.underlying30 hi hz0 hz1 hz2 rfl (by decide) (some a1) O2.length capa1 (toldCells O2 tb1) rfl (by exact World.ownsRow.alloc hoad _) ⟨w5.heap.size, 0, none⟩ 1 1 (tokCells ({ kind := 6 } : Tok) nilSl) rfl rfl (by exact tokCells_cells' ({ kind := 6 } : Tok) nilSl w5 34 _ rfl) (tokCells_one _ _) (by decide) hrad.1 hrad.2 ?next)
            case next =>
              intro ad capad w6 g1 g2 g3
              have HMf := hide ((unhide HMe).one ({ kind := 6 } : Tok) nilSl ((More.refl w5).alloc _) g1 g2 (by simpa using g3) (AttrAt.nil _ _ _) (by simp))
              clear g1 g2 g3 hoad hrad
              go_wp2
              go_ret2
              rw [unhide HS', unhide HO', unhide HC', unhide HCh, ← unhide HO2]
              exact ⟨_, rfl, (unhide HMf).more, by simpa using (unhide HMf).toks⟩
        · skip
          have hra1 := tok_room (n := O.length) (by omega)
          have hoa1 := (unhide HM).ok
          unfold Item.ok tokItem at hoa1
          go_wp2_with (at_builtin; refine wpList_append_mine _ rfl _ _ 30 rfl 34 i0 _ 6 80 Tryz.underlying30 hi hz0 hz1 hz2 rfl (by decide) q.a O.length q.cap (toldCells O ta) rfl (by exact World.ownsRow.alloc hoa1 _) ⟨wr.heap.size, 0, none⟩ 1 1 (tokCells ({ kind := 0, text := C } : Tok) nilSl) rfl rfl (by exact tokCells_cells' ({ kind := 0, text := C } : Tok) nilSl wr 34 _ rfl) (tokCells_one _ _) (by decide) hra1.1 hra1.2 ?next)
          case next =>
            intro a1 capa1 w5 g1 g2 g3
            have HMe := hide ((unhide HM).one ({ kind := 0, text := C } : Tok) nilSl ((More.refl wr).alloc _) g1 g2 (by simpa using g3) (AttrAt.nil _ _ _) (by simp))
            clear g1 g2 g3 hoa1 hra1
            generalize ta ++ [nilSl] = tb1 at *
            obtain ⟨O2, hO2⟩ : ∃ ON : List Tok, ON = O ++ [({ kind := 0, text := C } : Tok)] := ⟨_, rfl⟩
            have eO2 : O.length + 1 = O2.length := by rw [hO2, List.length_append]; rfl
            rw [eO2]
            rw [← hO2] at HMe
            have lO2 : O2.length ≤ 121 := by omega
            have HO2 := hide hO2
            clear hO2 eO2
            have hrad := tok_room (n := O2.length) (by omega)
            have hoad := (unhide HMe).ok
            unfold Item.ok tokItem at hoad
            go_wp2_with (at_builtin; refine wpList_append_mine _ rfl _ _ 30 rfl 34 i0 _ 6 80 Tryz.underlying30 hi hz0 hz1 hz2 rfl (by decide) (some a1) O2.length capa1 (toldCells O2 tb1) rfl (by exact World.ownsRow.alloc hoad _) ⟨w5.heap.size, 0, none⟩ 1 1 (tokCells ({ kind := 6 } : Tok) nilSl) rfl rfl (by exact tokCells_cells' ({ kind := 6 } : Tok) nilSl w5 34 _ rfl) (tokCells_one _ _) (by decide) hrad.1 hrad.2 ?next)
            case next =>
              intro ad capad w6 g1 g2 g3
              have HMf := hide ((unhide HMe).one ({ kind := 6 } : Tok) nilSl ((More.refl w5).alloc _) g1 g2 (by simpa using g3) (AttrAt.nil _ _ _) (by simp))
              clear g1 g2 g3 hoad hrad
              go_wp2
              go_ret2
              rw [unhide HS', unhide HO', unhide HC', unhide HCh, ← unhide HO2]
              exact ⟨_, rfl, (unhide HMf).more, by simpa using (unhide HMf).toks⟩
end Go.Proofs.YtdfmapcnfficlaaGreatDoor

set_option linter.unusedSimpArgs false
set_option linter.unusedVariables false
namespace Go.Proofs.YtdfmapcnfficlaaGreatDoor
open Go Go.RowKit

set_option maxHeartbeats 4000000 in
set_option maxRecDepth 1000000 in
theorem pages_walk (l : List PieceD) (v : Value) (w : World) (h : PcsV w v l) (hl : l.length ≤ 9223372036854775807) (B : Base w (fun _ => False)) :
    Calls Tryz.prog 8 #[v] w fun e w' => e = .returned (.bool true) ∧ More w w' := by
  have HAw := hide (awake_does w B)
  have HPg := hide (fun (W : World) (hm : More w W) => page_does l v W (h.more hm) (by omega))
  have hsl := pgS_len l (min l.length 30)
  have hs : (encs (pgS l (min l.length 30))).length ≤ 15000 := by omega
  have HAp := hide (fun (W : World) (hm : More w W) => apart_does (encs (pgS l (min l.length 30))) W (by omega) (B.more hm))
  rw [page_toks l (min l.length 30)] at HAp
  have hol := pgO_len l (min l.length 30)
  have hcl := charsOf_len (encs (pgC l (min l.length 30)))
  have hll : (pgO l (min l.length 30) ++ charsOf (encs (pgC l (min l.length 30))) ++ [({ kind := 6 } : Tok)]).length ≤ lim := by
    rw [List.length_append, List.length_append]
    simp only [List.length_cons, List.length_nil]
    unfold lim
    omega
  clear h B hsl hs hol hcl
  generalize pgO l (min l.length 30) ++ charsOf (encs (pgC l (min l.length 30))) ++ [({ kind := 6 } : Tok)] = LL at *
  generalize encs (pgS l (min l.length 30)) = X at *
  go_enter Tryz.func8, Tryz.ntmps8
  go_wp2_with fail
  refine (unhide HAw).mono ?_
  rintro e w1 ⟨rfl, m1⟩
  go_wp2_with fail
  refine (unhide HPg w1 m1).mono ?_
  rintro e w2 ⟨v2, rfl, m2, t2⟩
  have M2 := m1.trans' m2
  go_wp2_with fail
  refine (unhide HAp w2 M2).mono ?_
  rintro e w3 ⟨v3, rfl, t3, m3⟩
  have HT2 := hide (t2.more m3)
  have HT3 := hide t3
  have HM3 := hide (M2.trans' m3)
  clear t2 t3 m1 m2 m3 M2 HAw HPg HAp
  go_wp2_with fail
  refine (same_true LL w3 v3 v2 (unhide HT3) (unhide HT2) hll).mono ?_
  rintro e w4 ⟨rfl, m4⟩
  have HM4 := hide ((unhide HM3).trans' m4)
  clear m4
  go_wp2
  go_ret
  exact ⟨rfl, unhide HM4⟩
end Go.Proofs.YtdfmapcnfficlaaGreatDoor

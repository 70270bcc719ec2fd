/-
  The states of tags.
-/
import Derived.Test.YtdfmapcnfficlaaGreatDoorB14
import Derived.Test.YtdfmapcnfficlaaGreatDoorB15
set_option linter.unusedSimpArgs false
set_option linter.unusedVariables false
namespace Go.Proofs.YtdfmapcnfficlaaGreatDoor
open Go Go.RowKit
section
variable {w0 : World} {own0 : Nat → Prop} {b : Nat} {s : TS} {ex : List Item} {w : World}

theorem withoutNul_sz (c : Int) (h : Tk w0 own0 b s ex w) (hs : sz s + 1 ≤ lim) :
    Calls Tryz.prog 127 #[.pointer (some ⟨b, 0, none⟩), .int .i32 c] w fun e w' => e = .returned (.int .i32 (withoutNulC c)) ∧ Tk w0 own0 b (withoutNul s c) ex w' :=
  withoutNul_does c h (by unfold sz at hs; omega)
theorem attsz_new : ∀ l : List Att, attsz (l ++ [({} : Att)]) = attsz l
  | [] => rfl
  | a :: r => by simp [attsz, attsz_new r]
theorem sz_newAtt (s : TS) : sz (newAtt s) = sz s + 1 := by simp [sz, newAtt, attsz_new]; omega
theorem sz_setCloses (s : TS) : sz { s with tag := { s.tag with closes := true } } = sz s := rfl
def putTag (s : TS) (c : Int) : TS := { withoutNul s c with tag := { s.tag with name := s.tag.name ++ Lib.encodeRune (lowC (withoutNulC c)) } }
theorem putTag_eq (s : TS) (c : Int) : putTag s c = { withoutNul s c with tag := { (withoutNul s c).tag with name := s.tag.name ++ Lib.encodeRune (lowC (withoutNulC c)) } } := by rw [putTag, withoutNul_tag]

def lookInTag (s : TS) (c : Int) : Int × TS :=
  if isBlankC c = true then (0, { s with state := 9 }) else
  if c = 47 then (0, { s with state := 17 }) else
  if c = 62 then (0, (tellTag s)) else
  if c = -1 then (0, (dropTag s)) else
  (0, (putTag s c))

set_option maxHeartbeats 1000000 in
set_option maxRecDepth 1000000 in
theorem lookInTag_does (c : Int) (hc : Rn c) (h : Tk w0 own0 b s ex w) (hs : sz s + 12 ≤ lim) :
    Calls Tryz.prog 141 #[.pointer (some ⟨b, 0, none⟩), .int .i32 c] w fun e w' => e = .returned (.int .i64 (lookInTag s c).1) ∧ Tk w0 own0 b (lookInTag s c).2 ex w' := by
  have HS := hide hs
  clear hs
  by_cases nblank : isBlankC c = true
  · have y := nblank
    clear nblank
    have hfin : lookInTag s c = (0, { s with state := 9 }) := by simp [lookInTag, y]
    rw [hfin]
    clear hfin
    go_enter Tryz.func141, Tryz.ntmps141
    go_wp2_with fail
    refine (isBlank_does c _).mono ?_
    rintro e w1 ⟨rfl, rfl⟩
    go_wp2_with fail
    refine (to_does 9 h).mono ?_
    rintro e w2 ⟨rfl, h1⟩
    go_wp2
    go_ret
    exact ⟨rfl, h1⟩
  by_cases n47 : c = 47
  · have y := n47
    clear n47
    subst y
    have hfin : lookInTag s 47 = (0, { s with state := 17 }) := by simp [lookInTag, nblank]
    rw [hfin]
    clear hfin
    have eblank : isBlankC 47 = false := Bool.eq_false_iff.2 nblank
    clear nblank
    go_enter Tryz.func141, Tryz.ntmps141
    go_wp2_with fail
    refine (isBlank_does 47 _).mono ?_
    rintro e w1 ⟨rfl, rfl⟩
    go_wp2_with fail
    refine (to_does 17 h).mono ?_
    rintro e w2 ⟨rfl, h1⟩
    go_wp2
    go_ret
    exact ⟨rfl, h1⟩
  by_cases n62 : c = 62
  · have y := n62
    clear n62
    subst y
    have hfin : lookInTag s 62 = (0, (tellTag s)) := by simp [lookInTag, nblank, n47]
    rw [hfin]
    clear hfin
    have eblank : isBlankC 62 = false := Bool.eq_false_iff.2 nblank
    have e47 : ((62 : Int) == 47) = false := beq_eq_false_iff_ne.2 n47
    clear nblank
    clear n47
    go_enter Tryz.func141, Tryz.ntmps141
    go_wp2_with fail
    refine (isBlank_does 62 _).mono ?_
    rintro e w1 ⟨rfl, rfl⟩
    go_wp2_with fail
    refine (tellTag_does h (by have := unhide HS; first | omega | (simp only [sz_wrong, sz_state, sz_addToComment, sz_setOdd, sz_newAtt, sz_setCloses, List.length_cons, List.length_nil]; omega))).mono ?_
    rintro e w2 ⟨rfl, h1⟩
    go_wp2
    go_ret
    exact ⟨rfl, h1⟩
  by_cases nm1 : c = -1
  · have y := nm1
    clear nm1
    subst y
    have hfin : lookInTag s (-1) = (0, (dropTag s)) := by simp [lookInTag, nblank, n47, n62]
    rw [hfin]
    clear hfin
    have eblank : isBlankC (-1) = false := Bool.eq_false_iff.2 nblank
    have e47 : ((-1 : Int) == 47) = false := beq_eq_false_iff_ne.2 n47
    have e62 : ((-1 : Int) == 62) = false := beq_eq_false_iff_ne.2 n62
    clear nblank
    clear n47
    clear n62
    go_enter Tryz.func141, Tryz.ntmps141
    go_wp2_with fail
    refine (isBlank_does (-1) _).mono ?_
    rintro e w1 ⟨rfl, rfl⟩
    go_wp2_with fail
    refine (dropTag_does h (by have := unhide HS; first | omega | (simp only [sz_wrong, sz_state, sz_addToComment, sz_setOdd, sz_newAtt, sz_setCloses, List.length_cons, List.length_nil]; omega))).mono ?_
    rintro e w2 ⟨rfl, h1⟩
    go_wp2
    go_ret
    exact ⟨rfl, h1⟩
  have hfin : lookInTag s c = (0, (putTag s c)) := by simp [lookInTag, nblank, n47, n62, nm1]
  rw [hfin]
  clear hfin
  have eblank : isBlankC c = false := Bool.eq_false_iff.2 nblank
  have e47 : ((c : Int) == 47) = false := beq_eq_false_iff_ne.2 n47
  have e62 : ((c : Int) == 62) = false := beq_eq_false_iff_ne.2 n62
  have em1 : ((c : Int) == -1) = false := beq_eq_false_iff_ne.2 nm1
  clear nblank
  clear n47
  clear n62
  clear nm1
  obtain ⟨R, hR⟩ := h.reg
  have c1 : w.cell? ⟨b, 10, none⟩ = some (.slice R.tname.a s.tag.name.length R.tname.cap) := hR.1.cell 10
  have HN := hide (withoutNul_doesR c (tkR_drew hR) (by have := unhide HS; unfold sz at this; omega))
  have HR := hide (withoutNulC_rn hc)
  have HL := hide (withoutNulC_in hc)
  have HP := hide (lowC_in (withoutNulC_in hc))
  clear h
  go_enter Tryz.func141, Tryz.ntmps141
  go_wp2_with fail
  refine (isBlank_does c _).mono ?_
  rintro e w1 ⟨rfl, rfl⟩
  go_wp2_with fail
  go_region_with (first
    | (go_at_call 127; refine (unhide HN).mono ?_; rintro e w1 ⟨tl, ta, rfl, h1⟩; have d1 : w1.cell? ⟨b, 10, none⟩ = some (.slice R.tname.a s.tag.name.length R.tname.cap) := (by rw [h1.1.cell]; simp [cellsOf, withoutNul_tag]))
    | (go_at_call 194; refine (low_does (withoutNulC c) _ (unhide HL)).mono ?_; rintro e w4 ⟨rfl, rfl⟩)
    | (go_at_call 126; refine (appendRune_does R.tname s.tag.name (lowC (withoutNulC c)) (unhide HP).1 (unhide HP).2 _ (by have := h1.1.rows.ok (bItem R.tname (withoutNul s c).tag.name) (by simp [itemsOf]); rw [withoutNul_tag] at this; exact this) (by have := unhide HS; unfold sz lim at this; omega)).mono ?_; rintro e w2 ⟨r', o, rfl, hok, hg, hf⟩; obtain ⟨hself, hT⟩ := RepAt.tname_grow h1.1 h1.2 ((More.refl _).alloc o) _ r' hok hg hf; have d2 := cell_of_self hself 10; have df := frozen_of_self hself; simp only [cellsOf] at d2; simp only [List.length_append] at hT))
  all_goals
    go_wp2
    go_ret
    exact ⟨rfl, by rw [putTag_eq]; exact hT⟩

def lookInSelf (s : TS) (c : Int) : Int × TS :=
  if c = 62 then (0, (tellTag { s with tag := { s.tag with closes := true } })) else
  if c = -1 then (0, (dropTag s)) else
  (1, { (wrong s [115, 108, 97, 115, 104]) with state := 9 })

set_option maxHeartbeats 1000000 in
set_option maxRecDepth 1000000 in
theorem lookInSelf_does (c : Int) (hc : Rn c) (h : Tk w0 own0 b s ex w) (hs : sz s + 12 ≤ lim) :
    Calls Tryz.prog 140 #[.pointer (some ⟨b, 0, none⟩), .int .i32 c] w fun e w' => e = .returned (.int .i64 (lookInSelf s c).1) ∧ Tk w0 own0 b (lookInSelf s c).2 ex w' := by
  have HS := hide hs
  clear hs
  by_cases n62 : c = 62
  · have y := n62
    clear n62
    subst y
    have hfin : lookInSelf s 62 = (0, (tellTag { s with tag := { s.tag with closes := true } })) := by simp [lookInSelf]
    rw [hfin]
    clear hfin
    go_enter Tryz.func140, Tryz.ntmps140
    obtain ⟨R1, hR1⟩ := Tk.reg h
    have c1 := hR1.1.cell 14
    have f1 := hR1.1.frozen
    simp only [cellsOf] at c1
    have h1 : Tk w0 own0 b { s with tag := { s.tag with closes := true } } ex (World.setCell _ ⟨b, 14, none⟩ (.bool true)) := ⟨⟨R1, hR1.1.setCell 14 _ rfl rfl rfl rfl rfl⟩, hR1.2.setCell 14 _ hR1.1.ownB⟩
    go_wp2_with fail
    refine (tellTag_does h1 (by have := unhide HS; first | omega | (simp only [sz_wrong, sz_state, sz_addToComment, sz_setOdd, sz_newAtt, sz_setCloses, List.length_cons, List.length_nil]; omega))).mono ?_
    rintro e w3 ⟨rfl, h2⟩
    go_wp2
    go_ret
    exact ⟨rfl, h2⟩
  by_cases nm1 : c = -1
  · have y := nm1
    clear nm1
    subst y
    have hfin : lookInSelf s (-1) = (0, (dropTag s)) := by simp [lookInSelf, n62]
    rw [hfin]
    clear hfin
    have e62 : ((-1 : Int) == 62) = false := beq_eq_false_iff_ne.2 n62
    clear n62
    go_enter Tryz.func140, Tryz.ntmps140
    go_wp2_with fail
    refine (dropTag_does h (by have := unhide HS; first | omega | (simp only [sz_wrong, sz_state, sz_addToComment, sz_setOdd, sz_newAtt, sz_setCloses, List.length_cons, List.length_nil]; omega))).mono ?_
    rintro e w2 ⟨rfl, h1⟩
    go_wp2
    go_ret
    exact ⟨rfl, h1⟩
  have hfin : lookInSelf s c = (1, { (wrong s [115, 108, 97, 115, 104]) with state := 9 }) := by simp [lookInSelf, n62, nm1]
  rw [hfin]
  clear hfin
  have e62 : ((c : Int) == 62) = false := beq_eq_false_iff_ne.2 n62
  have em1 : ((c : Int) == -1) = false := beq_eq_false_iff_ne.2 nm1
  clear n62
  clear nm1
  go_enter Tryz.func140, Tryz.ntmps140
  go_wp2_with fail
  refine (wrong_sz [115, 108, 97, 115, 104] h (by have := unhide HS; first | omega | (simp only [sz_wrong, sz_state, sz_addToComment, sz_setOdd, sz_newAtt, sz_setCloses, List.length_cons, List.length_nil]; omega))).mono ?_
  rintro e w2 ⟨rfl, h1⟩
  go_wp2_with fail
  refine (again_does 9 h1).mono ?_
  rintro e w3 ⟨rfl, h2⟩
  go_wp2
  go_ret
  exact ⟨rfl, h2⟩

def lookInAttr (s : TS) (c : Int) : Int × TS :=
  if isBlankC c = true then (0, s) else
  if c = 47 ∨ c = 62 ∨ c = -1 then (1, { s with state := 11 }) else
  if c = 61 then (0, { (addToName (newAtt (wrong s [101, 113, 117, 97, 108, 115])) 61) with state := 10 }) else
  (1, { (newAtt s) with state := 10 })

set_option maxHeartbeats 1000000 in
set_option maxRecDepth 1000000 in
theorem lookInAttr_does (c : Int) (hc : Rn c) (h : Tk w0 own0 b s ex w) (hs : sz s + 16 ≤ lim) :
    Calls Tryz.prog 133 #[.pointer (some ⟨b, 0, none⟩), .int .i32 c] w fun e w' => e = .returned (.int .i64 (lookInAttr s c).1) ∧ Tk w0 own0 b (lookInAttr s c).2 ex w' := by
  have HS := hide hs
  clear hs
  by_cases nblank : isBlankC c = true
  · have y := nblank
    clear nblank
    have hfin : lookInAttr s c = (0, s) := by simp [lookInAttr, y]
    rw [hfin]
    clear hfin
    go_enter Tryz.func133, Tryz.ntmps133
    go_wp2_with fail
    refine (isBlank_does c _).mono ?_
    rintro e w1 ⟨rfl, rfl⟩
    go_wp2
    go_ret
    exact ⟨rfl, h⟩
  by_cases n47 : c = 47
  · have y := n47
    clear n47
    subst y
    have hfin : lookInAttr s 47 = (1, { s with state := 11 }) := by simp [lookInAttr, nblank]
    rw [hfin]
    clear hfin
    have eblank : isBlankC 47 = false := Bool.eq_false_iff.2 nblank
    clear nblank
    go_enter Tryz.func133, Tryz.ntmps133
    go_wp2_with fail
    refine (isBlank_does 47 _).mono ?_
    rintro e w1 ⟨rfl, rfl⟩
    go_wp2_with fail
    refine (again_does 11 h).mono ?_
    rintro e w2 ⟨rfl, h1⟩
    go_wp2
    go_ret
    exact ⟨rfl, h1⟩
  by_cases n62 : c = 62
  · have y := n62
    clear n62
    subst y
    have hfin : lookInAttr s 62 = (1, { s with state := 11 }) := by simp [lookInAttr, nblank, n47]
    rw [hfin]
    clear hfin
    have eblank : isBlankC 62 = false := Bool.eq_false_iff.2 nblank
    have e47 : ((62 : Int) == 47) = false := beq_eq_false_iff_ne.2 n47
    clear nblank
    clear n47
    go_enter Tryz.func133, Tryz.ntmps133
    go_wp2_with fail
    refine (isBlank_does 62 _).mono ?_
    rintro e w1 ⟨rfl, rfl⟩
    go_wp2_with fail
    refine (again_does 11 h).mono ?_
    rintro e w2 ⟨rfl, h1⟩
    go_wp2
    go_ret
    exact ⟨rfl, h1⟩
  by_cases nm1 : c = -1
  · have y := nm1
    clear nm1
    subst y
    have hfin : lookInAttr s (-1) = (1, { s with state := 11 }) := by simp [lookInAttr, nblank, n47, n62]
    rw [hfin]
    clear hfin
    have eblank : isBlankC (-1) = false := Bool.eq_false_iff.2 nblank
    have e47 : ((-1 : Int) == 47) = false := beq_eq_false_iff_ne.2 n47
    have e62 : ((-1 : Int) == 62) = false := beq_eq_false_iff_ne.2 n62
    clear nblank
    clear n47
    clear n62
    go_enter Tryz.func133, Tryz.ntmps133
    go_wp2_with fail
    refine (isBlank_does (-1) _).mono ?_
    rintro e w1 ⟨rfl, rfl⟩
    go_wp2_with fail
    refine (again_does 11 h).mono ?_
    rintro e w2 ⟨rfl, h1⟩
    go_wp2
    go_ret
    exact ⟨rfl, h1⟩
  by_cases n61 : c = 61
  · have y := n61
    clear n61
    subst y
    have hfin : lookInAttr s 61 = (0, { (addToName (newAtt (wrong s [101, 113, 117, 97, 108, 115])) 61) with state := 10 }) := by simp [lookInAttr, nblank, n47, n62, nm1]
    rw [hfin]
    clear hfin
    have eblank : isBlankC 61 = false := Bool.eq_false_iff.2 nblank
    have e47 : ((61 : Int) == 47) = false := beq_eq_false_iff_ne.2 n47
    have e62 : ((61 : Int) == 62) = false := beq_eq_false_iff_ne.2 n62
    have em1 : ((61 : Int) == -1) = false := beq_eq_false_iff_ne.2 nm1
    clear nblank
    clear n47
    clear n62
    clear nm1
    go_enter Tryz.func133, Tryz.ntmps133
    go_wp2_with fail
    refine (isBlank_does 61 _).mono ?_
    rintro e w1 ⟨rfl, rfl⟩
    go_wp2_with fail
    refine (wrong_sz [101, 113, 117, 97, 108, 115] h (by have := unhide HS; first | omega | (simp only [sz_wrong, sz_state, sz_addToComment, sz_setOdd, sz_newAtt, sz_setCloses, List.length_cons, List.length_nil]; omega))).mono ?_
    rintro e w2 ⟨rfl, h1⟩
    go_wp2_with fail
    refine (newAttribute_does h1 (by have := unhide HS; first | omega | (simp only [sz_wrong, sz_state, sz_addToComment, sz_setOdd, sz_newAtt, sz_setCloses, List.length_cons, List.length_nil]; omega))).mono ?_
    rintro e w3 ⟨rfl, h2⟩
    go_wp2_with fail
    refine (addToName_does 61 (by unfold Rn; omega) (by first | exact hat | (simp [newAtt]; done)) h2 (by have := unhide HS; first | omega | (simp only [sz_wrong, sz_state, sz_addToComment, sz_setOdd, sz_newAtt, sz_setCloses, List.length_cons, List.length_nil]; omega))).mono ?_
    rintro e w4 ⟨rfl, h3⟩
    go_wp2_with fail
    refine (to_does 10 h3).mono ?_
    rintro e w5 ⟨rfl, h4⟩
    go_wp2
    go_ret
    exact ⟨rfl, h4⟩
  have hfin : lookInAttr s c = (1, { (newAtt s) with state := 10 }) := by simp [lookInAttr, nblank, n47, n62, nm1, n61]
  rw [hfin]
  clear hfin
  have eblank : isBlankC c = false := Bool.eq_false_iff.2 nblank
  have e47 : ((c : Int) == 47) = false := beq_eq_false_iff_ne.2 n47
  have e62 : ((c : Int) == 62) = false := beq_eq_false_iff_ne.2 n62
  have em1 : ((c : Int) == -1) = false := beq_eq_false_iff_ne.2 nm1
  have e61 : ((c : Int) == 61) = false := beq_eq_false_iff_ne.2 n61
  clear nblank
  clear n47
  clear n62
  clear nm1
  clear n61
  go_enter Tryz.func133, Tryz.ntmps133
  go_wp2_with fail
  refine (isBlank_does c _).mono ?_
  rintro e w1 ⟨rfl, rfl⟩
  go_wp2_with fail
  refine (newAttribute_does h (by have := unhide HS; first | omega | (simp only [sz_wrong, sz_state, sz_addToComment, sz_setOdd, sz_newAtt, sz_setCloses, List.length_cons, List.length_nil]; omega))).mono ?_
  rintro e w2 ⟨rfl, h1⟩
  go_wp2_with fail
  refine (again_does 10 h1).mono ?_
  rintro e w3 ⟨rfl, h2⟩
  go_wp2
  go_ret
  exact ⟨rfl, h2⟩

def lookInName (s : TS) (c : Int) : Int × TS :=
  if isBlankC c = true ∨ c = 47 ∨ c = 62 ∨ c = -1 then (1, { (endName s) with state := 11 }) else
  if c = 61 then (0, { (endName s) with state := 12 }) else
  if c = 34 ∨ c = 39 ∨ c = 60 then (0, (addToName (withoutNul (wrong s [115, 105, 103, 110]) c) (lowC (withoutNulC c)))) else
  (0, (addToName (withoutNul s c) (lowC (withoutNulC c))))

set_option maxHeartbeats 1000000 in
set_option maxRecDepth 1000000 in
theorem lookInName_does (c : Int) (hc : Rn c) (hat : s.tag.atts ≠ []) (h : Tk w0 own0 b s ex w) (hs : sz s + 16 ≤ lim) :
    Calls Tryz.prog 134 #[.pointer (some ⟨b, 0, none⟩), .int .i32 c] w fun e w' => e = .returned (.int .i64 (lookInName s c).1) ∧ Tk w0 own0 b (lookInName s c).2 ex w' := by
  have HS := hide hs
  clear hs
  by_cases nblank : isBlankC c = true
  · have y := nblank
    clear nblank
    have hfin : lookInName s c = (1, { (endName s) with state := 11 }) := by simp [lookInName, y]
    rw [hfin]
    clear hfin
    go_enter Tryz.func134, Tryz.ntmps134
    go_wp2_with fail
    refine (isBlank_does c _).mono ?_
    rintro e w1 ⟨rfl, rfl⟩
    go_wp2_with fail
    refine (endName_does (by first | exact hat | (simp [newAtt]; done)) h (by have := unhide HS; first | omega | (simp only [sz_wrong, sz_state, sz_addToComment, sz_setOdd, sz_newAtt, sz_setCloses, List.length_cons, List.length_nil]; omega))).mono ?_
    rintro e w2 ⟨rfl, h1⟩
    go_wp2_with fail
    refine (again_does 11 h1).mono ?_
    rintro e w3 ⟨rfl, h2⟩
    go_wp2
    go_ret
    exact ⟨rfl, h2⟩
  by_cases n47 : c = 47
  · have y := n47
    clear n47
    subst y
    have hfin : lookInName s 47 = (1, { (endName s) with state := 11 }) := by simp [lookInName, nblank]
    rw [hfin]
    clear hfin
    have eblank : isBlankC 47 = false := Bool.eq_false_iff.2 nblank
    clear nblank
    go_enter Tryz.func134, Tryz.ntmps134
    go_wp2_with fail
    refine (isBlank_does 47 _).mono ?_
    rintro e w1 ⟨rfl, rfl⟩
    go_wp2_with fail
    refine (endName_does (by first | exact hat | (simp [newAtt]; done)) h (by have := unhide HS; first | omega | (simp only [sz_wrong, sz_state, sz_addToComment, sz_setOdd, sz_newAtt, sz_setCloses, List.length_cons, List.length_nil]; omega))).mono ?_
    rintro e w2 ⟨rfl, h1⟩
    go_wp2_with fail
    refine (again_does 11 h1).mono ?_
    rintro e w3 ⟨rfl, h2⟩
    go_wp2
    go_ret
    exact ⟨rfl, h2⟩
  by_cases n62 : c = 62
  · have y := n62
    clear n62
    subst y
    have hfin : lookInName s 62 = (1, { (endName s) with state := 11 }) := by simp [lookInName, nblank, n47]
    rw [hfin]
    clear hfin
    have eblank : isBlankC 62 = false := Bool.eq_false_iff.2 nblank
    have e47 : ((62 : Int) == 47) = false := beq_eq_false_iff_ne.2 n47
    clear nblank
    clear n47
    go_enter Tryz.func134, Tryz.ntmps134
    go_wp2_with fail
    refine (isBlank_does 62 _).mono ?_
    rintro e w1 ⟨rfl, rfl⟩
    go_wp2_with fail
    refine (endName_does (by first | exact hat | (simp [newAtt]; done)) h (by have := unhide HS; first | omega | (simp only [sz_wrong, sz_state, sz_addToComment, sz_setOdd, sz_newAtt, sz_setCloses, List.length_cons, List.length_nil]; omega))).mono ?_
    rintro e w2 ⟨rfl, h1⟩
    go_wp2_with fail
    refine (again_does 11 h1).mono ?_
    rintro e w3 ⟨rfl, h2⟩
    go_wp2
    go_ret
    exact ⟨rfl, h2⟩
  by_cases nm1 : c = -1
  · have y := nm1
    clear nm1
    subst y
    have hfin : lookInName s (-1) = (1, { (endName s) with state := 11 }) := by simp [lookInName, nblank, n47, n62]
    rw [hfin]
    clear hfin
    have eblank : isBlankC (-1) = false := Bool.eq_false_iff.2 nblank
    have e47 : ((-1 : Int) == 47) = false := beq_eq_false_iff_ne.2 n47
    have e62 : ((-1 : Int) == 62) = false := beq_eq_false_iff_ne.2 n62
    clear nblank
    clear n47
    clear n62
    go_enter Tryz.func134, Tryz.ntmps134
    go_wp2_with fail
    refine (isBlank_does (-1) _).mono ?_
    rintro e w1 ⟨rfl, rfl⟩
    go_wp2_with fail
    refine (endName_does (by first | exact hat | (simp [newAtt]; done)) h (by have := unhide HS; first | omega | (simp only [sz_wrong, sz_state, sz_addToComment, sz_setOdd, sz_newAtt, sz_setCloses, List.length_cons, List.length_nil]; omega))).mono ?_
    rintro e w2 ⟨rfl, h1⟩
    go_wp2_with fail
    refine (again_does 11 h1).mono ?_
    rintro e w3 ⟨rfl, h2⟩
    go_wp2
    go_ret
    exact ⟨rfl, h2⟩
  by_cases n61 : c = 61
  · have y := n61
    clear n61
    subst y
    have hfin : lookInName s 61 = (0, { (endName s) with state := 12 }) := by simp [lookInName, nblank, n47, n62, nm1]
    rw [hfin]
    clear hfin
    have eblank : isBlankC 61 = false := Bool.eq_false_iff.2 nblank
    have e47 : ((61 : Int) == 47) = false := beq_eq_false_iff_ne.2 n47
    have e62 : ((61 : Int) == 62) = false := beq_eq_false_iff_ne.2 n62
    have em1 : ((61 : Int) == -1) = false := beq_eq_false_iff_ne.2 nm1
    clear nblank
    clear n47
    clear n62
    clear nm1
    go_enter Tryz.func134, Tryz.ntmps134
    go_wp2_with fail
    refine (isBlank_does 61 _).mono ?_
    rintro e w1 ⟨rfl, rfl⟩
    go_wp2_with fail
    refine (endName_does (by first | exact hat | (simp [newAtt]; done)) h (by have := unhide HS; first | omega | (simp only [sz_wrong, sz_state, sz_addToComment, sz_setOdd, sz_newAtt, sz_setCloses, List.length_cons, List.length_nil]; omega))).mono ?_
    rintro e w2 ⟨rfl, h1⟩
    go_wp2_with fail
    refine (to_does 12 h1).mono ?_
    rintro e w3 ⟨rfl, h2⟩
    go_wp2
    go_ret
    exact ⟨rfl, h2⟩
  by_cases n34 : c = 34
  · have y := n34
    clear n34
    subst y
    have hfin : lookInName s 34 = (0, (addToName (withoutNul (wrong s [115, 105, 103, 110]) 34) (lowC (withoutNulC 34)))) := by simp [lookInName, nblank, n47, n62, nm1, n61]
    rw [hfin]
    clear hfin
    have eblank : isBlankC 34 = false := Bool.eq_false_iff.2 nblank
    have e47 : ((34 : Int) == 47) = false := beq_eq_false_iff_ne.2 n47
    have e62 : ((34 : Int) == 62) = false := beq_eq_false_iff_ne.2 n62
    have em1 : ((34 : Int) == -1) = false := beq_eq_false_iff_ne.2 nm1
    have e61 : ((34 : Int) == 61) = false := beq_eq_false_iff_ne.2 n61
    clear nblank
    clear n47
    clear n62
    clear nm1
    clear n61
    go_enter Tryz.func134, Tryz.ntmps134
    go_wp2_with fail
    refine (isBlank_does 34 _).mono ?_
    rintro e w1 ⟨rfl, rfl⟩
    go_wp2_with fail
    refine (wrong_sz [115, 105, 103, 110] h (by have := unhide HS; first | omega | (simp only [sz_wrong, sz_state, sz_addToComment, sz_setOdd, sz_newAtt, sz_setCloses, List.length_cons, List.length_nil]; omega))).mono ?_
    rintro e w2 ⟨rfl, h1⟩
    go_wp2_with fail
    refine (withoutNul_sz 34 h1 (by have := unhide HS; first | omega | (simp only [sz_wrong, sz_state, sz_addToComment, sz_setOdd, sz_newAtt, sz_setCloses, List.length_cons, List.length_nil]; omega))).mono ?_
    rintro e v2 ⟨rfl, h2⟩
    have q2 := sz_withoutNul (wrong s [115, 105, 103, 110]) 34
    go_wp2_with fail
    refine (low_does (withoutNulC 34) _ (withoutNulC_in hc)).mono ?_
    rintro e u2 ⟨rfl, rfl⟩
    go_wp2_with fail
    refine (addToName_does (lowC (withoutNulC 34)) (lowC_rn (withoutNulC_in hc)) (by rw [withoutNul_tag]; first | exact hat | (simp [newAtt]; done)) h2 (by have := unhide HS; first | omega | (simp only [sz_wrong, sz_newAtt] at q2; omega))).mono ?_
    rintro e w3 ⟨rfl, h2⟩
    clear q2
    go_wp2
    go_ret
    exact ⟨rfl, h2⟩
  by_cases n39 : c = 39
  · have y := n39
    clear n39
    subst y
    have hfin : lookInName s 39 = (0, (addToName (withoutNul (wrong s [115, 105, 103, 110]) 39) (lowC (withoutNulC 39)))) := by simp [lookInName, nblank, n47, n62, nm1, n61, n34]
    rw [hfin]
    clear hfin
    have eblank : isBlankC 39 = false := Bool.eq_false_iff.2 nblank
    have e47 : ((39 : Int) == 47) = false := beq_eq_false_iff_ne.2 n47
    have e62 : ((39 : Int) == 62) = false := beq_eq_false_iff_ne.2 n62
    have em1 : ((39 : Int) == -1) = false := beq_eq_false_iff_ne.2 nm1
    have e61 : ((39 : Int) == 61) = false := beq_eq_false_iff_ne.2 n61
    have e34 : ((39 : Int) == 34) = false := beq_eq_false_iff_ne.2 n34
    clear nblank
    clear n47
    clear n62
    clear nm1
    clear n61
    clear n34
    go_enter Tryz.func134, Tryz.ntmps134
    go_wp2_with fail
    refine (isBlank_does 39 _).mono ?_
    rintro e w1 ⟨rfl, rfl⟩
    go_wp2_with fail
    refine (wrong_sz [115, 105, 103, 110] h (by have := unhide HS; first | omega | (simp only [sz_wrong, sz_state, sz_addToComment, sz_setOdd, sz_newAtt, sz_setCloses, List.length_cons, List.length_nil]; omega))).mono ?_
    rintro e w2 ⟨rfl, h1⟩
    go_wp2_with fail
    refine (withoutNul_sz 39 h1 (by have := unhide HS; first | omega | (simp only [sz_wrong, sz_state, sz_addToComment, sz_setOdd, sz_newAtt, sz_setCloses, List.length_cons, List.length_nil]; omega))).mono ?_
    rintro e v2 ⟨rfl, h2⟩
    have q2 := sz_withoutNul (wrong s [115, 105, 103, 110]) 39
    go_wp2_with fail
    refine (low_does (withoutNulC 39) _ (withoutNulC_in hc)).mono ?_
    rintro e u2 ⟨rfl, rfl⟩
    go_wp2_with fail
    refine (addToName_does (lowC (withoutNulC 39)) (lowC_rn (withoutNulC_in hc)) (by rw [withoutNul_tag]; first | exact hat | (simp [newAtt]; done)) h2 (by have := unhide HS; first | omega | (simp only [sz_wrong, sz_newAtt] at q2; omega))).mono ?_
    rintro e w3 ⟨rfl, h2⟩
    clear q2
    go_wp2
    go_ret
    exact ⟨rfl, h2⟩
  by_cases n60 : c = 60
  · have y := n60
    clear n60
    subst y
    have hfin : lookInName s 60 = (0, (addToName (withoutNul (wrong s [115, 105, 103, 110]) 60) (lowC (withoutNulC 60)))) := by simp [lookInName, nblank, n47, n62, nm1, n61, n34, n39]
    rw [hfin]
    clear hfin
    have eblank : isBlankC 60 = false := Bool.eq_false_iff.2 nblank
    have e47 : ((60 : Int) == 47) = false := beq_eq_false_iff_ne.2 n47
    have e62 : ((60 : Int) == 62) = false := beq_eq_false_iff_ne.2 n62
    have em1 : ((60 : Int) == -1) = false := beq_eq_false_iff_ne.2 nm1
    have e61 : ((60 : Int) == 61) = false := beq_eq_false_iff_ne.2 n61
    have e34 : ((60 : Int) == 34) = false := beq_eq_false_iff_ne.2 n34
    have e39 : ((60 : Int) == 39) = false := beq_eq_false_iff_ne.2 n39
    clear nblank
    clear n47
    clear n62
    clear nm1
    clear n61
    clear n34
    clear n39
    go_enter Tryz.func134, Tryz.ntmps134
    go_wp2_with fail
    refine (isBlank_does 60 _).mono ?_
    rintro e w1 ⟨rfl, rfl⟩
    go_wp2_with fail
    refine (wrong_sz [115, 105, 103, 110] h (by have := unhide HS; first | omega | (simp only [sz_wrong, sz_state, sz_addToComment, sz_setOdd, sz_newAtt, sz_setCloses, List.length_cons, List.length_nil]; omega))).mono ?_
    rintro e w2 ⟨rfl, h1⟩
    go_wp2_with fail
    refine (withoutNul_sz 60 h1 (by have := unhide HS; first | omega | (simp only [sz_wrong, sz_state, sz_addToComment, sz_setOdd, sz_newAtt, sz_setCloses, List.length_cons, List.length_nil]; omega))).mono ?_
    rintro e v2 ⟨rfl, h2⟩
    have q2 := sz_withoutNul (wrong s [115, 105, 103, 110]) 60
    go_wp2_with fail
    refine (low_does (withoutNulC 60) _ (withoutNulC_in hc)).mono ?_
    rintro e u2 ⟨rfl, rfl⟩
    go_wp2_with fail
    refine (addToName_does (lowC (withoutNulC 60)) (lowC_rn (withoutNulC_in hc)) (by rw [withoutNul_tag]; first | exact hat | (simp [newAtt]; done)) h2 (by have := unhide HS; first | omega | (simp only [sz_wrong, sz_newAtt] at q2; omega))).mono ?_
    rintro e w3 ⟨rfl, h2⟩
    clear q2
    go_wp2
    go_ret
    exact ⟨rfl, h2⟩
  have hfin : lookInName s c = (0, (addToName (withoutNul s c) (lowC (withoutNulC c)))) := by simp [lookInName, nblank, n47, n62, nm1, n61, n34, n39, n60]
  rw [hfin]
  clear hfin
  have eblank : isBlankC c = false := Bool.eq_false_iff.2 nblank
  have e47 : ((c : Int) == 47) = false := beq_eq_false_iff_ne.2 n47
  have e62 : ((c : Int) == 62) = false := beq_eq_false_iff_ne.2 n62
  have em1 : ((c : Int) == -1) = false := beq_eq_false_iff_ne.2 nm1
  have e61 : ((c : Int) == 61) = false := beq_eq_false_iff_ne.2 n61
  have e34 : ((c : Int) == 34) = false := beq_eq_false_iff_ne.2 n34
  have e39 : ((c : Int) == 39) = false := beq_eq_false_iff_ne.2 n39
  have e60 : ((c : Int) == 60) = false := beq_eq_false_iff_ne.2 n60
  clear nblank
  clear n47
  clear n62
  clear nm1
  clear n61
  clear n34
  clear n39
  clear n60
  go_enter Tryz.func134, Tryz.ntmps134
  go_wp2_with fail
  refine (isBlank_does c _).mono ?_
  rintro e w1 ⟨rfl, rfl⟩
  go_wp2_with fail
  refine (withoutNul_sz c h (by have := unhide HS; first | omega | (simp only [sz_wrong, sz_state, sz_addToComment, sz_setOdd, sz_newAtt, sz_setCloses, List.length_cons, List.length_nil]; omega))).mono ?_
  rintro e v1 ⟨rfl, h1⟩
  have q1 := sz_withoutNul s c
  go_wp2_with fail
  refine (low_does (withoutNulC c) _ (withoutNulC_in hc)).mono ?_
  rintro e u1 ⟨rfl, rfl⟩
  go_wp2_with fail
  refine (addToName_does (lowC (withoutNulC c)) (lowC_rn (withoutNulC_in hc)) (by rw [withoutNul_tag]; first | exact hat | (simp [newAtt]; done)) h1 (by have := unhide HS; first | omega | (simp only [sz_wrong, sz_newAtt] at q1; omega))).mono ?_
  rintro e w2 ⟨rfl, h1⟩
  clear q1
  go_wp2
  go_ret
  exact ⟨rfl, h1⟩

def lookInAfter (s : TS) (c : Int) : Int × TS :=
  if isBlankC c = true then (0, s) else
  if c = 47 then (0, { s with state := 17 }) else
  if c = 61 then (0, { s with state := 12 }) else
  if c = 62 then (0, (tellTag s)) else
  if c = -1 then (0, (dropTag s)) else
  (1, { (newAtt s) with state := 10 })

set_option maxHeartbeats 1000000 in
set_option maxRecDepth 1000000 in
theorem lookInAfter_does (c : Int) (hc : Rn c) (h : Tk w0 own0 b s ex w) (hs : sz s + 12 ≤ lim) :
    Calls Tryz.prog 135 #[.pointer (some ⟨b, 0, none⟩), .int .i32 c] w fun e w' => e = .returned (.int .i64 (lookInAfter s c).1) ∧ Tk w0 own0 b (lookInAfter s c).2 ex w' := by
  have HS := hide hs
  clear hs
  by_cases nblank : isBlankC c = true
  · have y := nblank
    clear nblank
    have hfin : lookInAfter s c = (0, s) := by simp [lookInAfter, y]
    rw [hfin]
    clear hfin
    go_enter Tryz.func135, Tryz.ntmps135
    go_wp2_with fail
    refine (isBlank_does c _).mono ?_
    rintro e w1 ⟨rfl, rfl⟩
    go_wp2
    go_ret
    exact ⟨rfl, h⟩
  by_cases n47 : c = 47
  · have y := n47
    clear n47
    subst y
    have hfin : lookInAfter s 47 = (0, { s with state := 17 }) := by simp [lookInAfter, nblank]
    rw [hfin]
    clear hfin
    have eblank : isBlankC 47 = false := Bool.eq_false_iff.2 nblank
    clear nblank
    go_enter Tryz.func135, Tryz.ntmps135
    go_wp2_with fail
    refine (isBlank_does 47 _).mono ?_
    rintro e w1 ⟨rfl, rfl⟩
    go_wp2_with fail
    refine (to_does 17 h).mono ?_
    rintro e w2 ⟨rfl, h1⟩
    go_wp2
    go_ret
    exact ⟨rfl, h1⟩
  by_cases n61 : c = 61
  · have y := n61
    clear n61
    subst y
    have hfin : lookInAfter s 61 = (0, { s with state := 12 }) := by simp [lookInAfter, nblank, n47]
    rw [hfin]
    clear hfin
    have eblank : isBlankC 61 = false := Bool.eq_false_iff.2 nblank
    have e47 : ((61 : Int) == 47) = false := beq_eq_false_iff_ne.2 n47
    clear nblank
    clear n47
    go_enter Tryz.func135, Tryz.ntmps135
    go_wp2_with fail
    refine (isBlank_does 61 _).mono ?_
    rintro e w1 ⟨rfl, rfl⟩
    go_wp2_with fail
    refine (to_does 12 h).mono ?_
    rintro e w2 ⟨rfl, h1⟩
    go_wp2
    go_ret
    exact ⟨rfl, h1⟩
  by_cases n62 : c = 62
  · have y := n62
    clear n62
    subst y
    have hfin : lookInAfter s 62 = (0, (tellTag s)) := by simp [lookInAfter, nblank, n47, n61]
    rw [hfin]
    clear hfin
    have eblank : isBlankC 62 = false := Bool.eq_false_iff.2 nblank
    have e47 : ((62 : Int) == 47) = false := beq_eq_false_iff_ne.2 n47
    have e61 : ((62 : Int) == 61) = false := beq_eq_false_iff_ne.2 n61
    clear nblank
    clear n47
    clear n61
    go_enter Tryz.func135, Tryz.ntmps135
    go_wp2_with fail
    refine (isBlank_does 62 _).mono ?_
    rintro e w1 ⟨rfl, rfl⟩
    go_wp2_with fail
    refine (tellTag_does h (by have := unhide HS; first | omega | (simp only [sz_wrong, sz_state, sz_addToComment, sz_setOdd, sz_newAtt, sz_setCloses, List.length_cons, List.length_nil]; omega))).mono ?_
    rintro e w2 ⟨rfl, h1⟩
    go_wp2
    go_ret
    exact ⟨rfl, h1⟩
  by_cases nm1 : c = -1
  · have y := nm1
    clear nm1
    subst y
    have hfin : lookInAfter s (-1) = (0, (dropTag s)) := by simp [lookInAfter, nblank, n47, n61, n62]
    rw [hfin]
    clear hfin
    have eblank : isBlankC (-1) = false := Bool.eq_false_iff.2 nblank
    have e47 : ((-1 : Int) == 47) = false := beq_eq_false_iff_ne.2 n47
    have e61 : ((-1 : Int) == 61) = false := beq_eq_false_iff_ne.2 n61
    have e62 : ((-1 : Int) == 62) = false := beq_eq_false_iff_ne.2 n62
    clear nblank
    clear n47
    clear n61
    clear n62
    go_enter Tryz.func135, Tryz.ntmps135
    go_wp2_with fail
    refine (isBlank_does (-1) _).mono ?_
    rintro e w1 ⟨rfl, rfl⟩
    go_wp2_with fail
    refine (dropTag_does h (by have := unhide HS; first | omega | (simp only [sz_wrong, sz_state, sz_addToComment, sz_setOdd, sz_newAtt, sz_setCloses, List.length_cons, List.length_nil]; omega))).mono ?_
    rintro e w2 ⟨rfl, h1⟩
    go_wp2
    go_ret
    exact ⟨rfl, h1⟩
  have hfin : lookInAfter s c = (1, { (newAtt s) with state := 10 }) := by simp [lookInAfter, nblank, n47, n61, n62, nm1]
  rw [hfin]
  clear hfin
  have eblank : isBlankC c = false := Bool.eq_false_iff.2 nblank
  have e47 : ((c : Int) == 47) = false := beq_eq_false_iff_ne.2 n47
  have e61 : ((c : Int) == 61) = false := beq_eq_false_iff_ne.2 n61
  have e62 : ((c : Int) == 62) = false := beq_eq_false_iff_ne.2 n62
  have em1 : ((c : Int) == -1) = false := beq_eq_false_iff_ne.2 nm1
  clear nblank
  clear n47
  clear n61
  clear n62
  clear nm1
  go_enter Tryz.func135, Tryz.ntmps135
  go_wp2_with fail
  refine (isBlank_does c _).mono ?_
  rintro e w1 ⟨rfl, rfl⟩
  go_wp2_with fail
  refine (newAttribute_does h (by have := unhide HS; first | omega | (simp only [sz_wrong, sz_state, sz_addToComment, sz_setOdd, sz_newAtt, sz_setCloses, List.length_cons, List.length_nil]; omega))).mono ?_
  rintro e w2 ⟨rfl, h1⟩
  go_wp2_with fail
  refine (again_does 10 h1).mono ?_
  rintro e w3 ⟨rfl, h2⟩
  go_wp2
  go_ret
  exact ⟨rfl, h2⟩

def lookInEquals (s : TS) (c : Int) : Int × TS :=
  if isBlankC c = true then (0, s) else
  if c = 34 then (0, { s with state := 13 }) else
  if c = 39 then (0, { s with state := 14 }) else
  if c = 62 then (0, (tellTag (wrong s [110, 111, 45, 118, 97, 108, 117, 101]))) else
  (1, { s with state := 15 })

set_option maxHeartbeats 1000000 in
set_option maxRecDepth 1000000 in
theorem lookInEquals_does (c : Int) (hc : Rn c) (h : Tk w0 own0 b s ex w) (hs : sz s + 12 ≤ lim) :
    Calls Tryz.prog 136 #[.pointer (some ⟨b, 0, none⟩), .int .i32 c] w fun e w' => e = .returned (.int .i64 (lookInEquals s c).1) ∧ Tk w0 own0 b (lookInEquals s c).2 ex w' := by
  have HS := hide hs
  clear hs
  by_cases nblank : isBlankC c = true
  · have y := nblank
    clear nblank
    have hfin : lookInEquals s c = (0, s) := by simp [lookInEquals, y]
    rw [hfin]
    clear hfin
    go_enter Tryz.func136, Tryz.ntmps136
    go_wp2_with fail
    refine (isBlank_does c _).mono ?_
    rintro e w1 ⟨rfl, rfl⟩
    go_wp2
    go_ret
    exact ⟨rfl, h⟩
  by_cases n34 : c = 34
  · have y := n34
    clear n34
    subst y
    have hfin : lookInEquals s 34 = (0, { s with state := 13 }) := by simp [lookInEquals, nblank]
    rw [hfin]
    clear hfin
    have eblank : isBlankC 34 = false := Bool.eq_false_iff.2 nblank
    clear nblank
    go_enter Tryz.func136, Tryz.ntmps136
    go_wp2_with fail
    refine (isBlank_does 34 _).mono ?_
    rintro e w1 ⟨rfl, rfl⟩
    go_wp2_with fail
    refine (to_does 13 h).mono ?_
    rintro e w2 ⟨rfl, h1⟩
    go_wp2
    go_ret
    exact ⟨rfl, h1⟩
  by_cases n39 : c = 39
  · have y := n39
    clear n39
    subst y
    have hfin : lookInEquals s 39 = (0, { s with state := 14 }) := by simp [lookInEquals, nblank, n34]
    rw [hfin]
    clear hfin
    have eblank : isBlankC 39 = false := Bool.eq_false_iff.2 nblank
    have e34 : ((39 : Int) == 34) = false := beq_eq_false_iff_ne.2 n34
    clear nblank
    clear n34
    go_enter Tryz.func136, Tryz.ntmps136
    go_wp2_with fail
    refine (isBlank_does 39 _).mono ?_
    rintro e w1 ⟨rfl, rfl⟩
    go_wp2_with fail
    refine (to_does 14 h).mono ?_
    rintro e w2 ⟨rfl, h1⟩
    go_wp2
    go_ret
    exact ⟨rfl, h1⟩
  by_cases n62 : c = 62
  · have y := n62
    clear n62
    subst y
    have hfin : lookInEquals s 62 = (0, (tellTag (wrong s [110, 111, 45, 118, 97, 108, 117, 101]))) := by simp [lookInEquals, nblank, n34, n39]
    rw [hfin]
    clear hfin
    have eblank : isBlankC 62 = false := Bool.eq_false_iff.2 nblank
    have e34 : ((62 : Int) == 34) = false := beq_eq_false_iff_ne.2 n34
    have e39 : ((62 : Int) == 39) = false := beq_eq_false_iff_ne.2 n39
    clear nblank
    clear n34
    clear n39
    go_enter Tryz.func136, Tryz.ntmps136
    go_wp2_with fail
    refine (isBlank_does 62 _).mono ?_
    rintro e w1 ⟨rfl, rfl⟩
    go_wp2_with fail
    refine (wrong_sz [110, 111, 45, 118, 97, 108, 117, 101] h (by have := unhide HS; first | omega | (simp only [sz_wrong, sz_state, sz_addToComment, sz_setOdd, sz_newAtt, sz_setCloses, List.length_cons, List.length_nil]; omega))).mono ?_
    rintro e w2 ⟨rfl, h1⟩
    go_wp2_with fail
    refine (tellTag_does h1 (by have := unhide HS; first | omega | (simp only [sz_wrong, sz_state, sz_addToComment, sz_setOdd, sz_newAtt, sz_setCloses, List.length_cons, List.length_nil]; omega))).mono ?_
    rintro e w3 ⟨rfl, h2⟩
    go_wp2
    go_ret
    exact ⟨rfl, h2⟩
  have hfin : lookInEquals s c = (1, { s with state := 15 }) := by simp [lookInEquals, nblank, n34, n39, n62]
  rw [hfin]
  clear hfin
  have eblank : isBlankC c = false := Bool.eq_false_iff.2 nblank
  have e34 : ((c : Int) == 34) = false := beq_eq_false_iff_ne.2 n34
  have e39 : ((c : Int) == 39) = false := beq_eq_false_iff_ne.2 n39
  have e62 : ((c : Int) == 62) = false := beq_eq_false_iff_ne.2 n62
  clear nblank
  clear n34
  clear n39
  clear n62
  go_enter Tryz.func136, Tryz.ntmps136
  go_wp2_with fail
  refine (isBlank_does c _).mono ?_
  rintro e w1 ⟨rfl, rfl⟩
  go_wp2_with fail
  refine (again_does 15 h).mono ?_
  rintro e w2 ⟨rfl, h1⟩
  go_wp2
  go_ret
  exact ⟨rfl, h1⟩

def lookInPlain (s : TS) (c : Int) : Int × TS :=
  if isBlankC c = true then (0, { s with state := 9 }) else
  if c = 38 then (0, (toReference s)) else
  if c = 62 then (0, (tellTag s)) else
  if c = -1 then (0, (dropTag s)) else
  if c = 34 ∨ c = 39 ∨ c = 60 ∨ c = 61 ∨ c = 96 then (0, (addToValue (withoutNul (wrong s [115, 105, 103, 110]) c) (withoutNulC c))) else
  (0, (addToValue (withoutNul s c) (withoutNulC c)))

set_option maxHeartbeats 1000000 in
set_option maxRecDepth 1000000 in
theorem lookInPlain_does (c : Int) (hc : Rn c) (hat : s.tag.atts ≠ []) (h : Tk w0 own0 b s ex w) (hs : sz s + 16 ≤ lim) :
    Calls Tryz.prog 138 #[.pointer (some ⟨b, 0, none⟩), .int .i32 c] w fun e w' => e = .returned (.int .i64 (lookInPlain s c).1) ∧ Tk w0 own0 b (lookInPlain s c).2 ex w' := by
  have HS := hide hs
  clear hs
  by_cases nblank : isBlankC c = true
  · have y := nblank
    clear nblank
    have hfin : lookInPlain s c = (0, { s with state := 9 }) := by simp [lookInPlain, y]
    rw [hfin]
    clear hfin
    go_enter Tryz.func138, Tryz.ntmps138
    go_wp2_with fail
    refine (isBlank_does c _).mono ?_
    rintro e w1 ⟨rfl, rfl⟩
    go_wp2_with fail
    refine (to_does 9 h).mono ?_
    rintro e w2 ⟨rfl, h1⟩
    go_wp2
    go_ret
    exact ⟨rfl, h1⟩
  by_cases n38 : c = 38
  · have y := n38
    clear n38
    subst y
    have hfin : lookInPlain s 38 = (0, (toReference s)) := by simp [lookInPlain, nblank]
    rw [hfin]
    clear hfin
    have eblank : isBlankC 38 = false := Bool.eq_false_iff.2 nblank
    clear nblank
    go_enter Tryz.func138, Tryz.ntmps138
    go_wp2_with fail
    refine (isBlank_does 38 _).mono ?_
    rintro e w1 ⟨rfl, rfl⟩
    go_wp2_with fail
    refine (toReference_does h (by have := unhide HS; first | omega | (simp only [sz_wrong, sz_state, sz_addToComment, sz_setOdd, sz_newAtt, sz_setCloses, List.length_cons, List.length_nil]; omega))).mono ?_
    rintro e w2 ⟨rfl, h1⟩
    go_wp2
    go_ret
    exact ⟨rfl, h1⟩
  by_cases n62 : c = 62
  · have y := n62
    clear n62
    subst y
    have hfin : lookInPlain s 62 = (0, (tellTag s)) := by simp [lookInPlain, nblank, n38]
    rw [hfin]
    clear hfin
    have eblank : isBlankC 62 = false := Bool.eq_false_iff.2 nblank
    have e38 : ((62 : Int) == 38) = false := beq_eq_false_iff_ne.2 n38
    clear nblank
    clear n38
    go_enter Tryz.func138, Tryz.ntmps138
    go_wp2_with fail
    refine (isBlank_does 62 _).mono ?_
    rintro e w1 ⟨rfl, rfl⟩
    go_wp2_with fail
    refine (tellTag_does h (by have := unhide HS; first | omega | (simp only [sz_wrong, sz_state, sz_addToComment, sz_setOdd, sz_newAtt, sz_setCloses, List.length_cons, List.length_nil]; omega))).mono ?_
    rintro e w2 ⟨rfl, h1⟩
    go_wp2
    go_ret
    exact ⟨rfl, h1⟩
  by_cases nm1 : c = -1
  · have y := nm1
    clear nm1
    subst y
    have hfin : lookInPlain s (-1) = (0, (dropTag s)) := by simp [lookInPlain, nblank, n38, n62]
    rw [hfin]
    clear hfin
    have eblank : isBlankC (-1) = false := Bool.eq_false_iff.2 nblank
    have e38 : ((-1 : Int) == 38) = false := beq_eq_false_iff_ne.2 n38
    have e62 : ((-1 : Int) == 62) = false := beq_eq_false_iff_ne.2 n62
    clear nblank
    clear n38
    clear n62
    go_enter Tryz.func138, Tryz.ntmps138
    go_wp2_with fail
    refine (isBlank_does (-1) _).mono ?_
    rintro e w1 ⟨rfl, rfl⟩
    go_wp2_with fail
    refine (dropTag_does h (by have := unhide HS; first | omega | (simp only [sz_wrong, sz_state, sz_addToComment, sz_setOdd, sz_newAtt, sz_setCloses, List.length_cons, List.length_nil]; omega))).mono ?_
    rintro e w2 ⟨rfl, h1⟩
    go_wp2
    go_ret
    exact ⟨rfl, h1⟩
  by_cases n34 : c = 34
  · have y := n34
    clear n34
    subst y
    have hfin : lookInPlain s 34 = (0, (addToValue (withoutNul (wrong s [115, 105, 103, 110]) 34) (withoutNulC 34))) := by simp [lookInPlain, nblank, n38, n62, nm1]
    rw [hfin]
    clear hfin
    have eblank : isBlankC 34 = false := Bool.eq_false_iff.2 nblank
    have e38 : ((34 : Int) == 38) = false := beq_eq_false_iff_ne.2 n38
    have e62 : ((34 : Int) == 62) = false := beq_eq_false_iff_ne.2 n62
    have em1 : ((34 : Int) == -1) = false := beq_eq_false_iff_ne.2 nm1
    clear nblank
    clear n38
    clear n62
    clear nm1
    go_enter Tryz.func138, Tryz.ntmps138
    go_wp2_with fail
    refine (isBlank_does 34 _).mono ?_
    rintro e w1 ⟨rfl, rfl⟩
    go_wp2_with fail
    refine (wrong_sz [115, 105, 103, 110] h (by have := unhide HS; first | omega | (simp only [sz_wrong, sz_state, sz_addToComment, sz_setOdd, sz_newAtt, sz_setCloses, List.length_cons, List.length_nil]; omega))).mono ?_
    rintro e w2 ⟨rfl, h1⟩
    go_wp2_with fail
    refine (withoutNul_sz 34 h1 (by have := unhide HS; first | omega | (simp only [sz_wrong, sz_state, sz_addToComment, sz_setOdd, sz_newAtt, sz_setCloses, List.length_cons, List.length_nil]; omega))).mono ?_
    rintro e v2 ⟨rfl, h2⟩
    have q2 := sz_withoutNul (wrong s [115, 105, 103, 110]) 34
    go_wp2_with fail
    refine (addToValue_does (withoutNulC 34) (withoutNulC_in hc) (by rw [withoutNul_tag]; first | exact hat | (simp [newAtt]; done)) h2 (by have := unhide HS; first | omega | (simp only [sz_wrong, sz_newAtt] at q2; omega))).mono ?_
    rintro e w3 ⟨rfl, h2⟩
    clear q2
    go_wp2
    go_ret
    exact ⟨rfl, h2⟩
  by_cases n39 : c = 39
  · have y := n39
    clear n39
    subst y
    have hfin : lookInPlain s 39 = (0, (addToValue (withoutNul (wrong s [115, 105, 103, 110]) 39) (withoutNulC 39))) := by simp [lookInPlain, nblank, n38, n62, nm1, n34]
    rw [hfin]
    clear hfin
    have eblank : isBlankC 39 = false := Bool.eq_false_iff.2 nblank
    have e38 : ((39 : Int) == 38) = false := beq_eq_false_iff_ne.2 n38
    have e62 : ((39 : Int) == 62) = false := beq_eq_false_iff_ne.2 n62
    have em1 : ((39 : Int) == -1) = false := beq_eq_false_iff_ne.2 nm1
    have e34 : ((39 : Int) == 34) = false := beq_eq_false_iff_ne.2 n34
    clear nblank
    clear n38
    clear n62
    clear nm1
    clear n34
    go_enter Tryz.func138, Tryz.ntmps138
    go_wp2_with fail
    refine (isBlank_does 39 _).mono ?_
    rintro e w1 ⟨rfl, rfl⟩
    go_wp2_with fail
    refine (wrong_sz [115, 105, 103, 110] h (by have := unhide HS; first | omega | (simp only [sz_wrong, sz_state, sz_addToComment, sz_setOdd, sz_newAtt, sz_setCloses, List.length_cons, List.length_nil]; omega))).mono ?_
    rintro e w2 ⟨rfl, h1⟩
    go_wp2_with fail
    refine (withoutNul_sz 39 h1 (by have := unhide HS; first | omega | (simp only [sz_wrong, sz_state, sz_addToComment, sz_setOdd, sz_newAtt, sz_setCloses, List.length_cons, List.length_nil]; omega))).mono ?_
    rintro e v2 ⟨rfl, h2⟩
    have q2 := sz_withoutNul (wrong s [115, 105, 103, 110]) 39
    go_wp2_with fail
    refine (addToValue_does (withoutNulC 39) (withoutNulC_in hc) (by rw [withoutNul_tag]; first | exact hat | (simp [newAtt]; done)) h2 (by have := unhide HS; first | omega | (simp only [sz_wrong, sz_newAtt] at q2; omega))).mono ?_
    rintro e w3 ⟨rfl, h2⟩
    clear q2
    go_wp2
    go_ret
    exact ⟨rfl, h2⟩
  by_cases n60 : c = 60
  · have y := n60
    clear n60
    subst y
    have hfin : lookInPlain s 60 = (0, (addToValue (withoutNul (wrong s [115, 105, 103, 110]) 60) (withoutNulC 60))) := by simp [lookInPlain, nblank, n38, n62, nm1, n34, n39]
    rw [hfin]
    clear hfin
    have eblank : isBlankC 60 = false := Bool.eq_false_iff.2 nblank
    have e38 : ((60 : Int) == 38) = false := beq_eq_false_iff_ne.2 n38
    have e62 : ((60 : Int) == 62) = false := beq_eq_false_iff_ne.2 n62
    have em1 : ((60 : Int) == -1) = false := beq_eq_false_iff_ne.2 nm1
    have e34 : ((60 : Int) == 34) = false := beq_eq_false_iff_ne.2 n34
    have e39 : ((60 : Int) == 39) = false := beq_eq_false_iff_ne.2 n39
    clear nblank
    clear n38
    clear n62
    clear nm1
    clear n34
    clear n39
    go_enter Tryz.func138, Tryz.ntmps138
    go_wp2_with fail
    refine (isBlank_does 60 _).mono ?_
    rintro e w1 ⟨rfl, rfl⟩
    go_wp2_with fail
    refine (wrong_sz [115, 105, 103, 110] h (by have := unhide HS; first | omega | (simp only [sz_wrong, sz_state, sz_addToComment, sz_setOdd, sz_newAtt, sz_setCloses, List.length_cons, List.length_nil]; omega))).mono ?_
    rintro e w2 ⟨rfl, h1⟩
    go_wp2_with fail
    refine (withoutNul_sz 60 h1 (by have := unhide HS; first | omega | (simp only [sz_wrong, sz_state, sz_addToComment, sz_setOdd, sz_newAtt, sz_setCloses, List.length_cons, List.length_nil]; omega))).mono ?_
    rintro e v2 ⟨rfl, h2⟩
    have q2 := sz_withoutNul (wrong s [115, 105, 103, 110]) 60
    go_wp2_with fail
    refine (addToValue_does (withoutNulC 60) (withoutNulC_in hc) (by rw [withoutNul_tag]; first | exact hat | (simp [newAtt]; done)) h2 (by have := unhide HS; first | omega | (simp only [sz_wrong, sz_newAtt] at q2; omega))).mono ?_
    rintro e w3 ⟨rfl, h2⟩
    clear q2
    go_wp2
    go_ret
    exact ⟨rfl, h2⟩
  by_cases n61 : c = 61
  · have y := n61
    clear n61
    subst y
    have hfin : lookInPlain s 61 = (0, (addToValue (withoutNul (wrong s [115, 105, 103, 110]) 61) (withoutNulC 61))) := by simp [lookInPlain, nblank, n38, n62, nm1, n34, n39, n60]
    rw [hfin]
    clear hfin
    have eblank : isBlankC 61 = false := Bool.eq_false_iff.2 nblank
    have e38 : ((61 : Int) == 38) = false := beq_eq_false_iff_ne.2 n38
    have e62 : ((61 : Int) == 62) = false := beq_eq_false_iff_ne.2 n62
    have em1 : ((61 : Int) == -1) = false := beq_eq_false_iff_ne.2 nm1
    have e34 : ((61 : Int) == 34) = false := beq_eq_false_iff_ne.2 n34
    have e39 : ((61 : Int) == 39) = false := beq_eq_false_iff_ne.2 n39
    have e60 : ((61 : Int) == 60) = false := beq_eq_false_iff_ne.2 n60
    clear nblank
    clear n38
    clear n62
    clear nm1
    clear n34
    clear n39
    clear n60
    go_enter Tryz.func138, Tryz.ntmps138
    go_wp2_with fail
    refine (isBlank_does 61 _).mono ?_
    rintro e w1 ⟨rfl, rfl⟩
    go_wp2_with fail
    refine (wrong_sz [115, 105, 103, 110] h (by have := unhide HS; first | omega | (simp only [sz_wrong, sz_state, sz_addToComment, sz_setOdd, sz_newAtt, sz_setCloses, List.length_cons, List.length_nil]; omega))).mono ?_
    rintro e w2 ⟨rfl, h1⟩
    go_wp2_with fail
    refine (withoutNul_sz 61 h1 (by have := unhide HS; first | omega | (simp only [sz_wrong, sz_state, sz_addToComment, sz_setOdd, sz_newAtt, sz_setCloses, List.length_cons, List.length_nil]; omega))).mono ?_
    rintro e v2 ⟨rfl, h2⟩
    have q2 := sz_withoutNul (wrong s [115, 105, 103, 110]) 61
    go_wp2_with fail
    refine (addToValue_does (withoutNulC 61) (withoutNulC_in hc) (by rw [withoutNul_tag]; first | exact hat | (simp [newAtt]; done)) h2 (by have := unhide HS; first | omega | (simp only [sz_wrong, sz_newAtt] at q2; omega))).mono ?_
    rintro e w3 ⟨rfl, h2⟩
    clear q2
    go_wp2
    go_ret
    exact ⟨rfl, h2⟩
  by_cases n96 : c = 96
  · have y := n96
    clear n96
    subst y
    have hfin : lookInPlain s 96 = (0, (addToValue (withoutNul (wrong s [115, 105, 103, 110]) 96) (withoutNulC 96))) := by simp [lookInPlain, nblank, n38, n62, nm1, n34, n39, n60, n61]
    rw [hfin]
    clear hfin
    have eblank : isBlankC 96 = false := Bool.eq_false_iff.2 nblank
    have e38 : ((96 : Int) == 38) = false := beq_eq_false_iff_ne.2 n38
    have e62 : ((96 : Int) == 62) = false := beq_eq_false_iff_ne.2 n62
    have em1 : ((96 : Int) == -1) = false := beq_eq_false_iff_ne.2 nm1
    have e34 : ((96 : Int) == 34) = false := beq_eq_false_iff_ne.2 n34
    have e39 : ((96 : Int) == 39) = false := beq_eq_false_iff_ne.2 n39
    have e60 : ((96 : Int) == 60) = false := beq_eq_false_iff_ne.2 n60
    have e61 : ((96 : Int) == 61) = false := beq_eq_false_iff_ne.2 n61
    clear nblank
    clear n38
    clear n62
    clear nm1
    clear n34
    clear n39
    clear n60
    clear n61
    go_enter Tryz.func138, Tryz.ntmps138
    go_wp2_with fail
    refine (isBlank_does 96 _).mono ?_
    rintro e w1 ⟨rfl, rfl⟩
    go_wp2_with fail
    refine (wrong_sz [115, 105, 103, 110] h (by have := unhide HS; first | omega | (simp only [sz_wrong, sz_state, sz_addToComment, sz_setOdd, sz_newAtt, sz_setCloses, List.length_cons, List.length_nil]; omega))).mono ?_
    rintro e w2 ⟨rfl, h1⟩
    go_wp2_with fail
    refine (withoutNul_sz 96 h1 (by have := unhide HS; first | omega | (simp only [sz_wrong, sz_state, sz_addToComment, sz_setOdd, sz_newAtt, sz_setCloses, List.length_cons, List.length_nil]; omega))).mono ?_
    rintro e v2 ⟨rfl, h2⟩
    have q2 := sz_withoutNul (wrong s [115, 105, 103, 110]) 96
    go_wp2_with fail
    refine (addToValue_does (withoutNulC 96) (withoutNulC_in hc) (by rw [withoutNul_tag]; first | exact hat | (simp [newAtt]; done)) h2 (by have := unhide HS; first | omega | (simp only [sz_wrong, sz_newAtt] at q2; omega))).mono ?_
    rintro e w3 ⟨rfl, h2⟩
    clear q2
    go_wp2
    go_ret
    exact ⟨rfl, h2⟩
  have hfin : lookInPlain s c = (0, (addToValue (withoutNul s c) (withoutNulC c))) := by simp [lookInPlain, nblank, n38, n62, nm1, n34, n39, n60, n61, n96]
  rw [hfin]
  clear hfin
  have eblank : isBlankC c = false := Bool.eq_false_iff.2 nblank
  have e38 : ((c : Int) == 38) = false := beq_eq_false_iff_ne.2 n38
  have e62 : ((c : Int) == 62) = false := beq_eq_false_iff_ne.2 n62
  have em1 : ((c : Int) == -1) = false := beq_eq_false_iff_ne.2 nm1
  have e34 : ((c : Int) == 34) = false := beq_eq_false_iff_ne.2 n34
  have e39 : ((c : Int) == 39) = false := beq_eq_false_iff_ne.2 n39
  have e60 : ((c : Int) == 60) = false := beq_eq_false_iff_ne.2 n60
  have e61 : ((c : Int) == 61) = false := beq_eq_false_iff_ne.2 n61
  have e96 : ((c : Int) == 96) = false := beq_eq_false_iff_ne.2 n96
  clear nblank
  clear n38
  clear n62
  clear nm1
  clear n34
  clear n39
  clear n60
  clear n61
  clear n96
  go_enter Tryz.func138, Tryz.ntmps138
  go_wp2_with fail
  refine (isBlank_does c _).mono ?_
  rintro e w1 ⟨rfl, rfl⟩
  go_wp2_with fail
  refine (withoutNul_sz c h (by have := unhide HS; first | omega | (simp only [sz_wrong, sz_state, sz_addToComment, sz_setOdd, sz_newAtt, sz_setCloses, List.length_cons, List.length_nil]; omega))).mono ?_
  rintro e v1 ⟨rfl, h1⟩
  have q1 := sz_withoutNul s c
  go_wp2_with fail
  refine (addToValue_does (withoutNulC c) (withoutNulC_in hc) (by rw [withoutNul_tag]; first | exact hat | (simp [newAtt]; done)) h1 (by have := unhide HS; first | omega | (simp only [sz_wrong, sz_newAtt] at q1; omega))).mono ?_
  rintro e w2 ⟨rfl, h1⟩
  clear q1
  go_wp2
  go_ret
  exact ⟨rfl, h1⟩

def lookInValue (s : TS) (c : Int) : Int × TS :=
  if isBlankC c = true then (0, { s with state := 9 }) else
  if c = 47 then (0, { s with state := 17 }) else
  if c = 62 then (0, (tellTag s)) else
  if c = -1 then (0, (dropTag s)) else
  (1, { (wrong s [110, 111, 45, 98, 108, 97, 110, 107]) with state := 9 })

set_option maxHeartbeats 1000000 in
set_option maxRecDepth 1000000 in
theorem lookInValue_does (c : Int) (hc : Rn c) (h : Tk w0 own0 b s ex w) (hs : sz s + 12 ≤ lim) :
    Calls Tryz.prog 139 #[.pointer (some ⟨b, 0, none⟩), .int .i32 c] w fun e w' => e = .returned (.int .i64 (lookInValue s c).1) ∧ Tk w0 own0 b (lookInValue s c).2 ex w' := by
  have HS := hide hs
  clear hs
  by_cases nblank : isBlankC c = true
  · have y := nblank
    clear nblank
    have hfin : lookInValue s c = (0, { s with state := 9 }) := by simp [lookInValue, y]
    rw [hfin]
    clear hfin
    go_enter Tryz.func139, Tryz.ntmps139
    go_wp2_with fail
    refine (isBlank_does c _).mono ?_
    rintro e w1 ⟨rfl, rfl⟩
    go_wp2_with fail
    refine (to_does 9 h).mono ?_
    rintro e w2 ⟨rfl, h1⟩
    go_wp2
    go_ret
    exact ⟨rfl, h1⟩
  by_cases n47 : c = 47
  · have y := n47
    clear n47
    subst y
    have hfin : lookInValue s 47 = (0, { s with state := 17 }) := by simp [lookInValue, nblank]
    rw [hfin]
    clear hfin
    have eblank : isBlankC 47 = false := Bool.eq_false_iff.2 nblank
    clear nblank
    go_enter Tryz.func139, Tryz.ntmps139
    go_wp2_with fail
    refine (isBlank_does 47 _).mono ?_
    rintro e w1 ⟨rfl, rfl⟩
    go_wp2_with fail
    refine (to_does 17 h).mono ?_
    rintro e w2 ⟨rfl, h1⟩
    go_wp2
    go_ret
    exact ⟨rfl, h1⟩
  by_cases n62 : c = 62
  · have y := n62
    clear n62
    subst y
    have hfin : lookInValue s 62 = (0, (tellTag s)) := by simp [lookInValue, nblank, n47]
    rw [hfin]
    clear hfin
    have eblank : isBlankC 62 = false := Bool.eq_false_iff.2 nblank
    have e47 : ((62 : Int) == 47) = false := beq_eq_false_iff_ne.2 n47
    clear nblank
    clear n47
    go_enter Tryz.func139, Tryz.ntmps139
    go_wp2_with fail
    refine (isBlank_does 62 _).mono ?_
    rintro e w1 ⟨rfl, rfl⟩
    go_wp2_with fail
    refine (tellTag_does h (by have := unhide HS; first | omega | (simp only [sz_wrong, sz_state, sz_addToComment, sz_setOdd, sz_newAtt, sz_setCloses, List.length_cons, List.length_nil]; omega))).mono ?_
    rintro e w2 ⟨rfl, h1⟩
    go_wp2
    go_ret
    exact ⟨rfl, h1⟩
  by_cases nm1 : c = -1
  · have y := nm1
    clear nm1
    subst y
    have hfin : lookInValue s (-1) = (0, (dropTag s)) := by simp [lookInValue, nblank, n47, n62]
    rw [hfin]
    clear hfin
    have eblank : isBlankC (-1) = false := Bool.eq_false_iff.2 nblank
    have e47 : ((-1 : Int) == 47) = false := beq_eq_false_iff_ne.2 n47
    have e62 : ((-1 : Int) == 62) = false := beq_eq_false_iff_ne.2 n62
    clear nblank
    clear n47
    clear n62
    go_enter Tryz.func139, Tryz.ntmps139
    go_wp2_with fail
    refine (isBlank_does (-1) _).mono ?_
    rintro e w1 ⟨rfl, rfl⟩
    go_wp2_with fail
    refine (dropTag_does h (by have := unhide HS; first | omega | (simp only [sz_wrong, sz_state, sz_addToComment, sz_setOdd, sz_newAtt, sz_setCloses, List.length_cons, List.length_nil]; omega))).mono ?_
    rintro e w2 ⟨rfl, h1⟩
    go_wp2
    go_ret
    exact ⟨rfl, h1⟩
  have hfin : lookInValue s c = (1, { (wrong s [110, 111, 45, 98, 108, 97, 110, 107]) with state := 9 }) := by simp [lookInValue, nblank, n47, n62, nm1]
  rw [hfin]
  clear hfin
  have eblank : isBlankC c = false := Bool.eq_false_iff.2 nblank
  have e47 : ((c : Int) == 47) = false := beq_eq_false_iff_ne.2 n47
  have e62 : ((c : Int) == 62) = false := beq_eq_false_iff_ne.2 n62
  have em1 : ((c : Int) == -1) = false := beq_eq_false_iff_ne.2 nm1
  clear nblank
  clear n47
  clear n62
  clear nm1
  go_enter Tryz.func139, Tryz.ntmps139
  go_wp2_with fail
  refine (isBlank_does c _).mono ?_
  rintro e w1 ⟨rfl, rfl⟩
  go_wp2_with fail
  refine (wrong_sz [110, 111, 45, 98, 108, 97, 110, 107] h (by have := unhide HS; first | omega | (simp only [sz_wrong, sz_state, sz_addToComment, sz_setOdd, sz_newAtt, sz_setCloses, List.length_cons, List.length_nil]; omega))).mono ?_
  rintro e w2 ⟨rfl, h1⟩
  go_wp2_with fail
  refine (again_does 9 h1).mono ?_
  rintro e w3 ⟨rfl, h2⟩
  go_wp2
  go_ret
  exact ⟨rfl, h2⟩

def lookInDouble (s : TS) (c : Int) : Int × TS :=
  if c = 34 then (0, { s with state := 16 }) else
  if c = 38 then (0, (toReference s)) else
  if c = -1 then (0, (dropTag s)) else
  (0, (addToValue (withoutNul s c) (withoutNulC c)))

set_option maxHeartbeats 1000000 in
set_option maxRecDepth 1000000 in
theorem lookInDouble_does (c : Int) (hc : Rn c) (hat : s.tag.atts ≠ []) (h : Tk w0 own0 b s ex w) (hs : sz s + 16 ≤ lim) :
    Calls Tryz.prog 137 #[.pointer (some ⟨b, 0, none⟩), .int .i32 c, .int .i32 34] w fun e w' => e = .returned (.int .i64 (lookInDouble s c).1) ∧ Tk w0 own0 b (lookInDouble s c).2 ex w' := by
  have HS := hide hs
  clear hs
  by_cases n34 : c = 34
  · have y := n34
    clear n34
    subst y
    have hfin : lookInDouble s 34 = (0, { s with state := 16 }) := by simp [lookInDouble]
    rw [hfin]
    clear hfin
    go_enter Tryz.func137, Tryz.ntmps137
    go_wp2_with fail
    refine (to_does 16 h).mono ?_
    rintro e w2 ⟨rfl, h1⟩
    go_wp2
    go_ret
    exact ⟨rfl, h1⟩
  by_cases n38 : c = 38
  · have y := n38
    clear n38
    subst y
    have hfin : lookInDouble s 38 = (0, (toReference s)) := by simp [lookInDouble, n34]
    rw [hfin]
    clear hfin
    have e34 : ((38 : Int) == 34) = false := beq_eq_false_iff_ne.2 n34
    clear n34
    go_enter Tryz.func137, Tryz.ntmps137
    go_wp2_with fail
    refine (toReference_does h (by have := unhide HS; first | omega | (simp only [sz_wrong, sz_state, sz_addToComment, sz_setOdd, sz_newAtt, sz_setCloses, List.length_cons, List.length_nil]; omega))).mono ?_
    rintro e w2 ⟨rfl, h1⟩
    go_wp2
    go_ret
    exact ⟨rfl, h1⟩
  by_cases nm1 : c = -1
  · have y := nm1
    clear nm1
    subst y
    have hfin : lookInDouble s (-1) = (0, (dropTag s)) := by simp [lookInDouble, n34, n38]
    rw [hfin]
    clear hfin
    have e34 : ((-1 : Int) == 34) = false := beq_eq_false_iff_ne.2 n34
    have e38 : ((-1 : Int) == 38) = false := beq_eq_false_iff_ne.2 n38
    clear n34
    clear n38
    go_enter Tryz.func137, Tryz.ntmps137
    go_wp2_with fail
    refine (dropTag_does h (by have := unhide HS; first | omega | (simp only [sz_wrong, sz_state, sz_addToComment, sz_setOdd, sz_newAtt, sz_setCloses, List.length_cons, List.length_nil]; omega))).mono ?_
    rintro e w2 ⟨rfl, h1⟩
    go_wp2
    go_ret
    exact ⟨rfl, h1⟩
  have hfin : lookInDouble s c = (0, (addToValue (withoutNul s c) (withoutNulC c))) := by simp [lookInDouble, n34, n38, nm1]
  rw [hfin]
  clear hfin
  have e34 : ((c : Int) == 34) = false := beq_eq_false_iff_ne.2 n34
  have e38 : ((c : Int) == 38) = false := beq_eq_false_iff_ne.2 n38
  have em1 : ((c : Int) == -1) = false := beq_eq_false_iff_ne.2 nm1
  clear n34
  clear n38
  clear nm1
  go_enter Tryz.func137, Tryz.ntmps137
  go_wp2_with fail
  refine (withoutNul_sz c h (by have := unhide HS; first | omega | (simp only [sz_wrong, sz_state, sz_addToComment, sz_setOdd, sz_newAtt, sz_setCloses, List.length_cons, List.length_nil]; omega))).mono ?_
  rintro e v1 ⟨rfl, h1⟩
  have q1 := sz_withoutNul s c
  go_wp2_with fail
  refine (addToValue_does (withoutNulC c) (withoutNulC_in hc) (by rw [withoutNul_tag]; first | exact hat | (simp [newAtt]; done)) h1 (by have := unhide HS; first | omega | (simp only [sz_wrong, sz_newAtt] at q1; omega))).mono ?_
  rintro e w2 ⟨rfl, h1⟩
  clear q1
  go_wp2
  go_ret
  exact ⟨rfl, h1⟩

def lookInSingle (s : TS) (c : Int) : Int × TS :=
  if c = 39 then (0, { s with state := 16 }) else
  if c = 38 then (0, (toReference s)) else
  if c = -1 then (0, (dropTag s)) else
  (0, (addToValue (withoutNul s c) (withoutNulC c)))

set_option maxHeartbeats 1000000 in
set_option maxRecDepth 1000000 in
theorem lookInSingle_does (c : Int) (hc : Rn c) (hat : s.tag.atts ≠ []) (h : Tk w0 own0 b s ex w) (hs : sz s + 16 ≤ lim) :
    Calls Tryz.prog 137 #[.pointer (some ⟨b, 0, none⟩), .int .i32 c, .int .i32 39] w fun e w' => e = .returned (.int .i64 (lookInSingle s c).1) ∧ Tk w0 own0 b (lookInSingle s c).2 ex w' := by
  have HS := hide hs
  clear hs
  by_cases n39 : c = 39
  · have y := n39
    clear n39
    subst y
    have hfin : lookInSingle s 39 = (0, { s with state := 16 }) := by simp [lookInSingle]
    rw [hfin]
    clear hfin
    go_enter Tryz.func137, Tryz.ntmps137
    go_wp2_with fail
    refine (to_does 16 h).mono ?_
    rintro e w2 ⟨rfl, h1⟩
    go_wp2
    go_ret
    exact ⟨rfl, h1⟩
  by_cases n38 : c = 38
  · have y := n38
    clear n38
    subst y
    have hfin : lookInSingle s 38 = (0, (toReference s)) := by simp [lookInSingle, n39]
    rw [hfin]
    clear hfin
    have e39 : ((38 : Int) == 39) = false := beq_eq_false_iff_ne.2 n39
    clear n39
    go_enter Tryz.func137, Tryz.ntmps137
    go_wp2_with fail
    refine (toReference_does h (by have := unhide HS; first | omega | (simp only [sz_wrong, sz_state, sz_addToComment, sz_setOdd, sz_newAtt, sz_setCloses, List.length_cons, List.length_nil]; omega))).mono ?_
    rintro e w2 ⟨rfl, h1⟩
    go_wp2
    go_ret
    exact ⟨rfl, h1⟩
  by_cases nm1 : c = -1
  · have y := nm1
    clear nm1
    subst y
    have hfin : lookInSingle s (-1) = (0, (dropTag s)) := by simp [lookInSingle, n39, n38]
    rw [hfin]
    clear hfin
    have e39 : ((-1 : Int) == 39) = false := beq_eq_false_iff_ne.2 n39
    have e38 : ((-1 : Int) == 38) = false := beq_eq_false_iff_ne.2 n38
    clear n39
    clear n38
    go_enter Tryz.func137, Tryz.ntmps137
    go_wp2_with fail
    refine (dropTag_does h (by have := unhide HS; first | omega | (simp only [sz_wrong, sz_state, sz_addToComment, sz_setOdd, sz_newAtt, sz_setCloses, List.length_cons, List.length_nil]; omega))).mono ?_
    rintro e w2 ⟨rfl, h1⟩
    go_wp2
    go_ret
    exact ⟨rfl, h1⟩
  have hfin : lookInSingle s c = (0, (addToValue (withoutNul s c) (withoutNulC c))) := by simp [lookInSingle, n39, n38, nm1]
  rw [hfin]
  clear hfin
  have e39 : ((c : Int) == 39) = false := beq_eq_false_iff_ne.2 n39
  have e38 : ((c : Int) == 38) = false := beq_eq_false_iff_ne.2 n38
  have em1 : ((c : Int) == -1) = false := beq_eq_false_iff_ne.2 nm1
  clear n39
  clear n38
  clear nm1
  go_enter Tryz.func137, Tryz.ntmps137
  go_wp2_with fail
  refine (withoutNul_sz c h (by have := unhide HS; first | omega | (simp only [sz_wrong, sz_state, sz_addToComment, sz_setOdd, sz_newAtt, sz_setCloses, List.length_cons, List.length_nil]; omega))).mono ?_
  rintro e v1 ⟨rfl, h1⟩
  have q1 := sz_withoutNul s c
  go_wp2_with fail
  refine (addToValue_does (withoutNulC c) (withoutNulC_in hc) (by rw [withoutNul_tag]; first | exact hat | (simp [newAtt]; done)) h1 (by have := unhide HS; first | omega | (simp only [sz_wrong, sz_newAtt] at q1; omega))).mono ?_
  rintro e w2 ⟨rfl, h1⟩
  clear q1
  go_wp2
  go_ret
  exact ⟨rfl, h1⟩

end
end Go.Proofs.YtdfmapcnfficlaaGreatDoor

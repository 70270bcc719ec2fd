/-
  The states of doctypes.
-/
import Derived.Test.YtdfmapcnfficlaaGreatDoorB07
set_option linter.unusedSimpArgs false
set_option linter.unusedVariables false
namespace Go.Proofs.YtdfmapcnfficlaaGreatDoor
open Go Go.RowKit
section
variable {w0 : World} {own0 : Nat → Prop} {b : Nat} {s : TS} {ex : List Item} {w : World}

def addToKind (s : TS) (c : Int) : TS := { withoutNul s c with dname := s.dname ++ Lib.encodeRune (lowC (withoutNulC c)) }
def tellDoctype (s : TS) : TS := { tell s { kind := 4, name := s.dname, flag := s.odd } with dname := [], odd := false }
def endDoctype (s : TS) : TS := { tellDoctype s with state := 0 }
def cutDoctype (s : TS) : TS := tellDoctype { wrong s [101, 110, 100, 45, 105, 110, 45, 100, 111, 99, 116, 121, 112, 101] with odd := true }
theorem sz_tellDoctype (s : TS) : sz (tellDoctype s) ≤ sz s + 1 := by
  have h1 := sz_tell s { kind := 4, name := s.dname, flag := s.odd }
  have h2 : sz (tellDoctype s) ≤ sz (tell s { kind := 4, name := s.dname, flag := s.odd }) := by simp [sz, tellDoctype]
  omega
theorem sz_addToKind (s : TS) (c : Int) : sz (addToKind s c) ≤ sz s + 5 := by
  have h1 := sz_withoutNul s c
  have h2 := len_rune (lowC (withoutNulC c))
  have h3 : sz (addToKind s c) = sz (withoutNul s c) + (Lib.encodeRune (lowC (withoutNulC c))).length := by simp [sz, addToKind, withoutNul_dname]; omega
  omega

/-- 'dname' is begun anew: nil. -/
theorem tk_drop_dname (h : Tk w0 own0 b s ex w) : Tk w0 own0 b { s with dname := [] } ex (w.setCell ⟨b, 18, none⟩ (.slice none 0 0)) := by
  obtain ⟨⟨R, hR⟩, hk⟩ := h
  refine ⟨⟨{ R with dname := ⟨none, 0⟩ }, ?_⟩, hk.setCell 18 _ hR.ownB⟩
  refine hR.anew (by rw [set_self hR.self]; rfl) (fun k hk => set_other _ hk) ([bItem R.text s.text, bItem R.tname s.tag.name, bItem R.buffer s.tag.buffer, (⟨210, 3, R.atts.a, s.tag.atts.length, R.atts.cap, attsCells s.tag.atts R.anames R.avalues⟩ : Item), bItem R.comment s.comment] ++ ([(⟨34, 6, R.told.a, s.told.length, R.told.cap, toldCells s.told R.tattrs⟩ : Item)] ++ (attItems s.tag.atts R.anames R.avalues ++ toldItems s.told R.tattrs) ++ ex)) [bItem R.dname s.dname] [bItem ⟨none, 0⟩ []] (perm_mid [bItem R.text s.text, bItem R.tname s.tag.name, bItem R.buffer s.tag.buffer, (⟨210, 3, R.atts.a, s.tag.atts.length, R.atts.cap, attsCells s.tag.atts R.anames R.avalues⟩ : Item), bItem R.comment s.comment] ([(⟨34, 6, R.told.a, s.told.length, R.told.cap, toldCells s.told R.tattrs⟩ : Item)] ++ (attItems s.tag.atts R.anames R.avalues ++ toldItems s.told R.tattrs) ++ ex) (bItem R.dname s.dname)) ?_ (perm_mid [bItem R.text s.text, bItem R.tname s.tag.name, bItem R.buffer s.tag.buffer, (⟨210, 3, R.atts.a, s.tag.atts.length, R.atts.cap, attsCells s.tag.atts R.anames R.avalues⟩ : Item), bItem R.comment s.comment] ([(⟨34, 6, R.told.a, s.told.length, R.told.cap, toldCells s.told R.tattrs⟩ : Item)] ++ (attItems s.tag.atts R.anames R.avalues ++ toldItems s.told R.tattrs) ++ ex) (bItem ⟨none, 0⟩ [])) (.inl ⟨rfl, rfl⟩) hR.la hR.lv hR.lt
  intro it hi
  rw [List.mem_singleton.1 hi]
  exact ⟨bItem_nil_ok w, rfl⟩

theorem tk_odd (h : Tk w0 own0 b s ex w) (q : Bool) : Tk w0 own0 b { s with odd := q } ex (w.setCell ⟨b, 19, none⟩ (.bool q)) := by
  obtain ⟨R, hR⟩ := h.reg
  exact ⟨⟨R, hR.1.setCell 19 _ rfl rfl rfl rfl rfl⟩, hR.2.setCell 19 _ hR.1.ownB⟩

set_option maxHeartbeats 1000000 in
set_option maxRecDepth 1000000 in
theorem addToKind_does (c : Int) (hc : Rn c) (h : Tk w0 own0 b s ex w) (hs : sz s + 8 ≤ lim) :
    Calls Tryz.prog 211 #[.pointer (some ⟨b, 0, none⟩), .int .i32 c] w fun e w' => e = .returned (.tuple #[]) ∧ Tk w0 own0 b (addToKind s c) ex w' := by
  have HS := hide hs
  clear hs
  obtain ⟨R, hR⟩ := h.reg
  have c1 : w.cell? ⟨b, 18, none⟩ = some (.slice R.dname.a s.dname.length R.dname.cap) := hR.1.cell 18
  have HN := hide (withoutNul_doesR c (tkR_drew hR) (by have := unhide HS; unfold sz at this; omega))
  have HL := hide (withoutNulC_in hc)
  have HP := hide (lowC_in (withoutNulC_in hc))
  clear h
  go_enter Tryz.func211, Tryz.ntmps211
  go_wp2_with fail
  go_region_with (first
    | (go_at_call 127; refine (unhide HN).mono ?_; rintro e w1 ⟨tl, ta, rfl, h1⟩; have d1 : w1.cell? ⟨b, 18, none⟩ = some (.slice R.dname.a s.dname.length R.dname.cap) := (by rw [h1.1.cell]; simp [cellsOf, withoutNul_dname]))
    | (go_at_call 194; refine (low_does (withoutNulC c) _ (unhide HL)).mono ?_; rintro e w4 ⟨rfl, rfl⟩)
    | (go_at_call 126; refine (appendRune_does R.dname s.dname (lowC (withoutNulC c)) (unhide HP).1 (unhide HP).2 _ (by have := h1.1.rows.ok (bItem R.dname (withoutNul s c).dname) (by simp [itemsOf]); rw [withoutNul_dname] at this; exact this) (by have := unhide HS; unfold sz lim at this; omega)).mono ?_; rintro e w2 ⟨r', o, rfl, hok, hg, hf⟩; obtain ⟨hself, hT⟩ := RepAt.dname_grow h1.1 h1.2 ((More.refl _).alloc o) _ r' hok hg hf; have d2 := cell_of_self hself 18; have df := frozen_of_self hself; simp only [cellsOf] at d2; simp only [List.length_append] at hT))
  all_goals
    go_wp2
    go_end0
    exact ⟨rfl, hT⟩

set_option maxHeartbeats 1000000 in
set_option maxRecDepth 1000000 in
theorem tellDoctype_does (h : Tk w0 own0 b s ex w) (hs : sz s + 2 ≤ lim) :
    Calls Tryz.prog 212 #[.pointer (some ⟨b, 0, none⟩)] w fun e w' => e = .returned (.tuple #[]) ∧ Tk w0 own0 b (tellDoctype s) ex w' := by
  obtain ⟨R, hR⟩ := h.reg
  have c1 : w.cell? ⟨b, 18, none⟩ = some (.slice R.dname.a s.dname.length R.dname.cap) := hR.1.cell 18
  have c2 : w.cell? ⟨b, 19, none⟩ = some (.bool s.odd) := hR.1.cell 19
  have hcv := conv_row (w := w.drew) (r := R.dname) (l := s.dname) (hR.1.rows.ok (bItem R.dname s.dname) (by simp [itemsOf]))
  have HC := hide (tell_does (ex := ex) { kind := 4, name := s.dname, flag := s.odd } ⟨none, 0⟩ (TkR.tk ⟨(tkR_drew hR).1.bare, (tkR_drew hR).2⟩) (by unfold sz at hs; omega))
  simp only [tokCells] at HC
  clear hs h
  go_enter Tryz.func212, Tryz.ntmps212
  go_wp2_with fail
  go_region_with (go_at_call 37; refine (unhide HC).mono ?_; rintro e w' ⟨rfl, h1⟩; obtain ⟨R1, hR1⟩ := h1.reg; have d1 := hR1.1.cell 18; have d2 := hR1.1.cell 19; have df := hR1.1.frozen; simp only [cellsOf] at d1; simp only [cellsOf] at d2)
  all_goals
    go_wp2
    go_end0
    exact ⟨rfl, tk_odd (tk_drop_dname h1) false⟩

set_option maxHeartbeats 400000 in
theorem endDoctype_does (h : Tk w0 own0 b s ex w) (hs : sz s + 2 ≤ lim) :
    Calls Tryz.prog 209 #[.pointer (some ⟨b, 0, none⟩)] w fun e w' => e = .returned (.int .i64 0) ∧ Tk w0 own0 b (endDoctype s) ex w' := by
  have HS := hide hs
  clear hs
  go_enter Tryz.func209, Tryz.ntmps209
  go_wp2_with fail
  refine (tellDoctype_does h (unhide HS)).mono ?_
  rintro e w' ⟨rfl, h1⟩
  go_wp2_with fail
  refine (to_does _ h1).mono ?_
  rintro e w'' ⟨rfl, h2⟩
  go_wp2
  go_ret
  exact ⟨rfl, h2⟩

set_option maxHeartbeats 400000 in
theorem cutDoctype_does (h : Tk w0 own0 b s ex w) (hs : sz s + 4 ≤ lim) :
    Calls Tryz.prog 210 #[.pointer (some ⟨b, 0, none⟩)] w fun e w' => e = .returned (.int .i64 0) ∧ Tk w0 own0 b (cutDoctype s) ex w' := by
  have HS := hide hs
  clear hs
  go_enter Tryz.func210, Tryz.ntmps210
  go_wp2_with fail
  refine (wrong_sz [101, 110, 100, 45, 105, 110, 45, 100, 111, 99, 116, 121, 112, 101] h (by have := unhide HS; omega)).mono ?_
  rintro e w1 ⟨rfl, h1⟩
  obtain ⟨R1, hR1⟩ := h1.reg
  have d2 := hR1.1.cell 19
  have df := hR1.1.frozen
  simp only [cellsOf] at d2
  have h2 := tk_odd h1 true
  go_wp2_with fail
  refine (tellDoctype_does h2 (by rw [sz_setOdd, sz_wrong]; have := unhide HS; omega)).mono ?_
  rintro e w'' ⟨rfl, h3⟩
  go_wp2
  go_ret
  exact ⟨rfl, h3⟩

def lookInDoctype (s : TS) (c : Int) : Int × TS :=
  if isBlankC c = true then (0, { s with state := 27 }) else
  if c = 62 then (1, { s with state := 27 }) else
  if c = -1 then (0, (cutDoctype s)) else
  (1, { (wrong s [110, 111, 45, 98, 108, 97, 110, 107]) with state := 27 })

set_option maxHeartbeats 1000000 in
set_option maxRecDepth 1000000 in
theorem lookInDoctype_does (c : Int) (hc : Rn c) (h : Tk w0 own0 b s ex w) (hs : sz s + 12 ≤ lim) :
    Calls Tryz.prog 154 #[.pointer (some ⟨b, 0, none⟩), .int .i32 c] w fun e w' => e = .returned (.int .i64 (lookInDoctype s c).1) ∧ Tk w0 own0 b (lookInDoctype s c).2 ex w' := by
  have HS := hide hs
  clear hs
  by_cases nblank : isBlankC c = true
  · have y := nblank
    clear nblank
    have hfin : lookInDoctype s c = (0, { s with state := 27 }) := by simp [lookInDoctype, y]
    rw [hfin]
    clear hfin
    go_enter Tryz.func154, Tryz.ntmps154
    go_wp2_with fail
    refine (isBlank_does c _).mono ?_
    rintro e w1 ⟨rfl, rfl⟩
    go_wp2_with fail
    refine (to_does 27 h).mono ?_
    rintro e w2 ⟨rfl, h1⟩
    go_wp2
    go_ret
    exact ⟨rfl, h1⟩
  by_cases n62 : c = 62
  · have y := n62
    clear n62
    subst y
    have hfin : lookInDoctype s 62 = (1, { s with state := 27 }) := by simp [lookInDoctype, nblank]
    rw [hfin]
    clear hfin
    have eblank : isBlankC 62 = false := Bool.eq_false_iff.2 nblank
    clear nblank
    go_enter Tryz.func154, Tryz.ntmps154
    go_wp2_with fail
    refine (isBlank_does 62 _).mono ?_
    rintro e w1 ⟨rfl, rfl⟩
    go_wp2_with fail
    refine (again_does 27 h).mono ?_
    rintro e w2 ⟨rfl, h1⟩
    go_wp2
    go_ret
    exact ⟨rfl, h1⟩
  by_cases nm1 : c = -1
  · have y := nm1
    clear nm1
    subst y
    have hfin : lookInDoctype s (-1) = (0, (cutDoctype s)) := by simp [lookInDoctype, nblank, n62]
    rw [hfin]
    clear hfin
    have eblank : isBlankC (-1) = false := Bool.eq_false_iff.2 nblank
    have e62 : ((-1 : Int) == 62) = false := beq_eq_false_iff_ne.2 n62
    clear nblank
    clear n62
    go_enter Tryz.func154, Tryz.ntmps154
    go_wp2_with fail
    refine (isBlank_does (-1) _).mono ?_
    rintro e w1 ⟨rfl, rfl⟩
    go_wp2_with fail
    refine (cutDoctype_does h (by have := unhide HS; first | omega | (simp only [sz_wrong, sz_state, sz_addToComment, sz_setOdd, List.length_cons, List.length_nil]; omega))).mono ?_
    rintro e w2 ⟨rfl, h1⟩
    go_wp2
    go_ret
    exact ⟨rfl, h1⟩
  have hfin : lookInDoctype s c = (1, { (wrong s [110, 111, 45, 98, 108, 97, 110, 107]) with state := 27 }) := by simp [lookInDoctype, nblank, n62, nm1]
  rw [hfin]
  clear hfin
  have eblank : isBlankC c = false := Bool.eq_false_iff.2 nblank
  have e62 : ((c : Int) == 62) = false := beq_eq_false_iff_ne.2 n62
  have em1 : ((c : Int) == -1) = false := beq_eq_false_iff_ne.2 nm1
  clear nblank
  clear n62
  clear nm1
  go_enter Tryz.func154, Tryz.ntmps154
  go_wp2_with fail
  refine (isBlank_does c _).mono ?_
  rintro e w1 ⟨rfl, rfl⟩
  go_wp2_with fail
  refine (wrong_sz [110, 111, 45, 98, 108, 97, 110, 107] h (by have := unhide HS; first | omega | (simp only [sz_wrong, sz_state, sz_addToComment, sz_setOdd, List.length_cons, List.length_nil]; omega))).mono ?_
  rintro e w2 ⟨rfl, h1⟩
  go_wp2_with fail
  refine (again_does 27 h1).mono ?_
  rintro e w3 ⟨rfl, h2⟩
  go_wp2
  go_ret
  exact ⟨rfl, h2⟩

def lookInKind (s : TS) (c : Int) : Int × TS :=
  if isBlankC c = true then (0, s) else
  if c = 62 then (0, (endDoctype { (wrong s [110, 111, 45, 110, 97, 109, 101]) with odd := true })) else
  if c = -1 then (0, (cutDoctype s)) else
  (0, { (addToKind s c) with state := 28 })

set_option maxHeartbeats 1000000 in
set_option maxRecDepth 1000000 in
theorem lookInKind_does (c : Int) (hc : Rn c) (h : Tk w0 own0 b s ex w) (hs : sz s + 12 ≤ lim) :
    Calls Tryz.prog 150 #[.pointer (some ⟨b, 0, none⟩), .int .i32 c] w fun e w' => e = .returned (.int .i64 (lookInKind s c).1) ∧ Tk w0 own0 b (lookInKind s c).2 ex w' := by
  have HS := hide hs
  clear hs
  by_cases nblank : isBlankC c = true
  · have y := nblank
    clear nblank
    have hfin : lookInKind s c = (0, s) := by simp [lookInKind, y]
    rw [hfin]
    clear hfin
    go_enter Tryz.func150, Tryz.ntmps150
    go_wp2_with fail
    refine (isBlank_does c _).mono ?_
    rintro e w1 ⟨rfl, rfl⟩
    go_wp2
    go_ret
    exact ⟨rfl, h⟩
  by_cases n62 : c = 62
  · have y := n62
    clear n62
    subst y
    have hfin : lookInKind s 62 = (0, (endDoctype { (wrong s [110, 111, 45, 110, 97, 109, 101]) with odd := true })) := by simp [lookInKind, nblank]
    rw [hfin]
    clear hfin
    have eblank : isBlankC 62 = false := Bool.eq_false_iff.2 nblank
    clear nblank
    go_enter Tryz.func150, Tryz.ntmps150
    go_wp2_with fail
    refine (isBlank_does 62 _).mono ?_
    rintro e w1 ⟨rfl, rfl⟩
    go_wp2_with fail
    refine (wrong_sz [110, 111, 45, 110, 97, 109, 101] h (by have := unhide HS; first | omega | (simp only [sz_wrong, sz_state, sz_addToComment, sz_setOdd, List.length_cons, List.length_nil]; omega))).mono ?_
    rintro e w2 ⟨rfl, h1⟩
    obtain ⟨R2, hR2⟩ := Tk.reg h1
    have c2 := hR2.1.cell 19
    have f2 := hR2.1.frozen
    simp only [cellsOf] at c2
    have h2 : Tk w0 own0 b { (wrong s [110, 111, 45, 110, 97, 109, 101]) with odd := true } ex (World.setCell _ ⟨b, 19, none⟩ (.bool true)) := ⟨⟨R2, hR2.1.setCell 19 _ rfl rfl rfl rfl rfl⟩, hR2.2.setCell 19 _ hR2.1.ownB⟩
    go_wp2_with fail
    refine (endDoctype_does h2 (by have := unhide HS; first | omega | (simp only [sz_wrong, sz_state, sz_addToComment, sz_setOdd, List.length_cons, List.length_nil]; omega))).mono ?_
    rintro e w4 ⟨rfl, h3⟩
    go_wp2
    go_ret
    exact ⟨rfl, h3⟩
  by_cases nm1 : c = -1
  · have y := nm1
    clear nm1
    subst y
    have hfin : lookInKind s (-1) = (0, (cutDoctype s)) := by simp [lookInKind, nblank, n62]
    rw [hfin]
    clear hfin
    have eblank : isBlankC (-1) = false := Bool.eq_false_iff.2 nblank
    have e62 : ((-1 : Int) == 62) = false := beq_eq_false_iff_ne.2 n62
    clear nblank
    clear n62
    go_enter Tryz.func150, Tryz.ntmps150
    go_wp2_with fail
    refine (isBlank_does (-1) _).mono ?_
    rintro e w1 ⟨rfl, rfl⟩
    go_wp2_with fail
    refine (cutDoctype_does h (by have := unhide HS; first | omega | (simp only [sz_wrong, sz_state, sz_addToComment, sz_setOdd, List.length_cons, List.length_nil]; omega))).mono ?_
    rintro e w2 ⟨rfl, h1⟩
    go_wp2
    go_ret
    exact ⟨rfl, h1⟩
  have hfin : lookInKind s c = (0, { (addToKind s c) with state := 28 }) := by simp [lookInKind, nblank, n62, nm1]
  rw [hfin]
  clear hfin
  have eblank : isBlankC c = false := Bool.eq_false_iff.2 nblank
  have e62 : ((c : Int) == 62) = false := beq_eq_false_iff_ne.2 n62
  have em1 : ((c : Int) == -1) = false := beq_eq_false_iff_ne.2 nm1
  clear nblank
  clear n62
  clear nm1
  go_enter Tryz.func150, Tryz.ntmps150
  go_wp2_with fail
  refine (isBlank_does c _).mono ?_
  rintro e w1 ⟨rfl, rfl⟩
  go_wp2_with fail
  refine (addToKind_does c hc h (by have := unhide HS; first | omega | (simp only [sz_wrong, sz_state, sz_addToComment, sz_setOdd, List.length_cons, List.length_nil]; omega))).mono ?_
  rintro e w2 ⟨rfl, h1⟩
  go_wp2_with fail
  refine (to_does 28 h1).mono ?_
  rintro e w3 ⟨rfl, h2⟩
  go_wp2
  go_ret
  exact ⟨rfl, h2⟩

def lookInKindName (s : TS) (c : Int) : Int × TS :=
  if isBlankC c = true then (0, { s with state := 29 }) else
  if c = 62 then (0, (endDoctype s)) else
  if c = -1 then (0, (cutDoctype s)) else
  (0, (addToKind s c))

set_option maxHeartbeats 1000000 in
set_option maxRecDepth 1000000 in
theorem lookInKindName_does (c : Int) (hc : Rn c) (h : Tk w0 own0 b s ex w) (hs : sz s + 12 ≤ lim) :
    Calls Tryz.prog 151 #[.pointer (some ⟨b, 0, none⟩), .int .i32 c] w fun e w' => e = .returned (.int .i64 (lookInKindName s c).1) ∧ Tk w0 own0 b (lookInKindName s c).2 ex w' := by
  have HS := hide hs
  clear hs
  by_cases nblank : isBlankC c = true
  · have y := nblank
    clear nblank
    have hfin : lookInKindName s c = (0, { s with state := 29 }) := by simp [lookInKindName, y]
    rw [hfin]
    clear hfin
    go_enter Tryz.func151, Tryz.ntmps151
    go_wp2_with fail
    refine (isBlank_does c _).mono ?_
    rintro e w1 ⟨rfl, rfl⟩
    go_wp2_with fail
    refine (to_does 29 h).mono ?_
    rintro e w2 ⟨rfl, h1⟩
    go_wp2
    go_ret
    exact ⟨rfl, h1⟩
  by_cases n62 : c = 62
  · have y := n62
    clear n62
    subst y
    have hfin : lookInKindName s 62 = (0, (endDoctype s)) := by simp [lookInKindName, nblank]
    rw [hfin]
    clear hfin
    have eblank : isBlankC 62 = false := Bool.eq_false_iff.2 nblank
    clear nblank
    go_enter Tryz.func151, Tryz.ntmps151
    go_wp2_with fail
    refine (isBlank_does 62 _).mono ?_
    rintro e w1 ⟨rfl, rfl⟩
    go_wp2_with fail
    refine (endDoctype_does h (by have := unhide HS; first | omega | (simp only [sz_wrong, sz_state, sz_addToComment, sz_setOdd, List.length_cons, List.length_nil]; omega))).mono ?_
    rintro e w2 ⟨rfl, h1⟩
    go_wp2
    go_ret
    exact ⟨rfl, h1⟩
  by_cases nm1 : c = -1
  · have y := nm1
    clear nm1
    subst y
    have hfin : lookInKindName s (-1) = (0, (cutDoctype s)) := by simp [lookInKindName, nblank, n62]
    rw [hfin]
    clear hfin
    have eblank : isBlankC (-1) = false := Bool.eq_false_iff.2 nblank
    have e62 : ((-1 : Int) == 62) = false := beq_eq_false_iff_ne.2 n62
    clear nblank
    clear n62
    go_enter Tryz.func151, Tryz.ntmps151
    go_wp2_with fail
    refine (isBlank_does (-1) _).mono ?_
    rintro e w1 ⟨rfl, rfl⟩
    go_wp2_with fail
    refine (cutDoctype_does h (by have := unhide HS; first | omega | (simp only [sz_wrong, sz_state, sz_addToComment, sz_setOdd, List.length_cons, List.length_nil]; omega))).mono ?_
    rintro e w2 ⟨rfl, h1⟩
    go_wp2
    go_ret
    exact ⟨rfl, h1⟩
  have hfin : lookInKindName s c = (0, (addToKind s c)) := by simp [lookInKindName, nblank, n62, nm1]
  rw [hfin]
  clear hfin
  have eblank : isBlankC c = false := Bool.eq_false_iff.2 nblank
  have e62 : ((c : Int) == 62) = false := beq_eq_false_iff_ne.2 n62
  have em1 : ((c : Int) == -1) = false := beq_eq_false_iff_ne.2 nm1
  clear nblank
  clear n62
  clear nm1
  go_enter Tryz.func151, Tryz.ntmps151
  go_wp2_with fail
  refine (isBlank_does c _).mono ?_
  rintro e w1 ⟨rfl, rfl⟩
  go_wp2_with fail
  refine (addToKind_does c hc h (by have := unhide HS; first | omega | (simp only [sz_wrong, sz_state, sz_addToComment, sz_setOdd, List.length_cons, List.length_nil]; omega))).mono ?_
  rintro e w2 ⟨rfl, h1⟩
  go_wp2
  go_ret
  exact ⟨rfl, h1⟩

def lookInKindEnd (s : TS) (c : Int) : Int × TS :=
  if isBlankC c = true then (0, s) else
  if c = 62 then (0, (endDoctype s)) else
  if c = -1 then (0, (cutDoctype s)) else
  (1, { { (wrong s [107, 105, 110, 100]) with odd := true } with state := 30 })

set_option maxHeartbeats 1000000 in
set_option maxRecDepth 1000000 in
theorem lookInKindEnd_does (c : Int) (hc : Rn c) (h : Tk w0 own0 b s ex w) (hs : sz s + 12 ≤ lim) :
    Calls Tryz.prog 152 #[.pointer (some ⟨b, 0, none⟩), .int .i32 c] w fun e w' => e = .returned (.int .i64 (lookInKindEnd s c).1) ∧ Tk w0 own0 b (lookInKindEnd s c).2 ex w' := by
  have HS := hide hs
  clear hs
  by_cases nblank : isBlankC c = true
  · have y := nblank
    clear nblank
    have hfin : lookInKindEnd s c = (0, s) := by simp [lookInKindEnd, y]
    rw [hfin]
    clear hfin
    go_enter Tryz.func152, Tryz.ntmps152
    go_wp2_with fail
    refine (isBlank_does c _).mono ?_
    rintro e w1 ⟨rfl, rfl⟩
    go_wp2
    go_ret
    exact ⟨rfl, h⟩
  by_cases n62 : c = 62
  · have y := n62
    clear n62
    subst y
    have hfin : lookInKindEnd s 62 = (0, (endDoctype s)) := by simp [lookInKindEnd, nblank]
    rw [hfin]
    clear hfin
    have eblank : isBlankC 62 = false := Bool.eq_false_iff.2 nblank
    clear nblank
    go_enter Tryz.func152, Tryz.ntmps152
    go_wp2_with fail
    refine (isBlank_does 62 _).mono ?_
    rintro e w1 ⟨rfl, rfl⟩
    go_wp2_with fail
    refine (endDoctype_does h (by have := unhide HS; first | omega | (simp only [sz_wrong, sz_state, sz_addToComment, sz_setOdd, List.length_cons, List.length_nil]; omega))).mono ?_
    rintro e w2 ⟨rfl, h1⟩
    go_wp2
    go_ret
    exact ⟨rfl, h1⟩
  by_cases nm1 : c = -1
  · have y := nm1
    clear nm1
    subst y
    have hfin : lookInKindEnd s (-1) = (0, (cutDoctype s)) := by simp [lookInKindEnd, nblank, n62]
    rw [hfin]
    clear hfin
    have eblank : isBlankC (-1) = false := Bool.eq_false_iff.2 nblank
    have e62 : ((-1 : Int) == 62) = false := beq_eq_false_iff_ne.2 n62
    clear nblank
    clear n62
    go_enter Tryz.func152, Tryz.ntmps152
    go_wp2_with fail
    refine (isBlank_does (-1) _).mono ?_
    rintro e w1 ⟨rfl, rfl⟩
    go_wp2_with fail
    refine (cutDoctype_does h (by have := unhide HS; first | omega | (simp only [sz_wrong, sz_state, sz_addToComment, sz_setOdd, List.length_cons, List.length_nil]; omega))).mono ?_
    rintro e w2 ⟨rfl, h1⟩
    go_wp2
    go_ret
    exact ⟨rfl, h1⟩
  have hfin : lookInKindEnd s c = (1, { { (wrong s [107, 105, 110, 100]) with odd := true } with state := 30 }) := by simp [lookInKindEnd, nblank, n62, nm1]
  rw [hfin]
  clear hfin
  have eblank : isBlankC c = false := Bool.eq_false_iff.2 nblank
  have e62 : ((c : Int) == 62) = false := beq_eq_false_iff_ne.2 n62
  have em1 : ((c : Int) == -1) = false := beq_eq_false_iff_ne.2 nm1
  clear nblank
  clear n62
  clear nm1
  go_enter Tryz.func152, Tryz.ntmps152
  go_wp2_with fail
  refine (isBlank_does c _).mono ?_
  rintro e w1 ⟨rfl, rfl⟩
  go_wp2_with fail
  refine (wrong_sz [107, 105, 110, 100] h (by have := unhide HS; first | omega | (simp only [sz_wrong, sz_state, sz_addToComment, sz_setOdd, List.length_cons, List.length_nil]; omega))).mono ?_
  rintro e w2 ⟨rfl, h1⟩
  obtain ⟨R2, hR2⟩ := Tk.reg h1
  have c2 := hR2.1.cell 19
  have f2 := hR2.1.frozen
  simp only [cellsOf] at c2
  have h2 : Tk w0 own0 b { (wrong s [107, 105, 110, 100]) with odd := true } ex (World.setCell _ ⟨b, 19, none⟩ (.bool true)) := ⟨⟨R2, hR2.1.setCell 19 _ rfl rfl rfl rfl rfl⟩, hR2.2.setCell 19 _ hR2.1.ownB⟩
  go_wp2_with fail
  refine (again_does 30 h2).mono ?_
  rintro e w4 ⟨rfl, h3⟩
  go_wp2
  go_ret
  exact ⟨rfl, h3⟩

def lookInKindRest (s : TS) (c : Int) : Int × TS :=
  if c = 62 then (0, (endDoctype s)) else
  if c = 0 then (0, (wrong s [110, 117, 108])) else
  if c = -1 then (0, (tellDoctype s)) else
  (0, s)

set_option maxHeartbeats 1000000 in
set_option maxRecDepth 1000000 in
theorem lookInKindRest_does (c : Int) (hc : Rn c) (h : Tk w0 own0 b s ex w) (hs : sz s + 12 ≤ lim) :
    Calls Tryz.prog 153 #[.pointer (some ⟨b, 0, none⟩), .int .i32 c] w fun e w' => e = .returned (.int .i64 (lookInKindRest s c).1) ∧ Tk w0 own0 b (lookInKindRest s c).2 ex w' := by
  have HS := hide hs
  clear hs
  by_cases n62 : c = 62
  · have y := n62
    clear n62
    subst y
    have hfin : lookInKindRest s 62 = (0, (endDoctype s)) := by simp [lookInKindRest]
    rw [hfin]
    clear hfin
    go_enter Tryz.func153, Tryz.ntmps153
    go_wp2_with fail
    refine (endDoctype_does h (by have := unhide HS; first | omega | (simp only [sz_wrong, sz_state, sz_addToComment, sz_setOdd, List.length_cons, List.length_nil]; omega))).mono ?_
    rintro e w2 ⟨rfl, h1⟩
    go_wp2
    go_ret
    exact ⟨rfl, h1⟩
  by_cases n0 : c = 0
  · have y := n0
    clear n0
    subst y
    have hfin : lookInKindRest s 0 = (0, (wrong s [110, 117, 108])) := by simp [lookInKindRest, n62]
    rw [hfin]
    clear hfin
    have e62 : ((0 : Int) == 62) = false := beq_eq_false_iff_ne.2 n62
    clear n62
    go_enter Tryz.func153, Tryz.ntmps153
    go_wp2_with fail
    refine (wrong_sz [110, 117, 108] h (by have := unhide HS; first | omega | (simp only [sz_wrong, sz_state, sz_addToComment, sz_setOdd, List.length_cons, List.length_nil]; omega))).mono ?_
    rintro e w2 ⟨rfl, h1⟩
    go_wp2
    go_ret
    exact ⟨rfl, h1⟩
  by_cases nm1 : c = -1
  · have y := nm1
    clear nm1
    subst y
    have hfin : lookInKindRest s (-1) = (0, (tellDoctype s)) := by simp [lookInKindRest, n62, n0]
    rw [hfin]
    clear hfin
    have e62 : ((-1 : Int) == 62) = false := beq_eq_false_iff_ne.2 n62
    have e0 : ((-1 : Int) == 0) = false := beq_eq_false_iff_ne.2 n0
    clear n62
    clear n0
    go_enter Tryz.func153, Tryz.ntmps153
    go_wp2_with fail
    refine (tellDoctype_does h (by have := unhide HS; first | omega | (simp only [sz_wrong, sz_state, sz_addToComment, sz_setOdd, List.length_cons, List.length_nil]; omega))).mono ?_
    rintro e w2 ⟨rfl, h1⟩
    go_wp2
    go_ret
    exact ⟨rfl, h1⟩
  have hfin : lookInKindRest s c = (0, s) := by simp [lookInKindRest, n62, n0, nm1]
  rw [hfin]
  clear hfin
  have e62 : ((c : Int) == 62) = false := beq_eq_false_iff_ne.2 n62
  have e0 : ((c : Int) == 0) = false := beq_eq_false_iff_ne.2 n0
  have em1 : ((c : Int) == -1) = false := beq_eq_false_iff_ne.2 nm1
  clear n62
  clear n0
  clear nm1
  go_enter Tryz.func153, Tryz.ntmps153
  go_wp2
  go_ret
  exact ⟨rfl, h⟩

end
end Go.Proofs.YtdfmapcnfficlaaGreatDoor

/-
  The states of texts.
-/
import Derived.Test.YtdfmapcnfficlaaGreatDoorB16
set_option linter.unusedSimpArgs false
set_option linter.unusedVariables false
namespace Go.Proofs.YtdfmapcnfficlaaGreatDoor
open Go Go.RowKit
section
variable {w0 : World} {own0 : Nat → Prop} {b : Nat} {s : TS} {ex : List Item} {w : World} {R : Regs}

def addText (s : TS) (l : Str) : TS := { s with text := s.text ++ l }
def zeroTagK (w : World) (b : Nat) (k : Int) : World :=
  (((((w.setCell ⟨b, 9, none⟩ (.int .i64 k)).setCell ⟨b, 10, none⟩ (.slice none 0 0)).setCell ⟨b, 11, none⟩ (.slice none 0 0)).setCell ⟨b, 12, none⟩ (.slice none 0 0)).setCell ⟨b, 13, none⟩ (.map none)).setCell ⟨b, 14, none⟩ (.bool false)

theorem zeroTagK_other {k : Int} (j : Nat) (hk : j ≠ b) : (zeroTagK w b k).heap[j]? = w.heap[j]? := by
  unfold zeroTagK
  rw [set_other _ hk, set_other _ hk, set_other _ hk, set_other _ hk, set_other _ hk, set_other _ hk]

theorem tk_newTag (h : TkR w0 own0 b s R ex w) (k : Int) : Tk w0 own0 b { s with tag := { kind := k } } ex (zeroTagK w b k) := by
  have hself : (zeroTagK w b k).heap[b]? = some (.cells (cellsOf { s with tag := { kind := k } } (noTag R)) 84 (0, 0)) := by
    unfold zeroTagK
    rw [set_self (set_self (set_self (set_self (set_self (set_self h.1.self _ _) _ _) _ _) _ _) _ _)]
    rfl
  refine ⟨⟨noTag R, ?_⟩, ?_⟩
  · refine h.1.anew hself (fun k hk => zeroTagK_other k hk) ([bItem R.text s.text, bItem R.comment s.comment, bItem R.dname s.dname, ⟨34, 6, R.told.a, s.told.length, R.told.cap, toldCells s.told R.tattrs⟩] ++ toldItems s.told R.tattrs ++ ex) (tagItems s R) [bItem ⟨none, 0⟩ [], bItem ⟨none, 0⟩ [], ⟨210, 3, none, 0, 0, []⟩] (perm_tag _ _ _ _ _ _ _ _ _ _) ?_ ?_ (.inr ⟨rfl, rfl⟩) rfl rfl h.1.lt
    · intro it hi
      simp only [List.mem_cons, List.not_mem_nil, or_false] at hi
      rcases hi with rfl | rfl | rfl
      · exact ⟨bItem_nil_ok w, rfl⟩
      · exact ⟨bItem_nil_ok w, rfl⟩
      · exact ⟨World.ownsRow_nil w 0 210 3, rfl⟩
    · exact perm_tag (bItem R.text s.text) (bItem ⟨none, 0⟩ []) (bItem ⟨none, 0⟩ []) ⟨210, 3, none, 0, 0, []⟩ (bItem R.comment s.comment) (bItem R.dname s.dname) ⟨34, 6, R.told.a, s.told.length, R.told.cap, toldCells s.told R.tattrs⟩ [] (toldItems s.told R.tattrs) ex
  · exact ((((((h.2.setCell _ _ h.1.ownB).setCell _ _ h.1.ownB).setCell _ _ h.1.ownB).setCell _ _ h.1.ownB).setCell _ _ h.1.ownB).setCell _ _ h.1.ownB)

theorem text_cell (h : TkR w0 own0 b s R ex w) : w.cell? ⟨b, 8, none⟩ = some (.slice R.text.a s.text.length R.text.cap) := h.1.cell _
theorem text_row (h : TkR w0 own0 b s R ex w) : w.ownsRow 0 5 1 (.slice R.text.a s.text.length R.text.cap) s.text.length (byteCells s.text) := h.1.rows.ok (bItem R.text s.text) (by simp [itemsOf])
theorem text_max {l : Str} (h : sz s + l.length ≤ lim) : s.text.length + (⟨l.toArray⟩ : ByteArray).size ≤ maxLen := by
  rw [size_str]; unfold sz at h; exact (lim_str (by omega)).1
theorem text_max' {l : Str} (h : sz s + l.length ≤ lim) : s.text.length + (⟨l.toArray⟩ : ByteArray).size ≤ 140737488355328 := by
  rw [size_str]; unfold sz at h; exact (lim_str (by omega)).2
theorem text_grown (h : TkR w0 own0 b s R ex w) (l : Str) (ao' : Option Addr) (cap' : Nat) {w' : World} (hown : w'.ownsRow 0 5 1 (.slice ao' (s.text.length + l.length) cap') (s.text.length + l.length) (byteCells s.text ++ Lib.strCells ⟨l.toArray⟩)) (hg : w.grownBy w' (R.text.a.map (·.block))) (hf : Fresh w R.text.a ao') :
    w'.heap[b]? = some (.cells (cellsOf s R) 84 (0, 0)) ∧ Tk w0 own0 b (addText s l) ex (w'.setCell ⟨b, 8, none⟩ (.slice ao' (s.text.length + l.length) cap')) := by
  rw [strCells_bytes] at hown
  obtain ⟨h1, h2⟩ := h.1.text_grow h.2 (More.refl w) (s.text ++ l) ⟨ao', cap'⟩ (by simpa [Item.ok, bItem, byteCells] using hown) hg hf
  simp only [List.length_append] at h2
  exact ⟨h1, h2⟩

def lookInOpen (s : TS) (c : Int) : Int × TS :=
  if c = 33 then (0, { s with state := 18 }) else
  if c = 47 then (0, { s with state := 4 }) else
  if isLetterC c = true then (1, { { s with tag := { kind := 1 } } with state := 8 }) else
  if c = 63 then (1, { (wrong s [113, 117, 101, 115, 116, 105, 111, 110]) with state := 19 }) else
  if c = -1 then (0, (addText (wrong s [101, 110, 100, 45, 105, 110, 45, 116, 97, 103]) [60])) else
  (1, { (addText (wrong s [102, 105, 114, 115, 116]) [60]) with state := 0 })

set_option maxHeartbeats 1000000 in
set_option maxRecDepth 1000000 in
theorem lookInOpen_does (c : Int) (hc : Rn c) (h : Tk w0 own0 b s ex w) (hs : sz s + 12 ≤ lim) :
    Calls Tryz.prog 128 #[.pointer (some ⟨b, 0, none⟩), .int .i32 c] w fun e w' => e = .returned (.int .i64 (lookInOpen s c).1) ∧ Tk w0 own0 b (lookInOpen s c).2 ex w' := by
  have HS := hide hs
  clear hs
  obtain ⟨i0, hi, hz0, hz1, hz2⟩ := info_parts Tryz.infoByte
  by_cases n33 : c = 33
  · have y := n33
    clear n33
    subst y
    have hfin : lookInOpen s 33 = (0, { s with state := 18 }) := by simp [lookInOpen]
    rw [hfin]
    clear hfin
    go_enter Tryz.func128, Tryz.ntmps128
    go_wp2_with fail
    refine (to_does 18 h).mono ?_
    rintro e w2 ⟨rfl, h1⟩
    go_wp2
    go_ret
    exact ⟨rfl, h1⟩
  by_cases n47 : c = 47
  · have y := n47
    clear n47
    subst y
    have hfin : lookInOpen s 47 = (0, { s with state := 4 }) := by simp [lookInOpen, n33]
    rw [hfin]
    clear hfin
    have e33 : ((47 : Int) == 33) = false := beq_eq_false_iff_ne.2 n33
    clear n33
    go_enter Tryz.func128, Tryz.ntmps128
    go_wp2_with fail
    refine (to_does 4 h).mono ?_
    rintro e w2 ⟨rfl, h1⟩
    go_wp2
    go_ret
    exact ⟨rfl, h1⟩
  by_cases nletter : isLetterC c = true
  · have y := nletter
    clear nletter
    have hfin : lookInOpen s c = (1, { { s with tag := { kind := 1 } } with state := 8 }) := by simp [lookInOpen, n33, n47, y]
    rw [hfin]
    clear hfin
    have e33 : ((c : Int) == 33) = false := beq_eq_false_iff_ne.2 n33
    have e47 : ((c : Int) == 47) = false := beq_eq_false_iff_ne.2 n47
    clear n33
    clear n47
    go_enter Tryz.func128, Tryz.ntmps128
    go_wp2_with fail
    refine (isLetter_does c _ hc).mono ?_
    rintro e w1 ⟨rfl, rfl⟩
    obtain ⟨R1, hR1⟩ := Tk.reg h
    have t1_0 := hR1.1.cell 9
    have t1_1 := hR1.1.cell 10
    have t1_2 := hR1.1.cell 11
    have t1_3 := hR1.1.cell 12
    have t1_4 := hR1.1.cell 13
    have t1_5 := hR1.1.cell 14
    have f1 := hR1.1.frozen
    simp only [cellsOf] at t1_0 t1_1 t1_2 t1_3 t1_4 t1_5
    have h1 := tk_newTag hR1 1
    unfold zeroTagK at h1
    go_wp2_with fail
    refine (again_does 8 h1).mono ?_
    rintro e w3 ⟨rfl, h2⟩
    go_wp2
    go_ret
    exact ⟨rfl, h2⟩
  by_cases n63 : c = 63
  · have y := n63
    clear n63
    subst y
    have hfin : lookInOpen s 63 = (1, { (wrong s [113, 117, 101, 115, 116, 105, 111, 110]) with state := 19 }) := by simp [lookInOpen, n33, n47, nletter]
    rw [hfin]
    clear hfin
    have e33 : ((63 : Int) == 33) = false := beq_eq_false_iff_ne.2 n33
    have e47 : ((63 : Int) == 47) = false := beq_eq_false_iff_ne.2 n47
    have eletter : isLetterC 63 = false := Bool.eq_false_iff.2 nletter
    clear n33
    clear n47
    clear nletter
    go_enter Tryz.func128, Tryz.ntmps128
    go_wp2_with fail
    refine (isLetter_does 63 _ hc).mono ?_
    rintro e w1 ⟨rfl, rfl⟩
    go_wp2_with fail
    refine (wrong_sz [113, 117, 101, 115, 116, 105, 111, 110] h (by have := unhide HS; first | omega | (simp only [sz_wrong, sz_state, sz_addToComment, sz_setOdd, List.length_cons, List.length_nil]; omega))).mono ?_
    rintro e w2 ⟨rfl, h1⟩
    go_wp2_with fail
    refine (again_does 19 h1).mono ?_
    rintro e w3 ⟨rfl, h2⟩
    go_wp2
    go_ret
    exact ⟨rfl, h2⟩
  by_cases nm1 : c = -1
  · have y := nm1
    clear nm1
    subst y
    have hfin : lookInOpen s (-1) = (0, (addText (wrong s [101, 110, 100, 45, 105, 110, 45, 116, 97, 103]) [60])) := by simp [lookInOpen, n33, n47, nletter, n63]
    rw [hfin]
    clear hfin
    have e33 : ((-1 : Int) == 33) = false := beq_eq_false_iff_ne.2 n33
    have e47 : ((-1 : Int) == 47) = false := beq_eq_false_iff_ne.2 n47
    have eletter : isLetterC (-1) = false := Bool.eq_false_iff.2 nletter
    have e63 : ((-1 : Int) == 63) = false := beq_eq_false_iff_ne.2 n63
    clear n33
    clear n47
    clear nletter
    clear n63
    go_enter Tryz.func128, Tryz.ntmps128
    go_wp2_with fail
    refine (isLetter_does (-1) _ hc).mono ?_
    rintro e w1 ⟨rfl, rfl⟩
    go_wp2_with fail
    refine (wrong_sz [101, 110, 100, 45, 105, 110, 45, 116, 97, 103] h (by have := unhide HS; first | omega | (simp only [sz_wrong, sz_state, sz_addToComment, sz_setOdd, List.length_cons, List.length_nil]; omega))).mono ?_
    rintro e w2 ⟨rfl, h1⟩
    obtain ⟨R2, hR2⟩ := Tk.reg h1
    have c2 := text_cell hR2
    have f2 := hR2.1.frozen
    have X2 := hide (text_row hR2)
    have Y2 := hide (And.intro (text_max (s := (wrong s [101, 110, 100, 45, 105, 110, 45, 116, 97, 103])) (l := [60]) (by have := unhide HS; first | (simp only [List.length_cons, List.length_nil]; omega) | (simp only [sz_wrong, List.length_cons, List.length_nil]; omega))) (text_max' (s := (wrong s [101, 110, 100, 45, 105, 110, 45, 116, 97, 103])) (l := [60]) (by have := unhide HS; first | (simp only [List.length_cons, List.length_nil]; omega) | (simp only [sz_wrong, List.length_cons, List.length_nil]; omega))))
    go_wp2_with (at_builtin; refine wpList_append_mine_str _ rfl _ _ 74 9 rfl 5 i0 Tryz.underlying74 Tryz.underlying9 hi hz0 hz1 hz2 R2.text.a ((wrong s [101, 110, 100, 45, 105, 110, 45, 116, 97, 103])).text.length R2.text.cap (byteCells ((wrong s [101, 110, 100, 45, 105, 110, 45, 116, 97, 103])).text) rfl (unhide X2) ⟨([60] : Str).toArray⟩ rfl (unhide Y2).1 (unhide Y2).2 ?_)
    intro ao2 cap2 w3 hown2 hgrow2 hfresh2
    obtain ⟨hself2, h2⟩ := text_grown hR2 [60] ao2 cap2 (by simpa using hown2) hgrow2 hfresh2
    have dc2 := cell_of_self hself2 8
    have df2 := frozen_of_self hself2
    simp only [cellsOf] at dc2
    clear hown2 hgrow2 hfresh2
    go_wp2
    go_ret
    exact ⟨rfl, h2⟩
  have hfin : lookInOpen s c = (1, { (addText (wrong s [102, 105, 114, 115, 116]) [60]) with state := 0 }) := by simp [lookInOpen, n33, n47, nletter, n63, nm1]
  rw [hfin]
  clear hfin
  have e33 : ((c : Int) == 33) = false := beq_eq_false_iff_ne.2 n33
  have e47 : ((c : Int) == 47) = false := beq_eq_false_iff_ne.2 n47
  have eletter : isLetterC c = false := Bool.eq_false_iff.2 nletter
  have e63 : ((c : Int) == 63) = false := beq_eq_false_iff_ne.2 n63
  have em1 : ((c : Int) == -1) = false := beq_eq_false_iff_ne.2 nm1
  clear n33
  clear n47
  clear nletter
  clear n63
  clear nm1
  go_enter Tryz.func128, Tryz.ntmps128
  go_wp2_with fail
  refine (isLetter_does c _ hc).mono ?_
  rintro e w1 ⟨rfl, rfl⟩
  go_wp2_with fail
  refine (wrong_sz [102, 105, 114, 115, 116] h (by have := unhide HS; first | omega | (simp only [sz_wrong, sz_state, sz_addToComment, sz_setOdd, List.length_cons, List.length_nil]; omega))).mono ?_
  rintro e w2 ⟨rfl, h1⟩
  obtain ⟨R2, hR2⟩ := Tk.reg h1
  have c2 := text_cell hR2
  have f2 := hR2.1.frozen
  have X2 := hide (text_row hR2)
  have Y2 := hide (And.intro (text_max (s := (wrong s [102, 105, 114, 115, 116])) (l := [60]) (by have := unhide HS; first | (simp only [List.length_cons, List.length_nil]; omega) | (simp only [sz_wrong, List.length_cons, List.length_nil]; omega))) (text_max' (s := (wrong s [102, 105, 114, 115, 116])) (l := [60]) (by have := unhide HS; first | (simp only [List.length_cons, List.length_nil]; omega) | (simp only [sz_wrong, List.length_cons, List.length_nil]; omega))))
  go_wp2_with (at_builtin; refine wpList_append_mine_str _ rfl _ _ 74 9 rfl 5 i0 Tryz.underlying74 Tryz.underlying9 hi hz0 hz1 hz2 R2.text.a ((wrong s [102, 105, 114, 115, 116])).text.length R2.text.cap (byteCells ((wrong s [102, 105, 114, 115, 116])).text) rfl (unhide X2) ⟨([60] : Str).toArray⟩ rfl (unhide Y2).1 (unhide Y2).2 ?_)
  intro ao2 cap2 w3 hown2 hgrow2 hfresh2
  obtain ⟨hself2, h2⟩ := text_grown hR2 [60] ao2 cap2 (by simpa using hown2) hgrow2 hfresh2
  have dc2 := cell_of_self hself2 8
  have df2 := frozen_of_self hself2
  simp only [cellsOf] at dc2
  clear hown2 hgrow2 hfresh2
  go_wp2_with fail
  refine (again_does 0 h2).mono ?_
  rintro e w4 ⟨rfl, h3⟩
  go_wp2
  go_ret
  exact ⟨rfl, h3⟩

def lookInClose (s : TS) (c : Int) : Int × TS :=
  if isLetterC c = true then (1, { { s with tag := { kind := 2 } } with state := 8 }) else
  if c = 62 then (0, { (wrong s [110, 111, 45, 110, 97, 109, 101]) with state := 0 }) else
  if c = -1 then (0, (addText (wrong s [101, 110, 100, 45, 105, 110, 45, 116, 97, 103]) [60, 47])) else
  (1, { (wrong s [102, 105, 114, 115, 116]) with state := 19 })

set_option maxHeartbeats 1000000 in
set_option maxRecDepth 1000000 in
theorem lookInClose_does (c : Int) (hc : Rn c) (h : Tk w0 own0 b s ex w) (hs : sz s + 12 ≤ lim) :
    Calls Tryz.prog 129 #[.pointer (some ⟨b, 0, none⟩), .int .i32 c] w fun e w' => e = .returned (.int .i64 (lookInClose s c).1) ∧ Tk w0 own0 b (lookInClose s c).2 ex w' := by
  have HS := hide hs
  clear hs
  obtain ⟨i0, hi, hz0, hz1, hz2⟩ := info_parts Tryz.infoByte
  by_cases nletter : isLetterC c = true
  · have y := nletter
    clear nletter
    have hfin : lookInClose s c = (1, { { s with tag := { kind := 2 } } with state := 8 }) := by simp [lookInClose, y]
    rw [hfin]
    clear hfin
    go_enter Tryz.func129, Tryz.ntmps129
    go_wp2_with fail
    refine (isLetter_does c _ hc).mono ?_
    rintro e w1 ⟨rfl, rfl⟩
    obtain ⟨R1, hR1⟩ := Tk.reg h
    have t1_0 := hR1.1.cell 9
    have t1_1 := hR1.1.cell 10
    have t1_2 := hR1.1.cell 11
    have t1_3 := hR1.1.cell 12
    have t1_4 := hR1.1.cell 13
    have t1_5 := hR1.1.cell 14
    have f1 := hR1.1.frozen
    simp only [cellsOf] at t1_0 t1_1 t1_2 t1_3 t1_4 t1_5
    have h1 := tk_newTag hR1 2
    unfold zeroTagK at h1
    go_wp2_with fail
    refine (again_does 8 h1).mono ?_
    rintro e w3 ⟨rfl, h2⟩
    go_wp2
    go_ret
    exact ⟨rfl, h2⟩
  by_cases n62 : c = 62
  · have y := n62
    clear n62
    subst y
    have hfin : lookInClose s 62 = (0, { (wrong s [110, 111, 45, 110, 97, 109, 101]) with state := 0 }) := by simp [lookInClose, nletter]
    rw [hfin]
    clear hfin
    have eletter : isLetterC 62 = false := Bool.eq_false_iff.2 nletter
    clear nletter
    go_enter Tryz.func129, Tryz.ntmps129
    go_wp2_with fail
    refine (isLetter_does 62 _ hc).mono ?_
    rintro e w1 ⟨rfl, rfl⟩
    go_wp2_with fail
    refine (wrong_sz [110, 111, 45, 110, 97, 109, 101] h (by have := unhide HS; first | omega | (simp only [sz_wrong, sz_state, sz_addToComment, sz_setOdd, List.length_cons, List.length_nil]; omega))).mono ?_
    rintro e w2 ⟨rfl, h1⟩
    go_wp2_with fail
    refine (to_does 0 h1).mono ?_
    rintro e w3 ⟨rfl, h2⟩
    go_wp2
    go_ret
    exact ⟨rfl, h2⟩
  by_cases nm1 : c = -1
  · have y := nm1
    clear nm1
    subst y
    have hfin : lookInClose s (-1) = (0, (addText (wrong s [101, 110, 100, 45, 105, 110, 45, 116, 97, 103]) [60, 47])) := by simp [lookInClose, nletter, n62]
    rw [hfin]
    clear hfin
    have eletter : isLetterC (-1) = false := Bool.eq_false_iff.2 nletter
    have e62 : ((-1 : Int) == 62) = false := beq_eq_false_iff_ne.2 n62
    clear nletter
    clear n62
    go_enter Tryz.func129, Tryz.ntmps129
    go_wp2_with fail
    refine (isLetter_does (-1) _ hc).mono ?_
    rintro e w1 ⟨rfl, rfl⟩
    go_wp2_with fail
    refine (wrong_sz [101, 110, 100, 45, 105, 110, 45, 116, 97, 103] h (by have := unhide HS; first | omega | (simp only [sz_wrong, sz_state, sz_addToComment, sz_setOdd, List.length_cons, List.length_nil]; omega))).mono ?_
    rintro e w2 ⟨rfl, h1⟩
    obtain ⟨R2, hR2⟩ := Tk.reg h1
    have c2 := text_cell hR2
    have f2 := hR2.1.frozen
    have X2 := hide (text_row hR2)
    have Y2 := hide (And.intro (text_max (s := (wrong s [101, 110, 100, 45, 105, 110, 45, 116, 97, 103])) (l := [60, 47]) (by have := unhide HS; first | (simp only [List.length_cons, List.length_nil]; omega) | (simp only [sz_wrong, List.length_cons, List.length_nil]; omega))) (text_max' (s := (wrong s [101, 110, 100, 45, 105, 110, 45, 116, 97, 103])) (l := [60, 47]) (by have := unhide HS; first | (simp only [List.length_cons, List.length_nil]; omega) | (simp only [sz_wrong, List.length_cons, List.length_nil]; omega))))
    go_wp2_with (at_builtin; refine wpList_append_mine_str _ rfl _ _ 74 9 rfl 5 i0 Tryz.underlying74 Tryz.underlying9 hi hz0 hz1 hz2 R2.text.a ((wrong s [101, 110, 100, 45, 105, 110, 45, 116, 97, 103])).text.length R2.text.cap (byteCells ((wrong s [101, 110, 100, 45, 105, 110, 45, 116, 97, 103])).text) rfl (unhide X2) ⟨([60, 47] : Str).toArray⟩ rfl (unhide Y2).1 (unhide Y2).2 ?_)
    intro ao2 cap2 w3 hown2 hgrow2 hfresh2
    obtain ⟨hself2, h2⟩ := text_grown hR2 [60, 47] ao2 cap2 (by simpa using hown2) hgrow2 hfresh2
    have dc2 := cell_of_self hself2 8
    have df2 := frozen_of_self hself2
    simp only [cellsOf] at dc2
    clear hown2 hgrow2 hfresh2
    go_wp2
    go_ret
    exact ⟨rfl, h2⟩
  have hfin : lookInClose s c = (1, { (wrong s [102, 105, 114, 115, 116]) with state := 19 }) := by simp [lookInClose, nletter, n62, nm1]
  rw [hfin]
  clear hfin
  have eletter : isLetterC c = false := Bool.eq_false_iff.2 nletter
  have e62 : ((c : Int) == 62) = false := beq_eq_false_iff_ne.2 n62
  have em1 : ((c : Int) == -1) = false := beq_eq_false_iff_ne.2 nm1
  clear nletter
  clear n62
  clear nm1
  go_enter Tryz.func129, Tryz.ntmps129
  go_wp2_with fail
  refine (isLetter_does c _ hc).mono ?_
  rintro e w1 ⟨rfl, rfl⟩
  go_wp2_with fail
  refine (wrong_sz [102, 105, 114, 115, 116] h (by have := unhide HS; first | omega | (simp only [sz_wrong, sz_state, sz_addToComment, sz_setOdd, List.length_cons, List.length_nil]; omega))).mono ?_
  rintro e w2 ⟨rfl, h1⟩
  go_wp2_with fail
  refine (again_does 19 h1).mono ?_
  rintro e w3 ⟨rfl, h2⟩
  go_wp2
  go_ret
  exact ⟨rfl, h2⟩


def backToBase (s : TS) (l : Str) : Int × TS := (1, { addText s l with state := s.base })
theorem sz_addText (s : TS) (l : Str) : sz (addText s l) = sz s + l.length := by simp [sz, addText]; omega

set_option maxHeartbeats 800000 in
set_option maxRecDepth 1000000 in
theorem backToBase_does (l : Str) (h : Tk w0 own0 b s ex w) (hs : sz s + l.length ≤ lim) :
    Calls Tryz.prog 193 #[.pointer (some ⟨b, 0, none⟩), .string ⟨l.toArray⟩] w fun e w' => e = .returned (.int .i64 (backToBase s l).1) ∧ Tk w0 own0 b (backToBase s l).2 ex w' := by
  obtain ⟨i0, hi, hz0, hz1, hz2⟩ := info_parts Tryz.infoByte
  obtain ⟨R, hR⟩ := h.reg
  have c1 := text_cell hR
  have f1 := hR.1.frozen
  have X1 := hide (text_row hR)
  have Y1 := hide (And.intro (text_max (s := s) (l := l) hs) (text_max' (s := s) (l := l) hs))
  clear hs h
  go_enter Tryz.func193, Tryz.ntmps193
  go_wp2_with (at_builtin; refine wpList_append_mine_str _ rfl _ _ 74 9 rfl 5 i0 Tryz.underlying74 Tryz.underlying9 hi hz0 hz1 hz2 R.text.a s.text.length R.text.cap (byteCells s.text) rfl (unhide X1) ⟨l.toArray⟩ rfl (unhide Y1).1 (unhide Y1).2 ?_)
  intro ao1 cap1 w1 hown hgrow hfresh
  obtain ⟨hself, h1⟩ := text_grown hR l ao1 cap1 (by simpa using hown) hgrow hfresh
  have dc := cell_of_self hself 8
  have db := cell_of_self hself 6
  have df := frozen_of_self hself
  simp only [cellsOf] at dc db
  clear hown hgrow hfresh
  go_wp2_with fail
  refine (again_does s.base h1).mono ?_
  rintro e w2 ⟨rfl, h2⟩
  go_wp2
  go_ret
  exact ⟨rfl, h2⟩

end
end Go.Proofs.YtdfmapcnfficlaaGreatDoor

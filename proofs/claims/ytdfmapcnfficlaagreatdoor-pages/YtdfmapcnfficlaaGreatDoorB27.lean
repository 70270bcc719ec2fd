/-
  LESS, LESSCLOSE, LESSNAME.
  LESSNAME.
-/
import Derived.Test.YtdfmapcnfficlaaGreatDoorB17
set_option linter.unusedSimpArgs false
set_option linter.unusedVariables false
namespace Go.Proofs.YtdfmapcnfficlaaGreatDoor
open Go Go.RowKit
section
variable {w0 : World} {own0 : Nat → Prop} {b : Nat} {s : TS} {ex : List Item} {w : World} {R : Regs}

def lookInLess (s : TS) (c : Int) : Int × TS :=
  if c = 47 then (0, { s with state := 6 }) else
  (1, (backToBase s [60]).2)

set_option maxHeartbeats 1000000 in
set_option maxRecDepth 1000000 in
theorem lookInLess_does (c : Int) (hc : Rn c) (h : Tk w0 own0 b s ex w) (hs : sz s + 12 ≤ lim) :
    Calls Tryz.prog 130 #[.pointer (some ⟨b, 0, none⟩), .int .i32 c] w fun e w' => e = .returned (.int .i64 (lookInLess s c).1) ∧ Tk w0 own0 b (lookInLess s c).2 ex w' := by
  have HS := hide hs
  clear hs
  by_cases n47 : c = 47
  · have y := n47
    clear n47
    subst y
    have hfin : lookInLess s 47 = (0, { s with state := 6 }) := by simp [lookInLess]
    rw [hfin]
    clear hfin
    go_enter Tryz.func130, Tryz.ntmps130
    go_wp2_with fail
    refine (to_does 6 h).mono ?_
    rintro e w2 ⟨rfl, h1⟩
    go_wp2
    go_ret
    exact ⟨rfl, h1⟩
  have hfin : lookInLess s c = (1, (backToBase s [60]).2) := by simp [lookInLess, n47]
  rw [hfin]
  clear hfin
  have e47 : ((c : Int) == 47) = false := beq_eq_false_iff_ne.2 n47
  clear n47
  go_enter Tryz.func130, Tryz.ntmps130
  go_wp2_with fail
  refine (backToBase_does [60] h (by have := unhide HS; simp only [List.length_cons, List.length_nil]; omega)).mono ?_
  rintro e w2 ⟨rfl, h1⟩
  go_wp2
  go_ret
  exact ⟨rfl, h1⟩

def lookInLessClose (s : TS) (c : Int) : Int × TS :=
  if isLetterC c = true then (1, { { s with tag := { kind := 2 } } with state := 7 }) else
  (1, (backToBase s [60, 47]).2)

set_option maxHeartbeats 1000000 in
set_option maxRecDepth 1000000 in
theorem lookInLessClose_does (c : Int) (hc : Rn c) (h : Tk w0 own0 b s ex w) (hs : sz s + 12 ≤ lim) :
    Calls Tryz.prog 131 #[.pointer (some ⟨b, 0, none⟩), .int .i32 c] w fun e w' => e = .returned (.int .i64 (lookInLessClose s c).1) ∧ Tk w0 own0 b (lookInLessClose s c).2 ex w' := by
  have HS := hide hs
  clear hs
  by_cases nletter : isLetterC c = true
  · have y := nletter
    clear nletter
    have hfin : lookInLessClose s c = (1, { { s with tag := { kind := 2 } } with state := 7 }) := by simp [lookInLessClose, y]
    rw [hfin]
    clear hfin
    go_enter Tryz.func131, Tryz.ntmps131
    go_wp2_with fail
    refine (isLetter_does c _ hc).mono ?_
    rintro e w1 ⟨rfl, rfl⟩
    obtain ⟨R1, hR1⟩ := Tk.reg h
    have t1_0 := hR1.1.cell 9
    have t1_1 := hR1.1.cell 10
    have t1_2 := hR1.1.cell 11
    have t1_3 := hR1.1.cell 12
    have t1_4 := hR1.1.cell 13
    have t1_5 := hR1.1.cell 14
    have f1 := hR1.1.frozen
    simp only [cellsOf] at t1_0 t1_1 t1_2 t1_3 t1_4 t1_5
    have h1 := tk_newTag hR1 2
    unfold zeroTagK at h1
    go_wp2_with fail
    refine (again_does 7 h1).mono ?_
    rintro e w3 ⟨rfl, h2⟩
    go_wp2
    go_ret
    exact ⟨rfl, h2⟩
  have hfin : lookInLessClose s c = (1, (backToBase s [60, 47]).2) := by simp [lookInLessClose, nletter]
  rw [hfin]
  clear hfin
  have eletter : isLetterC c = false := Bool.eq_false_iff.2 nletter
  clear nletter
  go_enter Tryz.func131, Tryz.ntmps131
  go_wp2_with fail
  refine (isLetter_does c _ hc).mono ?_
  rintro e w1 ⟨rfl, rfl⟩
  go_wp2_with fail
  refine (backToBase_does [60, 47] h (by have := unhide HS; simp only [List.length_cons, List.length_nil]; omega)).mono ?_
  rintro e w2 ⟨rfl, h1⟩
  go_wp2
  go_ret
  exact ⟨rfl, h1⟩


def lessName (s : TS) (c : Int) : TS := { s with tag := { s.tag with name := s.tag.name ++ Lib.encodeRune (lowC c), buffer := s.tag.buffer ++ Lib.encodeRune c } }
def lookInLessName (s : TS) (c : Int) : Int × TS :=
  if isLetterC c = true then (0, lessName s c)
  else if (isBlankC c = true ∨ c = 47 ∨ c = 62) ∧ s.tag.name = s.lastStart then (1, { s with state := 8 })
  else backToBase { s with tag := {} } ([60, 47] ++ s.tag.buffer)

set_option maxHeartbeats 1000000 in
set_option maxRecDepth 1000000 in
theorem lessName_letter (c : Int) (hc : Rn c) (hl : isLetterC c = true) (h : Tk w0 own0 b s ex w) (hs : sz s + 12 ≤ lim) :
    Calls Tryz.prog 132 #[.pointer (some ⟨b, 0, none⟩), .int .i32 c] w fun e w' => e = .returned (.int .i64 0) ∧ Tk w0 own0 b (lessName s c) ex w' := by
  have HS := hide hs
  clear hs
  obtain ⟨R, hR⟩ := h.reg
  have c1 : w.cell? ⟨b, 10, none⟩ = some (.slice R.tname.a s.tag.name.length R.tname.cap) := hR.1.cell 10
  have HP := hide (lowC_in hc)
  have HA := hide (appendRune_does R.tname s.tag.name (lowC c) (unhide HP).1 (unhide HP).2 w.drew (hR.1.rows.ok (bItem R.tname s.tag.name) (by simp [itemsOf])) (by have := unhide HS; unfold sz lim at this; omega))
  clear h
  go_enter Tryz.func132, Tryz.ntmps132
  go_wp2_with fail
  refine (isLetter_does c _ hc).mono ?_
  rintro e w1 ⟨rfl, rfl⟩
  go_wp2_with fail
  go_region_with (first
    | (go_at_call 194; refine (low_does c _ hc).mono ?_; rintro e w4 ⟨rfl, rfl⟩)
    | (go_at_call 126; refine (unhide HA).mono ?_; rintro e w2 ⟨r', o, rfl, hok, hg, hf⟩; obtain ⟨hself, hT⟩ := RepAt.tname_grow (tkR_drew hR).1 (tkR_drew hR).2 ((More.refl _).alloc o) _ r' hok hg hf; have d2 := cell_of_self hself 10; have df := frozen_of_self hself; simp only [cellsOf] at d2; simp only [List.length_append] at hT; clear hok hg hf))
  all_goals
    obtain ⟨R2, hR2⟩ := hT.reg
    have e1 : (w2.setCell ⟨b, 10, none⟩ (.slice r'.a (s.tag.name.length + (Lib.encodeRune (lowC c)).length) r'.cap)).cell? ⟨b, 11, none⟩ = some (.slice R2.buffer.a s.tag.buffer.length R2.buffer.cap) := hR2.1.cell 11
    go_wp2_with fail
    refine (appendRune_does R2.buffer s.tag.buffer c (by have := hc.1; omega) (by have := hc.2; omega) _ (hR2.1.rows.ok (bItem R2.buffer s.tag.buffer) (by simp [itemsOf])) (by have := unhide HS; unfold sz lim at this; omega)).mono ?_
    rintro e w5 ⟨r2, o2, rfl, hok2, hg2, hf2⟩
    obtain ⟨hself2, hT2⟩ := RepAt.buffer_grow hR2.1 hR2.2 ((More.refl _).alloc o2) _ r2 hok2 hg2 hf2
    have d3 := cell_of_self hself2 11
    have df2 := frozen_of_self hself2
    simp only [cellsOf] at d3
    simp only [List.length_append] at hT2
    clear hok2 hg2 hf2
    go_wp2
    go_ret
    exact ⟨rfl, hT2⟩
end
end Go.Proofs.YtdfmapcnfficlaaGreatDoor

set_option linter.unusedSimpArgs false
set_option linter.unusedVariables false
namespace Go.Proofs.YtdfmapcnfficlaaGreatDoor
open Go Go.RowKit
section
variable {w0 : World} {own0 : Nat → Prop} {b : Nat} {s : TS} {ex : List Item} {w : World} {R : Regs}

theorem more_drewN (w : World) (q : Nat) : More w (w.drewN q) := ⟨rfl, rfl, rfl, Nat.le_refl _, fun _ _ => rfl⟩
theorem ok_drewN {it : Item} (q : Nat) (h : it.ok w) : it.ok (w.drewN q) := Item.ok_kept h fun _ _ => rfl
theorem tkR_drewN (q : Nat) (h : TkR w0 own0 b s R ex w) : TkR w0 own0 b s R ex (w.drewN q) := tkR_more h (more_drewN w q)

set_option maxHeartbeats 1000000 in
set_option maxRecDepth 1000000 in
theorem lessName_blank_eq (c : Int) (hc : Rn c) (hl : isLetterC c = false) (hb : isBlankC c = true) (heq : s.tag.name = s.lastStart) (h : Tk w0 own0 b s ex w) (hs : sz s + 12 ≤ lim) :
    Calls Tryz.prog 132 #[.pointer (some ⟨b, 0, none⟩), .int .i32 c] w fun e w' => e = .returned (.int .i64 1) ∧ Tk w0 own0 b { s with state := 8 } ex w' := by
  have HS := hide hs
  clear hs
  obtain ⟨R, hR⟩ := h.reg
  have c1 : w.cell? ⟨b, 10, none⟩ = some (.slice R.tname.a s.tag.name.length R.tname.cap) := hR.1.cell 10
  have c2 : w.cell? ⟨b, 15, none⟩ = some (.string ⟨s.lastStart.toArray⟩) := hR.1.cell 15
  have hcv : ∀ q, (convert 74 9 (.slice R.tname.a s.tag.name.length R.tname.cap)).run Tryz.prog (w.drewN q) = .ok (.string ⟨s.tag.name.toArray⟩) (w.drewN q) := fun q => conv_row (w := w.drewN q) (r := R.tname) (l := s.tag.name) (ok_drewN q (hR.1.rows.ok (bItem R.tname s.tag.name) (by simp [itemsOf])))
  have H0 := hide hR
  have ee : (s.tag.name == s.lastStart) = true := beq_iff_eq.2 heq
  clear heq
  clear h hR
  go_enter Tryz.func132, Tryz.ntmps132
  go_wp2_with fail
  refine (isLetter_does c _ hc).mono ?_
  rintro e w1 ⟨rfl, rfl⟩
  go_wp2_with fail
  go_quiet ((go_at_call 195; exact Calls.quiet_of_same (isBlank_does c _)))
  all_goals
    go_wp2_with fail
    refine (again_does 8 (tkR_drewN nq (unhide H0)).tk).mono ?_
    rintro e w3 ⟨rfl, h4⟩
    go_wp2
    go_ret
    exact ⟨rfl, h4⟩

set_option maxHeartbeats 1000000 in
set_option maxRecDepth 1000000 in
theorem lessName_blank_ne (c : Int) (hc : Rn c) (hl : isLetterC c = false) (hb : isBlankC c = true) (heq : s.tag.name ≠ s.lastStart) (h : Tk w0 own0 b s ex w) (hs : sz s + 12 ≤ lim) :
    Calls Tryz.prog 132 #[.pointer (some ⟨b, 0, none⟩), .int .i32 c] w fun e w' => e = .returned (.int .i64 1) ∧ Tk w0 own0 b (backToBase { s with tag := {} } ([60, 47] ++ s.tag.buffer)).2 ex w' := by
  have HS := hide hs
  clear hs
  obtain ⟨R, hR⟩ := h.reg
  have c1 : w.cell? ⟨b, 10, none⟩ = some (.slice R.tname.a s.tag.name.length R.tname.cap) := hR.1.cell 10
  have c2 : w.cell? ⟨b, 15, none⟩ = some (.string ⟨s.lastStart.toArray⟩) := hR.1.cell 15
  have hcv : ∀ q, (convert 74 9 (.slice R.tname.a s.tag.name.length R.tname.cap)).run Tryz.prog (w.drewN q) = .ok (.string ⟨s.tag.name.toArray⟩) (w.drewN q) := fun q => conv_row (w := w.drewN q) (r := R.tname) (l := s.tag.name) (ok_drewN q (hR.1.rows.ok (bItem R.tname s.tag.name) (by simp [itemsOf])))
  have H0 := hide hR
  have ee : (s.tag.name == s.lastStart) = false := beq_eq_false_iff_ne.2 heq
  clear heq
  have t1 : w.cell? ⟨b, 11, none⟩ = some (.slice R.buffer.a s.tag.buffer.length R.buffer.cap) := hR.1.cell 11
  have t0 : w.cell? ⟨b, 9, none⟩ = some (.int .i64 s.tag.kind) := hR.1.cell 9
  have t3 : w.cell? ⟨b, 12, none⟩ = some (.slice R.atts.a s.tag.atts.length R.atts.cap) := hR.1.cell 12
  have t4 : w.cell? ⟨b, 13, none⟩ = some (.map R.names) := hR.1.cell 13
  have t5 : w.cell? ⟨b, 14, none⟩ = some (.bool s.tag.closes) := hR.1.cell 14
  have hf := hR.1.frozen
  have hbl : s.tag.buffer.length ≤ 1099511627776 := by have := unhide HS; unfold sz lim at this; omega
  have hcv2 : ∀ q, (convert 74 9 (.slice R.buffer.a s.tag.buffer.length R.buffer.cap)).run Tryz.prog (w.drewN q) = .ok (.string ⟨s.tag.buffer.toArray⟩) (w.drewN q) := fun q => conv_row (w := w.drewN q) (r := R.buffer) (l := s.tag.buffer) (ok_drewN q (hR.1.rows.ok (bItem R.buffer s.tag.buffer) (by simp [itemsOf])))
  clear h hR
  go_enter Tryz.func132, Tryz.ntmps132
  go_wp2_with fail
  refine (isLetter_does c _ hc).mono ?_
  rintro e w1 ⟨rfl, rfl⟩
  go_wp2_with fail
  go_quiet ((go_at_call 195; exact Calls.quiet_of_same (isBlank_does c _)))
  all_goals
    have h3 := tk_newTag (tkR_drewN nq (unhide H0)) 0
    unfold zeroTagK at h3
    go_wp2_with fail
    refine (backToBase_does ([60, 47] ++ s.tag.buffer) h3 (by have := unhide HS; unfold sz at *; simp [attsz]; omega)).mono ?_
    rintro e w3 ⟨rfl, h4⟩
    go_wp2
    go_ret
    exact ⟨rfl, h4⟩

set_option maxHeartbeats 1000000 in
set_option maxRecDepth 1000000 in
theorem lessName_slash_eq (heq : s.tag.name = s.lastStart) (h : Tk w0 own0 b s ex w) (hs : sz s + 12 ≤ lim) :
    Calls Tryz.prog 132 #[.pointer (some ⟨b, 0, none⟩), .int .i32 47] w fun e w' => e = .returned (.int .i64 1) ∧ Tk w0 own0 b { s with state := 8 } ex w' := by
  have hc : Rn 47 := by unfold Rn; omega
  have hl : isLetterC 47 = false := by decide
  have hb : isBlankC 47 = false := by decide
  have HS := hide hs
  clear hs
  obtain ⟨R, hR⟩ := h.reg
  have c1 : w.cell? ⟨b, 10, none⟩ = some (.slice R.tname.a s.tag.name.length R.tname.cap) := hR.1.cell 10
  have c2 : w.cell? ⟨b, 15, none⟩ = some (.string ⟨s.lastStart.toArray⟩) := hR.1.cell 15
  have hcv : ∀ q, (convert 74 9 (.slice R.tname.a s.tag.name.length R.tname.cap)).run Tryz.prog (w.drewN q) = .ok (.string ⟨s.tag.name.toArray⟩) (w.drewN q) := fun q => conv_row (w := w.drewN q) (r := R.tname) (l := s.tag.name) (ok_drewN q (hR.1.rows.ok (bItem R.tname s.tag.name) (by simp [itemsOf])))
  have H0 := hide hR
  have ee : (s.tag.name == s.lastStart) = true := beq_iff_eq.2 heq
  clear heq
  clear h hR
  go_enter Tryz.func132, Tryz.ntmps132
  go_wp2_with fail
  refine (isLetter_does 47 _ hc).mono ?_
  rintro e w1 ⟨rfl, rfl⟩
  go_wp2_with fail
  go_quiet ((go_at_call 195; exact Calls.quiet_of_same (isBlank_does 47 _)))
  all_goals
    go_wp2_with fail
    refine (again_does 8 (tkR_drewN nq (unhide H0)).tk).mono ?_
    rintro e w3 ⟨rfl, h4⟩
    go_wp2
    go_ret
    exact ⟨rfl, h4⟩

set_option maxHeartbeats 1000000 in
set_option maxRecDepth 1000000 in
theorem lessName_slash_ne (heq : s.tag.name ≠ s.lastStart) (h : Tk w0 own0 b s ex w) (hs : sz s + 12 ≤ lim) :
    Calls Tryz.prog 132 #[.pointer (some ⟨b, 0, none⟩), .int .i32 47] w fun e w' => e = .returned (.int .i64 1) ∧ Tk w0 own0 b (backToBase { s with tag := {} } ([60, 47] ++ s.tag.buffer)).2 ex w' := by
  have hc : Rn 47 := by unfold Rn; omega
  have hl : isLetterC 47 = false := by decide
  have hb : isBlankC 47 = false := by decide
  have HS := hide hs
  clear hs
  obtain ⟨R, hR⟩ := h.reg
  have c1 : w.cell? ⟨b, 10, none⟩ = some (.slice R.tname.a s.tag.name.length R.tname.cap) := hR.1.cell 10
  have c2 : w.cell? ⟨b, 15, none⟩ = some (.string ⟨s.lastStart.toArray⟩) := hR.1.cell 15
  have hcv : ∀ q, (convert 74 9 (.slice R.tname.a s.tag.name.length R.tname.cap)).run Tryz.prog (w.drewN q) = .ok (.string ⟨s.tag.name.toArray⟩) (w.drewN q) := fun q => conv_row (w := w.drewN q) (r := R.tname) (l := s.tag.name) (ok_drewN q (hR.1.rows.ok (bItem R.tname s.tag.name) (by simp [itemsOf])))
  have H0 := hide hR
  have ee : (s.tag.name == s.lastStart) = false := beq_eq_false_iff_ne.2 heq
  clear heq
  have t1 : w.cell? ⟨b, 11, none⟩ = some (.slice R.buffer.a s.tag.buffer.length R.buffer.cap) := hR.1.cell 11
  have t0 : w.cell? ⟨b, 9, none⟩ = some (.int .i64 s.tag.kind) := hR.1.cell 9
  have t3 : w.cell? ⟨b, 12, none⟩ = some (.slice R.atts.a s.tag.atts.length R.atts.cap) := hR.1.cell 12
  have t4 : w.cell? ⟨b, 13, none⟩ = some (.map R.names) := hR.1.cell 13
  have t5 : w.cell? ⟨b, 14, none⟩ = some (.bool s.tag.closes) := hR.1.cell 14
  have hf := hR.1.frozen
  have hbl : s.tag.buffer.length ≤ 1099511627776 := by have := unhide HS; unfold sz lim at this; omega
  have hcv2 : ∀ q, (convert 74 9 (.slice R.buffer.a s.tag.buffer.length R.buffer.cap)).run Tryz.prog (w.drewN q) = .ok (.string ⟨s.tag.buffer.toArray⟩) (w.drewN q) := fun q => conv_row (w := w.drewN q) (r := R.buffer) (l := s.tag.buffer) (ok_drewN q (hR.1.rows.ok (bItem R.buffer s.tag.buffer) (by simp [itemsOf])))
  clear h hR
  go_enter Tryz.func132, Tryz.ntmps132
  go_wp2_with fail
  refine (isLetter_does 47 _ hc).mono ?_
  rintro e w1 ⟨rfl, rfl⟩
  go_wp2_with fail
  go_quiet ((go_at_call 195; exact Calls.quiet_of_same (isBlank_does 47 _)))
  all_goals
    have h3 := tk_newTag (tkR_drewN nq (unhide H0)) 0
    unfold zeroTagK at h3
    go_wp2_with fail
    refine (backToBase_does ([60, 47] ++ s.tag.buffer) h3 (by have := unhide HS; unfold sz at *; simp [attsz]; omega)).mono ?_
    rintro e w3 ⟨rfl, h4⟩
    go_wp2
    go_ret
    exact ⟨rfl, h4⟩

set_option maxHeartbeats 1000000 in
set_option maxRecDepth 1000000 in
theorem lessName_gt_eq (heq : s.tag.name = s.lastStart) (h : Tk w0 own0 b s ex w) (hs : sz s + 12 ≤ lim) :
    Calls Tryz.prog 132 #[.pointer (some ⟨b, 0, none⟩), .int .i32 62] w fun e w' => e = .returned (.int .i64 1) ∧ Tk w0 own0 b { s with state := 8 } ex w' := by
  have hc : Rn 62 := by unfold Rn; omega
  have hl : isLetterC 62 = false := by decide
  have hb : isBlankC 62 = false := by decide
  have HS := hide hs
  clear hs
  obtain ⟨R, hR⟩ := h.reg
  have c1 : w.cell? ⟨b, 10, none⟩ = some (.slice R.tname.a s.tag.name.length R.tname.cap) := hR.1.cell 10
  have c2 : w.cell? ⟨b, 15, none⟩ = some (.string ⟨s.lastStart.toArray⟩) := hR.1.cell 15
  have hcv : ∀ q, (convert 74 9 (.slice R.tname.a s.tag.name.length R.tname.cap)).run Tryz.prog (w.drewN q) = .ok (.string ⟨s.tag.name.toArray⟩) (w.drewN q) := fun q => conv_row (w := w.drewN q) (r := R.tname) (l := s.tag.name) (ok_drewN q (hR.1.rows.ok (bItem R.tname s.tag.name) (by simp [itemsOf])))
  have H0 := hide hR
  have ee : (s.tag.name == s.lastStart) = true := beq_iff_eq.2 heq
  clear heq
  clear h hR
  go_enter Tryz.func132, Tryz.ntmps132
  go_wp2_with fail
  refine (isLetter_does 62 _ hc).mono ?_
  rintro e w1 ⟨rfl, rfl⟩
  go_wp2_with fail
  go_quiet ((go_at_call 195; exact Calls.quiet_of_same (isBlank_does 62 _)))
  all_goals
    go_wp2_with fail
    refine (again_does 8 (tkR_drewN nq (unhide H0)).tk).mono ?_
    rintro e w3 ⟨rfl, h4⟩
    go_wp2
    go_ret
    exact ⟨rfl, h4⟩

set_option maxHeartbeats 1000000 in
set_option maxRecDepth 1000000 in
theorem lessName_gt_ne (heq : s.tag.name ≠ s.lastStart) (h : Tk w0 own0 b s ex w) (hs : sz s + 12 ≤ lim) :
    Calls Tryz.prog 132 #[.pointer (some ⟨b, 0, none⟩), .int .i32 62] w fun e w' => e = .returned (.int .i64 1) ∧ Tk w0 own0 b (backToBase { s with tag := {} } ([60, 47] ++ s.tag.buffer)).2 ex w' := by
  have hc : Rn 62 := by unfold Rn; omega
  have hl : isLetterC 62 = false := by decide
  have hb : isBlankC 62 = false := by decide
  have HS := hide hs
  clear hs
  obtain ⟨R, hR⟩ := h.reg
  have c1 : w.cell? ⟨b, 10, none⟩ = some (.slice R.tname.a s.tag.name.length R.tname.cap) := hR.1.cell 10
  have c2 : w.cell? ⟨b, 15, none⟩ = some (.string ⟨s.lastStart.toArray⟩) := hR.1.cell 15
  have hcv : ∀ q, (convert 74 9 (.slice R.tname.a s.tag.name.length R.tname.cap)).run Tryz.prog (w.drewN q) = .ok (.string ⟨s.tag.name.toArray⟩) (w.drewN q) := fun q => conv_row (w := w.drewN q) (r := R.tname) (l := s.tag.name) (ok_drewN q (hR.1.rows.ok (bItem R.tname s.tag.name) (by simp [itemsOf])))
  have H0 := hide hR
  have ee : (s.tag.name == s.lastStart) = false := beq_eq_false_iff_ne.2 heq
  clear heq
  have t1 : w.cell? ⟨b, 11, none⟩ = some (.slice R.buffer.a s.tag.buffer.length R.buffer.cap) := hR.1.cell 11
  have t0 : w.cell? ⟨b, 9, none⟩ = some (.int .i64 s.tag.kind) := hR.1.cell 9
  have t3 : w.cell? ⟨b, 12, none⟩ = some (.slice R.atts.a s.tag.atts.length R.atts.cap) := hR.1.cell 12
  have t4 : w.cell? ⟨b, 13, none⟩ = some (.map R.names) := hR.1.cell 13
  have t5 : w.cell? ⟨b, 14, none⟩ = some (.bool s.tag.closes) := hR.1.cell 14
  have hf := hR.1.frozen
  have hbl : s.tag.buffer.length ≤ 1099511627776 := by have := unhide HS; unfold sz lim at this; omega
  have hcv2 : ∀ q, (convert 74 9 (.slice R.buffer.a s.tag.buffer.length R.buffer.cap)).run Tryz.prog (w.drewN q) = .ok (.string ⟨s.tag.buffer.toArray⟩) (w.drewN q) := fun q => conv_row (w := w.drewN q) (r := R.buffer) (l := s.tag.buffer) (ok_drewN q (hR.1.rows.ok (bItem R.buffer s.tag.buffer) (by simp [itemsOf])))
  clear h hR
  go_enter Tryz.func132, Tryz.ntmps132
  go_wp2_with fail
  refine (isLetter_does 62 _ hc).mono ?_
  rintro e w1 ⟨rfl, rfl⟩
  go_wp2_with fail
  go_quiet ((go_at_call 195; exact Calls.quiet_of_same (isBlank_does 62 _)))
  all_goals
    have h3 := tk_newTag (tkR_drewN nq (unhide H0)) 0
    unfold zeroTagK at h3
    go_wp2_with fail
    refine (backToBase_does ([60, 47] ++ s.tag.buffer) h3 (by have := unhide HS; unfold sz at *; simp [attsz]; omega)).mono ?_
    rintro e w3 ⟨rfl, h4⟩
    go_wp2
    go_ret
    exact ⟨rfl, h4⟩
end
end Go.Proofs.YtdfmapcnfficlaaGreatDoor

/-
  LESSNAME.
-/
import Derived.Test.YtdfmapcnfficlaaGreatDoorLess
set_option linter.unusedSimpArgs false
set_option linter.unusedVariables false
namespace Go.Proofs.YtdfmapcnfficlaaGreatDoor
open Go Go.RowKit
section
variable {w0 : World} {own0 : Nat → Prop} {b : Nat} {s : TS} {ex : List Item} {w : World} {R : Regs}

theorem more_drewN (w : World) (q : Nat) : More w (w.drewN q) := ⟨rfl, rfl, rfl, Nat.le_refl _, fun _ _ => rfl⟩
theorem ok_drewN {it : Item} (q : Nat) (h : it.ok w) : it.ok (w.drewN q) := Item.ok_kept h fun _ _ => rfl
theorem tkR_drewN (q : Nat) (h : TkR w0 own0 b s R ex w) : TkR w0 own0 b s R ex (w.drewN q) := tkR_more h (more_drewN w q)

set_option maxHeartbeats 1000000 in
set_option maxRecDepth 1000000 in
theorem lessName_blank_eq (c : Int) (hc : Rn c) (hl : isLetterC c = false) (hb : isBlankC c = true) (heq : s.tag.name = s.lastStart) (h : Tk w0 own0 b s ex w) (hs : sz s + 12 ≤ lim) :
    Calls Tryz.prog 132 #[.pointer (some ⟨b, 0, none⟩), .int .i32 c] w fun e w' => e = .returned (.int .i64 1) ∧ Tk w0 own0 b { s with state := 8 } ex w' := by
  have HS := hide hs
  clear hs
  obtain ⟨R, hR⟩ := h.reg
  have c1 : w.cell? ⟨b, 10, none⟩ = some (.slice R.tname.a s.tag.name.length R.tname.cap) := hR.1.cell 10
  have c2 : w.cell? ⟨b, 15, none⟩ = some (.string ⟨s.lastStart.toArray⟩) := hR.1.cell 15
  have hcv : ∀ q, (convert 74 9 (.slice R.tname.a s.tag.name.length R.tname.cap)).run Tryz.prog (w.drewN q) = .ok (.string ⟨s.tag.name.toArray⟩) (w.drewN q) := fun q => conv_row (w := w.drewN q) (r := R.tname) (l := s.tag.name) (ok_drewN q (hR.1.rows.ok (bItem R.tname s.tag.name) (by simp [itemsOf])))
  have H0 := hide hR
  have ee : (s.tag.name == s.lastStart) = true := beq_iff_eq.2 heq
  clear heq
  clear h hR
  go_enter Tryz.func132, Tryz.ntmps132
  go_wp2_with fail
  refine (isLetter_does c _ hc).mono ?_
  rintro e w1 ⟨rfl, rfl⟩
  go_wp2_with fail
  go_quiet ((go_at_call 195; exact Calls.quiet_of_same (isBlank_does c _)))
  all_goals
    go_wp2_with fail
    refine (again_does 8 (tkR_drewN nq (unhide H0)).tk).mono ?_
    rintro e w3 ⟨rfl, h4⟩
    go_wp2
    go_ret
    exact ⟨rfl, h4⟩

set_option maxHeartbeats 1000000 in
set_option maxRecDepth 1000000 in
theorem lessName_blank_ne (c : Int) (hc : Rn c) (hl : isLetterC c = false) (hb : isBlankC c = true) (heq : s.tag.name ≠ s.lastStart) (h : Tk w0 own0 b s ex w) (hs : sz s + 12 ≤ lim) :
    Calls Tryz.prog 132 #[.pointer (some ⟨b, 0, none⟩), .int .i32 c] w fun e w' => e = .returned (.int .i64 1) ∧ Tk w0 own0 b (backToBase { s with tag := {} } ([60, 47] ++ s.tag.buffer)).2 ex w' := by
  have HS := hide hs
  clear hs
  obtain ⟨R, hR⟩ := h.reg
  have c1 : w.cell? ⟨b, 10, none⟩ = some (.slice R.tname.a s.tag.name.length R.tname.cap) := hR.1.cell 10
  have c2 : w.cell? ⟨b, 15, none⟩ = some (.string ⟨s.lastStart.toArray⟩) := hR.1.cell 15
  have hcv : ∀ q, (convert 74 9 (.slice R.tname.a s.tag.name.length R.tname.cap)).run Tryz.prog (w.drewN q) = .ok (.string ⟨s.tag.name.toArray⟩) (w.drewN q) := fun q => conv_row (w := w.drewN q) (r := R.tname) (l := s.tag.name) (ok_drewN q (hR.1.rows.ok (bItem R.tname s.tag.name) (by simp [itemsOf])))
  have H0 := hide hR
  have ee : (s.tag.name == s.lastStart) = false := beq_eq_false_iff_ne.2 heq
  clear heq
  have t1 : w.cell? ⟨b, 11, none⟩ = some (.slice R.buffer.a s.tag.buffer.length R.buffer.cap) := hR.1.cell 11
  have t0 : w.cell? ⟨b, 9, none⟩ = some (.int .i64 s.tag.kind) := hR.1.cell 9
  have t3 : w.cell? ⟨b, 12, none⟩ = some (.slice R.atts.a s.tag.atts.length R.atts.cap) := hR.1.cell 12
  have t4 : w.cell? ⟨b, 13, none⟩ = some (.map R.names) := hR.1.cell 13
  have t5 : w.cell? ⟨b, 14, none⟩ = some (.bool s.tag.closes) := hR.1.cell 14
  have hf := hR.1.frozen
  have hbl : s.tag.buffer.length ≤ 1099511627776 := by have := unhide HS; unfold sz lim at this; omega
  have hcv2 : ∀ q, (convert 74 9 (.slice R.buffer.a s.tag.buffer.length R.buffer.cap)).run Tryz.prog (w.drewN q) = .ok (.string ⟨s.tag.buffer.toArray⟩) (w.drewN q) := fun q => conv_row (w := w.drewN q) (r := R.buffer) (l := s.tag.buffer) (ok_drewN q (hR.1.rows.ok (bItem R.buffer s.tag.buffer) (by simp [itemsOf])))
  clear h hR
  go_enter Tryz.func132, Tryz.ntmps132
  go_wp2_with fail
  refine (isLetter_does c _ hc).mono ?_
  rintro e w1 ⟨rfl, rfl⟩
  go_wp2_with fail
  go_quiet ((go_at_call 195; exact Calls.quiet_of_same (isBlank_does c _)))
  all_goals
    have h3 := tk_newTag (tkR_drewN nq (unhide H0)) 0
    unfold zeroTagK at h3
    go_wp2_with fail
    refine (backToBase_does ([60, 47] ++ s.tag.buffer) h3 (by have := unhide HS; unfold sz at *; simp [attsz]; omega)).mono ?_
    rintro e w3 ⟨rfl, h4⟩
    go_wp2
    go_ret
    exact ⟨rfl, h4⟩

set_option maxHeartbeats 1000000 in
set_option maxRecDepth 1000000 in
theorem lessName_slash_eq (heq : s.tag.name = s.lastStart) (h : Tk w0 own0 b s ex w) (hs : sz s + 12 ≤ lim) :
    Calls Tryz.prog 132 #[.pointer (some ⟨b, 0, none⟩), .int .i32 47] w fun e w' => e = .returned (.int .i64 1) ∧ Tk w0 own0 b { s with state := 8 } ex w' := by
  have hc : Rn 47 := by unfold Rn; omega
  have hl : isLetterC 47 = false := by decide
  have hb : isBlankC 47 = false := by decide
  have HS := hide hs
  clear hs
  obtain ⟨R, hR⟩ := h.reg
  have c1 : w.cell? ⟨b, 10, none⟩ = some (.slice R.tname.a s.tag.name.length R.tname.cap) := hR.1.cell 10
  have c2 : w.cell? ⟨b, 15, none⟩ = some (.string ⟨s.lastStart.toArray⟩) := hR.1.cell 15
  have hcv : ∀ q, (convert 74 9 (.slice R.tname.a s.tag.name.length R.tname.cap)).run Tryz.prog (w.drewN q) = .ok (.string ⟨s.tag.name.toArray⟩) (w.drewN q) := fun q => conv_row (w := w.drewN q) (r := R.tname) (l := s.tag.name) (ok_drewN q (hR.1.rows.ok (bItem R.tname s.tag.name) (by simp [itemsOf])))
  have H0 := hide hR
  have ee : (s.tag.name == s.lastStart) = true := beq_iff_eq.2 heq
  clear heq
  clear h hR
  go_enter Tryz.func132, Tryz.ntmps132
  go_wp2_with fail
  refine (isLetter_does 47 _ hc).mono ?_
  rintro e w1 ⟨rfl, rfl⟩
  go_wp2_with fail
  go_quiet ((go_at_call 195; exact Calls.quiet_of_same (isBlank_does 47 _)))
  all_goals
    go_wp2_with fail
    refine (again_does 8 (tkR_drewN nq (unhide H0)).tk).mono ?_
    rintro e w3 ⟨rfl, h4⟩
    go_wp2
    go_ret
    exact ⟨rfl, h4⟩

set_option maxHeartbeats 1000000 in
set_option maxRecDepth 1000000 in
theorem lessName_slash_ne (heq : s.tag.name ≠ s.lastStart) (h : Tk w0 own0 b s ex w) (hs : sz s + 12 ≤ lim) :
    Calls Tryz.prog 132 #[.pointer (some ⟨b, 0, none⟩), .int .i32 47] w fun e w' => e = .returned (.int .i64 1) ∧ Tk w0 own0 b (backToBase { s with tag := {} } ([60, 47] ++ s.tag.buffer)).2 ex w' := by
  have hc : Rn 47 := by unfold Rn; omega
  have hl : isLetterC 47 = false := by decide
  have hb : isBlankC 47 = false := by decide
  have HS := hide hs
  clear hs
  obtain ⟨R, hR⟩ := h.reg
  have c1 : w.cell? ⟨b, 10, none⟩ = some (.slice R.tname.a s.tag.name.length R.tname.cap) := hR.1.cell 10
  have c2 : w.cell? ⟨b, 15, none⟩ = some (.string ⟨s.lastStart.toArray⟩) := hR.1.cell 15
  have hcv : ∀ q, (convert 74 9 (.slice R.tname.a s.tag.name.length R.tname.cap)).run Tryz.prog (w.drewN q) = .ok (.string ⟨s.tag.name.toArray⟩) (w.drewN q) := fun q => conv_row (w := w.drewN q) (r := R.tname) (l := s.tag.name) (ok_drewN q (hR.1.rows.ok (bItem R.tname s.tag.name) (by simp [itemsOf])))
  have H0 := hide hR
  have ee : (s.tag.name == s.lastStart) = false := beq_eq_false_iff_ne.2 heq
  clear heq
  have t1 : w.cell? ⟨b, 11, none⟩ = some (.slice R.buffer.a s.tag.buffer.length R.buffer.cap) := hR.1.cell 11
  have t0 : w.cell? ⟨b, 9, none⟩ = some (.int .i64 s.tag.kind) := hR.1.cell 9
  have t3 : w.cell? ⟨b, 12, none⟩ = some (.slice R.atts.a s.tag.atts.length R.atts.cap) := hR.1.cell 12
  have t4 : w.cell? ⟨b, 13, none⟩ = some (.map R.names) := hR.1.cell 13
  have t5 : w.cell? ⟨b, 14, none⟩ = some (.bool s.tag.closes) := hR.1.cell 14
  have hf := hR.1.frozen
  have hbl : s.tag.buffer.length ≤ 1099511627776 := by have := unhide HS; unfold sz lim at this; omega
  have hcv2 : ∀ q, (convert 74 9 (.slice R.buffer.a s.tag.buffer.length R.buffer.cap)).run Tryz.prog (w.drewN q) = .ok (.string ⟨s.tag.buffer.toArray⟩) (w.drewN q) := fun q => conv_row (w := w.drewN q) (r := R.buffer) (l := s.tag.buffer) (ok_drewN q (hR.1.rows.ok (bItem R.buffer s.tag.buffer) (by simp [itemsOf])))
  clear h hR
  go_enter Tryz.func132, Tryz.ntmps132
  go_wp2_with fail
  refine (isLetter_does 47 _ hc).mono ?_
  rintro e w1 ⟨rfl, rfl⟩
  go_wp2_with fail
  go_quiet ((go_at_call 195; exact Calls.quiet_of_same (isBlank_does 47 _)))
  all_goals
    have h3 := tk_newTag (tkR_drewN nq (unhide H0)) 0
    unfold zeroTagK at h3
    go_wp2_with fail
    refine (backToBase_does ([60, 47] ++ s.tag.buffer) h3 (by have := unhide HS; unfold sz at *; simp [attsz]; omega)).mono ?_
    rintro e w3 ⟨rfl, h4⟩
    go_wp2
    go_ret
    exact ⟨rfl, h4⟩

set_option maxHeartbeats 1000000 in
set_option maxRecDepth 1000000 in
theorem lessName_gt_eq (heq : s.tag.name = s.lastStart) (h : Tk w0 own0 b s ex w) (hs : sz s + 12 ≤ lim) :
    Calls Tryz.prog 132 #[.pointer (some ⟨b, 0, none⟩), .int .i32 62] w fun e w' => e = .returned (.int .i64 1) ∧ Tk w0 own0 b { s with state := 8 } ex w' := by
  have hc : Rn 62 := by unfold Rn; omega
  have hl : isLetterC 62 = false := by decide
  have hb : isBlankC 62 = false := by decide
  have HS := hide hs
  clear hs
  obtain ⟨R, hR⟩ := h.reg
  have c1 : w.cell? ⟨b, 10, none⟩ = some (.slice R.tname.a s.tag.name.length R.tname.cap) := hR.1.cell 10
  have c2 : w.cell? ⟨b, 15, none⟩ = some (.string ⟨s.lastStart.toArray⟩) := hR.1.cell 15
  have hcv : ∀ q, (convert 74 9 (.slice R.tname.a s.tag.name.length R.tname.cap)).run Tryz.prog (w.drewN q) = .ok (.string ⟨s.tag.name.toArray⟩) (w.drewN q) := fun q => conv_row (w := w.drewN q) (r := R.tname) (l := s.tag.name) (ok_drewN q (hR.1.rows.ok (bItem R.tname s.tag.name) (by simp [itemsOf])))
  have H0 := hide hR
  have ee : (s.tag.name == s.lastStart) = true := beq_iff_eq.2 heq
  clear heq
  clear h hR
  go_enter Tryz.func132, Tryz.ntmps132
  go_wp2_with fail
  refine (isLetter_does 62 _ hc).mono ?_
  rintro e w1 ⟨rfl, rfl⟩
  go_wp2_with fail
  go_quiet ((go_at_call 195; exact Calls.quiet_of_same (isBlank_does 62 _)))
  all_goals
    go_wp2_with fail
    refine (again_does 8 (tkR_drewN nq (unhide H0)).tk).mono ?_
    rintro e w3 ⟨rfl, h4⟩
    go_wp2
    go_ret
    exact ⟨rfl, h4⟩

set_option maxHeartbeats 1000000 in
set_option maxRecDepth 1000000 in
theorem lessName_gt_ne (heq : s.tag.name ≠ s.lastStart) (h : Tk w0 own0 b s ex w) (hs : sz s + 12 ≤ lim) :
    Calls Tryz.prog 132 #[.pointer (some ⟨b, 0, none⟩), .int .i32 62] w fun e w' => e = .returned (.int .i64 1) ∧ Tk w0 own0 b (backToBase { s with tag := {} } ([60, 47] ++ s.tag.buffer)).2 ex w' := by
  have hc : Rn 62 := by unfold Rn; omega
  have hl : isLetterC 62 = false := by decide
  have hb : isBlankC 62 = false := by decide
  have HS := hide hs
  clear hs
  obtain ⟨R, hR⟩ := h.reg
  have c1 : w.cell? ⟨b, 10, none⟩ = some (.slice R.tname.a s.tag.name.length R.tname.cap) := hR.1.cell 10
  have c2 : w.cell? ⟨b, 15, none⟩ = some (.string ⟨s.lastStart.toArray⟩) := hR.1.cell 15
  have hcv : ∀ q, (convert 74 9 (.slice R.tname.a s.tag.name.length R.tname.cap)).run Tryz.prog (w.drewN q) = .ok (.string ⟨s.tag.name.toArray⟩) (w.drewN q) := fun q => conv_row (w := w.drewN q) (r := R.tname) (l := s.tag.name) (ok_drewN q (hR.1.rows.ok (bItem R.tname s.tag.name) (by simp [itemsOf])))
  have H0 := hide hR
  have ee : (s.tag.name == s.lastStart) = false := beq_eq_false_iff_ne.2 heq
  clear heq
  have t1 : w.cell? ⟨b, 11, none⟩ = some (.slice R.buffer.a s.tag.buffer.length R.buffer.cap) := hR.1.cell 11
  have t0 : w.cell? ⟨b, 9, none⟩ = some (.int .i64 s.tag.kind) := hR.1.cell 9
  have t3 : w.cell? ⟨b, 12, none⟩ = some (.slice R.atts.a s.tag.atts.length R.atts.cap) := hR.1.cell 12
  have t4 : w.cell? ⟨b, 13, none⟩ = some (.map R.names) := hR.1.cell 13
  have t5 : w.cell? ⟨b, 14, none⟩ = some (.bool s.tag.closes) := hR.1.cell 14
  have hf := hR.1.frozen
  have hbl : s.tag.buffer.length ≤ 1099511627776 := by have := unhide HS; unfold sz lim at this; omega
  have hcv2 : ∀ q, (convert 74 9 (.slice R.buffer.a s.tag.buffer.length R.buffer.cap)).run Tryz.prog (w.drewN q) = .ok (.string ⟨s.tag.buffer.toArray⟩) (w.drewN q) := fun q => conv_row (w := w.drewN q) (r := R.buffer) (l := s.tag.buffer) (ok_drewN q (hR.1.rows.ok (bItem R.buffer s.tag.buffer) (by simp [itemsOf])))
  clear h hR
  go_enter Tryz.func132, Tryz.ntmps132
  go_wp2_with fail
  refine (isLetter_does 62 _ hc).mono ?_
  rintro e w1 ⟨rfl, rfl⟩
  go_wp2_with fail
  go_quiet ((go_at_call 195; exact Calls.quiet_of_same (isBlank_does 62 _)))
  all_goals
    have h3 := tk_newTag (tkR_drewN nq (unhide H0)) 0
    unfold zeroTagK at h3
    go_wp2_with fail
    refine (backToBase_does ([60, 47] ++ s.tag.buffer) h3 (by have := unhide HS; unfold sz at *; simp [attsz]; omega)).mono ?_
    rintro e w3 ⟨rfl, h4⟩
    go_wp2
    go_ret
    exact ⟨rfl, h4⟩
end
end Go.Proofs.YtdfmapcnfficlaaGreatDoor

/-
  DATA, TITLE, RAW.
-/
import Derived.Test.YtdfmapcnfficlaaGreatDoorB17
set_option linter.unusedSimpArgs false
set_option linter.unusedVariables false
namespace Go.Proofs.YtdfmapcnfficlaaGreatDoor
open Go Go.RowKit
section
variable {w0 : World} {own0 : Nat → Prop} {b : Nat} {s : TS} {ex : List Item} {w : World} {R : Regs}

theorem text_sz (s : TS) : s.text.length ≤ sz s := by unfold sz; omega
def putText (s : TS) (c : Int) : TS := { withoutNul s c with text := s.text ++ Lib.encodeRune (withoutNulC c) }
theorem putText_eq (s : TS) (c : Int) : putText s c = { withoutNul s c with text := s.text ++ Lib.encodeRune (withoutNulC c) } := rfl

def lookInData (s : TS) (c : Int) : Int × TS :=
  if c = -1 then (0, s) else
  if c = 38 then (0, (toReference s)) else
  if c = 60 then (0, { s with state := 3 }) else
  if c = 0 then (0, (addText (wrong s [110, 117, 108]) (Lib.encodeRune c))) else
  (0, (addText s (Lib.encodeRune c)))

set_option maxHeartbeats 1000000 in
set_option maxRecDepth 1000000 in
theorem lookInData_does (c : Int) (hc : Rn c) (h : Tk w0 own0 b s ex w) (hs : sz s + 12 ≤ lim) :
    Calls Tryz.prog 112 #[.pointer (some ⟨b, 0, none⟩), .int .i32 c] w fun e w' => e = .returned (.int .i64 (lookInData s c).1) ∧ Tk w0 own0 b (lookInData s c).2 ex w' := by
  have HS := hide hs
  clear hs
  by_cases nm1 : c = -1
  · have y := nm1
    clear nm1
    subst y
    have hfin : lookInData s (-1) = (0, s) := by simp [lookInData]
    rw [hfin]
    clear hfin
    go_enter Tryz.func112, Tryz.ntmps112
    go_wp2
    go_ret
    exact ⟨rfl, h⟩
  by_cases n38 : c = 38
  · have y := n38
    clear n38
    subst y
    have hfin : lookInData s 38 = (0, (toReference s)) := by simp [lookInData, nm1]
    rw [hfin]
    clear hfin
    have em1 : ((38 : Int) == -1) = false := beq_eq_false_iff_ne.2 nm1
    clear nm1
    go_enter Tryz.func112, Tryz.ntmps112
    go_wp2_with fail
    refine (toReference_does h (by have := unhide HS; first | omega | (simp only [sz_wrong, sz_state, sz_addToComment, sz_setOdd, List.length_cons, List.length_nil]; omega))).mono ?_
    rintro e w2 ⟨rfl, h1⟩
    go_wp2
    go_ret
    exact ⟨rfl, h1⟩
  by_cases n60 : c = 60
  · have y := n60
    clear n60
    subst y
    have hfin : lookInData s 60 = (0, { s with state := 3 }) := by simp [lookInData, nm1, n38]
    rw [hfin]
    clear hfin
    have em1 : ((60 : Int) == -1) = false := beq_eq_false_iff_ne.2 nm1
    have e38 : ((60 : Int) == 38) = false := beq_eq_false_iff_ne.2 n38
    clear nm1
    clear n38
    go_enter Tryz.func112, Tryz.ntmps112
    go_wp2_with fail
    refine (to_does 3 h).mono ?_
    rintro e w2 ⟨rfl, h1⟩
    go_wp2
    go_ret
    exact ⟨rfl, h1⟩
  by_cases n0 : c = 0
  · have y := n0
    clear n0
    subst y
    have hfin : lookInData s 0 = (0, (addText (wrong s [110, 117, 108]) (Lib.encodeRune 0))) := by simp [lookInData, nm1, n38, n60]
    rw [hfin]
    clear hfin
    have em1 : ((0 : Int) == -1) = false := beq_eq_false_iff_ne.2 nm1
    have e38 : ((0 : Int) == 38) = false := beq_eq_false_iff_ne.2 n38
    have e60 : ((0 : Int) == 60) = false := beq_eq_false_iff_ne.2 n60
    clear nm1
    clear n38
    clear n60
    go_enter Tryz.func112, Tryz.ntmps112
    go_wp2_with fail
    refine (wrong_sz [110, 117, 108] h (by have := unhide HS; first | omega | (simp only [sz_wrong, sz_state, sz_addToComment, sz_setOdd, List.length_cons, List.length_nil]; omega))).mono ?_
    rintro e w2 ⟨rfl, h1⟩
    obtain ⟨R2, hR2⟩ := Tk.reg h1
    have c2 := text_cell hR2
    have f2 := hR2.1.frozen
    go_wp2_with fail
    refine (appendRune_does R2.text ((wrong s [110, 117, 108])).text 0 (by have := hc.1; omega) (by have := hc.2; omega) _ (text_row hR2) (by have := unhide HS; have := text_sz (wrong s [110, 117, 108]); (try simp only [sz_wrong] at this); unfold lim at *; omega)).mono ?_
    rintro e w3 ⟨r2, o2, rfl, hok2, hg2, hf2⟩
    obtain ⟨hself2, h2⟩ := RepAt.text_grow hR2.1 hR2.2 ((More.refl _).alloc o2) _ r2 hok2 hg2 hf2
    have dc2 := cell_of_self hself2 8
    have df2 := frozen_of_self hself2
    simp only [cellsOf] at dc2
    simp only [List.length_append] at h2
    clear hok2 hg2 hf2
    go_wp2
    go_ret
    exact ⟨rfl, h2⟩
  have hfin : lookInData s c = (0, (addText s (Lib.encodeRune c))) := by simp [lookInData, nm1, n38, n60, n0]
  rw [hfin]
  clear hfin
  have em1 : ((c : Int) == -1) = false := beq_eq_false_iff_ne.2 nm1
  have e38 : ((c : Int) == 38) = false := beq_eq_false_iff_ne.2 n38
  have e60 : ((c : Int) == 60) = false := beq_eq_false_iff_ne.2 n60
  have e0 : ((c : Int) == 0) = false := beq_eq_false_iff_ne.2 n0
  clear nm1
  clear n38
  clear n60
  clear n0
  go_enter Tryz.func112, Tryz.ntmps112
  obtain ⟨R1, hR1⟩ := Tk.reg h
  have c1 := text_cell hR1
  have f1 := hR1.1.frozen
  go_wp2_with fail
  refine (appendRune_does R1.text (s).text c (by have := hc.1; omega) (by have := hc.2; omega) _ (text_row hR1) (by have := unhide HS; have := text_sz s; (try simp only [sz_wrong] at this); unfold lim at *; omega)).mono ?_
  rintro e w2 ⟨r1, o1, rfl, hok1, hg1, hf1⟩
  obtain ⟨hself1, h1⟩ := RepAt.text_grow hR1.1 hR1.2 ((More.refl _).alloc o1) _ r1 hok1 hg1 hf1
  have dc1 := cell_of_self hself1 8
  have df1 := frozen_of_self hself1
  simp only [cellsOf] at dc1
  simp only [List.length_append] at h1
  clear hok1 hg1 hf1
  go_wp2
  go_ret
  exact ⟨rfl, h1⟩

def lookInTitle (s : TS) (c : Int) : Int × TS :=
  if c = -1 then (0, s) else
  if c = 38 then (0, (toReference s)) else
  if c = 60 then (0, { s with state := 5 }) else
  (0, (putText s c))

set_option maxHeartbeats 1000000 in
set_option maxRecDepth 1000000 in
theorem lookInTitle_does (c : Int) (hc : Rn c) (hst : s.state = 1) (h : Tk w0 own0 b s ex w) (hs : sz s + 12 ≤ lim) :
    Calls Tryz.prog 106 #[.pointer (some ⟨b, 0, none⟩), .int .i32 c] w fun e w' => e = .returned (.int .i64 (lookInTitle s c).1) ∧ Tk w0 own0 b (lookInTitle s c).2 ex w' := by
  have HS := hide hs
  clear hs
  obtain ⟨R0, hR0⟩ := h.reg
  have cst := hR0.1.cell 5
  simp only [cellsOf, hst] at cst
  by_cases nm1 : c = -1
  · have y := nm1
    clear nm1
    subst y
    have hfin : lookInTitle s (-1) = (0, s) := by simp [lookInTitle]
    rw [hfin]
    clear hfin
    go_enter Tryz.func106, Tryz.ntmps106
    go_wp2
    go_ret
    exact ⟨rfl, h⟩
  by_cases n38 : c = 38
  · have y := n38
    clear n38
    subst y
    have hfin : lookInTitle s 38 = (0, (toReference s)) := by simp [lookInTitle, nm1]
    rw [hfin]
    clear hfin
    have em1 : ((38 : Int) == -1) = false := beq_eq_false_iff_ne.2 nm1
    clear nm1
    go_enter Tryz.func106, Tryz.ntmps106
    go_wp2_with fail
    refine (toReference_does h (by have := unhide HS; first | omega | (simp only [sz_wrong, sz_state, sz_addToComment, sz_setOdd, List.length_cons, List.length_nil]; omega))).mono ?_
    rintro e w2 ⟨rfl, h1⟩
    go_wp2
    go_ret
    exact ⟨rfl, h1⟩
  by_cases n60 : c = 60
  · have y := n60
    clear n60
    subst y
    have hfin : lookInTitle s 60 = (0, { s with state := 5 }) := by simp [lookInTitle, nm1, n38]
    rw [hfin]
    clear hfin
    have em1 : ((60 : Int) == -1) = false := beq_eq_false_iff_ne.2 nm1
    have e38 : ((60 : Int) == 38) = false := beq_eq_false_iff_ne.2 n38
    clear nm1
    clear n38
    go_enter Tryz.func106, Tryz.ntmps106
    go_wp2_with fail
    refine (to_does 5 h).mono ?_
    rintro e w2 ⟨rfl, h1⟩
    go_wp2
    go_ret
    exact ⟨rfl, h1⟩
  have hfin : lookInTitle s c = (0, (putText s c)) := by simp [lookInTitle, nm1, n38, n60]
  rw [hfin]
  clear hfin
  have em1 : ((c : Int) == -1) = false := beq_eq_false_iff_ne.2 nm1
  have e38 : ((c : Int) == 38) = false := beq_eq_false_iff_ne.2 n38
  have e60 : ((c : Int) == 60) = false := beq_eq_false_iff_ne.2 n60
  clear nm1
  clear n38
  clear n60
  obtain ⟨R, hR⟩ := h.reg
  have c1 : w.cell? ⟨b, 8, none⟩ = some (.slice R.text.a s.text.length R.text.cap) := hR.1.cell 8
  have HN := hide (withoutNul_doesR c (tkR_drew hR) (by have := unhide HS; unfold sz at this; omega))
  have HR := hide (withoutNulC_rn hc)
  have HL := hide (withoutNulC_in hc)
  have HP := hide (lowC_in (withoutNulC_in hc))
  clear h
  go_enter Tryz.func106, Tryz.ntmps106
  go_wp2_with fail
  go_region_with (first
    | (go_at_call 127; refine (unhide HN).mono ?_; rintro e w1 ⟨tl, ta, rfl, h1⟩; have d1 : w1.cell? ⟨b, 8, none⟩ = some (.slice R.text.a s.text.length R.text.cap) := (by rw [h1.1.cell]; simp [cellsOf, withoutNul_text]))
    | (go_at_call 126; refine (appendRune_does R.text s.text (withoutNulC c) (unhide HR).1 (unhide HR).2 _ (by have := h1.1.rows.ok (bItem R.text (withoutNul s c).text) (by simp [itemsOf]); rw [withoutNul_text] at this; exact this) (by have := unhide HS; unfold sz lim at this; omega)).mono ?_; rintro e w2 ⟨r', o, rfl, hok, hg, hf⟩; obtain ⟨hself, hT⟩ := RepAt.text_grow h1.1 h1.2 ((More.refl _).alloc o) _ r' hok hg hf; have d2 := cell_of_self hself 8; have df := frozen_of_self hself; simp only [cellsOf] at d2; simp only [List.length_append] at hT))
  all_goals
    go_wp2
    go_ret
    exact ⟨rfl, by rw [putText_eq]; exact hT⟩

def lookInRaw (s : TS) (c : Int) : Int × TS :=
  if c = -1 then (0, s) else
  if c = 38 then (0, (putText s c)) else
  if c = 60 then (0, { s with state := 5 }) else
  (0, (putText s c))

set_option maxHeartbeats 1000000 in
set_option maxRecDepth 1000000 in
theorem lookInRaw_does (c : Int) (hc : Rn c) (hst : s.state = 2) (h : Tk w0 own0 b s ex w) (hs : sz s + 12 ≤ lim) :
    Calls Tryz.prog 106 #[.pointer (some ⟨b, 0, none⟩), .int .i32 c] w fun e w' => e = .returned (.int .i64 (lookInRaw s c).1) ∧ Tk w0 own0 b (lookInRaw s c).2 ex w' := by
  have HS := hide hs
  clear hs
  obtain ⟨R0, hR0⟩ := h.reg
  have cst := hR0.1.cell 5
  simp only [cellsOf, hst] at cst
  by_cases nm1 : c = -1
  · have y := nm1
    clear nm1
    subst y
    have hfin : lookInRaw s (-1) = (0, s) := by simp [lookInRaw]
    rw [hfin]
    clear hfin
    go_enter Tryz.func106, Tryz.ntmps106
    go_wp2
    go_ret
    exact ⟨rfl, h⟩
  by_cases n38 : c = 38
  · have y := n38
    clear n38
    subst y
    have hfin : lookInRaw s 38 = (0, (putText s 38)) := by simp [lookInRaw, nm1]
    rw [hfin]
    clear hfin
    have em1 : ((38 : Int) == -1) = false := beq_eq_false_iff_ne.2 nm1
    clear nm1
    obtain ⟨R, hR⟩ := h.reg
    have c1 : w.cell? ⟨b, 8, none⟩ = some (.slice R.text.a s.text.length R.text.cap) := hR.1.cell 8
    have HN := hide (withoutNul_doesR 38 (tkR_drew hR) (by have := unhide HS; unfold sz at this; omega))
    have HR := hide (withoutNulC_rn hc)
    have HL := hide (withoutNulC_in hc)
    have HP := hide (lowC_in (withoutNulC_in hc))
    clear h
    go_enter Tryz.func106, Tryz.ntmps106
    go_wp2_with fail
    go_region_with (first
      | (go_at_call 127; refine (unhide HN).mono ?_; rintro e w1 ⟨tl, ta, rfl, h1⟩; have d1 : w1.cell? ⟨b, 8, none⟩ = some (.slice R.text.a s.text.length R.text.cap) := (by rw [h1.1.cell]; simp [cellsOf, withoutNul_text]))
      | (go_at_call 126; refine (appendRune_does R.text s.text (withoutNulC 38) (unhide HR).1 (unhide HR).2 _ (by have := h1.1.rows.ok (bItem R.text (withoutNul s 38).text) (by simp [itemsOf]); rw [withoutNul_text] at this; exact this) (by have := unhide HS; unfold sz lim at this; omega)).mono ?_; rintro e w2 ⟨r', o, rfl, hok, hg, hf⟩; obtain ⟨hself, hT⟩ := RepAt.text_grow h1.1 h1.2 ((More.refl _).alloc o) _ r' hok hg hf; have d2 := cell_of_self hself 8; have df := frozen_of_self hself; simp only [cellsOf] at d2; simp only [List.length_append] at hT))
    all_goals
      go_wp2
      go_ret
      exact ⟨rfl, by rw [putText_eq]; exact hT⟩
  by_cases n60 : c = 60
  · have y := n60
    clear n60
    subst y
    have hfin : lookInRaw s 60 = (0, { s with state := 5 }) := by simp [lookInRaw, nm1, n38]
    rw [hfin]
    clear hfin
    have em1 : ((60 : Int) == -1) = false := beq_eq_false_iff_ne.2 nm1
    have e38 : ((60 : Int) == 38) = false := beq_eq_false_iff_ne.2 n38
    clear nm1
    clear n38
    go_enter Tryz.func106, Tryz.ntmps106
    go_wp2_with fail
    refine (to_does 5 h).mono ?_
    rintro e w2 ⟨rfl, h1⟩
    go_wp2
    go_ret
    exact ⟨rfl, h1⟩
  have hfin : lookInRaw s c = (0, (putText s c)) := by simp [lookInRaw, nm1, n38, n60]
  rw [hfin]
  clear hfin
  have em1 : ((c : Int) == -1) = false := beq_eq_false_iff_ne.2 nm1
  have e38 : ((c : Int) == 38) = false := beq_eq_false_iff_ne.2 n38
  have e60 : ((c : Int) == 60) = false := beq_eq_false_iff_ne.2 n60
  clear nm1
  clear n38
  clear n60
  obtain ⟨R, hR⟩ := h.reg
  have c1 : w.cell? ⟨b, 8, none⟩ = some (.slice R.text.a s.text.length R.text.cap) := hR.1.cell 8
  have HN := hide (withoutNul_doesR c (tkR_drew hR) (by have := unhide HS; unfold sz at this; omega))
  have HR := hide (withoutNulC_rn hc)
  have HL := hide (withoutNulC_in hc)
  have HP := hide (lowC_in (withoutNulC_in hc))
  clear h
  go_enter Tryz.func106, Tryz.ntmps106
  go_wp2_with fail
  go_region_with (first
    | (go_at_call 127; refine (unhide HN).mono ?_; rintro e w1 ⟨tl, ta, rfl, h1⟩; have d1 : w1.cell? ⟨b, 8, none⟩ = some (.slice R.text.a s.text.length R.text.cap) := (by rw [h1.1.cell]; simp [cellsOf, withoutNul_text]))
    | (go_at_call 126; refine (appendRune_does R.text s.text (withoutNulC c) (unhide HR).1 (unhide HR).2 _ (by have := h1.1.rows.ok (bItem R.text (withoutNul s c).text) (by simp [itemsOf]); rw [withoutNul_text] at this; exact this) (by have := unhide HS; unfold sz lim at this; omega)).mono ?_; rintro e w2 ⟨r', o, rfl, hok, hg, hf⟩; obtain ⟨hself, hT⟩ := RepAt.text_grow h1.1 h1.2 ((More.refl _).alloc o) _ r' hok hg hf; have d2 := cell_of_self hself 8; have df := frozen_of_self hself; simp only [cellsOf] at d2; simp only [List.length_append] at hT))
  all_goals
    go_wp2
    go_ret
    exact ⟨rfl, by rw [putText_eq]; exact hT⟩

end
end Go.Proofs.YtdfmapcnfficlaaGreatDoor

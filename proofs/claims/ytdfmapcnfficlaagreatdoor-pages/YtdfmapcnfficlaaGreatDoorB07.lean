/-
  The states of doctypes; COMMENT.
-/
import Derived.Test.YtdfmapcnfficlaaGreatDoorB06
set_option linter.unusedSimpArgs false
set_option linter.unusedVariables false
namespace Go.Proofs.YtdfmapcnfficlaaGreatDoor
open Go Go.RowKit
section
variable {w0 : World} {own0 : Nat → Prop} {b : Nat} {s : TS} {ex : List Item} {w : World}

theorem withoutNulC_in {c : Int} (h : Rn c) : Rn (withoutNulC c) := by unfold withoutNulC Rn at *; split <;> omega
theorem lowC_in {c : Int} (h : Rn c) : -2147483648 ≤ lowC c ∧ lowC c ≤ 2147483647 := by unfold lowC Rn at *; split <;> omega
theorem putComment_eq (s : TS) (c : Int) : putComment s c = { withoutNul s c with comment := s.comment ++ Lib.encodeRune (withoutNulC c) } := by rw [putComment, addToComment, withoutNul_comment]

def lookInComment (s : TS) (c : Int) : Int × TS :=
  if c = 45 then (0, { s with state := 23 }) else
  if c = -1 then (0, (cutComment s)) else
  (0, (putComment s c))

set_option maxHeartbeats 1000000 in
set_option maxRecDepth 1000000 in
theorem lookInComment_does (c : Int) (hc : Rn c) (h : Tk w0 own0 b s ex w) (hs : sz s + 12 ≤ lim) :
    Calls Tryz.prog 149 #[.pointer (some ⟨b, 0, none⟩), .int .i32 c] w fun e w' => e = .returned (.int .i64 (lookInComment s c).1) ∧ Tk w0 own0 b (lookInComment s c).2 ex w' := by
  have HS := hide hs
  clear hs
  by_cases n45 : c = 45
  · have y := n45
    clear n45
    subst y
    have hfin : lookInComment s 45 = (0, { s with state := 23 }) := by simp [lookInComment]
    rw [hfin]
    clear hfin
    go_enter Tryz.func149, Tryz.ntmps149
    go_wp2_with fail
    refine (to_does 23 h).mono ?_
    rintro e w2 ⟨rfl, h1⟩
    go_wp2
    go_ret
    exact ⟨rfl, h1⟩
  by_cases nm1 : c = -1
  · have y := nm1
    clear nm1
    subst y
    have hfin : lookInComment s (-1) = (0, (cutComment s)) := by simp [lookInComment, n45]
    rw [hfin]
    clear hfin
    have e45 : ((-1 : Int) == 45) = false := beq_eq_false_iff_ne.2 n45
    clear n45
    go_enter Tryz.func149, Tryz.ntmps149
    go_wp2_with fail
    refine (cutComment_does h (by have := unhide HS; first | omega | (simp only [sz_wrong, sz_state, sz_addToComment, sz_setOdd, List.length_cons, List.length_nil]; omega))).mono ?_
    rintro e w2 ⟨rfl, h1⟩
    go_wp2
    go_ret
    exact ⟨rfl, h1⟩
  have hfin : lookInComment s c = (0, (putComment s c)) := by simp [lookInComment, n45, nm1]
  rw [hfin]
  clear hfin
  have e45 : ((c : Int) == 45) = false := beq_eq_false_iff_ne.2 n45
  have em1 : ((c : Int) == -1) = false := beq_eq_false_iff_ne.2 nm1
  clear n45
  clear nm1
  obtain ⟨R, hR⟩ := h.reg
  have c1 : w.cell? ⟨b, 17, none⟩ = some (.slice R.comment.a s.comment.length R.comment.cap) := hR.1.cell 17
  have HN := hide (withoutNul_doesR c (tkR_drew hR) (by have := unhide HS; unfold sz at this; omega))
  have HR := hide (withoutNulC_rn hc)
  have HL := hide (withoutNulC_in hc)
  have HP := hide (lowC_in (withoutNulC_in hc))
  clear h
  go_enter Tryz.func149, Tryz.ntmps149
  go_wp2_with fail
  go_region_with (first
    | (go_at_call 127; refine (unhide HN).mono ?_; rintro e w1 ⟨tl, ta, rfl, h1⟩; have d1 : w1.cell? ⟨b, 17, none⟩ = some (.slice R.comment.a s.comment.length R.comment.cap) := (by rw [h1.1.cell]; simp [cellsOf, withoutNul_comment]))
    | (go_at_call 126; refine (appendRune_does R.comment s.comment (withoutNulC c) (unhide HR).1 (unhide HR).2 _ (by have := h1.1.rows.ok (bItem R.comment (withoutNul s c).comment) (by simp [itemsOf]); rw [withoutNul_comment] at this; exact this) (by have := unhide HS; unfold sz lim at this; omega)).mono ?_; rintro e w2 ⟨r', o, rfl, hok, hg, hf⟩; obtain ⟨hself, hT⟩ := RepAt.comment_grow h1.1 h1.2 ((More.refl _).alloc o) _ r' hok hg hf; have d2 := cell_of_self hself 17; have df := frozen_of_self hself; simp only [cellsOf] at d2; simp only [List.length_append] at hT))
  all_goals
    go_wp2
    go_ret
    exact ⟨rfl, by rw [putComment_eq]; exact hT⟩

end
end Go.Proofs.YtdfmapcnfficlaaGreatDoor

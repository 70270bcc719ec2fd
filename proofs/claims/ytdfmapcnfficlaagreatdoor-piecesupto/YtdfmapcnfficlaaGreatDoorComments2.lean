/-
  The states of comments.
-/
import Derived.Test.YtdfmapcnfficlaaGreatDoorSizes
import Derived.Deep.RegionWith
namespace Go.Proofs.YtdfmapcnfficlaaGreatDoor
open Go Go.RowKit
section
variable {w0 : World} {own0 : Nat → Prop} {b : Nat} {s : TS} {ex : List Item} {w : World}

set_option maxHeartbeats 400000 in
theorem endComment_does (h : Tk w0 own0 b s ex w) (hs : sz s + 2 ≤ lim) :
    Calls Tryz.prog 206 #[.pointer (some ⟨b, 0, none⟩)] w fun e w' => e = .returned (.int .i64 0) ∧ Tk w0 own0 b (endComment s) ex w' := by
  have HS := hide hs
  clear hs
  go_enter Tryz.func206, Tryz.ntmps206
  go_wp2_with (first | (go_at_call 207; refine (tellComment_does h (unhide HS)).mono ?_; rintro e w' ⟨rfl, h1⟩) | (go_at_call 125; refine (to_does _ h1).mono ?_; rintro e w'' ⟨rfl, h2⟩))
  go_ret
  exact ⟨rfl, h2⟩

set_option maxHeartbeats 400000 in
theorem cutComment_does (h : Tk w0 own0 b s ex w) (hs : sz s + 4 ≤ lim) :
    Calls Tryz.prog 208 #[.pointer (some ⟨b, 0, none⟩)] w fun e w' => e = .returned (.int .i64 0) ∧ Tk w0 own0 b (cutComment s) ex w' := by
  have HS := hide hs
  clear hs
  go_enter Tryz.func208, Tryz.ntmps208
  go_wp2_with (first | (go_at_call 160; refine (wrong_does [101, 110, 100, 45, 105, 110, 45, 99, 111, 109, 109, 101, 110, 116] h (by have := unhide HS; unfold sz at this; omega)).mono ?_; rintro e w' ⟨rfl, h1⟩) | (go_at_call 207; refine (tellComment_does h1 (by rw [sz_wrong]; have := unhide HS; omega)).mono ?_; rintro e w'' ⟨rfl, h2⟩))
  go_ret
  exact ⟨rfl, h2⟩

def putComment (s : TS) (c : Int) : TS := addToComment (withoutNul s c) (Lib.encodeRune (withoutNulC c))

def lookInBogus (s : TS) (c : Int) : Int × TS :=
  if c = 62 then (0, endComment s) else if c = -1 then (0, tellComment s) else (0, putComment s c)

set_option maxHeartbeats 1000000 in
set_option maxRecDepth 1000000 in
theorem lookInBogus_does (c : Int) (hc : Rn c) (h : Tk w0 own0 b s ex w) (hs : sz s + 10 ≤ lim) :
    Calls Tryz.prog 143 #[.pointer (some ⟨b, 0, none⟩), .int .i32 c] w fun e w' => e = .returned (.int .i64 (lookInBogus s c).1) ∧ Tk w0 own0 b (lookInBogus s c).2 ex w' := by
  have HS := hide hs
  clear hs
  by_cases h1 : c = 62
  · subst h1
    go_enter Tryz.func143, Tryz.ntmps143
    go_wp2_with (go_at_call 206; refine (endComment_does h (by have := unhide HS; omega)).mono ?_; rintro e w' ⟨rfl, h1⟩)
    go_ret
    exact ⟨rfl, h1⟩
  by_cases h2 : c = -1
  · subst h2
    go_enter Tryz.func143, Tryz.ntmps143
    go_wp2_with (go_at_call 207; refine (tellComment_does h (by have := unhide HS; omega)).mono ?_; rintro e w' ⟨rfl, h1⟩)
    go_ret
    exact ⟨rfl, h1⟩
  have e1 : (c == 62) = false := by simpa using h1
  have e2 : (c == -1) = false := by simpa using h2
  have hfin : lookInBogus s c = (0, putComment s c) := by simp [lookInBogus, h1, h2]
  rw [hfin]
  clear hfin h1 h2
  obtain ⟨R, hR⟩ := h.reg
  have c1 : w.cell? ⟨b, 17, none⟩ = some (.slice R.comment.a s.comment.length R.comment.cap) := hR.1.cell 17
  have HN := hide (withoutNul_doesR c (tkR_drew hR) (by have := unhide HS; unfold sz at this; omega))
  have HR := hide (withoutNulC_rn hc)
  clear h
  go_enter Tryz.func143, Tryz.ntmps143
  go_wp2_with fail
  go_region_with (first
    | (go_at_call 127; refine (unhide HN).mono ?_; rintro e w1 ⟨tl, ta, rfl, h1⟩; have d1 : w1.cell? ⟨b, 17, none⟩ = some (.slice R.comment.a s.comment.length R.comment.cap) := (by rw [h1.1.cell]; simp [cellsOf, withoutNul_comment]))
    | (go_at_call 126; refine (appendRune_does R.comment s.comment (withoutNulC c) (unhide HR).1 (unhide HR).2 _ (by have := h1.1.rows.ok (bItem R.comment (withoutNul s c).comment) (by simp [itemsOf]); rw [withoutNul_comment] at this; exact this) (by have := unhide HS; unfold sz lim at this; omega)).mono ?_; rintro e w2 ⟨r', o, rfl, hok, hg, hf⟩; obtain ⟨hself, hT⟩ := RepAt.comment_grow h1.1 h1.2 ((More.refl _).alloc o) _ r' hok hg hf; have d2 := cell_of_self hself 17; have df := frozen_of_self hself; simp only [cellsOf] at d2; simp only [List.length_append] at hT))
  all_goals
    go_wp2
    go_ret
    exact ⟨rfl, by rw [putComment, addToComment, withoutNul_comment]; exact hT⟩
end
end Go.Proofs.YtdfmapcnfficlaaGreatDoor

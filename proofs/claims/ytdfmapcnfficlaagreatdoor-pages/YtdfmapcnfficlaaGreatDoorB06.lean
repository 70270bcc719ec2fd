/-
  The states of comments.
  The states of comments: the plain ones.
-/
import Derived.Test.YtdfmapcnfficlaaGreatDoorB05
import Derived.Deep.RegionWith
namespace Go.Proofs.YtdfmapcnfficlaaGreatDoor
open Go Go.RowKit
section
variable {w0 : World} {own0 : Nat → Prop} {b : Nat} {s : TS} {ex : List Item} {w : World}

set_option maxHeartbeats 400000 in
theorem endComment_does (h : Tk w0 own0 b s ex w) (hs : sz s + 2 ≤ lim) :
    Calls Tryz.prog 206 #[.pointer (some ⟨b, 0, none⟩)] w fun e w' => e = .returned (.int .i64 0) ∧ Tk w0 own0 b (endComment s) ex w' := by
  have HS := hide hs
  clear hs
  go_enter Tryz.func206, Tryz.ntmps206
  go_wp2_with (first | (go_at_call 207; refine (tellComment_does h (unhide HS)).mono ?_; rintro e w' ⟨rfl, h1⟩) | (go_at_call 125; refine (to_does _ h1).mono ?_; rintro e w'' ⟨rfl, h2⟩))
  go_ret
  exact ⟨rfl, h2⟩

set_option maxHeartbeats 400000 in
theorem cutComment_does (h : Tk w0 own0 b s ex w) (hs : sz s + 4 ≤ lim) :
    Calls Tryz.prog 208 #[.pointer (some ⟨b, 0, none⟩)] w fun e w' => e = .returned (.int .i64 0) ∧ Tk w0 own0 b (cutComment s) ex w' := by
  have HS := hide hs
  clear hs
  go_enter Tryz.func208, Tryz.ntmps208
  go_wp2_with (first | (go_at_call 160; refine (wrong_does [101, 110, 100, 45, 105, 110, 45, 99, 111, 109, 109, 101, 110, 116] h (by have := unhide HS; unfold sz at this; omega)).mono ?_; rintro e w' ⟨rfl, h1⟩) | (go_at_call 207; refine (tellComment_does h1 (by rw [sz_wrong]; have := unhide HS; omega)).mono ?_; rintro e w'' ⟨rfl, h2⟩))
  go_ret
  exact ⟨rfl, h2⟩

def putComment (s : TS) (c : Int) : TS := addToComment (withoutNul s c) (Lib.encodeRune (withoutNulC c))

def lookInBogus (s : TS) (c : Int) : Int × TS :=
  if c = 62 then (0, endComment s) else if c = -1 then (0, tellComment s) else (0, putComment s c)

set_option maxHeartbeats 1000000 in
set_option maxRecDepth 1000000 in
theorem lookInBogus_does (c : Int) (hc : Rn c) (h : Tk w0 own0 b s ex w) (hs : sz s + 10 ≤ lim) :
    Calls Tryz.prog 143 #[.pointer (some ⟨b, 0, none⟩), .int .i32 c] w fun e w' => e = .returned (.int .i64 (lookInBogus s c).1) ∧ Tk w0 own0 b (lookInBogus s c).2 ex w' := by
  have HS := hide hs
  clear hs
  by_cases h1 : c = 62
  · subst h1
    go_enter Tryz.func143, Tryz.ntmps143
    go_wp2_with (go_at_call 206; refine (endComment_does h (by have := unhide HS; omega)).mono ?_; rintro e w' ⟨rfl, h1⟩)
    go_ret
    exact ⟨rfl, h1⟩
  by_cases h2 : c = -1
  · subst h2
    go_enter Tryz.func143, Tryz.ntmps143
    go_wp2_with (go_at_call 207; refine (tellComment_does h (by have := unhide HS; omega)).mono ?_; rintro e w' ⟨rfl, h1⟩)
    go_ret
    exact ⟨rfl, h1⟩
  have e1 : (c == 62) = false := by simpa using h1
  have e2 : (c == -1) = false := by simpa using h2
  have hfin : lookInBogus s c = (0, putComment s c) := by simp [lookInBogus, h1, h2]
  rw [hfin]
  clear hfin h1 h2
  obtain ⟨R, hR⟩ := h.reg
  have c1 : w.cell? ⟨b, 17, none⟩ = some (.slice R.comment.a s.comment.length R.comment.cap) := hR.1.cell 17
  have HN := hide (withoutNul_doesR c (tkR_drew hR) (by have := unhide HS; unfold sz at this; omega))
  have HR := hide (withoutNulC_rn hc)
  clear h
  go_enter Tryz.func143, Tryz.ntmps143
  go_wp2_with fail
  go_region_with (first
    | (go_at_call 127; refine (unhide HN).mono ?_; rintro e w1 ⟨tl, ta, rfl, h1⟩; have d1 : w1.cell? ⟨b, 17, none⟩ = some (.slice R.comment.a s.comment.length R.comment.cap) := (by rw [h1.1.cell]; simp [cellsOf, withoutNul_comment]))
    | (go_at_call 126; refine (appendRune_does R.comment s.comment (withoutNulC c) (unhide HR).1 (unhide HR).2 _ (by have := h1.1.rows.ok (bItem R.comment (withoutNul s c).comment) (by simp [itemsOf]); rw [withoutNul_comment] at this; exact this) (by have := unhide HS; unfold sz lim at this; omega)).mono ?_; rintro e w2 ⟨r', o, rfl, hok, hg, hf⟩; obtain ⟨hself, hT⟩ := RepAt.comment_grow h1.1 h1.2 ((More.refl _).alloc o) _ r' hok hg hf; have d2 := cell_of_self hself 17; have df := frozen_of_self hself; simp only [cellsOf] at d2; simp only [List.length_append] at hT))
  all_goals
    go_wp2
    go_ret
    exact ⟨rfl, by rw [putComment, addToComment, withoutNul_comment]; exact hT⟩
end
end Go.Proofs.YtdfmapcnfficlaaGreatDoor

set_option linter.unusedSimpArgs false
set_option linter.unusedVariables false
namespace Go.Proofs.YtdfmapcnfficlaaGreatDoor
open Go Go.RowKit
section
variable {w0 : World} {own0 : Nat → Prop} {b : Nat} {s : TS} {ex : List Item} {w : World}

theorem wrong_sz (name : Str) (h : Tk w0 own0 b s ex w) (hs : sz s + 1 ≤ lim) :
    Calls Tryz.prog 160 #[.pointer (some ⟨b, 0, none⟩), .string ⟨name.toArray⟩] w fun e w' => e = .returned (.tuple #[]) ∧ Tk w0 own0 b (wrong s name) ex w' :=
  wrong_does name h (by unfold sz at hs; omega)
theorem addToComment_sz (l : Str) (h : Tk w0 own0 b s ex w) (hs : sz s + l.length ≤ lim) :
    Calls Tryz.prog 205 #[.pointer (some ⟨b, 0, none⟩), .string ⟨l.toArray⟩] w fun e w' => e = .returned (.tuple #[]) ∧ Tk w0 own0 b (addToComment s l) ex w' :=
  addToComment_does l h (by unfold sz at hs; omega)
theorem sz_setOdd (s : TS) : sz { s with odd := true } = sz s := rfl

def lookInBegin (s : TS) (c : Int) : Int × TS :=
  if c = 45 then (0, { s with state := 21 }) else
  if c = 62 then (0, (endComment (wrong s [97, 98, 114, 117, 112, 116]))) else
  (1, { s with state := 22 })

set_option maxHeartbeats 1000000 in
set_option maxRecDepth 1000000 in
theorem lookInBegin_does (c : Int) (hc : Rn c) (h : Tk w0 own0 b s ex w) (hs : sz s + 12 ≤ lim) :
    Calls Tryz.prog 144 #[.pointer (some ⟨b, 0, none⟩), .int .i32 c] w fun e w' => e = .returned (.int .i64 (lookInBegin s c).1) ∧ Tk w0 own0 b (lookInBegin s c).2 ex w' := by
  have HS := hide hs
  clear hs
  by_cases n45 : c = 45
  · have y := n45
    clear n45
    subst y
    have hfin : lookInBegin s 45 = (0, { s with state := 21 }) := by simp [lookInBegin]
    rw [hfin]
    clear hfin
    go_enter Tryz.func144, Tryz.ntmps144
    go_wp2_with fail
    refine (to_does 21 h).mono ?_
    rintro e w2 ⟨rfl, h1⟩
    go_wp2
    go_ret
    exact ⟨rfl, h1⟩
  by_cases n62 : c = 62
  · have y := n62
    clear n62
    subst y
    have hfin : lookInBegin s 62 = (0, (endComment (wrong s [97, 98, 114, 117, 112, 116]))) := by simp [lookInBegin, n45]
    rw [hfin]
    clear hfin
    have e45 : ((62 : Int) == 45) = false := beq_eq_false_iff_ne.2 n45
    clear n45
    go_enter Tryz.func144, Tryz.ntmps144
    go_wp2_with fail
    refine (wrong_sz [97, 98, 114, 117, 112, 116] h (by have := unhide HS; first | omega | (simp only [sz_wrong, sz_state, sz_addToComment, sz_setOdd, List.length_cons, List.length_nil]; omega))).mono ?_
    rintro e w2 ⟨rfl, h1⟩
    go_wp2_with fail
    refine (endComment_does h1 (by have := unhide HS; first | omega | (simp only [sz_wrong, sz_state, sz_addToComment, sz_setOdd, List.length_cons, List.length_nil]; omega))).mono ?_
    rintro e w3 ⟨rfl, h2⟩
    go_wp2
    go_ret
    exact ⟨rfl, h2⟩
  have hfin : lookInBegin s c = (1, { s with state := 22 }) := by simp [lookInBegin, n45, n62]
  rw [hfin]
  clear hfin
  have e45 : ((c : Int) == 45) = false := beq_eq_false_iff_ne.2 n45
  have e62 : ((c : Int) == 62) = false := beq_eq_false_iff_ne.2 n62
  clear n45
  clear n62
  go_enter Tryz.func144, Tryz.ntmps144
  go_wp2_with fail
  refine (again_does 22 h).mono ?_
  rintro e w2 ⟨rfl, h1⟩
  go_wp2
  go_ret
  exact ⟨rfl, h1⟩

def lookInDash (s : TS) (c : Int) : Int × TS :=
  if c = 45 then (0, { s with state := 24 }) else
  if c = -1 then (0, (cutComment s)) else
  (1, { (addToComment s [45]) with state := 22 })

set_option maxHeartbeats 1000000 in
set_option maxRecDepth 1000000 in
theorem lookInDash_does (c : Int) (hc : Rn c) (h : Tk w0 own0 b s ex w) (hs : sz s + 12 ≤ lim) :
    Calls Tryz.prog 146 #[.pointer (some ⟨b, 0, none⟩), .int .i32 c] w fun e w' => e = .returned (.int .i64 (lookInDash s c).1) ∧ Tk w0 own0 b (lookInDash s c).2 ex w' := by
  have HS := hide hs
  clear hs
  by_cases n45 : c = 45
  · have y := n45
    clear n45
    subst y
    have hfin : lookInDash s 45 = (0, { s with state := 24 }) := by simp [lookInDash]
    rw [hfin]
    clear hfin
    go_enter Tryz.func146, Tryz.ntmps146
    go_wp2_with fail
    refine (to_does 24 h).mono ?_
    rintro e w2 ⟨rfl, h1⟩
    go_wp2
    go_ret
    exact ⟨rfl, h1⟩
  by_cases nm1 : c = -1
  · have y := nm1
    clear nm1
    subst y
    have hfin : lookInDash s (-1) = (0, (cutComment s)) := by simp [lookInDash, n45]
    rw [hfin]
    clear hfin
    have e45 : ((-1 : Int) == 45) = false := beq_eq_false_iff_ne.2 n45
    clear n45
    go_enter Tryz.func146, Tryz.ntmps146
    go_wp2_with fail
    refine (cutComment_does h (by have := unhide HS; first | omega | (simp only [sz_wrong, sz_state, sz_addToComment, sz_setOdd, List.length_cons, List.length_nil]; omega))).mono ?_
    rintro e w2 ⟨rfl, h1⟩
    go_wp2
    go_ret
    exact ⟨rfl, h1⟩
  have hfin : lookInDash s c = (1, { (addToComment s [45]) with state := 22 }) := by simp [lookInDash, n45, nm1]
  rw [hfin]
  clear hfin
  have e45 : ((c : Int) == 45) = false := beq_eq_false_iff_ne.2 n45
  have em1 : ((c : Int) == -1) = false := beq_eq_false_iff_ne.2 nm1
  clear n45
  clear nm1
  go_enter Tryz.func146, Tryz.ntmps146
  go_wp2_with fail
  refine (addToComment_sz [45] h (by have := unhide HS; first | omega | (simp only [sz_wrong, sz_state, sz_addToComment, sz_setOdd, List.length_cons, List.length_nil]; omega))).mono ?_
  rintro e w2 ⟨rfl, h1⟩
  go_wp2_with fail
  refine (again_does 22 h1).mono ?_
  rintro e w3 ⟨rfl, h2⟩
  go_wp2
  go_ret
  exact ⟨rfl, h2⟩

def lookInBeginDash (s : TS) (c : Int) : Int × TS :=
  if c = 62 then (0, (endComment (wrong s [97, 98, 114, 117, 112, 116]))) else
  lookInDash s c

set_option maxHeartbeats 1000000 in
set_option maxRecDepth 1000000 in
theorem lookInBeginDash_does (c : Int) (hc : Rn c) (h : Tk w0 own0 b s ex w) (hs : sz s + 12 ≤ lim) :
    Calls Tryz.prog 145 #[.pointer (some ⟨b, 0, none⟩), .int .i32 c] w fun e w' => e = .returned (.int .i64 (lookInBeginDash s c).1) ∧ Tk w0 own0 b (lookInBeginDash s c).2 ex w' := by
  have HS := hide hs
  clear hs
  by_cases n62 : c = 62
  · have y := n62
    clear n62
    subst y
    have hfin : lookInBeginDash s 62 = (0, (endComment (wrong s [97, 98, 114, 117, 112, 116]))) := by simp [lookInBeginDash]
    rw [hfin]
    clear hfin
    go_enter Tryz.func145, Tryz.ntmps145
    go_wp2_with fail
    refine (wrong_sz [97, 98, 114, 117, 112, 116] h (by have := unhide HS; first | omega | (simp only [sz_wrong, sz_state, sz_addToComment, sz_setOdd, List.length_cons, List.length_nil]; omega))).mono ?_
    rintro e w2 ⟨rfl, h1⟩
    go_wp2_with fail
    refine (endComment_does h1 (by have := unhide HS; first | omega | (simp only [sz_wrong, sz_state, sz_addToComment, sz_setOdd, List.length_cons, List.length_nil]; omega))).mono ?_
    rintro e w3 ⟨rfl, h2⟩
    go_wp2
    go_ret
    exact ⟨rfl, h2⟩
  have hfin : lookInBeginDash s c = lookInDash s c := by simp [lookInBeginDash, n62]
  rw [hfin]
  clear hfin
  have e62 : ((c : Int) == 62) = false := beq_eq_false_iff_ne.2 n62
  clear n62
  go_enter Tryz.func145, Tryz.ntmps145
  go_wp2_with fail
  refine (lookInDash_does c hc h (by have := unhide HS; first | omega | (simp only [sz_wrong, sz_state, sz_addToComment, sz_setOdd, List.length_cons, List.length_nil]; omega))).mono ?_
  rintro e w2 ⟨rfl, h1⟩
  go_wp2
  go_ret
  exact ⟨rfl, h1⟩

def lookInDashes (s : TS) (c : Int) : Int × TS :=
  if c = 62 then (0, (endComment s)) else
  if c = 33 then (0, { s with state := 25 }) else
  if c = 45 then (0, (addToComment s [45])) else
  if c = -1 then (0, (cutComment s)) else
  (1, { (addToComment s [45, 45]) with state := 22 })

set_option maxHeartbeats 1000000 in
set_option maxRecDepth 1000000 in
theorem lookInDashes_does (c : Int) (hc : Rn c) (h : Tk w0 own0 b s ex w) (hs : sz s + 12 ≤ lim) :
    Calls Tryz.prog 147 #[.pointer (some ⟨b, 0, none⟩), .int .i32 c] w fun e w' => e = .returned (.int .i64 (lookInDashes s c).1) ∧ Tk w0 own0 b (lookInDashes s c).2 ex w' := by
  have HS := hide hs
  clear hs
  by_cases n62 : c = 62
  · have y := n62
    clear n62
    subst y
    have hfin : lookInDashes s 62 = (0, (endComment s)) := by simp [lookInDashes]
    rw [hfin]
    clear hfin
    go_enter Tryz.func147, Tryz.ntmps147
    go_wp2_with fail
    refine (endComment_does h (by have := unhide HS; first | omega | (simp only [sz_wrong, sz_state, sz_addToComment, sz_setOdd, List.length_cons, List.length_nil]; omega))).mono ?_
    rintro e w2 ⟨rfl, h1⟩
    go_wp2
    go_ret
    exact ⟨rfl, h1⟩
  by_cases n33 : c = 33
  · have y := n33
    clear n33
    subst y
    have hfin : lookInDashes s 33 = (0, { s with state := 25 }) := by simp [lookInDashes, n62]
    rw [hfin]
    clear hfin
    have e62 : ((33 : Int) == 62) = false := beq_eq_false_iff_ne.2 n62
    clear n62
    go_enter Tryz.func147, Tryz.ntmps147
    go_wp2_with fail
    refine (to_does 25 h).mono ?_
    rintro e w2 ⟨rfl, h1⟩
    go_wp2
    go_ret
    exact ⟨rfl, h1⟩
  by_cases n45 : c = 45
  · have y := n45
    clear n45
    subst y
    have hfin : lookInDashes s 45 = (0, (addToComment s [45])) := by simp [lookInDashes, n62, n33]
    rw [hfin]
    clear hfin
    have e62 : ((45 : Int) == 62) = false := beq_eq_false_iff_ne.2 n62
    have e33 : ((45 : Int) == 33) = false := beq_eq_false_iff_ne.2 n33
    clear n62
    clear n33
    go_enter Tryz.func147, Tryz.ntmps147
    go_wp2_with fail
    refine (addToComment_sz [45] h (by have := unhide HS; first | omega | (simp only [sz_wrong, sz_state, sz_addToComment, sz_setOdd, List.length_cons, List.length_nil]; omega))).mono ?_
    rintro e w2 ⟨rfl, h1⟩
    go_wp2
    go_ret
    exact ⟨rfl, h1⟩
  by_cases nm1 : c = -1
  · have y := nm1
    clear nm1
    subst y
    have hfin : lookInDashes s (-1) = (0, (cutComment s)) := by simp [lookInDashes, n62, n33, n45]
    rw [hfin]
    clear hfin
    have e62 : ((-1 : Int) == 62) = false := beq_eq_false_iff_ne.2 n62
    have e33 : ((-1 : Int) == 33) = false := beq_eq_false_iff_ne.2 n33
    have e45 : ((-1 : Int) == 45) = false := beq_eq_false_iff_ne.2 n45
    clear n62
    clear n33
    clear n45
    go_enter Tryz.func147, Tryz.ntmps147
    go_wp2_with fail
    refine (cutComment_does h (by have := unhide HS; first | omega | (simp only [sz_wrong, sz_state, sz_addToComment, sz_setOdd, List.length_cons, List.length_nil]; omega))).mono ?_
    rintro e w2 ⟨rfl, h1⟩
    go_wp2
    go_ret
    exact ⟨rfl, h1⟩
  have hfin : lookInDashes s c = (1, { (addToComment s [45, 45]) with state := 22 }) := by simp [lookInDashes, n62, n33, n45, nm1]
  rw [hfin]
  clear hfin
  have e62 : ((c : Int) == 62) = false := beq_eq_false_iff_ne.2 n62
  have e33 : ((c : Int) == 33) = false := beq_eq_false_iff_ne.2 n33
  have e45 : ((c : Int) == 45) = false := beq_eq_false_iff_ne.2 n45
  have em1 : ((c : Int) == -1) = false := beq_eq_false_iff_ne.2 nm1
  clear n62
  clear n33
  clear n45
  clear nm1
  go_enter Tryz.func147, Tryz.ntmps147
  go_wp2_with fail
  refine (addToComment_sz [45, 45] h (by have := unhide HS; first | omega | (simp only [sz_wrong, sz_state, sz_addToComment, sz_setOdd, List.length_cons, List.length_nil]; omega))).mono ?_
  rintro e w2 ⟨rfl, h1⟩
  go_wp2_with fail
  refine (again_does 22 h1).mono ?_
  rintro e w3 ⟨rfl, h2⟩
  go_wp2
  go_ret
  exact ⟨rfl, h2⟩

def lookInBang (s : TS) (c : Int) : Int × TS :=
  if c = 45 then (0, { (addToComment s [45, 45, 33]) with state := 23 }) else
  if c = 62 then (0, (endComment (wrong s [98, 97, 110, 103]))) else
  if c = -1 then (0, (cutComment s)) else
  (1, { (addToComment s [45, 45, 33]) with state := 22 })

set_option maxHeartbeats 1000000 in
set_option maxRecDepth 1000000 in
theorem lookInBang_does (c : Int) (hc : Rn c) (h : Tk w0 own0 b s ex w) (hs : sz s + 12 ≤ lim) :
    Calls Tryz.prog 148 #[.pointer (some ⟨b, 0, none⟩), .int .i32 c] w fun e w' => e = .returned (.int .i64 (lookInBang s c).1) ∧ Tk w0 own0 b (lookInBang s c).2 ex w' := by
  have HS := hide hs
  clear hs
  by_cases n45 : c = 45
  · have y := n45
    clear n45
    subst y
    have hfin : lookInBang s 45 = (0, { (addToComment s [45, 45, 33]) with state := 23 }) := by simp [lookInBang]
    rw [hfin]
    clear hfin
    go_enter Tryz.func148, Tryz.ntmps148
    go_wp2_with fail
    refine (addToComment_sz [45, 45, 33] h (by have := unhide HS; first | omega | (simp only [sz_wrong, sz_state, sz_addToComment, sz_setOdd, List.length_cons, List.length_nil]; omega))).mono ?_
    rintro e w2 ⟨rfl, h1⟩
    go_wp2_with fail
    refine (to_does 23 h1).mono ?_
    rintro e w3 ⟨rfl, h2⟩
    go_wp2
    go_ret
    exact ⟨rfl, h2⟩
  by_cases n62 : c = 62
  · have y := n62
    clear n62
    subst y
    have hfin : lookInBang s 62 = (0, (endComment (wrong s [98, 97, 110, 103]))) := by simp [lookInBang, n45]
    rw [hfin]
    clear hfin
    have e45 : ((62 : Int) == 45) = false := beq_eq_false_iff_ne.2 n45
    clear n45
    go_enter Tryz.func148, Tryz.ntmps148
    go_wp2_with fail
    refine (wrong_sz [98, 97, 110, 103] h (by have := unhide HS; first | omega | (simp only [sz_wrong, sz_state, sz_addToComment, sz_setOdd, List.length_cons, List.length_nil]; omega))).mono ?_
    rintro e w2 ⟨rfl, h1⟩
    go_wp2_with fail
    refine (endComment_does h1 (by have := unhide HS; first | omega | (simp only [sz_wrong, sz_state, sz_addToComment, sz_setOdd, List.length_cons, List.length_nil]; omega))).mono ?_
    rintro e w3 ⟨rfl, h2⟩
    go_wp2
    go_ret
    exact ⟨rfl, h2⟩
  by_cases nm1 : c = -1
  · have y := nm1
    clear nm1
    subst y
    have hfin : lookInBang s (-1) = (0, (cutComment s)) := by simp [lookInBang, n45, n62]
    rw [hfin]
    clear hfin
    have e45 : ((-1 : Int) == 45) = false := beq_eq_false_iff_ne.2 n45
    have e62 : ((-1 : Int) == 62) = false := beq_eq_false_iff_ne.2 n62
    clear n45
    clear n62
    go_enter Tryz.func148, Tryz.ntmps148
    go_wp2_with fail
    refine (cutComment_does h (by have := unhide HS; first | omega | (simp only [sz_wrong, sz_state, sz_addToComment, sz_setOdd, List.length_cons, List.length_nil]; omega))).mono ?_
    rintro e w2 ⟨rfl, h1⟩
    go_wp2
    go_ret
    exact ⟨rfl, h1⟩
  have hfin : lookInBang s c = (1, { (addToComment s [45, 45, 33]) with state := 22 }) := by simp [lookInBang, n45, n62, nm1]
  rw [hfin]
  clear hfin
  have e45 : ((c : Int) == 45) = false := beq_eq_false_iff_ne.2 n45
  have e62 : ((c : Int) == 62) = false := beq_eq_false_iff_ne.2 n62
  have em1 : ((c : Int) == -1) = false := beq_eq_false_iff_ne.2 nm1
  clear n45
  clear n62
  clear nm1
  go_enter Tryz.func148, Tryz.ntmps148
  go_wp2_with fail
  refine (addToComment_sz [45, 45, 33] h (by have := unhide HS; first | omega | (simp only [sz_wrong, sz_state, sz_addToComment, sz_setOdd, List.length_cons, List.length_nil]; omega))).mono ?_
  rintro e w2 ⟨rfl, h1⟩
  go_wp2_with fail
  refine (again_does 22 h1).mono ?_
  rintro e w3 ⟨rfl, h2⟩
  go_wp2
  go_ret
  exact ⟨rfl, h2⟩

end
end Go.Proofs.YtdfmapcnfficlaaGreatDoor

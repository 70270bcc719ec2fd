/-
  One look: by the state.
-/
import Derived.Test.YtdfmapcnfficlaaGreatDoorB30
set_option linter.unusedSimpArgs false
set_option linter.unusedVariables false
namespace Go.Proofs.YtdfmapcnfficlaaGreatDoor
open Go Go.RowKit

section
variable {w0 : World} {own0 : Nat → Prop} {b : Nat} {s : TS} {ex : List Item} {w : World} {R : Regs}

set_option maxHeartbeats 800000 in
set_option maxRecDepth 1000000 in
theorem once_inOpen (c : Int) (P : Pre w0 own0 s c) (hst : s.state = 3) (h : Tk w0 own0 b s ex w) :
    Calls Tryz.prog 89 #[.pointer (some ⟨b, 0, none⟩), .int .i32 c] w fun e w' => e = .returned (.int .i64 (lookInOpen s c).1) ∧ Tk w0 own0 b (lookInOpen s c).2 ex w' := by
  have cst := state_cell h
  rw [hst] at cst
  have HC := hide (lookBehindLess_inOpen c P hst h)
  clear h P hst
  go_enter Tryz.func89, Tryz.ntmps89
  go_wp2_with (go_at_call 107; refine (unhide HC).mono ?_; rintro e w1 ⟨rfl, h1⟩)
  go_ret
  exact ⟨rfl, h1⟩

set_option maxHeartbeats 800000 in
set_option maxRecDepth 1000000 in
theorem once_inClose (c : Int) (P : Pre w0 own0 s c) (hst : s.state = 4) (h : Tk w0 own0 b s ex w) :
    Calls Tryz.prog 89 #[.pointer (some ⟨b, 0, none⟩), .int .i32 c] w fun e w' => e = .returned (.int .i64 (lookInClose s c).1) ∧ Tk w0 own0 b (lookInClose s c).2 ex w' := by
  have cst := state_cell h
  rw [hst] at cst
  have HC := hide (lookBehindLess_inClose c P hst h)
  clear h P hst
  go_enter Tryz.func89, Tryz.ntmps89
  go_wp2_with (go_at_call 107; refine (unhide HC).mono ?_; rintro e w1 ⟨rfl, h1⟩)
  go_ret
  exact ⟨rfl, h1⟩

set_option maxHeartbeats 800000 in
set_option maxRecDepth 1000000 in
theorem once_inLess (c : Int) (P : Pre w0 own0 s c) (hst : s.state = 5) (h : Tk w0 own0 b s ex w) :
    Calls Tryz.prog 89 #[.pointer (some ⟨b, 0, none⟩), .int .i32 c] w fun e w' => e = .returned (.int .i64 (lookInLess s c).1) ∧ Tk w0 own0 b (lookInLess s c).2 ex w' := by
  have cst := state_cell h
  rw [hst] at cst
  have HC := hide (lookBehindLess_inLess c P hst h)
  clear h P hst
  go_enter Tryz.func89, Tryz.ntmps89
  go_wp2_with (go_at_call 107; refine (unhide HC).mono ?_; rintro e w1 ⟨rfl, h1⟩)
  go_ret
  exact ⟨rfl, h1⟩

set_option maxHeartbeats 800000 in
set_option maxRecDepth 1000000 in
theorem once_inLessClose (c : Int) (P : Pre w0 own0 s c) (hst : s.state = 6) (h : Tk w0 own0 b s ex w) :
    Calls Tryz.prog 89 #[.pointer (some ⟨b, 0, none⟩), .int .i32 c] w fun e w' => e = .returned (.int .i64 (lookInLessClose s c).1) ∧ Tk w0 own0 b (lookInLessClose s c).2 ex w' := by
  have cst := state_cell h
  rw [hst] at cst
  have HC := hide (lookBehindLess_inLessClose c P hst h)
  clear h P hst
  go_enter Tryz.func89, Tryz.ntmps89
  go_wp2_with (go_at_call 107; refine (unhide HC).mono ?_; rintro e w1 ⟨rfl, h1⟩)
  go_ret
  exact ⟨rfl, h1⟩

set_option maxHeartbeats 800000 in
set_option maxRecDepth 1000000 in
theorem once_inLessName (c : Int) (P : Pre w0 own0 s c) (hst : s.state = 7) (h : Tk w0 own0 b s ex w) :
    Calls Tryz.prog 89 #[.pointer (some ⟨b, 0, none⟩), .int .i32 c] w fun e w' => e = .returned (.int .i64 (lookInLessName s c).1) ∧ Tk w0 own0 b (lookInLessName s c).2 ex w' := by
  have cst := state_cell h
  rw [hst] at cst
  have HC := hide (lookBehindLess_inLessName c P hst h)
  clear h P hst
  go_enter Tryz.func89, Tryz.ntmps89
  go_wp2_with (go_at_call 107; refine (unhide HC).mono ?_; rintro e w1 ⟨rfl, h1⟩)
  go_ret
  exact ⟨rfl, h1⟩

set_option maxHeartbeats 800000 in
set_option maxRecDepth 1000000 in
theorem once_inTag (c : Int) (P : Pre w0 own0 s c) (hst : s.state = 8) (h : Tk w0 own0 b s ex w) :
    Calls Tryz.prog 89 #[.pointer (some ⟨b, 0, none⟩), .int .i32 c] w fun e w' => e = .returned (.int .i64 (lookInTag s c).1) ∧ Tk w0 own0 b (lookInTag s c).2 ex w' := by
  have cst := state_cell h
  rw [hst] at cst
  have HC := hide (lookWithinTag_inTag c P hst h)
  clear h P hst
  go_enter Tryz.func89, Tryz.ntmps89
  go_wp2_with (go_at_call 108; refine (unhide HC).mono ?_; rintro e w1 ⟨rfl, h1⟩)
  go_ret
  exact ⟨rfl, h1⟩

set_option maxHeartbeats 800000 in
set_option maxRecDepth 1000000 in
theorem once_inAttr (c : Int) (P : Pre w0 own0 s c) (hst : s.state = 9) (h : Tk w0 own0 b s ex w) :
    Calls Tryz.prog 89 #[.pointer (some ⟨b, 0, none⟩), .int .i32 c] w fun e w' => e = .returned (.int .i64 (lookInAttr s c).1) ∧ Tk w0 own0 b (lookInAttr s c).2 ex w' := by
  have cst := state_cell h
  rw [hst] at cst
  have HC := hide (lookWithinTag_inAttr c P hst h)
  clear h P hst
  go_enter Tryz.func89, Tryz.ntmps89
  go_wp2_with (go_at_call 108; refine (unhide HC).mono ?_; rintro e w1 ⟨rfl, h1⟩)
  go_ret
  exact ⟨rfl, h1⟩

set_option maxHeartbeats 800000 in
set_option maxRecDepth 1000000 in
theorem once_inName (c : Int) (P : Pre w0 own0 s c) (hst : s.state = 10) (h : Tk w0 own0 b s ex w) :
    Calls Tryz.prog 89 #[.pointer (some ⟨b, 0, none⟩), .int .i32 c] w fun e w' => e = .returned (.int .i64 (lookInName s c).1) ∧ Tk w0 own0 b (lookInName s c).2 ex w' := by
  have cst := state_cell h
  rw [hst] at cst
  have HC := hide (lookWithinTag_inName c P hst h)
  clear h P hst
  go_enter Tryz.func89, Tryz.ntmps89
  go_wp2_with (go_at_call 108; refine (unhide HC).mono ?_; rintro e w1 ⟨rfl, h1⟩)
  go_ret
  exact ⟨rfl, h1⟩

set_option maxHeartbeats 800000 in
set_option maxRecDepth 1000000 in
theorem once_inAfter (c : Int) (P : Pre w0 own0 s c) (hst : s.state = 11) (h : Tk w0 own0 b s ex w) :
    Calls Tryz.prog 89 #[.pointer (some ⟨b, 0, none⟩), .int .i32 c] w fun e w' => e = .returned (.int .i64 (lookInAfter s c).1) ∧ Tk w0 own0 b (lookInAfter s c).2 ex w' := by
  have cst := state_cell h
  rw [hst] at cst
  have HC := hide (lookWithinTag_inAfter c P hst h)
  clear h P hst
  go_enter Tryz.func89, Tryz.ntmps89
  go_wp2_with (go_at_call 108; refine (unhide HC).mono ?_; rintro e w1 ⟨rfl, h1⟩)
  go_ret
  exact ⟨rfl, h1⟩

set_option maxHeartbeats 800000 in
set_option maxRecDepth 1000000 in
theorem once_inEquals (c : Int) (P : Pre w0 own0 s c) (hst : s.state = 12) (h : Tk w0 own0 b s ex w) :
    Calls Tryz.prog 89 #[.pointer (some ⟨b, 0, none⟩), .int .i32 c] w fun e w' => e = .returned (.int .i64 (lookInEquals s c).1) ∧ Tk w0 own0 b (lookInEquals s c).2 ex w' := by
  have cst := state_cell h
  rw [hst] at cst
  have HC := hide (lookWithinTag_inEquals c P hst h)
  clear h P hst
  go_enter Tryz.func89, Tryz.ntmps89
  go_wp2_with (go_at_call 108; refine (unhide HC).mono ?_; rintro e w1 ⟨rfl, h1⟩)
  go_ret
  exact ⟨rfl, h1⟩

set_option maxHeartbeats 800000 in
set_option maxRecDepth 1000000 in
theorem once_inDouble (c : Int) (P : Pre w0 own0 s c) (hst : s.state = 13) (h : Tk w0 own0 b s ex w) :
    Calls Tryz.prog 89 #[.pointer (some ⟨b, 0, none⟩), .int .i32 c] w fun e w' => e = .returned (.int .i64 (lookInDouble s c).1) ∧ Tk w0 own0 b (lookInDouble s c).2 ex w' := by
  have cst := state_cell h
  rw [hst] at cst
  have HC := hide (lookWithinTag_inDouble c P hst h)
  clear h P hst
  go_enter Tryz.func89, Tryz.ntmps89
  go_wp2_with (go_at_call 108; refine (unhide HC).mono ?_; rintro e w1 ⟨rfl, h1⟩)
  go_ret
  exact ⟨rfl, h1⟩

set_option maxHeartbeats 800000 in
set_option maxRecDepth 1000000 in
theorem once_inSingle (c : Int) (P : Pre w0 own0 s c) (hst : s.state = 14) (h : Tk w0 own0 b s ex w) :
    Calls Tryz.prog 89 #[.pointer (some ⟨b, 0, none⟩), .int .i32 c] w fun e w' => e = .returned (.int .i64 (lookInSingle s c).1) ∧ Tk w0 own0 b (lookInSingle s c).2 ex w' := by
  have cst := state_cell h
  rw [hst] at cst
  have HC := hide (lookWithinTag_inSingle c P hst h)
  clear h P hst
  go_enter Tryz.func89, Tryz.ntmps89
  go_wp2_with (go_at_call 108; refine (unhide HC).mono ?_; rintro e w1 ⟨rfl, h1⟩)
  go_ret
  exact ⟨rfl, h1⟩

set_option maxHeartbeats 800000 in
set_option maxRecDepth 1000000 in
theorem once_inPlain (c : Int) (P : Pre w0 own0 s c) (hst : s.state = 15) (h : Tk w0 own0 b s ex w) :
    Calls Tryz.prog 89 #[.pointer (some ⟨b, 0, none⟩), .int .i32 c] w fun e w' => e = .returned (.int .i64 (lookInPlain s c).1) ∧ Tk w0 own0 b (lookInPlain s c).2 ex w' := by
  have cst := state_cell h
  rw [hst] at cst
  have HC := hide (lookWithinTag_inPlain c P hst h)
  clear h P hst
  go_enter Tryz.func89, Tryz.ntmps89
  go_wp2_with (go_at_call 108; refine (unhide HC).mono ?_; rintro e w1 ⟨rfl, h1⟩)
  go_ret
  exact ⟨rfl, h1⟩

set_option maxHeartbeats 800000 in
set_option maxRecDepth 1000000 in
theorem once_inValue (c : Int) (P : Pre w0 own0 s c) (hst : s.state = 16) (h : Tk w0 own0 b s ex w) :
    Calls Tryz.prog 89 #[.pointer (some ⟨b, 0, none⟩), .int .i32 c] w fun e w' => e = .returned (.int .i64 (lookInValue s c).1) ∧ Tk w0 own0 b (lookInValue s c).2 ex w' := by
  have cst := state_cell h
  rw [hst] at cst
  have HC := hide (lookWithinTag_inValue c P hst h)
  clear h P hst
  go_enter Tryz.func89, Tryz.ntmps89
  go_wp2_with (go_at_call 108; refine (unhide HC).mono ?_; rintro e w1 ⟨rfl, h1⟩)
  go_ret
  exact ⟨rfl, h1⟩

set_option maxHeartbeats 800000 in
set_option maxRecDepth 1000000 in
theorem once_inSelf (c : Int) (P : Pre w0 own0 s c) (hst : s.state = 17) (h : Tk w0 own0 b s ex w) :
    Calls Tryz.prog 89 #[.pointer (some ⟨b, 0, none⟩), .int .i32 c] w fun e w' => e = .returned (.int .i64 (lookInSelf s c).1) ∧ Tk w0 own0 b (lookInSelf s c).2 ex w' := by
  have cst := state_cell h
  rw [hst] at cst
  have HC := hide (lookWithinTag_inSelf c P hst h)
  clear h P hst
  go_enter Tryz.func89, Tryz.ntmps89
  go_wp2_with (go_at_call 108; refine (unhide HC).mono ?_; rintro e w1 ⟨rfl, h1⟩)
  go_ret
  exact ⟨rfl, h1⟩

set_option maxHeartbeats 800000 in
set_option maxRecDepth 1000000 in
theorem once_inDecl (c : Int) (P : Pre w0 own0 s c) (hst : s.state = 18) (h : Tk w0 own0 b s ex w) :
    Calls Tryz.prog 89 #[.pointer (some ⟨b, 0, none⟩), .int .i32 c] w fun e w' => e = .returned (.int .i64 (lookInDecl s c).1) ∧ Tk w0 own0 b (lookInDecl s c).2 ex w' := by
  have cst := state_cell h
  rw [hst] at cst
  have HC := hide (lookWithinComment_inDecl c P hst h)
  clear h P hst
  go_enter Tryz.func89, Tryz.ntmps89
  go_wp2_with (go_at_call 109; refine (unhide HC).mono ?_; rintro e w1 ⟨rfl, h1⟩)
  go_ret
  exact ⟨rfl, h1⟩

set_option maxHeartbeats 800000 in
set_option maxRecDepth 1000000 in
theorem once_inBogus (c : Int) (P : Pre w0 own0 s c) (hst : s.state = 19) (h : Tk w0 own0 b s ex w) :
    Calls Tryz.prog 89 #[.pointer (some ⟨b, 0, none⟩), .int .i32 c] w fun e w' => e = .returned (.int .i64 (lookInBogus s c).1) ∧ Tk w0 own0 b (lookInBogus s c).2 ex w' := by
  have cst := state_cell h
  rw [hst] at cst
  have HC := hide (lookWithinComment_inBogus c P hst h)
  clear h P hst
  go_enter Tryz.func89, Tryz.ntmps89
  go_wp2_with (go_at_call 109; refine (unhide HC).mono ?_; rintro e w1 ⟨rfl, h1⟩)
  go_ret
  exact ⟨rfl, h1⟩

set_option maxHeartbeats 800000 in
set_option maxRecDepth 1000000 in
theorem once_inBegin (c : Int) (P : Pre w0 own0 s c) (hst : s.state = 20) (h : Tk w0 own0 b s ex w) :
    Calls Tryz.prog 89 #[.pointer (some ⟨b, 0, none⟩), .int .i32 c] w fun e w' => e = .returned (.int .i64 (lookInBegin s c).1) ∧ Tk w0 own0 b (lookInBegin s c).2 ex w' := by
  have cst := state_cell h
  rw [hst] at cst
  have HC := hide (lookWithinComment_inBegin c P hst h)
  clear h P hst
  go_enter Tryz.func89, Tryz.ntmps89
  go_wp2_with (go_at_call 109; refine (unhide HC).mono ?_; rintro e w1 ⟨rfl, h1⟩)
  go_ret
  exact ⟨rfl, h1⟩

set_option maxHeartbeats 800000 in
set_option maxRecDepth 1000000 in
theorem once_inBeginDash (c : Int) (P : Pre w0 own0 s c) (hst : s.state = 21) (h : Tk w0 own0 b s ex w) :
    Calls Tryz.prog 89 #[.pointer (some ⟨b, 0, none⟩), .int .i32 c] w fun e w' => e = .returned (.int .i64 (lookInBeginDash s c).1) ∧ Tk w0 own0 b (lookInBeginDash s c).2 ex w' := by
  have cst := state_cell h
  rw [hst] at cst
  have HC := hide (lookWithinComment_inBeginDash c P hst h)
  clear h P hst
  go_enter Tryz.func89, Tryz.ntmps89
  go_wp2_with (go_at_call 109; refine (unhide HC).mono ?_; rintro e w1 ⟨rfl, h1⟩)
  go_ret
  exact ⟨rfl, h1⟩

set_option maxHeartbeats 800000 in
set_option maxRecDepth 1000000 in
theorem once_inComment (c : Int) (P : Pre w0 own0 s c) (hst : s.state = 22) (h : Tk w0 own0 b s ex w) :
    Calls Tryz.prog 89 #[.pointer (some ⟨b, 0, none⟩), .int .i32 c] w fun e w' => e = .returned (.int .i64 (lookInComment s c).1) ∧ Tk w0 own0 b (lookInComment s c).2 ex w' := by
  have cst := state_cell h
  rw [hst] at cst
  have HC := hide (lookWithinComment_inComment c P hst h)
  clear h P hst
  go_enter Tryz.func89, Tryz.ntmps89
  go_wp2_with (go_at_call 109; refine (unhide HC).mono ?_; rintro e w1 ⟨rfl, h1⟩)
  go_ret
  exact ⟨rfl, h1⟩

set_option maxHeartbeats 800000 in
set_option maxRecDepth 1000000 in
theorem once_inDash (c : Int) (P : Pre w0 own0 s c) (hst : s.state = 23) (h : Tk w0 own0 b s ex w) :
    Calls Tryz.prog 89 #[.pointer (some ⟨b, 0, none⟩), .int .i32 c] w fun e w' => e = .returned (.int .i64 (lookInDash s c).1) ∧ Tk w0 own0 b (lookInDash s c).2 ex w' := by
  have cst := state_cell h
  rw [hst] at cst
  have HC := hide (lookWithinComment_inDash c P hst h)
  clear h P hst
  go_enter Tryz.func89, Tryz.ntmps89
  go_wp2_with (go_at_call 109; refine (unhide HC).mono ?_; rintro e w1 ⟨rfl, h1⟩)
  go_ret
  exact ⟨rfl, h1⟩

set_option maxHeartbeats 800000 in
set_option maxRecDepth 1000000 in
theorem once_inDashes (c : Int) (P : Pre w0 own0 s c) (hst : s.state = 24) (h : Tk w0 own0 b s ex w) :
    Calls Tryz.prog 89 #[.pointer (some ⟨b, 0, none⟩), .int .i32 c] w fun e w' => e = .returned (.int .i64 (lookInDashes s c).1) ∧ Tk w0 own0 b (lookInDashes s c).2 ex w' := by
  have cst := state_cell h
  rw [hst] at cst
  have HC := hide (lookWithinComment_inDashes c P hst h)
  clear h P hst
  go_enter Tryz.func89, Tryz.ntmps89
  go_wp2_with (go_at_call 109; refine (unhide HC).mono ?_; rintro e w1 ⟨rfl, h1⟩)
  go_ret
  exact ⟨rfl, h1⟩

set_option maxHeartbeats 800000 in
set_option maxRecDepth 1000000 in
theorem once_inBang (c : Int) (P : Pre w0 own0 s c) (hst : s.state = 25) (h : Tk w0 own0 b s ex w) :
    Calls Tryz.prog 89 #[.pointer (some ⟨b, 0, none⟩), .int .i32 c] w fun e w' => e = .returned (.int .i64 (lookInBang s c).1) ∧ Tk w0 own0 b (lookInBang s c).2 ex w' := by
  have cst := state_cell h
  rw [hst] at cst
  have HC := hide (lookWithinComment_inBang c P hst h)
  clear h P hst
  go_enter Tryz.func89, Tryz.ntmps89
  go_wp2_with (go_at_call 109; refine (unhide HC).mono ?_; rintro e w1 ⟨rfl, h1⟩)
  go_ret
  exact ⟨rfl, h1⟩

set_option maxHeartbeats 800000 in
set_option maxRecDepth 1000000 in
theorem once_inDoctype (c : Int) (P : Pre w0 own0 s c) (hst : s.state = 26) (h : Tk w0 own0 b s ex w) :
    Calls Tryz.prog 89 #[.pointer (some ⟨b, 0, none⟩), .int .i32 c] w fun e w' => e = .returned (.int .i64 (lookInDoctype s c).1) ∧ Tk w0 own0 b (lookInDoctype s c).2 ex w' := by
  have cst := state_cell h
  rw [hst] at cst
  have HC := hide (lookWithinDoctype_inDoctype c P hst h)
  clear h P hst
  go_enter Tryz.func89, Tryz.ntmps89
  go_wp2_with (go_at_call 110; refine (unhide HC).mono ?_; rintro e w1 ⟨rfl, h1⟩)
  go_ret
  exact ⟨rfl, h1⟩

set_option maxHeartbeats 800000 in
set_option maxRecDepth 1000000 in
theorem once_inKind (c : Int) (P : Pre w0 own0 s c) (hst : s.state = 27) (h : Tk w0 own0 b s ex w) :
    Calls Tryz.prog 89 #[.pointer (some ⟨b, 0, none⟩), .int .i32 c] w fun e w' => e = .returned (.int .i64 (lookInKind s c).1) ∧ Tk w0 own0 b (lookInKind s c).2 ex w' := by
  have cst := state_cell h
  rw [hst] at cst
  have HC := hide (lookWithinDoctype_inKind c P hst h)
  clear h P hst
  go_enter Tryz.func89, Tryz.ntmps89
  go_wp2_with (go_at_call 110; refine (unhide HC).mono ?_; rintro e w1 ⟨rfl, h1⟩)
  go_ret
  exact ⟨rfl, h1⟩

set_option maxHeartbeats 800000 in
set_option maxRecDepth 1000000 in
theorem once_inKindName (c : Int) (P : Pre w0 own0 s c) (hst : s.state = 28) (h : Tk w0 own0 b s ex w) :
    Calls Tryz.prog 89 #[.pointer (some ⟨b, 0, none⟩), .int .i32 c] w fun e w' => e = .returned (.int .i64 (lookInKindName s c).1) ∧ Tk w0 own0 b (lookInKindName s c).2 ex w' := by
  have cst := state_cell h
  rw [hst] at cst
  have HC := hide (lookWithinDoctype_inKindName c P hst h)
  clear h P hst
  go_enter Tryz.func89, Tryz.ntmps89
  go_wp2_with (go_at_call 110; refine (unhide HC).mono ?_; rintro e w1 ⟨rfl, h1⟩)
  go_ret
  exact ⟨rfl, h1⟩

set_option maxHeartbeats 800000 in
set_option maxRecDepth 1000000 in
theorem once_inKindEnd (c : Int) (P : Pre w0 own0 s c) (hst : s.state = 29) (h : Tk w0 own0 b s ex w) :
    Calls Tryz.prog 89 #[.pointer (some ⟨b, 0, none⟩), .int .i32 c] w fun e w' => e = .returned (.int .i64 (lookInKindEnd s c).1) ∧ Tk w0 own0 b (lookInKindEnd s c).2 ex w' := by
  have cst := state_cell h
  rw [hst] at cst
  have HC := hide (lookWithinDoctype_inKindEnd c P hst h)
  clear h P hst
  go_enter Tryz.func89, Tryz.ntmps89
  go_wp2_with (go_at_call 110; refine (unhide HC).mono ?_; rintro e w1 ⟨rfl, h1⟩)
  go_ret
  exact ⟨rfl, h1⟩

set_option maxHeartbeats 800000 in
set_option maxRecDepth 1000000 in
theorem once_inKindRest (c : Int) (P : Pre w0 own0 s c) (hst : s.state = 30) (h : Tk w0 own0 b s ex w) :
    Calls Tryz.prog 89 #[.pointer (some ⟨b, 0, none⟩), .int .i32 c] w fun e w' => e = .returned (.int .i64 (lookInKindRest s c).1) ∧ Tk w0 own0 b (lookInKindRest s c).2 ex w' := by
  have cst := state_cell h
  rw [hst] at cst
  have HC := hide (lookWithinDoctype_inKindRest c P hst h)
  clear h P hst
  go_enter Tryz.func89, Tryz.ntmps89
  go_wp2_with (go_at_call 110; refine (unhide HC).mono ?_; rintro e w1 ⟨rfl, h1⟩)
  go_ret
  exact ⟨rfl, h1⟩

set_option maxHeartbeats 800000 in
set_option maxRecDepth 1000000 in
theorem once_inRef (c : Int) (P : Pre w0 own0 s c) (hst : s.state = 31) (h : Tk w0 own0 b s ex w) :
    Calls Tryz.prog 89 #[.pointer (some ⟨b, 0, none⟩), .int .i32 c] w fun e w' => e = .returned (.int .i64 (lookInRef s c).1) ∧ Tk w0 own0 b (lookInRef s c).2 ex w' := by
  have cst := state_cell h
  rw [hst] at cst
  have HC := hide (lookWithinReference_inRef c P hst h)
  clear h P hst
  go_enter Tryz.func89, Tryz.ntmps89
  go_wp2_with (go_at_call 111; refine (unhide HC).mono ?_; rintro e w1 ⟨rfl, h1⟩)
  go_ret
  exact ⟨rfl, h1⟩

set_option maxHeartbeats 800000 in
set_option maxRecDepth 1000000 in
theorem once_inRefName (c : Int) (P : Pre w0 own0 s c) (hst : s.state = 32) (h : Tk w0 own0 b s ex w) :
    Calls Tryz.prog 89 #[.pointer (some ⟨b, 0, none⟩), .int .i32 c] w fun e w' => e = .returned (.int .i64 (lookInRefName s c).1) ∧ Tk w0 own0 b (lookInRefName s c).2 ex w' := by
  have cst := state_cell h
  rw [hst] at cst
  have HC := hide (lookWithinReference_inRefName c P hst h)
  clear h P hst
  go_enter Tryz.func89, Tryz.ntmps89
  go_wp2_with (go_at_call 111; refine (unhide HC).mono ?_; rintro e w1 ⟨rfl, h1⟩)
  go_ret
  exact ⟨rfl, h1⟩

set_option maxHeartbeats 800000 in
set_option maxRecDepth 1000000 in
theorem once_inRefUnknown (c : Int) (P : Pre w0 own0 s c) (hst : s.state = 33) (h : Tk w0 own0 b s ex w) :
    Calls Tryz.prog 89 #[.pointer (some ⟨b, 0, none⟩), .int .i32 c] w fun e w' => e = .returned (.int .i64 (lookInRefUnknown s c).1) ∧ Tk w0 own0 b (lookInRefUnknown s c).2 ex w' := by
  have cst := state_cell h
  rw [hst] at cst
  have HC := hide (lookWithinReference_inRefUnknown c P hst h)
  clear h P hst
  go_enter Tryz.func89, Tryz.ntmps89
  go_wp2_with (go_at_call 111; refine (unhide HC).mono ?_; rintro e w1 ⟨rfl, h1⟩)
  go_ret
  exact ⟨rfl, h1⟩

set_option maxHeartbeats 800000 in
set_option maxRecDepth 1000000 in
theorem once_inRefHash (c : Int) (P : Pre w0 own0 s c) (hst : s.state = 34) (h : Tk w0 own0 b s ex w) :
    Calls Tryz.prog 89 #[.pointer (some ⟨b, 0, none⟩), .int .i32 c] w fun e w' => e = .returned (.int .i64 (lookInRefHash s c).1) ∧ Tk w0 own0 b (lookInRefHash s c).2 ex w' := by
  have cst := state_cell h
  rw [hst] at cst
  have HC := hide (lookWithinReference_inRefHash c P hst h)
  clear h P hst
  go_enter Tryz.func89, Tryz.ntmps89
  go_wp2_with (go_at_call 111; refine (unhide HC).mono ?_; rintro e w1 ⟨rfl, h1⟩)
  go_ret
  exact ⟨rfl, h1⟩

set_option maxHeartbeats 800000 in
set_option maxRecDepth 1000000 in
theorem once_inRefNumber (c : Int) (P : Pre w0 own0 s c) (hst : s.state = 35) (h : Tk w0 own0 b s ex w) :
    Calls Tryz.prog 89 #[.pointer (some ⟨b, 0, none⟩), .int .i32 c] w fun e w' => e = .returned (.int .i64 (lookInRefNumber s c).1) ∧ Tk w0 own0 b (lookInRefNumber s c).2 ex w' := by
  have cst := state_cell h
  rw [hst] at cst
  have HC := hide (lookWithinReference_inRefNumber c P hst h)
  clear h P hst
  go_enter Tryz.func89, Tryz.ntmps89
  go_wp2_with (go_at_call 111; refine (unhide HC).mono ?_; rintro e w1 ⟨rfl, h1⟩)
  go_ret
  exact ⟨rfl, h1⟩

set_option maxHeartbeats 800000 in
set_option maxRecDepth 1000000 in
theorem once_inData (c : Int) (P : Pre w0 own0 s c) (hst : s.state = 0) (h : Tk w0 own0 b s ex w) :
    Calls Tryz.prog 89 #[.pointer (some ⟨b, 0, none⟩), .int .i32 c] w fun e w' => e = .returned (.int .i64 (lookInData s c).1) ∧ Tk w0 own0 b (lookInData s c).2 ex w' := by
  have cst := state_cell h
  rw [hst] at cst
  have HC := hide (lookInData_does c P.rn h (by have := P.size; omega))
  clear h P hst
  go_enter Tryz.func89, Tryz.ntmps89
  go_wp2_with (go_at_call 112; refine (unhide HC).mono ?_; rintro e w1 ⟨rfl, h1⟩)
  go_ret
  exact ⟨rfl, h1⟩

set_option maxHeartbeats 800000 in
set_option maxRecDepth 1000000 in
theorem once_inTitle (c : Int) (P : Pre w0 own0 s c) (hst : s.state = 1) (h : Tk w0 own0 b s ex w) :
    Calls Tryz.prog 89 #[.pointer (some ⟨b, 0, none⟩), .int .i32 c] w fun e w' => e = .returned (.int .i64 (lookInTitle s c).1) ∧ Tk w0 own0 b (lookInTitle s c).2 ex w' := by
  have cst := state_cell h
  rw [hst] at cst
  have HC := hide (lookInTitle_does c P.rn hst h (by have := P.size; omega))
  clear h P hst
  go_enter Tryz.func89, Tryz.ntmps89
  go_wp2_with (go_at_call 106; refine (unhide HC).mono ?_; rintro e w1 ⟨rfl, h1⟩)
  go_ret
  exact ⟨rfl, h1⟩

set_option maxHeartbeats 800000 in
set_option maxRecDepth 1000000 in
theorem once_inRaw (c : Int) (P : Pre w0 own0 s c) (hst : s.state = 2) (h : Tk w0 own0 b s ex w) :
    Calls Tryz.prog 89 #[.pointer (some ⟨b, 0, none⟩), .int .i32 c] w fun e w' => e = .returned (.int .i64 (lookInRaw s c).1) ∧ Tk w0 own0 b (lookInRaw s c).2 ex w' := by
  have cst := state_cell h
  rw [hst] at cst
  have HC := hide (lookInRaw_does c P.rn hst h (by have := P.size; omega))
  clear h P hst
  go_enter Tryz.func89, Tryz.ntmps89
  go_wp2_with (go_at_call 106; refine (unhide HC).mono ?_; rintro e w1 ⟨rfl, h1⟩)
  go_ret
  exact ⟨rfl, h1⟩

def lookOnce (s : TS) (c : Int) : Int × TS :=
  if s.state = 1 then lookInTitle s c else
  if s.state = 2 then lookInRaw s c else
  if s.state = 3 then lookInOpen s c else
  if s.state = 4 then lookInClose s c else
  if s.state = 5 then lookInLess s c else
  if s.state = 6 then lookInLessClose s c else
  if s.state = 7 then lookInLessName s c else
  if s.state = 8 then lookInTag s c else
  if s.state = 9 then lookInAttr s c else
  if s.state = 10 then lookInName s c else
  if s.state = 11 then lookInAfter s c else
  if s.state = 12 then lookInEquals s c else
  if s.state = 13 then lookInDouble s c else
  if s.state = 14 then lookInSingle s c else
  if s.state = 15 then lookInPlain s c else
  if s.state = 16 then lookInValue s c else
  if s.state = 17 then lookInSelf s c else
  if s.state = 18 then lookInDecl s c else
  if s.state = 19 then lookInBogus s c else
  if s.state = 20 then lookInBegin s c else
  if s.state = 21 then lookInBeginDash s c else
  if s.state = 22 then lookInComment s c else
  if s.state = 23 then lookInDash s c else
  if s.state = 24 then lookInDashes s c else
  if s.state = 25 then lookInBang s c else
  if s.state = 26 then lookInDoctype s c else
  if s.state = 27 then lookInKind s c else
  if s.state = 28 then lookInKindName s c else
  if s.state = 29 then lookInKindEnd s c else
  if s.state = 30 then lookInKindRest s c else
  if s.state = 31 then lookInRef s c else
  if s.state = 32 then lookInRefName s c else
  if s.state = 33 then lookInRefUnknown s c else
  if s.state = 34 then lookInRefHash s c else
  if s.state = 35 then lookInRefNumber s c else
  lookInData s c

theorem lookOnce_does (c : Int) (P : Pre w0 own0 s c) (h0 : 0 ≤ s.state) (h1 : s.state ≤ 35) (h : Tk w0 own0 b s ex w) :
    Calls Tryz.prog 89 #[.pointer (some ⟨b, 0, none⟩), .int .i32 c] w fun e w' => e = .returned (.int .i64 (lookOnce s c).1) ∧ Tk w0 own0 b (lookOnce s c).2 ex w' := by
  by_cases e_inData : s.state = 0
  · have hf : lookOnce s c = lookInData s c := by simp [lookOnce, e_inData]
    rw [hf]
    exact once_inData c P e_inData h
  by_cases e_inTitle : s.state = 1
  · have hf : lookOnce s c = lookInTitle s c := by simp [lookOnce, e_inTitle]
    rw [hf]
    exact once_inTitle c P e_inTitle h
  by_cases e_inRaw : s.state = 2
  · have hf : lookOnce s c = lookInRaw s c := by simp [lookOnce, e_inRaw]
    rw [hf]
    exact once_inRaw c P e_inRaw h
  by_cases e_inOpen : s.state = 3
  · have hf : lookOnce s c = lookInOpen s c := by simp [lookOnce, e_inOpen]
    rw [hf]
    exact once_inOpen c P e_inOpen h
  by_cases e_inClose : s.state = 4
  · have hf : lookOnce s c = lookInClose s c := by simp [lookOnce, e_inClose]
    rw [hf]
    exact once_inClose c P e_inClose h
  by_cases e_inLess : s.state = 5
  · have hf : lookOnce s c = lookInLess s c := by simp [lookOnce, e_inLess]
    rw [hf]
    exact once_inLess c P e_inLess h
  by_cases e_inLessClose : s.state = 6
  · have hf : lookOnce s c = lookInLessClose s c := by simp [lookOnce, e_inLessClose]
    rw [hf]
    exact once_inLessClose c P e_inLessClose h
  by_cases e_inLessName : s.state = 7
  · have hf : lookOnce s c = lookInLessName s c := by simp [lookOnce, e_inLessName]
    rw [hf]
    exact once_inLessName c P e_inLessName h
  by_cases e_inTag : s.state = 8
  · have hf : lookOnce s c = lookInTag s c := by simp [lookOnce, e_inTag]
    rw [hf]
    exact once_inTag c P e_inTag h
  by_cases e_inAttr : s.state = 9
  · have hf : lookOnce s c = lookInAttr s c := by simp [lookOnce, e_inAttr]
    rw [hf]
    exact once_inAttr c P e_inAttr h
  by_cases e_inName : s.state = 10
  · have hf : lookOnce s c = lookInName s c := by simp [lookOnce, e_inName]
    rw [hf]
    exact once_inName c P e_inName h
  by_cases e_inAfter : s.state = 11
  · have hf : lookOnce s c = lookInAfter s c := by simp [lookOnce, e_inAfter]
    rw [hf]
    exact once_inAfter c P e_inAfter h
  by_cases e_inEquals : s.state = 12
  · have hf : lookOnce s c = lookInEquals s c := by simp [lookOnce, e_inEquals]
    rw [hf]
    exact once_inEquals c P e_inEquals h
  by_cases e_inDouble : s.state = 13
  · have hf : lookOnce s c = lookInDouble s c := by simp [lookOnce, e_inDouble]
    rw [hf]
    exact once_inDouble c P e_inDouble h
  by_cases e_inSingle : s.state = 14
  · have hf : lookOnce s c = lookInSingle s c := by simp [lookOnce, e_inSingle]
    rw [hf]
    exact once_inSingle c P e_inSingle h
  by_cases e_inPlain : s.state = 15
  · have hf : lookOnce s c = lookInPlain s c := by simp [lookOnce, e_inPlain]
    rw [hf]
    exact once_inPlain c P e_inPlain h
  by_cases e_inValue : s.state = 16
  · have hf : lookOnce s c = lookInValue s c := by simp [lookOnce, e_inValue]
    rw [hf]
    exact once_inValue c P e_inValue h
  by_cases e_inSelf : s.state = 17
  · have hf : lookOnce s c = lookInSelf s c := by simp [lookOnce, e_inSelf]
    rw [hf]
    exact once_inSelf c P e_inSelf h
  by_cases e_inDecl : s.state = 18
  · have hf : lookOnce s c = lookInDecl s c := by simp [lookOnce, e_inDecl]
    rw [hf]
    exact once_inDecl c P e_inDecl h
  by_cases e_inBogus : s.state = 19
  · have hf : lookOnce s c = lookInBogus s c := by simp [lookOnce, e_inBogus]
    rw [hf]
    exact once_inBogus c P e_inBogus h
  by_cases e_inBegin : s.state = 20
  · have hf : lookOnce s c = lookInBegin s c := by simp [lookOnce, e_inBegin]
    rw [hf]
    exact once_inBegin c P e_inBegin h
  by_cases e_inBeginDash : s.state = 21
  · have hf : lookOnce s c = lookInBeginDash s c := by simp [lookOnce, e_inBeginDash]
    rw [hf]
    exact once_inBeginDash c P e_inBeginDash h
  by_cases e_inComment : s.state = 22
  · have hf : lookOnce s c = lookInComment s c := by simp [lookOnce, e_inComment]
    rw [hf]
    exact once_inComment c P e_inComment h
  by_cases e_inDash : s.state = 23
  · have hf : lookOnce s c = lookInDash s c := by simp [lookOnce, e_inDash]
    rw [hf]
    exact once_inDash c P e_inDash h
  by_cases e_inDashes : s.state = 24
  · have hf : lookOnce s c = lookInDashes s c := by simp [lookOnce, e_inDashes]
    rw [hf]
    exact once_inDashes c P e_inDashes h
  by_cases e_inBang : s.state = 25
  · have hf : lookOnce s c = lookInBang s c := by simp [lookOnce, e_inBang]
    rw [hf]
    exact once_inBang c P e_inBang h
  by_cases e_inDoctype : s.state = 26
  · have hf : lookOnce s c = lookInDoctype s c := by simp [lookOnce, e_inDoctype]
    rw [hf]
    exact once_inDoctype c P e_inDoctype h
  by_cases e_inKind : s.state = 27
  · have hf : lookOnce s c = lookInKind s c := by simp [lookOnce, e_inKind]
    rw [hf]
    exact once_inKind c P e_inKind h
  by_cases e_inKindName : s.state = 28
  · have hf : lookOnce s c = lookInKindName s c := by simp [lookOnce, e_inKindName]
    rw [hf]
    exact once_inKindName c P e_inKindName h
  by_cases e_inKindEnd : s.state = 29
  · have hf : lookOnce s c = lookInKindEnd s c := by simp [lookOnce, e_inKindEnd]
    rw [hf]
    exact once_inKindEnd c P e_inKindEnd h
  by_cases e_inKindRest : s.state = 30
  · have hf : lookOnce s c = lookInKindRest s c := by simp [lookOnce, e_inKindRest]
    rw [hf]
    exact once_inKindRest c P e_inKindRest h
  by_cases e_inRef : s.state = 31
  · have hf : lookOnce s c = lookInRef s c := by simp [lookOnce, e_inRef]
    rw [hf]
    exact once_inRef c P e_inRef h
  by_cases e_inRefName : s.state = 32
  · have hf : lookOnce s c = lookInRefName s c := by simp [lookOnce, e_inRefName]
    rw [hf]
    exact once_inRefName c P e_inRefName h
  by_cases e_inRefUnknown : s.state = 33
  · have hf : lookOnce s c = lookInRefUnknown s c := by simp [lookOnce, e_inRefUnknown]
    rw [hf]
    exact once_inRefUnknown c P e_inRefUnknown h
  by_cases e_inRefHash : s.state = 34
  · have hf : lookOnce s c = lookInRefHash s c := by simp [lookOnce, e_inRefHash]
    rw [hf]
    exact once_inRefHash c P e_inRefHash h
  by_cases e_inRefNumber : s.state = 35
  · have hf : lookOnce s c = lookInRefNumber s c := by simp [lookOnce, e_inRefNumber]
    rw [hf]
    exact once_inRefNumber c P e_inRefNumber h
  omega
end
end Go.Proofs.YtdfmapcnfficlaaGreatDoor

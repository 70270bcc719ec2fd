/-
  One look: the dispatchers, a walk a state.
-/
import Derived.Test.YtdfmapcnfficlaaGreatDoorB28
import Derived.Test.YtdfmapcnfficlaaGreatDoorB29
import Derived.Test.YtdfmapcnfficlaaGreatDoorB08
set_option linter.unusedSimpArgs false
set_option linter.unusedVariables false
namespace Go.Proofs.YtdfmapcnfficlaaGreatDoor
open Go Go.RowKit

def isRefSt (q : Int) : Bool := decide (31 ≤ q ∧ q ≤ 35)
def isAttSt (q : Int) : Bool := q == 10 || q == 12 || q == 13 || q == 14 || q == 15
/-- What a look asks. -/
structure Pre (w0 : World) (own0 : Nat → Prop) (s : TS) (c : Int) : Prop where
  rn : Rn c
  base : Base w0 own0
  ref : isRefSt s.state = true → RefOk s
  att : isAttSt s.state = true → s.tag.atts ≠ []
  decl : s.declared.length ≤ 8
  place0 : 0 ≤ s.place
  place1 : s.place ≤ 1099511627776
  size : sz s + 128 ≤ lim

section
variable {w0 : World} {own0 : Nat → Prop} {b : Nat} {s : TS} {ex : List Item} {w : World} {R : Regs}

theorem state_cell (h : Tk w0 own0 b s ex w) : w.cell? ⟨b, 5, none⟩ = some (.int .i64 s.state) := by
  obtain ⟨R, hR⟩ := h.reg
  have := hR.1.cell 5
  exact this

set_option maxHeartbeats 800000 in
set_option maxRecDepth 1000000 in
theorem lookBehindLess_inOpen (c : Int) (P : Pre w0 own0 s c) (hst : s.state = 3) (h : Tk w0 own0 b s ex w) :
    Calls Tryz.prog 107 #[.pointer (some ⟨b, 0, none⟩), .int .i32 c] w fun e w' => e = .returned (.int .i64 (lookInOpen s c).1) ∧ Tk w0 own0 b (lookInOpen s c).2 ex w' := by
  have cst := state_cell h
  rw [hst] at cst
  have HC := hide (lookInOpen_does c P.rn h (by have := P.size; omega))
  clear h P hst
  go_enter Tryz.func107, Tryz.ntmps107
  go_wp2_with (go_at_call 128; refine (unhide HC).mono ?_; rintro e w1 ⟨rfl, h1⟩)
  go_ret
  exact ⟨rfl, h1⟩

set_option maxHeartbeats 800000 in
set_option maxRecDepth 1000000 in
theorem lookBehindLess_inClose (c : Int) (P : Pre w0 own0 s c) (hst : s.state = 4) (h : Tk w0 own0 b s ex w) :
    Calls Tryz.prog 107 #[.pointer (some ⟨b, 0, none⟩), .int .i32 c] w fun e w' => e = .returned (.int .i64 (lookInClose s c).1) ∧ Tk w0 own0 b (lookInClose s c).2 ex w' := by
  have cst := state_cell h
  rw [hst] at cst
  have HC := hide (lookInClose_does c P.rn h (by have := P.size; omega))
  clear h P hst
  go_enter Tryz.func107, Tryz.ntmps107
  go_wp2_with (go_at_call 129; refine (unhide HC).mono ?_; rintro e w1 ⟨rfl, h1⟩)
  go_ret
  exact ⟨rfl, h1⟩

set_option maxHeartbeats 800000 in
set_option maxRecDepth 1000000 in
theorem lookBehindLess_inLess (c : Int) (P : Pre w0 own0 s c) (hst : s.state = 5) (h : Tk w0 own0 b s ex w) :
    Calls Tryz.prog 107 #[.pointer (some ⟨b, 0, none⟩), .int .i32 c] w fun e w' => e = .returned (.int .i64 (lookInLess s c).1) ∧ Tk w0 own0 b (lookInLess s c).2 ex w' := by
  have cst := state_cell h
  rw [hst] at cst
  have HC := hide (lookInLess_does c P.rn h (by have := P.size; omega))
  clear h P hst
  go_enter Tryz.func107, Tryz.ntmps107
  go_wp2_with (go_at_call 130; refine (unhide HC).mono ?_; rintro e w1 ⟨rfl, h1⟩)
  go_ret
  exact ⟨rfl, h1⟩

set_option maxHeartbeats 800000 in
set_option maxRecDepth 1000000 in
theorem lookBehindLess_inLessClose (c : Int) (P : Pre w0 own0 s c) (hst : s.state = 6) (h : Tk w0 own0 b s ex w) :
    Calls Tryz.prog 107 #[.pointer (some ⟨b, 0, none⟩), .int .i32 c] w fun e w' => e = .returned (.int .i64 (lookInLessClose s c).1) ∧ Tk w0 own0 b (lookInLessClose s c).2 ex w' := by
  have cst := state_cell h
  rw [hst] at cst
  have HC := hide (lookInLessClose_does c P.rn h (by have := P.size; omega))
  clear h P hst
  go_enter Tryz.func107, Tryz.ntmps107
  go_wp2_with (go_at_call 131; refine (unhide HC).mono ?_; rintro e w1 ⟨rfl, h1⟩)
  go_ret
  exact ⟨rfl, h1⟩

set_option maxHeartbeats 800000 in
set_option maxRecDepth 1000000 in
theorem lookBehindLess_inLessName (c : Int) (P : Pre w0 own0 s c) (hst : s.state = 7) (h : Tk w0 own0 b s ex w) :
    Calls Tryz.prog 107 #[.pointer (some ⟨b, 0, none⟩), .int .i32 c] w fun e w' => e = .returned (.int .i64 (lookInLessName s c).1) ∧ Tk w0 own0 b (lookInLessName s c).2 ex w' := by
  have cst := state_cell h
  rw [hst] at cst
  have HC := hide (lookInLessName_does c P.rn h (by have := P.size; omega))
  clear h P hst
  go_enter Tryz.func107, Tryz.ntmps107
  go_wp2_with (go_at_call 132; refine (unhide HC).mono ?_; rintro e w1 ⟨rfl, h1⟩)
  go_ret
  exact ⟨rfl, h1⟩

set_option maxHeartbeats 800000 in
set_option maxRecDepth 1000000 in
theorem lookWithinTag_inTag (c : Int) (P : Pre w0 own0 s c) (hst : s.state = 8) (h : Tk w0 own0 b s ex w) :
    Calls Tryz.prog 108 #[.pointer (some ⟨b, 0, none⟩), .int .i32 c] w fun e w' => e = .returned (.int .i64 (lookInTag s c).1) ∧ Tk w0 own0 b (lookInTag s c).2 ex w' := by
  have cst := state_cell h
  rw [hst] at cst
  have HC := hide (lookInTag_does c P.rn h (by have := P.size; omega))
  clear h P hst
  go_enter Tryz.func108, Tryz.ntmps108
  go_wp2_with (go_at_call 141; refine (unhide HC).mono ?_; rintro e w1 ⟨rfl, h1⟩)
  go_ret
  exact ⟨rfl, h1⟩

set_option maxHeartbeats 800000 in
set_option maxRecDepth 1000000 in
theorem lookWithinTag_inAttr (c : Int) (P : Pre w0 own0 s c) (hst : s.state = 9) (h : Tk w0 own0 b s ex w) :
    Calls Tryz.prog 108 #[.pointer (some ⟨b, 0, none⟩), .int .i32 c] w fun e w' => e = .returned (.int .i64 (lookInAttr s c).1) ∧ Tk w0 own0 b (lookInAttr s c).2 ex w' := by
  have cst := state_cell h
  rw [hst] at cst
  have HC := hide (lookInAttr_does c P.rn h (by have := P.size; omega))
  clear h P hst
  go_enter Tryz.func108, Tryz.ntmps108
  go_wp2_with (go_at_call 133; refine (unhide HC).mono ?_; rintro e w1 ⟨rfl, h1⟩)
  go_ret
  exact ⟨rfl, h1⟩

set_option maxHeartbeats 800000 in
set_option maxRecDepth 1000000 in
theorem lookWithinTag_inName (c : Int) (P : Pre w0 own0 s c) (hst : s.state = 10) (h : Tk w0 own0 b s ex w) :
    Calls Tryz.prog 108 #[.pointer (some ⟨b, 0, none⟩), .int .i32 c] w fun e w' => e = .returned (.int .i64 (lookInName s c).1) ∧ Tk w0 own0 b (lookInName s c).2 ex w' := by
  have cst := state_cell h
  rw [hst] at cst
  have HC := hide (lookInName_does c P.rn (P.att (by rw [hst]; decide)) h (by have := P.size; omega))
  clear h P hst
  go_enter Tryz.func108, Tryz.ntmps108
  go_wp2_with (go_at_call 134; refine (unhide HC).mono ?_; rintro e w1 ⟨rfl, h1⟩)
  go_ret
  exact ⟨rfl, h1⟩

set_option maxHeartbeats 800000 in
set_option maxRecDepth 1000000 in
theorem lookWithinTag_inAfter (c : Int) (P : Pre w0 own0 s c) (hst : s.state = 11) (h : Tk w0 own0 b s ex w) :
    Calls Tryz.prog 108 #[.pointer (some ⟨b, 0, none⟩), .int .i32 c] w fun e w' => e = .returned (.int .i64 (lookInAfter s c).1) ∧ Tk w0 own0 b (lookInAfter s c).2 ex w' := by
  have cst := state_cell h
  rw [hst] at cst
  have HC := hide (lookInAfter_does c P.rn h (by have := P.size; omega))
  clear h P hst
  go_enter Tryz.func108, Tryz.ntmps108
  go_wp2_with (go_at_call 135; refine (unhide HC).mono ?_; rintro e w1 ⟨rfl, h1⟩)
  go_ret
  exact ⟨rfl, h1⟩

set_option maxHeartbeats 800000 in
set_option maxRecDepth 1000000 in
theorem lookWithinTag_inEquals (c : Int) (P : Pre w0 own0 s c) (hst : s.state = 12) (h : Tk w0 own0 b s ex w) :
    Calls Tryz.prog 108 #[.pointer (some ⟨b, 0, none⟩), .int .i32 c] w fun e w' => e = .returned (.int .i64 (lookInEquals s c).1) ∧ Tk w0 own0 b (lookInEquals s c).2 ex w' := by
  have cst := state_cell h
  rw [hst] at cst
  have HC := hide (lookInEquals_does c P.rn h (by have := P.size; omega))
  clear h P hst
  go_enter Tryz.func108, Tryz.ntmps108
  go_wp2_with (go_at_call 136; refine (unhide HC).mono ?_; rintro e w1 ⟨rfl, h1⟩)
  go_ret
  exact ⟨rfl, h1⟩

set_option maxHeartbeats 800000 in
set_option maxRecDepth 1000000 in
theorem lookWithinTag_inDouble (c : Int) (P : Pre w0 own0 s c) (hst : s.state = 13) (h : Tk w0 own0 b s ex w) :
    Calls Tryz.prog 108 #[.pointer (some ⟨b, 0, none⟩), .int .i32 c] w fun e w' => e = .returned (.int .i64 (lookInDouble s c).1) ∧ Tk w0 own0 b (lookInDouble s c).2 ex w' := by
  have cst := state_cell h
  rw [hst] at cst
  have HC := hide (lookInDouble_does c P.rn (P.att (by rw [hst]; decide)) h (by have := P.size; omega))
  clear h P hst
  go_enter Tryz.func108, Tryz.ntmps108
  go_wp2_with (go_at_call 137; refine (unhide HC).mono ?_; rintro e w1 ⟨rfl, h1⟩)
  go_ret
  exact ⟨rfl, h1⟩

set_option maxHeartbeats 800000 in
set_option maxRecDepth 1000000 in
theorem lookWithinTag_inSingle (c : Int) (P : Pre w0 own0 s c) (hst : s.state = 14) (h : Tk w0 own0 b s ex w) :
    Calls Tryz.prog 108 #[.pointer (some ⟨b, 0, none⟩), .int .i32 c] w fun e w' => e = .returned (.int .i64 (lookInSingle s c).1) ∧ Tk w0 own0 b (lookInSingle s c).2 ex w' := by
  have cst := state_cell h
  rw [hst] at cst
  have HC := hide (lookInSingle_does c P.rn (P.att (by rw [hst]; decide)) h (by have := P.size; omega))
  clear h P hst
  go_enter Tryz.func108, Tryz.ntmps108
  go_wp2_with (go_at_call 137; refine (unhide HC).mono ?_; rintro e w1 ⟨rfl, h1⟩)
  go_ret
  exact ⟨rfl, h1⟩

set_option maxHeartbeats 800000 in
set_option maxRecDepth 1000000 in
theorem lookWithinTag_inPlain (c : Int) (P : Pre w0 own0 s c) (hst : s.state = 15) (h : Tk w0 own0 b s ex w) :
    Calls Tryz.prog 108 #[.pointer (some ⟨b, 0, none⟩), .int .i32 c] w fun e w' => e = .returned (.int .i64 (lookInPlain s c).1) ∧ Tk w0 own0 b (lookInPlain s c).2 ex w' := by
  have cst := state_cell h
  rw [hst] at cst
  have HC := hide (lookInPlain_does c P.rn (P.att (by rw [hst]; decide)) h (by have := P.size; omega))
  clear h P hst
  go_enter Tryz.func108, Tryz.ntmps108
  go_wp2_with (go_at_call 138; refine (unhide HC).mono ?_; rintro e w1 ⟨rfl, h1⟩)
  go_ret
  exact ⟨rfl, h1⟩

set_option maxHeartbeats 800000 in
set_option maxRecDepth 1000000 in
theorem lookWithinTag_inValue (c : Int) (P : Pre w0 own0 s c) (hst : s.state = 16) (h : Tk w0 own0 b s ex w) :
    Calls Tryz.prog 108 #[.pointer (some ⟨b, 0, none⟩), .int .i32 c] w fun e w' => e = .returned (.int .i64 (lookInValue s c).1) ∧ Tk w0 own0 b (lookInValue s c).2 ex w' := by
  have cst := state_cell h
  rw [hst] at cst
  have HC := hide (lookInValue_does c P.rn h (by have := P.size; omega))
  clear h P hst
  go_enter Tryz.func108, Tryz.ntmps108
  go_wp2_with (go_at_call 139; refine (unhide HC).mono ?_; rintro e w1 ⟨rfl, h1⟩)
  go_ret
  exact ⟨rfl, h1⟩

set_option maxHeartbeats 800000 in
set_option maxRecDepth 1000000 in
theorem lookWithinTag_inSelf (c : Int) (P : Pre w0 own0 s c) (hst : s.state = 17) (h : Tk w0 own0 b s ex w) :
    Calls Tryz.prog 108 #[.pointer (some ⟨b, 0, none⟩), .int .i32 c] w fun e w' => e = .returned (.int .i64 (lookInSelf s c).1) ∧ Tk w0 own0 b (lookInSelf s c).2 ex w' := by
  have cst := state_cell h
  rw [hst] at cst
  have HC := hide (lookInSelf_does c P.rn h (by have := P.size; omega))
  clear h P hst
  go_enter Tryz.func108, Tryz.ntmps108
  go_wp2_with (go_at_call 140; refine (unhide HC).mono ?_; rintro e w1 ⟨rfl, h1⟩)
  go_ret
  exact ⟨rfl, h1⟩

set_option maxHeartbeats 800000 in
set_option maxRecDepth 1000000 in
theorem lookWithinComment_inDecl (c : Int) (P : Pre w0 own0 s c) (hst : s.state = 18) (h : Tk w0 own0 b s ex w) :
    Calls Tryz.prog 109 #[.pointer (some ⟨b, 0, none⟩), .int .i32 c] w fun e w' => e = .returned (.int .i64 (lookInDecl s c).1) ∧ Tk w0 own0 b (lookInDecl s c).2 ex w' := by
  have cst := state_cell h
  rw [hst] at cst
  have HC := hide (lookInDecl_does c P.rn P.base P.decl P.place0 P.place1 h (by have := P.size; omega))
  clear h P hst
  go_enter Tryz.func109, Tryz.ntmps109
  go_wp2_with (go_at_call 142; refine (unhide HC).mono ?_; rintro e w1 ⟨rfl, h1⟩)
  go_ret
  exact ⟨rfl, h1⟩

set_option maxHeartbeats 800000 in
set_option maxRecDepth 1000000 in
theorem lookWithinComment_inBogus (c : Int) (P : Pre w0 own0 s c) (hst : s.state = 19) (h : Tk w0 own0 b s ex w) :
    Calls Tryz.prog 109 #[.pointer (some ⟨b, 0, none⟩), .int .i32 c] w fun e w' => e = .returned (.int .i64 (lookInBogus s c).1) ∧ Tk w0 own0 b (lookInBogus s c).2 ex w' := by
  have cst := state_cell h
  rw [hst] at cst
  have HC := hide (lookInBogus_does c P.rn h (by have := P.size; omega))
  clear h P hst
  go_enter Tryz.func109, Tryz.ntmps109
  go_wp2_with (go_at_call 143; refine (unhide HC).mono ?_; rintro e w1 ⟨rfl, h1⟩)
  go_ret
  exact ⟨rfl, h1⟩

set_option maxHeartbeats 800000 in
set_option maxRecDepth 1000000 in
theorem lookWithinComment_inBegin (c : Int) (P : Pre w0 own0 s c) (hst : s.state = 20) (h : Tk w0 own0 b s ex w) :
    Calls Tryz.prog 109 #[.pointer (some ⟨b, 0, none⟩), .int .i32 c] w fun e w' => e = .returned (.int .i64 (lookInBegin s c).1) ∧ Tk w0 own0 b (lookInBegin s c).2 ex w' := by
  have cst := state_cell h
  rw [hst] at cst
  have HC := hide (lookInBegin_does c P.rn h (by have := P.size; omega))
  clear h P hst
  go_enter Tryz.func109, Tryz.ntmps109
  go_wp2_with (go_at_call 144; refine (unhide HC).mono ?_; rintro e w1 ⟨rfl, h1⟩)
  go_ret
  exact ⟨rfl, h1⟩

set_option maxHeartbeats 800000 in
set_option maxRecDepth 1000000 in
theorem lookWithinComment_inBeginDash (c : Int) (P : Pre w0 own0 s c) (hst : s.state = 21) (h : Tk w0 own0 b s ex w) :
    Calls Tryz.prog 109 #[.pointer (some ⟨b, 0, none⟩), .int .i32 c] w fun e w' => e = .returned (.int .i64 (lookInBeginDash s c).1) ∧ Tk w0 own0 b (lookInBeginDash s c).2 ex w' := by
  have cst := state_cell h
  rw [hst] at cst
  have HC := hide (lookInBeginDash_does c P.rn h (by have := P.size; omega))
  clear h P hst
  go_enter Tryz.func109, Tryz.ntmps109
  go_wp2_with (go_at_call 145; refine (unhide HC).mono ?_; rintro e w1 ⟨rfl, h1⟩)
  go_ret
  exact ⟨rfl, h1⟩

set_option maxHeartbeats 800000 in
set_option maxRecDepth 1000000 in
theorem lookWithinComment_inComment (c : Int) (P : Pre w0 own0 s c) (hst : s.state = 22) (h : Tk w0 own0 b s ex w) :
    Calls Tryz.prog 109 #[.pointer (some ⟨b, 0, none⟩), .int .i32 c] w fun e w' => e = .returned (.int .i64 (lookInComment s c).1) ∧ Tk w0 own0 b (lookInComment s c).2 ex w' := by
  have cst := state_cell h
  rw [hst] at cst
  have HC := hide (lookInComment_does c P.rn h (by have := P.size; omega))
  clear h P hst
  go_enter Tryz.func109, Tryz.ntmps109
  go_wp2_with (go_at_call 149; refine (unhide HC).mono ?_; rintro e w1 ⟨rfl, h1⟩)
  go_ret
  exact ⟨rfl, h1⟩

set_option maxHeartbeats 800000 in
set_option maxRecDepth 1000000 in
theorem lookWithinComment_inDash (c : Int) (P : Pre w0 own0 s c) (hst : s.state = 23) (h : Tk w0 own0 b s ex w) :
    Calls Tryz.prog 109 #[.pointer (some ⟨b, 0, none⟩), .int .i32 c] w fun e w' => e = .returned (.int .i64 (lookInDash s c).1) ∧ Tk w0 own0 b (lookInDash s c).2 ex w' := by
  have cst := state_cell h
  rw [hst] at cst
  have HC := hide (lookInDash_does c P.rn h (by have := P.size; omega))
  clear h P hst
  go_enter Tryz.func109, Tryz.ntmps109
  go_wp2_with (go_at_call 146; refine (unhide HC).mono ?_; rintro e w1 ⟨rfl, h1⟩)
  go_ret
  exact ⟨rfl, h1⟩

set_option maxHeartbeats 800000 in
set_option maxRecDepth 1000000 in
theorem lookWithinComment_inDashes (c : Int) (P : Pre w0 own0 s c) (hst : s.state = 24) (h : Tk w0 own0 b s ex w) :
    Calls Tryz.prog 109 #[.pointer (some ⟨b, 0, none⟩), .int .i32 c] w fun e w' => e = .returned (.int .i64 (lookInDashes s c).1) ∧ Tk w0 own0 b (lookInDashes s c).2 ex w' := by
  have cst := state_cell h
  rw [hst] at cst
  have HC := hide (lookInDashes_does c P.rn h (by have := P.size; omega))
  clear h P hst
  go_enter Tryz.func109, Tryz.ntmps109
  go_wp2_with (go_at_call 147; refine (unhide HC).mono ?_; rintro e w1 ⟨rfl, h1⟩)
  go_ret
  exact ⟨rfl, h1⟩

set_option maxHeartbeats 800000 in
set_option maxRecDepth 1000000 in
theorem lookWithinComment_inBang (c : Int) (P : Pre w0 own0 s c) (hst : s.state = 25) (h : Tk w0 own0 b s ex w) :
    Calls Tryz.prog 109 #[.pointer (some ⟨b, 0, none⟩), .int .i32 c] w fun e w' => e = .returned (.int .i64 (lookInBang s c).1) ∧ Tk w0 own0 b (lookInBang s c).2 ex w' := by
  have cst := state_cell h
  rw [hst] at cst
  have HC := hide (lookInBang_does c P.rn h (by have := P.size; omega))
  clear h P hst
  go_enter Tryz.func109, Tryz.ntmps109
  go_wp2_with (go_at_call 148; refine (unhide HC).mono ?_; rintro e w1 ⟨rfl, h1⟩)
  go_ret
  exact ⟨rfl, h1⟩

set_option maxHeartbeats 800000 in
set_option maxRecDepth 1000000 in
theorem lookWithinDoctype_inDoctype (c : Int) (P : Pre w0 own0 s c) (hst : s.state = 26) (h : Tk w0 own0 b s ex w) :
    Calls Tryz.prog 110 #[.pointer (some ⟨b, 0, none⟩), .int .i32 c] w fun e w' => e = .returned (.int .i64 (lookInDoctype s c).1) ∧ Tk w0 own0 b (lookInDoctype s c).2 ex w' := by
  have cst := state_cell h
  rw [hst] at cst
  have HC := hide (lookInDoctype_does c P.rn h (by have := P.size; omega))
  clear h P hst
  go_enter Tryz.func110, Tryz.ntmps110
  go_wp2_with (go_at_call 154; refine (unhide HC).mono ?_; rintro e w1 ⟨rfl, h1⟩)
  go_ret
  exact ⟨rfl, h1⟩

set_option maxHeartbeats 800000 in
set_option maxRecDepth 1000000 in
theorem lookWithinDoctype_inKind (c : Int) (P : Pre w0 own0 s c) (hst : s.state = 27) (h : Tk w0 own0 b s ex w) :
    Calls Tryz.prog 110 #[.pointer (some ⟨b, 0, none⟩), .int .i32 c] w fun e w' => e = .returned (.int .i64 (lookInKind s c).1) ∧ Tk w0 own0 b (lookInKind s c).2 ex w' := by
  have cst := state_cell h
  rw [hst] at cst
  have HC := hide (lookInKind_does c P.rn h (by have := P.size; omega))
  clear h P hst
  go_enter Tryz.func110, Tryz.ntmps110
  go_wp2_with (go_at_call 150; refine (unhide HC).mono ?_; rintro e w1 ⟨rfl, h1⟩)
  go_ret
  exact ⟨rfl, h1⟩

set_option maxHeartbeats 800000 in
set_option maxRecDepth 1000000 in
theorem lookWithinDoctype_inKindName (c : Int) (P : Pre w0 own0 s c) (hst : s.state = 28) (h : Tk w0 own0 b s ex w) :
    Calls Tryz.prog 110 #[.pointer (some ⟨b, 0, none⟩), .int .i32 c] w fun e w' => e = .returned (.int .i64 (lookInKindName s c).1) ∧ Tk w0 own0 b (lookInKindName s c).2 ex w' := by
  have cst := state_cell h
  rw [hst] at cst
  have HC := hide (lookInKindName_does c P.rn h (by have := P.size; omega))
  clear h P hst
  go_enter Tryz.func110, Tryz.ntmps110
  go_wp2_with (go_at_call 151; refine (unhide HC).mono ?_; rintro e w1 ⟨rfl, h1⟩)
  go_ret
  exact ⟨rfl, h1⟩

set_option maxHeartbeats 800000 in
set_option maxRecDepth 1000000 in
theorem lookWithinDoctype_inKindEnd (c : Int) (P : Pre w0 own0 s c) (hst : s.state = 29) (h : Tk w0 own0 b s ex w) :
    Calls Tryz.prog 110 #[.pointer (some ⟨b, 0, none⟩), .int .i32 c] w fun e w' => e = .returned (.int .i64 (lookInKindEnd s c).1) ∧ Tk w0 own0 b (lookInKindEnd s c).2 ex w' := by
  have cst := state_cell h
  rw [hst] at cst
  have HC := hide (lookInKindEnd_does c P.rn h (by have := P.size; omega))
  clear h P hst
  go_enter Tryz.func110, Tryz.ntmps110
  go_wp2_with (go_at_call 152; refine (unhide HC).mono ?_; rintro e w1 ⟨rfl, h1⟩)
  go_ret
  exact ⟨rfl, h1⟩

set_option maxHeartbeats 800000 in
set_option maxRecDepth 1000000 in
theorem lookWithinDoctype_inKindRest (c : Int) (P : Pre w0 own0 s c) (hst : s.state = 30) (h : Tk w0 own0 b s ex w) :
    Calls Tryz.prog 110 #[.pointer (some ⟨b, 0, none⟩), .int .i32 c] w fun e w' => e = .returned (.int .i64 (lookInKindRest s c).1) ∧ Tk w0 own0 b (lookInKindRest s c).2 ex w' := by
  have cst := state_cell h
  rw [hst] at cst
  have HC := hide (lookInKindRest_does c P.rn h (by have := P.size; omega))
  clear h P hst
  go_enter Tryz.func110, Tryz.ntmps110
  go_wp2_with (go_at_call 153; refine (unhide HC).mono ?_; rintro e w1 ⟨rfl, h1⟩)
  go_ret
  exact ⟨rfl, h1⟩

set_option maxHeartbeats 800000 in
set_option maxRecDepth 1000000 in
theorem lookWithinReference_inRef (c : Int) (P : Pre w0 own0 s c) (hst : s.state = 31) (h : Tk w0 own0 b s ex w) :
    Calls Tryz.prog 111 #[.pointer (some ⟨b, 0, none⟩), .int .i32 c] w fun e w' => e = .returned (.int .i64 (lookInRef s c).1) ∧ Tk w0 own0 b (lookInRef s c).2 ex w' := by
  have cst := state_cell h
  rw [hst] at cst
  have HC := hide (lookInRef_does c P.rn (P.ref (by rw [hst]; decide)) h (by have := P.size; omega))
  clear h P hst
  go_enter Tryz.func111, Tryz.ntmps111
  go_wp2_with (go_at_call 159; refine (unhide HC).mono ?_; rintro e w1 ⟨rfl, h1⟩)
  go_ret
  exact ⟨rfl, h1⟩

set_option maxHeartbeats 800000 in
set_option maxRecDepth 1000000 in
theorem lookWithinReference_inRefName (c : Int) (P : Pre w0 own0 s c) (hst : s.state = 32) (h : Tk w0 own0 b s ex w) :
    Calls Tryz.prog 111 #[.pointer (some ⟨b, 0, none⟩), .int .i32 c] w fun e w' => e = .returned (.int .i64 (lookInRefName s c).1) ∧ Tk w0 own0 b (lookInRefName s c).2 ex w' := by
  have cst := state_cell h
  rw [hst] at cst
  have HC := hide (lookInRefName_does c P.rn P.base (P.ref (by rw [hst]; decide)) h (by have := P.size; omega))
  clear h P hst
  go_enter Tryz.func111, Tryz.ntmps111
  go_wp2_with (go_at_call 155; refine (unhide HC).mono ?_; rintro e w1 ⟨rfl, h1⟩)
  go_ret
  exact ⟨rfl, h1⟩

set_option maxHeartbeats 800000 in
set_option maxRecDepth 1000000 in
theorem lookWithinReference_inRefUnknown (c : Int) (P : Pre w0 own0 s c) (hst : s.state = 33) (h : Tk w0 own0 b s ex w) :
    Calls Tryz.prog 111 #[.pointer (some ⟨b, 0, none⟩), .int .i32 c] w fun e w' => e = .returned (.int .i64 (lookInRefUnknown s c).1) ∧ Tk w0 own0 b (lookInRefUnknown s c).2 ex w' := by
  have cst := state_cell h
  rw [hst] at cst
  have HC := hide (lookInRefUnknown_does c P.rn (P.ref (by rw [hst]; decide)) h (by have := P.size; omega))
  clear h P hst
  go_enter Tryz.func111, Tryz.ntmps111
  go_wp2_with (go_at_call 156; refine (unhide HC).mono ?_; rintro e w1 ⟨rfl, h1⟩)
  go_ret
  exact ⟨rfl, h1⟩

set_option maxHeartbeats 800000 in
set_option maxRecDepth 1000000 in
theorem lookWithinReference_inRefHash (c : Int) (P : Pre w0 own0 s c) (hst : s.state = 34) (h : Tk w0 own0 b s ex w) :
    Calls Tryz.prog 111 #[.pointer (some ⟨b, 0, none⟩), .int .i32 c] w fun e w' => e = .returned (.int .i64 (lookInRefHash s c).1) ∧ Tk w0 own0 b (lookInRefHash s c).2 ex w' := by
  have cst := state_cell h
  rw [hst] at cst
  have HC := hide (lookInRefHash_does c P.rn (P.ref (by rw [hst]; decide)) h (by have := P.size; omega))
  clear h P hst
  go_enter Tryz.func111, Tryz.ntmps111
  go_wp2_with (go_at_call 157; refine (unhide HC).mono ?_; rintro e w1 ⟨rfl, h1⟩)
  go_ret
  exact ⟨rfl, h1⟩

set_option maxHeartbeats 800000 in
set_option maxRecDepth 1000000 in
theorem lookWithinReference_inRefNumber (c : Int) (P : Pre w0 own0 s c) (hst : s.state = 35) (h : Tk w0 own0 b s ex w) :
    Calls Tryz.prog 111 #[.pointer (some ⟨b, 0, none⟩), .int .i32 c] w fun e w' => e = .returned (.int .i64 (lookInRefNumber s c).1) ∧ Tk w0 own0 b (lookInRefNumber s c).2 ex w' := by
  have cst := state_cell h
  rw [hst] at cst
  have HC := hide (lookInRefNumber_does c P.rn P.base (P.ref (by rw [hst]; decide)) h (by have := P.size; omega))
  clear h P hst
  go_enter Tryz.func111, Tryz.ntmps111
  go_wp2_with (go_at_call 158; refine (unhide HC).mono ?_; rintro e w1 ⟨rfl, h1⟩)
  go_ret
  exact ⟨rfl, h1⟩

end
end Go.Proofs.YtdfmapcnfficlaaGreatDoor

/-
  Code points: one at a time.
-/
import Derived.Test.YtdfmapcnfficlaaGreatDoorPoints
import Derived.Test.YtdfmapcnfficlaaGreatDoorLook
set_option linter.unusedSimpArgs false
set_option linter.unusedVariables false
namespace Go.Proofs.YtdfmapcnfficlaaGreatDoor
open Go Go.RowKit
section
variable {w0 : World} {own0 : Nat → Prop} {b : Nat} {s : TS} {ex : List Item} {w : World} {R : Regs}

def setBehind (s : TS) (c : Int) : TS := { s with behind := c == 13 }
def pass (n : Nat) (s : TS) (c : Int) : TS :=
  if c = 10 ∧ s.behind = true then setBehind s c
  else if c = 13 then lookAtNext n (setBehind s c) 10
  else lookAtNext n (setBehind s c) c

theorem behind_cell (h : Tk w0 own0 b s ex w) : w.cell? ⟨b, 1, none⟩ = some (.bool s.behind) := by
  obtain ⟨R, hR⟩ := h.reg
  have := hR.1.cell 1
  exact this
theorem begun_cell (h : Tk w0 own0 b s ex w) : w.cell? ⟨b, 0, none⟩ = some (.string ⟨s.begun.toArray⟩) := by
  obtain ⟨R, hR⟩ := h.reg
  have := hR.1.cell 0
  exact this
theorem tk_behind (h : Tk w0 own0 b s ex w) (v : Bool) : Tk w0 own0 b { s with behind := v } ex (w.setCell ⟨b, 1, none⟩ (.bool v)) := by
  obtain ⟨⟨R, hR⟩, hk⟩ := h
  exact ⟨⟨R, hR.setCell 1 _ rfl rfl rfl rfl rfl⟩, hk.setCell _ _ hR.ownB⟩
theorem tk_begun (h : Tk w0 own0 b s ex w) (l : Str) : Tk w0 own0 b { s with begun := l } ex (w.setCell ⟨b, 0, none⟩ (.string ⟨l.toArray⟩)) := by
  obtain ⟨⟨R, hR⟩, hk⟩ := h
  exact ⟨⟨R, hR.setCell 0 _ rfl rfl rfl rfl rfl⟩, hk.setCell _ _ hR.ownB⟩

/-- The method value t.lookAtNext. -/
def lookV (b : Nat) : Value := .func (.func 34) #[.pointer (some ⟨b, 0, none⟩)] #[]

/-- What is looked at now may be looked at. -/
structure May (w0 : World) (own0 : Nat → Prop) (n : Nat) (s : TS) (c : Int) : Prop where
  runs : Runs w0 own0 n s c
  place0 : 0 ≤ (lookN n s c).place
  place1 : (lookN n s c).place ≤ 1099511627776

set_option maxHeartbeats 1600000 in
set_option maxRecDepth 1000000 in
theorem pass_does (n : Nat) (c : Int) (hm : ¬ (c = 10 ∧ s.behind = true) → May w0 own0 n (setBehind s c) (if c = 13 then 10 else c)) (h : Tk w0 own0 b s ex w) :
    Calls Tryz.prog 56 #[.pointer (some ⟨b, 0, none⟩), .int .i32 c, lookV b] w fun e w' => e = .returned (.tuple #[]) ∧ Tk w0 own0 b (pass n s c) ex w' := by
  have c1 := behind_cell h
  have f1 := h.frozen
  have H1 := hide (tk_behind h (c == 13))
  unfold lookV
  by_cases h10 : c = 10
  · subst h10
    cases hb : s.behind
    · rw [hb] at c1
      have hm' := hm (by simp [hb])
      have HL := hide (lookAtNext_does (s := setBehind s 10) 10 n hm'.runs hm'.place0 hm'.place1 (tk_behind h (10 == 13)))
      rw [show pass n s 10 = lookAtNext n (setBehind s 10) 10 by simp [pass, hb]]
      clear h hm hm'
      go_enter Tryz.func56, Tryz.ntmps56
      go_wp2_with (go_at_call 34; refine (unhide HL).mono ?_; rintro e w1 ⟨rfl, h1⟩)
      go_end0
      exact ⟨rfl, h1⟩
    · rw [hb] at c1
      rw [show pass n s 10 = setBehind s 10 by simp [pass, hb]]
      clear h hm
      go_enter Tryz.func56, Tryz.ntmps56
      go_wp2
      go_end0
      exact ⟨rfl, unhide H1⟩
  · have e10 : (c == 10) = false := beq_eq_false_iff_ne.2 h10
    have hm' := hm (fun hh => h10 hh.1)
    by_cases h13 : c = 13
    · subst h13
      rw [if_pos rfl] at hm'
      have HL := hide (lookAtNext_does (s := setBehind s 13) 10 n hm'.runs hm'.place0 hm'.place1 (tk_behind h (13 == 13)))
      rw [show pass n s 13 = lookAtNext n (setBehind s 13) 10 by simp [pass]]
      clear h hm hm'
      go_enter Tryz.func56, Tryz.ntmps56
      go_wp2_with (go_at_call 34; refine (unhide HL).mono ?_; rintro e w1 ⟨rfl, h1⟩)
      go_end0
      exact ⟨rfl, h1⟩
    · rw [if_neg h13] at hm'
      have e13 : (c == 13) = false := beq_eq_false_iff_ne.2 h13
      have HL := hide (lookAtNext_does (s := setBehind s c) c n hm'.runs hm'.place0 hm'.place1 (tk_behind h (c == 13)))
      rw [show pass n s c = lookAtNext n (setBehind s c) c by simp [pass, h10, h13]]
      rw [e13] at HL
      clear h hm hm' H1
      go_enter Tryz.func56, Tryz.ntmps56
      go_wp2_with (go_at_call 34; refine (unhide HL).mono ?_; rintro e w1 ⟨rfl, h1⟩)
      go_end0
      exact ⟨rfl, h1⟩
end
end Go.Proofs.YtdfmapcnfficlaaGreatDoor

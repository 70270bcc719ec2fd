/-
  References by number: the end of one.
-/
import Derived.Test.YtdfmapcnfficlaaGreatDoorRefs2
set_option linter.unusedSimpArgs false
set_option linter.unusedVariables false
namespace Go.Proofs.YtdfmapcnfficlaaGreatDoor
open Go Go.RowKit
section
variable {w0 : World} {own0 : Nat → Prop} {b : Nat} {s : TS} {ex : List Item} {w : World} {R : Regs}

def endNumber (s : TS) (p : Int) : TS := addToTarget (if (meaning s.rnum).2 = [] then s else wrongAt s (meaning s.rnum).2 p) (Lib.encodeRune (meaning s.rnum).1)

theorem wrongAt_sz (name : Str) (p : Int) (h : Tk w0 own0 b s ex w) (hs : sz s + 1 ≤ lim) :
    Calls Tryz.prog 204 #[.pointer (some ⟨b, 0, none⟩), .string ⟨name.toArray⟩, .int .i64 p] w fun e w' => e = .returned (.tuple #[]) ∧ Tk w0 own0 b (wrongAt s name p) ex w' :=
  wrongAt_does name p h (by unfold sz at hs; omega)

theorem meaning_names (n : Int) : (meaning n).2 = [] ∨ (meaning n).2 = [110, 117, 108] ∨ (meaning n).2 = [114, 97, 110, 103, 101] ∨ (meaning n).2 = [115, 117, 114, 114, 111, 103, 97, 116, 101] ∨ (meaning n).2 = [110, 111, 110, 101] ∨ (meaning n).2 = [99, 111, 110, 116, 114, 111, 108] := by
  unfold meaning
  repeat' split
  all_goals simp

set_option maxHeartbeats 1600000 in
set_option maxRecDepth 1000000 in
theorem endNumber_does (p : Int) (B : Base w0 own0) (hn : NumOk s) (hat : isValueSt s.rback = true → s.tag.atts ≠ []) (h : Tk w0 own0 b s ex w) (hs : sz s + 32 ≤ lim) :
    Calls Tryz.prog 220 #[.pointer (some ⟨b, 0, none⟩), .int .i64 p] w fun e w' => e = .returned (.tuple #[]) ∧ Tk w0 own0 b (endNumber s p) ex w' := by
  obtain ⟨R, hR⟩ := h.reg
  have c3 := hR.1.cell 24
  simp only [cellsOf] at c3
  have HM := hide (meaningOf_does s.rnum w (B.at h.2) hn.1 hn.2)
  have hl := len_rune (meaning s.rnum).1
  have hnm := meaning_names s.rnum
  unfold endNumber
  have HW := hide (fun x => wrongAt_sz x p h (by omega))
  have HT := hide h
  have HL := hide hl
  have HS := hide hs
  have HA := hide hat
  clear hR h hl hs hat hn
  generalize hm : meaning s.rnum = m at *
  obtain ⟨c, pr⟩ := m
  simp only at *
  rcases hnm with rfl | rfl | rfl | rfl | rfl | rfl
  · rw [if_pos rfl]
    go_enter Tryz.func220, Tryz.ntmps220
    go_wp2_with (go_at_call 252; refine (unhide HM).mono ?_; rintro e w' ⟨rfl, rfl⟩)
    rw [enc_eq]
    refine (addToTarget_does (Lib.encodeRune c) (unhide HA) (unhide HT) (by have := unhide HS; have := unhide HL; omega)).mono ?_
    rintro e w2 ⟨rfl, h2⟩
    go_wp2
    go_end0
    exact ⟨rfl, h2⟩
  all_goals
    rw [if_neg (by decide)]
    go_enter Tryz.func220, Tryz.ntmps220
    go_wp2_with (first
      | (go_at_call 252; refine (unhide HM).mono ?_; rintro e w1 ⟨rfl, rfl⟩)
      | (go_at_call 204; refine (unhide HW _).mono ?_; rintro e w1 ⟨rfl, h1⟩))
    rw [enc_eq]
    refine (addToTarget_does (s := wrongAt s _ p) (Lib.encodeRune c) (fun e => unhide HA e) h1 (by have := unhide HS; have := unhide HL; rw [sz_wrongAt]; omega)).mono ?_
    rintro e w2 ⟨rfl, h2⟩
    go_wp2
    go_end0
    exact ⟨rfl, h2⟩
theorem sz_endNumber (s : TS) (p : Int) : sz (endNumber s p) ≤ sz s + 20 := by
  unfold endNumber
  have h1 := sz_addToTarget (if (meaning s.rnum).2 = [] then s else wrongAt s (meaning s.rnum).2 p) (Lib.encodeRune (meaning s.rnum).1)
  have h2 := len_rune (meaning s.rnum).1
  have h3 : sz (if (meaning s.rnum).2 = [] then s else wrongAt s (meaning s.rnum).2 p) ≤ sz s + 1 := by
    split
    · omega
    · rw [sz_wrongAt]; omega
  omega
theorem endNumber_rback (s : TS) (p : Int) : (endNumber s p).rback = s.rback := by
  unfold endNumber
  rw [addToTarget_rback]
  split <;> rfl
end
end Go.Proofs.YtdfmapcnfficlaaGreatDoor

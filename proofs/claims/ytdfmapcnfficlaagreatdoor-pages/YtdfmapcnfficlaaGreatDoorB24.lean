/-
  References by name: the states.
-/
import Derived.Test.YtdfmapcnfficlaaGreatDoorB23
set_option linter.unusedSimpArgs false
set_option linter.unusedVariables false
namespace Go.Proofs.YtdfmapcnfficlaaGreatDoor
open Go Go.RowKit
section
variable {w0 : World} {own0 : Nat → Prop} {b : Nat} {s : TS} {ex : List Item} {w : World} {R : Regs}

theorem Tk.more {w' : World} (h : Tk w0 own0 b s ex w) (hm : More w w') : Tk w0 own0 b s ex w' := by
  obtain ⟨R, hR⟩ := h.reg
  exact (tkR_more hR hm).tk
theorem More.of_below {w' : World} (h : Below w.heap.size w w') : More w w' := ⟨h.os, h.tape, h.output, h.size, h.block⟩

def lookInRef (s : TS) (c : Int) : Int × TS :=
  if isLetterC c = true ∨ isDigitC c = true then (1, { s with state := 32 })
  else if c = 35 then (0, { setCome s [35] with state := 34 })
  else (1, leaveAsItIs s)

set_option maxHeartbeats 1600000 in
set_option maxRecDepth 1000000 in
theorem lookInRef_does (c : Int) (hc : Rn c) (hr : RefOk s) (h : Tk w0 own0 b s ex w) (hs : sz s + 128 ≤ lim) :
    Calls Tryz.prog 159 #[.pointer (some ⟨b, 0, none⟩), .int .i32 c] w fun e w' => e = .returned (.int .i64 (lookInRef s c).1) ∧ Tk w0 own0 b (lookInRef s c).2 ex w' := by
  have HL := hide (fun w => isLetter_does c w hc)
  have HD := hide (fun w => isDigit_does c w)
  have HT := hide h
  cases hl : isLetterC c
  · rw [hl] at HL
    cases hd : isDigitC c
    · rw [hd] at HD
      by_cases h35 : c = 35
      · subst h35
        have hfin : lookInRef s 35 = (0, { setCome s [35] with state := 34 }) := by simp [lookInRef, hl, hd]
        rw [hfin]
        have c1 := come_cell h
        have f1 := h.frozen
        have H2 := hide (tk_come h [35])
        clear hfin h hs hr
        go_enter Tryz.func159, Tryz.ntmps159
        go_wp2_with (first
          | (go_at_call 191; refine (unhide HL _).mono ?_; rintro e w1 ⟨rfl, rfl⟩)
          | (go_at_call 216; refine (unhide HD _).mono ?_; rintro e w1 ⟨rfl, rfl⟩))
        refine (to_does 34 (unhide H2)).mono ?_
        rintro e w3 ⟨rfl, h3⟩
        go_wp2
        go_ret
        exact ⟨rfl, h3⟩
      · have e35 : (c == 35) = false := beq_eq_false_iff_ne.2 h35
        have hfin : lookInRef s c = (1, leaveAsItIs s) := by simp [lookInRef, hl, hd, h35]
        rw [hfin]
        have HE := hide (leaveAsItIs_does hr.at' h (by have := hr.come; omega))
        clear hfin h hs hr
        go_enter Tryz.func159, Tryz.ntmps159
        go_wp2_with (first
          | (go_at_call 191; refine (unhide HL _).mono ?_; rintro e w1 ⟨rfl, rfl⟩)
          | (go_at_call 216; refine (unhide HD _).mono ?_; rintro e w1 ⟨rfl, rfl⟩)
          | (go_at_call 219; refine (unhide HE).mono ?_; rintro e w3 ⟨rfl, h3⟩))
        go_ret
        exact ⟨rfl, h3⟩
    · rw [hd] at HD
      have hfin : lookInRef s c = (1, { s with state := 32 }) := by simp [lookInRef, hl, hd]
      rw [hfin]
      clear hfin h hs hr
      go_enter Tryz.func159, Tryz.ntmps159
      go_wp2_with (first
        | (go_at_call 191; refine (unhide HL _).mono ?_; rintro e w1 ⟨rfl, rfl⟩)
        | (go_at_call 216; refine (unhide HD _).mono ?_; rintro e w1 ⟨rfl, rfl⟩))
      refine (again_does 32 (unhide HT)).mono ?_
      rintro e w3 ⟨rfl, h3⟩
      go_wp2
      go_ret
      exact ⟨rfl, h3⟩
  · rw [hl] at HL
    have hfin : lookInRef s c = (1, { s with state := 32 }) := by simp [lookInRef, hl]
    rw [hfin]
    clear hfin h hs hr
    go_enter Tryz.func159, Tryz.ntmps159
    go_wp2_with (go_at_call 191; refine (unhide HL _).mono ?_; rintro e w1 ⟨rfl, rfl⟩)
    refine (again_does 32 (unhide HT)).mono ?_
    rintro e w3 ⟨rfl, h3⟩
    go_wp2
    go_ret
    exact ⟨rfl, h3⟩

def lookInRefUnknown (s : TS) (c : Int) : Int × TS :=
  if isLetterC c = true ∨ isDigitC c = true then (0, addToTarget s (Lib.encodeRune c))
  else if c = 59 then (1, { wrong s [117, 110, 107, 110, 111, 119, 110] with state := s.rback })
  else (1, { s with state := s.rback })

set_option maxHeartbeats 1600000 in
set_option maxRecDepth 1000000 in
theorem lookInRefUnknown_does (c : Int) (hc : Rn c) (hr : RefOk s) (h : Tk w0 own0 b s ex w) (hs : sz s + 128 ≤ lim) :
    Calls Tryz.prog 156 #[.pointer (some ⟨b, 0, none⟩), .int .i32 c] w fun e w' => e = .returned (.int .i64 (lookInRefUnknown s c).1) ∧ Tk w0 own0 b (lookInRefUnknown s c).2 ex w' := by
  have HL := hide (fun w => isLetter_does c w hc)
  have HD := hide (fun w => isDigit_does c w)
  have HT := hide h
  have hcv : ∀ w, (convert 21 9 (.int .i32 c)).run Tryz.prog w = .ok (.string ⟨(Lib.encodeRune c).toArray⟩) w := fun w => by
    rw [run_convert_int_string w 21 9 .i32 c (by rw [Tryz.underlying21]; rfl) Tryz.underlying9, enc_eq]
  have HA := hide (addToTarget_does (Lib.encodeRune c) hr.at' h (by have := len_rune c; omega))
  have HS := hide hs
  have c0 := back_cell h
  clear h hs hr
  cases hl : isLetterC c
  · rw [hl] at HL
    cases hd : isDigitC c
    · rw [hd] at HD
      by_cases h59 : c = 59
      · subst h59
        have hfin : lookInRefUnknown s 59 = (1, { wrong s [117, 110, 107, 110, 111, 119, 110] with state := s.rback }) := by simp [lookInRefUnknown, hl, hd]
        rw [hfin]
        clear hfin
        go_enter Tryz.func156, Tryz.ntmps156
        go_wp2_with (first
          | (go_at_call 191; refine (unhide HL _).mono ?_; rintro e w1 ⟨rfl, rfl⟩)
          | (go_at_call 216; refine (unhide HD _).mono ?_; rintro e w1 ⟨rfl, rfl⟩))
        refine (wrong_sz [117, 110, 107, 110, 111, 119, 110] (unhide HT) (by have := unhide HS; omega)).mono ?_
        rintro e w2 ⟨rfl, h2⟩
        have d2 := back_cell h2
        rw [show (wrong s [117, 110, 107, 110, 111, 119, 110]).rback = s.rback from rfl] at d2
        go_wp2_with fail
        refine (again_does s.rback h2).mono ?_
        rintro e w3 ⟨rfl, h3⟩
        go_wp2
        go_ret
        exact ⟨rfl, h3⟩
      · have e59 : (c == 59) = false := beq_eq_false_iff_ne.2 h59
        have hfin : lookInRefUnknown s c = (1, { s with state := s.rback }) := by simp [lookInRefUnknown, hl, hd, h59]
        rw [hfin]
        clear hfin
        go_enter Tryz.func156, Tryz.ntmps156
        go_wp2_with (first
          | (go_at_call 191; refine (unhide HL _).mono ?_; rintro e w1 ⟨rfl, rfl⟩)
          | (go_at_call 216; refine (unhide HD _).mono ?_; rintro e w1 ⟨rfl, rfl⟩))
        refine (again_does s.rback (unhide HT)).mono ?_
        rintro e w3 ⟨rfl, h3⟩
        go_wp2
        go_ret
        exact ⟨rfl, h3⟩
    · rw [hd] at HD
      have hfin : lookInRefUnknown s c = (0, addToTarget s (Lib.encodeRune c)) := by simp [lookInRefUnknown, hl, hd]
      rw [hfin]
      clear hfin
      go_enter Tryz.func156, Tryz.ntmps156
      go_wp2_with (first
        | (go_at_call 191; refine (unhide HL _).mono ?_; rintro e w1 ⟨rfl, rfl⟩)
        | (go_at_call 216; refine (unhide HD _).mono ?_; rintro e w1 ⟨rfl, rfl⟩)
        | (go_at_call 214; refine (unhide HA).mono ?_; rintro e w3 ⟨rfl, h3⟩))
      go_ret
      exact ⟨rfl, h3⟩
  · rw [hl] at HL
    have hfin : lookInRefUnknown s c = (0, addToTarget s (Lib.encodeRune c)) := by simp [lookInRefUnknown, hl]
    rw [hfin]
    clear hfin
    go_enter Tryz.func156, Tryz.ntmps156
    go_wp2_with (first
      | (go_at_call 191; refine (unhide HL _).mono ?_; rintro e w1 ⟨rfl, rfl⟩)
      | (go_at_call 214; refine (unhide HA).mono ?_; rintro e w3 ⟨rfl, h3⟩))
    go_ret
    exact ⟨rfl, h3⟩
end
end Go.Proofs.YtdfmapcnfficlaaGreatDoor

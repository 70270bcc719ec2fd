/-
  Small functions: letters, blanks; states; NUL.
-/
import Derived.Test.YtdfmapcnfficlaaGreatDoorTell2
namespace Go.Proofs.YtdfmapcnfficlaaGreatDoor
open Go Go.RowKit


/-- A code point, or the end. -/
def Rn (c : Int) : Prop := -1 ≤ c ∧ c ≤ 1114111
def lowC (c : Int) : Int := if 65 ≤ c ∧ c ≤ 90 then c + 32 else c
def isBlankC (c : Int) : Bool := c == 9 || c == 10 || c == 12 || c == 32
def isLetterC (c : Int) : Bool := decide ((65 ≤ c ∧ c ≤ 90) ∨ (97 ≤ c ∧ c ≤ 122))

theorem lowC_rn {c : Int} (h : Rn c) : Rn (lowC c) := by unfold lowC Rn at *; split <;> omega

theorem ret_i32 {a b : Int} (h : a = b) : Ending.returned (.int .i32 a) = .returned (.int .i32 b) := by rw [h]

set_option maxHeartbeats 400000 in
theorem low_does (c : Int) (w : World) (h : Rn c) : Calls Tryz.prog 194 #[.int .i32 c] w fun e w' => e = .returned (.int .i32 (lowC c)) ∧ w' = w := by
  obtain ⟨h0, h1⟩ := h
  by_cases h2 : 65 ≤ c
  · by_cases h3 : c ≤ 90
    · go_enter Tryz.func194, Tryz.ntmps194
      go_wp2
      go_ret
      exact ⟨ret_i32 (by unfold lowC; rw [if_pos ⟨h2, h3⟩]; omega), rfl⟩
    · have h3' : 90 < c := by omega
      go_enter Tryz.func194, Tryz.ntmps194
      go_wp2
      go_ret
      exact ⟨ret_i32 (by unfold lowC; rw [if_neg (by omega)]), rfl⟩
  · have h2' : c < 65 := by omega
    go_enter Tryz.func194, Tryz.ntmps194
    go_wp2
    go_ret
    exact ⟨ret_i32 (by unfold lowC; rw [if_neg (by omega)]), rfl⟩

set_option maxHeartbeats 400000 in
theorem isBlank_does (c : Int) (w : World) : Calls Tryz.prog 195 #[.int .i32 c] w fun e w' => e = .returned (.bool (isBlankC c)) ∧ w' = w := by
  by_cases h1 : c = 9
  · subst h1
    go_enter Tryz.func195, Tryz.ntmps195
    go_wp2
    go_ret
    exact ⟨rfl, rfl⟩
  by_cases h2 : c = 10
  · subst h2
    go_enter Tryz.func195, Tryz.ntmps195
    go_wp2
    go_ret
    exact ⟨rfl, rfl⟩
  by_cases h3 : c = 12
  · subst h3
    go_enter Tryz.func195, Tryz.ntmps195
    go_wp2
    go_ret
    exact ⟨rfl, rfl⟩
  have e1 : (c == 9) = false := by simpa using h1
  have e2 : (c == 10) = false := by simpa using h2
  have e3 : (c == 12) = false := by simpa using h3
  go_enter Tryz.func195, Tryz.ntmps195
  go_wp2
  go_ret
  exact ⟨by simp [isBlankC, e1, e2, e3], rfl⟩

set_option maxHeartbeats 400000 in
theorem isLetter_does (c : Int) (w : World) (h : Rn c) : Calls Tryz.prog 191 #[.int .i32 c] w fun e w' => e = .returned (.bool (isLetterC c)) ∧ w' = w := by
  have hl := low_does c w h
  have e : isLetterC c = decide (97 ≤ lowC c ∧ lowC c ≤ 122) := by
    unfold isLetterC lowC
    split <;> (rw [decide_eq_decide]; omega)
  rw [e]
  generalize lowC c = d at *
  have HL := hide hl
  clear hl e
  by_cases h2 : 97 ≤ d
  · by_cases h3 : d ≤ 122
    · go_enter Tryz.func191, Tryz.ntmps191
      go_wp2_with (go_at_call 194; refine (unhide HL).mono ?_; rintro e w' ⟨rfl, rfl⟩)
      go_ret
      exact ⟨by simp [h2, h3], rfl⟩
    · have h3' : 122 < d := by omega
      go_enter Tryz.func191, Tryz.ntmps191
      go_wp2_with (go_at_call 194; refine (unhide HL).mono ?_; rintro e w' ⟨rfl, rfl⟩)
      go_ret
      exact ⟨by simp; omega, rfl⟩
  · have h2' : d < 97 := by omega
    go_enter Tryz.func191, Tryz.ntmps191
    go_wp2_with (go_at_call 194; refine (unhide HL).mono ?_; rintro e w' ⟨rfl, rfl⟩)
    go_ret
    exact ⟨by simp; omega, rfl⟩

section
variable {w0 : World} {own0 : Nat → Prop} {b : Nat} {s : TS} {ex : List Item} {w : World}

set_option maxHeartbeats 400000 in
theorem again_does (q : Int) (h : Tk w0 own0 b s ex w) :
    Calls Tryz.prog 192 #[.pointer (some ⟨b, 0, none⟩), .int .i64 q] w fun e w' => e = .returned (.int .i64 1) ∧ Tk w0 own0 b { s with state := q } ex w' := by
  obtain ⟨⟨R, hR⟩, hk⟩ := h
  have c4 : w.cell? ⟨b, 5, none⟩ = some (.int .i64 s.state) := hR.cell 5
  have hf := hR.frozen
  go_enter Tryz.func192, Tryz.ntmps192
  go_wp2
  go_ret
  exact ⟨rfl, ⟨R, hR.setCell 5 _ rfl rfl rfl rfl rfl⟩, hk.setCell 5 _ hR.ownB⟩

set_option maxHeartbeats 400000 in
theorem leadTo_does (q : Int) (h : Tk w0 own0 b s ex w) :
    Calls Tryz.prog 239 #[.pointer (some ⟨b, 0, none⟩), .int .i64 q] w fun e w' => e = .returned (.int .i64 0) ∧ Tk w0 own0 b { s with base := q, state := q } ex w' := by
  obtain ⟨⟨R, hR⟩, hk⟩ := h
  have c4 : w.cell? ⟨b, 6, none⟩ = some (.int .i64 s.base) := hR.cell 6
  have hf := hR.frozen
  have h1 : Tk w0 own0 b { s with base := q } ex (w.setCell ⟨b, 6, none⟩ (.int .i64 q)) := ⟨⟨R, hR.setCell 6 _ rfl rfl rfl rfl rfl⟩, hk.setCell 6 _ hR.ownB⟩
  go_enter Tryz.func239, Tryz.ntmps239
  go_wp2_with (go_at_call 125; refine (to_does q h1).mono ?_; rintro e w' ⟨rfl, h2⟩)
  go_ret
  exact ⟨rfl, h2⟩

def nulS : Str := [110, 117, 108]
def withoutNulC (c : Int) : Int := if c = 0 then 65533 else c
def withoutNul (s : TS) (c : Int) : TS := if c = 0 then wrong s nulS else s

set_option maxHeartbeats 400000 in
theorem withoutNul_doesR {R : Regs} (c : Int) (h : TkR w0 own0 b s R ex w) (hs : s.told.length ≤ lim) :
    Calls Tryz.prog 127 #[.pointer (some ⟨b, 0, none⟩), .int .i32 c] w fun e w' => ∃ tl ta, e = .returned (.int .i32 (withoutNulC c)) ∧ TkR w0 own0 b (withoutNul s c) { R with told := tl, tattrs := ta } ex w' := by
  have HW := hide (wrong_doesR nulS h hs)
  have HT := hide h
  clear h hs
  by_cases h0 : c = 0
  · subst h0
    go_enter Tryz.func127, Tryz.ntmps127
    go_wp2_with (go_at_call 160; refine (unhide HW).mono ?_; rintro e w' ⟨tl, ta, rfl, h2⟩)
    go_ret
    exact ⟨tl, ta, rfl, h2⟩
  · have e0 : (c == 0) = false := by simpa using h0
    go_enter Tryz.func127, Tryz.ntmps127
    go_wp2
    go_ret
    exact ⟨R.told, R.tattrs, by simp [withoutNulC, h0], by simp only [withoutNul, if_neg h0]; exact unhide HT⟩

theorem withoutNul_does (c : Int) (h : Tk w0 own0 b s ex w) (hs : s.told.length ≤ lim) :
    Calls Tryz.prog 127 #[.pointer (some ⟨b, 0, none⟩), .int .i32 c] w fun e w' => e = .returned (.int .i32 (withoutNulC c)) ∧ Tk w0 own0 b (withoutNul s c) ex w' := by
  obtain ⟨R, hR⟩ := h.reg
  refine (withoutNul_doesR c hR hs).mono ?_
  rintro e w' ⟨tl, ta, rfl, h1⟩
  exact ⟨rfl, h1.tk⟩
end
end Go.Proofs.YtdfmapcnfficlaaGreatDoor

/-
  How much the tokenizer holds, step by step.
-/
import Derived.Test.YtdfmapcnfficlaaGreatDoorComments
namespace Go.Proofs.YtdfmapcnfficlaaGreatDoor
open Go Go.RowKit

theorem sz_tellTok (s : TS) (t : Tok) : sz (tellTok s t) = sz s + 1 := by simp [sz, tellTok]; omega
theorem sz_wrong (s : TS) (n : Str) : sz (wrong s n) = sz s + 1 := sz_tellTok _ _
theorem sz_wrongAt (s : TS) (n : Str) (p : Int) : sz (wrongAt s n p) = sz s + 1 := sz_tellTok _ _
theorem sz_flush (s : TS) : sz (flush s) ≤ sz s := by
  unfold flush
  split
  · exact Nat.le_refl _
  · rename_i h
    have : 0 < s.text.length := by cases hh : s.text with | nil => exact absurd hh h | cons => simp
    simp [sz, tellTok]; omega
theorem sz_tell (s : TS) (t : Tok) : sz (tell s t) ≤ sz s + 1 := by
  have := sz_flush s
  rw [tell, sz_tellTok]; omega
theorem sz_state (s : TS) (q : Int) : sz { s with state := q } = sz s := rfl
theorem sz_withoutNul (s : TS) (c : Int) : sz (withoutNul s c) ≤ sz s + 1 := by
  unfold withoutNul; split
  · rw [sz_wrong]; omega
  · omega
theorem sz_addToComment (s : TS) (l : Str) : sz (addToComment s l) = sz s + l.length := by simp [sz, addToComment]; omega
theorem sz_dropComment (s : TS) : sz { s with comment := [] } ≤ sz s := by simp [sz]
theorem sz_tellComment (s : TS) : sz (tellComment s) ≤ sz s + 1 := by
  have h1 := sz_tell s { kind := 3, text := s.comment }
  have h2 := sz_dropComment (tell s { kind := 3, text := s.comment })
  exact Nat.le_trans h2 h1
theorem sz_endComment (s : TS) : sz (endComment s) ≤ sz s + 1 := sz_tellComment s
theorem sz_cutComment (s : TS) : sz (cutComment s) ≤ sz s + 2 := by
  have h1 := sz_tellComment (wrong s [101, 110, 100, 45, 105, 110, 45, 99, 111, 109, 109, 101, 110, 116])
  rw [sz_wrong] at h1
  unfold cutComment; omega

theorem len_rune (r : Int) : (Lib.encodeRune r).length ≤ 4 := by
  unfold Lib.encodeRune Lib.encodeRuneZ
  repeat' split
  all_goals simp

theorem withoutNulC_rn {c : Int} (h : Rn c) : -2147483648 ≤ withoutNulC c ∧ withoutNulC c ≤ 2147483647 := by
  unfold withoutNulC Rn at *; split <;> omega

theorem withoutNul_comment (s : TS) (c : Int) : (withoutNul s c).comment = s.comment := by unfold withoutNul; split <;> rfl
theorem withoutNul_text (s : TS) (c : Int) : (withoutNul s c).text = s.text := by unfold withoutNul; split <;> rfl
theorem withoutNul_dname (s : TS) (c : Int) : (withoutNul s c).dname = s.dname := by unfold withoutNul; split <;> rfl
theorem withoutNul_tag (s : TS) (c : Int) : (withoutNul s c).tag = s.tag := by unfold withoutNul; split <;> rfl

section
variable {w0 : World} {own0 : Nat → Prop} {b : Nat} {s : TS} {R : Regs} {ex : List Item} {w : World}
theorem tkR_drew (h : TkR w0 own0 b s R ex w) : TkR w0 own0 b s R ex w.drew :=
  ⟨⟨h.1.self, h.1.ownB, ⟨h.1.rows.ok, h.1.rows.nodup, h.1.rows.own⟩, mapOf_kept h.1.map (fun _ _ => rfl), h.1.mapB, h.1.la, h.1.lv, h.1.lt⟩, ⟨h.2.os, h.2.tape, h.2.output, h.2.size, h.2.block⟩⟩
end
end Go.Proofs.YtdfmapcnfficlaaGreatDoor

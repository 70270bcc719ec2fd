/-
  Small functions: letters, blanks; states; NUL.
  Comments.
  How much the tokenizer holds, step by step.
-/
import Derived.Test.YtdfmapcnfficlaaGreatDoorB04
import Derived.Deep.RegionWith
namespace Go.Proofs.YtdfmapcnfficlaaGreatDoor
open Go Go.RowKit


/-- A code point, or the end. -/
def Rn (c : Int) : Prop := -1 ≤ c ∧ c ≤ 1114111
def lowC (c : Int) : Int := if 65 ≤ c ∧ c ≤ 90 then c + 32 else c
def isBlankC (c : Int) : Bool := c == 9 || c == 10 || c == 12 || c == 32
def isLetterC (c : Int) : Bool := decide ((65 ≤ c ∧ c ≤ 90) ∨ (97 ≤ c ∧ c ≤ 122))

theorem lowC_rn {c : Int} (h : Rn c) : Rn (lowC c) := by unfold lowC Rn at *; split <;> omega

theorem ret_i32 {a b : Int} (h : a = b) : Ending.returned (.int .i32 a) = .returned (.int .i32 b) := by rw [h]

set_option maxHeartbeats 400000 in
theorem low_does (c : Int) (w : World) (h : Rn c) : Calls Tryz.prog 194 #[.int .i32 c] w fun e w' => e = .returned (.int .i32 (lowC c)) ∧ w' = w := by
  obtain ⟨h0, h1⟩ := h
  by_cases h2 : 65 ≤ c
  · by_cases h3 : c ≤ 90
    · go_enter Tryz.func194, Tryz.ntmps194
      go_wp2
      go_ret
      exact ⟨ret_i32 (by unfold lowC; rw [if_pos ⟨h2, h3⟩]; omega), rfl⟩
    · have h3' : 90 < c := by omega
      go_enter Tryz.func194, Tryz.ntmps194
      go_wp2
      go_ret
      exact ⟨ret_i32 (by unfold lowC; rw [if_neg (by omega)]), rfl⟩
  · have h2' : c < 65 := by omega
    go_enter Tryz.func194, Tryz.ntmps194
    go_wp2
    go_ret
    exact ⟨ret_i32 (by unfold lowC; rw [if_neg (by omega)]), rfl⟩

set_option maxHeartbeats 400000 in
theorem isBlank_does (c : Int) (w : World) : Calls Tryz.prog 195 #[.int .i32 c] w fun e w' => e = .returned (.bool (isBlankC c)) ∧ w' = w := by
  by_cases h1 : c = 9
  · subst h1
    go_enter Tryz.func195, Tryz.ntmps195
    go_wp2
    go_ret
    exact ⟨rfl, rfl⟩
  by_cases h2 : c = 10
  · subst h2
    go_enter Tryz.func195, Tryz.ntmps195
    go_wp2
    go_ret
    exact ⟨rfl, rfl⟩
  by_cases h3 : c = 12
  · subst h3
    go_enter Tryz.func195, Tryz.ntmps195
    go_wp2
    go_ret
    exact ⟨rfl, rfl⟩
  have e1 : (c == 9) = false := by simpa using h1
  have e2 : (c == 10) = false := by simpa using h2
  have e3 : (c == 12) = false := by simpa using h3
  go_enter Tryz.func195, Tryz.ntmps195
  go_wp2
  go_ret
  exact ⟨by simp [isBlankC, e1, e2, e3], rfl⟩

set_option maxHeartbeats 400000 in
theorem isLetter_does (c : Int) (w : World) (h : Rn c) : Calls Tryz.prog 191 #[.int .i32 c] w fun e w' => e = .returned (.bool (isLetterC c)) ∧ w' = w := by
  have hl := low_does c w h
  have e : isLetterC c = decide (97 ≤ lowC c ∧ lowC c ≤ 122) := by
    unfold isLetterC lowC
    split <;> (rw [decide_eq_decide]; omega)
  rw [e]
  generalize lowC c = d at *
  have HL := hide hl
  clear hl e
  by_cases h2 : 97 ≤ d
  · by_cases h3 : d ≤ 122
    · go_enter Tryz.func191, Tryz.ntmps191
      go_wp2_with (go_at_call 194; refine (unhide HL).mono ?_; rintro e w' ⟨rfl, rfl⟩)
      go_ret
      exact ⟨by simp [h2, h3], rfl⟩
    · have h3' : 122 < d := by omega
      go_enter Tryz.func191, Tryz.ntmps191
      go_wp2_with (go_at_call 194; refine (unhide HL).mono ?_; rintro e w' ⟨rfl, rfl⟩)
      go_ret
      exact ⟨by simp; omega, rfl⟩
  · have h2' : d < 97 := by omega
    go_enter Tryz.func191, Tryz.ntmps191
    go_wp2_with (go_at_call 194; refine (unhide HL).mono ?_; rintro e w' ⟨rfl, rfl⟩)
    go_ret
    exact ⟨by simp; omega, rfl⟩

section
variable {w0 : World} {own0 : Nat → Prop} {b : Nat} {s : TS} {ex : List Item} {w : World}

set_option maxHeartbeats 400000 in
theorem again_does (q : Int) (h : Tk w0 own0 b s ex w) :
    Calls Tryz.prog 192 #[.pointer (some ⟨b, 0, none⟩), .int .i64 q] w fun e w' => e = .returned (.int .i64 1) ∧ Tk w0 own0 b { s with state := q } ex w' := by
  obtain ⟨⟨R, hR⟩, hk⟩ := h
  have c4 : w.cell? ⟨b, 5, none⟩ = some (.int .i64 s.state) := hR.cell 5
  have hf := hR.frozen
  go_enter Tryz.func192, Tryz.ntmps192
  go_wp2
  go_ret
  exact ⟨rfl, ⟨R, hR.setCell 5 _ rfl rfl rfl rfl rfl⟩, hk.setCell 5 _ hR.ownB⟩

set_option maxHeartbeats 400000 in
theorem leadTo_does (q : Int) (h : Tk w0 own0 b s ex w) :
    Calls Tryz.prog 239 #[.pointer (some ⟨b, 0, none⟩), .int .i64 q] w fun e w' => e = .returned (.int .i64 0) ∧ Tk w0 own0 b { s with base := q, state := q } ex w' := by
  obtain ⟨⟨R, hR⟩, hk⟩ := h
  have c4 : w.cell? ⟨b, 6, none⟩ = some (.int .i64 s.base) := hR.cell 6
  have hf := hR.frozen
  have h1 : Tk w0 own0 b { s with base := q } ex (w.setCell ⟨b, 6, none⟩ (.int .i64 q)) := ⟨⟨R, hR.setCell 6 _ rfl rfl rfl rfl rfl⟩, hk.setCell 6 _ hR.ownB⟩
  go_enter Tryz.func239, Tryz.ntmps239
  go_wp2_with (go_at_call 125; refine (to_does q h1).mono ?_; rintro e w' ⟨rfl, h2⟩)
  go_ret
  exact ⟨rfl, h2⟩

def nulS : Str := [110, 117, 108]
def withoutNulC (c : Int) : Int := if c = 0 then 65533 else c
def withoutNul (s : TS) (c : Int) : TS := if c = 0 then wrong s nulS else s

set_option maxHeartbeats 400000 in
theorem withoutNul_doesR {R : Regs} (c : Int) (h : TkR w0 own0 b s R ex w) (hs : s.told.length ≤ lim) :
    Calls Tryz.prog 127 #[.pointer (some ⟨b, 0, none⟩), .int .i32 c] w fun e w' => ∃ tl ta, e = .returned (.int .i32 (withoutNulC c)) ∧ TkR w0 own0 b (withoutNul s c) { R with told := tl, tattrs := ta } ex w' := by
  have HW := hide (wrong_doesR nulS h hs)
  have HT := hide h
  clear h hs
  by_cases h0 : c = 0
  · subst h0
    go_enter Tryz.func127, Tryz.ntmps127
    go_wp2_with (go_at_call 160; refine (unhide HW).mono ?_; rintro e w' ⟨tl, ta, rfl, h2⟩)
    go_ret
    exact ⟨tl, ta, rfl, h2⟩
  · have e0 : (c == 0) = false := by simpa using h0
    go_enter Tryz.func127, Tryz.ntmps127
    go_wp2
    go_ret
    exact ⟨R.told, R.tattrs, by simp [withoutNulC, h0], by simp only [withoutNul, if_neg h0]; exact unhide HT⟩

theorem withoutNul_does (c : Int) (h : Tk w0 own0 b s ex w) (hs : s.told.length ≤ lim) :
    Calls Tryz.prog 127 #[.pointer (some ⟨b, 0, none⟩), .int .i32 c] w fun e w' => e = .returned (.int .i32 (withoutNulC c)) ∧ Tk w0 own0 b (withoutNul s c) ex w' := by
  obtain ⟨R, hR⟩ := h.reg
  refine (withoutNul_doesR c hR hs).mono ?_
  rintro e w' ⟨tl, ta, rfl, h1⟩
  exact ⟨rfl, h1.tk⟩
end
end Go.Proofs.YtdfmapcnfficlaaGreatDoor

namespace Go.Proofs.YtdfmapcnfficlaaGreatDoor
open Go Go.RowKit
section
variable {w0 : World} {own0 : Nat → Prop} {b : Nat} {s : TS} {ex : List Item} {w : World}

theorem strCells_bytes (l : Str) : Lib.strCells ⟨l.toArray⟩ = byteCells l := by simp [Lib.strCells, byteCells]
theorem lim_str {n m : Nat} (h : n + m ≤ lim) : n + m ≤ maxLen ∧ n + m ≤ 140737488355328 := by unfold lim at h; unfold maxLen; omega
theorem size_str (l : Str) : (⟨l.toArray⟩ : ByteArray).size = l.length := by simp [ByteArray.size]

def addToComment (s : TS) (l : Str) : TS := { s with comment := s.comment ++ l }

set_option maxHeartbeats 800000 in
set_option maxRecDepth 1000000 in
theorem addToComment_does (l : Str) (h : Tk w0 own0 b s ex w) (hs : s.comment.length + l.length ≤ lim) :
    Calls Tryz.prog 205 #[.pointer (some ⟨b, 0, none⟩), .string ⟨l.toArray⟩] w fun e w' => e = .returned (.tuple #[]) ∧ Tk w0 own0 b (addToComment s l) ex w' := by
  obtain ⟨R, hR, hk⟩ := h.reg
  have c1 : w.cell? ⟨b, 17, none⟩ = some (.slice R.comment.a s.comment.length R.comment.cap) := hR.cell 17
  have hf := hR.frozen
  obtain ⟨i0, hi, hz0, hz1, hz2⟩ := info_parts Tryz.infoByte
  have HS := hide (lim_str hs)
  clear hs
  go_enter Tryz.func205, Tryz.ntmps205
  go_wp2_with (at_builtin; refine wpList_append_mine_str _ rfl _ _ 74 9 rfl 5 i0 Tryz.underlying74 Tryz.underlying9 hi hz0 hz1 hz2 R.comment.a s.comment.length R.comment.cap (byteCells s.comment) rfl (by exact hR.rows.ok (bItem R.comment s.comment) (by simp [itemsOf])) ⟨l.toArray⟩ rfl (by rw [size_str]; exact (unhide HS).1) (by rw [size_str]; exact (unhide HS).2) ?next)
  case next =>
    intro ao' cap' w' hown hgrow hfresh
    rw [strCells_bytes] at hown
    obtain ⟨hself, hT⟩ := hR.comment_grow hk (More.refl w) (s.comment ++ l) ⟨ao', cap'⟩ (by simpa [Item.ok, bItem, byteCells] using hown) hgrow hfresh
    have d1 := cell_of_self hself 17
    have df := frozen_of_self hself
    simp only [List.length_append] at hT
    simp only [cellsOf] at d1
    go_wp2
    go_end0
    exact ⟨rfl, hT⟩

def tellComment (s : TS) : TS := { tell s { kind := 3, text := s.comment } with comment := [] }
def endComment (s : TS) : TS := { tellComment s with state := 0 }
def cutComment (s : TS) : TS := tellComment (wrong s [101, 110, 100, 45, 105, 110, 45, 99, 111, 109, 109, 101, 110, 116])

set_option maxHeartbeats 800000 in
set_option maxRecDepth 1000000 in
theorem tellComment_does (h : Tk w0 own0 b s ex w) (hs : sz s + 2 ≤ lim) :
    Calls Tryz.prog 207 #[.pointer (some ⟨b, 0, none⟩)] w fun e w' => e = .returned (.tuple #[]) ∧ Tk w0 own0 b (tellComment s) ex w' := by
  obtain ⟨R, hR, hk⟩ := h.reg
  have c1 : w.cell? ⟨b, 17, none⟩ = some (.slice R.comment.a s.comment.length R.comment.cap) := hR.cell 17
  have hf := hR.frozen
  have hcv := conv_row (r := R.comment) (l := s.comment) (hR.rows.ok (bItem R.comment s.comment) (by simp [itemsOf]))
  have HC := hide (tell_does (ex := ex) { kind := 3, text := s.comment } ⟨none, 0⟩ (TkR.tk ⟨hR.bare, hk⟩) (by unfold sz at hs; omega))
  simp only [tokCells] at HC
  clear hs
  go_enter Tryz.func207, Tryz.ntmps207
  go_wp2_with (go_at_call 37; refine (unhide HC).mono ?_; rintro e w' ⟨rfl, h1⟩; obtain ⟨R1, hR1⟩ := h1.reg; have d1 := hR1.1.cell 17; have df := hR1.1.frozen; simp only [cellsOf] at d1)
  go_end0
  exact ⟨rfl, tk_drop_comment h1⟩
end
end Go.Proofs.YtdfmapcnfficlaaGreatDoor

namespace Go.Proofs.YtdfmapcnfficlaaGreatDoor
open Go Go.RowKit

theorem sz_tellTok (s : TS) (t : Tok) : sz (tellTok s t) = sz s + 1 := by simp [sz, tellTok]; omega
theorem sz_wrong (s : TS) (n : Str) : sz (wrong s n) = sz s + 1 := sz_tellTok _ _
theorem sz_wrongAt (s : TS) (n : Str) (p : Int) : sz (wrongAt s n p) = sz s + 1 := sz_tellTok _ _
theorem sz_flush (s : TS) : sz (flush s) ≤ sz s := by
  unfold flush
  split
  · exact Nat.le_refl _
  · rename_i h
    have : 0 < s.text.length := by cases hh : s.text with | nil => exact absurd hh h | cons => simp
    simp [sz, tellTok]; omega
theorem sz_tell (s : TS) (t : Tok) : sz (tell s t) ≤ sz s + 1 := by
  have := sz_flush s
  rw [tell, sz_tellTok]; omega
theorem sz_state (s : TS) (q : Int) : sz { s with state := q } = sz s := rfl
theorem sz_withoutNul (s : TS) (c : Int) : sz (withoutNul s c) ≤ sz s + 1 := by
  unfold withoutNul; split
  · rw [sz_wrong]; omega
  · omega
theorem sz_addToComment (s : TS) (l : Str) : sz (addToComment s l) = sz s + l.length := by simp [sz, addToComment]; omega
theorem sz_dropComment (s : TS) : sz { s with comment := [] } ≤ sz s := by simp [sz]
theorem sz_tellComment (s : TS) : sz (tellComment s) ≤ sz s + 1 := by
  have h1 := sz_tell s { kind := 3, text := s.comment }
  have h2 := sz_dropComment (tell s { kind := 3, text := s.comment })
  exact Nat.le_trans h2 h1
theorem sz_endComment (s : TS) : sz (endComment s) ≤ sz s + 1 := sz_tellComment s
theorem sz_cutComment (s : TS) : sz (cutComment s) ≤ sz s + 2 := by
  have h1 := sz_tellComment (wrong s [101, 110, 100, 45, 105, 110, 45, 99, 111, 109, 109, 101, 110, 116])
  rw [sz_wrong] at h1
  unfold cutComment; omega

theorem len_rune (r : Int) : (Lib.encodeRune r).length ≤ 4 := by
  unfold Lib.encodeRune Lib.encodeRuneZ
  repeat' split
  all_goals simp

theorem withoutNulC_rn {c : Int} (h : Rn c) : -2147483648 ≤ withoutNulC c ∧ withoutNulC c ≤ 2147483647 := by
  unfold withoutNulC Rn at *; split <;> omega

theorem withoutNul_comment (s : TS) (c : Int) : (withoutNul s c).comment = s.comment := by unfold withoutNul; split <;> rfl
theorem withoutNul_text (s : TS) (c : Int) : (withoutNul s c).text = s.text := by unfold withoutNul; split <;> rfl
theorem withoutNul_dname (s : TS) (c : Int) : (withoutNul s c).dname = s.dname := by unfold withoutNul; split <;> rfl
theorem withoutNul_tag (s : TS) (c : Int) : (withoutNul s c).tag = s.tag := by unfold withoutNul; split <;> rfl

section
variable {w0 : World} {own0 : Nat → Prop} {b : Nat} {s : TS} {R : Regs} {ex : List Item} {w : World}
theorem tkR_drew (h : TkR w0 own0 b s R ex w) : TkR w0 own0 b s R ex w.drew :=
  ⟨⟨h.1.self, h.1.ownB, ⟨h.1.rows.ok, h.1.rows.nodup, h.1.rows.own⟩, mapOf_kept h.1.map (fun _ _ => rfl), h.1.mapB, h.1.la, h.1.lv, h.1.lt⟩, ⟨h.2.os, h.2.tape, h.2.output, h.2.size, h.2.block⟩⟩
end
end Go.Proofs.YtdfmapcnfficlaaGreatDoor

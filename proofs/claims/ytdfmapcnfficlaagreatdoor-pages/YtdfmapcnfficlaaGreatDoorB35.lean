/-
  How much a look adds.
-/
import Derived.Test.YtdfmapcnfficlaaGreatDoorB34
set_option linter.unusedSimpArgs false
set_option linter.unusedVariables false
namespace Go.Proofs.YtdfmapcnfficlaaGreatDoor
open Go Go.RowKit

theorem le_step {a b k m N : Nat} (h : a ≤ b + k) (h2 : b + (k + m) ≤ N) : a + m ≤ N := by omega
theorem le_begin {a N : Nat} (h : a + 0 ≤ N) : a ≤ N := h
theorem sz_st (s : TS) (q : Int) : sz { s with state := q } ≤ sz s + 0 := Nat.le_refl _
theorem sz_wrong' (s : TS) (n : Str) : sz (wrong s n) ≤ sz s + 1 := Nat.le_of_eq (sz_wrong s n)
theorem sz_wrongAt' (s : TS) (n : Str) (p : Int) : sz (wrongAt s n p) ≤ sz s + 1 := Nat.le_of_eq (sz_wrongAt s n p)
theorem sz_addText' (s : TS) (l : Str) : sz (addText s l) ≤ sz s + l.length := Nat.le_of_eq (sz_addText s l)
theorem sz_addText4 (s : TS) (c : Int) : sz (addText s (Lib.encodeRune c)) ≤ sz s + 4 := by have := len_rune c; rw [sz_addText]; omega
theorem sz_addToComment' (s : TS) (l : Str) : sz (addToComment s l) ≤ sz s + l.length := Nat.le_of_eq (sz_addToComment s l)
theorem sz_addToComment4 (s : TS) (c : Int) : sz (addToComment s (Lib.encodeRune c)) ≤ sz s + 4 := by have := len_rune c; rw [sz_addToComment]; omega
theorem sz_putComment (s : TS) (c : Int) : sz (putComment s c) ≤ sz s + 5 := by
  unfold putComment
  exact le_begin (le_step (sz_addToComment4 _ _) (le_step (sz_withoutNul s c) (by omega)))
theorem sz_addToName (s : TS) (c : Int) : sz (addToName s c) ≤ sz s + 4 := by
  have h1 := attsz_upd (fun a => { a with name := a.name ++ Lib.encodeRune c }) 4 (fun a => by have := len_rune c; simp; omega) s.tag.atts
  have h2 := updLast_length (fun a => { a with name := a.name ++ Lib.encodeRune c }) s.tag.atts
  simp only [sz, addToName] at *
  omega
theorem sz_endName (s : TS) : sz (endName s) ≤ sz s + 2 := by
  unfold endName nameIsNew
  split
  · have h1 := attsz_upd (fun a => { a with twice := true }) 0 (fun a => by simp) s.tag.atts
    have h2 := updLast_length (fun a => { a with twice := true }) s.tag.atts
    simp only [sz, wrong, wrongAt, tellTok, List.length_append, List.length_cons, List.length_nil] at *
    omega
  · simp only [sz, Option.getD_some, List.length_append, List.length_cons, List.length_nil]
    omega
theorem sz_dropTag (s : TS) : sz (dropTag s) ≤ sz s + 1 := by
  simp [sz, dropTag, wrong, wrongAt, tellTok, attsz]
  omega
theorem sz_newTag (s : TS) (k : Int) : sz { s with tag := { kind := k } } ≤ sz s + 0 := by
  simp [sz, attsz]
  omega
theorem sz_closes (s : TS) : sz { s with tag := { s.tag with closes := true } } ≤ sz s + 0 := Nat.le_refl _
theorem sz_newAtt' (s : TS) : sz (newAtt s) ≤ sz s + 1 := Nat.le_of_eq (sz_newAtt s)
theorem sz_tellTag (s : TS) : sz (tellTag s) ≤ sz s + 4 := by
  have h0 := sz_tagS s
  unfold tellTag
  split
  · have h1 := sz_tell (tagS s) { kind := 1, name := s.tag.name, attrs := attrsOf s.tag.atts, flag := s.tag.closes }
    have h2 : sz (startTag s) = sz (tell (tagS s) { kind := 1, name := s.tag.name, attrs := attrsOf s.tag.atts, flag := s.tag.closes }) := rfl
    omega
  · unfold endTag
    have e : ∀ x : TS, sz { tell x { kind := 2, name := s.tag.name } with base := 0, state := 0 } = sz (tell x { kind := 2, name := s.tag.name }) := fun x => rfl
    rw [e]
    refine Nat.le_trans (sz_tell _ _) ?_
    have k1 : sz (if s.tag.atts = [] then tagS s else wrong (tagS s) [101, 110, 100, 45, 97, 116, 116, 114, 105, 98, 117, 116, 101, 115]) ≤ sz s + 1 := by
      split
      · omega
      · rw [sz_wrong]; omega
    generalize (if s.tag.atts = [] then tagS s else wrong (tagS s) [101, 110, 100, 45, 97, 116, 116, 114, 105, 98, 117, 116, 101, 115]) = s1 at *
    have k2 : sz (if s.tag.closes = true then wrong s1 [101, 110, 100, 45, 115, 108, 97, 115, 104] else s1) ≤ sz s1 + 1 := by
      split
      · rw [sz_wrong]; omega
      · omega
    dsimp only at *
    omega
theorem sz_putTag (s : TS) (c : Int) : sz (putTag s c) ≤ sz s + 5 := by
  have h1 := sz_withoutNul s c
  have h2 := len_rune (lowC (withoutNulC c))
  have h3 : (withoutNul s c).tag = s.tag := withoutNul_tag s c
  simp only [sz, putTag, h3, List.length_append] at *
  omega
theorem sz_putText (s : TS) (c : Int) : sz (putText s c) ≤ sz s + 5 := by
  have h1 := sz_withoutNul s c
  have h2 := len_rune (withoutNulC c)
  have h3 : (withoutNul s c).text = s.text := withoutNul_text s c
  simp only [sz, putText, h3, List.length_append] at *
  omega
theorem sz_lessName (s : TS) (c : Int) : sz (lessName s c) ≤ sz s + 8 := by
  have h1 := len_rune (lowC c)
  have h2 := len_rune c
  simp only [sz, lessName, List.length_append]
  omega
theorem sz_toReference (s : TS) : sz (toReference s) ≤ sz s + 0 := by
  simp [sz, toReference, zeroRef]
theorem sz_odd (s : TS) : sz { s with odd := true } ≤ sz s + 0 := Nat.le_refl _
theorem sz_endDoctype (s : TS) : sz (endDoctype s) ≤ sz s + 1 := sz_tellDoctype s
theorem sz_cutDoctype (s : TS) : sz (cutDoctype s) ≤ sz s + 2 := by
  unfold cutDoctype
  exact le_begin (le_step (sz_tellDoctype _) (le_step (sz_odd _) (le_step (sz_wrong' _ _) (by omega))))
theorem sz_lessBack (s : TS) : sz (addText { s with tag := {} } ([60, 47] ++ s.tag.buffer)) ≤ sz s + 2 := by
  rw [sz_addText]
  simp [sz, attsz]
  omega
theorem sz_addDigit (s : TS) (c : Int) : sz (addDigit s c) ≤ sz s + 0 := Nat.le_refl _
theorem sz_setCome (s : TS) (c : Int) : sz (setCome s (s.rcome ++ Lib.encodeRune c)) ≤ sz s + 4 := by
  have := len_rune c
  simp only [sz, setCome, List.length_append]
  omega
theorem sz_six (s : TS) : sz { s with rsix := true } ≤ sz s + 0 := Nat.le_refl _
theorem sz_setHash (s : TS) : sz (setCome s [35]) ≤ sz s + 1 := by
  simp [sz, setCome]
  omega
theorem sz_declare (s : TS) (c : Int) : sz { s with declared := s.declared ++ Lib.encodeRune c } ≤ sz s + 4 := by
  have := len_rune c
  simp only [sz, List.length_append]
  omega
theorem sz_noDecl' (s : TS) : sz (noDecl s) ≤ sz s + 0 := sz_noDecl s
theorem sz_addToTarget4 (s : TS) (c : Int) : sz (addToTarget s (Lib.encodeRune c)) ≤ sz s + 16 := by have := len_rune c; have := sz_addToTarget s (Lib.encodeRune c); omega

def AddsN (t s : TS) (n : Nat) : Prop := sz t ≤ sz s + 40 * n
theorem AddsN.rfl' (s : TS) (n : Nat) : AddsN s s n := by unfold AddsN; omega
theorem AddsN.step {t u s : TS} {k n : Nat} (h : sz t ≤ sz u + k) (hk : k ≤ 40) (h2 : AddsN u s n) : AddsN t s (n + 1) := by unfold AddsN at *; omega
theorem AddsN.st (t s : TS) (q : Int) (n : Nat) : AddsN { t with state := q } s n ↔ AddsN t s n := Iff.rfl
theorem AddsN.out {t s : TS} (h : AddsN t s 3) : sz t ≤ sz s + 128 := by unfold AddsN at h; omega

section
variable {s : TS} {c : Int}
theorem sz_inData : sz (lookInData s c).2 ≤ sz s + 128 := by
  unfold lookInData
  repeat' split
  · show sz s ≤ sz s + 128
    omega
  · have := sz_toReference s 
    show sz (toReference s ) ≤ sz s + 128
    omega
  · have : sz ({ s with state := 3 } : TS) = sz (s) := rfl
    show sz ({ s with state := 3 } : TS) ≤ sz s + 128
    omega
  · have := sz_wrong' s ([110, 117, 108])
    have := sz_addText' ((wrong s ([110, 117, 108]))) (Lib.encodeRune c)
    have := len_rune c
    show sz (addText ((wrong s ([110, 117, 108]))) (Lib.encodeRune c)) ≤ sz s + 128
    omega
  · have := sz_addText' s (Lib.encodeRune c)
    have := len_rune c
    show sz (addText s (Lib.encodeRune c)) ≤ sz s + 128
    omega

theorem sz_inTitle : sz (lookInTitle s c).2 ≤ sz s + 128 := by
  unfold lookInTitle
  repeat' split
  · show sz s ≤ sz s + 128
    omega
  · have := sz_toReference s 
    show sz (toReference s ) ≤ sz s + 128
    omega
  · have : sz ({ s with state := 5 } : TS) = sz (s) := rfl
    show sz ({ s with state := 5 } : TS) ≤ sz s + 128
    omega
  · have := sz_putText s (c)
    show sz (putText s (c)) ≤ sz s + 128
    omega

theorem sz_inRaw : sz (lookInRaw s c).2 ≤ sz s + 128 := by
  unfold lookInRaw
  repeat' split
  · show sz s ≤ sz s + 128
    omega
  · have := sz_putText s (c)
    show sz (putText s (c)) ≤ sz s + 128
    omega
  · have : sz ({ s with state := 5 } : TS) = sz (s) := rfl
    show sz ({ s with state := 5 } : TS) ≤ sz s + 128
    omega
  · have := sz_putText s (c)
    show sz (putText s (c)) ≤ sz s + 128
    omega

theorem sz_inOpen : sz (lookInOpen s c).2 ≤ sz s + 128 := by
  unfold lookInOpen
  repeat' split
  · have : sz ({ s with state := 18 } : TS) = sz (s) := rfl
    show sz ({ s with state := 18 } : TS) ≤ sz s + 128
    omega
  · have : sz ({ s with state := 4 } : TS) = sz (s) := rfl
    show sz ({ s with state := 4 } : TS) ≤ sz s + 128
    omega
  · have : sz ({ s with tag := { kind := 1 } } : TS) ≤ sz (s) + 0 := sz_newTag _ _
    have : sz ({ ({ s with tag := { kind := 1 } } : TS) with state := 8 } : TS) = sz (({ s with tag := { kind := 1 } } : TS)) := rfl
    show sz ({ ({ s with tag := { kind := 1 } } : TS) with state := 8 } : TS) ≤ sz s + 128
    omega
  · have := sz_wrong' s ([113, 117, 101, 115, 116, 105, 111, 110])
    have : sz ({ (wrong s ([113, 117, 101, 115, 116, 105, 111, 110])) with state := 19 } : TS) = sz ((wrong s ([113, 117, 101, 115, 116, 105, 111, 110]))) := rfl
    show sz ({ (wrong s ([113, 117, 101, 115, 116, 105, 111, 110])) with state := 19 } : TS) ≤ sz s + 128
    omega
  · have := sz_wrong' s ([101, 110, 100, 45, 105, 110, 45, 116, 97, 103])
    have := sz_addText' ((wrong s ([101, 110, 100, 45, 105, 110, 45, 116, 97, 103]))) ([60])
    have : ([60] : Str).length ≤ 40 := by decide
    show sz (addText ((wrong s ([101, 110, 100, 45, 105, 110, 45, 116, 97, 103]))) ([60])) ≤ sz s + 128
    omega
  · have := sz_wrong' s ([102, 105, 114, 115, 116])
    have := sz_addText' ((wrong s ([102, 105, 114, 115, 116]))) ([60])
    have : ([60] : Str).length ≤ 40 := by decide
    have : sz ({ (addText ((wrong s ([102, 105, 114, 115, 116]))) ([60])) with state := 0 } : TS) = sz ((addText ((wrong s ([102, 105, 114, 115, 116]))) ([60]))) := rfl
    show sz ({ (addText ((wrong s ([102, 105, 114, 115, 116]))) ([60])) with state := 0 } : TS) ≤ sz s + 128
    omega

theorem sz_inClose : sz (lookInClose s c).2 ≤ sz s + 128 := by
  unfold lookInClose
  repeat' split
  · have : sz ({ s with tag := { kind := 2 } } : TS) ≤ sz (s) + 0 := sz_newTag _ _
    have : sz ({ ({ s with tag := { kind := 2 } } : TS) with state := 8 } : TS) = sz (({ s with tag := { kind := 2 } } : TS)) := rfl
    show sz ({ ({ s with tag := { kind := 2 } } : TS) with state := 8 } : TS) ≤ sz s + 128
    omega
  · have := sz_wrong' s ([110, 111, 45, 110, 97, 109, 101])
    have : sz ({ (wrong s ([110, 111, 45, 110, 97, 109, 101])) with state := 0 } : TS) = sz ((wrong s ([110, 111, 45, 110, 97, 109, 101]))) := rfl
    show sz ({ (wrong s ([110, 111, 45, 110, 97, 109, 101])) with state := 0 } : TS) ≤ sz s + 128
    omega
  · have := sz_wrong' s ([101, 110, 100, 45, 105, 110, 45, 116, 97, 103])
    have := sz_addText' ((wrong s ([101, 110, 100, 45, 105, 110, 45, 116, 97, 103]))) ([60, 47])
    have : ([60, 47] : Str).length ≤ 40 := by decide
    show sz (addText ((wrong s ([101, 110, 100, 45, 105, 110, 45, 116, 97, 103]))) ([60, 47])) ≤ sz s + 128
    omega
  · have := sz_wrong' s ([102, 105, 114, 115, 116])
    have : sz ({ (wrong s ([102, 105, 114, 115, 116])) with state := 19 } : TS) = sz ((wrong s ([102, 105, 114, 115, 116]))) := rfl
    show sz ({ (wrong s ([102, 105, 114, 115, 116])) with state := 19 } : TS) ≤ sz s + 128
    omega

theorem sz_inTag : sz (lookInTag s c).2 ≤ sz s + 128 := by
  unfold lookInTag
  repeat' split
  · have : sz ({ s with state := 9 } : TS) = sz (s) := rfl
    show sz ({ s with state := 9 } : TS) ≤ sz s + 128
    omega
  · have : sz ({ s with state := 17 } : TS) = sz (s) := rfl
    show sz ({ s with state := 17 } : TS) ≤ sz s + 128
    omega
  · have := sz_tellTag s 
    show sz (tellTag s ) ≤ sz s + 128
    omega
  · have := sz_dropTag s 
    show sz (dropTag s ) ≤ sz s + 128
    omega
  · have := sz_putTag s (c)
    show sz (putTag s (c)) ≤ sz s + 128
    omega

theorem sz_inAttr : sz (lookInAttr s c).2 ≤ sz s + 128 := by
  unfold lookInAttr
  repeat' split
  · show sz s ≤ sz s + 128
    omega
  · have : sz ({ s with state := 11 } : TS) = sz (s) := rfl
    show sz ({ s with state := 11 } : TS) ≤ sz s + 128
    omega
  · have := sz_wrong' s ([101, 113, 117, 97, 108, 115])
    have := sz_newAtt' ((wrong s ([101, 113, 117, 97, 108, 115]))) 
    have := sz_addToName ((newAtt ((wrong s ([101, 113, 117, 97, 108, 115]))) )) (61)
    have : sz ({ (addToName ((newAtt ((wrong s ([101, 113, 117, 97, 108, 115]))) )) (61)) with state := 10 } : TS) = sz ((addToName ((newAtt ((wrong s ([101, 113, 117, 97, 108, 115]))) )) (61))) := rfl
    show sz ({ (addToName ((newAtt ((wrong s ([101, 113, 117, 97, 108, 115]))) )) (61)) with state := 10 } : TS) ≤ sz s + 128
    omega
  · have := sz_newAtt' s 
    have : sz ({ (newAtt s ) with state := 10 } : TS) = sz ((newAtt s )) := rfl
    show sz ({ (newAtt s ) with state := 10 } : TS) ≤ sz s + 128
    omega

theorem sz_inName : sz (lookInName s c).2 ≤ sz s + 128 := by
  unfold lookInName
  repeat' split
  · have := sz_endName s 
    have : sz ({ (endName s ) with state := 11 } : TS) = sz ((endName s )) := rfl
    show sz ({ (endName s ) with state := 11 } : TS) ≤ sz s + 128
    omega
  · have := sz_endName s 
    have : sz ({ (endName s ) with state := 12 } : TS) = sz ((endName s )) := rfl
    show sz ({ (endName s ) with state := 12 } : TS) ≤ sz s + 128
    omega
  · have := sz_wrong' s ([115, 105, 103, 110])
    have := sz_withoutNul ((wrong s ([115, 105, 103, 110]))) (c)
    have := sz_addToName ((withoutNul ((wrong s ([115, 105, 103, 110]))) (c))) (lowC (withoutNulC c))
    show sz (addToName ((withoutNul ((wrong s ([115, 105, 103, 110]))) (c))) (lowC (withoutNulC c))) ≤ sz s + 128
    omega
  · have := sz_withoutNul s (c)
    have := sz_addToName ((withoutNul s (c))) (lowC (withoutNulC c))
    show sz (addToName ((withoutNul s (c))) (lowC (withoutNulC c))) ≤ sz s + 128
    omega

theorem sz_inAfter : sz (lookInAfter s c).2 ≤ sz s + 128 := by
  unfold lookInAfter
  repeat' split
  · show sz s ≤ sz s + 128
    omega
  · have : sz ({ s with state := 17 } : TS) = sz (s) := rfl
    show sz ({ s with state := 17 } : TS) ≤ sz s + 128
    omega
  · have : sz ({ s with state := 12 } : TS) = sz (s) := rfl
    show sz ({ s with state := 12 } : TS) ≤ sz s + 128
    omega
  · have := sz_tellTag s 
    show sz (tellTag s ) ≤ sz s + 128
    omega
  · have := sz_dropTag s 
    show sz (dropTag s ) ≤ sz s + 128
    omega
  · have := sz_newAtt' s 
    have : sz ({ (newAtt s ) with state := 10 } : TS) = sz ((newAtt s )) := rfl
    show sz ({ (newAtt s ) with state := 10 } : TS) ≤ sz s + 128
    omega

theorem sz_inEquals : sz (lookInEquals s c).2 ≤ sz s + 128 := by
  unfold lookInEquals
  repeat' split
  · show sz s ≤ sz s + 128
    omega
  · have : sz ({ s with state := 13 } : TS) = sz (s) := rfl
    show sz ({ s with state := 13 } : TS) ≤ sz s + 128
    omega
  · have : sz ({ s with state := 14 } : TS) = sz (s) := rfl
    show sz ({ s with state := 14 } : TS) ≤ sz s + 128
    omega
  · have := sz_wrong' s ([110, 111, 45, 118, 97, 108, 117, 101])
    have := sz_tellTag ((wrong s ([110, 111, 45, 118, 97, 108, 117, 101]))) 
    show sz (tellTag ((wrong s ([110, 111, 45, 118, 97, 108, 117, 101]))) ) ≤ sz s + 128
    omega
  · have : sz ({ s with state := 15 } : TS) = sz (s) := rfl
    show sz ({ s with state := 15 } : TS) ≤ sz s + 128
    omega

theorem sz_inDouble : sz (lookInDouble s c).2 ≤ sz s + 128 := by
  unfold lookInDouble
  repeat' split
  · have : sz ({ s with state := 16 } : TS) = sz (s) := rfl
    show sz ({ s with state := 16 } : TS) ≤ sz s + 128
    omega
  · have := sz_toReference s 
    show sz (toReference s ) ≤ sz s + 128
    omega
  · have := sz_dropTag s 
    show sz (dropTag s ) ≤ sz s + 128
    omega
  · have := sz_withoutNul s (c)
    have := sz_addToValue ((withoutNul s (c))) (withoutNulC c)
    show sz (addToValue ((withoutNul s (c))) (withoutNulC c)) ≤ sz s + 128
    omega

theorem sz_inSingle : sz (lookInSingle s c).2 ≤ sz s + 128 := by
  unfold lookInSingle
  repeat' split
  · have : sz ({ s with state := 16 } : TS) = sz (s) := rfl
    show sz ({ s with state := 16 } : TS) ≤ sz s + 128
    omega
  · have := sz_toReference s 
    show sz (toReference s ) ≤ sz s + 128
    omega
  · have := sz_dropTag s 
    show sz (dropTag s ) ≤ sz s + 128
    omega
  · have := sz_withoutNul s (c)
    have := sz_addToValue ((withoutNul s (c))) (withoutNulC c)
    show sz (addToValue ((withoutNul s (c))) (withoutNulC c)) ≤ sz s + 128
    omega

theorem sz_inPlain : sz (lookInPlain s c).2 ≤ sz s + 128 := by
  unfold lookInPlain
  repeat' split
  · have : sz ({ s with state := 9 } : TS) = sz (s) := rfl
    show sz ({ s with state := 9 } : TS) ≤ sz s + 128
    omega
  · have := sz_toReference s 
    show sz (toReference s ) ≤ sz s + 128
    omega
  · have := sz_tellTag s 
    show sz (tellTag s ) ≤ sz s + 128
    omega
  · have := sz_dropTag s 
    show sz (dropTag s ) ≤ sz s + 128
    omega
  · have := sz_wrong' s ([115, 105, 103, 110])
    have := sz_withoutNul ((wrong s ([115, 105, 103, 110]))) (c)
    have := sz_addToValue ((withoutNul ((wrong s ([115, 105, 103, 110]))) (c))) (withoutNulC c)
    show sz (addToValue ((withoutNul ((wrong s ([115, 105, 103, 110]))) (c))) (withoutNulC c)) ≤ sz s + 128
    omega
  · have := sz_withoutNul s (c)
    have := sz_addToValue ((withoutNul s (c))) (withoutNulC c)
    show sz (addToValue ((withoutNul s (c))) (withoutNulC c)) ≤ sz s + 128
    omega

theorem sz_inValue : sz (lookInValue s c).2 ≤ sz s + 128 := by
  unfold lookInValue
  repeat' split
  · have : sz ({ s with state := 9 } : TS) = sz (s) := rfl
    show sz ({ s with state := 9 } : TS) ≤ sz s + 128
    omega
  · have : sz ({ s with state := 17 } : TS) = sz (s) := rfl
    show sz ({ s with state := 17 } : TS) ≤ sz s + 128
    omega
  · have := sz_tellTag s 
    show sz (tellTag s ) ≤ sz s + 128
    omega
  · have := sz_dropTag s 
    show sz (dropTag s ) ≤ sz s + 128
    omega
  · have := sz_wrong' s ([110, 111, 45, 98, 108, 97, 110, 107])
    have : sz ({ (wrong s ([110, 111, 45, 98, 108, 97, 110, 107])) with state := 9 } : TS) = sz ((wrong s ([110, 111, 45, 98, 108, 97, 110, 107]))) := rfl
    show sz ({ (wrong s ([110, 111, 45, 98, 108, 97, 110, 107])) with state := 9 } : TS) ≤ sz s + 128
    omega

theorem sz_inSelf : sz (lookInSelf s c).2 ≤ sz s + 128 := by
  unfold lookInSelf
  repeat' split
  · have : sz ({ s with tag := { s.tag with closes := true } } : TS) ≤ sz (s) + 0 := sz_closes _
    have := sz_tellTag (({ s with tag := { s.tag with closes := true } } : TS)) 
    show sz (tellTag (({ s with tag := { s.tag with closes := true } } : TS)) ) ≤ sz s + 128
    omega
  · have := sz_dropTag s 
    show sz (dropTag s ) ≤ sz s + 128
    omega
  · have := sz_wrong' s ([115, 108, 97, 115, 104])
    have : sz ({ (wrong s ([115, 108, 97, 115, 104])) with state := 9 } : TS) = sz ((wrong s ([115, 108, 97, 115, 104]))) := rfl
    show sz ({ (wrong s ([115, 108, 97, 115, 104])) with state := 9 } : TS) ≤ sz s + 128
    omega

theorem sz_inBogus : sz (lookInBogus s c).2 ≤ sz s + 128 := by
  unfold lookInBogus
  repeat' split
  · have := sz_endComment s 
    show sz (endComment s ) ≤ sz s + 128
    omega
  · have := sz_tellComment s 
    show sz (tellComment s ) ≤ sz s + 128
    omega
  · have := sz_putComment s (c)
    show sz (putComment s (c)) ≤ sz s + 128
    omega

theorem sz_inBegin : sz (lookInBegin s c).2 ≤ sz s + 128 := by
  unfold lookInBegin
  repeat' split
  · have : sz ({ s with state := 21 } : TS) = sz (s) := rfl
    show sz ({ s with state := 21 } : TS) ≤ sz s + 128
    omega
  · have := sz_wrong' s ([97, 98, 114, 117, 112, 116])
    have := sz_endComment ((wrong s ([97, 98, 114, 117, 112, 116]))) 
    show sz (endComment ((wrong s ([97, 98, 114, 117, 112, 116]))) ) ≤ sz s + 128
    omega
  · have : sz ({ s with state := 22 } : TS) = sz (s) := rfl
    show sz ({ s with state := 22 } : TS) ≤ sz s + 128
    omega

theorem sz_inBeginDash : sz (lookInBeginDash s c).2 ≤ sz s + 128 := by
  unfold lookInBeginDash lookInDash
  repeat' split
  · have := sz_wrong' s ([97, 98, 114, 117, 112, 116])
    have := sz_endComment ((wrong s ([97, 98, 114, 117, 112, 116]))) 
    show sz (endComment ((wrong s ([97, 98, 114, 117, 112, 116]))) ) ≤ sz s + 128
    omega
  · have : sz ({ s with state := 24 } : TS) = sz (s) := rfl
    show sz ({ s with state := 24 } : TS) ≤ sz s + 128
    omega
  · have := sz_cutComment s 
    show sz (cutComment s ) ≤ sz s + 128
    omega
  · have := sz_addToComment' s ([45])
    have : ([45] : Str).length ≤ 40 := by decide
    have : sz ({ (addToComment s ([45])) with state := 22 } : TS) = sz ((addToComment s ([45]))) := rfl
    show sz ({ (addToComment s ([45])) with state := 22 } : TS) ≤ sz s + 128
    omega

theorem sz_inComment : sz (lookInComment s c).2 ≤ sz s + 128 := by
  unfold lookInComment
  repeat' split
  · have : sz ({ s with state := 23 } : TS) = sz (s) := rfl
    show sz ({ s with state := 23 } : TS) ≤ sz s + 128
    omega
  · have := sz_cutComment s 
    show sz (cutComment s ) ≤ sz s + 128
    omega
  · have := sz_putComment s (c)
    show sz (putComment s (c)) ≤ sz s + 128
    omega

theorem sz_inDash : sz (lookInDash s c).2 ≤ sz s + 128 := by
  unfold lookInDash
  repeat' split
  · have : sz ({ s with state := 24 } : TS) = sz (s) := rfl
    show sz ({ s with state := 24 } : TS) ≤ sz s + 128
    omega
  · have := sz_cutComment s 
    show sz (cutComment s ) ≤ sz s + 128
    omega
  · have := sz_addToComment' s ([45])
    have : ([45] : Str).length ≤ 40 := by decide
    have : sz ({ (addToComment s ([45])) with state := 22 } : TS) = sz ((addToComment s ([45]))) := rfl
    show sz ({ (addToComment s ([45])) with state := 22 } : TS) ≤ sz s + 128
    omega

theorem sz_inDashes : sz (lookInDashes s c).2 ≤ sz s + 128 := by
  unfold lookInDashes
  repeat' split
  · have := sz_endComment s 
    show sz (endComment s ) ≤ sz s + 128
    omega
  · have : sz ({ s with state := 25 } : TS) = sz (s) := rfl
    show sz ({ s with state := 25 } : TS) ≤ sz s + 128
    omega
  · have := sz_addToComment' s ([45])
    have : ([45] : Str).length ≤ 40 := by decide
    show sz (addToComment s ([45])) ≤ sz s + 128
    omega
  · have := sz_cutComment s 
    show sz (cutComment s ) ≤ sz s + 128
    omega
  · have := sz_addToComment' s ([45, 45])
    have : ([45, 45] : Str).length ≤ 40 := by decide
    have : sz ({ (addToComment s ([45, 45])) with state := 22 } : TS) = sz ((addToComment s ([45, 45]))) := rfl
    show sz ({ (addToComment s ([45, 45])) with state := 22 } : TS) ≤ sz s + 128
    omega

theorem sz_inBang : sz (lookInBang s c).2 ≤ sz s + 128 := by
  unfold lookInBang
  repeat' split
  · have := sz_addToComment' s ([45, 45, 33])
    have : ([45, 45, 33] : Str).length ≤ 40 := by decide
    have : sz ({ (addToComment s ([45, 45, 33])) with state := 23 } : TS) = sz ((addToComment s ([45, 45, 33]))) := rfl
    show sz ({ (addToComment s ([45, 45, 33])) with state := 23 } : TS) ≤ sz s + 128
    omega
  · have := sz_wrong' s ([98, 97, 110, 103])
    have := sz_endComment ((wrong s ([98, 97, 110, 103]))) 
    show sz (endComment ((wrong s ([98, 97, 110, 103]))) ) ≤ sz s + 128
    omega
  · have := sz_cutComment s 
    show sz (cutComment s ) ≤ sz s + 128
    omega
  · have := sz_addToComment' s ([45, 45, 33])
    have : ([45, 45, 33] : Str).length ≤ 40 := by decide
    have : sz ({ (addToComment s ([45, 45, 33])) with state := 22 } : TS) = sz ((addToComment s ([45, 45, 33]))) := rfl
    show sz ({ (addToComment s ([45, 45, 33])) with state := 22 } : TS) ≤ sz s + 128
    omega

theorem sz_inDoctype : sz (lookInDoctype s c).2 ≤ sz s + 128 := by
  unfold lookInDoctype
  repeat' split
  · have : sz ({ s with state := 27 } : TS) = sz (s) := rfl
    show sz ({ s with state := 27 } : TS) ≤ sz s + 128
    omega
  · have : sz ({ s with state := 27 } : TS) = sz (s) := rfl
    show sz ({ s with state := 27 } : TS) ≤ sz s + 128
    omega
  · have := sz_cutDoctype s 
    show sz (cutDoctype s ) ≤ sz s + 128
    omega
  · have := sz_wrong' s ([110, 111, 45, 98, 108, 97, 110, 107])
    have : sz ({ (wrong s ([110, 111, 45, 98, 108, 97, 110, 107])) with state := 27 } : TS) = sz ((wrong s ([110, 111, 45, 98, 108, 97, 110, 107]))) := rfl
    show sz ({ (wrong s ([110, 111, 45, 98, 108, 97, 110, 107])) with state := 27 } : TS) ≤ sz s + 128
    omega

theorem sz_inKind : sz (lookInKind s c).2 ≤ sz s + 128 := by
  unfold lookInKind
  repeat' split
  · show sz s ≤ sz s + 128
    omega
  · have := sz_wrong' s ([110, 111, 45, 110, 97, 109, 101])
    have : sz ({ (wrong s ([110, 111, 45, 110, 97, 109, 101])) with odd := true } : TS) = sz ((wrong s ([110, 111, 45, 110, 97, 109, 101]))) := rfl
    have := sz_endDoctype (({ (wrong s ([110, 111, 45, 110, 97, 109, 101])) with odd := true } : TS)) 
    show sz (endDoctype (({ (wrong s ([110, 111, 45, 110, 97, 109, 101])) with odd := true } : TS)) ) ≤ sz s + 128
    omega
  · have := sz_cutDoctype s 
    show sz (cutDoctype s ) ≤ sz s + 128
    omega
  · have := sz_addToKind s (c)
    have : sz ({ (addToKind s (c)) with state := 28 } : TS) = sz ((addToKind s (c))) := rfl
    show sz ({ (addToKind s (c)) with state := 28 } : TS) ≤ sz s + 128
    omega

theorem sz_inKindName : sz (lookInKindName s c).2 ≤ sz s + 128 := by
  unfold lookInKindName
  repeat' split
  · have : sz ({ s with state := 29 } : TS) = sz (s) := rfl
    show sz ({ s with state := 29 } : TS) ≤ sz s + 128
    omega
  · have := sz_endDoctype s 
    show sz (endDoctype s ) ≤ sz s + 128
    omega
  · have := sz_cutDoctype s 
    show sz (cutDoctype s ) ≤ sz s + 128
    omega
  · have := sz_addToKind s (c)
    show sz (addToKind s (c)) ≤ sz s + 128
    omega

theorem sz_inKindEnd : sz (lookInKindEnd s c).2 ≤ sz s + 128 := by
  unfold lookInKindEnd
  repeat' split
  · show sz s ≤ sz s + 128
    omega
  · have := sz_endDoctype s 
    show sz (endDoctype s ) ≤ sz s + 128
    omega
  · have := sz_cutDoctype s 
    show sz (cutDoctype s ) ≤ sz s + 128
    omega
  · have := sz_wrong' s ([107, 105, 110, 100])
    have : sz ({ (wrong s ([107, 105, 110, 100])) with odd := true } : TS) = sz ((wrong s ([107, 105, 110, 100]))) := rfl
    have : sz ({ ({ (wrong s ([107, 105, 110, 100])) with odd := true } : TS) with state := 30 } : TS) = sz (({ (wrong s ([107, 105, 110, 100])) with odd := true } : TS)) := rfl
    show sz ({ ({ (wrong s ([107, 105, 110, 100])) with odd := true } : TS) with state := 30 } : TS) ≤ sz s + 128
    omega

theorem sz_inKindRest : sz (lookInKindRest s c).2 ≤ sz s + 128 := by
  unfold lookInKindRest
  repeat' split
  · have := sz_endDoctype s 
    show sz (endDoctype s ) ≤ sz s + 128
    omega
  · have := sz_wrong' s ([110, 117, 108])
    show sz (wrong s ([110, 117, 108])) ≤ sz s + 128
    omega
  · have := sz_tellDoctype s 
    show sz (tellDoctype s ) ≤ sz s + 128
    omega
  · show sz s ≤ sz s + 128
    omega

theorem sz_inRefUnknown : sz (lookInRefUnknown s c).2 ≤ sz s + 128 := by
  unfold lookInRefUnknown
  repeat' split
  · have := sz_addToTarget s (Lib.encodeRune c)
    have := len_rune c
    show sz (addToTarget s (Lib.encodeRune c)) ≤ sz s + 128
    omega
  · have := sz_wrong' s ([117, 110, 107, 110, 111, 119, 110])
    have : sz ({ (wrong s ([117, 110, 107, 110, 111, 119, 110])) with state := s.rback } : TS) = sz ((wrong s ([117, 110, 107, 110, 111, 119, 110]))) := rfl
    show sz ({ (wrong s ([117, 110, 107, 110, 111, 119, 110])) with state := s.rback } : TS) ≤ sz s + 128
    omega
  · have : sz ({ s with state := s.rback } : TS) = sz (s) := rfl
    show sz ({ s with state := s.rback } : TS) ≤ sz s + 128
    omega

theorem sz_inLess : sz (lookInLess s c).2 ≤ sz s + 128 := by
  unfold lookInLess backToBase
  split
  · exact Nat.le_add_right (sz s) 128
  · show sz (addText s [60]) ≤ _
    rw [sz_addText]; simp
theorem sz_inLessClose : sz (lookInLessClose s c).2 ≤ sz s + 128 := by
  unfold lookInLessClose backToBase
  split
  · have := sz_newTag s 2
    show sz { s with tag := { kind := 2 } } ≤ _
    omega
  · show sz (addText s [60, 47]) ≤ _
    rw [sz_addText]; simp
theorem sz_inLessName : sz (lookInLessName s c).2 ≤ sz s + 128 := by
  unfold lookInLessName backToBase
  repeat' split
  · have := sz_lessName s c
    show sz (lessName s c) ≤ _
    omega
  · exact Nat.le_add_right (sz s) 128
  · have := sz_lessBack s
    show sz (addText { s with tag := {} } ([60, 47] ++ s.tag.buffer)) ≤ _
    omega
theorem sz_inRefHash : sz (lookInRefHash s c).2 ≤ sz s + 128 := by
  unfold lookInRefHash
  split
  · have := sz_setCome s c
    show sz (setCome s (s.rcome ++ Lib.encodeRune c)) ≤ _
    omega
  · exact Nat.le_add_right (sz s) 128
theorem sz_leave (h : s.rcome.length ≤ 8) : sz (leaveAsItIs s) ≤ sz s + 36 := by
  have := sz_addToTarget s ([38] ++ s.rcome)
  rw [List.length_append] at this
  simp only [List.length_cons, List.length_nil] at this
  show sz (addToTarget s ([38] ++ s.rcome)) ≤ _
  omega
theorem sz_inRef (h : s.rcome.length ≤ 8) : sz (lookInRef s c).2 ≤ sz s + 128 := by
  unfold lookInRef
  repeat' split
  · exact Nat.le_add_right (sz s) 128
  · have := sz_setHash s
    show sz (setCome s [35]) ≤ _
    omega
  · have := sz_leave h
    show sz (leaveAsItIs s) ≤ _
    omega
theorem sz_inRefNumber (h : s.rcome.length ≤ 8) : sz (lookInRefNumber s c).2 ≤ sz s + 128 := by
  unfold lookInRefNumber
  repeat' split
  · exact Nat.le_add_right (sz s) 128
  · have h1 := sz_leave (s := wrong s [100, 105, 103, 105, 116, 115]) h
    rw [sz_wrong] at h1
    show sz (leaveAsItIs (wrong s [100, 105, 103, 105, 116, 115])) ≤ _
    omega
  · have := sz_endNumber s (s.place + 1)
    show sz (endNumber s (s.place + 1)) ≤ _
    omega
  · have := sz_endNumber (wrong s [115, 101, 109, 105, 99, 111, 108, 111, 110]) s.place
    rw [sz_wrong] at this
    show sz (endNumber (wrong s [115, 101, 109, 105, 99, 111, 108, 111, 110]) s.place) ≤ _
    omega
theorem sz_inDecl (h : s.declared.length ≤ 8) : sz (lookInDecl s c).2 ≤ sz s + 128 := by
  have h0 := sz_noDecl s
  unfold lookInDecl
  repeat' split
  · have := sz_declare s c
    show sz { s with declared := s.declared ++ Lib.encodeRune c } ≤ _
    omega
  · show sz (noDecl s) ≤ _
    omega
  · show sz (noDecl s) ≤ _
    omega
  · show sz (addToComment (wrongAt (noDecl s) [99, 100, 97, 116, 97] (s.place - s.declared.length)) [91, 67, 68, 65, 84, 65, 91]) ≤ _
    rw [sz_addToComment, sz_wrongAt]
    simp only [List.length_cons, List.length_nil]
    omega
  · show sz (addToComment (wrongAt (noDecl s) [100, 101, 99, 108, 97, 114, 97, 116, 105, 111, 110] (s.place - s.declared.length)) s.declared) ≤ _
    rw [sz_addToComment, sz_wrongAt]
    omega
theorem findName_len {x : Str} (h : ¬ (findName x).2 = true) : (findName x).1.1.length ≤ 7 ∧ (findName x).1.2.length ≤ 7 := by
  have h0 : findFrom x namesT ([], []) = ((findName x).1, false) := by
    have : (findName x).2 = false := by simpa using h
    rw [← this]; rfl
  rcases findFrom_mem x namesT ([], []) (findName x).1 h0 with h1 | h1
  · rw [h1]; simp
  · have := (names_ascii _ h1.1).2
    exact ⟨names_len _ h1.1, by omega⟩
theorem sz_inRefName (h : s.rcome.length ≤ 8) : sz (lookInRefName s c).2 ≤ sz s + 128 := by
  have h4 := len_rune c
  unfold lookInRefName
  split
  · have := sz_setCome s c
    show sz (setCome s (s.rcome ++ Lib.encodeRune c)) ≤ _
    omega
  · rename_i hw
    have hn := findName_len hw
    split
    · have := sz_addToTarget s (38 :: s.rcome)
      rw [List.length_cons] at this
      show sz (addToTarget s (38 :: s.rcome)) ≤ _
      omega
    · split
      · have := sz_addToTarget s (findName (s.rcome ++ Lib.encodeRune c)).1.2
        show sz (addToTarget s (findName (s.rcome ++ Lib.encodeRune c)).1.2) ≤ _
        omega
      · unfold endOpenName
        generalize (findName (s.rcome ++ Lib.encodeRune c)).1 = n at *
        generalize nextOf (s.rcome.drop n.1.length ++ Lib.encodeRune c) = nx
        have h1 := sz_openName s n (s.rcome.drop n.1.length) nx hn.1 hn.2
        have h2 := sz_addToTarget (openName s n (s.rcome.drop n.1.length) nx) (s.rcome.drop n.1.length)
        have h3 : (s.rcome.drop n.1.length).length ≤ 8 := by rw [List.length_drop]; omega
        show sz (addToTarget (openName s n (s.rcome.drop n.1.length) nx) (s.rcome.drop n.1.length)) ≤ _
        omega
theorem sz_lookOnce (g : Good s c) : sz (lookOnce s c).2 ≤ sz s + 128 := by
  by_cases e_inTitle : s.state = 1
  · have hf : lookOnce s c = lookInTitle s c := by simp [lookOnce, e_inTitle]
    rw [hf]
    exact sz_inTitle
  by_cases e_inRaw : s.state = 2
  · have hf : lookOnce s c = lookInRaw s c := by simp [lookOnce, e_inRaw]
    rw [hf]
    exact sz_inRaw
  by_cases e_inOpen : s.state = 3
  · have hf : lookOnce s c = lookInOpen s c := by simp [lookOnce, e_inOpen]
    rw [hf]
    exact sz_inOpen
  by_cases e_inClose : s.state = 4
  · have hf : lookOnce s c = lookInClose s c := by simp [lookOnce, e_inClose]
    rw [hf]
    exact sz_inClose
  by_cases e_inLess : s.state = 5
  · have hf : lookOnce s c = lookInLess s c := by simp [lookOnce, e_inLess]
    rw [hf]
    exact sz_inLess
  by_cases e_inLessClose : s.state = 6
  · have hf : lookOnce s c = lookInLessClose s c := by simp [lookOnce, e_inLessClose]
    rw [hf]
    exact sz_inLessClose
  by_cases e_inLessName : s.state = 7
  · have hf : lookOnce s c = lookInLessName s c := by simp [lookOnce, e_inLessName]
    rw [hf]
    exact sz_inLessName
  by_cases e_inTag : s.state = 8
  · have hf : lookOnce s c = lookInTag s c := by simp [lookOnce, e_inTag]
    rw [hf]
    exact sz_inTag
  by_cases e_inAttr : s.state = 9
  · have hf : lookOnce s c = lookInAttr s c := by simp [lookOnce, e_inAttr]
    rw [hf]
    exact sz_inAttr
  by_cases e_inName : s.state = 10
  · have hf : lookOnce s c = lookInName s c := by simp [lookOnce, e_inName]
    rw [hf]
    exact sz_inName
  by_cases e_inAfter : s.state = 11
  · have hf : lookOnce s c = lookInAfter s c := by simp [lookOnce, e_inAfter]
    rw [hf]
    exact sz_inAfter
  by_cases e_inEquals : s.state = 12
  · have hf : lookOnce s c = lookInEquals s c := by simp [lookOnce, e_inEquals]
    rw [hf]
    exact sz_inEquals
  by_cases e_inDouble : s.state = 13
  · have hf : lookOnce s c = lookInDouble s c := by simp [lookOnce, e_inDouble]
    rw [hf]
    exact sz_inDouble
  by_cases e_inSingle : s.state = 14
  · have hf : lookOnce s c = lookInSingle s c := by simp [lookOnce, e_inSingle]
    rw [hf]
    exact sz_inSingle
  by_cases e_inPlain : s.state = 15
  · have hf : lookOnce s c = lookInPlain s c := by simp [lookOnce, e_inPlain]
    rw [hf]
    exact sz_inPlain
  by_cases e_inValue : s.state = 16
  · have hf : lookOnce s c = lookInValue s c := by simp [lookOnce, e_inValue]
    rw [hf]
    exact sz_inValue
  by_cases e_inSelf : s.state = 17
  · have hf : lookOnce s c = lookInSelf s c := by simp [lookOnce, e_inSelf]
    rw [hf]
    exact sz_inSelf
  by_cases e_inDecl : s.state = 18
  · have hf : lookOnce s c = lookInDecl s c := by simp [lookOnce, e_inDecl]
    rw [hf]
    exact sz_inDecl g.decl
  by_cases e_inBogus : s.state = 19
  · have hf : lookOnce s c = lookInBogus s c := by simp [lookOnce, e_inBogus]
    rw [hf]
    exact sz_inBogus
  by_cases e_inBegin : s.state = 20
  · have hf : lookOnce s c = lookInBegin s c := by simp [lookOnce, e_inBegin]
    rw [hf]
    exact sz_inBegin
  by_cases e_inBeginDash : s.state = 21
  · have hf : lookOnce s c = lookInBeginDash s c := by simp [lookOnce, e_inBeginDash]
    rw [hf]
    exact sz_inBeginDash
  by_cases e_inComment : s.state = 22
  · have hf : lookOnce s c = lookInComment s c := by simp [lookOnce, e_inComment]
    rw [hf]
    exact sz_inComment
  by_cases e_inDash : s.state = 23
  · have hf : lookOnce s c = lookInDash s c := by simp [lookOnce, e_inDash]
    rw [hf]
    exact sz_inDash
  by_cases e_inDashes : s.state = 24
  · have hf : lookOnce s c = lookInDashes s c := by simp [lookOnce, e_inDashes]
    rw [hf]
    exact sz_inDashes
  by_cases e_inBang : s.state = 25
  · have hf : lookOnce s c = lookInBang s c := by simp [lookOnce, e_inBang]
    rw [hf]
    exact sz_inBang
  by_cases e_inDoctype : s.state = 26
  · have hf : lookOnce s c = lookInDoctype s c := by simp [lookOnce, e_inDoctype]
    rw [hf]
    exact sz_inDoctype
  by_cases e_inKind : s.state = 27
  · have hf : lookOnce s c = lookInKind s c := by simp [lookOnce, e_inKind]
    rw [hf]
    exact sz_inKind
  by_cases e_inKindName : s.state = 28
  · have hf : lookOnce s c = lookInKindName s c := by simp [lookOnce, e_inKindName]
    rw [hf]
    exact sz_inKindName
  by_cases e_inKindEnd : s.state = 29
  · have hf : lookOnce s c = lookInKindEnd s c := by simp [lookOnce, e_inKindEnd]
    rw [hf]
    exact sz_inKindEnd
  by_cases e_inKindRest : s.state = 30
  · have hf : lookOnce s c = lookInKindRest s c := by simp [lookOnce, e_inKindRest]
    rw [hf]
    exact sz_inKindRest
  by_cases e_inRef : s.state = 31
  · have hf : lookOnce s c = lookInRef s c := by simp [lookOnce, e_inRef]
    rw [hf]
    exact sz_inRef (g.come (by rw [e_inRef]; rfl))
  by_cases e_inRefName : s.state = 32
  · have hf : lookOnce s c = lookInRefName s c := by simp [lookOnce, e_inRefName]
    rw [hf]
    exact sz_inRefName (g.come (by rw [e_inRefName]; rfl))
  by_cases e_inRefUnknown : s.state = 33
  · have hf : lookOnce s c = lookInRefUnknown s c := by simp [lookOnce, e_inRefUnknown]
    rw [hf]
    exact sz_inRefUnknown
  by_cases e_inRefHash : s.state = 34
  · have hf : lookOnce s c = lookInRefHash s c := by simp [lookOnce, e_inRefHash]
    rw [hf]
    exact sz_inRefHash
  by_cases e_inRefNumber : s.state = 35
  · have hf : lookOnce s c = lookInRefNumber s c := by simp [lookOnce, e_inRefNumber]
    rw [hf]
    exact sz_inRefNumber (g.come (by rw [e_inRefNumber]; rfl))
  have hf : lookOnce s c = lookInData s c := by simp [lookOnce, e_inTitle, e_inRaw, e_inOpen, e_inClose, e_inLess, e_inLessClose, e_inLessName, e_inTag, e_inAttr, e_inName, e_inAfter, e_inEquals, e_inDouble, e_inSingle, e_inPlain, e_inValue, e_inSelf, e_inDecl, e_inBogus, e_inBegin, e_inBeginDash, e_inComment, e_inDash, e_inDashes, e_inBang, e_inDoctype, e_inKind, e_inKindName, e_inKindEnd, e_inKindRest, e_inRef, e_inRefName, e_inRefUnknown, e_inRefHash, e_inRefNumber]
  rw [hf]
  exact sz_inData
end
end Go.Proofs.YtdfmapcnfficlaaGreatDoor

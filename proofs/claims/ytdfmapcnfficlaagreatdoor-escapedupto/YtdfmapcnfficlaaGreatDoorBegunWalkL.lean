/-
  How long the texts are that are told.
  Begun: what is told is a beginning of what every longer text tells; the walk.
-/
import Derived.Test.YtdfmapcnfficlaaGreatDoorB42
import Derived.Test.YtdfmapcnfficlaaGreatDoorB44
import Derived.Test.YtdfmapcnfficlaaGreatDoorWfAL
import Derived.Test.YtdfmapcnfficlaaGreatDoorB45
import Derived.Laws.IdiomStrings
set_option linter.unusedSimpArgs false
set_option linter.unusedVariables false
namespace Go.Proofs.YtdfmapcnfficlaaGreatDoor
open Go Go.RowKit

def tsum : List Tok → Nat
  | [] => 0
  | t :: r => (if t.kind = 0 then t.text.length else 0) + tsum r
theorem tsum_app : ∀ l r, tsum (l ++ r) = tsum l + tsum r
  | [], r => by simp [tsum]
  | t :: l, r => by simp only [List.cons_append, tsum, tsum_app l r]; omega
theorem tsum_mem : ∀ {l : List Tok} {t : Tok}, t ∈ l → t.kind = 0 → t.text.length ≤ tsum l
  | a :: l, t, h, hk => by
    rw [tsum]
    rcases List.mem_cons.1 h with h | h
    · subst h
      rw [if_pos hk]
      omega
    · have := tsum_mem h hk
      omega
def szC (s : TS) : Nat := tsum s.told + s.text.length + s.tag.buffer.length
section
variable {s : TS} {c : Int}
theorem sc_tellTok (s : TS) (t : Tok) (h : t.kind ≠ 0) : szC (tellTok s t) = szC s := by
  unfold szC tellTok
  simp only [tsum_app, tsum, if_neg h]
  omega
theorem sc_flush (s : TS) : szC (flush s) = szC s := by
  unfold flush
  split
  · rfl
  · unfold szC tellTok
    simp only [tsum_app, tsum, if_true, List.length_nil]
    omega
theorem sc_tell (s : TS) (t : Tok) (h : t.kind ≠ 0) : szC (tell s t) = szC s := by unfold tell; rw [sc_tellTok _ _ h, sc_flush]
theorem sc_wrongAt (s : TS) (n : Str) (q : Int) : szC (wrongAt s n q) ≤ szC s + 0 := Nat.le_of_eq (sc_tellTok s _ (by simp))
theorem sc_wrong (s : TS) (n : Str) : szC (wrong s n) ≤ szC s + 0 := Nat.le_of_eq (sc_tellTok s _ (by simp))
theorem sc_withoutNul (s : TS) (c : Int) : szC (withoutNul s c) ≤ szC s + 0 := by
  unfold withoutNul
  split
  · exact sc_wrong _ _
  · exact Nat.le_refl _
theorem sc_addText (s : TS) (l : Str) : szC (addText s l) ≤ szC s + l.length := by
  unfold szC addText
  simp only [List.length_append]
  omega
theorem sc_addToComment (s : TS) (l : Str) : szC (addToComment s l) ≤ szC s + 0 := Nat.le_refl _
theorem sc_putComment (s : TS) (c : Int) : szC (putComment s c) ≤ szC s + 0 := sc_withoutNul s c
theorem sc_tellComment (s : TS) : szC (tellComment s) ≤ szC s + 0 := Nat.le_of_eq (sc_tell s { kind := 3, text := s.comment } (by simp))
theorem sc_endComment (s : TS) : szC (endComment s) ≤ szC s + 0 := sc_tellComment s
theorem sc_cutComment (s : TS) : szC (cutComment s) ≤ szC s + 0 := Nat.le_trans (sc_tellComment _) (sc_wrong _ _)
theorem sc_tellDoctype (s : TS) : szC (tellDoctype s) ≤ szC s + 0 := Nat.le_of_eq (sc_tell s { kind := 4, name := s.dname, flag := s.odd } (by simp))
theorem sc_endDoctype (s : TS) : szC (endDoctype s) ≤ szC s + 0 := sc_tellDoctype s
theorem sc_cutDoctype (s : TS) : szC (cutDoctype s) ≤ szC s + 0 := Nat.le_trans (sc_tellDoctype { wrong s [101, 110, 100, 45, 105, 110, 45, 100, 111, 99, 116, 121, 112, 101] with odd := true }) (sc_wrong _ _)
theorem sc_addToKind (s : TS) (c : Int) : szC (addToKind s c) ≤ szC s + 0 := sc_withoutNul s c
theorem sc_putText (s : TS) (c : Int) : szC (putText s c) ≤ szC s + 4 := by
  have h1 := sc_withoutNul s c
  have h2 := len_rune (withoutNulC c)
  have h3 : (withoutNul s c).text = s.text := fr_withoutNul_text' s c
  unfold szC putText at *
  simp only [List.length_append, h3] at *
  omega
where
  fr_withoutNul_text' (s : TS) (c : Int) : (withoutNul s c).text = s.text := by
    unfold withoutNul
    split <;> rfl
theorem sc_putTag (s : TS) (c : Int) : szC (putTag s c) ≤ szC s + 0 := by
  have h1 := sc_withoutNul s c
  have h3 : (withoutNul s c).tag = s.tag := fr_withoutNul_tag s c
  unfold szC putTag at *
  simp only [h3] at *
  omega
theorem sc_addToName (s : TS) (c : Int) : szC (addToName s c) ≤ szC s + 0 := Nat.le_refl _
theorem sc_addToValue (s : TS) (c : Int) : szC (addToValue s c) ≤ szC s + 0 := Nat.le_refl _
theorem sc_newAtt (s : TS) : szC (newAtt s) ≤ szC s + 0 := Nat.le_refl _
theorem sc_lessName (s : TS) (c : Int) : szC (lessName s c) ≤ szC s + 4 := by
  have h2 := len_rune c
  unfold szC lessName
  simp only [List.length_append]
  omega
theorem sc_endName (s : TS) : szC (endName s) ≤ szC s + 0 := by
  unfold endName nameIsNew
  repeat' split
  · exact sc_wrong s twiceS
  · exact Nat.le_refl _
theorem sc_dropTag (s : TS) : szC (dropTag s) ≤ szC s + 0 := by
  have h1 := sc_wrong s [101, 110, 100, 45, 105, 110, 45, 116, 97, 103]
  have h2 : (wrong s [101, 110, 100, 45, 105, 110, 45, 116, 97, 103]).tag = s.tag := rfl
  unfold szC dropTag at *
  rw [h2] at h1
  simp only [List.length_nil]
  omega
theorem sc_newTag (s : TS) (k : Int) : szC { s with tag := { kind := k } } ≤ szC s + 0 := by
  unfold szC
  simp only [List.length_nil]
  omega
theorem sc_tagS (s : TS) : szC (tagS s) ≤ szC s + 0 := by
  unfold szC tagS
  simp only [List.length_nil]
  omega
theorem sc_addRunes (t : ByteArray) : ∀ (f pos : Nat) (s : TS), szC (addRunes t f pos s) = szC s
  | 0, _, s => rfl
  | f + 1, pos, s => by
    rw [addRunes]
    split
    · rw [sc_addRunes t f]; rfl
    · rfl
theorem sc_addToTarget (s : TS) (l : Str) : szC (addToTarget s l) ≤ szC s + l.length := by
  unfold addToTarget
  split
  · rw [sc_addRunes]; omega
  · exact sc_addText s l
theorem sc_endNumber (s : TS) (q : Int) : szC (endNumber s q) ≤ szC s + 4 := by
  unfold endNumber
  have h1 : szC (if (meaning s.rnum).2 = [] then s else wrongAt s (meaning s.rnum).2 q) ≤ szC s + 0 := by
    split
    · exact Nat.le_refl _
    · exact sc_wrongAt _ _ _
  have h2 := sc_addToTarget (if (meaning s.rnum).2 = [] then s else wrongAt s (meaning s.rnum).2 q) (Lib.encodeRune (meaning s.rnum).1)
  have h3 := len_rune (meaning s.rnum).1
  omega
theorem sc_openName (s : TS) (n : Str × Str) (x : Str) (nx : Int) (h1 : n.1.length ≤ 7) (h2 : n.2.length ≤ 7) : szC (openName s n x nx) ≤ szC s + 8 := by
  unfold openName
  split
  · have := sc_addToTarget s ([38] ++ n.1)
    rw [List.length_append] at this
    simp only [List.length_cons, List.length_nil] at this
    omega
  · have := sc_addToTarget (wrongAt s [115, 101, 109, 105, 99, 111, 108, 111, 110] (s.place - x.length)) n.2
    have := sc_wrongAt s [115, 101, 109, 105, 99, 111, 108, 111, 110] (s.place - x.length)
    omega
theorem sc_tellTag (s : TS) : szC (tellTag s) ≤ szC s + 0 := by
  have h0 := sc_tagS s
  unfold tellTag
  split
  · have h1 := sc_tell (tagS s) { kind := 1, name := s.tag.name, attrs := attrsOf s.tag.atts, flag := s.tag.closes } (by simp)
    have h2 : szC (startTag s) = szC (tell (tagS s) { kind := 1, name := s.tag.name, attrs := attrsOf s.tag.atts, flag := s.tag.closes }) := rfl
    omega
  · unfold endTag
    have e : ∀ x : TS, szC { tell x { kind := 2, name := s.tag.name } with base := 0, state := 0 } = szC (tell x { kind := 2, name := s.tag.name }) := fun x => rfl
    rw [e, sc_tell _ _ (by simp)]
    have k1 : szC (if s.tag.atts = [] then tagS s else wrong (tagS s) [101, 110, 100, 45, 97, 116, 116, 114, 105, 98, 117, 116, 101, 115]) ≤ szC s + 0 := by
      split
      · omega
      · have := sc_wrong (tagS s) [101, 110, 100, 45, 97, 116, 116, 114, 105, 98, 117, 116, 101, 115]
        omega
    generalize (if s.tag.atts = [] then tagS s else wrong (tagS s) [101, 110, 100, 45, 97, 116, 116, 114, 105, 98, 117, 116, 101, 115]) = s1 at *
    have k2 : szC (if s.tag.closes = true then wrong s1 [101, 110, 100, 45, 115, 108, 97, 115, 104] else s1) ≤ szC s1 + 0 := by
      split
      · exact sc_wrong _ _
      · exact Nat.le_refl _
    dsimp only at *
    omega
theorem sc_toReference (s : TS) : szC (toReference s) ≤ szC s + 0 := Nat.le_refl _
theorem sc_addDigit (s : TS) (c : Int) : szC (addDigit s c) ≤ szC s + 0 := Nat.le_refl _
theorem sc_inData : szC (lookInData s c).2 ≤ szC s + 64 := by
  unfold lookInData
  repeat' split
  · show szC s ≤ szC s + 64
    omega
  · have := sc_toReference s 
    show szC (toReference s ) ≤ szC s + 64
    omega
  · have : szC ({ s with state := 3 } : TS) = szC (s) := rfl
    show szC ({ s with state := 3 } : TS) ≤ szC s + 64
    omega
  · have := sc_wrong s ([110, 117, 108])
    have := sc_addText ((wrong s ([110, 117, 108]))) (Lib.encodeRune c)
    have := len_rune c
    show szC (addText ((wrong s ([110, 117, 108]))) (Lib.encodeRune c)) ≤ szC s + 64
    omega
  · have := sc_addText s (Lib.encodeRune c)
    have := len_rune c
    show szC (addText s (Lib.encodeRune c)) ≤ szC s + 64
    omega
theorem sc_inTitle : szC (lookInTitle s c).2 ≤ szC s + 64 := by
  unfold lookInTitle
  repeat' split
  · show szC s ≤ szC s + 64
    omega
  · have := sc_toReference s 
    show szC (toReference s ) ≤ szC s + 64
    omega
  · have : szC ({ s with state := 5 } : TS) = szC (s) := rfl
    show szC ({ s with state := 5 } : TS) ≤ szC s + 64
    omega
  · have := sc_putText s (c)
    show szC (putText s (c)) ≤ szC s + 64
    omega
theorem sc_inRaw : szC (lookInRaw s c).2 ≤ szC s + 64 := by
  unfold lookInRaw
  repeat' split
  · show szC s ≤ szC s + 64
    omega
  · have := sc_putText s (c)
    show szC (putText s (c)) ≤ szC s + 64
    omega
  · have : szC ({ s with state := 5 } : TS) = szC (s) := rfl
    show szC ({ s with state := 5 } : TS) ≤ szC s + 64
    omega
  · have := sc_putText s (c)
    show szC (putText s (c)) ≤ szC s + 64
    omega
theorem sc_inOpen : szC (lookInOpen s c).2 ≤ szC s + 64 := by
  unfold lookInOpen
  repeat' split
  · have : szC ({ s with state := 18 } : TS) = szC (s) := rfl
    show szC ({ s with state := 18 } : TS) ≤ szC s + 64
    omega
  · have : szC ({ s with state := 4 } : TS) = szC (s) := rfl
    show szC ({ s with state := 4 } : TS) ≤ szC s + 64
    omega
  · have : szC ({ s with tag := { kind := 1 } } : TS) ≤ szC (s) + 0 := sc_newTag _ _
    have : szC ({ ({ s with tag := { kind := 1 } } : TS) with state := 8 } : TS) = szC (({ s with tag := { kind := 1 } } : TS)) := rfl
    show szC ({ ({ s with tag := { kind := 1 } } : TS) with state := 8 } : TS) ≤ szC s + 64
    omega
  · have := sc_wrong s ([113, 117, 101, 115, 116, 105, 111, 110])
    have : szC ({ (wrong s ([113, 117, 101, 115, 116, 105, 111, 110])) with state := 19 } : TS) = szC ((wrong s ([113, 117, 101, 115, 116, 105, 111, 110]))) := rfl
    show szC ({ (wrong s ([113, 117, 101, 115, 116, 105, 111, 110])) with state := 19 } : TS) ≤ szC s + 64
    omega
  · have := sc_wrong s ([101, 110, 100, 45, 105, 110, 45, 116, 97, 103])
    have := sc_addText ((wrong s ([101, 110, 100, 45, 105, 110, 45, 116, 97, 103]))) ([60])
    have : ([60] : Str).length ≤ 40 := by decide
    show szC (addText ((wrong s ([101, 110, 100, 45, 105, 110, 45, 116, 97, 103]))) ([60])) ≤ szC s + 64
    omega
  · have := sc_wrong s ([102, 105, 114, 115, 116])
    have := sc_addText ((wrong s ([102, 105, 114, 115, 116]))) ([60])
    have : ([60] : Str).length ≤ 40 := by decide
    have : szC ({ (addText ((wrong s ([102, 105, 114, 115, 116]))) ([60])) with state := 0 } : TS) = szC ((addText ((wrong s ([102, 105, 114, 115, 116]))) ([60]))) := rfl
    show szC ({ (addText ((wrong s ([102, 105, 114, 115, 116]))) ([60])) with state := 0 } : TS) ≤ szC s + 64
    omega
theorem sc_inClose : szC (lookInClose s c).2 ≤ szC s + 64 := by
  unfold lookInClose
  repeat' split
  · have : szC ({ s with tag := { kind := 2 } } : TS) ≤ szC (s) + 0 := sc_newTag _ _
    have : szC ({ ({ s with tag := { kind := 2 } } : TS) with state := 8 } : TS) = szC (({ s with tag := { kind := 2 } } : TS)) := rfl
    show szC ({ ({ s with tag := { kind := 2 } } : TS) with state := 8 } : TS) ≤ szC s + 64
    omega
  · have := sc_wrong s ([110, 111, 45, 110, 97, 109, 101])
    have : szC ({ (wrong s ([110, 111, 45, 110, 97, 109, 101])) with state := 0 } : TS) = szC ((wrong s ([110, 111, 45, 110, 97, 109, 101]))) := rfl
    show szC ({ (wrong s ([110, 111, 45, 110, 97, 109, 101])) with state := 0 } : TS) ≤ szC s + 64
    omega
  · have := sc_wrong s ([101, 110, 100, 45, 105, 110, 45, 116, 97, 103])
    have := sc_addText ((wrong s ([101, 110, 100, 45, 105, 110, 45, 116, 97, 103]))) ([60, 47])
    have : ([60, 47] : Str).length ≤ 40 := by decide
    show szC (addText ((wrong s ([101, 110, 100, 45, 105, 110, 45, 116, 97, 103]))) ([60, 47])) ≤ szC s + 64
    omega
  · have := sc_wrong s ([102, 105, 114, 115, 116])
    have : szC ({ (wrong s ([102, 105, 114, 115, 116])) with state := 19 } : TS) = szC ((wrong s ([102, 105, 114, 115, 116]))) := rfl
    show szC ({ (wrong s ([102, 105, 114, 115, 116])) with state := 19 } : TS) ≤ szC s + 64
    omega
theorem sc_inTag : szC (lookInTag s c).2 ≤ szC s + 64 := by
  unfold lookInTag
  repeat' split
  · have : szC ({ s with state := 9 } : TS) = szC (s) := rfl
    show szC ({ s with state := 9 } : TS) ≤ szC s + 64
    omega
  · have : szC ({ s with state := 17 } : TS) = szC (s) := rfl
    show szC ({ s with state := 17 } : TS) ≤ szC s + 64
    omega
  · have := sc_tellTag s 
    show szC (tellTag s ) ≤ szC s + 64
    omega
  · have := sc_dropTag s 
    show szC (dropTag s ) ≤ szC s + 64
    omega
  · have := sc_putTag s (c)
    show szC (putTag s (c)) ≤ szC s + 64
    omega
theorem sc_inAttr : szC (lookInAttr s c).2 ≤ szC s + 64 := by
  unfold lookInAttr
  repeat' split
  · show szC s ≤ szC s + 64
    omega
  · have : szC ({ s with state := 11 } : TS) = szC (s) := rfl
    show szC ({ s with state := 11 } : TS) ≤ szC s + 64
    omega
  · have := sc_wrong s ([101, 113, 117, 97, 108, 115])
    have := sc_newAtt ((wrong s ([101, 113, 117, 97, 108, 115]))) 
    have := sc_addToName ((newAtt ((wrong s ([101, 113, 117, 97, 108, 115]))) )) (61)
    have : szC ({ (addToName ((newAtt ((wrong s ([101, 113, 117, 97, 108, 115]))) )) (61)) with state := 10 } : TS) = szC ((addToName ((newAtt ((wrong s ([101, 113, 117, 97, 108, 115]))) )) (61))) := rfl
    show szC ({ (addToName ((newAtt ((wrong s ([101, 113, 117, 97, 108, 115]))) )) (61)) with state := 10 } : TS) ≤ szC s + 64
    omega
  · have := sc_newAtt s 
    have : szC ({ (newAtt s ) with state := 10 } : TS) = szC ((newAtt s )) := rfl
    show szC ({ (newAtt s ) with state := 10 } : TS) ≤ szC s + 64
    omega
theorem sc_inName : szC (lookInName s c).2 ≤ szC s + 64 := by
  unfold lookInName
  repeat' split
  · have := sc_endName s 
    have : szC ({ (endName s ) with state := 11 } : TS) = szC ((endName s )) := rfl
    show szC ({ (endName s ) with state := 11 } : TS) ≤ szC s + 64
    omega
  · have := sc_endName s 
    have : szC ({ (endName s ) with state := 12 } : TS) = szC ((endName s )) := rfl
    show szC ({ (endName s ) with state := 12 } : TS) ≤ szC s + 64
    omega
  · have := sc_wrong s ([115, 105, 103, 110])
    have := sc_withoutNul ((wrong s ([115, 105, 103, 110]))) (c)
    have := sc_addToName ((withoutNul ((wrong s ([115, 105, 103, 110]))) (c))) (lowC (withoutNulC c))
    show szC (addToName ((withoutNul ((wrong s ([115, 105, 103, 110]))) (c))) (lowC (withoutNulC c))) ≤ szC s + 64
    omega
  · have := sc_withoutNul s (c)
    have := sc_addToName ((withoutNul s (c))) (lowC (withoutNulC c))
    show szC (addToName ((withoutNul s (c))) (lowC (withoutNulC c))) ≤ szC s + 64
    omega
theorem sc_inAfter : szC (lookInAfter s c).2 ≤ szC s + 64 := by
  unfold lookInAfter
  repeat' split
  · show szC s ≤ szC s + 64
    omega
  · have : szC ({ s with state := 17 } : TS) = szC (s) := rfl
    show szC ({ s with state := 17 } : TS) ≤ szC s + 64
    omega
  · have : szC ({ s with state := 12 } : TS) = szC (s) := rfl
    show szC ({ s with state := 12 } : TS) ≤ szC s + 64
    omega
  · have := sc_tellTag s 
    show szC (tellTag s ) ≤ szC s + 64
    omega
  · have := sc_dropTag s 
    show szC (dropTag s ) ≤ szC s + 64
    omega
  · have := sc_newAtt s 
    have : szC ({ (newAtt s ) with state := 10 } : TS) = szC ((newAtt s )) := rfl
    show szC ({ (newAtt s ) with state := 10 } : TS) ≤ szC s + 64
    omega
theorem sc_inEquals : szC (lookInEquals s c).2 ≤ szC s + 64 := by
  unfold lookInEquals
  repeat' split
  · show szC s ≤ szC s + 64
    omega
  · have : szC ({ s with state := 13 } : TS) = szC (s) := rfl
    show szC ({ s with state := 13 } : TS) ≤ szC s + 64
    omega
  · have : szC ({ s with state := 14 } : TS) = szC (s) := rfl
    show szC ({ s with state := 14 } : TS) ≤ szC s + 64
    omega
  · have := sc_wrong s ([110, 111, 45, 118, 97, 108, 117, 101])
    have := sc_tellTag ((wrong s ([110, 111, 45, 118, 97, 108, 117, 101]))) 
    show szC (tellTag ((wrong s ([110, 111, 45, 118, 97, 108, 117, 101]))) ) ≤ szC s + 64
    omega
  · have : szC ({ s with state := 15 } : TS) = szC (s) := rfl
    show szC ({ s with state := 15 } : TS) ≤ szC s + 64
    omega
theorem sc_inDouble : szC (lookInDouble s c).2 ≤ szC s + 64 := by
  unfold lookInDouble
  repeat' split
  · have : szC ({ s with state := 16 } : TS) = szC (s) := rfl
    show szC ({ s with state := 16 } : TS) ≤ szC s + 64
    omega
  · have := sc_toReference s 
    show szC (toReference s ) ≤ szC s + 64
    omega
  · have := sc_dropTag s 
    show szC (dropTag s ) ≤ szC s + 64
    omega
  · have := sc_withoutNul s (c)
    have := sc_addToValue ((withoutNul s (c))) (withoutNulC c)
    show szC (addToValue ((withoutNul s (c))) (withoutNulC c)) ≤ szC s + 64
    omega
theorem sc_inSingle : szC (lookInSingle s c).2 ≤ szC s + 64 := by
  unfold lookInSingle
  repeat' split
  · have : szC ({ s with state := 16 } : TS) = szC (s) := rfl
    show szC ({ s with state := 16 } : TS) ≤ szC s + 64
    omega
  · have := sc_toReference s 
    show szC (toReference s ) ≤ szC s + 64
    omega
  · have := sc_dropTag s 
    show szC (dropTag s ) ≤ szC s + 64
    omega
  · have := sc_withoutNul s (c)
    have := sc_addToValue ((withoutNul s (c))) (withoutNulC c)
    show szC (addToValue ((withoutNul s (c))) (withoutNulC c)) ≤ szC s + 64
    omega
theorem sc_inPlain : szC (lookInPlain s c).2 ≤ szC s + 64 := by
  unfold lookInPlain
  repeat' split
  · have : szC ({ s with state := 9 } : TS) = szC (s) := rfl
    show szC ({ s with state := 9 } : TS) ≤ szC s + 64
    omega
  · have := sc_toReference s 
    show szC (toReference s ) ≤ szC s + 64
    omega
  · have := sc_tellTag s 
    show szC (tellTag s ) ≤ szC s + 64
    omega
  · have := sc_dropTag s 
    show szC (dropTag s ) ≤ szC s + 64
    omega
  · have := sc_wrong s ([115, 105, 103, 110])
    have := sc_withoutNul ((wrong s ([115, 105, 103, 110]))) (c)
    have := sc_addToValue ((withoutNul ((wrong s ([115, 105, 103, 110]))) (c))) (withoutNulC c)
    show szC (addToValue ((withoutNul ((wrong s ([115, 105, 103, 110]))) (c))) (withoutNulC c)) ≤ szC s + 64
    omega
  · have := sc_withoutNul s (c)
    have := sc_addToValue ((withoutNul s (c))) (withoutNulC c)
    show szC (addToValue ((withoutNul s (c))) (withoutNulC c)) ≤ szC s + 64
    omega
theorem sc_inValue : szC (lookInValue s c).2 ≤ szC s + 64 := by
  unfold lookInValue
  repeat' split
  · have : szC ({ s with state := 9 } : TS) = szC (s) := rfl
    show szC ({ s with state := 9 } : TS) ≤ szC s + 64
    omega
  · have : szC ({ s with state := 17 } : TS) = szC (s) := rfl
    show szC ({ s with state := 17 } : TS) ≤ szC s + 64
    omega
  · have := sc_tellTag s 
    show szC (tellTag s ) ≤ szC s + 64
    omega
  · have := sc_dropTag s 
    show szC (dropTag s ) ≤ szC s + 64
    omega
  · have := sc_wrong s ([110, 111, 45, 98, 108, 97, 110, 107])
    have : szC ({ (wrong s ([110, 111, 45, 98, 108, 97, 110, 107])) with state := 9 } : TS) = szC ((wrong s ([110, 111, 45, 98, 108, 97, 110, 107]))) := rfl
    show szC ({ (wrong s ([110, 111, 45, 98, 108, 97, 110, 107])) with state := 9 } : TS) ≤ szC s + 64
    omega
theorem sc_inSelf : szC (lookInSelf s c).2 ≤ szC s + 64 := by
  unfold lookInSelf
  repeat' split
  · have : szC ({ s with tag := { s.tag with closes := true } } : TS) = szC (s) := rfl
    have := sc_tellTag (({ s with tag := { s.tag with closes := true } } : TS)) 
    show szC (tellTag (({ s with tag := { s.tag with closes := true } } : TS)) ) ≤ szC s + 64
    omega
  · have := sc_dropTag s 
    show szC (dropTag s ) ≤ szC s + 64
    omega
  · have := sc_wrong s ([115, 108, 97, 115, 104])
    have : szC ({ (wrong s ([115, 108, 97, 115, 104])) with state := 9 } : TS) = szC ((wrong s ([115, 108, 97, 115, 104]))) := rfl
    show szC ({ (wrong s ([115, 108, 97, 115, 104])) with state := 9 } : TS) ≤ szC s + 64
    omega
theorem sc_inBogus : szC (lookInBogus s c).2 ≤ szC s + 64 := by
  unfold lookInBogus
  repeat' split
  · have := sc_endComment s 
    show szC (endComment s ) ≤ szC s + 64
    omega
  · have := sc_tellComment s 
    show szC (tellComment s ) ≤ szC s + 64
    omega
  · have := sc_putComment s (c)
    show szC (putComment s (c)) ≤ szC s + 64
    omega
theorem sc_inBegin : szC (lookInBegin s c).2 ≤ szC s + 64 := by
  unfold lookInBegin
  repeat' split
  · have : szC ({ s with state := 21 } : TS) = szC (s) := rfl
    show szC ({ s with state := 21 } : TS) ≤ szC s + 64
    omega
  · have := sc_wrong s ([97, 98, 114, 117, 112, 116])
    have := sc_endComment ((wrong s ([97, 98, 114, 117, 112, 116]))) 
    show szC (endComment ((wrong s ([97, 98, 114, 117, 112, 116]))) ) ≤ szC s + 64
    omega
  · have : szC ({ s with state := 22 } : TS) = szC (s) := rfl
    show szC ({ s with state := 22 } : TS) ≤ szC s + 64
    omega
theorem sc_inBeginDash : szC (lookInBeginDash s c).2 ≤ szC s + 64 := by
  unfold lookInBeginDash lookInDash
  repeat' split
  · have := sc_wrong s ([97, 98, 114, 117, 112, 116])
    have := sc_endComment ((wrong s ([97, 98, 114, 117, 112, 116]))) 
    show szC (endComment ((wrong s ([97, 98, 114, 117, 112, 116]))) ) ≤ szC s + 64
    omega
  · have : szC ({ s with state := 24 } : TS) = szC (s) := rfl
    show szC ({ s with state := 24 } : TS) ≤ szC s + 64
    omega
  · have := sc_cutComment s 
    show szC (cutComment s ) ≤ szC s + 64
    omega
  · have := sc_addToComment s ([45])
    have : szC ({ (addToComment s ([45])) with state := 22 } : TS) = szC ((addToComment s ([45]))) := rfl
    show szC ({ (addToComment s ([45])) with state := 22 } : TS) ≤ szC s + 64
    omega
theorem sc_inComment : szC (lookInComment s c).2 ≤ szC s + 64 := by
  unfold lookInComment
  repeat' split
  · have : szC ({ s with state := 23 } : TS) = szC (s) := rfl
    show szC ({ s with state := 23 } : TS) ≤ szC s + 64
    omega
  · have := sc_cutComment s 
    show szC (cutComment s ) ≤ szC s + 64
    omega
  · have := sc_putComment s (c)
    show szC (putComment s (c)) ≤ szC s + 64
    omega
theorem sc_inDash : szC (lookInDash s c).2 ≤ szC s + 64 := by
  unfold lookInDash
  repeat' split
  · have : szC ({ s with state := 24 } : TS) = szC (s) := rfl
    show szC ({ s with state := 24 } : TS) ≤ szC s + 64
    omega
  · have := sc_cutComment s 
    show szC (cutComment s ) ≤ szC s + 64
    omega
  · have := sc_addToComment s ([45])
    have : szC ({ (addToComment s ([45])) with state := 22 } : TS) = szC ((addToComment s ([45]))) := rfl
    show szC ({ (addToComment s ([45])) with state := 22 } : TS) ≤ szC s + 64
    omega
theorem sc_inDashes : szC (lookInDashes s c).2 ≤ szC s + 64 := by
  unfold lookInDashes
  repeat' split
  · have := sc_endComment s 
    show szC (endComment s ) ≤ szC s + 64
    omega
  · have : szC ({ s with state := 25 } : TS) = szC (s) := rfl
    show szC ({ s with state := 25 } : TS) ≤ szC s + 64
    omega
  · have := sc_addToComment s ([45])
    show szC (addToComment s ([45])) ≤ szC s + 64
    omega
  · have := sc_cutComment s 
    show szC (cutComment s ) ≤ szC s + 64
    omega
  · have := sc_addToComment s ([45, 45])
    have : szC ({ (addToComment s ([45, 45])) with state := 22 } : TS) = szC ((addToComment s ([45, 45]))) := rfl
    show szC ({ (addToComment s ([45, 45])) with state := 22 } : TS) ≤ szC s + 64
    omega
theorem sc_inBang : szC (lookInBang s c).2 ≤ szC s + 64 := by
  unfold lookInBang
  repeat' split
  · have := sc_addToComment s ([45, 45, 33])
    have : szC ({ (addToComment s ([45, 45, 33])) with state := 23 } : TS) = szC ((addToComment s ([45, 45, 33]))) := rfl
    show szC ({ (addToComment s ([45, 45, 33])) with state := 23 } : TS) ≤ szC s + 64
    omega
  · have := sc_wrong s ([98, 97, 110, 103])
    have := sc_endComment ((wrong s ([98, 97, 110, 103]))) 
    show szC (endComment ((wrong s ([98, 97, 110, 103]))) ) ≤ szC s + 64
    omega
  · have := sc_cutComment s 
    show szC (cutComment s ) ≤ szC s + 64
    omega
  · have := sc_addToComment s ([45, 45, 33])
    have : szC ({ (addToComment s ([45, 45, 33])) with state := 22 } : TS) = szC ((addToComment s ([45, 45, 33]))) := rfl
    show szC ({ (addToComment s ([45, 45, 33])) with state := 22 } : TS) ≤ szC s + 64
    omega
theorem sc_inDoctype : szC (lookInDoctype s c).2 ≤ szC s + 64 := by
  unfold lookInDoctype
  repeat' split
  · have : szC ({ s with state := 27 } : TS) = szC (s) := rfl
    show szC ({ s with state := 27 } : TS) ≤ szC s + 64
    omega
  · have : szC ({ s with state := 27 } : TS) = szC (s) := rfl
    show szC ({ s with state := 27 } : TS) ≤ szC s + 64
    omega
  · have := sc_cutDoctype s 
    show szC (cutDoctype s ) ≤ szC s + 64
    omega
  · have := sc_wrong s ([110, 111, 45, 98, 108, 97, 110, 107])
    have : szC ({ (wrong s ([110, 111, 45, 98, 108, 97, 110, 107])) with state := 27 } : TS) = szC ((wrong s ([110, 111, 45, 98, 108, 97, 110, 107]))) := rfl
    show szC ({ (wrong s ([110, 111, 45, 98, 108, 97, 110, 107])) with state := 27 } : TS) ≤ szC s + 64
    omega
theorem sc_inKind : szC (lookInKind s c).2 ≤ szC s + 64 := by
  unfold lookInKind
  repeat' split
  · show szC s ≤ szC s + 64
    omega
  · have := sc_wrong s ([110, 111, 45, 110, 97, 109, 101])
    have : szC ({ (wrong s ([110, 111, 45, 110, 97, 109, 101])) with odd := true } : TS) = szC ((wrong s ([110, 111, 45, 110, 97, 109, 101]))) := rfl
    have := sc_endDoctype (({ (wrong s ([110, 111, 45, 110, 97, 109, 101])) with odd := true } : TS)) 
    show szC (endDoctype (({ (wrong s ([110, 111, 45, 110, 97, 109, 101])) with odd := true } : TS)) ) ≤ szC s + 64
    omega
  · have := sc_cutDoctype s 
    show szC (cutDoctype s ) ≤ szC s + 64
    omega
  · have := sc_addToKind s (c)
    have : szC ({ (addToKind s (c)) with state := 28 } : TS) = szC ((addToKind s (c))) := rfl
    show szC ({ (addToKind s (c)) with state := 28 } : TS) ≤ szC s + 64
    omega
theorem sc_inKindName : szC (lookInKindName s c).2 ≤ szC s + 64 := by
  unfold lookInKindName
  repeat' split
  · have : szC ({ s with state := 29 } : TS) = szC (s) := rfl
    show szC ({ s with state := 29 } : TS) ≤ szC s + 64
    omega
  · have := sc_endDoctype s 
    show szC (endDoctype s ) ≤ szC s + 64
    omega
  · have := sc_cutDoctype s 
    show szC (cutDoctype s ) ≤ szC s + 64
    omega
  · have := sc_addToKind s (c)
    show szC (addToKind s (c)) ≤ szC s + 64
    omega
theorem sc_inKindEnd : szC (lookInKindEnd s c).2 ≤ szC s + 64 := by
  unfold lookInKindEnd
  repeat' split
  · show szC s ≤ szC s + 64
    omega
  · have := sc_endDoctype s 
    show szC (endDoctype s ) ≤ szC s + 64
    omega
  · have := sc_cutDoctype s 
    show szC (cutDoctype s ) ≤ szC s + 64
    omega
  · have := sc_wrong s ([107, 105, 110, 100])
    have : szC ({ (wrong s ([107, 105, 110, 100])) with odd := true } : TS) = szC ((wrong s ([107, 105, 110, 100]))) := rfl
    have : szC ({ ({ (wrong s ([107, 105, 110, 100])) with odd := true } : TS) with state := 30 } : TS) = szC (({ (wrong s ([107, 105, 110, 100])) with odd := true } : TS)) := rfl
    show szC ({ ({ (wrong s ([107, 105, 110, 100])) with odd := true } : TS) with state := 30 } : TS) ≤ szC s + 64
    omega
theorem sc_inKindRest : szC (lookInKindRest s c).2 ≤ szC s + 64 := by
  unfold lookInKindRest
  repeat' split
  · have := sc_endDoctype s 
    show szC (endDoctype s ) ≤ szC s + 64
    omega
  · have := sc_wrong s ([110, 117, 108])
    show szC (wrong s ([110, 117, 108])) ≤ szC s + 64
    omega
  · have := sc_tellDoctype s 
    show szC (tellDoctype s ) ≤ szC s + 64
    omega
  · show szC s ≤ szC s + 64
    omega
theorem sc_inRefUnknown : szC (lookInRefUnknown s c).2 ≤ szC s + 64 := by
  unfold lookInRefUnknown
  repeat' split
  · have := sc_addToTarget s (Lib.encodeRune c)
    have := len_rune c
    show szC (addToTarget s (Lib.encodeRune c)) ≤ szC s + 64
    omega
  · have := sc_wrong s ([117, 110, 107, 110, 111, 119, 110])
    have : szC ({ (wrong s ([117, 110, 107, 110, 111, 119, 110])) with state := s.rback } : TS) = szC ((wrong s ([117, 110, 107, 110, 111, 119, 110]))) := rfl
    show szC ({ (wrong s ([117, 110, 107, 110, 111, 119, 110])) with state := s.rback } : TS) ≤ szC s + 64
    omega
  · have : szC ({ s with state := s.rback } : TS) = szC (s) := rfl
    show szC ({ s with state := s.rback } : TS) ≤ szC s + 64
    omega
theorem sc_inLess : szC (lookInLess s c).2 ≤ szC s + 64 := by
  unfold lookInLess backToBase
  split
  · exact Nat.le_add_right (szC s) 64
  · have := sc_addText s [60]
    have : ([60] : Str).length ≤ 40 := by decide
    show szC (addText s [60]) ≤ _
    omega
theorem sc_inLessClose : szC (lookInLessClose s c).2 ≤ szC s + 64 := by
  unfold lookInLessClose backToBase
  split
  · have := sc_newTag s 2
    show szC { s with tag := { kind := 2 } } ≤ _
    omega
  · have := sc_addText s [60, 47]
    have : ([60, 47] : Str).length ≤ 40 := by decide
    show szC (addText s [60, 47]) ≤ _
    omega
theorem sc_inLessName : szC (lookInLessName s c).2 ≤ szC s + 64 := by
  unfold lookInLessName backToBase
  repeat' split
  · have := sc_lessName s c
    show szC (lessName s c) ≤ _
    omega
  · exact Nat.le_add_right (szC s) 64
  · show szC (addText { s with tag := {} } ([60, 47] ++ s.tag.buffer)) ≤ _
    unfold szC addText
    simp only [List.length_append, List.length_cons, List.length_nil]
    omega
theorem sc_inRefHash : szC (lookInRefHash s c).2 ≤ szC s + 64 := by
  unfold lookInRefHash
  split <;> exact Nat.le_add_right (szC s) 64
theorem sc_leave (h : s.rcome.length ≤ 8) : szC (leaveAsItIs s) ≤ szC s + 9 := by
  have := sc_addToTarget s ([38] ++ s.rcome)
  rw [List.length_append] at this
  simp only [List.length_cons, List.length_nil] at this
  show szC (addToTarget s ([38] ++ s.rcome)) ≤ _
  omega
theorem sc_inRef (h : s.rcome.length ≤ 8) : szC (lookInRef s c).2 ≤ szC s + 64 := by
  unfold lookInRef
  repeat' split
  · exact Nat.le_add_right (szC s) 64
  · exact Nat.le_add_right (szC s) 64
  · have := sc_leave h
    show szC (leaveAsItIs s) ≤ _
    omega
theorem sc_inRefNumber (h : s.rcome.length ≤ 8) : szC (lookInRefNumber s c).2 ≤ szC s + 64 := by
  unfold lookInRefNumber
  repeat' split
  · exact Nat.le_add_right (szC s) 64
  · have h1 := sc_leave (s := wrong s [100, 105, 103, 105, 116, 115]) h
    have := sc_wrong s [100, 105, 103, 105, 116, 115]
    show szC (leaveAsItIs (wrong s [100, 105, 103, 105, 116, 115])) ≤ _
    omega
  · have := sc_endNumber s (s.place + 1)
    show szC (endNumber s (s.place + 1)) ≤ _
    omega
  · have := sc_endNumber (wrong s [115, 101, 109, 105, 99, 111, 108, 111, 110]) s.place
    have := sc_wrong s [115, 101, 109, 105, 99, 111, 108, 111, 110]
    show szC (endNumber (wrong s [115, 101, 109, 105, 99, 111, 108, 111, 110]) s.place) ≤ _
    omega
theorem sc_inDecl : szC (lookInDecl s c).2 ≤ szC s + 64 := by
  unfold lookInDecl
  repeat' split
  · exact Nat.le_add_right (szC s) 64
  · exact Nat.le_add_right (szC s) 64
  · exact Nat.le_add_right (szC s) 64
  · have := sc_wrongAt (noDecl s) [99, 100, 97, 116, 97] (s.place - s.declared.length)
    have e : szC (noDecl s) = szC s := rfl
    show szC (wrongAt (noDecl s) [99, 100, 97, 116, 97] (s.place - s.declared.length)) ≤ _
    omega
  · have := sc_wrongAt (noDecl s) [100, 101, 99, 108, 97, 114, 97, 116, 105, 111, 110] (s.place - s.declared.length)
    have e : szC (noDecl s) = szC s := rfl
    show szC (wrongAt (noDecl s) [100, 101, 99, 108, 97, 114, 97, 116, 105, 111, 110] (s.place - s.declared.length)) ≤ _
    omega
theorem sc_inRefName (h : s.rcome.length ≤ 8) : szC (lookInRefName s c).2 ≤ szC s + 64 := by
  unfold lookInRefName
  split
  · exact Nat.le_add_right (szC s) 64
  · rename_i hw
    have hn := findName_len hw
    split
    · have := sc_addToTarget s (38 :: s.rcome)
      rw [List.length_cons] at this
      show szC (addToTarget s (38 :: s.rcome)) ≤ _
      omega
    · split
      · have := sc_addToTarget s (findName (s.rcome ++ Lib.encodeRune c)).1.2
        show szC (addToTarget s (findName (s.rcome ++ Lib.encodeRune c)).1.2) ≤ _
        omega
      · unfold endOpenName
        generalize (findName (s.rcome ++ Lib.encodeRune c)).1 = n at *
        generalize nextOf (s.rcome.drop n.1.length ++ Lib.encodeRune c) = nx
        have h1 := sc_openName s n (s.rcome.drop n.1.length) nx hn.1 hn.2
        have h2 := sc_addToTarget (openName s n (s.rcome.drop n.1.length) nx) (s.rcome.drop n.1.length)
        have h3 : (s.rcome.drop n.1.length).length ≤ 8 := by rw [List.length_drop]; omega
        show szC (addToTarget (openName s n (s.rcome.drop n.1.length) nx) (s.rcome.drop n.1.length)) ≤ _
        omega
theorem sc_lookOnce (g : Good s c) : szC (lookOnce s c).2 ≤ szC s + 64 := by
  by_cases e_inTitle : s.state = 1
  · have hf : lookOnce s c = lookInTitle s c := by simp [lookOnce, e_inTitle]
    rw [hf]
    exact sc_inTitle
  by_cases e_inRaw : s.state = 2
  · have hf : lookOnce s c = lookInRaw s c := by simp [lookOnce, e_inRaw]
    rw [hf]
    exact sc_inRaw
  by_cases e_inOpen : s.state = 3
  · have hf : lookOnce s c = lookInOpen s c := by simp [lookOnce, e_inOpen]
    rw [hf]
    exact sc_inOpen
  by_cases e_inClose : s.state = 4
  · have hf : lookOnce s c = lookInClose s c := by simp [lookOnce, e_inClose]
    rw [hf]
    exact sc_inClose
  by_cases e_inLess : s.state = 5
  · have hf : lookOnce s c = lookInLess s c := by simp [lookOnce, e_inLess]
    rw [hf]
    exact sc_inLess
  by_cases e_inLessClose : s.state = 6
  · have hf : lookOnce s c = lookInLessClose s c := by simp [lookOnce, e_inLessClose]
    rw [hf]
    exact sc_inLessClose
  by_cases e_inLessName : s.state = 7
  · have hf : lookOnce s c = lookInLessName s c := by simp [lookOnce, e_inLessName]
    rw [hf]
    exact sc_inLessName
  by_cases e_inTag : s.state = 8
  · have hf : lookOnce s c = lookInTag s c := by simp [lookOnce, e_inTag]
    rw [hf]
    exact sc_inTag
  by_cases e_inAttr : s.state = 9
  · have hf : lookOnce s c = lookInAttr s c := by simp [lookOnce, e_inAttr]
    rw [hf]
    exact sc_inAttr
  by_cases e_inName : s.state = 10
  · have hf : lookOnce s c = lookInName s c := by simp [lookOnce, e_inName]
    rw [hf]
    exact sc_inName
  by_cases e_inAfter : s.state = 11
  · have hf : lookOnce s c = lookInAfter s c := by simp [lookOnce, e_inAfter]
    rw [hf]
    exact sc_inAfter
  by_cases e_inEquals : s.state = 12
  · have hf : lookOnce s c = lookInEquals s c := by simp [lookOnce, e_inEquals]
    rw [hf]
    exact sc_inEquals
  by_cases e_inDouble : s.state = 13
  · have hf : lookOnce s c = lookInDouble s c := by simp [lookOnce, e_inDouble]
    rw [hf]
    exact sc_inDouble
  by_cases e_inSingle : s.state = 14
  · have hf : lookOnce s c = lookInSingle s c := by simp [lookOnce, e_inSingle]
    rw [hf]
    exact sc_inSingle
  by_cases e_inPlain : s.state = 15
  · have hf : lookOnce s c = lookInPlain s c := by simp [lookOnce, e_inPlain]
    rw [hf]
    exact sc_inPlain
  by_cases e_inValue : s.state = 16
  · have hf : lookOnce s c = lookInValue s c := by simp [lookOnce, e_inValue]
    rw [hf]
    exact sc_inValue
  by_cases e_inSelf : s.state = 17
  · have hf : lookOnce s c = lookInSelf s c := by simp [lookOnce, e_inSelf]
    rw [hf]
    exact sc_inSelf
  by_cases e_inDecl : s.state = 18
  · have hf : lookOnce s c = lookInDecl s c := by simp [lookOnce, e_inDecl]
    rw [hf]
    exact sc_inDecl
  by_cases e_inBogus : s.state = 19
  · have hf : lookOnce s c = lookInBogus s c := by simp [lookOnce, e_inBogus]
    rw [hf]
    exact sc_inBogus
  by_cases e_inBegin : s.state = 20
  · have hf : lookOnce s c = lookInBegin s c := by simp [lookOnce, e_inBegin]
    rw [hf]
    exact sc_inBegin
  by_cases e_inBeginDash : s.state = 21
  · have hf : lookOnce s c = lookInBeginDash s c := by simp [lookOnce, e_inBeginDash]
    rw [hf]
    exact sc_inBeginDash
  by_cases e_inComment : s.state = 22
  · have hf : lookOnce s c = lookInComment s c := by simp [lookOnce, e_inComment]
    rw [hf]
    exact sc_inComment
  by_cases e_inDash : s.state = 23
  · have hf : lookOnce s c = lookInDash s c := by simp [lookOnce, e_inDash]
    rw [hf]
    exact sc_inDash
  by_cases e_inDashes : s.state = 24
  · have hf : lookOnce s c = lookInDashes s c := by simp [lookOnce, e_inDashes]
    rw [hf]
    exact sc_inDashes
  by_cases e_inBang : s.state = 25
  · have hf : lookOnce s c = lookInBang s c := by simp [lookOnce, e_inBang]
    rw [hf]
    exact sc_inBang
  by_cases e_inDoctype : s.state = 26
  · have hf : lookOnce s c = lookInDoctype s c := by simp [lookOnce, e_inDoctype]
    rw [hf]
    exact sc_inDoctype
  by_cases e_inKind : s.state = 27
  · have hf : lookOnce s c = lookInKind s c := by simp [lookOnce, e_inKind]
    rw [hf]
    exact sc_inKind
  by_cases e_inKindName : s.state = 28
  · have hf : lookOnce s c = lookInKindName s c := by simp [lookOnce, e_inKindName]
    rw [hf]
    exact sc_inKindName
  by_cases e_inKindEnd : s.state = 29
  · have hf : lookOnce s c = lookInKindEnd s c := by simp [lookOnce, e_inKindEnd]
    rw [hf]
    exact sc_inKindEnd
  by_cases e_inKindRest : s.state = 30
  · have hf : lookOnce s c = lookInKindRest s c := by simp [lookOnce, e_inKindRest]
    rw [hf]
    exact sc_inKindRest
  by_cases e_inRef : s.state = 31
  · have hf : lookOnce s c = lookInRef s c := by simp [lookOnce, e_inRef]
    rw [hf]
    exact sc_inRef (g.come (by rw [e_inRef]; rfl))
  by_cases e_inRefName : s.state = 32
  · have hf : lookOnce s c = lookInRefName s c := by simp [lookOnce, e_inRefName]
    rw [hf]
    exact sc_inRefName (g.come (by rw [e_inRefName]; rfl))
  by_cases e_inRefUnknown : s.state = 33
  · have hf : lookOnce s c = lookInRefUnknown s c := by simp [lookOnce, e_inRefUnknown]
    rw [hf]
    exact sc_inRefUnknown
  by_cases e_inRefHash : s.state = 34
  · have hf : lookOnce s c = lookInRefHash s c := by simp [lookOnce, e_inRefHash]
    rw [hf]
    exact sc_inRefHash
  by_cases e_inRefNumber : s.state = 35
  · have hf : lookOnce s c = lookInRefNumber s c := by simp [lookOnce, e_inRefNumber]
    rw [hf]
    exact sc_inRefNumber (g.come (by rw [e_inRefNumber]; rfl))
  have hf : lookOnce s c = lookInData s c := by simp [lookOnce, e_inTitle, e_inRaw, e_inOpen, e_inClose, e_inLess, e_inLessClose, e_inLessName, e_inTag, e_inAttr, e_inName, e_inAfter, e_inEquals, e_inDouble, e_inSingle, e_inPlain, e_inValue, e_inSelf, e_inDecl, e_inBogus, e_inBegin, e_inBeginDash, e_inComment, e_inDash, e_inDashes, e_inBang, e_inDoctype, e_inKind, e_inKindName, e_inKindEnd, e_inKindRest, e_inRef, e_inRefName, e_inRefUnknown, e_inRefHash, e_inRefNumber]
  rw [hf]
  exact sc_inData
theorem sc_lookN : ∀ (n : Nat) (s : TS), Good s c → rank s.state c < n → szC (lookN n s c) ≤ szC s + 64 * n
  | 0, s, g, h => by omega
  | n + 1, s, g, h => by
    have hz := sc_lookOnce g
    rw [lookN]
    rcases good_lookOnce g with ⟨e, _⟩ | ⟨e, hg, hk⟩
    · rw [if_pos e]
      omega
    · rw [if_neg (by rw [e]; decide)]
      have := sc_lookN n _ hg (by omega)
      omega
theorem sc_look4 (hf : Fine s) (c : Int) : szC (lookN 4 s c) ≤ szC s + 256 := by
  have := sc_lookN (c := c) 4 s (hf.1 c) (by have := rank_le s.state c; omega)
  omega
theorem sc_pass (hf : Fine s) (c : Int) : szC (pass 4 s c) ≤ szC s + 256 := by
  have hf' : Fine (setBehind s c) := hf.head rfl rfl rfl rfl rfl rfl rfl rfl
  have e : szC (setBehind s c) = szC s := rfl
  unfold pass
  split
  · omega
  · split
    · exact sc_look4 hf' 10
    · exact sc_look4 hf' c
theorem sc_readN (w0 : World) : ∀ (f : Nat) (s : TS) (r : Str), r.length ≤ f → Fine s → s.place + r.length ≤ 1099511627776 → sz s + 512 * r.length ≤ lim → szC (readN 4 f s r).1 ≤ szC s + 256 * r.length
  | 0, s, r, _, _, _, _ => by
    rw [readN]
    show szC s ≤ _
    omega
  | f + 1, s, r, hl, hf, hp, hz => by
    rw [readN]
    by_cases h0 : (firstPt r).2 = 0
    · rw [if_pos h0]
      show szC s ≤ _
      omega
    · rw [if_neg h0]
      have hle := firstPt_le r
      have hd : (r.drop (firstPt r).2).length = r.length - (firstPt r).2 := List.length_drop
      obtain ⟨c0, c1⟩ := firstPt_rn r
      obtain ⟨_, i2, i3, i4, _⟩ := pass_fine (w0 := w0) (own0 := fun _ => False) hf c0 c1 (by omega) (by omega)
      have h1 := sc_readN w0 f (pass 4 s (firstPt r).1) (r.drop (firstPt r).2) (by omega) i3 (by omega) (by omega)
      have h2 := sc_pass hf (firstPt r).1
      omega
theorem sc_put (w0 : World) {n : Nat} (h : Open s n) (x : Str) (hn : n + x.length ≤ 1073741824) : szC (put s x) ≤ szC s + 256 * (x.length + 3) := by
  have h3 := h.short
  have hf : Fine { s with bytes := s.bytes + x.length } := h.fine.head rfl rfl rfl rfl rfl rfl rfl rfl
  have hl : (s.begun ++ x).length = s.begun.length + x.length := List.length_append
  have hz : sz ({ s with bytes := s.bytes + x.length } : TS) = sz s := rfl
  have hp : ({ s with bytes := s.bytes + x.length } : TS).place = s.place := rfl
  have hpl := h.place
  have hsz := h.small
  have h1 := sc_readN w0 (s.begun ++ x).length { s with bytes := s.bytes + x.length } (s.begun ++ x) (Nat.le_refl _) hf (by omega) (by unfold lim; omega)
  have e1 : szC ({ s with bytes := s.bytes + x.length } : TS) = szC s := rfl
  have e2 : szC (put s x) = szC (readN 4 (s.begun ++ x).length { s with bytes := s.bytes + x.length } (s.begun ++ x)).1 := rfl
  omega
theorem sc_endAll (w0 : World) {n : Nat} (h : Open s n) (hn : n ≤ 1073741824) : szC (endAll s) ≤ szC s + 512 := by
  have hf' : Fine { s with closed := true } := h.fine.head rfl rfl rfl rfl rfl rfl rfl rfl
  have hsz := h.small
  have hpl := h.place
  have hz : sz { s with closed := true } = sz s := rfl
  obtain ⟨_, i2, _⟩ := endPoints_fine (w0 := w0) (own0 := fun _ => False) hf' (by show s.place + 1 ≤ _; omega) (by unfold lim; omega)
  unfold endAll
  rw [sc_flush]
  have h1 := sc_look4 i2 (-1)
  have h2 : szC (endPoints 4 { s with closed := true }) ≤ szC s + 256 := by
    unfold endPoints
    split
    · exact Nat.le_add_right (szC s) 256
    · exact sc_pass (s := { ({ s with closed := true } : TS) with begun := [] }) (hf'.head rfl rfl rfl rfl rfl rfl rfl rfl) 65533
  omega
end
theorem toks_text (w0 : World) (x : Str) (hx : x.length ≤ 1073741824) {t : Tok} (ht : t ∈ toks x) (hk : t.kind = 0) : t.text.length ≤ 256 * x.length + 1280 := by
  have ho := Open.new (x.length : Int)
  have ho2 := (open_put (w0 := w0) (own0 := fun _ => False) ho x (by omega)).2.1
  have h1 := sc_put w0 ho x (by omega)
  have h2 := sc_endAll w0 ho2 (by omega)
  have h3 : szC ({ limit := (x.length : Int) } : TS) = 0 := rfl
  unfold toks at ht
  rw [closeT_told] at ht
  have h4 : t ∈ (endAll (put { limit := (x.length : Int) } x)).told := by
    rcases List.mem_append.1 ht with h | h
    · exact h
    · rw [List.mem_singleton.1 h] at hk
      cases hk
  have h5 := tsum_mem h4 hk
  have h6 : tsum (endAll (put { limit := (x.length : Int) } x)).told ≤ szC (endAll (put { limit := (x.length : Int) } x)) := by unfold szC; omega
  omega
end Go.Proofs.YtdfmapcnfficlaaGreatDoor

set_option linter.unusedSimpArgs false
set_option linter.unusedVariables false
namespace Go.Proofs.YtdfmapcnfficlaaGreatDoor
open Go Go.RowKit

theorem put_over (h : TS) (p : List Tok) (s : TS) (x : Str) (hb : h.begun = s.begun) : ∃ h', put (over h p s) x = over h' p (put s x) ∧ h'.begun = (put s x).begun := by
  rw [put_eq, put_eq s x]
  rw [show (over h p s).begun = s.begun from hb, over_readN]
  refine ⟨{ h with begun := (readN 4 (s.begun ++ x).length s (s.begun ++ x)).2, bytes := h.bytes + x.length }, ?_, rfl⟩
  simp only [over, List.nil_append]
theorem closeT_over (h : TS) (p : List Tok) (s : TS) (hb : h.begun = s.begun) : (closeT (over h p s)).told = p ++ (closeT s).told := by
  rw [closeT_told, closeT_told]
  obtain ⟨h', e, _⟩ := endAll_over h p s hb
  rw [e]
  show (p ++ (endAll s).told) ++ _ = _
  rw [List.append_assoc]

/-- The limit is nothing to the tokens. -/
theorem toks_two (l : Int) (x y : Str) : toks (x ++ y) = (closeT (put (put { limit := l } x) y)).told := by
  unfold toks
  rw [← put_put]
  have e : ({ limit := ((x ++ y).length : Int) } : TS) = over { limit := ((x ++ y).length : Int) } [] { limit := l } := rfl
  rw [e]
  obtain ⟨h1, e1, b1⟩ := put_over { limit := ((x ++ y).length : Int) } [] { limit := l } x rfl
  rw [e1]
  obtain ⟨h2, e2, b2⟩ := put_over h1 [] (put { limit := l } x) y b1
  rw [e2, closeT_over h2 [] _ b2]
  rfl
theorem toks_begin (l : Int) (x y : Str) : toks (x ++ y) = (put { limit := l } x).told ++ (closeT (put (take (put { limit := l } x)) y)).told := by
  rw [toks_two l x y]
  generalize put { limit := l } x = s
  rw [← closeT_ahead, ← put_ahead]
  congr 2
  simp [ahead, take]
theorem toks_done (l : Int) (x y : Str) (hT : (put { limit := l } x).text ≠ []) : DoneT (put { limit := l } x).text (put { limit := l } x).told.length (toks (x ++ y)) := by
  rw [toks_two l x y]
  refine pd_closeT hT (pd_put hT y ?_)
  exact ⟨Nat.le_refl _, .inl ⟨[], [], by simp, fun t ht => (by cases ht), by simp⟩⟩

theorem toks_small_len (x : Str) (hx : x.length ≤ 1073741824) : (toks x).length ≤ 512 * x.length + 1032 := by
  have ho := (open_put (w0 := default) (own0 := fun _ => False) (Open.new (x.length : Int)) x (by omega)).2.1
  have := endAll_small default ho (by omega)
  unfold toks
  rw [closeT_told, List.length_append]
  simp only [List.length_cons, List.length_nil]
  omega

theorem sz_take (s : TS) : sz (take s) ≤ sz s := by simp [sz, take]
theorem size_runes (x : Str) : ∀ (f i : Nat) (acc : Array Value), (Conv.runesFrom ⟨x.toArray⟩ f i acc).size = acc.size + cntL f (x.drop i)
  | 0, _, acc => by simp [Conv.runesFrom, cntL]
  | f + 1, i, acc => by
    unfold Conv.runesFrom
    rw [cntL]
    have hs : (⟨x.toArray⟩ : ByteArray).size = x.length := by simp [ByteArray.size]
    by_cases hi : i < x.length
    · rw [if_pos (by rw [hs]; exact hi), if_neg (by simp; omega)]
      have := size_runes x f (i + (Utf8.decode ⟨x.toArray⟩ i).2) (acc.push (.int .i32 (Int.ofNat (Utf8.decode ⟨x.toArray⟩ i).1)))
      rw [decode_drop] at this ⊢
      simp only at this ⊢
      rw [this, List.drop_drop]
      simp
      omega
    · rw [if_neg (by rw [hs]; exact hi), if_pos (by simp; omega)]
      rfl
theorem runes_size (x : Str) : (Conv.runesFrom ⟨x.toArray⟩ (⟨x.toArray⟩ : ByteArray).size 0 #[]).size = runeCount x := by
  rw [size_runes]
  simp [runeCount, ByteArray.size]
theorem count_le (x : Str) : runeCount x ≤ x.length := cntL_le _ _

set_option maxHeartbeats 8000000 in
set_option maxRecDepth 1000000 in
theorem begun_walk (x y : Str) (w : World) (hx : x.length + y.length ≤ 16777216) (B : Base w (fun _ => False)) :
    Calls Tryz.prog 6 #[.string ⟨x.toArray⟩, .string ⟨y.toArray⟩] w fun e w' => e = .returned (.bool true) ∧ More w w' := by
  have HAw := hide (awake_does w B)
  have HB := hide B
  have hcat := fun W => cat_run x y W (by unfold lim; omega)
  have hxl : (x.length : Int) ≤ 16777216 := by omega
  have hxy : (x ++ y).length ≤ 16777216 := by rw [List.length_append]; omega
  have HXY := hide hxy
  clear B hxy
  go_enter Tryz.func6, Tryz.ntmps6
  go_wp2_with fail
  refine (unhide HAw).mono ?_
  rintro e w1 ⟨rfl, m1⟩
  have hcat1 := hcat w1
  go_wp2_with fail
  refine (apart_does (x ++ y) w1 (by have := unhide HXY; omega) ((unhide HB).more m1)).mono ?_
  rintro e w2 ⟨v2, rfl, t2, m2'⟩
  have m2 := m1.trans' m2'
  have HB2 := hide ((unhide HB).more m2)
  have HT2 := hide t2
  have HM2 := hide m2
  clear t2 m2' m1 m2 HB HAw hcat hcat1
  go_wp2_with fail
  refine (new_does (x.length : Int) w2 (fun _ => False)).mono ?_
  rintro e w3 ⟨rfl, h3⟩
  rw [show max (x.length : Int) 0 = x.length by omega] at h3
  have ho := Open.new (x.length : Int)
  have HW := hide (write_ok (n := 0) ho x (by omega) (by simp) (by show (x.length : Int) ≤ _; omega) (unhide HB2) h3)
  have ho4 := (open_put (w0 := w2) (own0 := fun _ => False) ho x (by omega)).2.1
  have hsm := ho4.small
  have hbeg := toks_begin (x.length : Int) x y
  have HD := hide (toks_done (x.length : Int) x y)
  have HWF := hide (wa_put x (wa_new (x.length : Int))).1
  have HTX := hide (fun t ht hk => toks_text w2 (x ++ y) (by have := unhide HXY; omega) (t := t) ht hk)
  have HTS := hide (toks_small_len (x ++ y) (by have := unhide HXY; omega))
  have hwt : sz (put { limit := (x.length : Int) } x) ≤ lim := by unfold lim; omega
  have HTk := hide (fun W hW => take_does (w0 := w2) (own0 := fun _ => False) (b := w2.heap.size) (s := put { limit := (x.length : Int) } x) (ex := []) (w := W) hW)
  have HH := hide (fun ex W hW => held_does (w0 := w2) (own0 := fun _ => False) (b := w2.heap.size) (s := take (put { limit := (x.length : Int) } x)) (ex := ex) (w := W) hW (Nat.le_trans (sz_take _) hwt))
  rw [show (take (put { limit := (x.length : Int) } x)).text = (put { limit := (x.length : Int) } x).text from rfl] at HH
  clear ho ho4 hsm hwt h3
  generalize put { limit := (x.length : Int) } x = s1 at *
  generalize toks (x ++ y) = al at *
  go_wp2_with fail
  refine (unhide HW).mono ?_
  rintro e w4 ⟨rfl, h4⟩
  go_wp2_with fail
  refine (unhide HTk _ h4).mono ?_
  rintro e w5 ⟨r5, ta5, l5, rfl, h5⟩
  go_wp2_with fail
  refine (unhide HH _ _ h5).mono ?_
  rintro e w6 ⟨rfl, h6⟩
  have HV6 := hide (taken_toks h6 l5)
  have m6 := kept_more h6.2
  have HV2 := hide ((unhide HT2).more m6)
  have HM6 := hide ((unhide HM2).trans' m6)
  have hlen : s1.told.length ≤ al.length := by rw [hbeg, List.length_append]; omega
  have htake : al.take s1.told.length = s1.told := by rw [hbeg, List.take_left]
  have HTA := hide htake
  have hal := unhide HTS
  have hnn : runeCount s1.text ≤ s1.text.length := count_le _
  clear h4 h5 h6 l5 m6 HT2 HM2 HB2 HW HTk HH hbeg htake HTS
  obtain ⟨a2, cap2, rfl, hv2, hc2, hb2⟩ := unhide HV2
  have HV := hide hv2
  have HBd := hide hb2
  clear hv2 hb2 HV2
  have hv1 : ToksV w6 (.slice a2 s1.told.length cap2) s1.told := by
    refine ⟨a2, cap2, rfl, fun hne => ?_, by omega, fun t ht => ?_⟩
    · obtain ⟨g, e, hg⟩ := unhide HV (fun e => hne (by rw [e] at hlen; exact List.length_eq_zero_iff.1 (by simpa using hlen)))
      exact ⟨g, e, by rw [← unhide HTA]; exact hg.take _⟩
    · exact unhide HBd t (by rw [← unhide HTA] at ht; exact List.mem_of_mem_take ht)
  have HSm := hide (same_true s1.told w6 _ _ (unhide HV6) hv1 (by unfold lim; have := unhide HXY; omega))
  clear hv1 HV6
  have hcc : s1.told.length ≤ cap2 := by omega
  have hal2 : al.length ≤ 17179869184 := by have := unhide HXY; omega
  clear hal
  go_wp2_with fail
  refine (unhide HSm).mono ?_
  rintro e w7 ⟨rfl, m7⟩
  have HM7 := hide ((unhide HM6).trans' m7)
  have HV7 := hide (fun hne => (unhide HV hne).imp fun g hg => And.intro hg.1 (hg.2.more m7))
  clear HSm HM6 HV m7
  by_cases hT : s1.text = []
  · have hn0 : runeCount s1.text = 0 := by rw [hT]; simp [runeCount, cntL]
    rw [hn0]
    go_wp2
    go_loopw [13] (fun i wx => i = .int .i64 s1.told.length ∧ wx = w7) (fun _ _ => 0)
    case atStart => exact ⟨rfl, rfl⟩
    case round =>
      obtain ⟨rfl, rfl⟩ := hrel
      by_cases hlt : s1.told.length < al.length
      · go_wp2
        go_ret
        exact ⟨rfl, unhide HM7⟩
      · go_wp2
        go_ret
        exact ⟨rfl, unhide HM7⟩
  · obtain ⟨_, ws, xs, r, hd, hw⟩ := unhide HD hT
    have hnp : 0 < runeCount s1.text := by
      rw [count_step hT]
      omega
    have hcnt : runeCount s1.text ≤ runeCount (s1.text ++ xs) := by
      rw [(unhide HWF) xs]
      omega
    have hlen2 : s1.told.length + ws.length < al.length := by
      have := congrArg List.length hd
      rw [List.length_drop, List.length_append, List.length_cons] at this
      omega
    have hat : ∀ k, k < ws.length → ∃ t, al[s1.told.length + k]? = some t ∧ t.kind = 5 := fun k hk => by
      have h1 : (al.drop s1.told.length)[k]? = ws[k]? := by rw [hd, List.getElem?_append_left hk]
      rw [List.getElem?_drop] at h1
      exact ⟨ws[k], by rw [h1]; simp [hk], hw _ (List.getElem_mem hk)⟩
    have hlast : al[s1.told.length + ws.length]? = some { kind := 0, text := s1.text ++ xs } := by
      have h1 : (al.drop s1.told.length)[ws.length]? = some { kind := 0, text := s1.text ++ xs } := by rw [hd, List.getElem?_append_right (Nat.le_refl _)]; simp
      rw [List.getElem?_drop] at h1
      exact h1
    obtain ⟨g, rfl, hTA⟩ := unhide HV7 (fun e => by rw [e] at hlen2; simp at hlen2)
    have HTA7 := hide hTA
    have hglt := hTA.lt
    have hrc : runeCount (s1.text ++ xs) ≤ 70368744177664 := by
      have h1 := unhide HTX _ (List.mem_of_getElem? hlast) rfl
      have h2 := count_le (s1.text ++ xs)
      have h3 := unhide HXY
      simp only at h1
      omega
    clear hTA hd hw HD HV7 hT HWF
    generalize runeCount s1.text = n at *
    go_wp2
    go_loopw [13] (fun i wx => ∃ k : Nat, k ≤ ws.length ∧ i = .int .i64 ((s1.told.length + k : Nat) : Int) ∧ More w7 wx) (fun i _ => al.length - (intOf i).toNat)
    case atStart => exact ⟨0, Nat.zero_le _, by simp, More.refl _⟩
    case round =>
      obtain ⟨k, hk, rfl, hm⟩ := hrel
      by_cases hkl : k < ws.length
      · obtain ⟨t, ht, htk⟩ := hat k hkl
        obtain ⟨xt, d0, d1, d2, d3, d4, d5, _⟩ := ((unhide HTA7).more hm).cells _ t ht
        have hg' : g < wr.heap.size := ((unhide HTA7).more hm).lt
        rw [htk] at d0
        clear ht
        go_wp2
        go_roundw
        case rel => exact ⟨k + 1, by omega, by go_num, hm.alloc _⟩
        case measure => simp [intOf]; omega
      · have hk' : k = ws.length := by omega
        subst hk'
        obtain ⟨xt, d0, d1, d2, d3, d4, d5, _⟩ := ((unhide HTA7).more hm).cells _ _ hlast
        have hg' : g < wr.heap.size := ((unhide HTA7).more hm).lt
        have hcv : ∀ W, (convert 9 43 (.string ⟨(s1.text ++ xs).toArray⟩)).run Tryz.prog W = .ok (.slice (some ⟨W.heap.size, 0, none⟩) (runeCount (s1.text ++ xs)) (grownCap W (runeCount (s1.text ++ xs)) 0 21)) (W.drew.alloc (.cells (Conv.runesFrom ⟨(s1.text ++ xs).toArray⟩ (⟨(s1.text ++ xs).toArray⟩ : ByteArray).size 0 #[] ++ Array.replicate (grownCap W (runeCount (s1.text ++ xs)) 0 21 - runeCount (s1.text ++ xs)) (.int .i32 0)) 21)) := fun W => by
          have := run_runes_of_string (P := Tryz.prog) W 9 43 21 ⟨(s1.text ++ xs).toArray⟩ Tryz.underlying9 Tryz.underlying43 Tryz.underlying21 (by rw [runes_size]; exact hrc)
          rw [runes_size] at this
          exact this
        clear hlast hat
        generalize s1.text ++ xs = tx at *
        generalize runeCount tx = rc at *
        generalize (fun W : World => Conv.runesFrom ⟨tx.toArray⟩ (⟨tx.toArray⟩ : ByteArray).size 0 #[] ++ Array.replicate (grownCap W rc 0 21 - rc) (.int .i32 0)) = big at *
        go_wp2
        go_ret
        exact ⟨rfl, (unhide HM7).trans' (hm.trans' (by repeat (first | exact More.refl _ | refine More.alloc ?_ _ | refine More.drew ?_)))⟩
end Go.Proofs.YtdfmapcnfficlaaGreatDoor

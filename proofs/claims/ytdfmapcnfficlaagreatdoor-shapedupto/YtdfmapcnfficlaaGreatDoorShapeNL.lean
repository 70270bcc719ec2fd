/-
  The places of errors rise.
  The end: no error's place is behind that of the end.
  How long the names are that are told.
-/
import Derived.Test.YtdfmapcnfficlaaGreatDoorShapeSL
import Derived.Test.YtdfmapcnfficlaaGreatDoorWfAL
set_option linter.unusedSimpArgs false
set_option linter.unusedVariables false
namespace Go.Proofs.YtdfmapcnfficlaaGreatDoor
open Go Go.RowKit

theorem u8_of {z : Int} (h : 0 ≤ z ∧ z < 256) : (z.toNat.toUInt8).toNat = z.toNat := by
  simp [Nat.toUInt8, UInt8.toNat_ofNat']
  omega
theorem enc_asc {c : Int} (h : Asc (Lib.encodeRune c)) : (Lib.encodeRune c).length = 1 ∧ 0 ≤ c ∧ c ≤ 127 := by
  have key : ∀ z ∈ Lib.encodeRuneZ c, z < 128 := fun z hz => by
    have h0 := Lib.encodeRuneZ_byte c z hz
    have := h (z.toNat.toUInt8) (List.mem_map.2 ⟨z, hz, rfl⟩)
    rw [u8_of h0] at this
    omega
  by_cases h1 : 0 ≤ c ∧ c ≤ 127
  · refine ⟨?_, h1⟩
    unfold Lib.encodeRune
    rw [Lib.encodeRuneZ_one h1.1 h1.2]
    rfl
  · exfalso
    unfold Lib.encodeRuneZ at key
    rw [if_neg h1] at key
    repeat' split at key
    · have := key (192 + c / 64) (by simp)
      omega
    · have := key (224 + c / 4096) (by simp)
      omega
    · have := key (240 + c / 262144) (by simp)
      omega
    · have := key 239 (by simp)
      omega
theorem Asc.left {a b : Str} (h : Asc (a ++ b)) : Asc a := fun x hx => h x (by simp [hx])
theorem Asc.right {a b : Str} (h : Asc (a ++ b)) : Asc b := fun x hx => h x (by simp [hx])
theorem lowS_asc : ∀ (n : Nat) (x : Str), x.length ≤ n → Asc (lowS x) → Asc x
  | 0, x, h, _ => by
    have : x = [] := List.length_eq_zero_iff.1 (by omega)
    subst this
    exact fun y hy => by cases hy
  | n + 1, x, h, ha => by
    by_cases hx : x = []
    · subst hx
      exact fun y hy => by cases hy
    · have h1 := Lib.mapD_step lowC x hx
      have hpos : (0 : Int) ≤ lowC (Lib.decodeL x).1 := by unfold lowC; split <;> omega
      rw [if_pos hpos] at h1
      have ha' : Asc (Lib.encodeRune (lowC (Lib.decodeL x).1) ++ lowS (x.drop (Lib.decodeL x).2)) := by
        unfold lowS
        rw [← h1]
        exact ha
      have hr := (enc_asc ha'.left).2
      have hr2 : ((Lib.decodeL x).1 : Int) ≤ 127 := by
        unfold lowC at hr
        split at hr <;> omega
      have he := Lib.encode_decode x hx (fun hh => by omega)
      have hone : Lib.encodeRune ((Lib.decodeL x).1 : Int) = [UInt8.ofNat (Lib.decodeL x).1] := by
        unfold Lib.encodeRune
        rw [Lib.encodeRuneZ_one (by omega) hr2]
        simp [Nat.toUInt8]
      rw [hone] at he
      have ih := lowS_asc n (x.drop (Lib.decodeL x).2) (by rw [List.length_drop]; have := decodeL_pos x; omega) ha'.right
      intro y hy
      rw [← List.take_append_drop (Lib.decodeL x).2 x, ← he] at hy
      rcases List.mem_append.1 hy with hy | hy
      · rw [List.mem_singleton.1 hy, u8_nat _ (by omega)]
        omega
      · exact ih y hy
theorem partOf_asc {x y : Str} (h : partOf x y = true) (hy : Asc y) : Asc x := by
  simp only [partOf, Bool.and_eq_true] at h
  obtain ⟨r, hr⟩ := List.isPrefixOf_iff_prefix.1 h.2
  exact fun z hz => hy z (by rw [← hr]; simp [hz])
theorem mayDecl_asc {x : Str} (h : mayDecl x = true) : Asc x := by
  simp only [mayDecl, Bool.or_eq_true] at h
  rcases h with (h | h) | h
  · exact partOf_asc h (by unfold Asc; decide)
  · exact lowS_asc x.length x (Nat.le_refl _) (partOf_asc h (by unfold Asc; decide))
  · exact partOf_asc h (by unfold Asc; decide)

def lastW (l : List Tok) : Int := l.foldl (fun p t => if t.kind = 5 then t.place else p) 0
theorem lastW_snoc (l : List Tok) (t : Tok) : lastW (l ++ [t]) = if t.kind = 5 then t.place else lastW l := by simp [lastW]
def AllB (l : List Tok) : Prop := ∀ i t, l[i]? = some t → t.kind = 5 → lastW (l.take i) ≤ t.place
theorem AllB.snoc {l : List Tok} {t : Tok} (h : AllB l) (ht : t.kind = 5 → lastW l ≤ t.place) : AllB (l ++ [t]) := by
  intro i u hu hk
  by_cases hi : i < l.length
  · rw [List.getElem?_append_left hi] at hu
    rw [List.take_append_of_le_length (by omega)]
    exact h i u hu hk
  · have hi' : i = l.length := by
      have := (List.getElem?_eq_some_iff.1 hu).1
      simp at this
      omega
    subst hi'
    simp at hu
    subst hu
    rw [List.take_left]
    exact ht hk
def BB (k : Int) (s : TS) : Prop := AllB s.told ∧ lastW s.told ≤ s.place + k
section
variable {s : TS} {c : Int} {k : Int}
theorem bb_tok {t : Tok} (hk : t.kind ≠ 5) (h : BB k s) : BB k (tellTok s t) := by
  refine ⟨h.1.snoc fun e => absurd e hk, ?_⟩
  show lastW (s.told ++ [t]) ≤ s.place + k
  rw [lastW_snoc, if_neg hk]
  exact h.2
theorem bb_at {n : Str} {q : Int} (h : AllB s.told) (h1 : lastW s.told ≤ q) (h2 : q ≤ s.place + k) : BB k (wrongAt s n q) := by
  refine ⟨h.snoc fun _ => h1, ?_⟩
  show lastW (s.told ++ [{ kind := 5, name := n, place := q }]) ≤ s.place + k
  rw [lastW_snoc, if_pos rfl]
  exact h2
theorem bb_wrong {n : Str} (h : BB 0 s) : BB 0 (wrong s n) := bb_at h.1 (by have := h.2; omega) (by omega)
theorem bb_flush (h : BB k s) : BB k (flush s) := by
  unfold flush
  split
  · exact h
  · exact bb_tok (t := { kind := 0, text := s.text }) (by simp) h
theorem bb_tell {t : Tok} (hk : t.kind ≠ 5) (h : BB k s) : BB k (tell s t) := bb_tok hk (bb_flush h)
theorem bb_withoutNul {c : Int} (h : BB 0 s) : BB 0 (withoutNul s c) := by
  unfold withoutNul
  split
  · exact bb_wrong h
  · exact h
theorem bb_addText {l : Str} (h : BB 0 s) : BB 0 (addText s l) := h
theorem bb_addToComment {l : Str} (h : BB 0 s) : BB 0 (addToComment s l) := h
theorem bb_putComment {c : Int} (h : BB 0 s) : BB 0 (putComment s c) := bb_withoutNul h
theorem bb_tellComment (h : BB 0 s) : BB 0 (tellComment s) := bb_tell (t := { kind := 3, text := s.comment }) (by simp) h
theorem bb_endComment (h : BB 0 s) : BB 0 (endComment s) := bb_tellComment h
theorem bb_cutComment (h : BB 0 s) : BB 0 (cutComment s) := bb_tellComment (bb_wrong h)
theorem bb_tellDoctype (h : BB 0 s) : BB 0 (tellDoctype s) := bb_tell (t := { kind := 4, name := s.dname, flag := s.odd }) (by simp) h
theorem bb_endDoctype (h : BB 0 s) : BB 0 (endDoctype s) := bb_tellDoctype h
theorem bb_cutDoctype (h : BB 0 s) : BB 0 (cutDoctype s) := bb_tellDoctype (s := { wrong s [101, 110, 100, 45, 105, 110, 45, 100, 111, 99, 116, 121, 112, 101] with odd := true }) (bb_wrong h)
theorem bb_addToKind {c : Int} (h : BB 0 s) : BB 0 (addToKind s c) := bb_withoutNul (c := c) h
theorem bb_putText {c : Int} (h : BB 0 s) : BB 0 (putText s c) := bb_withoutNul (c := c) h
theorem bb_putTag {c : Int} (h : BB 0 s) : BB 0 (putTag s c) := bb_withoutNul (c := c) h
theorem bb_addToName {c : Int} (h : BB 0 s) : BB 0 (addToName s c) := h
theorem bb_addToValue {c : Int} (h : BB k s) : BB k (addToValue s c) := h
theorem bb_newAtt (h : BB 0 s) : BB 0 (newAtt s) := h
theorem bb_lessName {c : Int} (h : BB 0 s) : BB 0 (lessName s c) := h
theorem bb_endName (h : BB 0 s) : BB 0 (endName s) := by
  unfold endName nameIsNew
  repeat' split
  · exact bb_wrong (n := twiceS) h
  · exact h
theorem bb_dropTag (h : BB 0 s) : BB 0 (dropTag s) := bb_wrong (n := [101, 110, 100, 45, 105, 110, 45, 116, 97, 103]) h
theorem bb_addRunes (t : ByteArray) : ∀ (f pos : Nat) (s : TS), BB k s → BB k (addRunes t f pos s)
  | 0, _, s, h => h
  | f + 1, pos, s, h => by
    rw [addRunes]
    split
    · exact bb_addRunes t f _ _ (bb_addToValue h)
    · exact h
theorem bb_addToTarget {l : Str} (h : BB k s) : BB k (addToTarget s l) := by
  unfold addToTarget
  split
  · exact bb_addRunes _ _ _ _ h
  · exact h
theorem bb_endNumber (q : Int) (h : BB k s) (h1 : lastW s.told ≤ q) (h2 : q ≤ s.place + k) : BB k (endNumber s q) := by
  unfold endNumber
  refine bb_addToTarget ?_
  split
  · exact h
  · exact bb_at h.1 h1 h2
theorem bb_leaveAsItIs (h : BB 0 s) : BB 0 (leaveAsItIs s) := bb_addToTarget (l := [38] ++ s.rcome) h
theorem bb_tellTag (h : BB 0 s) : BB 0 (tellTag s) := by
  unfold tellTag
  split
  · exact bb_tell (s := tagS s) (t := { kind := 1, name := s.tag.name, attrs := attrsOf s.tag.atts, flag := s.tag.closes }) (by simp) h
  · unfold endTag
    have k1 : BB 0 (if s.tag.atts = [] then tagS s else wrong (tagS s) [101, 110, 100, 45, 97, 116, 116, 114, 105, 98, 117, 116, 101, 115]) := by
      split
      · exact h
      · exact bb_wrong (s := tagS s) h
    generalize (if s.tag.atts = [] then tagS s else wrong (tagS s) [101, 110, 100, 45, 97, 116, 116, 114, 105, 98, 117, 116, 101, 115]) = s1 at *
    have k2 : BB 0 (if s.tag.closes = true then wrong s1 [101, 110, 100, 45, 115, 108, 97, 115, 104] else s1) := by
      split
      · exact bb_wrong k1
      · exact k1
    exact bb_tell (t := { kind := 2, name := s.tag.name }) (by simp) k2
theorem bb_noDecl (h : BB 0 s) : BB 0 (noDecl s) := h
theorem bb_setCome {l : Str} (h : BB 0 s) : BB 0 (setCome s l) := h
theorem bb_addDigit {c : Int} (h : BB 0 s) : BB 0 (addDigit s c) := h
theorem bb_toReference (h : BB 0 s) : BB 0 (toReference s) := h
theorem bb_inData (h : BB 0 s) : BB 0 (lookInData s c).2 := by
  unfold lookInData
  repeat' split
  · exact h
  · exact (bb_toReference h)
  · exact (show BB 0 s from h)
  · exact (bb_addText (bb_wrong h))
  · exact (bb_addText h)
theorem de_inData : (lookInData s c).2.declared = s.declared := by
  unfold lookInData
  repeat' split
  all_goals first | rfl | (simp only [fr_wrong_declared, fr_addText_declared]; done)
theorem bb_inTitle (h : BB 0 s) : BB 0 (lookInTitle s c).2 := by
  unfold lookInTitle
  repeat' split
  · exact h
  · exact (bb_toReference h)
  · exact (show BB 0 s from h)
  · exact (bb_putText h)
theorem de_inTitle : (lookInTitle s c).2.declared = s.declared := by
  unfold lookInTitle
  repeat' split
  all_goals first | rfl | (simp only [fr_putText_declared]; done)
theorem bb_inRaw (h : BB 0 s) : BB 0 (lookInRaw s c).2 := by
  unfold lookInRaw
  repeat' split
  · exact h
  · exact (bb_putText h)
  · exact (show BB 0 s from h)
  · exact (bb_putText h)
theorem de_inRaw : (lookInRaw s c).2.declared = s.declared := by
  unfold lookInRaw
  repeat' split
  all_goals first | rfl | (simp only [fr_putText_declared]; done)
theorem bb_inOpen (h : BB 0 s) : BB 0 (lookInOpen s c).2 := by
  unfold lookInOpen
  repeat' split
  · exact (show BB 0 s from h)
  · exact (show BB 0 s from h)
  · exact (show BB 0 (({ s with tag := { kind := 1 } } : TS)) from (show BB 0 s from h))
  · exact (show BB 0 (wrong s [113, 117, 101, 115, 116, 105, 111, 110]) from (bb_wrong h))
  · exact (bb_addText (bb_wrong h))
  · exact (show BB 0 (addText (wrong s [102, 105, 114, 115, 116]) [60]) from (bb_addText (bb_wrong h)))
theorem de_inOpen : (lookInOpen s c).2.declared = s.declared := by
  unfold lookInOpen
  repeat' split
  all_goals first | rfl | (simp only [fr_wrong_declared, fr_addText_declared]; done)
theorem bb_inClose (h : BB 0 s) : BB 0 (lookInClose s c).2 := by
  unfold lookInClose
  repeat' split
  · exact (show BB 0 (({ s with tag := { kind := 2 } } : TS)) from (show BB 0 s from h))
  · exact (show BB 0 (wrong s [110, 111, 45, 110, 97, 109, 101]) from (bb_wrong h))
  · exact (bb_addText (bb_wrong h))
  · exact (show BB 0 (wrong s [102, 105, 114, 115, 116]) from (bb_wrong h))
theorem de_inClose : (lookInClose s c).2.declared = s.declared := by
  unfold lookInClose
  repeat' split
  all_goals first | rfl | (simp only [fr_wrong_declared, fr_addText_declared]; done)
theorem bb_inLess (h : BB 0 s) : BB 0 (lookInLess s c).2 := by
  unfold lookInLess backToBase
  repeat' split
  all_goals exact h
theorem de_inLess : (lookInLess s c).2.declared = s.declared := by
  unfold lookInLess backToBase
  repeat' split
  all_goals first | rfl | (simp only [fr_addText_declared]; done)
theorem bb_inLessClose (h : BB 0 s) : BB 0 (lookInLessClose s c).2 := by
  unfold lookInLessClose backToBase
  repeat' split
  all_goals exact h
theorem de_inLessClose : (lookInLessClose s c).2.declared = s.declared := by
  unfold lookInLessClose backToBase
  repeat' split
  all_goals first | rfl | (simp only [fr_addText_declared]; done)
theorem bb_inLessName (h : BB 0 s) : BB 0 (lookInLessName s c).2 := by
  unfold lookInLessName backToBase
  repeat' split
  all_goals exact h
theorem de_inLessName : (lookInLessName s c).2.declared = s.declared := by
  unfold lookInLessName backToBase
  repeat' split
  all_goals first | rfl | (simp only [fr_addText_declared, fr_lessName_declared]; done)
theorem bb_inTag (h : BB 0 s) : BB 0 (lookInTag s c).2 := by
  unfold lookInTag
  repeat' split
  · exact (show BB 0 s from h)
  · exact (show BB 0 s from h)
  · exact (bb_tellTag h)
  · exact (bb_dropTag h)
  · exact (bb_putTag h)
theorem de_inTag : (lookInTag s c).2.declared = s.declared := by
  unfold lookInTag
  repeat' split
  all_goals first | rfl | (simp only [fr_putTag_declared, fr_dropTag_declared, fr_tellTag_declared]; done)
theorem bb_inAttr (h : BB 0 s) : BB 0 (lookInAttr s c).2 := by
  unfold lookInAttr
  repeat' split
  · exact h
  · exact (show BB 0 s from h)
  · exact (show BB 0 (addToName (newAtt (wrong s [101, 113, 117, 97, 108, 115])) 61) from (bb_addToName (bb_newAtt (bb_wrong h))))
  · exact (show BB 0 (newAtt s) from (bb_newAtt h))
theorem de_inAttr : (lookInAttr s c).2.declared = s.declared := by
  unfold lookInAttr
  repeat' split
  all_goals first | rfl | (simp only [fr_wrong_declared, fr_addToName_declared, fr_newAtt_declared]; done)
theorem bb_inName (h : BB 0 s) : BB 0 (lookInName s c).2 := by
  unfold lookInName
  repeat' split
  · exact (show BB 0 (endName s) from (bb_endName h))
  · exact (show BB 0 (endName s) from (bb_endName h))
  · exact (bb_addToName (bb_withoutNul (bb_wrong h)))
  · exact (bb_addToName (bb_withoutNul h))
theorem de_inName : (lookInName s c).2.declared = s.declared := by
  unfold lookInName
  repeat' split
  all_goals first | rfl | (simp only [fr_wrong_declared, fr_withoutNul_declared, fr_addToName_declared, fr_endName_declared]; done)
theorem bb_inAfter (h : BB 0 s) : BB 0 (lookInAfter s c).2 := by
  unfold lookInAfter
  repeat' split
  · exact h
  · exact (show BB 0 s from h)
  · exact (show BB 0 s from h)
  · exact (bb_tellTag h)
  · exact (bb_dropTag h)
  · exact (show BB 0 (newAtt s) from (bb_newAtt h))
theorem de_inAfter : (lookInAfter s c).2.declared = s.declared := by
  unfold lookInAfter
  repeat' split
  all_goals first | rfl | (simp only [fr_newAtt_declared, fr_dropTag_declared, fr_tellTag_declared]; done)
theorem bb_inEquals (h : BB 0 s) : BB 0 (lookInEquals s c).2 := by
  unfold lookInEquals
  repeat' split
  · exact h
  · exact (show BB 0 s from h)
  · exact (show BB 0 s from h)
  · exact (bb_tellTag (bb_wrong h))
  · exact (show BB 0 s from h)
theorem de_inEquals : (lookInEquals s c).2.declared = s.declared := by
  unfold lookInEquals
  repeat' split
  all_goals first | rfl | (simp only [fr_wrong_declared, fr_tellTag_declared]; done)
theorem bb_inDouble (h : BB 0 s) : BB 0 (lookInDouble s c).2 := by
  unfold lookInDouble
  repeat' split
  · exact (show BB 0 s from h)
  · exact (bb_toReference h)
  · exact (bb_dropTag h)
  · exact (bb_addToValue (bb_withoutNul h))
theorem de_inDouble : (lookInDouble s c).2.declared = s.declared := by
  unfold lookInDouble
  repeat' split
  all_goals first | rfl | (simp only [fr_withoutNul_declared, fr_addToValue_declared, fr_dropTag_declared]; done)
theorem bb_inSingle (h : BB 0 s) : BB 0 (lookInSingle s c).2 := by
  unfold lookInSingle
  repeat' split
  · exact (show BB 0 s from h)
  · exact (bb_toReference h)
  · exact (bb_dropTag h)
  · exact (bb_addToValue (bb_withoutNul h))
theorem de_inSingle : (lookInSingle s c).2.declared = s.declared := by
  unfold lookInSingle
  repeat' split
  all_goals first | rfl | (simp only [fr_withoutNul_declared, fr_addToValue_declared, fr_dropTag_declared]; done)
theorem bb_inPlain (h : BB 0 s) : BB 0 (lookInPlain s c).2 := by
  unfold lookInPlain
  repeat' split
  · exact (show BB 0 s from h)
  · exact (bb_toReference h)
  · exact (bb_tellTag h)
  · exact (bb_dropTag h)
  · exact (bb_addToValue (bb_withoutNul (bb_wrong h)))
  · exact (bb_addToValue (bb_withoutNul h))
theorem de_inPlain : (lookInPlain s c).2.declared = s.declared := by
  unfold lookInPlain
  repeat' split
  all_goals first | rfl | (simp only [fr_wrong_declared, fr_withoutNul_declared, fr_addToValue_declared, fr_dropTag_declared, fr_tellTag_declared]; done)
theorem bb_inValue (h : BB 0 s) : BB 0 (lookInValue s c).2 := by
  unfold lookInValue
  repeat' split
  · exact (show BB 0 s from h)
  · exact (show BB 0 s from h)
  · exact (bb_tellTag h)
  · exact (bb_dropTag h)
  · exact (show BB 0 (wrong s [110, 111, 45, 98, 108, 97, 110, 107]) from (bb_wrong h))
theorem de_inValue : (lookInValue s c).2.declared = s.declared := by
  unfold lookInValue
  repeat' split
  all_goals first | rfl | (simp only [fr_wrong_declared, fr_dropTag_declared, fr_tellTag_declared]; done)
theorem bb_inSelf (h : BB 0 s) : BB 0 (lookInSelf s c).2 := by
  unfold lookInSelf
  repeat' split
  · exact (bb_tellTag (show BB 0 s from h))
  · exact (bb_dropTag h)
  · exact (show BB 0 (wrong s [115, 108, 97, 115, 104]) from (bb_wrong h))
theorem de_inSelf : (lookInSelf s c).2.declared = s.declared := by
  unfold lookInSelf
  repeat' split
  all_goals first | rfl | (simp only [fr_wrong_declared, fr_dropTag_declared, fr_tellTag_declared]; done)
theorem bb_inBogus (h : BB 0 s) : BB 0 (lookInBogus s c).2 := by
  unfold lookInBogus
  repeat' split
  · exact (bb_endComment h)
  · exact (bb_tellComment h)
  · exact (bb_putComment h)
theorem de_inBogus : (lookInBogus s c).2.declared = s.declared := by
  unfold lookInBogus
  repeat' split
  all_goals first | rfl | (simp only [fr_tellComment_declared, fr_endComment_declared, fr_putComment_declared]; done)
theorem bb_inBegin (h : BB 0 s) : BB 0 (lookInBegin s c).2 := by
  unfold lookInBegin
  repeat' split
  · exact (show BB 0 s from h)
  · exact (bb_endComment (bb_wrong h))
  · exact (show BB 0 s from h)
theorem de_inBegin : (lookInBegin s c).2.declared = s.declared := by
  unfold lookInBegin
  repeat' split
  all_goals first | rfl | (simp only [fr_wrong_declared, fr_endComment_declared]; done)
theorem bb_inBeginDash (h : BB 0 s) : BB 0 (lookInBeginDash s c).2 := by
  unfold lookInBeginDash lookInDash
  repeat' split
  · exact (bb_endComment (bb_wrong h))
  · exact (show BB 0 s from h)
  · exact (bb_cutComment h)
  · exact (show BB 0 (addToComment s [45]) from (bb_addToComment h))
theorem de_inBeginDash : (lookInBeginDash s c).2.declared = s.declared := by
  unfold lookInBeginDash lookInDash
  repeat' split
  all_goals first | rfl | (simp only [fr_wrong_declared, fr_addToComment_declared, fr_cutComment_declared, fr_endComment_declared]; done)
theorem bb_inComment (h : BB 0 s) : BB 0 (lookInComment s c).2 := by
  unfold lookInComment
  repeat' split
  · exact (show BB 0 s from h)
  · exact (bb_cutComment h)
  · exact (bb_putComment h)
theorem de_inComment : (lookInComment s c).2.declared = s.declared := by
  unfold lookInComment
  repeat' split
  all_goals first | rfl | (simp only [fr_cutComment_declared, fr_putComment_declared]; done)
theorem bb_inDash (h : BB 0 s) : BB 0 (lookInDash s c).2 := by
  unfold lookInDash
  repeat' split
  · exact (show BB 0 s from h)
  · exact (bb_cutComment h)
  · exact (show BB 0 (addToComment s [45]) from (bb_addToComment h))
theorem de_inDash : (lookInDash s c).2.declared = s.declared := by
  unfold lookInDash
  repeat' split
  all_goals first | rfl | (simp only [fr_addToComment_declared, fr_cutComment_declared]; done)
theorem bb_inDashes (h : BB 0 s) : BB 0 (lookInDashes s c).2 := by
  unfold lookInDashes
  repeat' split
  · exact (bb_endComment h)
  · exact (show BB 0 s from h)
  · exact (bb_addToComment h)
  · exact (bb_cutComment h)
  · exact (show BB 0 (addToComment s [45, 45]) from (bb_addToComment h))
theorem de_inDashes : (lookInDashes s c).2.declared = s.declared := by
  unfold lookInDashes
  repeat' split
  all_goals first | rfl | (simp only [fr_addToComment_declared, fr_cutComment_declared, fr_endComment_declared]; done)
theorem bb_inBang (h : BB 0 s) : BB 0 (lookInBang s c).2 := by
  unfold lookInBang
  repeat' split
  · exact (show BB 0 (addToComment s [45, 45, 33]) from (bb_addToComment h))
  · exact (bb_endComment (bb_wrong h))
  · exact (bb_cutComment h)
  · exact (show BB 0 (addToComment s [45, 45, 33]) from (bb_addToComment h))
theorem de_inBang : (lookInBang s c).2.declared = s.declared := by
  unfold lookInBang
  repeat' split
  all_goals first | rfl | (simp only [fr_wrong_declared, fr_addToComment_declared, fr_cutComment_declared, fr_endComment_declared]; done)
theorem bb_inDoctype (h : BB 0 s) : BB 0 (lookInDoctype s c).2 := by
  unfold lookInDoctype
  repeat' split
  · exact (show BB 0 s from h)
  · exact (show BB 0 s from h)
  · exact (bb_cutDoctype h)
  · exact (show BB 0 (wrong s [110, 111, 45, 98, 108, 97, 110, 107]) from (bb_wrong h))
theorem de_inDoctype : (lookInDoctype s c).2.declared = s.declared := by
  unfold lookInDoctype
  repeat' split
  all_goals first | rfl | (simp only [fr_wrong_declared, fr_cutDoctype_declared]; done)
theorem bb_inKind (h : BB 0 s) : BB 0 (lookInKind s c).2 := by
  unfold lookInKind
  repeat' split
  · exact h
  · exact (bb_endDoctype (show BB 0 (wrong s [110, 111, 45, 110, 97, 109, 101]) from (bb_wrong h)))
  · exact (bb_cutDoctype h)
  · exact (show BB 0 (addToKind s c) from (bb_addToKind h))
theorem de_inKind : (lookInKind s c).2.declared = s.declared := by
  unfold lookInKind
  repeat' split
  all_goals first | rfl | (simp only [fr_wrong_declared, fr_cutDoctype_declared, fr_endDoctype_declared, fr_addToKind_declared]; done)
theorem bb_inKindName (h : BB 0 s) : BB 0 (lookInKindName s c).2 := by
  unfold lookInKindName
  repeat' split
  · exact (show BB 0 s from h)
  · exact (bb_endDoctype h)
  · exact (bb_cutDoctype h)
  · exact (bb_addToKind h)
theorem de_inKindName : (lookInKindName s c).2.declared = s.declared := by
  unfold lookInKindName
  repeat' split
  all_goals first | rfl | (simp only [fr_cutDoctype_declared, fr_endDoctype_declared, fr_addToKind_declared]; done)
theorem bb_inKindEnd (h : BB 0 s) : BB 0 (lookInKindEnd s c).2 := by
  unfold lookInKindEnd
  repeat' split
  · exact h
  · exact (bb_endDoctype h)
  · exact (bb_cutDoctype h)
  · exact (show BB 0 (({ wrong s [107, 105, 110, 100] with odd := true } : TS)) from (show BB 0 (wrong s [107, 105, 110, 100]) from (bb_wrong h)))
theorem de_inKindEnd : (lookInKindEnd s c).2.declared = s.declared := by
  unfold lookInKindEnd
  repeat' split
  all_goals first | rfl | (simp only [fr_wrong_declared, fr_cutDoctype_declared, fr_endDoctype_declared]; done)
theorem bb_inKindRest (h : BB 0 s) : BB 0 (lookInKindRest s c).2 := by
  unfold lookInKindRest
  repeat' split
  · exact (bb_endDoctype h)
  · exact (bb_wrong h)
  · exact (bb_tellDoctype h)
  · exact h
theorem de_inKindRest : (lookInKindRest s c).2.declared = s.declared := by
  unfold lookInKindRest
  repeat' split
  all_goals first | rfl | (simp only [fr_wrong_declared, fr_tellDoctype_declared, fr_endDoctype_declared]; done)
theorem bb_inRef (h : BB 0 s) : BB 0 (lookInRef s c).2 := by
  unfold lookInRef
  repeat' split
  · exact (show BB 0 s from h)
  · exact (show BB 0 (setCome s [35]) from (bb_setCome h))
  · exact (bb_leaveAsItIs h)
theorem de_inRef : (lookInRef s c).2.declared = s.declared := by
  unfold lookInRef
  repeat' split
  all_goals first | rfl | (simp only [fr_leaveAsItIs_declared, fr_setCome_declared]; done)
theorem bb_inRefUnknown (h : BB 0 s) : BB 0 (lookInRefUnknown s c).2 := by
  unfold lookInRefUnknown
  repeat' split
  · exact (bb_addToTarget h)
  · exact (show BB 0 (wrong s [117, 110, 107, 110, 111, 119, 110]) from (bb_wrong h))
  · exact (show BB 0 s from h)
theorem de_inRefUnknown : (lookInRefUnknown s c).2.declared = s.declared := by
  unfold lookInRefUnknown
  repeat' split
  all_goals first | rfl | (simp only [fr_wrong_declared, fr_addToTarget_declared]; done)
theorem bb_inRefHash (h : BB 0 s) : BB 0 (lookInRefHash s c).2 := by
  unfold lookInRefHash
  repeat' split
  · exact (show BB 0 (setCome s (s.rcome ++ Lib.encodeRune c)) from (bb_setCome h))
  · exact (show BB 0 s from h)
theorem de_inRefHash : (lookInRefHash s c).2.declared = s.declared := by
  unfold lookInRefHash
  repeat' split
  all_goals first | rfl | (simp only [fr_setCome_declared]; done)

/-- Places rise; k: whether the code point has been taken. -/
structure InvB (k : Int) (s : TS) : Prop where
  bb : BB k s
  ref : s.state = 31 ∨ s.state = 32 → lastW s.told ≤ s.place + k - s.rcome.length
  decl : s.state = 18 → lastW s.told ≤ s.place + k - s.declared.length
  none' : s.state ≠ 18 → s.declared = []
theorem BB.up (h : BB 0 s) : BB 1 s := ⟨h.1, by have := h.2; omega⟩
def LB (r : Int × TS) : Prop := (r.1 = 0 → InvB 1 r.2) ∧ (r.1 = 1 → InvB 0 r.2)
/-- A look of a state that is none of the special ones. -/
theorem lb_plain {r : Int × TS} (h : BB 0 r.2) (ho : okSt r.2) (hd : r.2.declared = []) : LB r := by
  refine ⟨fun _ => ⟨h.up, fun hr => ?_, fun e => absurd e ho.2.2.1, fun _ => hd⟩, fun _ => ⟨h, fun hr => ?_, fun e => absurd e ho.2.2.1, fun _ => hd⟩⟩
  · rcases hr with hr | hr
    · rw [ho.2.2.2 hr]
      have := h.2
      simp
      omega
    · exact absurd hr ho.2.1
  · rcases hr with hr | hr
    · rw [ho.2.2.2 hr]
      have := h.2
      simp
      omega
    · exact absurd hr ho.2.1
theorem lb_free {r : Int × TS} (h : BB 0 r.2) (h1 : r.2.state ≠ 31) (h2 : r.2.state ≠ 32) (hd : r.2.declared = []) : LB r := by
  refine ⟨fun _ => ⟨h.up, fun hr => (hr.elim h1 h2).elim, fun _ => ?_, fun _ => hd⟩, fun _ => ⟨h, fun hr => (hr.elim h1 h2).elim, fun _ => ?_, fun _ => hd⟩⟩
  · rw [hd]
    have := h.2
    simp
    omega
  · rw [hd]
    have := h.2
    simp
    omega
theorem lb_inOpen (g : Good s c) (hst : s.state = 3) (h : InvB 0 s) : LB (lookInOpen s c) := by
  have hb := bb_inOpen (c := c) h.bb
  have hd : (lookInOpen s c).2.declared = [] := de_inOpen.trans (h.none' (by rw [hst]; decide))
  have hs : (lookInOpen s c).2.state ≠ 31 ∧ (lookInOpen s c).2.state ≠ 32 := by
    unfold lookInOpen
    repeat' split
    · exact ⟨by show (18 : Int) ≠ _; decide, by show (18 : Int) ≠ _; decide⟩
    · exact ⟨by show (4 : Int) ≠ _; decide, by show (4 : Int) ≠ _; decide⟩
    · exact ⟨by show (8 : Int) ≠ _; decide, by show (8 : Int) ≠ _; decide⟩
    · exact ⟨by show (19 : Int) ≠ _; decide, by show (19 : Int) ≠ _; decide⟩
    · exact ⟨by show s.state ≠ _; rw [hst]; decide, by show s.state ≠ _; rw [hst]; decide⟩
    · exact ⟨by show (0 : Int) ≠ _; decide, by show (0 : Int) ≠ _; decide⟩
  exact lb_free hb hs.1 hs.2 hd
theorem lb_inAttr (g : Good s c) (hst : s.state = 9) (h : InvB 0 s) : LB (lookInAttr s c) := by
  have hb := bb_inAttr (c := c) h.bb
  have hd : (lookInAttr s c).2.declared = [] := de_inAttr.trans (h.none' (by rw [hst]; decide))
  have hs : (lookInAttr s c).2.state ≠ 31 ∧ (lookInAttr s c).2.state ≠ 32 := by
    unfold lookInAttr
    repeat' split
    · exact ⟨by show s.state ≠ _; rw [hst]; decide, by show s.state ≠ _; rw [hst]; decide⟩
    · exact ⟨by show (11 : Int) ≠ _; decide, by show (11 : Int) ≠ _; decide⟩
    · exact ⟨by show (10 : Int) ≠ _; decide, by show (10 : Int) ≠ _; decide⟩
    · exact ⟨by show (10 : Int) ≠ _; decide, by show (10 : Int) ≠ _; decide⟩
  exact lb_free hb hs.1 hs.2 hd
theorem lb_inAfter (g : Good s c) (hst : s.state = 11) (h : InvB 0 s) : LB (lookInAfter s c) := by
  have hb := bb_inAfter (c := c) h.bb
  have hd : (lookInAfter s c).2.declared = [] := de_inAfter.trans (h.none' (by rw [hst]; decide))
  have hs : (lookInAfter s c).2.state ≠ 31 ∧ (lookInAfter s c).2.state ≠ 32 := by
    unfold lookInAfter
    repeat' split
    · exact ⟨by show s.state ≠ _; rw [hst]; decide, by show s.state ≠ _; rw [hst]; decide⟩
    · exact ⟨by show (17 : Int) ≠ _; decide, by show (17 : Int) ≠ _; decide⟩
    · exact ⟨by show (12 : Int) ≠ _; decide, by show (12 : Int) ≠ _; decide⟩
    · have hh := (tellTag_states s)
      refine ⟨?_, ?_⟩
      · show (tellTag s).state ≠ _
        rw [hh.1]
        rcases hh.2 with e | e | e <;> (rw [e]; decide)
      · show (tellTag s).state ≠ _
        rw [hh.1]
        rcases hh.2 with e | e | e <;> (rw [e]; decide)
    · exact ⟨by show s.state ≠ _; rw [hst]; decide, by show s.state ≠ _; rw [hst]; decide⟩
    · exact ⟨by show (10 : Int) ≠ _; decide, by show (10 : Int) ≠ _; decide⟩
  exact lb_free hb hs.1 hs.2 hd
theorem lb_inName (g : Good s c) (hst : s.state = 10) (h : InvB 0 s) : LB (lookInName s c) := by
  have hb := bb_inName (c := c) h.bb
  have hd : (lookInName s c).2.declared = [] := de_inName.trans (h.none' (by rw [hst]; decide))
  have hs : (lookInName s c).2.state ≠ 31 ∧ (lookInName s c).2.state ≠ 32 := by
    unfold lookInName
    repeat' split
    · exact ⟨by show (11 : Int) ≠ _; decide, by show (11 : Int) ≠ _; decide⟩
    · exact ⟨by show (12 : Int) ≠ _; decide, by show (12 : Int) ≠ _; decide⟩
    · simp only [fr_addToName_state, fr_withoutNul_state, fr_wrong_state]
      exact ⟨by rw [hst]; decide, by rw [hst]; decide⟩
    · simp only [fr_addToName_state, fr_withoutNul_state]
      exact ⟨by rw [hst]; decide, by rw [hst]; decide⟩
  exact lb_free hb hs.1 hs.2 hd
theorem back_free {q : Int} (h : backOk q) : q ≠ 31 ∧ q ≠ 32 ∧ q ≠ 18 := by
  rcases h with h | h | h | h | h <;> (rw [h]; decide)
theorem lb_inRef (g : Good s c) (hst : s.state = 31) (h : InvB 0 s) : LB (lookInRef s c) := by
  have hd : s.declared = [] := h.none' (by rw [hst]; decide)
  have hr := h.ref (.inl hst)
  unfold lookInRef
  repeat' split
  · refine ⟨fun e => absurd (show (1 : Int) = 0 from e) (by decide), fun _ => ⟨h.bb, fun _ => hr, fun e => absurd e (by show (32 : Int) ≠ _; decide), fun _ => hd⟩⟩
  · exact lb_free (r := (0, { setCome s [35] with state := 34 })) h.bb (by show (34 : Int) ≠ _; decide) (by show (34 : Int) ≠ _; decide) hd
  · have hb := back_free (g.back (by rw [hst]; rfl))
    exact lb_free (r := (1, leaveAsItIs s)) (bb_leaveAsItIs h.bb) hb.1 hb.2.1 ((fr_leaveAsItIs_declared s).trans hd)
theorem lb_inRefNumber (g : Good s c) (hst : s.state = 35) (h : InvB 0 s) : LB (lookInRefNumber s c) := by
  have hd : s.declared = [] := h.none' (by rw [hst]; decide)
  have hb := back_free (g.back (by rw [hst]; rfl))
  have hw := h.bb.2
  unfold lookInRefNumber
  repeat' split
  · exact lb_free (r := (0, addDigit s c)) h.bb (by show s.state ≠ _; rw [hst]; decide) (by show s.state ≠ _; rw [hst]; decide) hd
  · exact lb_free (r := (1, leaveAsItIs (wrong s [100, 105, 103, 105, 116, 115]))) (bb_leaveAsItIs (bb_wrong h.bb)) hb.1 hb.2.1 ((fr_leaveAsItIs_declared _).trans hd)
  · refine ⟨fun _ => ⟨?_, fun e => ?_, fun e => ?_, fun _ => ?_⟩, fun e => absurd (show (0 : Int) = 1 from e) (by decide)⟩
    · exact bb_endNumber (s := s) (k := 1) (s.place + 1) h.bb.up (by omega) (by omega)
    · exact (e.elim hb.1 hb.2.1).elim
    · exact absurd e hb.2.2
    · exact (fr_endNumber_declared s _).trans hd
  · refine lb_free (r := (1, { endNumber (wrong s [115, 101, 109, 105, 99, 111, 108, 111, 110]) s.place with state := s.rback })) ?_ hb.1 hb.2.1 ((fr_endNumber_declared _ _).trans hd)
    have h1 := bb_wrong (n := [115, 101, 109, 105, 99, 111, 108, 111, 110]) h.bb
    exact bb_endNumber (s := wrong s [115, 101, 109, 105, 99, 111, 108, 111, 110]) (k := 0) s.place h1 (by have := h1.2; have e : (wrong s [115, 101, 109, 105, 99, 111, 108, 111, 110]).place = s.place := rfl; omega) (by show s.place ≤ s.place + 0; omega)
theorem lb_inRefName (g : Good s c) (hst : s.state = 32) (h : InvB 0 s) : LB (lookInRefName s c) := by
  have hd : s.declared = [] := h.none' (by rw [hst]; decide)
  have hb := back_free (g.back (by rw [hst]; rfl))
  have hw := h.bb.2
  have hr := h.ref (.inr hst)
  unfold lookInRefName
  repeat' split
  · rename_i hwt
    have hl := (enc_asc (wait_asc hwt).right).1
    refine ⟨fun _ => ⟨h.bb.up, fun _ => ?_, fun e => absurd e (by show s.state ≠ _; rw [hst]; decide), fun _ => hd⟩, fun e => absurd (show (0 : Int) = 1 from e) (by decide)⟩
    show lastW s.told ≤ s.place + 1 - ((s.rcome ++ Lib.encodeRune c).length : Int)
    rw [List.length_append, hl]
    omega
  · exact lb_free (r := (1, { addToTarget s (38 :: s.rcome) with state := 33 })) (bb_addToTarget (l := 38 :: s.rcome) h.bb) (by show (33 : Int) ≠ _; decide) (by show (33 : Int) ≠ _; decide) ((fr_addToTarget_declared _ _).trans hd)
  · exact lb_free (r := (0, { addToTarget s (findName (s.rcome ++ Lib.encodeRune c)).1.2 with state := s.rback })) (bb_addToTarget (l := (findName (s.rcome ++ Lib.encodeRune c)).1.2) h.bb) hb.1 hb.2.1 ((fr_addToTarget_declared _ _).trans hd)
  · refine lb_free (r := (1, endOpenName s (findName (s.rcome ++ Lib.encodeRune c)).1 c)) ?_ hb.1 hb.2.1 ((fr_endOpenName_declared _ _ _).trans hd)
    generalize (findName (s.rcome ++ Lib.encodeRune c)).1 = n
    have hdl : (s.rcome.drop n.1.length).length ≤ s.rcome.length := by rw [List.length_drop]; omega
    refine bb_addToTarget (s := openName s n (s.rcome.drop n.1.length) (nextOf (s.rcome.drop n.1.length ++ Lib.encodeRune c))) (l := s.rcome.drop n.1.length) ?_
    unfold openName
    split
    · exact bb_addToTarget h.bb
    · exact bb_addToTarget (bb_at h.bb.1 (by omega) (by omega))
theorem lb_inDecl (g : Good s c) (hst : s.state = 18) (h : InvB 0 s) : LB (lookInDecl s c) := by
  have hw := h.bb.2
  have hr := h.decl hst
  unfold lookInDecl
  repeat' split
  · rename_i hm
    have hl := (enc_asc (mayDecl_asc hm).right).1
    refine ⟨fun _ => ⟨h.bb.up, fun e => ?_, fun _ => ?_, fun e => absurd hst e⟩, fun e => absurd (show (0 : Int) = 1 from e) (by decide)⟩
    · have e' : s.state = 31 ∨ s.state = 32 := e
      rw [hst] at e'
      exact absurd e' (by decide)
    · show lastW s.told ≤ s.place + 1 - ((s.declared ++ Lib.encodeRune c).length : Int)
      rw [List.length_append, hl]
      omega
  · exact lb_free (r := (0, { noDecl s with state := 20 })) h.bb (by show (20 : Int) ≠ _; decide) (by show (20 : Int) ≠ _; decide) rfl
  · exact lb_free (r := (0, { noDecl s with state := 26 })) h.bb (by show (26 : Int) ≠ _; decide) (by show (26 : Int) ≠ _; decide) rfl
  · exact lb_free (r := (0, { addToComment (wrongAt (noDecl s) [99, 100, 97, 116, 97] (s.place - s.declared.length)) [91, 67, 68, 65, 84, 65, 91] with state := 19 })) (bb_at (s := noDecl s) (n := [99, 100, 97, 116, 97]) h.bb.1 (by show lastW s.told ≤ _; omega) (by show _ ≤ s.place + 0; omega)) (by show (19 : Int) ≠ _; decide) (by show (19 : Int) ≠ _; decide) rfl
  · exact lb_free (r := (1, { addToComment (wrongAt (noDecl s) [100, 101, 99, 108, 97, 114, 97, 116, 105, 111, 110] (s.place - s.declared.length)) s.declared with state := 19 })) (bb_at (s := noDecl s) (n := [100, 101, 99, 108, 97, 114, 97, 116, 105, 111, 110]) h.bb.1 (by show lastW s.told ≤ _; omega) (by show _ ≤ s.place + 0; omega)) (by show (19 : Int) ≠ _; decide) (by show (19 : Int) ≠ _; decide) rfl
theorem lb_lookOnce (g : Good s c) (h : InvB 0 s) : LB (lookOnce s c) := by
  by_cases e_inData : s.state = 0
  · have hf : lookOnce s c = lookInData s c := by simp [lookOnce, e_inData]
    rw [hf]
    exact lb_plain (bb_inData h.bb) (ns_inData g e_inData) (de_inData.trans (h.none' (by rw [e_inData]; decide)))
  by_cases e_inTitle : s.state = 1
  · have hf : lookOnce s c = lookInTitle s c := by simp [lookOnce, e_inTitle]
    rw [hf]
    exact lb_plain (bb_inTitle h.bb) (ns_inTitle g e_inTitle) (de_inTitle.trans (h.none' (by rw [e_inTitle]; decide)))
  by_cases e_inRaw : s.state = 2
  · have hf : lookOnce s c = lookInRaw s c := by simp [lookOnce, e_inRaw]
    rw [hf]
    exact lb_plain (bb_inRaw h.bb) (ns_inRaw g e_inRaw) (de_inRaw.trans (h.none' (by rw [e_inRaw]; decide)))
  by_cases e_inOpen : s.state = 3
  · have hf : lookOnce s c = lookInOpen s c := by simp [lookOnce, e_inOpen]
    rw [hf]
    exact lb_inOpen g e_inOpen h
  by_cases e_inClose : s.state = 4
  · have hf : lookOnce s c = lookInClose s c := by simp [lookOnce, e_inClose]
    rw [hf]
    exact lb_plain (bb_inClose h.bb) (ns_inClose g e_inClose) (de_inClose.trans (h.none' (by rw [e_inClose]; decide)))
  by_cases e_inLess : s.state = 5
  · have hf : lookOnce s c = lookInLess s c := by simp [lookOnce, e_inLess]
    rw [hf]
    exact lb_plain (bb_inLess h.bb) (ns_inLess g e_inLess) (de_inLess.trans (h.none' (by rw [e_inLess]; decide)))
  by_cases e_inLessClose : s.state = 6
  · have hf : lookOnce s c = lookInLessClose s c := by simp [lookOnce, e_inLessClose]
    rw [hf]
    exact lb_plain (bb_inLessClose h.bb) (ns_inLessClose g e_inLessClose) (de_inLessClose.trans (h.none' (by rw [e_inLessClose]; decide)))
  by_cases e_inLessName : s.state = 7
  · have hf : lookOnce s c = lookInLessName s c := by simp [lookOnce, e_inLessName]
    rw [hf]
    exact lb_plain (bb_inLessName h.bb) (ns_inLessName g e_inLessName) (de_inLessName.trans (h.none' (by rw [e_inLessName]; decide)))
  by_cases e_inTag : s.state = 8
  · have hf : lookOnce s c = lookInTag s c := by simp [lookOnce, e_inTag]
    rw [hf]
    exact lb_plain (bb_inTag h.bb) (ns_inTag g e_inTag) (de_inTag.trans (h.none' (by rw [e_inTag]; decide)))
  by_cases e_inAttr : s.state = 9
  · have hf : lookOnce s c = lookInAttr s c := by simp [lookOnce, e_inAttr]
    rw [hf]
    exact lb_inAttr g e_inAttr h
  by_cases e_inName : s.state = 10
  · have hf : lookOnce s c = lookInName s c := by simp [lookOnce, e_inName]
    rw [hf]
    exact lb_inName g e_inName h
  by_cases e_inAfter : s.state = 11
  · have hf : lookOnce s c = lookInAfter s c := by simp [lookOnce, e_inAfter]
    rw [hf]
    exact lb_inAfter g e_inAfter h
  by_cases e_inEquals : s.state = 12
  · have hf : lookOnce s c = lookInEquals s c := by simp [lookOnce, e_inEquals]
    rw [hf]
    exact lb_plain (bb_inEquals h.bb) (ns_inEquals g e_inEquals) (de_inEquals.trans (h.none' (by rw [e_inEquals]; decide)))
  by_cases e_inDouble : s.state = 13
  · have hf : lookOnce s c = lookInDouble s c := by simp [lookOnce, e_inDouble]
    rw [hf]
    exact lb_plain (bb_inDouble h.bb) (ns_inDouble g e_inDouble) (de_inDouble.trans (h.none' (by rw [e_inDouble]; decide)))
  by_cases e_inSingle : s.state = 14
  · have hf : lookOnce s c = lookInSingle s c := by simp [lookOnce, e_inSingle]
    rw [hf]
    exact lb_plain (bb_inSingle h.bb) (ns_inSingle g e_inSingle) (de_inSingle.trans (h.none' (by rw [e_inSingle]; decide)))
  by_cases e_inPlain : s.state = 15
  · have hf : lookOnce s c = lookInPlain s c := by simp [lookOnce, e_inPlain]
    rw [hf]
    exact lb_plain (bb_inPlain h.bb) (ns_inPlain g e_inPlain) (de_inPlain.trans (h.none' (by rw [e_inPlain]; decide)))
  by_cases e_inValue : s.state = 16
  · have hf : lookOnce s c = lookInValue s c := by simp [lookOnce, e_inValue]
    rw [hf]
    exact lb_plain (bb_inValue h.bb) (ns_inValue g e_inValue) (de_inValue.trans (h.none' (by rw [e_inValue]; decide)))
  by_cases e_inSelf : s.state = 17
  · have hf : lookOnce s c = lookInSelf s c := by simp [lookOnce, e_inSelf]
    rw [hf]
    exact lb_plain (bb_inSelf h.bb) (ns_inSelf g e_inSelf) (de_inSelf.trans (h.none' (by rw [e_inSelf]; decide)))
  by_cases e_inDecl : s.state = 18
  · have hf : lookOnce s c = lookInDecl s c := by simp [lookOnce, e_inDecl]
    rw [hf]
    exact lb_inDecl g e_inDecl h
  by_cases e_inBogus : s.state = 19
  · have hf : lookOnce s c = lookInBogus s c := by simp [lookOnce, e_inBogus]
    rw [hf]
    exact lb_plain (bb_inBogus h.bb) (ns_inBogus g e_inBogus) (de_inBogus.trans (h.none' (by rw [e_inBogus]; decide)))
  by_cases e_inBegin : s.state = 20
  · have hf : lookOnce s c = lookInBegin s c := by simp [lookOnce, e_inBegin]
    rw [hf]
    exact lb_plain (bb_inBegin h.bb) (ns_inBegin g e_inBegin) (de_inBegin.trans (h.none' (by rw [e_inBegin]; decide)))
  by_cases e_inBeginDash : s.state = 21
  · have hf : lookOnce s c = lookInBeginDash s c := by simp [lookOnce, e_inBeginDash]
    rw [hf]
    exact lb_plain (bb_inBeginDash h.bb) (ns_inBeginDash g e_inBeginDash) (de_inBeginDash.trans (h.none' (by rw [e_inBeginDash]; decide)))
  by_cases e_inComment : s.state = 22
  · have hf : lookOnce s c = lookInComment s c := by simp [lookOnce, e_inComment]
    rw [hf]
    exact lb_plain (bb_inComment h.bb) (ns_inComment g e_inComment) (de_inComment.trans (h.none' (by rw [e_inComment]; decide)))
  by_cases e_inDash : s.state = 23
  · have hf : lookOnce s c = lookInDash s c := by simp [lookOnce, e_inDash]
    rw [hf]
    exact lb_plain (bb_inDash h.bb) (ns_inDash g e_inDash) (de_inDash.trans (h.none' (by rw [e_inDash]; decide)))
  by_cases e_inDashes : s.state = 24
  · have hf : lookOnce s c = lookInDashes s c := by simp [lookOnce, e_inDashes]
    rw [hf]
    exact lb_plain (bb_inDashes h.bb) (ns_inDashes g e_inDashes) (de_inDashes.trans (h.none' (by rw [e_inDashes]; decide)))
  by_cases e_inBang : s.state = 25
  · have hf : lookOnce s c = lookInBang s c := by simp [lookOnce, e_inBang]
    rw [hf]
    exact lb_plain (bb_inBang h.bb) (ns_inBang g e_inBang) (de_inBang.trans (h.none' (by rw [e_inBang]; decide)))
  by_cases e_inDoctype : s.state = 26
  · have hf : lookOnce s c = lookInDoctype s c := by simp [lookOnce, e_inDoctype]
    rw [hf]
    exact lb_plain (bb_inDoctype h.bb) (ns_inDoctype g e_inDoctype) (de_inDoctype.trans (h.none' (by rw [e_inDoctype]; decide)))
  by_cases e_inKind : s.state = 27
  · have hf : lookOnce s c = lookInKind s c := by simp [lookOnce, e_inKind]
    rw [hf]
    exact lb_plain (bb_inKind h.bb) (ns_inKind g e_inKind) (de_inKind.trans (h.none' (by rw [e_inKind]; decide)))
  by_cases e_inKindName : s.state = 28
  · have hf : lookOnce s c = lookInKindName s c := by simp [lookOnce, e_inKindName]
    rw [hf]
    exact lb_plain (bb_inKindName h.bb) (ns_inKindName g e_inKindName) (de_inKindName.trans (h.none' (by rw [e_inKindName]; decide)))
  by_cases e_inKindEnd : s.state = 29
  · have hf : lookOnce s c = lookInKindEnd s c := by simp [lookOnce, e_inKindEnd]
    rw [hf]
    exact lb_plain (bb_inKindEnd h.bb) (ns_inKindEnd g e_inKindEnd) (de_inKindEnd.trans (h.none' (by rw [e_inKindEnd]; decide)))
  by_cases e_inKindRest : s.state = 30
  · have hf : lookOnce s c = lookInKindRest s c := by simp [lookOnce, e_inKindRest]
    rw [hf]
    exact lb_plain (bb_inKindRest h.bb) (ns_inKindRest g e_inKindRest) (de_inKindRest.trans (h.none' (by rw [e_inKindRest]; decide)))
  by_cases e_inRef : s.state = 31
  · have hf : lookOnce s c = lookInRef s c := by simp [lookOnce, e_inRef]
    rw [hf]
    exact lb_inRef g e_inRef h
  by_cases e_inRefName : s.state = 32
  · have hf : lookOnce s c = lookInRefName s c := by simp [lookOnce, e_inRefName]
    rw [hf]
    exact lb_inRefName g e_inRefName h
  by_cases e_inRefUnknown : s.state = 33
  · have hf : lookOnce s c = lookInRefUnknown s c := by simp [lookOnce, e_inRefUnknown]
    rw [hf]
    exact lb_plain (bb_inRefUnknown h.bb) (ns_inRefUnknown g e_inRefUnknown) (de_inRefUnknown.trans (h.none' (by rw [e_inRefUnknown]; decide)))
  by_cases e_inRefHash : s.state = 34
  · have hf : lookOnce s c = lookInRefHash s c := by simp [lookOnce, e_inRefHash]
    rw [hf]
    exact lb_plain (bb_inRefHash h.bb) (ns_inRefHash g e_inRefHash) (de_inRefHash.trans (h.none' (by rw [e_inRefHash]; decide)))
  by_cases e_inRefNumber : s.state = 35
  · have hf : lookOnce s c = lookInRefNumber s c := by simp [lookOnce, e_inRefNumber]
    rw [hf]
    exact lb_inRefNumber g e_inRefNumber h
  have := g.st0
  have := g.st1
  omega
theorem lb_lookN : ∀ (n : Nat) (s : TS), Good s c → rank s.state c < n → InvB 0 s → InvB 1 (lookN n s c)
  | 0, s, g, hr, h => by omega
  | n + 1, s, g, hr, h => by
    have h1 := lb_lookOnce g h
    rw [lookN]
    rcases good_lookOnce g with ⟨e, _⟩ | ⟨e, hg, hk⟩
    · rw [if_pos e]
      exact h1.1 e
    · rw [if_neg (by rw [e]; decide)]
      exact lb_lookN n _ hg (by omega) (h1.2 e)
theorem lb_look4 (hf : Fine s) (h : InvB 0 s) : InvB 1 (lookN 4 s c) := lb_lookN 4 s (hf.1 c) (by have := rank_le s.state c; omega) h
theorem lb_next (hf : Fine s) (h : InvB 0 s) : InvB 0 (lookAtNext 4 s c) := by
  have h1 := lb_look4 (c := c) hf h
  exact ⟨⟨h1.bb.1, by have := h1.bb.2; show lastW (lookN 4 s c).told ≤ (lookN 4 s c).place + 1 + 0; omega⟩, fun e => by have := h1.ref e; show lastW (lookN 4 s c).told ≤ (lookN 4 s c).place + 1 + 0 - ((lookN 4 s c).rcome.length : Int); omega, fun e => by have := h1.decl e; show lastW (lookN 4 s c).told ≤ (lookN 4 s c).place + 1 + 0 - ((lookN 4 s c).declared.length : Int); omega, h1.none'⟩
theorem lb_pass (hf : Fine s) (h : InvB 0 s) : InvB 0 (pass 4 s c) := by
  have hf' : Fine (setBehind s c) := hf.head rfl rfl rfl rfl rfl rfl rfl rfl
  have h' : InvB 0 (setBehind s c) := ⟨h.bb, h.ref, h.decl, h.none'⟩
  unfold pass
  split
  · exact h'
  · split
    · exact lb_next (c := 10) hf' h'
    · exact lb_next hf' h'
theorem lb_readN (w0 : World) : ∀ (f : Nat) (s : TS) (r : Str), r.length ≤ f → Fine s → s.place + r.length ≤ 1099511627776 → sz s + 512 * r.length ≤ lim → InvB 0 s → InvB 0 (readN 4 f s r).1
  | 0, s, r, _, _, _, _, h => h
  | f + 1, s, r, hl, hf, hp, hz, h => by
    rw [readN]
    by_cases h0 : (firstPt r).2 = 0
    · rw [if_pos h0]
      exact h
    · rw [if_neg h0]
      have hle := firstPt_le r
      have hd : (r.drop (firstPt r).2).length = r.length - (firstPt r).2 := List.length_drop
      obtain ⟨c0, c1⟩ := firstPt_rn r
      obtain ⟨_, i2, i3, i4, _⟩ := pass_fine (w0 := w0) (own0 := fun _ => False) hf c0 c1 (by omega) (by omega)
      exact lb_readN w0 f _ _ (by omega) i3 (by omega) (by omega) (lb_pass hf h)
theorem lb_put (w0 : World) {n : Nat} (ho : Open s n) (x : Str) (hn : n + x.length ≤ 1073741824) (h : InvB 0 s) : InvB 0 (put s x) := by
  have h3 := ho.short
  have hf : Fine { s with bytes := s.bytes + x.length } := ho.fine.head rfl rfl rfl rfl rfl rfl rfl rfl
  have hl : (s.begun ++ x).length = s.begun.length + x.length := List.length_append
  have hz : sz ({ s with bytes := s.bytes + x.length } : TS) = sz s := rfl
  have hp : ({ s with bytes := s.bytes + x.length } : TS).place = s.place := rfl
  have hpl := ho.place
  have hsz := ho.small
  have h1 := lb_readN w0 (s.begun ++ x).length { s with bytes := s.bytes + x.length } (s.begun ++ x) (Nat.le_refl _) hf (by omega) (by unfold lim; omega) ⟨h.bb, h.ref, h.decl, h.none'⟩
  exact ⟨h1.bb, h1.ref, h1.decl, h1.none'⟩
end
end Go.Proofs.YtdfmapcnfficlaaGreatDoor

set_option linter.unusedSimpArgs false
set_option linter.unusedVariables false
namespace Go.Proofs.YtdfmapcnfficlaaGreatDoor
open Go Go.RowKit
section
variable {s : TS} {c : Int} {k : Int}
theorem b0_inRefNumber (hc : c ≠ 59) (h : InvB 0 s) : BB 0 (lookInRefNumber s c).2 := by
  have hw := h.bb.2
  unfold lookInRefNumber
  repeat' split
  · exact h.bb
  · exact bb_leaveAsItIs (bb_wrong h.bb)
  · have h1 := bb_wrong (n := [115, 101, 109, 105, 99, 111, 108, 111, 110]) h.bb
    exact bb_endNumber (s := wrong s [115, 101, 109, 105, 99, 111, 108, 111, 110]) (k := 0) s.place h1 (by have := h1.2; have e : (wrong s [115, 101, 109, 105, 99, 111, 108, 111, 110]).place = s.place := rfl; omega) (by show s.place ≤ s.place + 0; omega)
theorem b0_inRefName (hst : s.state = 32) (h : InvB 0 s) : BB 0 (lookInRefName s c).2 := by
  have hw := h.bb.2
  have hr := h.ref (.inr hst)
  unfold lookInRefName
  repeat' split
  · exact h.bb
  · exact bb_addToTarget (l := 38 :: s.rcome) h.bb
  · exact bb_addToTarget (l := (findName (s.rcome ++ Lib.encodeRune c)).1.2) h.bb
  · generalize (findName (s.rcome ++ Lib.encodeRune c)).1 = n
    have hdl : (s.rcome.drop n.1.length).length ≤ s.rcome.length := by rw [List.length_drop]; omega
    refine bb_addToTarget (s := openName s n (s.rcome.drop n.1.length) (nextOf (s.rcome.drop n.1.length ++ Lib.encodeRune c))) (l := s.rcome.drop n.1.length) ?_
    unfold openName
    split
    · exact bb_addToTarget h.bb
    · exact bb_addToTarget (bb_at h.bb.1 (by omega) (by omega))
theorem b0_inDecl (hst : s.state = 18) (h : InvB 0 s) : BB 0 (lookInDecl s c).2 := by
  have hw := h.bb.2
  have hr := h.decl hst
  unfold lookInDecl
  repeat' split
  · exact h.bb
  · exact h.bb
  · exact h.bb
  · exact bb_at (s := noDecl s) (n := [99, 100, 97, 116, 97]) h.bb.1 (by show lastW s.told ≤ _; omega) (by show _ ≤ s.place + 0; omega)
  · exact bb_at (s := noDecl s) (n := [100, 101, 99, 108, 97, 114, 97, 116, 105, 111, 110]) h.bb.1 (by show lastW s.told ≤ _; omega) (by show _ ≤ s.place + 0; omega)
theorem b0_lookOnce (g : Good s c) (hc : c ≠ 59) (h : InvB 0 s) : BB 0 (lookOnce s c).2 := by
  by_cases e_inData : s.state = 0
  · have hf : lookOnce s c = lookInData s c := by simp [lookOnce, e_inData]
    rw [hf]
    exact bb_inData h.bb
  by_cases e_inTitle : s.state = 1
  · have hf : lookOnce s c = lookInTitle s c := by simp [lookOnce, e_inTitle]
    rw [hf]
    exact bb_inTitle h.bb
  by_cases e_inRaw : s.state = 2
  · have hf : lookOnce s c = lookInRaw s c := by simp [lookOnce, e_inRaw]
    rw [hf]
    exact bb_inRaw h.bb
  by_cases e_inOpen : s.state = 3
  · have hf : lookOnce s c = lookInOpen s c := by simp [lookOnce, e_inOpen]
    rw [hf]
    exact bb_inOpen h.bb
  by_cases e_inClose : s.state = 4
  · have hf : lookOnce s c = lookInClose s c := by simp [lookOnce, e_inClose]
    rw [hf]
    exact bb_inClose h.bb
  by_cases e_inLess : s.state = 5
  · have hf : lookOnce s c = lookInLess s c := by simp [lookOnce, e_inLess]
    rw [hf]
    exact bb_inLess h.bb
  by_cases e_inLessClose : s.state = 6
  · have hf : lookOnce s c = lookInLessClose s c := by simp [lookOnce, e_inLessClose]
    rw [hf]
    exact bb_inLessClose h.bb
  by_cases e_inLessName : s.state = 7
  · have hf : lookOnce s c = lookInLessName s c := by simp [lookOnce, e_inLessName]
    rw [hf]
    exact bb_inLessName h.bb
  by_cases e_inTag : s.state = 8
  · have hf : lookOnce s c = lookInTag s c := by simp [lookOnce, e_inTag]
    rw [hf]
    exact bb_inTag h.bb
  by_cases e_inAttr : s.state = 9
  · have hf : lookOnce s c = lookInAttr s c := by simp [lookOnce, e_inAttr]
    rw [hf]
    exact bb_inAttr h.bb
  by_cases e_inName : s.state = 10
  · have hf : lookOnce s c = lookInName s c := by simp [lookOnce, e_inName]
    rw [hf]
    exact bb_inName h.bb
  by_cases e_inAfter : s.state = 11
  · have hf : lookOnce s c = lookInAfter s c := by simp [lookOnce, e_inAfter]
    rw [hf]
    exact bb_inAfter h.bb
  by_cases e_inEquals : s.state = 12
  · have hf : lookOnce s c = lookInEquals s c := by simp [lookOnce, e_inEquals]
    rw [hf]
    exact bb_inEquals h.bb
  by_cases e_inDouble : s.state = 13
  · have hf : lookOnce s c = lookInDouble s c := by simp [lookOnce, e_inDouble]
    rw [hf]
    exact bb_inDouble h.bb
  by_cases e_inSingle : s.state = 14
  · have hf : lookOnce s c = lookInSingle s c := by simp [lookOnce, e_inSingle]
    rw [hf]
    exact bb_inSingle h.bb
  by_cases e_inPlain : s.state = 15
  · have hf : lookOnce s c = lookInPlain s c := by simp [lookOnce, e_inPlain]
    rw [hf]
    exact bb_inPlain h.bb
  by_cases e_inValue : s.state = 16
  · have hf : lookOnce s c = lookInValue s c := by simp [lookOnce, e_inValue]
    rw [hf]
    exact bb_inValue h.bb
  by_cases e_inSelf : s.state = 17
  · have hf : lookOnce s c = lookInSelf s c := by simp [lookOnce, e_inSelf]
    rw [hf]
    exact bb_inSelf h.bb
  by_cases e_inDecl : s.state = 18
  · have hf : lookOnce s c = lookInDecl s c := by simp [lookOnce, e_inDecl]
    rw [hf]
    exact b0_inDecl e_inDecl h
  by_cases e_inBogus : s.state = 19
  · have hf : lookOnce s c = lookInBogus s c := by simp [lookOnce, e_inBogus]
    rw [hf]
    exact bb_inBogus h.bb
  by_cases e_inBegin : s.state = 20
  · have hf : lookOnce s c = lookInBegin s c := by simp [lookOnce, e_inBegin]
    rw [hf]
    exact bb_inBegin h.bb
  by_cases e_inBeginDash : s.state = 21
  · have hf : lookOnce s c = lookInBeginDash s c := by simp [lookOnce, e_inBeginDash]
    rw [hf]
    exact bb_inBeginDash h.bb
  by_cases e_inComment : s.state = 22
  · have hf : lookOnce s c = lookInComment s c := by simp [lookOnce, e_inComment]
    rw [hf]
    exact bb_inComment h.bb
  by_cases e_inDash : s.state = 23
  · have hf : lookOnce s c = lookInDash s c := by simp [lookOnce, e_inDash]
    rw [hf]
    exact bb_inDash h.bb
  by_cases e_inDashes : s.state = 24
  · have hf : lookOnce s c = lookInDashes s c := by simp [lookOnce, e_inDashes]
    rw [hf]
    exact bb_inDashes h.bb
  by_cases e_inBang : s.state = 25
  · have hf : lookOnce s c = lookInBang s c := by simp [lookOnce, e_inBang]
    rw [hf]
    exact bb_inBang h.bb
  by_cases e_inDoctype : s.state = 26
  · have hf : lookOnce s c = lookInDoctype s c := by simp [lookOnce, e_inDoctype]
    rw [hf]
    exact bb_inDoctype h.bb
  by_cases e_inKind : s.state = 27
  · have hf : lookOnce s c = lookInKind s c := by simp [lookOnce, e_inKind]
    rw [hf]
    exact bb_inKind h.bb
  by_cases e_inKindName : s.state = 28
  · have hf : lookOnce s c = lookInKindName s c := by simp [lookOnce, e_inKindName]
    rw [hf]
    exact bb_inKindName h.bb
  by_cases e_inKindEnd : s.state = 29
  · have hf : lookOnce s c = lookInKindEnd s c := by simp [lookOnce, e_inKindEnd]
    rw [hf]
    exact bb_inKindEnd h.bb
  by_cases e_inKindRest : s.state = 30
  · have hf : lookOnce s c = lookInKindRest s c := by simp [lookOnce, e_inKindRest]
    rw [hf]
    exact bb_inKindRest h.bb
  by_cases e_inRef : s.state = 31
  · have hf : lookOnce s c = lookInRef s c := by simp [lookOnce, e_inRef]
    rw [hf]
    exact bb_inRef h.bb
  by_cases e_inRefName : s.state = 32
  · have hf : lookOnce s c = lookInRefName s c := by simp [lookOnce, e_inRefName]
    rw [hf]
    exact b0_inRefName e_inRefName h
  by_cases e_inRefUnknown : s.state = 33
  · have hf : lookOnce s c = lookInRefUnknown s c := by simp [lookOnce, e_inRefUnknown]
    rw [hf]
    exact bb_inRefUnknown h.bb
  by_cases e_inRefHash : s.state = 34
  · have hf : lookOnce s c = lookInRefHash s c := by simp [lookOnce, e_inRefHash]
    rw [hf]
    exact bb_inRefHash h.bb
  by_cases e_inRefNumber : s.state = 35
  · have hf : lookOnce s c = lookInRefNumber s c := by simp [lookOnce, e_inRefNumber]
    rw [hf]
    exact b0_inRefNumber hc h
  have := g.st0
  have := g.st1
  omega
theorem b0_lookN (hc : c ≠ 59) : ∀ (n : Nat) (s : TS), Good s c → rank s.state c < n → InvB 0 s → BB 0 (lookN n s c)
  | 0, s, g, hr, h => h.bb
  | n + 1, s, g, hr, h => by
    have h1 := lb_lookOnce g h
    rw [lookN]
    rcases good_lookOnce g with ⟨e, _⟩ | ⟨e, hg, hk⟩
    · rw [if_pos e]
      exact b0_lookOnce g hc h
    · rw [if_neg (by rw [e]; decide)]
      exact b0_lookN hc n _ hg (by omega) (h1.2 e)
theorem place_flush (s : TS) : (flush s).place = s.place := by unfold flush; split <;> rfl
theorem bb_endAll (w0 : World) {n : Nat} (ho : Open s n) (hn : n ≤ 1073741824) (h : InvB 0 s) : AllB (endAll s).told ∧ lastW (endAll s).told ≤ n := by
  have hf' : Fine { s with closed := true } := ho.fine.head rfl rfl rfl rfl rfl rfl rfl rfl
  have hsz := ho.small
  have hpl := ho.place
  have hz : sz { s with closed := true } = sz s := rfl
  obtain ⟨_, i2, i3, _⟩ := endPoints_fine (w0 := w0) (own0 := fun _ => False) hf' (by show s.place + 1 ≤ _; omega) (by unfold lim; omega)
  have hi : InvB 0 (endPoints 4 { s with closed := true }) ∧ (endPoints 4 { s with closed := true }).place ≤ n := by
    have h' : InvB 0 { s with closed := true } := ⟨h.bb, h.ref, h.decl, h.none'⟩
    unfold endPoints
    split
    · exact ⟨h', by show s.place ≤ n; omega⟩
    · rename_i hb
      have h0 : s.begun.length ≠ 0 := fun e => hb (List.length_eq_zero_iff.1 e)
      have hf2 : Fine { ({ s with closed := true } : TS) with begun := [] } := hf'.head rfl rfl rfl rfl rfl rfl rfl rfl
      have hz2 : sz { ({ s with closed := true } : TS) with begun := [] } ≤ sz s := by simp [sz]
      obtain ⟨_, _, _, q4, _⟩ := pass_fine (w0 := w0) (own0 := fun _ => False) (c := 65533) hf2 (by decide) (by decide) (by show s.place ≤ _; omega) (by unfold lim; omega)
      refine ⟨lb_pass hf2 ⟨h.bb, h.ref, h.decl, h.none'⟩, Int.le_trans q4 ?_⟩
      show s.place + 1 ≤ n
      omega
  obtain ⟨hi, hq⟩ := hi
  obtain ⟨_, _, j3, _⟩ := look4 (w0 := w0) (own0 := fun _ => False) i2 (c := -1) ⟨by decide, by decide⟩ (by omega) (by unfold lim; omega)
  have hp : (lookN 4 (endPoints 4 { s with closed := true }) (-1)).place = (endPoints 4 { s with closed := true }).place := j3.2.2.2.2.2
  have h2 := bb_flush (b0_lookN (c := -1) (by decide) 4 _ (i2.1 _) (by have := rank_le (endPoints 4 { s with closed := true }).state (-1); omega) hi)
  unfold endAll
  refine ⟨h2.1, ?_⟩
  have h3 := h2.2
  rw [place_flush] at h3
  omega
theorem lb_new (l : Int) : InvB 0 { limit := l } := ⟨⟨fun i t h => by simp at h, by simp [lastW]⟩, fun e => absurd (show (0 : Int) = 31 ∨ (0 : Int) = 32 from e) (by decide), fun e => absurd (show (0 : Int) = 18 from e) (by decide), fun _ => rfl⟩
theorem lastW_up {l : List Tok} (h : AllB l) : ∀ (k i : Nat), i + k = l.length → lastW (l.take i) ≤ lastW l
  | 0, i, e => by rw [List.take_of_length_le (by omega)]; omega
  | k + 1, i, e => by
    have h1 := lastW_up h k (i + 1) (by omega)
    have hi : i < l.length := by omega
    have hg : l[i]? = some l[i] := by simp [hi]
    have e2 : l.take (i + 1) = l.take i ++ [l[i]] := by simp [hi]
    rw [e2, lastW_snoc] at h1
    split at h1
    · rename_i hk
      have := h i l[i] hg hk
      omega
    · exact h1
theorem lastW_at {l : List Tok} (h : AllB l) {i : Nat} {t : Tok} (ht : l[i]? = some t) (hk : t.kind = 5) : t.place ≤ lastW l := by
  obtain ⟨hi, e⟩ := List.getElem?_eq_some_iff.1 ht
  have h1 := lastW_up h (l.length - (i + 1)) (i + 1) (by omega)
  have e2 : l.take (i + 1) = l.take i ++ [t] := by rw [← e]; simp [hi]
  rw [e2, lastW_snoc, if_pos hk] at h1
  exact h1
end
/-- What is told of a text, but for the end: shapes and places. -/
theorem toks_AB (w0 : World) (x : Str) (hx : x.length ≤ 1073741824) : ∃ M, toks x = M ++ [{ kind := 6 }] ∧ AllA M ∧ AllB M ∧ ∀ (i : Nat) (t : Tok), M[i]? = some t → t.kind = 5 → t.place ≤ x.length := by
  have ho := Open.new (x.length : Int)
  have ho2 := (open_put (w0 := w0) (own0 := fun _ => False) ho x (by omega)).2.1
  have hb := bb_endAll w0 ho2 (by omega) (lb_put w0 ho x (by omega) (lb_new _))
  refine ⟨(endAll (put { limit := (x.length : Int) } x)).told, by unfold toks; exact closeT_told _, ia_endAll w0 ho2 (by omega) (ia_put w0 ho x (by omega) (ia_new _)), hb.1, fun i t ht hk => ?_⟩
  have h1 := lastW_at hb.1 ht hk
  have h2 := hb.2
  omega
end Go.Proofs.YtdfmapcnfficlaaGreatDoor

set_option linter.unusedSimpArgs false
set_option linter.unusedVariables false
namespace Go.Proofs.YtdfmapcnfficlaaGreatDoor
open Go Go.RowKit

structure NB (m : Nat) (s : TS) : Prop where
  all : ∀ t ∈ s.told, t.kind ≠ 5 → t.name.length ≤ m
  tag : s.tag.name.length ≤ m
  dn : s.dname.length ≤ m
section
variable {s : TS} {c : Int} {m : Nat}
theorem NB.mono {m' : Nat} (h : NB m s) (hm : m ≤ m') : NB m' s := ⟨fun t ht hk => Nat.le_trans (h.all t ht hk) hm, Nat.le_trans h.tag hm, Nat.le_trans h.dn hm⟩
theorem NB.told {l : List Tok} (h : NB m s) (hl : ∀ t ∈ l, t.kind ≠ 5 → t.name.length ≤ m) : NB m { s with told := l } := ⟨hl, h.tag, h.dn⟩
theorem nb_tok {t : Tok} (h : NB m s) (ht : t.kind ≠ 5 → t.name.length ≤ m) : NB m (tellTok s t) :=
  h.told fun u hu hk => (List.mem_append.1 hu).elim (fun hu => h.all u hu hk) fun hu => by rw [List.mem_singleton.1 hu] at hk ⊢; exact ht hk
theorem nb_wrongAt {n : Str} {q : Int} (h : NB m s) : NB m (wrongAt s n q) := nb_tok h fun hk => absurd rfl hk
theorem nb_wrong {n : Str} (h : NB m s) : NB m (wrong s n) := nb_wrongAt h
theorem nb_flush (h : NB m s) : NB m (flush s) := by
  unfold flush
  split
  · exact h
  · have h1 := nb_tok (t := { kind := 0, text := s.text }) h (fun _ => Nat.zero_le _)
    exact ⟨h1.all, h1.tag, h1.dn⟩
theorem nb_tell {t : Tok} (h : NB m s) (ht : t.kind ≠ 5 → t.name.length ≤ m) : NB m (tell s t) := nb_tok (nb_flush h) ht
theorem nb_withoutNul {c : Int} (h : NB m s) : NB m (withoutNul s c) := by
  unfold withoutNul
  split
  · exact nb_wrong h
  · exact h
theorem nb_addText {l : Str} (h : NB m s) : NB m (addText s l) := ⟨h.all, h.tag, h.dn⟩
theorem nb_addToComment {l : Str} (h : NB m s) : NB m (addToComment s l) := ⟨h.all, h.tag, h.dn⟩
theorem nb_putComment {c : Int} (h : NB m s) : NB m (putComment s c) := by
  have h1 := nb_withoutNul (c := c) h
  exact ⟨h1.all, h1.tag, h1.dn⟩
theorem nb_tellComment (h : NB m s) : NB m (tellComment s) := by
  have h1 := nb_tell (t := { kind := 3, text := s.comment }) h (fun _ => Nat.zero_le _)
  exact ⟨h1.all, h1.tag, h1.dn⟩
theorem nb_state {q : Int} (h : NB m s) : NB m { s with state := q } := ⟨h.all, h.tag, h.dn⟩
theorem nb_odd {q : Bool} (h : NB m s) : NB m { s with odd := q } := ⟨h.all, h.tag, h.dn⟩
theorem nb_rsix {q : Bool} (h : NB m s) : NB m { s with rsix := q } := ⟨h.all, h.tag, h.dn⟩
theorem nb_newTag {k : Int} (h : NB m s) : NB m { s with tag := { kind := k } } := ⟨h.all, Nat.zero_le _, h.dn⟩
theorem nb_closes (h : NB m s) : NB m { s with tag := { s.tag with closes := true } } := ⟨h.all, h.tag, h.dn⟩
theorem nb_tagS (h : NB m s) : NB m (tagS s) := ⟨h.all, Nat.zero_le _, h.dn⟩
theorem nb_endComment (h : NB m s) : NB m (endComment s) := nb_state (nb_tellComment h)
theorem nb_cutComment (h : NB m s) : NB m (cutComment s) := nb_tellComment (nb_wrong h)
theorem nb_tellDoctype (h : NB m s) : NB m (tellDoctype s) := by
  have h1 := nb_tell (t := { kind := 4, name := s.dname, flag := s.odd }) h (fun _ => h.dn)
  exact ⟨h1.all, h1.tag, Nat.zero_le _⟩
theorem nb_endDoctype (h : NB m s) : NB m (endDoctype s) := nb_state (nb_tellDoctype h)
theorem nb_cutDoctype (h : NB m s) : NB m (cutDoctype s) := nb_tellDoctype (s := { wrong s [101, 110, 100, 45, 105, 110, 45, 100, 111, 99, 116, 121, 112, 101] with odd := true }) (nb_odd (nb_wrong h))
theorem nb_addToKind {c : Int} (h : NB m s) : NB (m + 4) (addToKind s c) := by
  have h1 := nb_withoutNul (c := c) h
  have h2 := len_rune (lowC (withoutNulC c))
  refine ⟨fun t ht hk => Nat.le_trans (h1.all t ht hk) (by omega), Nat.le_trans h1.tag (by omega), ?_⟩
  show (s.dname ++ Lib.encodeRune (lowC (withoutNulC c))).length ≤ _
  have := h.dn
  rw [List.length_append]
  omega
theorem nb_putText {c : Int} (h : NB m s) : NB m (putText s c) := by
  have h1 := nb_withoutNul (c := c) h
  exact ⟨h1.all, h1.tag, h1.dn⟩
theorem nb_putTag {c : Int} (h : NB m s) : NB (m + 4) (putTag s c) := by
  have h1 := nb_withoutNul (c := c) h
  have h2 := len_rune (lowC (withoutNulC c))
  refine ⟨fun t ht hk => Nat.le_trans (h1.all t ht hk) (by omega), ?_, Nat.le_trans h1.dn (by omega)⟩
  show (s.tag.name ++ Lib.encodeRune (lowC (withoutNulC c))).length ≤ _
  have := h.tag
  rw [List.length_append]
  omega
theorem nb_lessName {c : Int} (h : NB m s) : NB (m + 4) (lessName s c) := by
  have h2 := len_rune (lowC c)
  refine ⟨fun t ht hk => Nat.le_trans (h.all t ht hk) (by omega), ?_, Nat.le_trans h.dn (by omega)⟩
  show (s.tag.name ++ Lib.encodeRune (lowC c)).length ≤ _
  have := h.tag
  rw [List.length_append]
  omega
theorem nb_addToName {c : Int} (h : NB m s) : NB m (addToName s c) := ⟨h.all, h.tag, h.dn⟩
theorem nb_addToValue {c : Int} (h : NB m s) : NB m (addToValue s c) := ⟨h.all, h.tag, h.dn⟩
theorem nb_newAtt (h : NB m s) : NB m (newAtt s) := ⟨h.all, h.tag, h.dn⟩
theorem nb_endName (h : NB m s) : NB m (endName s) := by
  unfold endName nameIsNew
  repeat' split
  · have h1 := nb_wrong (n := twiceS) h
    exact ⟨h1.all, h1.tag, h1.dn⟩
  · exact ⟨h.all, h.tag, h.dn⟩
theorem nb_dropTag (h : NB m s) : NB m (dropTag s) := by
  have h1 := nb_wrong (n := [101, 110, 100, 45, 105, 110, 45, 116, 97, 103]) h
  exact ⟨h1.all, Nat.zero_le _, h1.dn⟩
theorem nb_addRunes (t : ByteArray) : ∀ (f pos : Nat) (s : TS), NB m s → NB m (addRunes t f pos s)
  | 0, _, s, h => h
  | f + 1, pos, s, h => by
    rw [addRunes]
    split
    · exact nb_addRunes t f _ _ (nb_addToValue h)
    · exact h
theorem nb_addToTarget {l : Str} (h : NB m s) : NB m (addToTarget s l) := by
  unfold addToTarget
  split
  · exact nb_addRunes _ _ _ _ h
  · exact nb_addText h
theorem nb_endNumber {q : Int} (h : NB m s) : NB m (endNumber s q) := by
  unfold endNumber
  refine nb_addToTarget ?_
  split
  · exact h
  · exact nb_wrongAt h
theorem nb_leaveAsItIs (h : NB m s) : NB m (leaveAsItIs s) := nb_state (nb_addToTarget (l := [38] ++ s.rcome) h)
theorem nb_tellTag (h : NB m s) : NB m (tellTag s) := by
  unfold tellTag
  split
  · have h1 := nb_tell (s := tagS s) (t := { kind := 1, name := s.tag.name, attrs := attrsOf s.tag.atts, flag := s.tag.closes }) (nb_tagS h) (fun _ => h.tag)
    exact ⟨h1.all, h1.tag, h1.dn⟩
  · unfold endTag
    have k1 : NB m (if s.tag.atts = [] then tagS s else wrong (tagS s) [101, 110, 100, 45, 97, 116, 116, 114, 105, 98, 117, 116, 101, 115]) := by
      split
      · exact nb_tagS h
      · exact nb_wrong (s := tagS s) (nb_tagS h)
    generalize (if s.tag.atts = [] then tagS s else wrong (tagS s) [101, 110, 100, 45, 97, 116, 116, 114, 105, 98, 117, 116, 101, 115]) = s1 at *
    have k2 : NB m (if s.tag.closes = true then wrong s1 [101, 110, 100, 45, 115, 108, 97, 115, 104] else s1) := by
      split
      · exact nb_wrong k1
      · exact k1
    have h1 := nb_tell (t := { kind := 2, name := s.tag.name }) k2 (fun _ => h.tag)
    exact ⟨h1.all, h1.tag, h1.dn⟩
theorem nb_noDecl (h : NB m s) : NB m (noDecl s) := ⟨h.all, h.tag, h.dn⟩
theorem nb_setCome {l : Str} (h : NB m s) : NB m (setCome s l) := ⟨h.all, h.tag, h.dn⟩
theorem nb_addDigit {c : Int} (h : NB m s) : NB m (addDigit s c) := ⟨h.all, h.tag, h.dn⟩
theorem nb_toReference (h : NB m s) : NB m (toReference s) := ⟨h.all, h.tag, h.dn⟩
theorem nb_endOpenName {n : Str × Str} {c : Int} (h : NB m s) : NB m (endOpenName s n c) := by
  refine nb_state (nb_addToTarget ?_)
  unfold openName
  split
  · exact nb_addToTarget h
  · exact nb_addToTarget (nb_wrongAt h)
theorem nb_inData (h : NB m s) : NB (m + 8) (lookInData s c).2 := by
  unfold lookInData
  repeat' split
  · exact NB.mono (h) (by omega)
  · exact NB.mono ((nb_toReference h)) (by omega)
  · exact NB.mono ((nb_state h)) (by omega)
  · exact NB.mono ((nb_addText (nb_wrong h))) (by omega)
  · exact NB.mono ((nb_addText h)) (by omega)
theorem nb_inTitle (h : NB m s) : NB (m + 8) (lookInTitle s c).2 := by
  unfold lookInTitle
  repeat' split
  · exact NB.mono (h) (by omega)
  · exact NB.mono ((nb_toReference h)) (by omega)
  · exact NB.mono ((nb_state h)) (by omega)
  · exact NB.mono ((nb_putText h)) (by omega)
theorem nb_inRaw (h : NB m s) : NB (m + 8) (lookInRaw s c).2 := by
  unfold lookInRaw
  repeat' split
  · exact NB.mono (h) (by omega)
  · exact NB.mono ((nb_putText h)) (by omega)
  · exact NB.mono ((nb_state h)) (by omega)
  · exact NB.mono ((nb_putText h)) (by omega)
theorem nb_inOpen (h : NB m s) : NB (m + 8) (lookInOpen s c).2 := by
  unfold lookInOpen
  repeat' split
  · exact NB.mono ((nb_state h)) (by omega)
  · exact NB.mono ((nb_state h)) (by omega)
  · exact NB.mono ((nb_state (nb_newTag h))) (by omega)
  · exact NB.mono ((nb_state (nb_wrong h))) (by omega)
  · exact NB.mono ((nb_addText (nb_wrong h))) (by omega)
  · exact NB.mono ((nb_state (nb_addText (nb_wrong h)))) (by omega)
theorem nb_inClose (h : NB m s) : NB (m + 8) (lookInClose s c).2 := by
  unfold lookInClose
  repeat' split
  · exact NB.mono ((nb_state (nb_newTag h))) (by omega)
  · exact NB.mono ((nb_state (nb_wrong h))) (by omega)
  · exact NB.mono ((nb_addText (nb_wrong h))) (by omega)
  · exact NB.mono ((nb_state (nb_wrong h))) (by omega)
theorem nb_inLess (h : NB m s) : NB (m + 8) (lookInLess s c).2 := by
  unfold lookInLess backToBase
  repeat' split
  · exact NB.mono (nb_state h) (by omega)
  · exact NB.mono (nb_state (nb_addText h)) (by omega)
theorem nb_inLessClose (h : NB m s) : NB (m + 8) (lookInLessClose s c).2 := by
  unfold lookInLessClose backToBase
  repeat' split
  · exact NB.mono (nb_state (nb_newTag h)) (by omega)
  · exact NB.mono (nb_state (nb_addText h)) (by omega)
theorem nb_inLessName (h : NB m s) : NB (m + 8) (lookInLessName s c).2 := by
  unfold lookInLessName backToBase
  repeat' split
  · exact NB.mono (nb_lessName h) (by omega)
  · exact NB.mono (nb_state h) (by omega)
  · exact NB.mono (nb_state (nb_addText (s := { s with tag := {} }) (nb_newTag h))) (by omega)
theorem nb_inTag (h : NB m s) : NB (m + 8) (lookInTag s c).2 := by
  unfold lookInTag
  repeat' split
  · exact NB.mono ((nb_state h)) (by omega)
  · exact NB.mono ((nb_state h)) (by omega)
  · exact NB.mono ((nb_tellTag h)) (by omega)
  · exact NB.mono ((nb_dropTag h)) (by omega)
  · exact NB.mono ((nb_putTag h)) (by omega)
theorem nb_inAttr (h : NB m s) : NB (m + 8) (lookInAttr s c).2 := by
  unfold lookInAttr
  repeat' split
  · exact NB.mono (h) (by omega)
  · exact NB.mono ((nb_state h)) (by omega)
  · exact NB.mono ((nb_state (nb_addToName (nb_newAtt (nb_wrong h))))) (by omega)
  · exact NB.mono ((nb_state (nb_newAtt h))) (by omega)
theorem nb_inName (h : NB m s) : NB (m + 8) (lookInName s c).2 := by
  unfold lookInName
  repeat' split
  · exact NB.mono ((nb_state (nb_endName h))) (by omega)
  · exact NB.mono ((nb_state (nb_endName h))) (by omega)
  · exact NB.mono ((nb_addToName (nb_withoutNul (nb_wrong h)))) (by omega)
  · exact NB.mono ((nb_addToName (nb_withoutNul h))) (by omega)
theorem nb_inAfter (h : NB m s) : NB (m + 8) (lookInAfter s c).2 := by
  unfold lookInAfter
  repeat' split
  · exact NB.mono (h) (by omega)
  · exact NB.mono ((nb_state h)) (by omega)
  · exact NB.mono ((nb_state h)) (by omega)
  · exact NB.mono ((nb_tellTag h)) (by omega)
  · exact NB.mono ((nb_dropTag h)) (by omega)
  · exact NB.mono ((nb_state (nb_newAtt h))) (by omega)
theorem nb_inEquals (h : NB m s) : NB (m + 8) (lookInEquals s c).2 := by
  unfold lookInEquals
  repeat' split
  · exact NB.mono (h) (by omega)
  · exact NB.mono ((nb_state h)) (by omega)
  · exact NB.mono ((nb_state h)) (by omega)
  · exact NB.mono ((nb_tellTag (nb_wrong h))) (by omega)
  · exact NB.mono ((nb_state h)) (by omega)
theorem nb_inDouble (h : NB m s) : NB (m + 8) (lookInDouble s c).2 := by
  unfold lookInDouble
  repeat' split
  · exact NB.mono ((nb_state h)) (by omega)
  · exact NB.mono ((nb_toReference h)) (by omega)
  · exact NB.mono ((nb_dropTag h)) (by omega)
  · exact NB.mono ((nb_addToValue (nb_withoutNul h))) (by omega)
theorem nb_inSingle (h : NB m s) : NB (m + 8) (lookInSingle s c).2 := by
  unfold lookInSingle
  repeat' split
  · exact NB.mono ((nb_state h)) (by omega)
  · exact NB.mono ((nb_toReference h)) (by omega)
  · exact NB.mono ((nb_dropTag h)) (by omega)
  · exact NB.mono ((nb_addToValue (nb_withoutNul h))) (by omega)
theorem nb_inPlain (h : NB m s) : NB (m + 8) (lookInPlain s c).2 := by
  unfold lookInPlain
  repeat' split
  · exact NB.mono ((nb_state h)) (by omega)
  · exact NB.mono ((nb_toReference h)) (by omega)
  · exact NB.mono ((nb_tellTag h)) (by omega)
  · exact NB.mono ((nb_dropTag h)) (by omega)
  · exact NB.mono ((nb_addToValue (nb_withoutNul (nb_wrong h)))) (by omega)
  · exact NB.mono ((nb_addToValue (nb_withoutNul h))) (by omega)
theorem nb_inValue (h : NB m s) : NB (m + 8) (lookInValue s c).2 := by
  unfold lookInValue
  repeat' split
  · exact NB.mono ((nb_state h)) (by omega)
  · exact NB.mono ((nb_state h)) (by omega)
  · exact NB.mono ((nb_tellTag h)) (by omega)
  · exact NB.mono ((nb_dropTag h)) (by omega)
  · exact NB.mono ((nb_state (nb_wrong h))) (by omega)
theorem nb_inSelf (h : NB m s) : NB (m + 8) (lookInSelf s c).2 := by
  unfold lookInSelf
  repeat' split
  · exact NB.mono ((nb_tellTag (nb_closes h))) (by omega)
  · exact NB.mono ((nb_dropTag h)) (by omega)
  · exact NB.mono ((nb_state (nb_wrong h))) (by omega)
theorem nb_inDecl (h : NB m s) : NB (m + 8) (lookInDecl s c).2 := by
  unfold lookInDecl
  repeat' split
  · exact NB.mono ((show NB m { s with declared := s.declared ++ Lib.encodeRune c } from ⟨h.all, h.tag, h.dn⟩)) (by omega)
  · exact NB.mono (nb_state (nb_noDecl h)) (by omega)
  · exact NB.mono (nb_state (nb_noDecl h)) (by omega)
  · exact NB.mono (nb_state (nb_addToComment (nb_wrongAt (nb_noDecl h)))) (by omega)
  · exact NB.mono (nb_state (nb_addToComment (nb_wrongAt (nb_noDecl h)))) (by omega)
theorem nb_inBogus (h : NB m s) : NB (m + 8) (lookInBogus s c).2 := by
  unfold lookInBogus
  repeat' split
  · exact NB.mono ((nb_endComment h)) (by omega)
  · exact NB.mono ((nb_tellComment h)) (by omega)
  · exact NB.mono ((nb_putComment h)) (by omega)
theorem nb_inBegin (h : NB m s) : NB (m + 8) (lookInBegin s c).2 := by
  unfold lookInBegin
  repeat' split
  · exact NB.mono ((nb_state h)) (by omega)
  · exact NB.mono ((nb_endComment (nb_wrong h))) (by omega)
  · exact NB.mono ((nb_state h)) (by omega)
theorem nb_inBeginDash (h : NB m s) : NB (m + 8) (lookInBeginDash s c).2 := by
  unfold lookInBeginDash lookInDash
  repeat' split
  · exact NB.mono ((nb_endComment (nb_wrong h))) (by omega)
  · exact NB.mono ((nb_state h)) (by omega)
  · exact NB.mono ((nb_cutComment h)) (by omega)
  · exact NB.mono ((nb_state (nb_addToComment h))) (by omega)
theorem nb_inComment (h : NB m s) : NB (m + 8) (lookInComment s c).2 := by
  unfold lookInComment
  repeat' split
  · exact NB.mono ((nb_state h)) (by omega)
  · exact NB.mono ((nb_cutComment h)) (by omega)
  · exact NB.mono ((nb_putComment h)) (by omega)
theorem nb_inDash (h : NB m s) : NB (m + 8) (lookInDash s c).2 := by
  unfold lookInDash
  repeat' split
  · exact NB.mono ((nb_state h)) (by omega)
  · exact NB.mono ((nb_cutComment h)) (by omega)
  · exact NB.mono ((nb_state (nb_addToComment h))) (by omega)
theorem nb_inDashes (h : NB m s) : NB (m + 8) (lookInDashes s c).2 := by
  unfold lookInDashes
  repeat' split
  · exact NB.mono ((nb_endComment h)) (by omega)
  · exact NB.mono ((nb_state h)) (by omega)
  · exact NB.mono ((nb_addToComment h)) (by omega)
  · exact NB.mono ((nb_cutComment h)) (by omega)
  · exact NB.mono ((nb_state (nb_addToComment h))) (by omega)
theorem nb_inBang (h : NB m s) : NB (m + 8) (lookInBang s c).2 := by
  unfold lookInBang
  repeat' split
  · exact NB.mono ((nb_state (nb_addToComment h))) (by omega)
  · exact NB.mono ((nb_endComment (nb_wrong h))) (by omega)
  · exact NB.mono ((nb_cutComment h)) (by omega)
  · exact NB.mono ((nb_state (nb_addToComment h))) (by omega)
theorem nb_inDoctype (h : NB m s) : NB (m + 8) (lookInDoctype s c).2 := by
  unfold lookInDoctype
  repeat' split
  · exact NB.mono ((nb_state h)) (by omega)
  · exact NB.mono ((nb_state h)) (by omega)
  · exact NB.mono ((nb_cutDoctype h)) (by omega)
  · exact NB.mono ((nb_state (nb_wrong h))) (by omega)
theorem nb_inKind (h : NB m s) : NB (m + 8) (lookInKind s c).2 := by
  unfold lookInKind
  repeat' split
  · exact NB.mono (h) (by omega)
  · exact NB.mono ((nb_endDoctype (nb_odd (nb_wrong h)))) (by omega)
  · exact NB.mono ((nb_cutDoctype h)) (by omega)
  · exact NB.mono ((nb_state (nb_addToKind h))) (by omega)
theorem nb_inKindName (h : NB m s) : NB (m + 8) (lookInKindName s c).2 := by
  unfold lookInKindName
  repeat' split
  · exact NB.mono ((nb_state h)) (by omega)
  · exact NB.mono ((nb_endDoctype h)) (by omega)
  · exact NB.mono ((nb_cutDoctype h)) (by omega)
  · exact NB.mono ((nb_addToKind h)) (by omega)
theorem nb_inKindEnd (h : NB m s) : NB (m + 8) (lookInKindEnd s c).2 := by
  unfold lookInKindEnd
  repeat' split
  · exact NB.mono (h) (by omega)
  · exact NB.mono ((nb_endDoctype h)) (by omega)
  · exact NB.mono ((nb_cutDoctype h)) (by omega)
  · exact NB.mono ((nb_state (nb_odd (nb_wrong h)))) (by omega)
theorem nb_inKindRest (h : NB m s) : NB (m + 8) (lookInKindRest s c).2 := by
  unfold lookInKindRest
  repeat' split
  · exact NB.mono ((nb_endDoctype h)) (by omega)
  · exact NB.mono ((nb_wrong h)) (by omega)
  · exact NB.mono ((nb_tellDoctype h)) (by omega)
  · exact NB.mono (h) (by omega)
theorem nb_inRef (h : NB m s) : NB (m + 8) (lookInRef s c).2 := by
  unfold lookInRef
  repeat' split
  · exact NB.mono ((nb_state h)) (by omega)
  · exact NB.mono ((nb_state (nb_setCome h))) (by omega)
  · exact NB.mono ((nb_leaveAsItIs h)) (by omega)
theorem nb_inRefName (h : NB m s) : NB (m + 8) (lookInRefName s c).2 := by
  unfold lookInRefName
  repeat' split
  · exact NB.mono ((nb_setCome h)) (by omega)
  · exact NB.mono ((nb_state (nb_addToTarget h))) (by omega)
  · exact NB.mono ((nb_state (nb_addToTarget h))) (by omega)
  · exact NB.mono ((nb_endOpenName h)) (by omega)
theorem nb_inRefUnknown (h : NB m s) : NB (m + 8) (lookInRefUnknown s c).2 := by
  unfold lookInRefUnknown
  repeat' split
  · exact NB.mono ((nb_addToTarget h)) (by omega)
  · exact NB.mono ((nb_state (nb_wrong h))) (by omega)
  · exact NB.mono ((nb_state h)) (by omega)
theorem nb_inRefHash (h : NB m s) : NB (m + 8) (lookInRefHash s c).2 := by
  unfold lookInRefHash
  repeat' split
  · exact NB.mono ((show NB m _ from ⟨h.all, h.tag, h.dn⟩)) (by omega)
  · exact NB.mono (nb_state h) (by omega)
theorem nb_inRefNumber (h : NB m s) : NB (m + 8) (lookInRefNumber s c).2 := by
  unfold lookInRefNumber
  repeat' split
  · exact NB.mono ((nb_addDigit h)) (by omega)
  · exact NB.mono ((nb_leaveAsItIs (nb_wrong h))) (by omega)
  · exact NB.mono ((nb_state (nb_endNumber h))) (by omega)
  · exact NB.mono ((nb_state (nb_endNumber (nb_wrong h)))) (by omega)
theorem nb_lookOnce (g : Good s c) (h : NB m s) : NB (m + 8) (lookOnce s c).2 := by
  by_cases e_inData : s.state = 0
  · have hf : lookOnce s c = lookInData s c := by simp [lookOnce, e_inData]
    rw [hf]
    exact nb_inData h
  by_cases e_inTitle : s.state = 1
  · have hf : lookOnce s c = lookInTitle s c := by simp [lookOnce, e_inTitle]
    rw [hf]
    exact nb_inTitle h
  by_cases e_inRaw : s.state = 2
  · have hf : lookOnce s c = lookInRaw s c := by simp [lookOnce, e_inRaw]
    rw [hf]
    exact nb_inRaw h
  by_cases e_inOpen : s.state = 3
  · have hf : lookOnce s c = lookInOpen s c := by simp [lookOnce, e_inOpen]
    rw [hf]
    exact nb_inOpen h
  by_cases e_inClose : s.state = 4
  · have hf : lookOnce s c = lookInClose s c := by simp [lookOnce, e_inClose]
    rw [hf]
    exact nb_inClose h
  by_cases e_inLess : s.state = 5
  · have hf : lookOnce s c = lookInLess s c := by simp [lookOnce, e_inLess]
    rw [hf]
    exact nb_inLess h
  by_cases e_inLessClose : s.state = 6
  · have hf : lookOnce s c = lookInLessClose s c := by simp [lookOnce, e_inLessClose]
    rw [hf]
    exact nb_inLessClose h
  by_cases e_inLessName : s.state = 7
  · have hf : lookOnce s c = lookInLessName s c := by simp [lookOnce, e_inLessName]
    rw [hf]
    exact nb_inLessName h
  by_cases e_inTag : s.state = 8
  · have hf : lookOnce s c = lookInTag s c := by simp [lookOnce, e_inTag]
    rw [hf]
    exact nb_inTag h
  by_cases e_inAttr : s.state = 9
  · have hf : lookOnce s c = lookInAttr s c := by simp [lookOnce, e_inAttr]
    rw [hf]
    exact nb_inAttr h
  by_cases e_inName : s.state = 10
  · have hf : lookOnce s c = lookInName s c := by simp [lookOnce, e_inName]
    rw [hf]
    exact nb_inName h
  by_cases e_inAfter : s.state = 11
  · have hf : lookOnce s c = lookInAfter s c := by simp [lookOnce, e_inAfter]
    rw [hf]
    exact nb_inAfter h
  by_cases e_inEquals : s.state = 12
  · have hf : lookOnce s c = lookInEquals s c := by simp [lookOnce, e_inEquals]
    rw [hf]
    exact nb_inEquals h
  by_cases e_inDouble : s.state = 13
  · have hf : lookOnce s c = lookInDouble s c := by simp [lookOnce, e_inDouble]
    rw [hf]
    exact nb_inDouble h
  by_cases e_inSingle : s.state = 14
  · have hf : lookOnce s c = lookInSingle s c := by simp [lookOnce, e_inSingle]
    rw [hf]
    exact nb_inSingle h
  by_cases e_inPlain : s.state = 15
  · have hf : lookOnce s c = lookInPlain s c := by simp [lookOnce, e_inPlain]
    rw [hf]
    exact nb_inPlain h
  by_cases e_inValue : s.state = 16
  · have hf : lookOnce s c = lookInValue s c := by simp [lookOnce, e_inValue]
    rw [hf]
    exact nb_inValue h
  by_cases e_inSelf : s.state = 17
  · have hf : lookOnce s c = lookInSelf s c := by simp [lookOnce, e_inSelf]
    rw [hf]
    exact nb_inSelf h
  by_cases e_inDecl : s.state = 18
  · have hf : lookOnce s c = lookInDecl s c := by simp [lookOnce, e_inDecl]
    rw [hf]
    exact nb_inDecl h
  by_cases e_inBogus : s.state = 19
  · have hf : lookOnce s c = lookInBogus s c := by simp [lookOnce, e_inBogus]
    rw [hf]
    exact nb_inBogus h
  by_cases e_inBegin : s.state = 20
  · have hf : lookOnce s c = lookInBegin s c := by simp [lookOnce, e_inBegin]
    rw [hf]
    exact nb_inBegin h
  by_cases e_inBeginDash : s.state = 21
  · have hf : lookOnce s c = lookInBeginDash s c := by simp [lookOnce, e_inBeginDash]
    rw [hf]
    exact nb_inBeginDash h
  by_cases e_inComment : s.state = 22
  · have hf : lookOnce s c = lookInComment s c := by simp [lookOnce, e_inComment]
    rw [hf]
    exact nb_inComment h
  by_cases e_inDash : s.state = 23
  · have hf : lookOnce s c = lookInDash s c := by simp [lookOnce, e_inDash]
    rw [hf]
    exact nb_inDash h
  by_cases e_inDashes : s.state = 24
  · have hf : lookOnce s c = lookInDashes s c := by simp [lookOnce, e_inDashes]
    rw [hf]
    exact nb_inDashes h
  by_cases e_inBang : s.state = 25
  · have hf : lookOnce s c = lookInBang s c := by simp [lookOnce, e_inBang]
    rw [hf]
    exact nb_inBang h
  by_cases e_inDoctype : s.state = 26
  · have hf : lookOnce s c = lookInDoctype s c := by simp [lookOnce, e_inDoctype]
    rw [hf]
    exact nb_inDoctype h
  by_cases e_inKind : s.state = 27
  · have hf : lookOnce s c = lookInKind s c := by simp [lookOnce, e_inKind]
    rw [hf]
    exact nb_inKind h
  by_cases e_inKindName : s.state = 28
  · have hf : lookOnce s c = lookInKindName s c := by simp [lookOnce, e_inKindName]
    rw [hf]
    exact nb_inKindName h
  by_cases e_inKindEnd : s.state = 29
  · have hf : lookOnce s c = lookInKindEnd s c := by simp [lookOnce, e_inKindEnd]
    rw [hf]
    exact nb_inKindEnd h
  by_cases e_inKindRest : s.state = 30
  · have hf : lookOnce s c = lookInKindRest s c := by simp [lookOnce, e_inKindRest]
    rw [hf]
    exact nb_inKindRest h
  by_cases e_inRef : s.state = 31
  · have hf : lookOnce s c = lookInRef s c := by simp [lookOnce, e_inRef]
    rw [hf]
    exact nb_inRef h
  by_cases e_inRefName : s.state = 32
  · have hf : lookOnce s c = lookInRefName s c := by simp [lookOnce, e_inRefName]
    rw [hf]
    exact nb_inRefName h
  by_cases e_inRefUnknown : s.state = 33
  · have hf : lookOnce s c = lookInRefUnknown s c := by simp [lookOnce, e_inRefUnknown]
    rw [hf]
    exact nb_inRefUnknown h
  by_cases e_inRefHash : s.state = 34
  · have hf : lookOnce s c = lookInRefHash s c := by simp [lookOnce, e_inRefHash]
    rw [hf]
    exact nb_inRefHash h
  by_cases e_inRefNumber : s.state = 35
  · have hf : lookOnce s c = lookInRefNumber s c := by simp [lookOnce, e_inRefNumber]
    rw [hf]
    exact nb_inRefNumber h
  have := g.st0
  have := g.st1
  omega
theorem nb_lookN : ∀ (n m : Nat) (s : TS), Good s c → NB m s → NB (m + 8 * n) (lookN n s c)
  | 0, m, s, g, h => h
  | n + 1, m, s, g, h => by
    have h1 := nb_lookOnce g h
    rw [lookN]
    rcases good_lookOnce g with ⟨e, _⟩ | ⟨e, hg, hk⟩
    · rw [if_pos e]
      exact h1.mono (by omega)
    · rw [if_neg (by rw [e]; decide)]
      exact (nb_lookN n _ _ hg h1).mono (by omega)
theorem nb_look4 (hf : Fine s) (h : NB m s) : NB (m + 32) (lookN 4 s c) := nb_lookN 4 m s (hf.1 c) h
theorem nb_pass (hf : Fine s) (h : NB m s) : NB (m + 32) (pass 4 s c) := by
  have hf' : Fine (setBehind s c) := hf.head rfl rfl rfl rfl rfl rfl rfl rfl
  have h' : NB m (setBehind s c) := ⟨h.all, h.tag, h.dn⟩
  unfold pass
  split
  · exact h'.mono (by omega)
  · split
    · have h1 := nb_look4 (c := 10) hf' h'
      exact ⟨h1.all, h1.tag, h1.dn⟩
    · have h1 := nb_look4 (c := c) hf' h'
      exact ⟨h1.all, h1.tag, h1.dn⟩
theorem nb_readN (w0 : World) : ∀ (f : Nat) (s : TS) (r : Str) (m : Nat), r.length ≤ f → Fine s → s.place + r.length ≤ 1099511627776 → sz s + 512 * r.length ≤ lim → NB m s → NB (m + 32 * r.length) (readN 4 f s r).1
  | 0, s, r, m, _, _, _, _, h => h.mono (by omega)
  | f + 1, s, r, m, hl, hf, hp, hz, h => by
    rw [readN]
    by_cases h0 : (firstPt r).2 = 0
    · rw [if_pos h0]
      exact h.mono (by omega)
    · rw [if_neg h0]
      have hle := firstPt_le r
      have hd : (r.drop (firstPt r).2).length = r.length - (firstPt r).2 := List.length_drop
      obtain ⟨c0, c1⟩ := firstPt_rn r
      obtain ⟨_, i2, i3, i4, _⟩ := pass_fine (w0 := w0) (own0 := fun _ => False) hf c0 c1 (by omega) (by omega)
      exact (nb_readN w0 f _ _ _ (by omega) i3 (by omega) (by omega) (nb_pass hf h)).mono (by omega)
theorem nb_put (w0 : World) {n : Nat} (ho : Open s n) (x : Str) (hn : n + x.length ≤ 1073741824) (h : NB m s) : NB (m + 32 * (x.length + 3)) (put s x) := by
  have h3 := ho.short
  have hf : Fine { s with bytes := s.bytes + x.length } := ho.fine.head rfl rfl rfl rfl rfl rfl rfl rfl
  have hl : (s.begun ++ x).length = s.begun.length + x.length := List.length_append
  have hz : sz ({ s with bytes := s.bytes + x.length } : TS) = sz s := rfl
  have hp : ({ s with bytes := s.bytes + x.length } : TS).place = s.place := rfl
  have hpl := ho.place
  have hsz := ho.small
  have h1 := nb_readN w0 (s.begun ++ x).length { s with bytes := s.bytes + x.length } (s.begun ++ x) m (Nat.le_refl _) hf (by omega) (by unfold lim; omega) ⟨h.all, h.tag, h.dn⟩
  exact NB.mono (s := put s x) ⟨h1.all, h1.tag, h1.dn⟩ (by omega)
theorem nb_endAll (w0 : World) {n : Nat} (ho : Open s n) (hn : n ≤ 1073741824) (h : NB m s) : NB (m + 64) (endAll s) := by
  have hf' : Fine { s with closed := true } := ho.fine.head rfl rfl rfl rfl rfl rfl rfl rfl
  have hsz := ho.small
  have hpl := ho.place
  have hz : sz { s with closed := true } = sz s := rfl
  obtain ⟨_, i2, _⟩ := endPoints_fine (w0 := w0) (own0 := fun _ => False) hf' (by show s.place + 1 ≤ _; omega) (by unfold lim; omega)
  have h2 : NB (m + 32) (endPoints 4 { s with closed := true }) := by
    unfold endPoints
    split
    · exact NB.mono (s := { s with closed := true }) ⟨h.all, h.tag, h.dn⟩ (by omega)
    · exact nb_pass (s := { ({ s with closed := true } : TS) with begun := [] }) (hf'.head rfl rfl rfl rfl rfl rfl rfl rfl) ⟨h.all, h.tag, h.dn⟩
  unfold endAll
  exact nb_flush (nb_look4 i2 h2)
theorem nb_new (l : Int) : NB 0 { limit := l } := ⟨fun t h => (by cases h), Nat.le_refl _, Nat.le_refl _⟩
end
theorem toks_name (w0 : World) (x : Str) (hx : x.length ≤ 1073741824) {t : Tok} (ht : t ∈ toks x) (hk : t.kind ≠ 5) : t.name.length ≤ 32 * x.length + 160 := by
  have ho := Open.new (x.length : Int)
  have ho2 := (open_put (w0 := w0) (own0 := fun _ => False) ho x (by omega)).2.1
  have h1 := nb_endAll w0 ho2 (by omega) (nb_put w0 ho x (by omega) (nb_new _))
  unfold toks at ht
  rw [closeT_told] at ht
  rcases List.mem_append.1 ht with h | h
  · have := h1.all t h hk
    omega
  · rw [List.mem_singleton.1 h]
    exact Nat.zero_le _
end Go.Proofs.YtdfmapcnfficlaaGreatDoor

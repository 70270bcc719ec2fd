/-
  The shape of what is told: kinds, names, attributes, texts.
  Where a look leads; the shape stands from look to look.
-/
import Derived.Test.YtdfmapcnfficlaaGreatDoorB42
import Derived.Test.YtdfmapcnfficlaaGreatDoorB44
import Derived.Test.YtdfmapcnfficlaaGreatDoorB40
set_option linter.unusedSimpArgs false
set_option linter.unusedVariables false
namespace Go.Proofs.YtdfmapcnfficlaaGreatDoor
open Go Go.RowKit

def lowN (l : Str) : Prop := ∀ b ∈ l, ¬ (65 ≤ b.toNat ∧ b.toNat ≤ 90)
theorem lowN.nil : lowN [] := fun b h => by cases h
theorem lowN.app {a b : Str} (ha : lowN a) (hb : lowN b) : lowN (a ++ b) := fun x hx => (List.mem_append.1 hx).elim (ha x) (hb x)
def keys (l : List Att) : List Str := (l.filter fun a => !a.twice).map (·.name)
theorem keys_snoc (l : List Att) (a : Att) : keys (l ++ [a]) = keys l ++ (if a.twice then [] else [a.name]) := by
  unfold keys
  rw [List.filter_append, List.map_append]
  cases h : a.twice <;> simp [h]
structure Ended (g : TagS) : Prop where
  eq : g.names.getD [] = keys g.atts
  nd : (keys g.atts).Nodup
def Opened (g : TagS) : Prop := ∃ pre a, g.atts = pre ++ [a] ∧ a.twice = false ∧ g.names.getD [] = keys pre ∧ (keys pre).Nodup
theorem Ended.new (k : Int) : Ended { kind := k } := ⟨rfl, List.nodup_nil⟩
def attOk (t : Tok) : Prop := (t.attrs ≠ [] → t.kind = 1) ∧ ∃ ps : List (Str × Str), t.attrs = ps.flatMap (fun p => [p.1, p.2]) ∧ (ps.map (·.1)).Nodup
theorem attOk.none {t : Tok} (h : t.attrs = []) : attOk t := ⟨fun hh => absurd h hh, [], by rw [h]; rfl, List.nodup_nil⟩
theorem attrsOf_pairs : ∀ l : List Att, attrsOf l = ((l.filter fun a => !a.twice).map fun a => (a.name, a.value)).flatMap (fun p => [p.1, p.2])
  | [] => rfl
  | a :: l => by
    rw [attrsOf, attrsOf_pairs l]
    cases h : a.twice <;> simp [h]
theorem Ended.attOk {g : TagS} (h : Ended g) (t : Tok) (ht : t.attrs = attrsOf g.atts) (hk : t.kind = 1) : attOk t := by
  refine ⟨fun _ => hk, (g.atts.filter fun a => !a.twice).map fun a => (a.name, a.value), by rw [ht, attrsOf_pairs], ?_⟩
  rw [List.map_map]
  exact h.nd
def tokA (c : Bool) (t : Tok) : Prop := t.kind ≠ 6 ∧ (t.kind = 5 → t.name ≠ []) ∧ (t.kind ≠ 5 → lowN t.name ∧ attOk t) ∧ (t.kind = 0 → c = false ∧ t.text ≠ [])
def lastC (l : List Tok) : Bool := l.foldl (fun b t => if t.kind = 5 then b else t.kind == 0) false
theorem lastC_snoc (l : List Tok) (t : Tok) : lastC (l ++ [t]) = if t.kind = 5 then lastC l else t.kind == 0 := by simp [lastC]
def AllA (l : List Tok) : Prop := ∀ i t, l[i]? = some t → tokA (lastC (l.take i)) t
theorem AllA.snoc {l : List Tok} {t : Tok} (h : AllA l) (ht : tokA (lastC l) t) : AllA (l ++ [t]) := by
  intro i u hu
  by_cases hi : i < l.length
  · rw [List.getElem?_append_left hi] at hu
    rw [List.take_append_of_le_length (by omega)]
    exact h i u hu
  · have hi' : i = l.length := by
      have := (List.getElem?_eq_some_iff.1 hu).1
      simp at this
      omega
    subst hi'
    simp at hu
    subst hu
    rw [List.take_left]
    exact ht
def CoreA (s : TS) : Prop := AllA s.told ∧ lastC s.told = false ∧ lowN s.tag.name ∧ lowN s.dname
def EndA (s : TS) : Prop := CoreA s ∧ Ended s.tag
def OpenA (s : TS) : Prop := CoreA s ∧ Opened s.tag

theorem enc_low {c : Int} (h : ¬ (65 ≤ c ∧ c ≤ 90)) : lowN (Lib.encodeRune c) := by
  intro b hb
  unfold Lib.encodeRune at hb
  obtain ⟨z, hz, rfl⟩ := List.mem_map.1 hb
  have h0 := Lib.encodeRuneZ_byte c z hz
  have e : (z.toNat.toUInt8).toNat = z.toNat := by
    simp [Nat.toUInt8, UInt8.toNat_ofNat']
    omega
  rw [e]
  unfold Lib.encodeRuneZ at hz
  repeat' split at hz
  all_goals simp at hz
  all_goals omega
theorem lowC_not (c : Int) : ¬ (65 ≤ lowC c ∧ lowC c ≤ 90) := by
  unfold lowC
  split <;> omega
theorem enc_lowC (c : Int) : lowN (Lib.encodeRune (lowC c)) := enc_low (lowC_not c)

section
variable {s : TS} {c : Int}
theorem ca_wrongTok (t : Tok) (hk : t.kind = 5) (hn : t.name ≠ []) (h : CoreA s) : CoreA (tellTok s t) := by
  refine ⟨h.1.snoc ⟨by rw [hk]; decide, fun _ => hn, fun hh => absurd hk hh, fun hh => by rw [hk] at hh; cases hh⟩, ?_, h.2.2⟩
  show lastC (s.told ++ [t]) = false
  rw [lastC_snoc, if_pos hk]
  exact h.2.1
theorem ca_flush (h : CoreA s) : AllA (flush s).told := by
  unfold flush
  split
  · exact h.1
  · rename_i ht
    exact h.1.snoc ⟨by simp, (fun hh => by cases hh), (fun _ => ⟨lowN.nil, attOk.none rfl⟩), (fun _ => ⟨h.2.1, ht⟩)⟩
theorem ca_tell {t : Tok} (hk : t.kind ≠ 5 ∧ t.kind ≠ 0 ∧ t.kind ≠ 6) (hl : lowN t.name) (ha : attOk t) (h : CoreA s) : CoreA (tell s t) := by
  refine ⟨(ca_flush h).snoc ⟨hk.2.2, fun hh => absurd hh hk.1, fun _ => ⟨hl, ha⟩, fun hh => absurd hh hk.2.1⟩, ?_, ?_⟩
  · show lastC ((flush s).told ++ [t]) = false
    rw [lastC_snoc, if_neg hk.1]
    simpa using hk.2.1
  · show lowN (flush s).tag.name ∧ lowN (flush s).dname
    unfold flush
    split <;> exact h.2.2
theorem tag_flush (s : TS) : (flush s).tag = s.tag := by unfold flush; split <;> rfl
theorem ea_wrongAt {n : Str} {q : Int} (hn : n ≠ []) (h : EndA s) : EndA (wrongAt s n q) := ⟨ca_wrongTok _ rfl hn h.1, h.2⟩
theorem ea_wrong {n : Str} (hn : n ≠ []) (h : EndA s) : EndA (wrong s n) := ⟨ca_wrongTok _ rfl hn h.1, h.2⟩
theorem oa_wrong {n : Str} (hn : n ≠ []) (h : OpenA s) : OpenA (wrong s n) := ⟨ca_wrongTok _ rfl hn h.1, h.2⟩
theorem ea_withoutNul {c : Int} (h : EndA s) : EndA (withoutNul s c) := by
  unfold withoutNul
  split
  · exact ea_wrong (by decide) h
  · exact h
theorem oa_withoutNul {c : Int} (h : OpenA s) : OpenA (withoutNul s c) := by
  unfold withoutNul
  split
  · exact oa_wrong (by decide) h
  · exact h
theorem ea_addText {l : Str} (h : EndA s) : EndA (addText s l) := h
theorem ea_addToComment {l : Str} (h : EndA s) : EndA (addToComment s l) := h
theorem ea_putComment {c : Int} (h : EndA s) : EndA (putComment s c) := ea_withoutNul h
theorem ea_tell {t : Tok} (hk : t.kind ≠ 5 ∧ t.kind ≠ 0 ∧ t.kind ≠ 6) (hl : lowN t.name) (ha : attOk t) (h : EndA s) : EndA (tell s t) := ⟨ca_tell hk hl ha h.1, by show Ended (flush s).tag; rw [tag_flush]; exact h.2⟩
theorem ea_tellComment (h : EndA s) : EndA (tellComment s) := ea_tell (t := { kind := 3, text := s.comment }) (by simp) lowN.nil (attOk.none rfl) h
theorem ea_endComment (h : EndA s) : EndA (endComment s) := ea_tellComment h
theorem ea_cutComment (h : EndA s) : EndA (cutComment s) := ea_tellComment (ea_wrong (by decide) h)
theorem ea_tellDoctype (h : EndA s) : EndA (tellDoctype s) := by
  have h1 := ea_tell (t := { kind := 4, name := s.dname, flag := s.odd }) (by simp) h.1.2.2.2 (attOk.none rfl) h
  exact ⟨⟨h1.1.1, h1.1.2.1, h1.1.2.2.1, lowN.nil⟩, h1.2⟩
theorem ea_endDoctype (h : EndA s) : EndA (endDoctype s) := ea_tellDoctype h
theorem ea_cutDoctype (h : EndA s) : EndA (cutDoctype s) := ea_tellDoctype (s := { wrong s [101, 110, 100, 45, 105, 110, 45, 100, 111, 99, 116, 121, 112, 101] with odd := true }) (ea_wrong (by decide) h)
theorem dn_withoutNul (s : TS) (c : Int) : (withoutNul s c).dname = s.dname := by unfold withoutNul; split <;> rfl
theorem tg_withoutNul (s : TS) (c : Int) : (withoutNul s c).tag = s.tag := by unfold withoutNul; split <;> rfl
theorem ea_addToKind {c : Int} (h : EndA s) : EndA (addToKind s c) := by
  have h1 := ea_withoutNul (c := c) h
  exact ⟨⟨h1.1.1, h1.1.2.1, h1.1.2.2.1, lowN.app h.1.2.2.2 (enc_lowC _)⟩, h1.2⟩
theorem ea_putText {c : Int} (h : EndA s) : EndA (putText s c) := ea_withoutNul (c := c) h
theorem ea_putTag {c : Int} (h : EndA s) : EndA (putTag s c) := by
  have h1 := ea_withoutNul (c := c) h
  exact ⟨⟨h1.1.1, h1.1.2.1, lowN.app h.1.2.2.1 (enc_lowC _), h1.1.2.2.2⟩, h.2.eq, h.2.nd⟩
theorem keys_updV (f : Att → Att) (hf : ∀ a, (f a).name = a.name ∧ (f a).twice = a.twice) : ∀ l, keys (updLast f l) = keys l
  | [] => rfl
  | [a] => by
    unfold updLast keys
    rw [List.filter_cons, List.filter_cons, (hf a).2]
    split <;> simp [(hf a).1]
  | a :: b :: r => by
    have := keys_updV f hf (b :: r)
    unfold keys at *
    rw [updLast, List.filter_cons, List.filter_cons (x := a)]
    split <;> simp [this]
theorem ea_addToValue {c : Int} (h : EndA s) : EndA (addToValue s c) := by
  have e := keys_updV (fun a => if a.twice then a else { a with value := a.value ++ Lib.encodeRune c }) (fun a => by split <;> simp_all) s.tag.atts
  refine ⟨h.1, ?_, ?_⟩
  · show s.tag.names.getD [] = keys (updLast _ s.tag.atts)
    rw [e]; exact h.2.eq
  · show (keys (updLast _ s.tag.atts)).Nodup
    rw [e]; exact h.2.nd
theorem ea_newTag {k : Int} (h : EndA s) : EndA { s with tag := { kind := k } } := ⟨⟨h.1.1, h.1.2.1, lowN.nil, h.1.2.2.2⟩, Ended.new k⟩
theorem ea_tagS (h : EndA s) : EndA (tagS s) := ⟨⟨h.1.1, h.1.2.1, lowN.nil, h.1.2.2.2⟩, Ended.new 0⟩
theorem ea_closes (h : EndA s) : EndA { s with tag := { s.tag with closes := true } } := ⟨h.1, h.2.eq, h.2.nd⟩
theorem ea_dropTag (h : EndA s) : EndA (dropTag s) := ea_tagS (ea_wrong (n := [101, 110, 100, 45, 105, 110, 45, 116, 97, 103]) (by decide) h)
theorem ea_lessName {c : Int} (h : EndA s) : EndA (lessName s c) := ⟨⟨h.1.1, h.1.2.1, lowN.app h.1.2.2.1 (enc_lowC _), h.1.2.2.2⟩, h.2.eq, h.2.nd⟩
theorem ea_addRunes (t : ByteArray) : ∀ (f pos : Nat) (s : TS), EndA s → EndA (addRunes t f pos s)
  | 0, _, s, h => h
  | f + 1, pos, s, h => by
    rw [addRunes]
    split
    · exact ea_addRunes t f _ _ (ea_addToValue h)
    · exact h
theorem ea_addToTarget {l : Str} (h : EndA s) : EndA (addToTarget s l) := by
  unfold addToTarget
  split
  · exact ea_addRunes _ _ _ _ h
  · exact h
theorem ea_endNumber {q : Int} (h : EndA s) : EndA (endNumber s q) := by
  unfold endNumber
  refine ea_addToTarget ?_
  split
  · exact h
  · rename_i hn
    exact ea_wrongAt hn h
theorem ea_openName {n : Str × Str} {x : Str} {nx : Int} (h : EndA s) : EndA (openName s n x nx) := by
  unfold openName
  split
  · exact ea_addToTarget h
  · exact ea_addToTarget (ea_wrongAt (by decide) h)
theorem ea_leaveAsItIs (h : EndA s) : EndA (leaveAsItIs s) := ea_addToTarget (l := [38] ++ s.rcome) h
theorem ea_endOpenName {n : Str × Str} {c : Int} (h : EndA s) : EndA (endOpenName s n c) :=
  ea_addToTarget (s := openName s n (s.rcome.drop n.1.length) (nextOf (s.rcome.drop n.1.length ++ Lib.encodeRune c))) (l := s.rcome.drop n.1.length) (ea_openName h)
theorem ea_tellTag (h : EndA s) : EndA (tellTag s) := by
  have h0 := ea_tagS h
  unfold tellTag
  split
  · exact ea_tell (s := tagS s) (t := { kind := 1, name := s.tag.name, attrs := attrsOf s.tag.atts, flag := s.tag.closes }) (by simp) h.1.2.2.1 (h.2.attOk _ rfl rfl) h0
  · unfold endTag
    have k1 : EndA (if s.tag.atts = [] then tagS s else wrong (tagS s) [101, 110, 100, 45, 97, 116, 116, 114, 105, 98, 117, 116, 101, 115]) := by
      split
      · exact h0
      · exact ea_wrong (by decide) h0
    generalize (if s.tag.atts = [] then tagS s else wrong (tagS s) [101, 110, 100, 45, 97, 116, 116, 114, 105, 98, 117, 116, 101, 115]) = s1 at *
    have k2 : EndA (if s.tag.closes = true then wrong s1 [101, 110, 100, 45, 115, 108, 97, 115, 104] else s1) := by
      split
      · exact ea_wrong (by decide) k1
      · exact k1
    exact ea_tell (t := { kind := 2, name := s.tag.name }) (by simp) h.1.2.2.1 (attOk.none rfl) k2
theorem ea_noDecl (h : EndA s) : EndA (noDecl s) := h
theorem ea_setCome {l : Str} (h : EndA s) : EndA (setCome s l) := h
theorem ea_addDigit {c : Int} (h : EndA s) : EndA (addDigit s c) := h
theorem ea_toReference (h : EndA s) : EndA (toReference s) := h
theorem oa_newAtt (h : EndA s) : OpenA (newAtt s) := ⟨h.1, s.tag.atts, {}, rfl, rfl, h.2.eq, h.2.nd⟩
theorem oa_addToName {c : Int} (h : OpenA s) : OpenA (addToName s c) := by
  obtain ⟨h0, pre, a, h1, h2, h3, h4⟩ := h
  refine ⟨h0, pre, { a with name := a.name ++ Lib.encodeRune c }, ?_, h2, h3, h4⟩
  show updLast _ s.tag.atts = _
  rw [h1, updLast_snoc]
theorem ea_endName (h : OpenA s) : EndA (endName s) := by
  obtain ⟨h0, pre, a, h1, h2, h3, h4⟩ := h
  have hl : lastName s = a.name := by
    unfold lastName
    rw [h1]
    simp
  unfold endName nameIsNew
  rw [hl]
  by_cases hc : (s.tag.names.getD []).contains a.name = true
  · rw [if_pos hc]
    have h5 := ca_wrongTok (s := s) { kind := 5, name := twiceS, place := s.place } rfl (show twiceS ≠ [] by decide) h0
    refine ⟨⟨h5.1, h5.2.1, h5.2.2.1, h5.2.2.2⟩, ?_, ?_⟩
    · show s.tag.names.getD [] = keys (updLast (fun a => { a with twice := true }) s.tag.atts)
      rw [h1, updLast_snoc, keys_snoc]
      simpa using h3
    · show (keys (updLast (fun a => { a with twice := true }) s.tag.atts)).Nodup
      rw [h1, updLast_snoc, keys_snoc]
      simpa using h4
  · rw [if_neg hc]
    simp only [hc]
    refine ⟨h0, ?_, ?_⟩
    · show (some (s.tag.names.getD [] ++ [a.name])).getD [] = keys s.tag.atts
      rw [h1, keys_snoc, h2, h3]
      simp
    · show (keys s.tag.atts).Nodup
      rw [h1, keys_snoc, h2]
      simp only [Bool.false_eq_true, if_false]
      rw [List.nodup_append]
      refine ⟨h4, by simp, fun x hx y hy => ?_⟩
      rw [List.mem_singleton.1 hy]
      rintro rfl
      apply hc
      rw [h3]
      simpa using hx
theorem ea_inData (h : EndA s) : EndA (lookInData s c).2 := by
  unfold lookInData
  repeat' split
  · exact h
  · exact (ea_toReference h)
  · exact (show EndA s from h)
  · exact (ea_addText (ea_wrong (by decide) h))
  · exact (ea_addText h)
theorem ea_inTitle (h : EndA s) : EndA (lookInTitle s c).2 := by
  unfold lookInTitle
  repeat' split
  · exact h
  · exact (ea_toReference h)
  · exact (show EndA s from h)
  · exact (ea_putText h)
theorem ea_inRaw (h : EndA s) : EndA (lookInRaw s c).2 := by
  unfold lookInRaw
  repeat' split
  · exact h
  · exact (ea_putText h)
  · exact (show EndA s from h)
  · exact (ea_putText h)
theorem ea_inOpen (h : EndA s) : EndA (lookInOpen s c).2 := by
  unfold lookInOpen
  repeat' split
  · exact (show EndA s from h)
  · exact (show EndA s from h)
  · exact (show EndA (({ s with tag := { kind := 1 } } : TS)) from (ea_newTag h))
  · exact (show EndA (wrong s [113, 117, 101, 115, 116, 105, 111, 110]) from (ea_wrong (by decide) h))
  · exact (ea_addText (ea_wrong (by decide) h))
  · exact (show EndA (addText (wrong s [102, 105, 114, 115, 116]) [60]) from (ea_addText (ea_wrong (by decide) h)))
theorem ea_inClose (h : EndA s) : EndA (lookInClose s c).2 := by
  unfold lookInClose
  repeat' split
  · exact (show EndA (({ s with tag := { kind := 2 } } : TS)) from (ea_newTag h))
  · exact (show EndA (wrong s [110, 111, 45, 110, 97, 109, 101]) from (ea_wrong (by decide) h))
  · exact (ea_addText (ea_wrong (by decide) h))
  · exact (show EndA (wrong s [102, 105, 114, 115, 116]) from (ea_wrong (by decide) h))
theorem ea_inTag (h : EndA s) : EndA (lookInTag s c).2 := by
  unfold lookInTag
  repeat' split
  · exact (show EndA s from h)
  · exact (show EndA s from h)
  · exact (ea_tellTag h)
  · exact (ea_dropTag h)
  · exact (ea_putTag h)
theorem ea_inEquals (h : EndA s) : EndA (lookInEquals s c).2 := by
  unfold lookInEquals
  repeat' split
  · exact h
  · exact (show EndA s from h)
  · exact (show EndA s from h)
  · exact (ea_tellTag (ea_wrong (by decide) h))
  · exact (show EndA s from h)
theorem ea_inDouble (h : EndA s) : EndA (lookInDouble s c).2 := by
  unfold lookInDouble
  repeat' split
  · exact (show EndA s from h)
  · exact (ea_toReference h)
  · exact (ea_dropTag h)
  · exact (ea_addToValue (ea_withoutNul h))
theorem ea_inSingle (h : EndA s) : EndA (lookInSingle s c).2 := by
  unfold lookInSingle
  repeat' split
  · exact (show EndA s from h)
  · exact (ea_toReference h)
  · exact (ea_dropTag h)
  · exact (ea_addToValue (ea_withoutNul h))
theorem ea_inPlain (h : EndA s) : EndA (lookInPlain s c).2 := by
  unfold lookInPlain
  repeat' split
  · exact (show EndA s from h)
  · exact (ea_toReference h)
  · exact (ea_tellTag h)
  · exact (ea_dropTag h)
  · exact (ea_addToValue (ea_withoutNul (ea_wrong (by decide) h)))
  · exact (ea_addToValue (ea_withoutNul h))
theorem ea_inValue (h : EndA s) : EndA (lookInValue s c).2 := by
  unfold lookInValue
  repeat' split
  · exact (show EndA s from h)
  · exact (show EndA s from h)
  · exact (ea_tellTag h)
  · exact (ea_dropTag h)
  · exact (show EndA (wrong s [110, 111, 45, 98, 108, 97, 110, 107]) from (ea_wrong (by decide) h))
theorem ea_inSelf (h : EndA s) : EndA (lookInSelf s c).2 := by
  unfold lookInSelf
  repeat' split
  · exact (ea_tellTag (ea_closes h))
  · exact (ea_dropTag h)
  · exact (show EndA (wrong s [115, 108, 97, 115, 104]) from (ea_wrong (by decide) h))
theorem ea_inDecl (h : EndA s) : EndA (lookInDecl s c).2 := by
  unfold lookInDecl
  repeat' split
  · exact (show EndA s from h)
  · exact (show EndA (noDecl s) from (ea_noDecl h))
  · exact (show EndA (noDecl s) from (ea_noDecl h))
  · exact (show EndA (addToComment (wrongAt (noDecl s) [99, 100, 97, 116, 97] (s.place - s.declared.length)) [91, 67, 68, 65, 84, 65, 91]) from (ea_addToComment (ea_wrongAt (by decide) (ea_noDecl h))))
  · exact (show EndA (addToComment (wrongAt (noDecl s) [100, 101, 99, 108, 97, 114, 97, 116, 105, 111, 110] (s.place - s.declared.length)) s.declared) from (ea_addToComment (ea_wrongAt (by decide) (ea_noDecl h))))
theorem ea_inBogus (h : EndA s) : EndA (lookInBogus s c).2 := by
  unfold lookInBogus
  repeat' split
  · exact (ea_endComment h)
  · exact (ea_tellComment h)
  · exact (ea_putComment h)
theorem ea_inBegin (h : EndA s) : EndA (lookInBegin s c).2 := by
  unfold lookInBegin
  repeat' split
  · exact (show EndA s from h)
  · exact (ea_endComment (ea_wrong (by decide) h))
  · exact (show EndA s from h)
theorem ea_inBeginDash (h : EndA s) : EndA (lookInBeginDash s c).2 := by
  unfold lookInBeginDash lookInDash
  repeat' split
  · exact (ea_endComment (ea_wrong (by decide) h))
  · exact (show EndA s from h)
  · exact (ea_cutComment h)
  · exact (show EndA (addToComment s [45]) from (ea_addToComment h))
theorem ea_inComment (h : EndA s) : EndA (lookInComment s c).2 := by
  unfold lookInComment
  repeat' split
  · exact (show EndA s from h)
  · exact (ea_cutComment h)
  · exact (ea_putComment h)
theorem ea_inDash (h : EndA s) : EndA (lookInDash s c).2 := by
  unfold lookInDash
  repeat' split
  · exact (show EndA s from h)
  · exact (ea_cutComment h)
  · exact (show EndA (addToComment s [45]) from (ea_addToComment h))
theorem ea_inDashes (h : EndA s) : EndA (lookInDashes s c).2 := by
  unfold lookInDashes
  repeat' split
  · exact (ea_endComment h)
  · exact (show EndA s from h)
  · exact (ea_addToComment h)
  · exact (ea_cutComment h)
  · exact (show EndA (addToComment s [45, 45]) from (ea_addToComment h))
theorem ea_inBang (h : EndA s) : EndA (lookInBang s c).2 := by
  unfold lookInBang
  repeat' split
  · exact (show EndA (addToComment s [45, 45, 33]) from (ea_addToComment h))
  · exact (ea_endComment (ea_wrong (by decide) h))
  · exact (ea_cutComment h)
  · exact (show EndA (addToComment s [45, 45, 33]) from (ea_addToComment h))
theorem ea_inDoctype (h : EndA s) : EndA (lookInDoctype s c).2 := by
  unfold lookInDoctype
  repeat' split
  · exact (show EndA s from h)
  · exact (show EndA s from h)
  · exact (ea_cutDoctype h)
  · exact (show EndA (wrong s [110, 111, 45, 98, 108, 97, 110, 107]) from (ea_wrong (by decide) h))
theorem ea_inKind (h : EndA s) : EndA (lookInKind s c).2 := by
  unfold lookInKind
  repeat' split
  · exact h
  · exact (ea_endDoctype (show EndA (wrong s [110, 111, 45, 110, 97, 109, 101]) from (ea_wrong (by decide) h)))
  · exact (ea_cutDoctype h)
  · exact (show EndA (addToKind s c) from (ea_addToKind h))
theorem ea_inKindName (h : EndA s) : EndA (lookInKindName s c).2 := by
  unfold lookInKindName
  repeat' split
  · exact (show EndA s from h)
  · exact (ea_endDoctype h)
  · exact (ea_cutDoctype h)
  · exact (ea_addToKind h)
theorem ea_inKindEnd (h : EndA s) : EndA (lookInKindEnd s c).2 := by
  unfold lookInKindEnd
  repeat' split
  · exact h
  · exact (ea_endDoctype h)
  · exact (ea_cutDoctype h)
  · exact (show EndA (({ wrong s [107, 105, 110, 100] with odd := true } : TS)) from (show EndA (wrong s [107, 105, 110, 100]) from (ea_wrong (by decide) h)))
theorem ea_inKindRest (h : EndA s) : EndA (lookInKindRest s c).2 := by
  unfold lookInKindRest
  repeat' split
  · exact (ea_endDoctype h)
  · exact (ea_wrong (by decide) h)
  · exact (ea_tellDoctype h)
  · exact h
theorem ea_inRef (h : EndA s) : EndA (lookInRef s c).2 := by
  unfold lookInRef
  repeat' split
  · exact (show EndA s from h)
  · exact (show EndA (setCome s [35]) from (ea_setCome h))
  · exact (ea_leaveAsItIs h)
theorem ea_inRefUnknown (h : EndA s) : EndA (lookInRefUnknown s c).2 := by
  unfold lookInRefUnknown
  repeat' split
  · exact (ea_addToTarget h)
  · exact (show EndA (wrong s [117, 110, 107, 110, 111, 119, 110]) from (ea_wrong (by decide) h))
  · exact (show EndA s from h)
theorem ea_inRefHash (h : EndA s) : EndA (lookInRefHash s c).2 := by
  unfold lookInRefHash
  repeat' split
  · exact (show EndA (setCome s (s.rcome ++ Lib.encodeRune c)) from (ea_setCome h))
  · exact (show EndA s from h)
theorem ea_inRefNumber (h : EndA s) : EndA (lookInRefNumber s c).2 := by
  unfold lookInRefNumber
  repeat' split
  · exact (ea_addDigit h)
  · exact (ea_leaveAsItIs (ea_wrong (by decide) h))
  · exact (show EndA (endNumber s (s.place + 1)) from (ea_endNumber h))
  · exact (show EndA (endNumber (wrong s [115, 101, 109, 105, 99, 111, 108, 111, 110]) s.place) from (ea_endNumber (ea_wrong (by decide) h)))
theorem ea_inLess (h : EndA s) : EndA (lookInLess s c).2 := by
  unfold lookInLess backToBase
  split
  · exact h
  · exact h
theorem ea_inLessClose (h : EndA s) : EndA (lookInLessClose s c).2 := by
  unfold lookInLessClose backToBase
  split
  · exact ⟨⟨h.1.1, h.1.2.1, lowN.nil, h.1.2.2.2⟩, Ended.new 2⟩
  · exact h
theorem ea_inLessName (h : EndA s) : EndA (lookInLessName s c).2 := by
  unfold lookInLessName backToBase
  repeat' split
  · exact ea_lessName h
  · exact h
  · exact ⟨⟨h.1.1, h.1.2.1, lowN.nil, h.1.2.2.2⟩, Ended.new 0⟩
theorem ea_inRefName (h : EndA s) : EndA (lookInRefName s c).2 := by
  unfold lookInRefName
  repeat' split
  · exact h
  · exact ea_addToTarget (l := 38 :: s.rcome) h
  · exact ea_addToTarget (l := (findName (s.rcome ++ Lib.encodeRune c)).1.2) h
  · exact ea_endOpenName h
end
end Go.Proofs.YtdfmapcnfficlaaGreatDoor

set_option linter.unusedSimpArgs false
set_option linter.unusedVariables false
namespace Go.Proofs.YtdfmapcnfficlaaGreatDoor
open Go Go.RowKit

def okQ (q : Int) : Bool := !(q == 10) && !(q == 32) && !(q == 18) && !(q == 31)
/-- Not to a state of names, of declarations; to a reference at its beginning. -/
def okSt (t : TS) : Prop := t.state ≠ 10 ∧ t.state ≠ 32 ∧ t.state ≠ 18 ∧ (t.state = 31 → t.rcome = [])
theorem okK {t : TS} {q : Int} (h : t.state = q) (hq : okQ q = true) : okSt t := by
  simp only [okQ, Bool.and_eq_true, Bool.not_eq_true', beq_eq_false_iff_ne] at hq
  exact ⟨by rw [h]; exact hq.1.1.1, by rw [h]; exact hq.1.1.2, by rw [h]; exact hq.1.2, fun e => absurd (h.symm.trans e) hq.2⟩
theorem okBack {q : Int} (h : backOk q) : okQ q = true := by
  rcases h with h | h | h | h | h <;> (rw [h]; decide)
theorem okBase {q : Int} (h : baseOk q) : okQ q = true := by
  rcases h with h | h | h <;> (rw [h]; decide)
theorem okRef {t : TS} (h : t.state = 31) (hr : t.rcome = []) : okSt t := ⟨by rw [h]; decide, by rw [h]; decide, by rw [h]; decide, fun _ => hr⟩
section
variable {s : TS} {c : Int}
theorem ns_inData (g : Good s c) (hst : s.state = 0) : okSt (lookInData s c).2 := by
  unfold lookInData
  repeat' split
  · exact okK hst (by decide)
  · exact okRef rfl rfl
  · exact okK (q := 3) rfl (by decide)
  · exact okK (show _ = (0 : Int) from (by simp only [fr_addText_state, fr_wrong_state]; exact hst)) (by decide)
  · exact okK (show _ = (0 : Int) from (by simp only [fr_addText_state]; exact hst)) (by decide)
theorem ns_inTitle (g : Good s c) (hst : s.state = 1) : okSt (lookInTitle s c).2 := by
  unfold lookInTitle
  repeat' split
  · exact okK hst (by decide)
  · exact okRef rfl rfl
  · exact okK (q := 5) rfl (by decide)
  · exact okK (show _ = (1 : Int) from (by simp only [fr_putText_state]; exact hst)) (by decide)
theorem ns_inRaw (g : Good s c) (hst : s.state = 2) : okSt (lookInRaw s c).2 := by
  unfold lookInRaw
  repeat' split
  · exact okK hst (by decide)
  · exact okK (show _ = (2 : Int) from (by simp only [fr_putText_state]; exact hst)) (by decide)
  · exact okK (q := 5) rfl (by decide)
  · exact okK (show _ = (2 : Int) from (by simp only [fr_putText_state]; exact hst)) (by decide)
theorem ns_inClose (g : Good s c) (hst : s.state = 4) : okSt (lookInClose s c).2 := by
  unfold lookInClose
  repeat' split
  · exact okK (q := 8) rfl (by decide)
  · exact okK (q := 0) rfl (by decide)
  · exact okK (show _ = (4 : Int) from (by simp only [fr_addText_state, fr_wrong_state]; exact hst)) (by decide)
  · exact okK (q := 19) rfl (by decide)
theorem ns_inTag (g : Good s c) (hst : s.state = 8) : okSt (lookInTag s c).2 := by
  unfold lookInTag
  repeat' split
  · exact okK (q := 9) rfl (by decide)
  · exact okK (q := 17) rfl (by decide)
  · exact okK (tellTag_states _).1 (okBase (tellTag_states _).2)
  · exact okK (show _ = (8 : Int) from (by simp only [fr_dropTag_state]; exact hst)) (by decide)
  · exact okK (show _ = (8 : Int) from (by simp only [fr_putTag_state]; exact hst)) (by decide)
theorem ns_inEquals (g : Good s c) (hst : s.state = 12) : okSt (lookInEquals s c).2 := by
  unfold lookInEquals
  repeat' split
  · exact okK hst (by decide)
  · exact okK (q := 13) rfl (by decide)
  · exact okK (q := 14) rfl (by decide)
  · exact okK (tellTag_states _).1 (okBase (tellTag_states _).2)
  · exact okK (q := 15) rfl (by decide)
theorem ns_inDouble (g : Good s c) (hst : s.state = 13) : okSt (lookInDouble s c).2 := by
  unfold lookInDouble
  repeat' split
  · exact okK (q := 16) rfl (by decide)
  · exact okRef rfl rfl
  · exact okK (show _ = (13 : Int) from (by simp only [fr_dropTag_state]; exact hst)) (by decide)
  · exact okK (show _ = (13 : Int) from (by simp only [fr_addToValue_state, fr_withoutNul_state]; exact hst)) (by decide)
theorem ns_inSingle (g : Good s c) (hst : s.state = 14) : okSt (lookInSingle s c).2 := by
  unfold lookInSingle
  repeat' split
  · exact okK (q := 16) rfl (by decide)
  · exact okRef rfl rfl
  · exact okK (show _ = (14 : Int) from (by simp only [fr_dropTag_state]; exact hst)) (by decide)
  · exact okK (show _ = (14 : Int) from (by simp only [fr_addToValue_state, fr_withoutNul_state]; exact hst)) (by decide)
theorem ns_inPlain (g : Good s c) (hst : s.state = 15) : okSt (lookInPlain s c).2 := by
  unfold lookInPlain
  repeat' split
  · exact okK (q := 9) rfl (by decide)
  · exact okRef rfl rfl
  · exact okK (tellTag_states _).1 (okBase (tellTag_states _).2)
  · exact okK (show _ = (15 : Int) from (by simp only [fr_dropTag_state]; exact hst)) (by decide)
  · exact okK (show _ = (15 : Int) from (by simp only [fr_addToValue_state, fr_withoutNul_state, fr_wrong_state]; exact hst)) (by decide)
  · exact okK (show _ = (15 : Int) from (by simp only [fr_addToValue_state, fr_withoutNul_state]; exact hst)) (by decide)
theorem ns_inValue (g : Good s c) (hst : s.state = 16) : okSt (lookInValue s c).2 := by
  unfold lookInValue
  repeat' split
  · exact okK (q := 9) rfl (by decide)
  · exact okK (q := 17) rfl (by decide)
  · exact okK (tellTag_states _).1 (okBase (tellTag_states _).2)
  · exact okK (show _ = (16 : Int) from (by simp only [fr_dropTag_state]; exact hst)) (by decide)
  · exact okK (q := 9) rfl (by decide)
theorem ns_inSelf (g : Good s c) (hst : s.state = 17) : okSt (lookInSelf s c).2 := by
  unfold lookInSelf
  repeat' split
  · exact okK (tellTag_states _).1 (okBase (tellTag_states _).2)
  · exact okK (show _ = (17 : Int) from (by simp only [fr_dropTag_state]; exact hst)) (by decide)
  · exact okK (q := 9) rfl (by decide)
theorem ns_inBogus (g : Good s c) (hst : s.state = 19) : okSt (lookInBogus s c).2 := by
  unfold lookInBogus
  repeat' split
  · exact okK (q := 0) rfl (by decide)
  · exact okK (show _ = (19 : Int) from (by simp only [fr_tellComment_state]; exact hst)) (by decide)
  · exact okK (show _ = (19 : Int) from (by simp only [fr_putComment_state]; exact hst)) (by decide)
theorem ns_inBegin (g : Good s c) (hst : s.state = 20) : okSt (lookInBegin s c).2 := by
  unfold lookInBegin
  repeat' split
  · exact okK (q := 21) rfl (by decide)
  · exact okK (q := 0) rfl (by decide)
  · exact okK (q := 22) rfl (by decide)
theorem ns_inBeginDash (g : Good s c) (hst : s.state = 21) : okSt (lookInBeginDash s c).2 := by
  unfold lookInBeginDash lookInDash
  repeat' split
  · exact okK (q := 0) rfl (by decide)
  · exact okK (q := 24) rfl (by decide)
  · exact okK (show _ = (21 : Int) from (by simp only [fr_cutComment_state]; exact hst)) (by decide)
  · exact okK (q := 22) rfl (by decide)
theorem ns_inComment (g : Good s c) (hst : s.state = 22) : okSt (lookInComment s c).2 := by
  unfold lookInComment
  repeat' split
  · exact okK (q := 23) rfl (by decide)
  · exact okK (show _ = (22 : Int) from (by simp only [fr_cutComment_state]; exact hst)) (by decide)
  · exact okK (show _ = (22 : Int) from (by simp only [fr_putComment_state]; exact hst)) (by decide)
theorem ns_inDash (g : Good s c) (hst : s.state = 23) : okSt (lookInDash s c).2 := by
  unfold lookInDash
  repeat' split
  · exact okK (q := 24) rfl (by decide)
  · exact okK (show _ = (23 : Int) from (by simp only [fr_cutComment_state]; exact hst)) (by decide)
  · exact okK (q := 22) rfl (by decide)
theorem ns_inDashes (g : Good s c) (hst : s.state = 24) : okSt (lookInDashes s c).2 := by
  unfold lookInDashes
  repeat' split
  · exact okK (q := 0) rfl (by decide)
  · exact okK (q := 25) rfl (by decide)
  · exact okK (show _ = (24 : Int) from (by simp only [fr_addToComment_state]; exact hst)) (by decide)
  · exact okK (show _ = (24 : Int) from (by simp only [fr_cutComment_state]; exact hst)) (by decide)
  · exact okK (q := 22) rfl (by decide)
theorem ns_inBang (g : Good s c) (hst : s.state = 25) : okSt (lookInBang s c).2 := by
  unfold lookInBang
  repeat' split
  · exact okK (q := 23) rfl (by decide)
  · exact okK (q := 0) rfl (by decide)
  · exact okK (show _ = (25 : Int) from (by simp only [fr_cutComment_state]; exact hst)) (by decide)
  · exact okK (q := 22) rfl (by decide)
theorem ns_inDoctype (g : Good s c) (hst : s.state = 26) : okSt (lookInDoctype s c).2 := by
  unfold lookInDoctype
  repeat' split
  · exact okK (q := 27) rfl (by decide)
  · exact okK (q := 27) rfl (by decide)
  · exact okK (show _ = (26 : Int) from (by simp only [fr_cutDoctype_state]; exact hst)) (by decide)
  · exact okK (q := 27) rfl (by decide)
theorem ns_inKind (g : Good s c) (hst : s.state = 27) : okSt (lookInKind s c).2 := by
  unfold lookInKind
  repeat' split
  · exact okK hst (by decide)
  · exact okK (q := 0) rfl (by decide)
  · exact okK (show _ = (27 : Int) from (by simp only [fr_cutDoctype_state]; exact hst)) (by decide)
  · exact okK (q := 28) rfl (by decide)
theorem ns_inKindName (g : Good s c) (hst : s.state = 28) : okSt (lookInKindName s c).2 := by
  unfold lookInKindName
  repeat' split
  · exact okK (q := 29) rfl (by decide)
  · exact okK (q := 0) rfl (by decide)
  · exact okK (show _ = (28 : Int) from (by simp only [fr_cutDoctype_state]; exact hst)) (by decide)
  · exact okK (show _ = (28 : Int) from (by simp only [fr_addToKind_state]; exact hst)) (by decide)
theorem ns_inKindEnd (g : Good s c) (hst : s.state = 29) : okSt (lookInKindEnd s c).2 := by
  unfold lookInKindEnd
  repeat' split
  · exact okK hst (by decide)
  · exact okK (q := 0) rfl (by decide)
  · exact okK (show _ = (29 : Int) from (by simp only [fr_cutDoctype_state]; exact hst)) (by decide)
  · exact okK (q := 30) rfl (by decide)
theorem ns_inKindRest (g : Good s c) (hst : s.state = 30) : okSt (lookInKindRest s c).2 := by
  unfold lookInKindRest
  repeat' split
  · exact okK (q := 0) rfl (by decide)
  · exact okK (show _ = (30 : Int) from (by simp only [fr_wrong_state]; exact hst)) (by decide)
  · exact okK (show _ = (30 : Int) from (by simp only [fr_tellDoctype_state]; exact hst)) (by decide)
  · exact okK hst (by decide)
theorem ns_inRefUnknown (g : Good s c) (hst : s.state = 33) : okSt (lookInRefUnknown s c).2 := by
  unfold lookInRefUnknown
  repeat' split
  · exact okK (show _ = (33 : Int) from (by simp only [fr_addToTarget_state]; exact hst)) (by decide)
  · exact okK rfl (okBack (g.back (by rw [hst]; rfl)))
  · exact okK rfl (okBack (g.back (by rw [hst]; rfl)))
theorem ns_inRefHash (g : Good s c) (hst : s.state = 34) : okSt (lookInRefHash s c).2 := by
  unfold lookInRefHash
  repeat' split
  · exact okK (q := 35) rfl (by decide)
  · exact okK (q := 35) rfl (by decide)
theorem ns_inRefNumber (g : Good s c) (hst : s.state = 35) : okSt (lookInRefNumber s c).2 := by
  unfold lookInRefNumber
  repeat' split
  · exact okK (show _ = (35 : Int) from (by simp only [fr_addDigit_state]; exact hst)) (by decide)
  · exact okK rfl (okBack (g.back (by rw [hst]; rfl)))
  · exact okK rfl (okBack (g.back (by rw [hst]; rfl)))
  · exact okK rfl (okBack (g.back (by rw [hst]; rfl)))
theorem ns_inLess (g : Good s c) (hst : s.state = 5) : okSt (lookInLess s c).2 := by
  unfold lookInLess backToBase
  split
  · exact okK (q := 6) rfl (by decide)
  · exact okK rfl (okBase g.base)
theorem ns_inLessClose (g : Good s c) (hst : s.state = 6) : okSt (lookInLessClose s c).2 := by
  unfold lookInLessClose backToBase
  split
  · exact okK (q := 7) rfl (by decide)
  · exact okK rfl (okBase g.base)
theorem ns_inLessName (g : Good s c) (hst : s.state = 7) : okSt (lookInLessName s c).2 := by
  unfold lookInLessName backToBase
  repeat' split
  · exact okK hst (by decide)
  · exact okK (q := 8) rfl (by decide)
  · exact okK rfl (okBase g.base)

def InvA (s : TS) : Prop := (s.state = 10 → OpenA s) ∧ (s.state ≠ 10 → EndA s)
theorem InvA.ended {t : TS} (h : EndA t) (hs : t.state ≠ 10) : InvA t := ⟨fun e => absurd e hs, fun _ => h⟩
theorem InvA.opened {t : TS} (h : OpenA t) (hs : t.state = 10) : InvA t := ⟨fun _ => h, fun e => absurd hs e⟩
theorem ia_inOpen (g : Good s c) (hst : s.state = 3) (h : EndA s) : InvA (lookInOpen s c).2 := by
  refine InvA.ended (ea_inOpen h) ?_
  unfold lookInOpen
  repeat' split
  · show (18 : Int) ≠ 10
    decide
  · show (4 : Int) ≠ 10
    decide
  · show (8 : Int) ≠ 10
    decide
  · show (19 : Int) ≠ 10
    decide
  · show s.state ≠ 10
    rw [hst]
    decide
  · show (0 : Int) ≠ 10
    decide
theorem ia_inRef (g : Good s c) (hst : s.state = 31) (h : EndA s) : InvA (lookInRef s c).2 := by
  refine InvA.ended (ea_inRef h) ?_
  unfold lookInRef
  repeat' split
  · show (32 : Int) ≠ 10
    decide
  · show (34 : Int) ≠ 10
    decide
  · exact (okK (t := leaveAsItIs s) rfl (okBack (g.back (by rw [hst]; rfl)))).1
theorem ia_inRefName (g : Good s c) (hst : s.state = 32) (h : EndA s) : InvA (lookInRefName s c).2 := by
  refine InvA.ended (ea_inRefName h) ?_
  unfold lookInRefName
  repeat' split
  · show s.state ≠ 10
    rw [hst]
    decide
  · show (33 : Int) ≠ 10
    decide
  · exact (okK (t := { addToTarget s (findName (s.rcome ++ Lib.encodeRune c)).1.2 with state := s.rback }) rfl (okBack (g.back (by rw [hst]; rfl)))).1
  · exact (okK (t := endOpenName s (findName (s.rcome ++ Lib.encodeRune c)).1 c) rfl (okBack (g.back (by rw [hst]; rfl)))).1
theorem ia_inDecl (g : Good s c) (hst : s.state = 18) (h : EndA s) : InvA (lookInDecl s c).2 := by
  refine InvA.ended (ea_inDecl h) ?_
  unfold lookInDecl
  repeat' split
  · show s.state ≠ 10
    rw [hst]
    decide
  · show (20 : Int) ≠ 10
    decide
  · show (26 : Int) ≠ 10
    decide
  · show (19 : Int) ≠ 10
    decide
  · show (19 : Int) ≠ 10
    decide
theorem ia_inAttr (g : Good s c) (hst : s.state = 9) (h : EndA s) : InvA (lookInAttr s c).2 := by
  unfold lookInAttr
  repeat' split
  · exact InvA.ended h (by show s.state ≠ 10; rw [hst]; decide)
  · exact InvA.ended (show EndA s from h) (by show (11 : Int) ≠ 10; decide)
  · exact InvA.opened (oa_addToName (c := 61) (oa_newAtt (ea_wrong (n := [101, 113, 117, 97, 108, 115]) (by decide) h))) rfl
  · exact InvA.opened (oa_newAtt h) rfl
theorem ia_inAfter (g : Good s c) (hst : s.state = 11) (h : EndA s) : InvA (lookInAfter s c).2 := by
  unfold lookInAfter
  repeat' split
  · exact InvA.ended h (by show s.state ≠ 10; rw [hst]; decide)
  · exact InvA.ended (show EndA s from h) (by show (17 : Int) ≠ 10; decide)
  · exact InvA.ended (show EndA s from h) (by show (12 : Int) ≠ 10; decide)
  · exact InvA.ended (ea_tellTag h) (okK (tellTag_states s).1 (okBase (tellTag_states s).2)).1
  · exact InvA.ended (ea_dropTag h) (by show s.state ≠ 10; rw [hst]; decide)
  · exact InvA.opened (oa_newAtt h) rfl
theorem ia_inName (g : Good s c) (hst : s.state = 10) (h : OpenA s) : InvA (lookInName s c).2 := by
  unfold lookInName
  repeat' split
  · exact InvA.ended (show EndA (endName s) from ea_endName h) (by show (11 : Int) ≠ 10; decide)
  · exact InvA.ended (show EndA (endName s) from ea_endName h) (by show (12 : Int) ≠ 10; decide)
  · refine InvA.opened (oa_addToName (oa_withoutNul (oa_wrong (by decide) h))) ?_
    show (addToName (withoutNul (wrong s [115, 105, 103, 110]) c) _).state = _
    simp only [fr_addToName_state, fr_withoutNul_state, fr_wrong_state]
    exact hst
  · refine InvA.opened (oa_addToName (oa_withoutNul h)) ?_
    show (addToName (withoutNul s c) _).state = _
    simp only [fr_addToName_state, fr_withoutNul_state]
    exact hst
theorem ia_lookOnce (g : Good s c) (h : InvA s) : InvA (lookOnce s c).2 := by
  by_cases e_inData : s.state = 0
  · have hf : lookOnce s c = lookInData s c := by simp [lookOnce, e_inData]
    rw [hf]
    exact InvA.ended (ea_inData (h.2 (by rw [e_inData]; decide))) (ns_inData g e_inData).1
  by_cases e_inTitle : s.state = 1
  · have hf : lookOnce s c = lookInTitle s c := by simp [lookOnce, e_inTitle]
    rw [hf]
    exact InvA.ended (ea_inTitle (h.2 (by rw [e_inTitle]; decide))) (ns_inTitle g e_inTitle).1
  by_cases e_inRaw : s.state = 2
  · have hf : lookOnce s c = lookInRaw s c := by simp [lookOnce, e_inRaw]
    rw [hf]
    exact InvA.ended (ea_inRaw (h.2 (by rw [e_inRaw]; decide))) (ns_inRaw g e_inRaw).1
  by_cases e_inOpen : s.state = 3
  · have hf : lookOnce s c = lookInOpen s c := by simp [lookOnce, e_inOpen]
    rw [hf]
    exact ia_inOpen g e_inOpen (h.2 (by rw [e_inOpen]; decide))
  by_cases e_inClose : s.state = 4
  · have hf : lookOnce s c = lookInClose s c := by simp [lookOnce, e_inClose]
    rw [hf]
    exact InvA.ended (ea_inClose (h.2 (by rw [e_inClose]; decide))) (ns_inClose g e_inClose).1
  by_cases e_inLess : s.state = 5
  · have hf : lookOnce s c = lookInLess s c := by simp [lookOnce, e_inLess]
    rw [hf]
    exact InvA.ended (ea_inLess (h.2 (by rw [e_inLess]; decide))) (ns_inLess g e_inLess).1
  by_cases e_inLessClose : s.state = 6
  · have hf : lookOnce s c = lookInLessClose s c := by simp [lookOnce, e_inLessClose]
    rw [hf]
    exact InvA.ended (ea_inLessClose (h.2 (by rw [e_inLessClose]; decide))) (ns_inLessClose g e_inLessClose).1
  by_cases e_inLessName : s.state = 7
  · have hf : lookOnce s c = lookInLessName s c := by simp [lookOnce, e_inLessName]
    rw [hf]
    exact InvA.ended (ea_inLessName (h.2 (by rw [e_inLessName]; decide))) (ns_inLessName g e_inLessName).1
  by_cases e_inTag : s.state = 8
  · have hf : lookOnce s c = lookInTag s c := by simp [lookOnce, e_inTag]
    rw [hf]
    exact InvA.ended (ea_inTag (h.2 (by rw [e_inTag]; decide))) (ns_inTag g e_inTag).1
  by_cases e_inAttr : s.state = 9
  · have hf : lookOnce s c = lookInAttr s c := by simp [lookOnce, e_inAttr]
    rw [hf]
    exact ia_inAttr g e_inAttr (h.2 (by rw [e_inAttr]; decide))
  by_cases e_inName : s.state = 10
  · have hf : lookOnce s c = lookInName s c := by simp [lookOnce, e_inName]
    rw [hf]
    exact ia_inName g e_inName (h.1 e_inName)
  by_cases e_inAfter : s.state = 11
  · have hf : lookOnce s c = lookInAfter s c := by simp [lookOnce, e_inAfter]
    rw [hf]
    exact ia_inAfter g e_inAfter (h.2 (by rw [e_inAfter]; decide))
  by_cases e_inEquals : s.state = 12
  · have hf : lookOnce s c = lookInEquals s c := by simp [lookOnce, e_inEquals]
    rw [hf]
    exact InvA.ended (ea_inEquals (h.2 (by rw [e_inEquals]; decide))) (ns_inEquals g e_inEquals).1
  by_cases e_inDouble : s.state = 13
  · have hf : lookOnce s c = lookInDouble s c := by simp [lookOnce, e_inDouble]
    rw [hf]
    exact InvA.ended (ea_inDouble (h.2 (by rw [e_inDouble]; decide))) (ns_inDouble g e_inDouble).1
  by_cases e_inSingle : s.state = 14
  · have hf : lookOnce s c = lookInSingle s c := by simp [lookOnce, e_inSingle]
    rw [hf]
    exact InvA.ended (ea_inSingle (h.2 (by rw [e_inSingle]; decide))) (ns_inSingle g e_inSingle).1
  by_cases e_inPlain : s.state = 15
  · have hf : lookOnce s c = lookInPlain s c := by simp [lookOnce, e_inPlain]
    rw [hf]
    exact InvA.ended (ea_inPlain (h.2 (by rw [e_inPlain]; decide))) (ns_inPlain g e_inPlain).1
  by_cases e_inValue : s.state = 16
  · have hf : lookOnce s c = lookInValue s c := by simp [lookOnce, e_inValue]
    rw [hf]
    exact InvA.ended (ea_inValue (h.2 (by rw [e_inValue]; decide))) (ns_inValue g e_inValue).1
  by_cases e_inSelf : s.state = 17
  · have hf : lookOnce s c = lookInSelf s c := by simp [lookOnce, e_inSelf]
    rw [hf]
    exact InvA.ended (ea_inSelf (h.2 (by rw [e_inSelf]; decide))) (ns_inSelf g e_inSelf).1
  by_cases e_inDecl : s.state = 18
  · have hf : lookOnce s c = lookInDecl s c := by simp [lookOnce, e_inDecl]
    rw [hf]
    exact ia_inDecl g e_inDecl (h.2 (by rw [e_inDecl]; decide))
  by_cases e_inBogus : s.state = 19
  · have hf : lookOnce s c = lookInBogus s c := by simp [lookOnce, e_inBogus]
    rw [hf]
    exact InvA.ended (ea_inBogus (h.2 (by rw [e_inBogus]; decide))) (ns_inBogus g e_inBogus).1
  by_cases e_inBegin : s.state = 20
  · have hf : lookOnce s c = lookInBegin s c := by simp [lookOnce, e_inBegin]
    rw [hf]
    exact InvA.ended (ea_inBegin (h.2 (by rw [e_inBegin]; decide))) (ns_inBegin g e_inBegin).1
  by_cases e_inBeginDash : s.state = 21
  · have hf : lookOnce s c = lookInBeginDash s c := by simp [lookOnce, e_inBeginDash]
    rw [hf]
    exact InvA.ended (ea_inBeginDash (h.2 (by rw [e_inBeginDash]; decide))) (ns_inBeginDash g e_inBeginDash).1
  by_cases e_inComment : s.state = 22
  · have hf : lookOnce s c = lookInComment s c := by simp [lookOnce, e_inComment]
    rw [hf]
    exact InvA.ended (ea_inComment (h.2 (by rw [e_inComment]; decide))) (ns_inComment g e_inComment).1
  by_cases e_inDash : s.state = 23
  · have hf : lookOnce s c = lookInDash s c := by simp [lookOnce, e_inDash]
    rw [hf]
    exact InvA.ended (ea_inDash (h.2 (by rw [e_inDash]; decide))) (ns_inDash g e_inDash).1
  by_cases e_inDashes : s.state = 24
  · have hf : lookOnce s c = lookInDashes s c := by simp [lookOnce, e_inDashes]
    rw [hf]
    exact InvA.ended (ea_inDashes (h.2 (by rw [e_inDashes]; decide))) (ns_inDashes g e_inDashes).1
  by_cases e_inBang : s.state = 25
  · have hf : lookOnce s c = lookInBang s c := by simp [lookOnce, e_inBang]
    rw [hf]
    exact InvA.ended (ea_inBang (h.2 (by rw [e_inBang]; decide))) (ns_inBang g e_inBang).1
  by_cases e_inDoctype : s.state = 26
  · have hf : lookOnce s c = lookInDoctype s c := by simp [lookOnce, e_inDoctype]
    rw [hf]
    exact InvA.ended (ea_inDoctype (h.2 (by rw [e_inDoctype]; decide))) (ns_inDoctype g e_inDoctype).1
  by_cases e_inKind : s.state = 27
  · have hf : lookOnce s c = lookInKind s c := by simp [lookOnce, e_inKind]
    rw [hf]
    exact InvA.ended (ea_inKind (h.2 (by rw [e_inKind]; decide))) (ns_inKind g e_inKind).1
  by_cases e_inKindName : s.state = 28
  · have hf : lookOnce s c = lookInKindName s c := by simp [lookOnce, e_inKindName]
    rw [hf]
    exact InvA.ended (ea_inKindName (h.2 (by rw [e_inKindName]; decide))) (ns_inKindName g e_inKindName).1
  by_cases e_inKindEnd : s.state = 29
  · have hf : lookOnce s c = lookInKindEnd s c := by simp [lookOnce, e_inKindEnd]
    rw [hf]
    exact InvA.ended (ea_inKindEnd (h.2 (by rw [e_inKindEnd]; decide))) (ns_inKindEnd g e_inKindEnd).1
  by_cases e_inKindRest : s.state = 30
  · have hf : lookOnce s c = lookInKindRest s c := by simp [lookOnce, e_inKindRest]
    rw [hf]
    exact InvA.ended (ea_inKindRest (h.2 (by rw [e_inKindRest]; decide))) (ns_inKindRest g e_inKindRest).1
  by_cases e_inRef : s.state = 31
  · have hf : lookOnce s c = lookInRef s c := by simp [lookOnce, e_inRef]
    rw [hf]
    exact ia_inRef g e_inRef (h.2 (by rw [e_inRef]; decide))
  by_cases e_inRefName : s.state = 32
  · have hf : lookOnce s c = lookInRefName s c := by simp [lookOnce, e_inRefName]
    rw [hf]
    exact ia_inRefName g e_inRefName (h.2 (by rw [e_inRefName]; decide))
  by_cases e_inRefUnknown : s.state = 33
  · have hf : lookOnce s c = lookInRefUnknown s c := by simp [lookOnce, e_inRefUnknown]
    rw [hf]
    exact InvA.ended (ea_inRefUnknown (h.2 (by rw [e_inRefUnknown]; decide))) (ns_inRefUnknown g e_inRefUnknown).1
  by_cases e_inRefHash : s.state = 34
  · have hf : lookOnce s c = lookInRefHash s c := by simp [lookOnce, e_inRefHash]
    rw [hf]
    exact InvA.ended (ea_inRefHash (h.2 (by rw [e_inRefHash]; decide))) (ns_inRefHash g e_inRefHash).1
  by_cases e_inRefNumber : s.state = 35
  · have hf : lookOnce s c = lookInRefNumber s c := by simp [lookOnce, e_inRefNumber]
    rw [hf]
    exact InvA.ended (ea_inRefNumber (h.2 (by rw [e_inRefNumber]; decide))) (ns_inRefNumber g e_inRefNumber).1
  have := g.st0
  have := g.st1
  omega
theorem ia_lookN : ∀ (n : Nat) (s : TS), Good s c → rank s.state c < n → InvA s → InvA (lookN n s c)
  | 0, s, g, hr, h => h
  | n + 1, s, g, hr, h => by
    have h1 := ia_lookOnce g h
    rw [lookN]
    rcases good_lookOnce g with ⟨e, _⟩ | ⟨e, hg, hk⟩
    · rw [if_pos e]
      exact h1
    · rw [if_neg (by rw [e]; decide)]
      exact ia_lookN n _ hg (by omega) h1
theorem ia_look4 (hf : Fine s) (h : InvA s) : InvA (lookN 4 s c) := ia_lookN 4 s (hf.1 c) (by have := rank_le s.state c; omega) h
theorem ia_pass (hf : Fine s) (h : InvA s) : InvA (pass 4 s c) := by
  have hf' : Fine (setBehind s c) := hf.head rfl rfl rfl rfl rfl rfl rfl rfl
  unfold pass
  split
  · exact h
  · split
    · exact ia_look4 (s := setBehind s c) (c := 10) hf' h
    · exact ia_look4 (s := setBehind s c) hf' h
theorem ia_readN (w0 : World) : ∀ (f : Nat) (s : TS) (r : Str), r.length ≤ f → Fine s → s.place + r.length ≤ 1099511627776 → sz s + 512 * r.length ≤ lim → InvA s → InvA (readN 4 f s r).1
  | 0, s, r, _, _, _, _, h => h
  | f + 1, s, r, hl, hf, hp, hz, h => by
    rw [readN]
    by_cases h0 : (firstPt r).2 = 0
    · rw [if_pos h0]
      exact h
    · rw [if_neg h0]
      have hle := firstPt_le r
      have hd : (r.drop (firstPt r).2).length = r.length - (firstPt r).2 := List.length_drop
      obtain ⟨c0, c1⟩ := firstPt_rn r
      obtain ⟨_, i2, i3, i4, _⟩ := pass_fine (w0 := w0) (own0 := fun _ => False) hf c0 c1 (by omega) (by omega)
      exact ia_readN w0 f _ _ (by omega) i3 (by omega) (by omega) (ia_pass hf h)
theorem ia_put (w0 : World) {n : Nat} (ho : Open s n) (x : Str) (hn : n + x.length ≤ 1073741824) (h : InvA s) : InvA (put s x) := by
  have h3 := ho.short
  have hf : Fine { s with bytes := s.bytes + x.length } := ho.fine.head rfl rfl rfl rfl rfl rfl rfl rfl
  have hl : (s.begun ++ x).length = s.begun.length + x.length := List.length_append
  have hz : sz ({ s with bytes := s.bytes + x.length } : TS) = sz s := rfl
  have hp : ({ s with bytes := s.bytes + x.length } : TS).place = s.place := rfl
  have hpl := ho.place
  have hsz := ho.small
  exact ia_readN w0 (s.begun ++ x).length { s with bytes := s.bytes + x.length } (s.begun ++ x) (Nat.le_refl _) hf (by omega) (by unfold lim; omega) h
theorem ia_core (h : InvA s) : CoreA s := by
  by_cases e : s.state = 10
  · exact (h.1 e).1
  · exact (h.2 e).1
theorem ia_endAll (w0 : World) {n : Nat} (ho : Open s n) (hn : n ≤ 1073741824) (h : InvA s) : AllA (endAll s).told := by
  have hf' : Fine { s with closed := true } := ho.fine.head rfl rfl rfl rfl rfl rfl rfl rfl
  have hsz := ho.small
  have hpl := ho.place
  have hz : sz { s with closed := true } = sz s := rfl
  obtain ⟨_, i2, _⟩ := endPoints_fine (w0 := w0) (own0 := fun _ => False) hf' (by show s.place + 1 ≤ _; omega) (by unfold lim; omega)
  unfold endAll
  refine ca_flush (ia_core (ia_look4 i2 ?_))
  unfold endPoints
  split
  · exact h
  · exact ia_pass (s := { ({ s with closed := true } : TS) with begun := [] }) (hf'.head rfl rfl rfl rfl rfl rfl rfl rfl) h
theorem ia_new (l : Int) : InvA { limit := l } := InvA.ended ⟨⟨fun i t h => by simp at h, rfl, lowN.nil, lowN.nil⟩, Ended.new 0⟩ (by show (0 : Int) ≠ 10; decide)
end
/-- What is told of a text, but for the end. -/
theorem toks_A (w0 : World) (x : Str) (hx : x.length ≤ 1073741824) : ∃ M, toks x = M ++ [{ kind := 6 }] ∧ AllA M := by
  refine ⟨(endAll (put { limit := (x.length : Int) } x)).told, by unfold toks; exact closeT_told _, ?_⟩
  have ho := Open.new (x.length : Int)
  exact ia_endAll w0 (open_put (w0 := w0) (own0 := fun _ => False) ho x (by omega)).2.1 (by omega) (ia_put w0 ho x (by omega) (ia_new _))
end Go.Proofs.YtdfmapcnfficlaaGreatDoor

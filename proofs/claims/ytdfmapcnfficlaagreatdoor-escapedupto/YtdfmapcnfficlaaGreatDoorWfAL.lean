/-
  How many code points a text has that is made of whole ones.
  What is held stands in the next text that is told; it is made of whole code points.
  What is held is made of whole code points.
-/
import Derived.Test.YtdfmapcnfficlaaGreatDoorB44
import Derived.Test.YtdfmapcnfficlaaGreatDoorB40
import Derived.Test.YtdfmapcnfficlaaGreatDoorB42
set_option linter.unusedSimpArgs false
set_option linter.unusedVariables false
namespace Go.Proofs.YtdfmapcnfficlaaGreatDoor
open Go Go.RowKit

theorem decodeL_go {l : Str} (h : l ≠ []) : Lib.decodeL l = Lib.decodeGo ⟨l.toArray⟩ := by
  have hl : l.length ≠ 0 := fun e => h (List.length_eq_zero_iff.1 e)
  unfold Lib.decodeGo Lib.decodeL
  rw [if_neg (by simp [ByteArray.size]; exact h)]

theorem u8_nat (n : Nat) (h : n < 256) : (UInt8.ofNat n).toNat = n := by
  simp [UInt8.toNat_ofNat']
  omega

/-- An encoding is one whole code point. -/
def Whole1 (l : Str) : Prop := l ≠ [] ∧ fullR l = true ∧ (Lib.decodeGo ⟨l.toArray⟩).2 = l.length

theorem whole_one (n : Nat) (h : n < 128) : Whole1 [UInt8.ofNat n] := by
  have e := u8_nat n (by omega)
  have hf : Lib.firstT n = 240 := by unfold Lib.firstT; rw [if_pos h]
  refine ⟨by simp, ?_, ?_⟩
  · simp [fullR, e, hf]
  · rw [decode_list (by simp), decodeN_slow _ _ _ _ _ (by simp) (lt256 _) (lt256 _) (lt256 _) (lt256 _)]
    simp [e, hf]

theorem whole_two (a b : Nat) (ha : 194 ≤ a ∧ a < 224) (hb : 128 ≤ b ∧ b ≤ 191) : Whole1 [UInt8.ofNat a, UInt8.ofNat b] := by
  have ea := u8_nat a (by omega)
  have eb := u8_nat b (by omega)
  have hf : Lib.firstT a = 2 := by unfold Lib.firstT; rw [if_neg (by omega), if_neg (by omega), if_pos (by omega)]
  refine ⟨by simp, ?_, ?_⟩
  · simp [fullR, ea, hf]
  · rw [decode_list (by simp), decodeN_slow _ _ _ _ _ (by simp) (lt256 _) (lt256 _) (lt256 _) (lt256 _)]
    simp only [List.getD_cons_zero, List.getD_cons_succ, ea, eb, hf]
    rw [if_neg (by decide), if_neg (by decide)]
    have h1 : Lib.accLo (2 / 16) = 128 := by decide
    have h2 : Lib.accHi (2 / 16) = 191 := by decide
    rw [h1, h2]
    unfold Lib.slowN
    rw [if_neg (by simp), if_neg (by omega), if_pos (by decide)]
    rfl

theorem whole_three (a b c t : Nat) (ha : a < 256) (hb : b ≤ 191) (hc : 128 ≤ c ∧ c ≤ 191) (hf : Lib.firstT a = t) (ht : t % 8 = 3) (hn : t ≠ 240 ∧ t ≠ 241) (hlo : Lib.accLo (t / 16) ≤ b) (hhi : b ≤ Lib.accHi (t / 16)) : Whole1 [UInt8.ofNat a, UInt8.ofNat b, UInt8.ofNat c] := by
  have ea := u8_nat a (by omega)
  have eb := u8_nat b (by omega)
  have ec := u8_nat c (by omega)
  refine ⟨by simp, ?_, ?_⟩
  · simp [fullR, ea, hf, ht]
  · rw [decode_list (by simp), decodeN_slow _ _ _ _ _ (by simp) (lt256 _) (lt256 _) (lt256 _) (lt256 _)]
    simp only [List.getD_cons_zero, List.getD_cons_succ, ea, eb, ec, hf]
    rw [if_neg hn.1, if_neg hn.2, ht]
    unfold Lib.slowN
    rw [if_neg (by simp), if_neg (by omega), if_neg (by decide), if_neg (by omega), if_pos (by decide)]
    rfl

theorem whole_four (a b c d t : Nat) (ha : a < 256) (hb : b ≤ 191) (hc : 128 ≤ c ∧ c ≤ 191) (hd : 128 ≤ d ∧ d ≤ 191) (hf : Lib.firstT a = t) (ht : t % 8 = 4) (hn : t ≠ 240 ∧ t ≠ 241) (hlo : Lib.accLo (t / 16) ≤ b) (hhi : b ≤ Lib.accHi (t / 16)) : Whole1 [UInt8.ofNat a, UInt8.ofNat b, UInt8.ofNat c, UInt8.ofNat d] := by
  have ea := u8_nat a (by omega)
  have eb := u8_nat b (by omega)
  have ec := u8_nat c (by omega)
  have ed := u8_nat d (by omega)
  refine ⟨by simp, ?_, ?_⟩
  · simp [fullR, ea, hf, ht]
  · rw [decode_list (by simp), decodeN_slow _ _ _ _ _ (by simp) (lt256 _) (lt256 _) (lt256 _) (lt256 _)]
    simp only [List.getD_cons_zero, List.getD_cons_succ, ea, eb, ec, ed, hf]
    rw [if_neg hn.1, if_neg hn.2, ht]
    unfold Lib.slowN
    rw [if_neg (by simp), if_neg (by omega), if_neg (by decide), if_neg (by omega), if_neg (by decide), if_neg (by omega)]
    rfl

theorem whole_enc (r : Int) : Whole1 (Lib.encodeRune r) := by
  unfold Lib.encodeRune
  by_cases h0 : r < 0 ∨ (55296 ≤ r ∧ r ≤ 57343) ∨ 1114111 < r
  · rw [Lib.encodeRuneZ_bad h0]
    exact whole_three 239 191 189 3 (by decide) (by decide) (by decide) (by decide) (by decide) (by decide) (by decide) (by decide)
  obtain ⟨n, rfl⟩ : ∃ n : Nat, r = n := ⟨r.toNat, by omega⟩
  by_cases h1 : n ≤ 127
  · rw [Lib.encodeRuneZ_one (by omega) (by omega)]
    simpa using whole_one n (by omega)
  by_cases h2 : n ≤ 2047
  · rw [Lib.encodeRuneZ_two (by omega) (by omega)]
    have e1 : (192 + (n : Int) / 64).toNat = 192 + n / 64 := by omega
    have e2 : (128 + (n : Int) % 64).toNat = 128 + n % 64 := by omega
    simp only [List.map_cons, List.map_nil, e1, e2]
    exact whole_two _ _ (by omega) (by omega)
  by_cases h3 : n ≤ 65535
  · rw [Lib.encodeRuneZ_three (by omega)]
    have e1 : (224 + (n : Int) / 4096).toNat = 224 + n / 4096 := by omega
    have e2 : (128 + (n : Int) / 64 % 64).toNat = 128 + n / 64 % 64 := by omega
    have e3 : (128 + (n : Int) % 64).toNat = 128 + n % 64 := by omega
    simp only [List.map_cons, List.map_nil, e1, e2, e3]
    have hb : 128 + n / 64 % 64 ≤ 191 := by omega
    have hc : 128 ≤ 128 + n % 64 ∧ 128 + n % 64 ≤ 191 := by omega
    by_cases k1 : n < 4096
    · exact whole_three _ _ _ 19 (by omega) hb hc (by rw [show n / 4096 = 0 by omega]; decide) (by decide) (by decide) (by rw [show Lib.accLo (19 / 16) = 160 by decide]; omega) (by rw [show Lib.accHi (19 / 16) = 191 by decide]; omega)
    by_cases k2 : n / 4096 = 13
    · exact whole_three _ _ _ 35 (by omega) hb hc (by rw [k2]; decide) (by decide) (by decide) (by rw [show Lib.accLo (35 / 16) = 128 by decide]; omega) (by rw [show Lib.accHi (35 / 16) = 159 by decide]; omega)
    · refine whole_three _ _ _ 3 (by omega) hb hc ?_ (by decide) (by decide) (by rw [show Lib.accLo (3 / 16) = 128 by decide]; omega) (by rw [show Lib.accHi (3 / 16) = 191 by decide]; omega)
      unfold Lib.firstT
      rw [if_neg (by omega), if_neg (by omega), if_neg (by omega), if_neg (by omega)]
      by_cases k3 : 224 + n / 4096 < 237
      · rw [if_pos k3]
      · rw [if_neg k3, if_neg (by omega), if_pos (by omega)]
  · rw [Lib.encodeRuneZ_four (by omega) (by omega)]
    have e1 : (240 + (n : Int) / 262144).toNat = 240 + n / 262144 := by omega
    have e2 : (128 + (n : Int) / 4096 % 64).toNat = 128 + n / 4096 % 64 := by omega
    have e3 : (128 + (n : Int) / 64 % 64).toNat = 128 + n / 64 % 64 := by omega
    have e4 : (128 + (n : Int) % 64).toNat = 128 + n % 64 := by omega
    simp only [List.map_cons, List.map_nil, e1, e2, e3, e4]
    have hb : 128 + n / 4096 % 64 ≤ 191 := by omega
    have hc : 128 ≤ 128 + n / 64 % 64 ∧ 128 + n / 64 % 64 ≤ 191 := by omega
    have hd : 128 ≤ 128 + n % 64 ∧ 128 + n % 64 ≤ 191 := by omega
    by_cases k1 : n / 262144 = 0
    · exact whole_four _ _ _ _ 52 (by omega) hb hc hd (by rw [k1]; decide) (by decide) (by decide) (by rw [show Lib.accLo (52 / 16) = 144 by decide]; omega) (by rw [show Lib.accHi (52 / 16) = 191 by decide]; omega)
    by_cases k2 : n / 262144 = 4
    · exact whole_four _ _ _ _ 68 (by omega) hb hc hd (by rw [k2]; decide) (by decide) (by decide) (by rw [show Lib.accLo (68 / 16) = 128 by decide]; omega) (by rw [show Lib.accHi (68 / 16) = 143 by decide]; omega)
    · refine whole_four _ _ _ _ 4 (by omega) hb hc hd ?_ (by decide) (by decide) (by rw [show Lib.accLo (4 / 16) = 128 by decide]; omega) (by rw [show Lib.accHi (4 / 16) = 191 by decide]; omega)
      unfold Lib.firstT
      rw [if_neg (by omega), if_neg (by omega), if_neg (by omega), if_neg (by omega), if_neg (by omega), if_neg (by omega), if_neg (by omega), if_neg (by omega), if_pos (by omega)]

/-- Made of whole code points: what comes behind is counted apart. -/
def Wf (l : Str) : Prop := ∀ y, runeCount (l ++ y) = runeCount l + runeCount y
theorem Wf.nil : Wf [] := fun y => by simp [runeCount, cntL]
theorem Wf.app {a b : Str} (ha : Wf a) (hb : Wf b) : Wf (a ++ b) := fun y => by rw [List.append_assoc, ha, hb, ha b]; omega
theorem count_step {x : Str} (h : x ≠ []) : runeCount x = 1 + runeCount (x.drop (Lib.decodeL x).2) := by
  unfold runeCount
  have hl : x.length ≠ 0 := fun e => h (List.length_eq_zero_iff.1 e)
  have hp := decodeL_pos x
  obtain ⟨n, hn⟩ : ∃ n, x.length = n + 1 := ⟨x.length - 1, by omega⟩
  rw [hn, cntL, if_neg h]
  rw [cntL_fuel n (x.drop (Lib.decodeL x).2).length _ (by rw [List.length_drop]; omega) (Nat.le_refl _)]
theorem Whole1.step {l : Str} (h : Whole1 l) (y : Str) : runeCount (l ++ y) = 1 + runeCount y := by
  have hne : l ++ y ≠ [] := by simp [h.1]
  rw [count_step hne, decodeL_go hne, decode_stable y h.2.1, h.2.2, List.drop_left]
theorem Whole1.wf {l : Str} (h : Whole1 l) : Wf l := fun y => by
  have h0 := h.step []
  rw [List.append_nil] at h0
  rw [h.step y, h0]
  simp [runeCount, cntL]
theorem wf_enc (r : Int) : Wf (Lib.encodeRune r) := (whole_enc r).wf
theorem wf_ascii : ∀ l : Str, (∀ x ∈ l, x.toNat < 128) → Wf l
  | [], _ => Wf.nil
  | a :: l, h => by
    have h1 : Wf [a] := by
      have := whole_one a.toNat (h a (by simp))
      rw [UInt8.ofNat_toNat] at this
      exact this.wf
    exact Wf.app (a := [a]) h1 (wf_ascii l fun x hx => h x (by simp [hx]))
end Go.Proofs.YtdfmapcnfficlaaGreatDoor

set_option linter.unusedSimpArgs false
set_option linter.unusedVariables false
namespace Go.Proofs.YtdfmapcnfficlaaGreatDoor
open Go Go.RowKit

/-- T was held when p tokens were told: it has been told, or it is still held. -/
def PendT (T : Str) (p : Nat) (told : List Tok) (text : Str) : Prop :=
  p ≤ told.length ∧ ((∃ ws xs, told.drop p = ws ∧ (∀ t ∈ ws, t.kind = 5) ∧ text = T ++ xs) ∨ ∃ ws xs r, told.drop p = ws ++ ({ kind := 0, text := T ++ xs } : Tok) :: r ∧ ∀ t ∈ ws, t.kind = 5)
def DoneT (T : Str) (p : Nat) (told : List Tok) : Prop :=
  p ≤ told.length ∧ ∃ ws xs r, told.drop p = ws ++ ({ kind := 0, text := T ++ xs } : Tok) :: r ∧ ∀ t ∈ ws, t.kind = 5
def Pend (T : Str) (p : Nat) (s : TS) : Prop := PendT T p s.told s.text

section
variable {T : Str} {p : Nat} {s : TS} {c : Int}
theorem DoneT.app {told : List Tok} (h : DoneT T p told) (t : Tok) : DoneT T p (told ++ [t]) := by
  obtain ⟨h0, ws, xs, r, h1, h2⟩ := h
  refine ⟨by simp; omega, ws, xs, r ++ [t], ?_, h2⟩
  rw [List.drop_append_of_le_length h0, h1]
  simp
theorem DoneT.pend {told : List Tok} {text : Str} (h : DoneT T p told) : PendT T p told text := ⟨h.1, .inr h.2⟩
theorem pd_wrongTok (t : Tok) (ht : t.kind = 5) (h : Pend T p s) : Pend T p (tellTok s t) := by
  obtain ⟨h0, ⟨ws, xs, h1, h2, h3⟩ | h1⟩ := h
  · refine ⟨by simp [tellTok]; omega, .inl ⟨ws ++ [t], xs, ?_, ?_, h3⟩⟩
    · show (s.told ++ [t]).drop p = _
      rw [List.drop_append_of_le_length h0, h1]
    · intro u hu
      rcases List.mem_append.1 hu with hu | hu
      · exact h2 u hu
      · rw [List.mem_singleton.1 hu]; exact ht
  · exact (DoneT.app ⟨h0, h1⟩ t).pend
theorem pd_flush (hT : T ≠ []) (h : Pend T p s) : DoneT T p (flush s).told := by
  obtain ⟨h0, ⟨ws, xs, h1, h2, h3⟩ | h1⟩ := h
  · unfold flush
    rw [if_neg (by rw [h3]; simp [hT])]
    refine ⟨by simp [tellTok]; omega, ws, xs, [], ?_, h2⟩
    show (s.told ++ [_]).drop p = _
    rw [List.drop_append_of_le_length h0, h1, h3]
  · unfold flush
    split
    · exact ⟨h0, h1⟩
    · exact DoneT.app ⟨h0, h1⟩ _
theorem pd_tell {t : Tok} (hT : T ≠ []) (h : Pend T p s) : Pend T p (tell s t) := ((pd_flush hT h).app t).pend
theorem pd_wrongAt {n : Str} {q : Int} (hT : T ≠ []) (h : Pend T p s) : Pend T p (wrongAt s n q) := pd_wrongTok _ rfl h
theorem pd_wrong {n : Str} (hT : T ≠ []) (h : Pend T p s) : Pend T p (wrong s n) := pd_wrongTok _ rfl h
theorem pd_withoutNul {c : Int} (hT : T ≠ []) (h : Pend T p s) : Pend T p (withoutNul s c) := by
  unfold withoutNul
  split
  · exact pd_wrong hT h
  · exact h
theorem pd_addText {l : Str} (hT : T ≠ []) (h : Pend T p s) : Pend T p (addText s l) := by
  obtain ⟨h0, ⟨ws, xs, h1, h2, h3⟩ | h1⟩ := h
  · refine ⟨h0, .inl ⟨ws, xs ++ l, h1, h2, ?_⟩⟩
    show s.text ++ l = _
    rw [h3, List.append_assoc]
  · exact ⟨h0, .inr h1⟩
theorem pd_addToComment {l : Str} (hT : T ≠ []) (h : Pend T p s) : Pend T p (addToComment s l) := h
theorem pd_putComment {c : Int} (hT : T ≠ []) (h : Pend T p s) : Pend T p (putComment s c) := pd_withoutNul hT h
theorem pd_tellComment (hT : T ≠ []) (h : Pend T p s) : Pend T p (tellComment s) := pd_tell (t := { kind := 3, text := s.comment }) hT h
theorem pd_endComment (hT : T ≠ []) (h : Pend T p s) : Pend T p (endComment s) := pd_tellComment hT h
theorem pd_cutComment (hT : T ≠ []) (h : Pend T p s) : Pend T p (cutComment s) := pd_tellComment hT (pd_wrong hT h)
theorem pd_tellDoctype (hT : T ≠ []) (h : Pend T p s) : Pend T p (tellDoctype s) := pd_tell (t := { kind := 4, name := s.dname, flag := s.odd }) hT h
theorem pd_endDoctype (hT : T ≠ []) (h : Pend T p s) : Pend T p (endDoctype s) := pd_tellDoctype hT h
theorem pd_cutDoctype (hT : T ≠ []) (h : Pend T p s) : Pend T p (cutDoctype s) := pd_tellDoctype (s := { wrong s [101, 110, 100, 45, 105, 110, 45, 100, 111, 99, 116, 121, 112, 101] with odd := true }) hT (pd_wrong hT h)
theorem pd_addToKind {c : Int} (hT : T ≠ []) (h : Pend T p s) : Pend T p (addToKind s c) := pd_withoutNul (c := c) hT h
theorem withoutNul_txt (s : TS) (c : Int) : (withoutNul s c).text = s.text := by
  unfold withoutNul
  split <;> rfl
theorem pd_putText {c : Int} (hT : T ≠ []) (h : Pend T p s) : Pend T p (putText s c) := by
  have h1 := pd_addText (l := Lib.encodeRune (withoutNulC c)) hT (pd_withoutNul (c := c) hT h)
  unfold Pend addText at h1
  rw [withoutNul_txt] at h1
  exact h1
theorem pd_putTag {c : Int} (hT : T ≠ []) (h : Pend T p s) : Pend T p (putTag s c) := pd_withoutNul (c := c) hT h
theorem pd_addToName {c : Int} (hT : T ≠ []) (h : Pend T p s) : Pend T p (addToName s c) := h
theorem pd_addToValue {c : Int} (hT : T ≠ []) (h : Pend T p s) : Pend T p (addToValue s c) := h
theorem pd_newAtt (hT : T ≠ []) (h : Pend T p s) : Pend T p (newAtt s) := h
theorem pd_lessName {c : Int} (hT : T ≠ []) (h : Pend T p s) : Pend T p (lessName s c) := h
theorem pd_endName (hT : T ≠ []) (h : Pend T p s) : Pend T p (endName s) := by
  unfold endName nameIsNew
  repeat' split
  · exact (pd_wrong (n := twiceS) hT h)
  · exact h
theorem pd_dropTag (hT : T ≠ []) (h : Pend T p s) : Pend T p (dropTag s) := pd_wrong (n := [101, 110, 100, 45, 105, 110, 45, 116, 97, 103]) hT h
theorem pd_addRunes (t : ByteArray) : ∀ (f pos : Nat) (s : TS), Pend T p s → Pend T p (addRunes t f pos s)
  | 0, _, s, h => h
  | f + 1, pos, s, h => by
    rw [addRunes]
    split
    · exact pd_addRunes t f _ _ h
    · exact h
theorem pd_addToTarget {l : Str} (hT : T ≠ []) (h : Pend T p s) : Pend T p (addToTarget s l) := by
  unfold addToTarget
  split
  · exact pd_addRunes _ _ _ _ h
  · exact pd_addText hT h
theorem pd_endNumber {q : Int} (hT : T ≠ []) (h : Pend T p s) : Pend T p (endNumber s q) := by
  unfold endNumber
  refine pd_addToTarget hT ?_
  split
  · exact h
  · exact pd_wrongAt hT h
theorem pd_openName {n : Str × Str} {x : Str} {nx : Int} (hT : T ≠ []) (h : Pend T p s) : Pend T p (openName s n x nx) := by
  unfold openName
  split
  · exact pd_addToTarget hT h
  · exact pd_addToTarget hT (pd_wrongAt hT h)
theorem pd_leaveAsItIs (hT : T ≠ []) (h : Pend T p s) : Pend T p (leaveAsItIs s) := pd_addToTarget (l := [38] ++ s.rcome) hT h
theorem pd_endOpenName {n : Str × Str} {c : Int} (hT : T ≠ []) (h : Pend T p s) : Pend T p (endOpenName s n c) :=
  pd_addToTarget (s := openName s n (s.rcome.drop n.1.length) (nextOf (s.rcome.drop n.1.length ++ Lib.encodeRune c))) (l := s.rcome.drop n.1.length) hT (pd_openName hT h)
theorem pd_tellTag (hT : T ≠ []) (h : Pend T p s) : Pend T p (tellTag s) := by
  unfold tellTag
  split
  · exact pd_tell (s := tagS s) (t := { kind := 1, name := s.tag.name, attrs := attrsOf s.tag.atts, flag := s.tag.closes }) hT h
  · unfold endTag
    have k1 : Pend T p (if s.tag.atts = [] then tagS s else wrong (tagS s) [101, 110, 100, 45, 97, 116, 116, 114, 105, 98, 117, 116, 101, 115]) := by
      split
      · exact h
      · exact pd_wrong (s := tagS s) hT h
    generalize (if s.tag.atts = [] then tagS s else wrong (tagS s) [101, 110, 100, 45, 97, 116, 116, 114, 105, 98, 117, 116, 101, 115]) = s1 at *
    have k2 : Pend T p (if s.tag.closes = true then wrong s1 [101, 110, 100, 45, 115, 108, 97, 115, 104] else s1) := by
      split
      · exact pd_wrong hT k1
      · exact k1
    exact pd_tell (t := { kind := 2, name := s.tag.name }) hT k2
theorem pd_noDecl (hT : T ≠ []) (h : Pend T p s) : Pend T p (noDecl s) := h
theorem pd_setCome {l : Str} (hT : T ≠ []) (h : Pend T p s) : Pend T p (setCome s l) := h
theorem pd_addDigit {c : Int} (hT : T ≠ []) (h : Pend T p s) : Pend T p (addDigit s c) := h
theorem pd_toReference (hT : T ≠ []) (h : Pend T p s) : Pend T p (toReference s) := h
theorem pd_inData (hT : T ≠ []) (h : Pend T p s) : Pend T p (lookInData s c).2 := by
  unfold lookInData
  repeat' split
  · exact h
  · exact (pd_toReference hT h)
  · exact (show Pend T p s from h)
  · exact (pd_addText hT (pd_wrong hT h))
  · exact (pd_addText hT h)
theorem pd_inTitle (hT : T ≠ []) (h : Pend T p s) : Pend T p (lookInTitle s c).2 := by
  unfold lookInTitle
  repeat' split
  · exact h
  · exact (pd_toReference hT h)
  · exact (show Pend T p s from h)
  · exact (pd_putText hT h)
theorem pd_inRaw (hT : T ≠ []) (h : Pend T p s) : Pend T p (lookInRaw s c).2 := by
  unfold lookInRaw
  repeat' split
  · exact h
  · exact (pd_putText hT h)
  · exact (show Pend T p s from h)
  · exact (pd_putText hT h)
theorem pd_inOpen (hT : T ≠ []) (h : Pend T p s) : Pend T p (lookInOpen s c).2 := by
  unfold lookInOpen
  repeat' split
  · exact (show Pend T p s from h)
  · exact (show Pend T p s from h)
  · exact (show Pend T p (({ s with tag := { kind := 1 } } : TS)) from (show Pend T p s from h))
  · exact (show Pend T p (wrong s [113, 117, 101, 115, 116, 105, 111, 110]) from (pd_wrong hT h))
  · exact (pd_addText hT (pd_wrong hT h))
  · exact (show Pend T p (addText (wrong s [102, 105, 114, 115, 116]) [60]) from (pd_addText hT (pd_wrong hT h)))
theorem pd_inClose (hT : T ≠ []) (h : Pend T p s) : Pend T p (lookInClose s c).2 := by
  unfold lookInClose
  repeat' split
  · exact (show Pend T p (({ s with tag := { kind := 2 } } : TS)) from (show Pend T p s from h))
  · exact (show Pend T p (wrong s [110, 111, 45, 110, 97, 109, 101]) from (pd_wrong hT h))
  · exact (pd_addText hT (pd_wrong hT h))
  · exact (show Pend T p (wrong s [102, 105, 114, 115, 116]) from (pd_wrong hT h))
theorem pd_inTag (hT : T ≠ []) (h : Pend T p s) : Pend T p (lookInTag s c).2 := by
  unfold lookInTag
  repeat' split
  · exact (show Pend T p s from h)
  · exact (show Pend T p s from h)
  · exact (pd_tellTag hT h)
  · exact (pd_dropTag hT h)
  · exact (pd_putTag hT h)
theorem pd_inAttr (hT : T ≠ []) (h : Pend T p s) : Pend T p (lookInAttr s c).2 := by
  unfold lookInAttr
  repeat' split
  · exact h
  · exact (show Pend T p s from h)
  · exact (show Pend T p (addToName (newAtt (wrong s [101, 113, 117, 97, 108, 115])) 61) from (pd_addToName hT (pd_newAtt hT (pd_wrong hT h))))
  · exact (show Pend T p (newAtt s) from (pd_newAtt hT h))
theorem pd_inName (hT : T ≠ []) (h : Pend T p s) : Pend T p (lookInName s c).2 := by
  unfold lookInName
  repeat' split
  · exact (show Pend T p (endName s) from (pd_endName hT h))
  · exact (show Pend T p (endName s) from (pd_endName hT h))
  · exact (pd_addToName hT (pd_withoutNul hT (pd_wrong hT h)))
  · exact (pd_addToName hT (pd_withoutNul hT h))
theorem pd_inAfter (hT : T ≠ []) (h : Pend T p s) : Pend T p (lookInAfter s c).2 := by
  unfold lookInAfter
  repeat' split
  · exact h
  · exact (show Pend T p s from h)
  · exact (show Pend T p s from h)
  · exact (pd_tellTag hT h)
  · exact (pd_dropTag hT h)
  · exact (show Pend T p (newAtt s) from (pd_newAtt hT h))
theorem pd_inEquals (hT : T ≠ []) (h : Pend T p s) : Pend T p (lookInEquals s c).2 := by
  unfold lookInEquals
  repeat' split
  · exact h
  · exact (show Pend T p s from h)
  · exact (show Pend T p s from h)
  · exact (pd_tellTag hT (pd_wrong hT h))
  · exact (show Pend T p s from h)
theorem pd_inDouble (hT : T ≠ []) (h : Pend T p s) : Pend T p (lookInDouble s c).2 := by
  unfold lookInDouble
  repeat' split
  · exact (show Pend T p s from h)
  · exact (pd_toReference hT h)
  · exact (pd_dropTag hT h)
  · exact (pd_addToValue hT (pd_withoutNul hT h))
theorem pd_inSingle (hT : T ≠ []) (h : Pend T p s) : Pend T p (lookInSingle s c).2 := by
  unfold lookInSingle
  repeat' split
  · exact (show Pend T p s from h)
  · exact (pd_toReference hT h)
  · exact (pd_dropTag hT h)
  · exact (pd_addToValue hT (pd_withoutNul hT h))
theorem pd_inPlain (hT : T ≠ []) (h : Pend T p s) : Pend T p (lookInPlain s c).2 := by
  unfold lookInPlain
  repeat' split
  · exact (show Pend T p s from h)
  · exact (pd_toReference hT h)
  · exact (pd_tellTag hT h)
  · exact (pd_dropTag hT h)
  · exact (pd_addToValue hT (pd_withoutNul hT (pd_wrong hT h)))
  · exact (pd_addToValue hT (pd_withoutNul hT h))
theorem pd_inValue (hT : T ≠ []) (h : Pend T p s) : Pend T p (lookInValue s c).2 := by
  unfold lookInValue
  repeat' split
  · exact (show Pend T p s from h)
  · exact (show Pend T p s from h)
  · exact (pd_tellTag hT h)
  · exact (pd_dropTag hT h)
  · exact (show Pend T p (wrong s [110, 111, 45, 98, 108, 97, 110, 107]) from (pd_wrong hT h))
theorem pd_inSelf (hT : T ≠ []) (h : Pend T p s) : Pend T p (lookInSelf s c).2 := by
  unfold lookInSelf
  repeat' split
  · exact (pd_tellTag hT (show Pend T p s from h))
  · exact (pd_dropTag hT h)
  · exact (show Pend T p (wrong s [115, 108, 97, 115, 104]) from (pd_wrong hT h))
theorem pd_inDecl (hT : T ≠ []) (h : Pend T p s) : Pend T p (lookInDecl s c).2 := by
  unfold lookInDecl
  repeat' split
  · exact (show Pend T p s from h)
  · exact (show Pend T p (noDecl s) from (pd_noDecl hT h))
  · exact (show Pend T p (noDecl s) from (pd_noDecl hT h))
  · exact (show Pend T p (addToComment (wrongAt (noDecl s) [99, 100, 97, 116, 97] (s.place - s.declared.length)) [91, 67, 68, 65, 84, 65, 91]) from (pd_addToComment hT (pd_wrongAt hT (pd_noDecl hT h))))
  · exact (show Pend T p (addToComment (wrongAt (noDecl s) [100, 101, 99, 108, 97, 114, 97, 116, 105, 111, 110] (s.place - s.declared.length)) s.declared) from (pd_addToComment hT (pd_wrongAt hT (pd_noDecl hT h))))
theorem pd_inBogus (hT : T ≠ []) (h : Pend T p s) : Pend T p (lookInBogus s c).2 := by
  unfold lookInBogus
  repeat' split
  · exact (pd_endComment hT h)
  · exact (pd_tellComment hT h)
  · exact (pd_putComment hT h)
theorem pd_inBegin (hT : T ≠ []) (h : Pend T p s) : Pend T p (lookInBegin s c).2 := by
  unfold lookInBegin
  repeat' split
  · exact (show Pend T p s from h)
  · exact (pd_endComment hT (pd_wrong hT h))
  · exact (show Pend T p s from h)
theorem pd_inBeginDash (hT : T ≠ []) (h : Pend T p s) : Pend T p (lookInBeginDash s c).2 := by
  unfold lookInBeginDash lookInDash
  repeat' split
  · exact (pd_endComment hT (pd_wrong hT h))
  · exact (show Pend T p s from h)
  · exact (pd_cutComment hT h)
  · exact (show Pend T p (addToComment s [45]) from (pd_addToComment hT h))
theorem pd_inComment (hT : T ≠ []) (h : Pend T p s) : Pend T p (lookInComment s c).2 := by
  unfold lookInComment
  repeat' split
  · exact (show Pend T p s from h)
  · exact (pd_cutComment hT h)
  · exact (pd_putComment hT h)
theorem pd_inDash (hT : T ≠ []) (h : Pend T p s) : Pend T p (lookInDash s c).2 := by
  unfold lookInDash
  repeat' split
  · exact (show Pend T p s from h)
  · exact (pd_cutComment hT h)
  · exact (show Pend T p (addToComment s [45]) from (pd_addToComment hT h))
theorem pd_inDashes (hT : T ≠ []) (h : Pend T p s) : Pend T p (lookInDashes s c).2 := by
  unfold lookInDashes
  repeat' split
  · exact (pd_endComment hT h)
  · exact (show Pend T p s from h)
  · exact (pd_addToComment hT h)
  · exact (pd_cutComment hT h)
  · exact (show Pend T p (addToComment s [45, 45]) from (pd_addToComment hT h))
theorem pd_inBang (hT : T ≠ []) (h : Pend T p s) : Pend T p (lookInBang s c).2 := by
  unfold lookInBang
  repeat' split
  · exact (show Pend T p (addToComment s [45, 45, 33]) from (pd_addToComment hT h))
  · exact (pd_endComment hT (pd_wrong hT h))
  · exact (pd_cutComment hT h)
  · exact (show Pend T p (addToComment s [45, 45, 33]) from (pd_addToComment hT h))
theorem pd_inDoctype (hT : T ≠ []) (h : Pend T p s) : Pend T p (lookInDoctype s c).2 := by
  unfold lookInDoctype
  repeat' split
  · exact (show Pend T p s from h)
  · exact (show Pend T p s from h)
  · exact (pd_cutDoctype hT h)
  · exact (show Pend T p (wrong s [110, 111, 45, 98, 108, 97, 110, 107]) from (pd_wrong hT h))
theorem pd_inKind (hT : T ≠ []) (h : Pend T p s) : Pend T p (lookInKind s c).2 := by
  unfold lookInKind
  repeat' split
  · exact h
  · exact (pd_endDoctype hT (show Pend T p (wrong s [110, 111, 45, 110, 97, 109, 101]) from (pd_wrong hT h)))
  · exact (pd_cutDoctype hT h)
  · exact (show Pend T p (addToKind s c) from (pd_addToKind hT h))
theorem pd_inKindName (hT : T ≠ []) (h : Pend T p s) : Pend T p (lookInKindName s c).2 := by
  unfold lookInKindName
  repeat' split
  · exact (show Pend T p s from h)
  · exact (pd_endDoctype hT h)
  · exact (pd_cutDoctype hT h)
  · exact (pd_addToKind hT h)
theorem pd_inKindEnd (hT : T ≠ []) (h : Pend T p s) : Pend T p (lookInKindEnd s c).2 := by
  unfold lookInKindEnd
  repeat' split
  · exact h
  · exact (pd_endDoctype hT h)
  · exact (pd_cutDoctype hT h)
  · exact (show Pend T p (({ wrong s [107, 105, 110, 100] with odd := true } : TS)) from (show Pend T p (wrong s [107, 105, 110, 100]) from (pd_wrong hT h)))
theorem pd_inKindRest (hT : T ≠ []) (h : Pend T p s) : Pend T p (lookInKindRest s c).2 := by
  unfold lookInKindRest
  repeat' split
  · exact (pd_endDoctype hT h)
  · exact (pd_wrong hT h)
  · exact (pd_tellDoctype hT h)
  · exact h
theorem pd_inRef (hT : T ≠ []) (h : Pend T p s) : Pend T p (lookInRef s c).2 := by
  unfold lookInRef
  repeat' split
  · exact (show Pend T p s from h)
  · exact (show Pend T p (setCome s [35]) from (pd_setCome hT h))
  · exact (pd_leaveAsItIs hT h)
theorem pd_inRefUnknown (hT : T ≠ []) (h : Pend T p s) : Pend T p (lookInRefUnknown s c).2 := by
  unfold lookInRefUnknown
  repeat' split
  · exact (pd_addToTarget hT h)
  · exact (show Pend T p (wrong s [117, 110, 107, 110, 111, 119, 110]) from (pd_wrong hT h))
  · exact (show Pend T p s from h)
theorem pd_inRefHash (hT : T ≠ []) (h : Pend T p s) : Pend T p (lookInRefHash s c).2 := by
  unfold lookInRefHash
  repeat' split
  · exact (show Pend T p (setCome s (s.rcome ++ Lib.encodeRune c)) from (pd_setCome hT h))
  · exact (show Pend T p s from h)
theorem pd_inRefNumber (hT : T ≠ []) (h : Pend T p s) : Pend T p (lookInRefNumber s c).2 := by
  unfold lookInRefNumber
  repeat' split
  · exact (pd_addDigit hT h)
  · exact (pd_leaveAsItIs hT (pd_wrong hT h))
  · exact (show Pend T p (endNumber s (s.place + 1)) from (pd_endNumber hT h))
  · exact (show Pend T p (endNumber (wrong s [115, 101, 109, 105, 99, 111, 108, 111, 110]) s.place) from (pd_endNumber hT (pd_wrong hT h)))
theorem pd_inRefName (hT : T ≠ []) (h : Pend T p s) : Pend T p (lookInRefName s c).2 := by
  unfold lookInRefName
  repeat' split
  · exact h
  · exact pd_addToTarget (l := 38 :: s.rcome) hT h
  · exact pd_addToTarget (l := (findName (s.rcome ++ Lib.encodeRune c)).1.2) hT h
  · exact pd_endOpenName hT h
theorem pd_inLess (hT : T ≠ []) (h : Pend T p s) : Pend T p (lookInLess s c).2 := by
  unfold lookInLess backToBase
  split
  · exact h
  · exact pd_addText (l := [60]) hT h
theorem pd_inLessClose (hT : T ≠ []) (h : Pend T p s) : Pend T p (lookInLessClose s c).2 := by
  unfold lookInLessClose backToBase
  split
  · exact h
  · exact pd_addText (l := [60, 47]) hT h
theorem pd_inLessName (hT : T ≠ []) (h : Pend T p s) : Pend T p (lookInLessName s c).2 := by
  unfold lookInLessName backToBase
  repeat' split
  · exact h
  · exact h
  · exact pd_addText (s := { s with tag := {} }) (l := [60, 47] ++ s.tag.buffer) hT h
theorem pd_lookOnce (hT : T ≠ []) (h : Pend T p s) : Pend T p (lookOnce s c).2 := by
  by_cases e_inTitle : s.state = 1
  · have hf : lookOnce s c = lookInTitle s c := by simp [lookOnce, e_inTitle]
    rw [hf]
    exact pd_inTitle hT h
  by_cases e_inRaw : s.state = 2
  · have hf : lookOnce s c = lookInRaw s c := by simp [lookOnce, e_inRaw]
    rw [hf]
    exact pd_inRaw hT h
  by_cases e_inOpen : s.state = 3
  · have hf : lookOnce s c = lookInOpen s c := by simp [lookOnce, e_inOpen]
    rw [hf]
    exact pd_inOpen hT h
  by_cases e_inClose : s.state = 4
  · have hf : lookOnce s c = lookInClose s c := by simp [lookOnce, e_inClose]
    rw [hf]
    exact pd_inClose hT h
  by_cases e_inLess : s.state = 5
  · have hf : lookOnce s c = lookInLess s c := by simp [lookOnce, e_inLess]
    rw [hf]
    exact pd_inLess hT h
  by_cases e_inLessClose : s.state = 6
  · have hf : lookOnce s c = lookInLessClose s c := by simp [lookOnce, e_inLessClose]
    rw [hf]
    exact pd_inLessClose hT h
  by_cases e_inLessName : s.state = 7
  · have hf : lookOnce s c = lookInLessName s c := by simp [lookOnce, e_inLessName]
    rw [hf]
    exact pd_inLessName hT h
  by_cases e_inTag : s.state = 8
  · have hf : lookOnce s c = lookInTag s c := by simp [lookOnce, e_inTag]
    rw [hf]
    exact pd_inTag hT h
  by_cases e_inAttr : s.state = 9
  · have hf : lookOnce s c = lookInAttr s c := by simp [lookOnce, e_inAttr]
    rw [hf]
    exact pd_inAttr hT h
  by_cases e_inName : s.state = 10
  · have hf : lookOnce s c = lookInName s c := by simp [lookOnce, e_inName]
    rw [hf]
    exact pd_inName hT h
  by_cases e_inAfter : s.state = 11
  · have hf : lookOnce s c = lookInAfter s c := by simp [lookOnce, e_inAfter]
    rw [hf]
    exact pd_inAfter hT h
  by_cases e_inEquals : s.state = 12
  · have hf : lookOnce s c = lookInEquals s c := by simp [lookOnce, e_inEquals]
    rw [hf]
    exact pd_inEquals hT h
  by_cases e_inDouble : s.state = 13
  · have hf : lookOnce s c = lookInDouble s c := by simp [lookOnce, e_inDouble]
    rw [hf]
    exact pd_inDouble hT h
  by_cases e_inSingle : s.state = 14
  · have hf : lookOnce s c = lookInSingle s c := by simp [lookOnce, e_inSingle]
    rw [hf]
    exact pd_inSingle hT h
  by_cases e_inPlain : s.state = 15
  · have hf : lookOnce s c = lookInPlain s c := by simp [lookOnce, e_inPlain]
    rw [hf]
    exact pd_inPlain hT h
  by_cases e_inValue : s.state = 16
  · have hf : lookOnce s c = lookInValue s c := by simp [lookOnce, e_inValue]
    rw [hf]
    exact pd_inValue hT h
  by_cases e_inSelf : s.state = 17
  · have hf : lookOnce s c = lookInSelf s c := by simp [lookOnce, e_inSelf]
    rw [hf]
    exact pd_inSelf hT h
  by_cases e_inDecl : s.state = 18
  · have hf : lookOnce s c = lookInDecl s c := by simp [lookOnce, e_inDecl]
    rw [hf]
    exact pd_inDecl hT h
  by_cases e_inBogus : s.state = 19
  · have hf : lookOnce s c = lookInBogus s c := by simp [lookOnce, e_inBogus]
    rw [hf]
    exact pd_inBogus hT h
  by_cases e_inBegin : s.state = 20
  · have hf : lookOnce s c = lookInBegin s c := by simp [lookOnce, e_inBegin]
    rw [hf]
    exact pd_inBegin hT h
  by_cases e_inBeginDash : s.state = 21
  · have hf : lookOnce s c = lookInBeginDash s c := by simp [lookOnce, e_inBeginDash]
    rw [hf]
    exact pd_inBeginDash hT h
  by_cases e_inComment : s.state = 22
  · have hf : lookOnce s c = lookInComment s c := by simp [lookOnce, e_inComment]
    rw [hf]
    exact pd_inComment hT h
  by_cases e_inDash : s.state = 23
  · have hf : lookOnce s c = lookInDash s c := by simp [lookOnce, e_inDash]
    rw [hf]
    exact pd_inDash hT h
  by_cases e_inDashes : s.state = 24
  · have hf : lookOnce s c = lookInDashes s c := by simp [lookOnce, e_inDashes]
    rw [hf]
    exact pd_inDashes hT h
  by_cases e_inBang : s.state = 25
  · have hf : lookOnce s c = lookInBang s c := by simp [lookOnce, e_inBang]
    rw [hf]
    exact pd_inBang hT h
  by_cases e_inDoctype : s.state = 26
  · have hf : lookOnce s c = lookInDoctype s c := by simp [lookOnce, e_inDoctype]
    rw [hf]
    exact pd_inDoctype hT h
  by_cases e_inKind : s.state = 27
  · have hf : lookOnce s c = lookInKind s c := by simp [lookOnce, e_inKind]
    rw [hf]
    exact pd_inKind hT h
  by_cases e_inKindName : s.state = 28
  · have hf : lookOnce s c = lookInKindName s c := by simp [lookOnce, e_inKindName]
    rw [hf]
    exact pd_inKindName hT h
  by_cases e_inKindEnd : s.state = 29
  · have hf : lookOnce s c = lookInKindEnd s c := by simp [lookOnce, e_inKindEnd]
    rw [hf]
    exact pd_inKindEnd hT h
  by_cases e_inKindRest : s.state = 30
  · have hf : lookOnce s c = lookInKindRest s c := by simp [lookOnce, e_inKindRest]
    rw [hf]
    exact pd_inKindRest hT h
  by_cases e_inRef : s.state = 31
  · have hf : lookOnce s c = lookInRef s c := by simp [lookOnce, e_inRef]
    rw [hf]
    exact pd_inRef hT h
  by_cases e_inRefName : s.state = 32
  · have hf : lookOnce s c = lookInRefName s c := by simp [lookOnce, e_inRefName]
    rw [hf]
    exact pd_inRefName hT h
  by_cases e_inRefUnknown : s.state = 33
  · have hf : lookOnce s c = lookInRefUnknown s c := by simp [lookOnce, e_inRefUnknown]
    rw [hf]
    exact pd_inRefUnknown hT h
  by_cases e_inRefHash : s.state = 34
  · have hf : lookOnce s c = lookInRefHash s c := by simp [lookOnce, e_inRefHash]
    rw [hf]
    exact pd_inRefHash hT h
  by_cases e_inRefNumber : s.state = 35
  · have hf : lookOnce s c = lookInRefNumber s c := by simp [lookOnce, e_inRefNumber]
    rw [hf]
    exact pd_inRefNumber hT h
  have hf : lookOnce s c = lookInData s c := by simp [lookOnce, e_inTitle, e_inRaw, e_inOpen, e_inClose, e_inLess, e_inLessClose, e_inLessName, e_inTag, e_inAttr, e_inName, e_inAfter, e_inEquals, e_inDouble, e_inSingle, e_inPlain, e_inValue, e_inSelf, e_inDecl, e_inBogus, e_inBegin, e_inBeginDash, e_inComment, e_inDash, e_inDashes, e_inBang, e_inDoctype, e_inKind, e_inKindName, e_inKindEnd, e_inKindRest, e_inRef, e_inRefName, e_inRefUnknown, e_inRefHash, e_inRefNumber]
  rw [hf]
  exact pd_inData hT h
theorem pd_lookN (hT : T ≠ []) : ∀ (n : Nat) (s : TS), Pend T p s → Pend T p (lookN n s c)
  | 0, s, h => h
  | n + 1, s, h => by
    rw [lookN]
    split
    · exact pd_lookOnce hT h
    · exact pd_lookN hT n _ (pd_lookOnce hT h)
theorem pd_pass (hT : T ≠ []) (n : Nat) (h : Pend T p s) : Pend T p (pass n s c) := by
  unfold pass
  split
  · exact h
  · split
    · exact pd_lookN hT n (setBehind s c) h
    · exact pd_lookN hT n (setBehind s c) h
theorem pd_readN (hT : T ≠ []) (n : Nat) : ∀ (f : Nat) (s : TS) (r : Str), Pend T p s → Pend T p (readN n f s r).1
  | 0, s, r, h => h
  | f + 1, s, r, h => by
    rw [readN]
    split
    · exact h
    · exact pd_readN hT n f _ _ (pd_pass hT n h)
theorem pd_put (hT : T ≠ []) (x : Str) (h : Pend T p s) : Pend T p (put s x) := by
  unfold put read
  exact pd_readN hT 4 _ _ _ (show Pend T p { s with bytes := s.bytes + x.length } from h)
theorem pd_endAll (hT : T ≠ []) (h : Pend T p s) : DoneT T p (endAll s).told := by
  unfold endAll
  refine pd_flush hT (pd_lookN hT 4 _ ?_)
  unfold endPoints
  split
  · exact h
  · exact pd_pass hT 4 (show Pend T p { ({ s with closed := true } : TS) with begun := [] } from h)
theorem pd_closeT (hT : T ≠ []) (h : Pend T p s) : DoneT T p (closeT s).told := by
  rw [closeT_told]
  exact (pd_endAll hT h).app _
end
end Go.Proofs.YtdfmapcnfficlaaGreatDoor

set_option linter.unusedSimpArgs false
set_option linter.unusedVariables false
namespace Go.Proofs.YtdfmapcnfficlaaGreatDoor
open Go Go.RowKit

def Asc (l : Str) : Prop := ∀ x ∈ l, x.toNat < 128
theorem Asc.wf {l : Str} (h : Asc l) : Wf l := wf_ascii l h
theorem Asc.drop {l : Str} (h : Asc l) (n : Nat) : Asc (l.drop n) := fun x hx => h x (List.mem_of_mem_drop hx)
def WfA (s : TS) : Prop := Wf s.text ∧ Asc s.rcome ∧ Wf s.tag.buffer
section
variable {s : TS} {c : Int}
theorem wa_tellTok {t : Tok} (h : WfA s) : WfA (tellTok s t) := h
theorem wa_flush (h : WfA s) : WfA (flush s) := by
  unfold flush
  split
  · exact h
  · exact ⟨Wf.nil, h.2⟩
theorem wa_tell {t : Tok} (h : WfA s) : WfA (tell s t) := wa_flush h
theorem wa_wrongAt {n : Str} {q : Int} (h : WfA s) : WfA (wrongAt s n q) := h
theorem wa_wrong {n : Str} (h : WfA s) : WfA (wrong s n) := h
theorem wa_withoutNul {c : Int} (h : WfA s) : WfA (withoutNul s c) := by
  unfold withoutNul
  split
  · exact h
  · exact h
theorem wa_addText {l : Str} (hl : Wf l) (h : WfA s) : WfA (addText s l) := ⟨Wf.app h.1 hl, h.2⟩
theorem wa_addToComment {l : Str} (h : WfA s) : WfA (addToComment s l) := h
theorem wa_putComment {c : Int} (h : WfA s) : WfA (putComment s c) := wa_withoutNul h
theorem wa_tellComment (h : WfA s) : WfA (tellComment s) := wa_tell (t := { kind := 3, text := s.comment }) h
theorem wa_endComment (h : WfA s) : WfA (endComment s) := wa_tellComment h
theorem wa_cutComment (h : WfA s) : WfA (cutComment s) := wa_tellComment (wa_wrong h)
theorem wa_tellDoctype (h : WfA s) : WfA (tellDoctype s) := wa_tell (t := { kind := 4, name := s.dname, flag := s.odd }) h
theorem wa_endDoctype (h : WfA s) : WfA (endDoctype s) := wa_tellDoctype h
theorem wa_cutDoctype (h : WfA s) : WfA (cutDoctype s) := wa_tellDoctype (s := { wrong s [101, 110, 100, 45, 105, 110, 45, 100, 111, 99, 116, 121, 112, 101] with odd := true }) h
theorem wa_addToKind {c : Int} (h : WfA s) : WfA (addToKind s c) := wa_withoutNul (c := c) h
theorem wa_putText {c : Int} (h : WfA s) : WfA (putText s c) := ⟨Wf.app h.1 (wf_enc _), (wa_withoutNul (c := c) h).2⟩
theorem withoutNul_tg (s : TS) (c : Int) : (withoutNul s c).tag = s.tag := by
  unfold withoutNul
  split <;> rfl
theorem wa_putTag {c : Int} (h : WfA s) : WfA (putTag s c) := ⟨(wa_withoutNul (c := c) h).1, (wa_withoutNul (c := c) h).2.1, h.2.2⟩
theorem wa_addToName {c : Int} (h : WfA s) : WfA (addToName s c) := h
theorem wa_addToValue {c : Int} (h : WfA s) : WfA (addToValue s c) := h
theorem wa_newAtt (h : WfA s) : WfA (newAtt s) := h
theorem wa_lessName {c : Int} (h : WfA s) : WfA (lessName s c) := ⟨h.1, h.2.1, Wf.app h.2.2 (wf_enc _)⟩
theorem wa_endName (h : WfA s) : WfA (endName s) := by
  unfold endName nameIsNew
  repeat' split
  · exact h
  · exact h
theorem wa_dropTag (h : WfA s) : WfA (dropTag s) := ⟨h.1, h.2.1, Wf.nil⟩
theorem wa_newTag {k : Int} (h : WfA s) : WfA { s with tag := { kind := k } } := ⟨h.1, h.2.1, Wf.nil⟩
theorem wa_addRunes (t : ByteArray) : ∀ (f pos : Nat) (s : TS), WfA s → WfA (addRunes t f pos s)
  | 0, _, s, h => h
  | f + 1, pos, s, h => by
    rw [addRunes]
    split
    · exact wa_addRunes t f _ _ h
    · exact h
theorem wa_addToTarget {l : Str} (hl : Wf l) (h : WfA s) : WfA (addToTarget s l) := by
  unfold addToTarget
  split
  · exact wa_addRunes _ _ _ _ h
  · exact wa_addText hl h
theorem wa_endNumber {q : Int} (h : WfA s) : WfA (endNumber s q) := by
  unfold endNumber
  refine wa_addToTarget (wf_enc _) ?_
  split
  · exact h
  · exact h
def nameRunes : List Int := [38, 38, 38, 38, 60, 60, 60, 60, 62, 62, 34, 34, 39, 160, 160, 169, 169, 172, 172, 8713, 8230]
theorem names_runes : namesT.map (·.2) = nameRunes.map Lib.encodeRune := by kernel_rfl
theorem names_wf {n : Str × Str} (h : n ∈ namesT) : Wf n.2 := by
  have h1 : n.2 ∈ namesT.map (·.2) := List.mem_map.2 ⟨n, h, rfl⟩
  rw [names_runes] at h1
  obtain ⟨k, _, e⟩ := List.mem_map.1 h1
  rw [← e]
  exact wf_enc k
theorem find_ok {x : Str} (h : ¬ (findName x).2 = true) : Wf (findName x).1.2 ∧ Asc (findName x).1.1 := by
  have h0 : findFrom x namesT ([], []) = ((findName x).1, false) := by
    have : (findName x).2 = false := by simpa using h
    rw [← this]; rfl
  rcases findFrom_mem x namesT ([], []) (findName x).1 h0 with h1 | h1
  · rw [h1]
    exact ⟨Wf.nil, fun x hx => by cases hx⟩
  · exact ⟨names_wf h1.1, (names_ascii _ h1.1).1⟩
theorem wait_asc {x : Str} (h : (findName x).2 = true) : Asc x := by
  obtain ⟨n, hn, hp⟩ := findFrom_wait x namesT ([], []) (findName x).1 (by rw [← h]; rfl)
  simp only [partOf, Bool.and_eq_true] at hp
  obtain ⟨r, hr⟩ := List.isPrefixOf_iff_prefix.1 hp.2
  intro y hy
  exact (names_ascii n hn).1 y (by rw [← hr]; simp [hy])
theorem wa_openName {n : Str × Str} {x : Str} {nx : Int} (h1 : Wf n.2) (h2 : Asc n.1) (h : WfA s) : WfA (openName s n x nx) := by
  unfold openName
  split
  · exact wa_addToTarget (Wf.app (wf_ascii _ (by decide)) h2.wf) h
  · exact wa_addToTarget (s := wrongAt s [115, 101, 109, 105, 99, 111, 108, 111, 110] (s.place - x.length)) h1 h
theorem wa_leaveAsItIs (h : WfA s) : WfA (leaveAsItIs s) := wa_addToTarget (l := [38] ++ s.rcome) (Wf.app (wf_ascii _ (by decide)) h.2.1.wf) h
theorem wa_endOpenName {n : Str × Str} {c : Int} (h1 : Wf n.2) (h2 : Asc n.1) (h : WfA s) : WfA (endOpenName s n c) :=
  wa_addToTarget (s := openName s n (s.rcome.drop n.1.length) (nextOf (s.rcome.drop n.1.length ++ Lib.encodeRune c))) (l := s.rcome.drop n.1.length) (h.2.1.drop _).wf (wa_openName h1 h2 h)
theorem wa_tellTag (h : WfA s) : WfA (tellTag s) := by
  have h0 : WfA (tagS s) := ⟨h.1, h.2.1, Wf.nil⟩
  unfold tellTag
  split
  · exact wa_tell (s := tagS s) (t := { kind := 1, name := s.tag.name, attrs := attrsOf s.tag.atts, flag := s.tag.closes }) h0
  · unfold endTag
    have k1 : WfA (if s.tag.atts = [] then tagS s else wrong (tagS s) [101, 110, 100, 45, 97, 116, 116, 114, 105, 98, 117, 116, 101, 115]) := by
      split
      · exact h0
      · exact h0
    generalize (if s.tag.atts = [] then tagS s else wrong (tagS s) [101, 110, 100, 45, 97, 116, 116, 114, 105, 98, 117, 116, 101, 115]) = s1 at *
    have k2 : WfA (if s.tag.closes = true then wrong s1 [101, 110, 100, 45, 115, 108, 97, 115, 104] else s1) := by
      split
      · exact k1
      · exact k1
    exact wa_tell (t := { kind := 2, name := s.tag.name }) k2
theorem wa_addDigit {c : Int} (h : WfA s) : WfA (addDigit s c) := h
theorem wa_toReference (h : WfA s) : WfA (toReference s) := ⟨h.1, (fun x hx => by cases hx), h.2.2⟩
theorem wa_inData (h : WfA s) : WfA (lookInData s c).2 := by
  unfold lookInData
  repeat' split
  · exact h
  · exact (wa_toReference h)
  · exact (show WfA s from h)
  · exact (wa_addText (by first | exact wf_enc _ | exact wf_ascii _ (by decide)) (wa_wrong h))
  · exact (wa_addText (by first | exact wf_enc _ | exact wf_ascii _ (by decide)) h)
theorem wa_inTitle (h : WfA s) : WfA (lookInTitle s c).2 := by
  unfold lookInTitle
  repeat' split
  · exact h
  · exact (wa_toReference h)
  · exact (show WfA s from h)
  · exact (wa_putText h)
theorem wa_inRaw (h : WfA s) : WfA (lookInRaw s c).2 := by
  unfold lookInRaw
  repeat' split
  · exact h
  · exact (wa_putText h)
  · exact (show WfA s from h)
  · exact (wa_putText h)
theorem wa_inOpen (h : WfA s) : WfA (lookInOpen s c).2 := by
  unfold lookInOpen
  repeat' split
  · exact (show WfA s from h)
  · exact (show WfA s from h)
  · exact (show WfA (({ s with tag := { kind := 1 } } : TS)) from (wa_newTag h))
  · exact (show WfA (wrong s [113, 117, 101, 115, 116, 105, 111, 110]) from (wa_wrong h))
  · exact (wa_addText (by first | exact wf_enc _ | exact wf_ascii _ (by decide)) (wa_wrong h))
  · exact (show WfA (addText (wrong s [102, 105, 114, 115, 116]) [60]) from (wa_addText (by first | exact wf_enc _ | exact wf_ascii _ (by decide)) (wa_wrong h)))
theorem wa_inClose (h : WfA s) : WfA (lookInClose s c).2 := by
  unfold lookInClose
  repeat' split
  · exact (show WfA (({ s with tag := { kind := 2 } } : TS)) from (wa_newTag h))
  · exact (show WfA (wrong s [110, 111, 45, 110, 97, 109, 101]) from (wa_wrong h))
  · exact (wa_addText (by first | exact wf_enc _ | exact wf_ascii _ (by decide)) (wa_wrong h))
  · exact (show WfA (wrong s [102, 105, 114, 115, 116]) from (wa_wrong h))
theorem wa_inTag (h : WfA s) : WfA (lookInTag s c).2 := by
  unfold lookInTag
  repeat' split
  · exact (show WfA s from h)
  · exact (show WfA s from h)
  · exact (wa_tellTag h)
  · exact (wa_dropTag h)
  · exact (wa_putTag h)
theorem wa_inAttr (h : WfA s) : WfA (lookInAttr s c).2 := by
  unfold lookInAttr
  repeat' split
  · exact h
  · exact (show WfA s from h)
  · exact (show WfA (addToName (newAtt (wrong s [101, 113, 117, 97, 108, 115])) 61) from (wa_addToName (wa_newAtt (wa_wrong h))))
  · exact (show WfA (newAtt s) from (wa_newAtt h))
theorem wa_inName (h : WfA s) : WfA (lookInName s c).2 := by
  unfold lookInName
  repeat' split
  · exact (show WfA (endName s) from (wa_endName h))
  · exact (show WfA (endName s) from (wa_endName h))
  · exact (wa_addToName (wa_withoutNul (wa_wrong h)))
  · exact (wa_addToName (wa_withoutNul h))
theorem wa_inAfter (h : WfA s) : WfA (lookInAfter s c).2 := by
  unfold lookInAfter
  repeat' split
  · exact h
  · exact (show WfA s from h)
  · exact (show WfA s from h)
  · exact (wa_tellTag h)
  · exact (wa_dropTag h)
  · exact (show WfA (newAtt s) from (wa_newAtt h))
theorem wa_inEquals (h : WfA s) : WfA (lookInEquals s c).2 := by
  unfold lookInEquals
  repeat' split
  · exact h
  · exact (show WfA s from h)
  · exact (show WfA s from h)
  · exact (wa_tellTag (wa_wrong h))
  · exact (show WfA s from h)
theorem wa_inDouble (h : WfA s) : WfA (lookInDouble s c).2 := by
  unfold lookInDouble
  repeat' split
  · exact (show WfA s from h)
  · exact (wa_toReference h)
  · exact (wa_dropTag h)
  · exact (wa_addToValue (wa_withoutNul h))
theorem wa_inSingle (h : WfA s) : WfA (lookInSingle s c).2 := by
  unfold lookInSingle
  repeat' split
  · exact (show WfA s from h)
  · exact (wa_toReference h)
  · exact (wa_dropTag h)
  · exact (wa_addToValue (wa_withoutNul h))
theorem wa_inPlain (h : WfA s) : WfA (lookInPlain s c).2 := by
  unfold lookInPlain
  repeat' split
  · exact (show WfA s from h)
  · exact (wa_toReference h)
  · exact (wa_tellTag h)
  · exact (wa_dropTag h)
  · exact (wa_addToValue (wa_withoutNul (wa_wrong h)))
  · exact (wa_addToValue (wa_withoutNul h))
theorem wa_inValue (h : WfA s) : WfA (lookInValue s c).2 := by
  unfold lookInValue
  repeat' split
  · exact (show WfA s from h)
  · exact (show WfA s from h)
  · exact (wa_tellTag h)
  · exact (wa_dropTag h)
  · exact (show WfA (wrong s [110, 111, 45, 98, 108, 97, 110, 107]) from (wa_wrong h))
theorem wa_inSelf (h : WfA s) : WfA (lookInSelf s c).2 := by
  unfold lookInSelf
  repeat' split
  · exact (wa_tellTag (show WfA s from h))
  · exact (wa_dropTag h)
  · exact (show WfA (wrong s [115, 108, 97, 115, 104]) from (wa_wrong h))
theorem wa_inBogus (h : WfA s) : WfA (lookInBogus s c).2 := by
  unfold lookInBogus
  repeat' split
  · exact (wa_endComment h)
  · exact (wa_tellComment h)
  · exact (wa_putComment h)
theorem wa_inBegin (h : WfA s) : WfA (lookInBegin s c).2 := by
  unfold lookInBegin
  repeat' split
  · exact (show WfA s from h)
  · exact (wa_endComment (wa_wrong h))
  · exact (show WfA s from h)
theorem wa_inBeginDash (h : WfA s) : WfA (lookInBeginDash s c).2 := by
  unfold lookInBeginDash lookInDash
  repeat' split
  · exact (wa_endComment (wa_wrong h))
  · exact (show WfA s from h)
  · exact (wa_cutComment h)
  · exact (show WfA (addToComment s [45]) from (wa_addToComment h))
theorem wa_inComment (h : WfA s) : WfA (lookInComment s c).2 := by
  unfold lookInComment
  repeat' split
  · exact (show WfA s from h)
  · exact (wa_cutComment h)
  · exact (wa_putComment h)
theorem wa_inDash (h : WfA s) : WfA (lookInDash s c).2 := by
  unfold lookInDash
  repeat' split
  · exact (show WfA s from h)
  · exact (wa_cutComment h)
  · exact (show WfA (addToComment s [45]) from (wa_addToComment h))
theorem wa_inDashes (h : WfA s) : WfA (lookInDashes s c).2 := by
  unfold lookInDashes
  repeat' split
  · exact (wa_endComment h)
  · exact (show WfA s from h)
  · exact (wa_addToComment h)
  · exact (wa_cutComment h)
  · exact (show WfA (addToComment s [45, 45]) from (wa_addToComment h))
theorem wa_inBang (h : WfA s) : WfA (lookInBang s c).2 := by
  unfold lookInBang
  repeat' split
  · exact (show WfA (addToComment s [45, 45, 33]) from (wa_addToComment h))
  · exact (wa_endComment (wa_wrong h))
  · exact (wa_cutComment h)
  · exact (show WfA (addToComment s [45, 45, 33]) from (wa_addToComment h))
theorem wa_inDoctype (h : WfA s) : WfA (lookInDoctype s c).2 := by
  unfold lookInDoctype
  repeat' split
  · exact (show WfA s from h)
  · exact (show WfA s from h)
  · exact (wa_cutDoctype h)
  · exact (show WfA (wrong s [110, 111, 45, 98, 108, 97, 110, 107]) from (wa_wrong h))
theorem wa_inKind (h : WfA s) : WfA (lookInKind s c).2 := by
  unfold lookInKind
  repeat' split
  · exact h
  · exact (wa_endDoctype (show WfA (wrong s [110, 111, 45, 110, 97, 109, 101]) from (wa_wrong h)))
  · exact (wa_cutDoctype h)
  · exact (show WfA (addToKind s c) from (wa_addToKind h))
theorem wa_inKindName (h : WfA s) : WfA (lookInKindName s c).2 := by
  unfold lookInKindName
  repeat' split
  · exact (show WfA s from h)
  · exact (wa_endDoctype h)
  · exact (wa_cutDoctype h)
  · exact (wa_addToKind h)
theorem wa_inKindEnd (h : WfA s) : WfA (lookInKindEnd s c).2 := by
  unfold lookInKindEnd
  repeat' split
  · exact h
  · exact (wa_endDoctype h)
  · exact (wa_cutDoctype h)
  · exact (show WfA (({ wrong s [107, 105, 110, 100] with odd := true } : TS)) from (show WfA (wrong s [107, 105, 110, 100]) from (wa_wrong h)))
theorem wa_inKindRest (h : WfA s) : WfA (lookInKindRest s c).2 := by
  unfold lookInKindRest
  repeat' split
  · exact (wa_endDoctype h)
  · exact (wa_wrong h)
  · exact (wa_tellDoctype h)
  · exact h
theorem wa_inRefUnknown (h : WfA s) : WfA (lookInRefUnknown s c).2 := by
  unfold lookInRefUnknown
  repeat' split
  · exact (wa_addToTarget (by first | exact wf_enc _ | exact wf_ascii _ (by decide)) h)
  · exact (show WfA (wrong s [117, 110, 107, 110, 111, 119, 110]) from (wa_wrong h))
  · exact (show WfA s from h)
theorem wa_inRefNumber (h : WfA s) : WfA (lookInRefNumber s c).2 := by
  unfold lookInRefNumber
  repeat' split
  · exact (wa_addDigit h)
  · exact (wa_leaveAsItIs (wa_wrong h))
  · exact (show WfA (endNumber s (s.place + 1)) from (wa_endNumber h))
  · exact (show WfA (endNumber (wrong s [115, 101, 109, 105, 99, 111, 108, 111, 110]) s.place) from (wa_endNumber (wa_wrong h)))
theorem wa_inLess (h : WfA s) : WfA (lookInLess s c).2 := by
  unfold lookInLess backToBase
  split
  · exact h
  · exact wa_addText (l := [60]) (wf_ascii _ (by decide)) h
theorem wa_inLessClose (h : WfA s) : WfA (lookInLessClose s c).2 := by
  unfold lookInLessClose backToBase
  split
  · exact ⟨h.1, h.2.1, Wf.nil⟩
  · exact wa_addText (l := [60, 47]) (wf_ascii _ (by decide)) h
theorem wa_inLessName (h : WfA s) : WfA (lookInLessName s c).2 := by
  unfold lookInLessName backToBase
  repeat' split
  · exact wa_lessName h
  · exact h
  · exact wa_addText (s := { s with tag := {} }) (l := [60, 47] ++ s.tag.buffer) (Wf.app (wf_ascii _ (by decide)) h.2.2) ⟨h.1, h.2.1, Wf.nil⟩
theorem wa_inRef (h : WfA s) : WfA (lookInRef s c).2 := by
  unfold lookInRef
  repeat' split
  · exact h
  · exact ⟨h.1, (by decide : ∀ x ∈ ([35] : Str), x.toNat < 128), h.2.2⟩
  · exact wa_leaveAsItIs h
theorem wa_inRefHash (h : WfA s) : WfA (lookInRefHash s c).2 := by
  unfold lookInRefHash
  split
  · rename_i hc
    refine ⟨h.1, ?_, h.2.2⟩
    intro y hy
    have hy' : y ∈ s.rcome ++ Lib.encodeRune c := hy
    clear hy
    rcases List.mem_append.1 hy' with hy | hy
    · exact h.2.1 y hy
    · rcases hc with hc | hc
      · subst hc
        exact (by decide : ∀ y ∈ Lib.encodeRune 120, y.toNat < 128) y hy
      · subst hc
        exact (by decide : ∀ y ∈ Lib.encodeRune 88, y.toNat < 128) y hy
  · exact h
theorem wa_inDecl (h : WfA s) : WfA (lookInDecl s c).2 := by
  unfold lookInDecl
  repeat' split
  all_goals exact h
theorem wa_inRefName (h : WfA s) : WfA (lookInRefName s c).2 := by
  unfold lookInRefName
  split
  · rename_i hw
    exact ⟨h.1, wait_asc hw, h.2.2⟩
  · rename_i hw
    have hf := find_ok hw
    repeat' split
    · exact wa_addToTarget (l := 38 :: s.rcome) (Wf.app (a := [38]) (wf_ascii _ (by decide)) h.2.1.wf) h
    · exact wa_addToTarget (l := (findName (s.rcome ++ Lib.encodeRune c)).1.2) hf.1 h
    · exact wa_endOpenName hf.1 hf.2 h
theorem wa_lookOnce (h : WfA s) : WfA (lookOnce s c).2 := by
  by_cases e_inTitle : s.state = 1
  · have hf : lookOnce s c = lookInTitle s c := by simp [lookOnce, e_inTitle]
    rw [hf]
    exact wa_inTitle h
  by_cases e_inRaw : s.state = 2
  · have hf : lookOnce s c = lookInRaw s c := by simp [lookOnce, e_inRaw]
    rw [hf]
    exact wa_inRaw h
  by_cases e_inOpen : s.state = 3
  · have hf : lookOnce s c = lookInOpen s c := by simp [lookOnce, e_inOpen]
    rw [hf]
    exact wa_inOpen h
  by_cases e_inClose : s.state = 4
  · have hf : lookOnce s c = lookInClose s c := by simp [lookOnce, e_inClose]
    rw [hf]
    exact wa_inClose h
  by_cases e_inLess : s.state = 5
  · have hf : lookOnce s c = lookInLess s c := by simp [lookOnce, e_inLess]
    rw [hf]
    exact wa_inLess h
  by_cases e_inLessClose : s.state = 6
  · have hf : lookOnce s c = lookInLessClose s c := by simp [lookOnce, e_inLessClose]
    rw [hf]
    exact wa_inLessClose h
  by_cases e_inLessName : s.state = 7
  · have hf : lookOnce s c = lookInLessName s c := by simp [lookOnce, e_inLessName]
    rw [hf]
    exact wa_inLessName h
  by_cases e_inTag : s.state = 8
  · have hf : lookOnce s c = lookInTag s c := by simp [lookOnce, e_inTag]
    rw [hf]
    exact wa_inTag h
  by_cases e_inAttr : s.state = 9
  · have hf : lookOnce s c = lookInAttr s c := by simp [lookOnce, e_inAttr]
    rw [hf]
    exact wa_inAttr h
  by_cases e_inName : s.state = 10
  · have hf : lookOnce s c = lookInName s c := by simp [lookOnce, e_inName]
    rw [hf]
    exact wa_inName h
  by_cases e_inAfter : s.state = 11
  · have hf : lookOnce s c = lookInAfter s c := by simp [lookOnce, e_inAfter]
    rw [hf]
    exact wa_inAfter h
  by_cases e_inEquals : s.state = 12
  · have hf : lookOnce s c = lookInEquals s c := by simp [lookOnce, e_inEquals]
    rw [hf]
    exact wa_inEquals h
  by_cases e_inDouble : s.state = 13
  · have hf : lookOnce s c = lookInDouble s c := by simp [lookOnce, e_inDouble]
    rw [hf]
    exact wa_inDouble h
  by_cases e_inSingle : s.state = 14
  · have hf : lookOnce s c = lookInSingle s c := by simp [lookOnce, e_inSingle]
    rw [hf]
    exact wa_inSingle h
  by_cases e_inPlain : s.state = 15
  · have hf : lookOnce s c = lookInPlain s c := by simp [lookOnce, e_inPlain]
    rw [hf]
    exact wa_inPlain h
  by_cases e_inValue : s.state = 16
  · have hf : lookOnce s c = lookInValue s c := by simp [lookOnce, e_inValue]
    rw [hf]
    exact wa_inValue h
  by_cases e_inSelf : s.state = 17
  · have hf : lookOnce s c = lookInSelf s c := by simp [lookOnce, e_inSelf]
    rw [hf]
    exact wa_inSelf h
  by_cases e_inDecl : s.state = 18
  · have hf : lookOnce s c = lookInDecl s c := by simp [lookOnce, e_inDecl]
    rw [hf]
    exact wa_inDecl h
  by_cases e_inBogus : s.state = 19
  · have hf : lookOnce s c = lookInBogus s c := by simp [lookOnce, e_inBogus]
    rw [hf]
    exact wa_inBogus h
  by_cases e_inBegin : s.state = 20
  · have hf : lookOnce s c = lookInBegin s c := by simp [lookOnce, e_inBegin]
    rw [hf]
    exact wa_inBegin h
  by_cases e_inBeginDash : s.state = 21
  · have hf : lookOnce s c = lookInBeginDash s c := by simp [lookOnce, e_inBeginDash]
    rw [hf]
    exact wa_inBeginDash h
  by_cases e_inComment : s.state = 22
  · have hf : lookOnce s c = lookInComment s c := by simp [lookOnce, e_inComment]
    rw [hf]
    exact wa_inComment h
  by_cases e_inDash : s.state = 23
  · have hf : lookOnce s c = lookInDash s c := by simp [lookOnce, e_inDash]
    rw [hf]
    exact wa_inDash h
  by_cases e_inDashes : s.state = 24
  · have hf : lookOnce s c = lookInDashes s c := by simp [lookOnce, e_inDashes]
    rw [hf]
    exact wa_inDashes h
  by_cases e_inBang : s.state = 25
  · have hf : lookOnce s c = lookInBang s c := by simp [lookOnce, e_inBang]
    rw [hf]
    exact wa_inBang h
  by_cases e_inDoctype : s.state = 26
  · have hf : lookOnce s c = lookInDoctype s c := by simp [lookOnce, e_inDoctype]
    rw [hf]
    exact wa_inDoctype h
  by_cases e_inKind : s.state = 27
  · have hf : lookOnce s c = lookInKind s c := by simp [lookOnce, e_inKind]
    rw [hf]
    exact wa_inKind h
  by_cases e_inKindName : s.state = 28
  · have hf : lookOnce s c = lookInKindName s c := by simp [lookOnce, e_inKindName]
    rw [hf]
    exact wa_inKindName h
  by_cases e_inKindEnd : s.state = 29
  · have hf : lookOnce s c = lookInKindEnd s c := by simp [lookOnce, e_inKindEnd]
    rw [hf]
    exact wa_inKindEnd h
  by_cases e_inKindRest : s.state = 30
  · have hf : lookOnce s c = lookInKindRest s c := by simp [lookOnce, e_inKindRest]
    rw [hf]
    exact wa_inKindRest h
  by_cases e_inRef : s.state = 31
  · have hf : lookOnce s c = lookInRef s c := by simp [lookOnce, e_inRef]
    rw [hf]
    exact wa_inRef h
  by_cases e_inRefName : s.state = 32
  · have hf : lookOnce s c = lookInRefName s c := by simp [lookOnce, e_inRefName]
    rw [hf]
    exact wa_inRefName h
  by_cases e_inRefUnknown : s.state = 33
  · have hf : lookOnce s c = lookInRefUnknown s c := by simp [lookOnce, e_inRefUnknown]
    rw [hf]
    exact wa_inRefUnknown h
  by_cases e_inRefHash : s.state = 34
  · have hf : lookOnce s c = lookInRefHash s c := by simp [lookOnce, e_inRefHash]
    rw [hf]
    exact wa_inRefHash h
  by_cases e_inRefNumber : s.state = 35
  · have hf : lookOnce s c = lookInRefNumber s c := by simp [lookOnce, e_inRefNumber]
    rw [hf]
    exact wa_inRefNumber h
  have hf : lookOnce s c = lookInData s c := by simp [lookOnce, e_inTitle, e_inRaw, e_inOpen, e_inClose, e_inLess, e_inLessClose, e_inLessName, e_inTag, e_inAttr, e_inName, e_inAfter, e_inEquals, e_inDouble, e_inSingle, e_inPlain, e_inValue, e_inSelf, e_inDecl, e_inBogus, e_inBegin, e_inBeginDash, e_inComment, e_inDash, e_inDashes, e_inBang, e_inDoctype, e_inKind, e_inKindName, e_inKindEnd, e_inKindRest, e_inRef, e_inRefName, e_inRefUnknown, e_inRefHash, e_inRefNumber]
  rw [hf]
  exact wa_inData h
theorem wa_lookN : ∀ (n : Nat) (s : TS), WfA s → WfA (lookN n s c)
  | 0, s, h => h
  | n + 1, s, h => by
    rw [lookN]
    split
    · exact wa_lookOnce h
    · exact wa_lookN n _ (wa_lookOnce h)
theorem wa_pass (n : Nat) (h : WfA s) : WfA (pass n s c) := by
  unfold pass
  split
  · exact h
  · split
    · exact wa_lookN n (setBehind s c) h
    · exact wa_lookN n (setBehind s c) h
theorem wa_readN (n : Nat) : ∀ (f : Nat) (s : TS) (r : Str), WfA s → WfA (readN n f s r).1
  | 0, s, r, h => h
  | f + 1, s, r, h => by
    rw [readN]
    split
    · exact h
    · exact wa_readN n f _ _ (wa_pass n h)
theorem wa_put (x : Str) (h : WfA s) : WfA (put s x) := by
  unfold put read
  exact wa_readN 4 _ _ _ (show WfA { s with bytes := s.bytes + x.length } from h)
theorem wa_new (l : Int) : WfA { limit := l } := ⟨Wf.nil, (fun x hx => by cases hx), Wf.nil⟩
end
end Go.Proofs.YtdfmapcnfficlaaGreatDoor

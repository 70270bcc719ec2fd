/-
  What holds from look to look: declarations, references.
  What a look leaves as it was.
-/
import Derived.Test.YtdfmapcnfficlaaGreatDoorB33
import Derived.Lib.MapLaws
set_option linter.unusedSimpArgs false
set_option linter.unusedVariables false
namespace Go.Proofs.YtdfmapcnfficlaaGreatDoor
open Go Go.RowKit

theorem rank_back {q c : Int} (h : backOk q) : rank q c = 0 := by
  rcases h with h | h | h | h | h <;> (rw [h]; rfl)
theorem good_back {s t : TS} {c c' : Int} (g : Good s c) (hr : isRefSt s.state = true) (ht : t.state = s.rback) (ha : isValueSt s.rback = true → t.tag.atts ≠ []) (hb : t.base = s.base) (hd : t.declared = s.declared) : Good t c' := by
  rcases g.back hr with h | h | h | h | h
  · exact g.plain (by rw [ht, h]; exact plain_K _ rfl) (by rw [hb]; exact g.base) (by rw [hd]; exact g.decl)
  · exact g.plain (by rw [ht, h]; exact plain_K _ rfl) (by rw [hb]; exact g.base) (by rw [hd]; exact g.decl)
  all_goals exact g.atts (by rw [ht, h]; exact ⟨by decide, by decide, rfl⟩) (ha (by rw [h]; rfl)) (by rw [hb]; exact g.base) (by rw [hd]; exact g.decl)
/-- Another state of a reference. -/
theorem good_ref {s t : TS} {c c' : Int} (g : Good s c) (hr : isRefSt s.state = true) (ht : isRefSt t.state = true) (hn : NumOk t) (hc : t.rcome.length ≤ 8) (hk : t.rback = s.rback) (ha : isValueSt s.rback = true → t.tag.atts ≠ []) (hb : t.base = s.base) (hd : t.declared = s.declared) (hh : t.state = 34 → t.rcome.length ≤ 1) : Good t c' := by
  have h2 : 31 ≤ t.state ∧ t.state ≤ 35 := by simpa [isRefSt] using ht
  refine ⟨by omega, h2.2, by rw [hb]; exact g.base, by rw [hd]; exact g.decl, fun _ => hn, fun _ => hc, fun _ => by rw [hk]; exact g.back hr, fun _ hv => ha (by rw [← hk]; exact hv), fun h => ?_, fun h => by omega, hh⟩
  simp only [isAttSt, Bool.or_eq_true, beq_iff_eq] at h
  omega

theorem endNumber_atts {s : TS} {p : Int} (h : isValueSt s.rback = true → s.tag.atts ≠ []) (hv : isValueSt s.rback = true) : (endNumber s p).tag.atts ≠ [] := by
  unfold endNumber
  have h1 := addToTarget_atts (s := if (meaning s.rnum).2 = [] then s else wrongAt s (meaning s.rnum).2 p) (Lib.encodeRune (meaning s.rnum).1) (by split <;> exact h)
  apply h1
  rw [addToTarget_rback]
  split <;> exact hv
section
variable {s : TS} {c : Int}

theorem good_inRef (g : Good s c) (hst : s.state = 31) : Leaves s c (lookInRef s c) := by
  have hr : isRefSt s.state = true := by rw [hst]; rfl
  unfold lookInRef
  split
  · exact .inr ⟨rfl, good_ref g hr rfl (g.num hr) (g.come hr) rfl (g.val hr) rfl rfl (fun h => by cases h), by rw [hst]; exact (by decide : (2 : Nat) < 3)⟩
  · split
    · exact .inl ⟨rfl, fun _ c' => good_ref g hr rfl (g.num hr) (by show 1 ≤ 8; omega) rfl (g.val hr) rfl rfl (fun _ => Nat.le_refl 1)⟩
    · refine .inr ⟨rfl, good_back g hr rfl (fun hv => ?_) (fr_leaveAsItIs_base s) (fr_leaveAsItIs_declared s), ?_⟩
      · have := addToTarget_atts (s := s) ([38] ++ s.rcome) (g.val hr)
        rw [addToTarget_rback] at this
        exact this hv
      · rw [hst]
        show rank s.rback c < 3
        rw [rank_back (g.back hr)]
        decide

theorem good_inRefUnknown (g : Good s c) (hst : s.state = 33) : Leaves s c (lookInRefUnknown s c) := by
  have hr : isRefSt s.state = true := by rw [hst]; rfl
  have hrk : rank s.rback c < rank s.state c := by rw [hst, rank_back (g.back hr)]; exact (by decide : (0 : Nat) < 1)
  unfold lookInRefUnknown
  split
  · refine .inl ⟨rfl, fun _ c' => good_ref g hr (by rw [fr_addToTarget_state]; exact hr) ?_ (by rw [fr_addToTarget_rcome]; exact g.come hr) (fr_addToTarget_rback _ _) (fun hv => ?_) (fr_addToTarget_base _ _) (fr_addToTarget_declared _ _) (fun h => by rw [fr_addToTarget_state, hst] at h; cases h)⟩
    · have := g.num hr
      unfold NumOk at *
      rw [fr_addToTarget_rnum]
      exact this
    · have := addToTarget_atts (s := s) (Lib.encodeRune c) (g.val hr)
      rw [addToTarget_rback] at this
      exact this hv
  · split
    · exact .inr ⟨rfl, good_back g hr rfl (g.val hr) rfl rfl, hrk⟩
    · exact .inr ⟨rfl, good_back g hr rfl (g.val hr) rfl rfl, hrk⟩

theorem good_inRefHash (g : Good s c) (hst : s.state = 34) : Leaves s c (lookInRefHash s c) := by
  have hr : isRefSt s.state = true := by rw [hst]; rfl
  unfold lookInRefHash
  split
  · exact .inl ⟨rfl, fun _ c' => good_ref g hr rfl (g.num hr) (by have := len_rune c; have := g.hash hst; show (s.rcome ++ Lib.encodeRune c).length ≤ 8; simp; omega) rfl (g.val hr) rfl rfl (fun h => by cases h)⟩
  · exact .inr ⟨rfl, good_ref g hr rfl (g.num hr) (g.come hr) rfl (g.val hr) rfl rfl (fun h => by cases h), by rw [hst]; exact (by decide : (1 : Nat) < 2)⟩

theorem good_inRefNumber (g : Good s c) (hst : s.state = 35) : Leaves s c (lookInRefNumber s c) := by
  have hr : isRefSt s.state = true := by rw [hst]; rfl
  have hrk : rank s.rback c < rank s.state c := by rw [hst, rank_back (g.back hr)]; exact (by decide : (0 : Nat) < 1)
  unfold lookInRefNumber
  split
  · rename_i hd
    exact .inl ⟨rfl, fun _ c' => good_ref g hr (by exact hr) (addDigit_ok hd (g.num hr)) (g.come hr) rfl (g.val hr) rfl rfl (fun h => by rw [show (addDigit s c).state = s.state from rfl, hst] at h; cases h)⟩
  · split
    · refine .inr ⟨rfl, good_back g hr rfl (fun hv => ?_) (fr_leaveAsItIs_base _) (fr_leaveAsItIs_declared _), hrk⟩
      have := addToTarget_atts (s := wrong s [100, 105, 103, 105, 116, 115]) ([38] ++ s.rcome) (g.val hr)
      rw [addToTarget_rback] at this
      exact this hv
    · split
      · refine .inl ⟨rfl, fun _ c' => good_back g hr rfl (fun hv => endNumber_atts (g.val hr) hv) (fr_endNumber_base _ _) (fr_endNumber_declared _ _)⟩
      · refine .inr ⟨rfl, good_back g hr rfl (fun hv => endNumber_atts (s := wrong s [115, 101, 109, 105, 99, 111, 108, 111, 110]) (g.val hr) hv) ((fr_endNumber_base _ _).trans rfl) ((fr_endNumber_declared _ _).trans rfl), hrk⟩

theorem openName_atts' {s : TS} {n : Str × Str} {x : Str} {nx : Int} (h : isValueSt s.rback = true → s.tag.atts ≠ []) (hv : isValueSt s.rback = true) : (addToTarget (openName s n x nx) x).tag.atts ≠ [] := by
  have := addToTarget_atts (s := openName s n x nx) x (openName_atts n x nx h)
  apply this
  rw [addToTarget_rback, openName_rback]
  exact hv
theorem target_atts {s : TS} {l : Str} (h : isValueSt s.rback = true → s.tag.atts ≠ []) (hv : isValueSt s.rback = true) : (addToTarget s l).tag.atts ≠ [] := by
  have := addToTarget_atts (s := s) l h
  apply this
  rw [addToTarget_rback]
  exact hv
theorem partOf_len {x y : Str} (h : partOf x y = true) : x.length < y.length ∨ x.length ≤ y.length := by
  simp only [partOf, Bool.and_eq_true] at h
  have := (List.isPrefixOf_iff_prefix.1 h.2).length_le
  exact .inr this
theorem wait_len {x : Str} (h : (findName x).2 = true) : x.length ≤ 7 := by
  obtain ⟨n, hn, hp⟩ := findFrom_wait x namesT ([], []) (findName x).1 (by rw [← h]; rfl)
  have h1 := names_len n hn
  rcases partOf_len hp with h2 | h2 <;> omega

theorem good_inRefName (g : Good s c) (hst : s.state = 32) : Leaves s c (lookInRefName s c) := by
  have hr : isRefSt s.state = true := by rw [hst]; rfl
  have hrk : rank s.rback c < rank s.state c := by rw [hst, rank_back (g.back hr)]; exact (by decide : (0 : Nat) < 2)
  unfold lookInRefName
  split
  · rename_i hw
    exact .inl ⟨rfl, fun _ c' => good_ref g hr (by exact hr) (g.num hr) (by have := wait_len hw; show (s.rcome ++ Lib.encodeRune c).length ≤ 8; omega) rfl (g.val hr) rfl rfl (fun h => by rw [show (setCome s (s.rcome ++ Lib.encodeRune c)).state = s.state from rfl, hst] at h; cases h)⟩
  · split
    · refine .inr ⟨rfl, good_ref g hr rfl ?_ (by rw [show ({ addToTarget s (38 :: s.rcome) with state := 33 } : TS).rcome = (addToTarget s (38 :: s.rcome)).rcome from rfl, fr_addToTarget_rcome]; exact g.come hr) (fr_addToTarget_rback _ _) (fun hv => target_atts (g.val hr) hv) (fr_addToTarget_base _ _) (fr_addToTarget_declared _ _) (fun h => by cases h), by rw [hst]; exact (by decide : (1 : Nat) < 2)⟩
      have := g.num hr
      unfold NumOk at *
      rw [show ({ addToTarget s (38 :: s.rcome) with state := 33 } : TS).rnum = (addToTarget s (38 :: s.rcome)).rnum from rfl, fr_addToTarget_rnum]
      exact this
    · split
      · exact .inl ⟨rfl, fun _ c' => good_back g hr rfl (fun hv => target_atts (g.val hr) hv) (fr_addToTarget_base _ _) (fr_addToTarget_declared _ _)⟩
      · exact .inr ⟨rfl, good_back g hr rfl (fun hv => openName_atts' (g.val hr) hv) (fr_endOpenName_base _ _ _) (fr_endOpenName_declared _ _ _), hrk⟩

theorem lowC_len (r : Nat) : (Lib.encodeRune (lowC r)).length = (Lib.encodeRune (r : Int)).length := by
  unfold lowC
  split
  · rename_i h
    unfold Lib.encodeRune
    rw [Lib.encodeRuneZ_one (by omega) (by omega), Lib.encodeRuneZ_one (by omega) (by omega)]
    rfl
  · rfl
theorem lowS_ge : ∀ (n : Nat) (x : Str), x.length ≤ n → x.length ≤ (lowS x).length
  | 0, x, h => by omega
  | n + 1, x, h => by
    by_cases hx : x = []
    · subst hx; simp
    · have h1 := Lib.mapD_step lowC x hx
      have hpos : (0 : Int) ≤ lowC (Lib.decodeL x).1 := by unfold lowC; split <;> omega
      rw [if_pos hpos] at h1
      have hk := Lib.width_pos ⟨x.toArray⟩ 0
      have hk2 := Lib.decodeL_le x hx
      have ih := lowS_ge n (x.drop (Lib.decodeL x).2) (by rw [List.length_drop]; have : 1 ≤ (Lib.decodeL x).2 := hk; omega)
      show x.length ≤ (Lib.mapD lowC x).length
      rw [h1, List.length_append, lowC_len]
      unfold lowS at ih
      rw [List.length_drop] at ih
      by_cases hv : (Lib.decodeL x).1 = 65533 ∧ (Lib.decodeL x).2 = 1
      · rw [hv.1]
        have : (Lib.encodeRune ((65533 : Nat) : Int)).length = 3 := by decide
        omega
      · have h2 := Lib.encode_decode x hx hv
        rw [h2, List.length_take]
        omega
theorem mayDecl_len {x : Str} (h : mayDecl x = true) : x.length ≤ 7 := by
  simp only [mayDecl, Bool.or_eq_true] at h
  have hl := lowS_ge x.length x (Nat.le_refl _)
  rcases h with (h | h) | h
  · have := partOf_len h; simp at this; omega
  · have := partOf_len h; simp at this; omega
  · have := partOf_len h; simp at this; omega

theorem good_inDecl (g : Good s c) (hst : s.state = 18) : Leaves s c (lookInDecl s c) := by
  unfold lookInDecl
  split
  · rename_i hm
    exact .inl ⟨rfl, fun _ c' => g.plain (by rw [show ({ s with declared := s.declared ++ Lib.encodeRune c } : TS).state = s.state from rfl, hst]; exact plain_K _ rfl) g.base (by have := mayDecl_len hm; show (s.declared ++ Lib.encodeRune c).length ≤ 8; omega)⟩
  · repeat' split
    · exact .inl ⟨rfl, fun _ c' => g.plain (plain_K _ rfl) g.base (Nat.zero_le _)⟩
    · exact .inl ⟨rfl, fun _ c' => g.plain (plain_K _ rfl) g.base (Nat.zero_le _)⟩
    · exact .inl ⟨rfl, fun _ c' => g.plain (plain_K _ rfl) g.base (Nat.zero_le _)⟩
    · exact .inr ⟨rfl, g.plain (plain_K _ rfl) g.base (Nat.zero_le _), by rw [hst]; exact (by decide : (0 : Nat) < 1)⟩
end
end Go.Proofs.YtdfmapcnfficlaaGreatDoor

set_option linter.unusedSimpArgs false
set_option linter.unusedVariables false
namespace Go.Proofs.YtdfmapcnfficlaaGreatDoor
open Go Go.RowKit

/-- What only Write and Close turn. -/
def sameHead (s t : TS) : Prop := t.begun = s.begun ∧ t.behind = s.behind ∧ t.limit = s.limit ∧ t.bytes = s.bytes ∧ t.closed = s.closed ∧ t.place = s.place
section
variable {s : TS} {c : Int}
theorem head_inData : sameHead s (lookInData s c).2 := by
  unfold lookInData sameHead
  repeat' split
  all_goals first | exact ⟨rfl, rfl, rfl, rfl, rfl, rfl⟩ | (simp only [fr_wrong_begun, fr_wrong_behind, fr_wrong_limit, fr_wrong_bytes, fr_wrong_closed, fr_wrong_place, fr_addText_begun, fr_addText_behind, fr_addText_limit, fr_addText_bytes, fr_addText_closed, fr_addText_place]; exact ⟨trivial, trivial, trivial, trivial, trivial, trivial⟩) | (simp only [fr_wrong_begun, fr_wrong_behind, fr_wrong_limit, fr_wrong_bytes, fr_wrong_closed, fr_wrong_place, fr_addText_begun, fr_addText_behind, fr_addText_limit, fr_addText_bytes, fr_addText_closed, fr_addText_place, toReference, zeroRef, and_self]; done)

theorem head_inTitle : sameHead s (lookInTitle s c).2 := by
  unfold lookInTitle sameHead
  repeat' split
  all_goals first | exact ⟨rfl, rfl, rfl, rfl, rfl, rfl⟩ | (simp only [fr_putText_begun, fr_putText_behind, fr_putText_limit, fr_putText_bytes, fr_putText_closed, fr_putText_place]; exact ⟨trivial, trivial, trivial, trivial, trivial, trivial⟩) | (simp only [fr_putText_begun, fr_putText_behind, fr_putText_limit, fr_putText_bytes, fr_putText_closed, fr_putText_place, toReference, zeroRef, and_self]; done)

theorem head_inRaw : sameHead s (lookInRaw s c).2 := by
  unfold lookInRaw sameHead
  repeat' split
  all_goals first | exact ⟨rfl, rfl, rfl, rfl, rfl, rfl⟩ | (simp only [fr_putText_begun, fr_putText_behind, fr_putText_limit, fr_putText_bytes, fr_putText_closed, fr_putText_place]; exact ⟨trivial, trivial, trivial, trivial, trivial, trivial⟩) | (simp only [fr_putText_begun, fr_putText_behind, fr_putText_limit, fr_putText_bytes, fr_putText_closed, fr_putText_place, toReference, zeroRef, and_self]; done)

theorem head_inOpen : sameHead s (lookInOpen s c).2 := by
  unfold lookInOpen sameHead
  repeat' split
  all_goals first | exact ⟨rfl, rfl, rfl, rfl, rfl, rfl⟩ | (simp only [fr_wrong_begun, fr_wrong_behind, fr_wrong_limit, fr_wrong_bytes, fr_wrong_closed, fr_wrong_place, fr_addText_begun, fr_addText_behind, fr_addText_limit, fr_addText_bytes, fr_addText_closed, fr_addText_place]; exact ⟨trivial, trivial, trivial, trivial, trivial, trivial⟩) | (simp only [fr_wrong_begun, fr_wrong_behind, fr_wrong_limit, fr_wrong_bytes, fr_wrong_closed, fr_wrong_place, fr_addText_begun, fr_addText_behind, fr_addText_limit, fr_addText_bytes, fr_addText_closed, fr_addText_place, toReference, zeroRef, and_self]; done)

theorem head_inClose : sameHead s (lookInClose s c).2 := by
  unfold lookInClose sameHead
  repeat' split
  all_goals first | exact ⟨rfl, rfl, rfl, rfl, rfl, rfl⟩ | (simp only [fr_wrong_begun, fr_wrong_behind, fr_wrong_limit, fr_wrong_bytes, fr_wrong_closed, fr_wrong_place, fr_addText_begun, fr_addText_behind, fr_addText_limit, fr_addText_bytes, fr_addText_closed, fr_addText_place]; exact ⟨trivial, trivial, trivial, trivial, trivial, trivial⟩) | (simp only [fr_wrong_begun, fr_wrong_behind, fr_wrong_limit, fr_wrong_bytes, fr_wrong_closed, fr_wrong_place, fr_addText_begun, fr_addText_behind, fr_addText_limit, fr_addText_bytes, fr_addText_closed, fr_addText_place, toReference, zeroRef, and_self]; done)

theorem head_inLess : sameHead s (lookInLess s c).2 := by
  unfold lookInLess backToBase sameHead
  repeat' split
  all_goals first | exact ⟨rfl, rfl, rfl, rfl, rfl, rfl⟩ | (simp only [fr_addText_begun, fr_addText_behind, fr_addText_limit, fr_addText_bytes, fr_addText_closed, fr_addText_place]; exact ⟨trivial, trivial, trivial, trivial, trivial, trivial⟩) | (simp only [fr_addText_begun, fr_addText_behind, fr_addText_limit, fr_addText_bytes, fr_addText_closed, fr_addText_place, toReference, zeroRef, and_self]; done)

theorem head_inLessClose : sameHead s (lookInLessClose s c).2 := by
  unfold lookInLessClose backToBase sameHead
  repeat' split
  all_goals first | exact ⟨rfl, rfl, rfl, rfl, rfl, rfl⟩ | (simp only [fr_addText_begun, fr_addText_behind, fr_addText_limit, fr_addText_bytes, fr_addText_closed, fr_addText_place]; exact ⟨trivial, trivial, trivial, trivial, trivial, trivial⟩) | (simp only [fr_addText_begun, fr_addText_behind, fr_addText_limit, fr_addText_bytes, fr_addText_closed, fr_addText_place, toReference, zeroRef, and_self]; done)

theorem head_inLessName : sameHead s (lookInLessName s c).2 := by
  unfold lookInLessName backToBase sameHead
  repeat' split
  all_goals first | exact ⟨rfl, rfl, rfl, rfl, rfl, rfl⟩ | (simp only [fr_addText_begun, fr_addText_behind, fr_addText_limit, fr_addText_bytes, fr_addText_closed, fr_addText_place, fr_lessName_begun, fr_lessName_behind, fr_lessName_limit, fr_lessName_bytes, fr_lessName_closed, fr_lessName_place]; exact ⟨trivial, trivial, trivial, trivial, trivial, trivial⟩) | (simp only [fr_addText_begun, fr_addText_behind, fr_addText_limit, fr_addText_bytes, fr_addText_closed, fr_addText_place, fr_lessName_begun, fr_lessName_behind, fr_lessName_limit, fr_lessName_bytes, fr_lessName_closed, fr_lessName_place, toReference, zeroRef, and_self]; done)

theorem head_inTag : sameHead s (lookInTag s c).2 := by
  unfold lookInTag sameHead
  repeat' split
  all_goals first | exact ⟨rfl, rfl, rfl, rfl, rfl, rfl⟩ | (simp only [fr_putTag_begun, fr_putTag_behind, fr_putTag_limit, fr_putTag_bytes, fr_putTag_closed, fr_putTag_place, fr_dropTag_begun, fr_dropTag_behind, fr_dropTag_limit, fr_dropTag_bytes, fr_dropTag_closed, fr_dropTag_place, fr_tellTag_begun, fr_tellTag_behind, fr_tellTag_limit, fr_tellTag_bytes, fr_tellTag_closed, fr_tellTag_place]; exact ⟨trivial, trivial, trivial, trivial, trivial, trivial⟩) | (simp only [fr_putTag_begun, fr_putTag_behind, fr_putTag_limit, fr_putTag_bytes, fr_putTag_closed, fr_putTag_place, fr_dropTag_begun, fr_dropTag_behind, fr_dropTag_limit, fr_dropTag_bytes, fr_dropTag_closed, fr_dropTag_place, fr_tellTag_begun, fr_tellTag_behind, fr_tellTag_limit, fr_tellTag_bytes, fr_tellTag_closed, fr_tellTag_place, toReference, zeroRef, and_self]; done)

theorem head_inAttr : sameHead s (lookInAttr s c).2 := by
  unfold lookInAttr sameHead
  repeat' split
  all_goals first | exact ⟨rfl, rfl, rfl, rfl, rfl, rfl⟩ | (simp only [fr_wrong_begun, fr_wrong_behind, fr_wrong_limit, fr_wrong_bytes, fr_wrong_closed, fr_wrong_place, fr_addToName_begun, fr_addToName_behind, fr_addToName_limit, fr_addToName_bytes, fr_addToName_closed, fr_addToName_place, fr_newAtt_begun, fr_newAtt_behind, fr_newAtt_limit, fr_newAtt_bytes, fr_newAtt_closed, fr_newAtt_place]; exact ⟨trivial, trivial, trivial, trivial, trivial, trivial⟩) | (simp only [fr_wrong_begun, fr_wrong_behind, fr_wrong_limit, fr_wrong_bytes, fr_wrong_closed, fr_wrong_place, fr_addToName_begun, fr_addToName_behind, fr_addToName_limit, fr_addToName_bytes, fr_addToName_closed, fr_addToName_place, fr_newAtt_begun, fr_newAtt_behind, fr_newAtt_limit, fr_newAtt_bytes, fr_newAtt_closed, fr_newAtt_place, toReference, zeroRef, and_self]; done)

theorem head_inName : sameHead s (lookInName s c).2 := by
  unfold lookInName sameHead
  repeat' split
  all_goals first | exact ⟨rfl, rfl, rfl, rfl, rfl, rfl⟩ | (simp only [fr_wrong_begun, fr_wrong_behind, fr_wrong_limit, fr_wrong_bytes, fr_wrong_closed, fr_wrong_place, fr_withoutNul_begun, fr_withoutNul_behind, fr_withoutNul_limit, fr_withoutNul_bytes, fr_withoutNul_closed, fr_withoutNul_place, fr_addToName_begun, fr_addToName_behind, fr_addToName_limit, fr_addToName_bytes, fr_addToName_closed, fr_addToName_place, fr_endName_begun, fr_endName_behind, fr_endName_limit, fr_endName_bytes, fr_endName_closed, fr_endName_place]; exact ⟨trivial, trivial, trivial, trivial, trivial, trivial⟩) | (simp only [fr_wrong_begun, fr_wrong_behind, fr_wrong_limit, fr_wrong_bytes, fr_wrong_closed, fr_wrong_place, fr_withoutNul_begun, fr_withoutNul_behind, fr_withoutNul_limit, fr_withoutNul_bytes, fr_withoutNul_closed, fr_withoutNul_place, fr_addToName_begun, fr_addToName_behind, fr_addToName_limit, fr_addToName_bytes, fr_addToName_closed, fr_addToName_place, fr_endName_begun, fr_endName_behind, fr_endName_limit, fr_endName_bytes, fr_endName_closed, fr_endName_place, toReference, zeroRef, and_self]; done)

theorem head_inAfter : sameHead s (lookInAfter s c).2 := by
  unfold lookInAfter sameHead
  repeat' split
  all_goals first | exact ⟨rfl, rfl, rfl, rfl, rfl, rfl⟩ | (simp only [fr_newAtt_begun, fr_newAtt_behind, fr_newAtt_limit, fr_newAtt_bytes, fr_newAtt_closed, fr_newAtt_place, fr_dropTag_begun, fr_dropTag_behind, fr_dropTag_limit, fr_dropTag_bytes, fr_dropTag_closed, fr_dropTag_place, fr_tellTag_begun, fr_tellTag_behind, fr_tellTag_limit, fr_tellTag_bytes, fr_tellTag_closed, fr_tellTag_place]; exact ⟨trivial, trivial, trivial, trivial, trivial, trivial⟩) | (simp only [fr_newAtt_begun, fr_newAtt_behind, fr_newAtt_limit, fr_newAtt_bytes, fr_newAtt_closed, fr_newAtt_place, fr_dropTag_begun, fr_dropTag_behind, fr_dropTag_limit, fr_dropTag_bytes, fr_dropTag_closed, fr_dropTag_place, fr_tellTag_begun, fr_tellTag_behind, fr_tellTag_limit, fr_tellTag_bytes, fr_tellTag_closed, fr_tellTag_place, toReference, zeroRef, and_self]; done)

theorem head_inEquals : sameHead s (lookInEquals s c).2 := by
  unfold lookInEquals sameHead
  repeat' split
  all_goals first | exact ⟨rfl, rfl, rfl, rfl, rfl, rfl⟩ | (simp only [fr_wrong_begun, fr_wrong_behind, fr_wrong_limit, fr_wrong_bytes, fr_wrong_closed, fr_wrong_place, fr_tellTag_begun, fr_tellTag_behind, fr_tellTag_limit, fr_tellTag_bytes, fr_tellTag_closed, fr_tellTag_place]; exact ⟨trivial, trivial, trivial, trivial, trivial, trivial⟩) | (simp only [fr_wrong_begun, fr_wrong_behind, fr_wrong_limit, fr_wrong_bytes, fr_wrong_closed, fr_wrong_place, fr_tellTag_begun, fr_tellTag_behind, fr_tellTag_limit, fr_tellTag_bytes, fr_tellTag_closed, fr_tellTag_place, toReference, zeroRef, and_self]; done)

theorem head_inDouble : sameHead s (lookInDouble s c).2 := by
  unfold lookInDouble sameHead
  repeat' split
  all_goals first | exact ⟨rfl, rfl, rfl, rfl, rfl, rfl⟩ | (simp only [fr_withoutNul_begun, fr_withoutNul_behind, fr_withoutNul_limit, fr_withoutNul_bytes, fr_withoutNul_closed, fr_withoutNul_place, fr_addToValue_begun, fr_addToValue_behind, fr_addToValue_limit, fr_addToValue_bytes, fr_addToValue_closed, fr_addToValue_place, fr_dropTag_begun, fr_dropTag_behind, fr_dropTag_limit, fr_dropTag_bytes, fr_dropTag_closed, fr_dropTag_place]; exact ⟨trivial, trivial, trivial, trivial, trivial, trivial⟩) | (simp only [fr_withoutNul_begun, fr_withoutNul_behind, fr_withoutNul_limit, fr_withoutNul_bytes, fr_withoutNul_closed, fr_withoutNul_place, fr_addToValue_begun, fr_addToValue_behind, fr_addToValue_limit, fr_addToValue_bytes, fr_addToValue_closed, fr_addToValue_place, fr_dropTag_begun, fr_dropTag_behind, fr_dropTag_limit, fr_dropTag_bytes, fr_dropTag_closed, fr_dropTag_place, toReference, zeroRef, and_self]; done)

theorem head_inSingle : sameHead s (lookInSingle s c).2 := by
  unfold lookInSingle sameHead
  repeat' split
  all_goals first | exact ⟨rfl, rfl, rfl, rfl, rfl, rfl⟩ | (simp only [fr_withoutNul_begun, fr_withoutNul_behind, fr_withoutNul_limit, fr_withoutNul_bytes, fr_withoutNul_closed, fr_withoutNul_place, fr_addToValue_begun, fr_addToValue_behind, fr_addToValue_limit, fr_addToValue_bytes, fr_addToValue_closed, fr_addToValue_place, fr_dropTag_begun, fr_dropTag_behind, fr_dropTag_limit, fr_dropTag_bytes, fr_dropTag_closed, fr_dropTag_place]; exact ⟨trivial, trivial, trivial, trivial, trivial, trivial⟩) | (simp only [fr_withoutNul_begun, fr_withoutNul_behind, fr_withoutNul_limit, fr_withoutNul_bytes, fr_withoutNul_closed, fr_withoutNul_place, fr_addToValue_begun, fr_addToValue_behind, fr_addToValue_limit, fr_addToValue_bytes, fr_addToValue_closed, fr_addToValue_place, fr_dropTag_begun, fr_dropTag_behind, fr_dropTag_limit, fr_dropTag_bytes, fr_dropTag_closed, fr_dropTag_place, toReference, zeroRef, and_self]; done)

theorem head_inPlain : sameHead s (lookInPlain s c).2 := by
  unfold lookInPlain sameHead
  repeat' split
  all_goals first | exact ⟨rfl, rfl, rfl, rfl, rfl, rfl⟩ | (simp only [fr_wrong_begun, fr_wrong_behind, fr_wrong_limit, fr_wrong_bytes, fr_wrong_closed, fr_wrong_place, fr_withoutNul_begun, fr_withoutNul_behind, fr_withoutNul_limit, fr_withoutNul_bytes, fr_withoutNul_closed, fr_withoutNul_place, fr_addToValue_begun, fr_addToValue_behind, fr_addToValue_limit, fr_addToValue_bytes, fr_addToValue_closed, fr_addToValue_place, fr_dropTag_begun, fr_dropTag_behind, fr_dropTag_limit, fr_dropTag_bytes, fr_dropTag_closed, fr_dropTag_place, fr_tellTag_begun, fr_tellTag_behind, fr_tellTag_limit, fr_tellTag_bytes, fr_tellTag_closed, fr_tellTag_place]; exact ⟨trivial, trivial, trivial, trivial, trivial, trivial⟩) | (simp only [fr_wrong_begun, fr_wrong_behind, fr_wrong_limit, fr_wrong_bytes, fr_wrong_closed, fr_wrong_place, fr_withoutNul_begun, fr_withoutNul_behind, fr_withoutNul_limit, fr_withoutNul_bytes, fr_withoutNul_closed, fr_withoutNul_place, fr_addToValue_begun, fr_addToValue_behind, fr_addToValue_limit, fr_addToValue_bytes, fr_addToValue_closed, fr_addToValue_place, fr_dropTag_begun, fr_dropTag_behind, fr_dropTag_limit, fr_dropTag_bytes, fr_dropTag_closed, fr_dropTag_place, fr_tellTag_begun, fr_tellTag_behind, fr_tellTag_limit, fr_tellTag_bytes, fr_tellTag_closed, fr_tellTag_place, toReference, zeroRef, and_self]; done)

theorem head_inValue : sameHead s (lookInValue s c).2 := by
  unfold lookInValue sameHead
  repeat' split
  all_goals first | exact ⟨rfl, rfl, rfl, rfl, rfl, rfl⟩ | (simp only [fr_wrong_begun, fr_wrong_behind, fr_wrong_limit, fr_wrong_bytes, fr_wrong_closed, fr_wrong_place, fr_dropTag_begun, fr_dropTag_behind, fr_dropTag_limit, fr_dropTag_bytes, fr_dropTag_closed, fr_dropTag_place, fr_tellTag_begun, fr_tellTag_behind, fr_tellTag_limit, fr_tellTag_bytes, fr_tellTag_closed, fr_tellTag_place]; exact ⟨trivial, trivial, trivial, trivial, trivial, trivial⟩) | (simp only [fr_wrong_begun, fr_wrong_behind, fr_wrong_limit, fr_wrong_bytes, fr_wrong_closed, fr_wrong_place, fr_dropTag_begun, fr_dropTag_behind, fr_dropTag_limit, fr_dropTag_bytes, fr_dropTag_closed, fr_dropTag_place, fr_tellTag_begun, fr_tellTag_behind, fr_tellTag_limit, fr_tellTag_bytes, fr_tellTag_closed, fr_tellTag_place, toReference, zeroRef, and_self]; done)

theorem head_inSelf : sameHead s (lookInSelf s c).2 := by
  unfold lookInSelf sameHead
  repeat' split
  all_goals first | exact ⟨rfl, rfl, rfl, rfl, rfl, rfl⟩ | (simp only [fr_wrong_begun, fr_wrong_behind, fr_wrong_limit, fr_wrong_bytes, fr_wrong_closed, fr_wrong_place, fr_dropTag_begun, fr_dropTag_behind, fr_dropTag_limit, fr_dropTag_bytes, fr_dropTag_closed, fr_dropTag_place, fr_tellTag_begun, fr_tellTag_behind, fr_tellTag_limit, fr_tellTag_bytes, fr_tellTag_closed, fr_tellTag_place]; exact ⟨trivial, trivial, trivial, trivial, trivial, trivial⟩) | (simp only [fr_wrong_begun, fr_wrong_behind, fr_wrong_limit, fr_wrong_bytes, fr_wrong_closed, fr_wrong_place, fr_dropTag_begun, fr_dropTag_behind, fr_dropTag_limit, fr_dropTag_bytes, fr_dropTag_closed, fr_dropTag_place, fr_tellTag_begun, fr_tellTag_behind, fr_tellTag_limit, fr_tellTag_bytes, fr_tellTag_closed, fr_tellTag_place, toReference, zeroRef, and_self]; done)

theorem head_inDecl : sameHead s (lookInDecl s c).2 := by
  unfold lookInDecl sameHead
  repeat' split
  all_goals first | exact ⟨rfl, rfl, rfl, rfl, rfl, rfl⟩ | (simp only [fr_wrongAt_begun, fr_wrongAt_behind, fr_wrongAt_limit, fr_wrongAt_bytes, fr_wrongAt_closed, fr_wrongAt_place, fr_addToComment_begun, fr_addToComment_behind, fr_addToComment_limit, fr_addToComment_bytes, fr_addToComment_closed, fr_addToComment_place, fr_noDecl_begun, fr_noDecl_behind, fr_noDecl_limit, fr_noDecl_bytes, fr_noDecl_closed, fr_noDecl_place]; exact ⟨trivial, trivial, trivial, trivial, trivial, trivial⟩) | (simp only [fr_wrongAt_begun, fr_wrongAt_behind, fr_wrongAt_limit, fr_wrongAt_bytes, fr_wrongAt_closed, fr_wrongAt_place, fr_addToComment_begun, fr_addToComment_behind, fr_addToComment_limit, fr_addToComment_bytes, fr_addToComment_closed, fr_addToComment_place, fr_noDecl_begun, fr_noDecl_behind, fr_noDecl_limit, fr_noDecl_bytes, fr_noDecl_closed, fr_noDecl_place, toReference, zeroRef, and_self]; done)

theorem head_inBogus : sameHead s (lookInBogus s c).2 := by
  unfold lookInBogus sameHead
  repeat' split
  all_goals first | exact ⟨rfl, rfl, rfl, rfl, rfl, rfl⟩ | (simp only [fr_tellComment_begun, fr_tellComment_behind, fr_tellComment_limit, fr_tellComment_bytes, fr_tellComment_closed, fr_tellComment_place, fr_endComment_begun, fr_endComment_behind, fr_endComment_limit, fr_endComment_bytes, fr_endComment_closed, fr_endComment_place, fr_putComment_begun, fr_putComment_behind, fr_putComment_limit, fr_putComment_bytes, fr_putComment_closed, fr_putComment_place]; exact ⟨trivial, trivial, trivial, trivial, trivial, trivial⟩) | (simp only [fr_tellComment_begun, fr_tellComment_behind, fr_tellComment_limit, fr_tellComment_bytes, fr_tellComment_closed, fr_tellComment_place, fr_endComment_begun, fr_endComment_behind, fr_endComment_limit, fr_endComment_bytes, fr_endComment_closed, fr_endComment_place, fr_putComment_begun, fr_putComment_behind, fr_putComment_limit, fr_putComment_bytes, fr_putComment_closed, fr_putComment_place, toReference, zeroRef, and_self]; done)

theorem head_inBegin : sameHead s (lookInBegin s c).2 := by
  unfold lookInBegin sameHead
  repeat' split
  all_goals first | exact ⟨rfl, rfl, rfl, rfl, rfl, rfl⟩ | (simp only [fr_wrong_begun, fr_wrong_behind, fr_wrong_limit, fr_wrong_bytes, fr_wrong_closed, fr_wrong_place, fr_endComment_begun, fr_endComment_behind, fr_endComment_limit, fr_endComment_bytes, fr_endComment_closed, fr_endComment_place]; exact ⟨trivial, trivial, trivial, trivial, trivial, trivial⟩) | (simp only [fr_wrong_begun, fr_wrong_behind, fr_wrong_limit, fr_wrong_bytes, fr_wrong_closed, fr_wrong_place, fr_endComment_begun, fr_endComment_behind, fr_endComment_limit, fr_endComment_bytes, fr_endComment_closed, fr_endComment_place, toReference, zeroRef, and_self]; done)

theorem head_inBeginDash : sameHead s (lookInBeginDash s c).2 := by
  unfold lookInBeginDash lookInDash sameHead
  repeat' split
  all_goals first | exact ⟨rfl, rfl, rfl, rfl, rfl, rfl⟩ | (simp only [fr_wrong_begun, fr_wrong_behind, fr_wrong_limit, fr_wrong_bytes, fr_wrong_closed, fr_wrong_place, fr_addToComment_begun, fr_addToComment_behind, fr_addToComment_limit, fr_addToComment_bytes, fr_addToComment_closed, fr_addToComment_place, fr_cutComment_begun, fr_cutComment_behind, fr_cutComment_limit, fr_cutComment_bytes, fr_cutComment_closed, fr_cutComment_place, fr_endComment_begun, fr_endComment_behind, fr_endComment_limit, fr_endComment_bytes, fr_endComment_closed, fr_endComment_place]; exact ⟨trivial, trivial, trivial, trivial, trivial, trivial⟩) | (simp only [fr_wrong_begun, fr_wrong_behind, fr_wrong_limit, fr_wrong_bytes, fr_wrong_closed, fr_wrong_place, fr_addToComment_begun, fr_addToComment_behind, fr_addToComment_limit, fr_addToComment_bytes, fr_addToComment_closed, fr_addToComment_place, fr_cutComment_begun, fr_cutComment_behind, fr_cutComment_limit, fr_cutComment_bytes, fr_cutComment_closed, fr_cutComment_place, fr_endComment_begun, fr_endComment_behind, fr_endComment_limit, fr_endComment_bytes, fr_endComment_closed, fr_endComment_place, toReference, zeroRef, and_self]; done)

theorem head_inComment : sameHead s (lookInComment s c).2 := by
  unfold lookInComment sameHead
  repeat' split
  all_goals first | exact ⟨rfl, rfl, rfl, rfl, rfl, rfl⟩ | (simp only [fr_cutComment_begun, fr_cutComment_behind, fr_cutComment_limit, fr_cutComment_bytes, fr_cutComment_closed, fr_cutComment_place, fr_putComment_begun, fr_putComment_behind, fr_putComment_limit, fr_putComment_bytes, fr_putComment_closed, fr_putComment_place]; exact ⟨trivial, trivial, trivial, trivial, trivial, trivial⟩) | (simp only [fr_cutComment_begun, fr_cutComment_behind, fr_cutComment_limit, fr_cutComment_bytes, fr_cutComment_closed, fr_cutComment_place, fr_putComment_begun, fr_putComment_behind, fr_putComment_limit, fr_putComment_bytes, fr_putComment_closed, fr_putComment_place, toReference, zeroRef, and_self]; done)

theorem head_inDash : sameHead s (lookInDash s c).2 := by
  unfold lookInDash sameHead
  repeat' split
  all_goals first | exact ⟨rfl, rfl, rfl, rfl, rfl, rfl⟩ | (simp only [fr_addToComment_begun, fr_addToComment_behind, fr_addToComment_limit, fr_addToComment_bytes, fr_addToComment_closed, fr_addToComment_place, fr_cutComment_begun, fr_cutComment_behind, fr_cutComment_limit, fr_cutComment_bytes, fr_cutComment_closed, fr_cutComment_place]; exact ⟨trivial, trivial, trivial, trivial, trivial, trivial⟩) | (simp only [fr_addToComment_begun, fr_addToComment_behind, fr_addToComment_limit, fr_addToComment_bytes, fr_addToComment_closed, fr_addToComment_place, fr_cutComment_begun, fr_cutComment_behind, fr_cutComment_limit, fr_cutComment_bytes, fr_cutComment_closed, fr_cutComment_place, toReference, zeroRef, and_self]; done)

theorem head_inDashes : sameHead s (lookInDashes s c).2 := by
  unfold lookInDashes sameHead
  repeat' split
  all_goals first | exact ⟨rfl, rfl, rfl, rfl, rfl, rfl⟩ | (simp only [fr_addToComment_begun, fr_addToComment_behind, fr_addToComment_limit, fr_addToComment_bytes, fr_addToComment_closed, fr_addToComment_place, fr_cutComment_begun, fr_cutComment_behind, fr_cutComment_limit, fr_cutComment_bytes, fr_cutComment_closed, fr_cutComment_place, fr_endComment_begun, fr_endComment_behind, fr_endComment_limit, fr_endComment_bytes, fr_endComment_closed, fr_endComment_place]; exact ⟨trivial, trivial, trivial, trivial, trivial, trivial⟩) | (simp only [fr_addToComment_begun, fr_addToComment_behind, fr_addToComment_limit, fr_addToComment_bytes, fr_addToComment_closed, fr_addToComment_place, fr_cutComment_begun, fr_cutComment_behind, fr_cutComment_limit, fr_cutComment_bytes, fr_cutComment_closed, fr_cutComment_place, fr_endComment_begun, fr_endComment_behind, fr_endComment_limit, fr_endComment_bytes, fr_endComment_closed, fr_endComment_place, toReference, zeroRef, and_self]; done)

theorem head_inBang : sameHead s (lookInBang s c).2 := by
  unfold lookInBang sameHead
  repeat' split
  all_goals first | exact ⟨rfl, rfl, rfl, rfl, rfl, rfl⟩ | (simp only [fr_wrong_begun, fr_wrong_behind, fr_wrong_limit, fr_wrong_bytes, fr_wrong_closed, fr_wrong_place, fr_addToComment_begun, fr_addToComment_behind, fr_addToComment_limit, fr_addToComment_bytes, fr_addToComment_closed, fr_addToComment_place, fr_cutComment_begun, fr_cutComment_behind, fr_cutComment_limit, fr_cutComment_bytes, fr_cutComment_closed, fr_cutComment_place, fr_endComment_begun, fr_endComment_behind, fr_endComment_limit, fr_endComment_bytes, fr_endComment_closed, fr_endComment_place]; exact ⟨trivial, trivial, trivial, trivial, trivial, trivial⟩) | (simp only [fr_wrong_begun, fr_wrong_behind, fr_wrong_limit, fr_wrong_bytes, fr_wrong_closed, fr_wrong_place, fr_addToComment_begun, fr_addToComment_behind, fr_addToComment_limit, fr_addToComment_bytes, fr_addToComment_closed, fr_addToComment_place, fr_cutComment_begun, fr_cutComment_behind, fr_cutComment_limit, fr_cutComment_bytes, fr_cutComment_closed, fr_cutComment_place, fr_endComment_begun, fr_endComment_behind, fr_endComment_limit, fr_endComment_bytes, fr_endComment_closed, fr_endComment_place, toReference, zeroRef, and_self]; done)

theorem head_inDoctype : sameHead s (lookInDoctype s c).2 := by
  unfold lookInDoctype sameHead
  repeat' split
  all_goals first | exact ⟨rfl, rfl, rfl, rfl, rfl, rfl⟩ | (simp only [fr_wrong_begun, fr_wrong_behind, fr_wrong_limit, fr_wrong_bytes, fr_wrong_closed, fr_wrong_place, fr_cutDoctype_begun, fr_cutDoctype_behind, fr_cutDoctype_limit, fr_cutDoctype_bytes, fr_cutDoctype_closed, fr_cutDoctype_place]; exact ⟨trivial, trivial, trivial, trivial, trivial, trivial⟩) | (simp only [fr_wrong_begun, fr_wrong_behind, fr_wrong_limit, fr_wrong_bytes, fr_wrong_closed, fr_wrong_place, fr_cutDoctype_begun, fr_cutDoctype_behind, fr_cutDoctype_limit, fr_cutDoctype_bytes, fr_cutDoctype_closed, fr_cutDoctype_place, toReference, zeroRef, and_self]; done)

theorem head_inKind : sameHead s (lookInKind s c).2 := by
  unfold lookInKind sameHead
  repeat' split
  all_goals first | exact ⟨rfl, rfl, rfl, rfl, rfl, rfl⟩ | (simp only [fr_wrong_begun, fr_wrong_behind, fr_wrong_limit, fr_wrong_bytes, fr_wrong_closed, fr_wrong_place, fr_cutDoctype_begun, fr_cutDoctype_behind, fr_cutDoctype_limit, fr_cutDoctype_bytes, fr_cutDoctype_closed, fr_cutDoctype_place, fr_endDoctype_begun, fr_endDoctype_behind, fr_endDoctype_limit, fr_endDoctype_bytes, fr_endDoctype_closed, fr_endDoctype_place, fr_addToKind_begun, fr_addToKind_behind, fr_addToKind_limit, fr_addToKind_bytes, fr_addToKind_closed, fr_addToKind_place]; exact ⟨trivial, trivial, trivial, trivial, trivial, trivial⟩) | (simp only [fr_wrong_begun, fr_wrong_behind, fr_wrong_limit, fr_wrong_bytes, fr_wrong_closed, fr_wrong_place, fr_cutDoctype_begun, fr_cutDoctype_behind, fr_cutDoctype_limit, fr_cutDoctype_bytes, fr_cutDoctype_closed, fr_cutDoctype_place, fr_endDoctype_begun, fr_endDoctype_behind, fr_endDoctype_limit, fr_endDoctype_bytes, fr_endDoctype_closed, fr_endDoctype_place, fr_addToKind_begun, fr_addToKind_behind, fr_addToKind_limit, fr_addToKind_bytes, fr_addToKind_closed, fr_addToKind_place, toReference, zeroRef, and_self]; done)

theorem head_inKindName : sameHead s (lookInKindName s c).2 := by
  unfold lookInKindName sameHead
  repeat' split
  all_goals first | exact ⟨rfl, rfl, rfl, rfl, rfl, rfl⟩ | (simp only [fr_cutDoctype_begun, fr_cutDoctype_behind, fr_cutDoctype_limit, fr_cutDoctype_bytes, fr_cutDoctype_closed, fr_cutDoctype_place, fr_endDoctype_begun, fr_endDoctype_behind, fr_endDoctype_limit, fr_endDoctype_bytes, fr_endDoctype_closed, fr_endDoctype_place, fr_addToKind_begun, fr_addToKind_behind, fr_addToKind_limit, fr_addToKind_bytes, fr_addToKind_closed, fr_addToKind_place]; exact ⟨trivial, trivial, trivial, trivial, trivial, trivial⟩) | (simp only [fr_cutDoctype_begun, fr_cutDoctype_behind, fr_cutDoctype_limit, fr_cutDoctype_bytes, fr_cutDoctype_closed, fr_cutDoctype_place, fr_endDoctype_begun, fr_endDoctype_behind, fr_endDoctype_limit, fr_endDoctype_bytes, fr_endDoctype_closed, fr_endDoctype_place, fr_addToKind_begun, fr_addToKind_behind, fr_addToKind_limit, fr_addToKind_bytes, fr_addToKind_closed, fr_addToKind_place, toReference, zeroRef, and_self]; done)

theorem head_inKindEnd : sameHead s (lookInKindEnd s c).2 := by
  unfold lookInKindEnd sameHead
  repeat' split
  all_goals first | exact ⟨rfl, rfl, rfl, rfl, rfl, rfl⟩ | (simp only [fr_wrong_begun, fr_wrong_behind, fr_wrong_limit, fr_wrong_bytes, fr_wrong_closed, fr_wrong_place, fr_cutDoctype_begun, fr_cutDoctype_behind, fr_cutDoctype_limit, fr_cutDoctype_bytes, fr_cutDoctype_closed, fr_cutDoctype_place, fr_endDoctype_begun, fr_endDoctype_behind, fr_endDoctype_limit, fr_endDoctype_bytes, fr_endDoctype_closed, fr_endDoctype_place]; exact ⟨trivial, trivial, trivial, trivial, trivial, trivial⟩) | (simp only [fr_wrong_begun, fr_wrong_behind, fr_wrong_limit, fr_wrong_bytes, fr_wrong_closed, fr_wrong_place, fr_cutDoctype_begun, fr_cutDoctype_behind, fr_cutDoctype_limit, fr_cutDoctype_bytes, fr_cutDoctype_closed, fr_cutDoctype_place, fr_endDoctype_begun, fr_endDoctype_behind, fr_endDoctype_limit, fr_endDoctype_bytes, fr_endDoctype_closed, fr_endDoctype_place, toReference, zeroRef, and_self]; done)

theorem head_inKindRest : sameHead s (lookInKindRest s c).2 := by
  unfold lookInKindRest sameHead
  repeat' split
  all_goals first | exact ⟨rfl, rfl, rfl, rfl, rfl, rfl⟩ | (simp only [fr_wrong_begun, fr_wrong_behind, fr_wrong_limit, fr_wrong_bytes, fr_wrong_closed, fr_wrong_place, fr_tellDoctype_begun, fr_tellDoctype_behind, fr_tellDoctype_limit, fr_tellDoctype_bytes, fr_tellDoctype_closed, fr_tellDoctype_place, fr_endDoctype_begun, fr_endDoctype_behind, fr_endDoctype_limit, fr_endDoctype_bytes, fr_endDoctype_closed, fr_endDoctype_place]; exact ⟨trivial, trivial, trivial, trivial, trivial, trivial⟩) | (simp only [fr_wrong_begun, fr_wrong_behind, fr_wrong_limit, fr_wrong_bytes, fr_wrong_closed, fr_wrong_place, fr_tellDoctype_begun, fr_tellDoctype_behind, fr_tellDoctype_limit, fr_tellDoctype_bytes, fr_tellDoctype_closed, fr_tellDoctype_place, fr_endDoctype_begun, fr_endDoctype_behind, fr_endDoctype_limit, fr_endDoctype_bytes, fr_endDoctype_closed, fr_endDoctype_place, toReference, zeroRef, and_self]; done)

theorem head_inRef : sameHead s (lookInRef s c).2 := by
  unfold lookInRef sameHead
  repeat' split
  all_goals first | exact ⟨rfl, rfl, rfl, rfl, rfl, rfl⟩ | (simp only [fr_leaveAsItIs_begun, fr_leaveAsItIs_behind, fr_leaveAsItIs_limit, fr_leaveAsItIs_bytes, fr_leaveAsItIs_closed, fr_leaveAsItIs_place, fr_setCome_begun, fr_setCome_behind, fr_setCome_limit, fr_setCome_bytes, fr_setCome_closed, fr_setCome_place]; exact ⟨trivial, trivial, trivial, trivial, trivial, trivial⟩) | (simp only [fr_leaveAsItIs_begun, fr_leaveAsItIs_behind, fr_leaveAsItIs_limit, fr_leaveAsItIs_bytes, fr_leaveAsItIs_closed, fr_leaveAsItIs_place, fr_setCome_begun, fr_setCome_behind, fr_setCome_limit, fr_setCome_bytes, fr_setCome_closed, fr_setCome_place, toReference, zeroRef, and_self]; done)

theorem head_inRefName : sameHead s (lookInRefName s c).2 := by
  unfold lookInRefName sameHead
  repeat' split
  all_goals first | exact ⟨rfl, rfl, rfl, rfl, rfl, rfl⟩ | (simp only [fr_addToTarget_begun, fr_addToTarget_behind, fr_addToTarget_limit, fr_addToTarget_bytes, fr_addToTarget_closed, fr_addToTarget_place, fr_endOpenName_begun, fr_endOpenName_behind, fr_endOpenName_limit, fr_endOpenName_bytes, fr_endOpenName_closed, fr_endOpenName_place, fr_setCome_begun, fr_setCome_behind, fr_setCome_limit, fr_setCome_bytes, fr_setCome_closed, fr_setCome_place]; exact ⟨trivial, trivial, trivial, trivial, trivial, trivial⟩) | (simp only [fr_addToTarget_begun, fr_addToTarget_behind, fr_addToTarget_limit, fr_addToTarget_bytes, fr_addToTarget_closed, fr_addToTarget_place, fr_endOpenName_begun, fr_endOpenName_behind, fr_endOpenName_limit, fr_endOpenName_bytes, fr_endOpenName_closed, fr_endOpenName_place, fr_setCome_begun, fr_setCome_behind, fr_setCome_limit, fr_setCome_bytes, fr_setCome_closed, fr_setCome_place, toReference, zeroRef, and_self]; done)

theorem head_inRefUnknown : sameHead s (lookInRefUnknown s c).2 := by
  unfold lookInRefUnknown sameHead
  repeat' split
  all_goals first | exact ⟨rfl, rfl, rfl, rfl, rfl, rfl⟩ | (simp only [fr_wrong_begun, fr_wrong_behind, fr_wrong_limit, fr_wrong_bytes, fr_wrong_closed, fr_wrong_place, fr_addToTarget_begun, fr_addToTarget_behind, fr_addToTarget_limit, fr_addToTarget_bytes, fr_addToTarget_closed, fr_addToTarget_place]; exact ⟨trivial, trivial, trivial, trivial, trivial, trivial⟩) | (simp only [fr_wrong_begun, fr_wrong_behind, fr_wrong_limit, fr_wrong_bytes, fr_wrong_closed, fr_wrong_place, fr_addToTarget_begun, fr_addToTarget_behind, fr_addToTarget_limit, fr_addToTarget_bytes, fr_addToTarget_closed, fr_addToTarget_place, toReference, zeroRef, and_self]; done)

theorem head_inRefHash : sameHead s (lookInRefHash s c).2 := by
  unfold lookInRefHash sameHead
  repeat' split
  all_goals first | exact ⟨rfl, rfl, rfl, rfl, rfl, rfl⟩ | (simp only [fr_setCome_begun, fr_setCome_behind, fr_setCome_limit, fr_setCome_bytes, fr_setCome_closed, fr_setCome_place]; exact ⟨trivial, trivial, trivial, trivial, trivial, trivial⟩) | (simp only [fr_setCome_begun, fr_setCome_behind, fr_setCome_limit, fr_setCome_bytes, fr_setCome_closed, fr_setCome_place, toReference, zeroRef, and_self]; done)

theorem head_inRefNumber : sameHead s (lookInRefNumber s c).2 := by
  unfold lookInRefNumber sameHead
  repeat' split
  all_goals first | exact ⟨rfl, rfl, rfl, rfl, rfl, rfl⟩ | (simp only [fr_wrong_begun, fr_wrong_behind, fr_wrong_limit, fr_wrong_bytes, fr_wrong_closed, fr_wrong_place, fr_endNumber_begun, fr_endNumber_behind, fr_endNumber_limit, fr_endNumber_bytes, fr_endNumber_closed, fr_endNumber_place, fr_leaveAsItIs_begun, fr_leaveAsItIs_behind, fr_leaveAsItIs_limit, fr_leaveAsItIs_bytes, fr_leaveAsItIs_closed, fr_leaveAsItIs_place, fr_addDigit_begun, fr_addDigit_behind, fr_addDigit_limit, fr_addDigit_bytes, fr_addDigit_closed, fr_addDigit_place]; exact ⟨trivial, trivial, trivial, trivial, trivial, trivial⟩) | (simp only [fr_wrong_begun, fr_wrong_behind, fr_wrong_limit, fr_wrong_bytes, fr_wrong_closed, fr_wrong_place, fr_endNumber_begun, fr_endNumber_behind, fr_endNumber_limit, fr_endNumber_bytes, fr_endNumber_closed, fr_endNumber_place, fr_leaveAsItIs_begun, fr_leaveAsItIs_behind, fr_leaveAsItIs_limit, fr_leaveAsItIs_bytes, fr_leaveAsItIs_closed, fr_leaveAsItIs_place, fr_addDigit_begun, fr_addDigit_behind, fr_addDigit_limit, fr_addDigit_bytes, fr_addDigit_closed, fr_addDigit_place, toReference, zeroRef, and_self]; done)

theorem head_lookOnce : sameHead s (lookOnce s c).2 := by
  by_cases e_inTitle : s.state = 1
  · have hf : lookOnce s c = lookInTitle s c := by simp [lookOnce, e_inTitle]
    rw [hf]
    exact head_inTitle
  by_cases e_inRaw : s.state = 2
  · have hf : lookOnce s c = lookInRaw s c := by simp [lookOnce, e_inRaw]
    rw [hf]
    exact head_inRaw
  by_cases e_inOpen : s.state = 3
  · have hf : lookOnce s c = lookInOpen s c := by simp [lookOnce, e_inOpen]
    rw [hf]
    exact head_inOpen
  by_cases e_inClose : s.state = 4
  · have hf : lookOnce s c = lookInClose s c := by simp [lookOnce, e_inClose]
    rw [hf]
    exact head_inClose
  by_cases e_inLess : s.state = 5
  · have hf : lookOnce s c = lookInLess s c := by simp [lookOnce, e_inLess]
    rw [hf]
    exact head_inLess
  by_cases e_inLessClose : s.state = 6
  · have hf : lookOnce s c = lookInLessClose s c := by simp [lookOnce, e_inLessClose]
    rw [hf]
    exact head_inLessClose
  by_cases e_inLessName : s.state = 7
  · have hf : lookOnce s c = lookInLessName s c := by simp [lookOnce, e_inLessName]
    rw [hf]
    exact head_inLessName
  by_cases e_inTag : s.state = 8
  · have hf : lookOnce s c = lookInTag s c := by simp [lookOnce, e_inTag]
    rw [hf]
    exact head_inTag
  by_cases e_inAttr : s.state = 9
  · have hf : lookOnce s c = lookInAttr s c := by simp [lookOnce, e_inAttr]
    rw [hf]
    exact head_inAttr
  by_cases e_inName : s.state = 10
  · have hf : lookOnce s c = lookInName s c := by simp [lookOnce, e_inName]
    rw [hf]
    exact head_inName
  by_cases e_inAfter : s.state = 11
  · have hf : lookOnce s c = lookInAfter s c := by simp [lookOnce, e_inAfter]
    rw [hf]
    exact head_inAfter
  by_cases e_inEquals : s.state = 12
  · have hf : lookOnce s c = lookInEquals s c := by simp [lookOnce, e_inEquals]
    rw [hf]
    exact head_inEquals
  by_cases e_inDouble : s.state = 13
  · have hf : lookOnce s c = lookInDouble s c := by simp [lookOnce, e_inDouble]
    rw [hf]
    exact head_inDouble
  by_cases e_inSingle : s.state = 14
  · have hf : lookOnce s c = lookInSingle s c := by simp [lookOnce, e_inSingle]
    rw [hf]
    exact head_inSingle
  by_cases e_inPlain : s.state = 15
  · have hf : lookOnce s c = lookInPlain s c := by simp [lookOnce, e_inPlain]
    rw [hf]
    exact head_inPlain
  by_cases e_inValue : s.state = 16
  · have hf : lookOnce s c = lookInValue s c := by simp [lookOnce, e_inValue]
    rw [hf]
    exact head_inValue
  by_cases e_inSelf : s.state = 17
  · have hf : lookOnce s c = lookInSelf s c := by simp [lookOnce, e_inSelf]
    rw [hf]
    exact head_inSelf
  by_cases e_inDecl : s.state = 18
  · have hf : lookOnce s c = lookInDecl s c := by simp [lookOnce, e_inDecl]
    rw [hf]
    exact head_inDecl
  by_cases e_inBogus : s.state = 19
  · have hf : lookOnce s c = lookInBogus s c := by simp [lookOnce, e_inBogus]
    rw [hf]
    exact head_inBogus
  by_cases e_inBegin : s.state = 20
  · have hf : lookOnce s c = lookInBegin s c := by simp [lookOnce, e_inBegin]
    rw [hf]
    exact head_inBegin
  by_cases e_inBeginDash : s.state = 21
  · have hf : lookOnce s c = lookInBeginDash s c := by simp [lookOnce, e_inBeginDash]
    rw [hf]
    exact head_inBeginDash
  by_cases e_inComment : s.state = 22
  · have hf : lookOnce s c = lookInComment s c := by simp [lookOnce, e_inComment]
    rw [hf]
    exact head_inComment
  by_cases e_inDash : s.state = 23
  · have hf : lookOnce s c = lookInDash s c := by simp [lookOnce, e_inDash]
    rw [hf]
    exact head_inDash
  by_cases e_inDashes : s.state = 24
  · have hf : lookOnce s c = lookInDashes s c := by simp [lookOnce, e_inDashes]
    rw [hf]
    exact head_inDashes
  by_cases e_inBang : s.state = 25
  · have hf : lookOnce s c = lookInBang s c := by simp [lookOnce, e_inBang]
    rw [hf]
    exact head_inBang
  by_cases e_inDoctype : s.state = 26
  · have hf : lookOnce s c = lookInDoctype s c := by simp [lookOnce, e_inDoctype]
    rw [hf]
    exact head_inDoctype
  by_cases e_inKind : s.state = 27
  · have hf : lookOnce s c = lookInKind s c := by simp [lookOnce, e_inKind]
    rw [hf]
    exact head_inKind
  by_cases e_inKindName : s.state = 28
  · have hf : lookOnce s c = lookInKindName s c := by simp [lookOnce, e_inKindName]
    rw [hf]
    exact head_inKindName
  by_cases e_inKindEnd : s.state = 29
  · have hf : lookOnce s c = lookInKindEnd s c := by simp [lookOnce, e_inKindEnd]
    rw [hf]
    exact head_inKindEnd
  by_cases e_inKindRest : s.state = 30
  · have hf : lookOnce s c = lookInKindRest s c := by simp [lookOnce, e_inKindRest]
    rw [hf]
    exact head_inKindRest
  by_cases e_inRef : s.state = 31
  · have hf : lookOnce s c = lookInRef s c := by simp [lookOnce, e_inRef]
    rw [hf]
    exact head_inRef
  by_cases e_inRefName : s.state = 32
  · have hf : lookOnce s c = lookInRefName s c := by simp [lookOnce, e_inRefName]
    rw [hf]
    exact head_inRefName
  by_cases e_inRefUnknown : s.state = 33
  · have hf : lookOnce s c = lookInRefUnknown s c := by simp [lookOnce, e_inRefUnknown]
    rw [hf]
    exact head_inRefUnknown
  by_cases e_inRefHash : s.state = 34
  · have hf : lookOnce s c = lookInRefHash s c := by simp [lookOnce, e_inRefHash]
    rw [hf]
    exact head_inRefHash
  by_cases e_inRefNumber : s.state = 35
  · have hf : lookOnce s c = lookInRefNumber s c := by simp [lookOnce, e_inRefNumber]
    rw [hf]
    exact head_inRefNumber
  have hf : lookOnce s c = lookInData s c := by simp [lookOnce, e_inTitle, e_inRaw, e_inOpen, e_inClose, e_inLess, e_inLessClose, e_inLessName, e_inTag, e_inAttr, e_inName, e_inAfter, e_inEquals, e_inDouble, e_inSingle, e_inPlain, e_inValue, e_inSelf, e_inDecl, e_inBogus, e_inBegin, e_inBeginDash, e_inComment, e_inDash, e_inDashes, e_inBang, e_inDoctype, e_inKind, e_inKindName, e_inKindEnd, e_inKindRest, e_inRef, e_inRefName, e_inRefUnknown, e_inRefHash, e_inRefNumber]
  rw [hf]
  exact head_inData

theorem good_lookOnce (g : Good s c) : Leaves s c (lookOnce s c) := by
  by_cases e_inData : s.state = 0
  · have hf : lookOnce s c = lookInData s c := by simp [lookOnce, e_inData]
    rw [hf]
    exact good_inData g e_inData
  by_cases e_inTitle : s.state = 1
  · have hf : lookOnce s c = lookInTitle s c := by simp [lookOnce, e_inTitle]
    rw [hf]
    exact good_inTitle g e_inTitle
  by_cases e_inRaw : s.state = 2
  · have hf : lookOnce s c = lookInRaw s c := by simp [lookOnce, e_inRaw]
    rw [hf]
    exact good_inRaw g e_inRaw
  by_cases e_inOpen : s.state = 3
  · have hf : lookOnce s c = lookInOpen s c := by simp [lookOnce, e_inOpen]
    rw [hf]
    exact good_inOpen g e_inOpen
  by_cases e_inClose : s.state = 4
  · have hf : lookOnce s c = lookInClose s c := by simp [lookOnce, e_inClose]
    rw [hf]
    exact good_inClose g e_inClose
  by_cases e_inLess : s.state = 5
  · have hf : lookOnce s c = lookInLess s c := by simp [lookOnce, e_inLess]
    rw [hf]
    exact good_inLess g e_inLess
  by_cases e_inLessClose : s.state = 6
  · have hf : lookOnce s c = lookInLessClose s c := by simp [lookOnce, e_inLessClose]
    rw [hf]
    exact good_inLessClose g e_inLessClose
  by_cases e_inLessName : s.state = 7
  · have hf : lookOnce s c = lookInLessName s c := by simp [lookOnce, e_inLessName]
    rw [hf]
    exact good_inLessName g e_inLessName
  by_cases e_inTag : s.state = 8
  · have hf : lookOnce s c = lookInTag s c := by simp [lookOnce, e_inTag]
    rw [hf]
    exact good_inTag g e_inTag
  by_cases e_inAttr : s.state = 9
  · have hf : lookOnce s c = lookInAttr s c := by simp [lookOnce, e_inAttr]
    rw [hf]
    exact good_inAttr g e_inAttr
  by_cases e_inName : s.state = 10
  · have hf : lookOnce s c = lookInName s c := by simp [lookOnce, e_inName]
    rw [hf]
    exact good_inName g e_inName
  by_cases e_inAfter : s.state = 11
  · have hf : lookOnce s c = lookInAfter s c := by simp [lookOnce, e_inAfter]
    rw [hf]
    exact good_inAfter g e_inAfter
  by_cases e_inEquals : s.state = 12
  · have hf : lookOnce s c = lookInEquals s c := by simp [lookOnce, e_inEquals]
    rw [hf]
    exact good_inEquals g e_inEquals
  by_cases e_inDouble : s.state = 13
  · have hf : lookOnce s c = lookInDouble s c := by simp [lookOnce, e_inDouble]
    rw [hf]
    exact good_inDouble g e_inDouble
  by_cases e_inSingle : s.state = 14
  · have hf : lookOnce s c = lookInSingle s c := by simp [lookOnce, e_inSingle]
    rw [hf]
    exact good_inSingle g e_inSingle
  by_cases e_inPlain : s.state = 15
  · have hf : lookOnce s c = lookInPlain s c := by simp [lookOnce, e_inPlain]
    rw [hf]
    exact good_inPlain g e_inPlain
  by_cases e_inValue : s.state = 16
  · have hf : lookOnce s c = lookInValue s c := by simp [lookOnce, e_inValue]
    rw [hf]
    exact good_inValue g e_inValue
  by_cases e_inSelf : s.state = 17
  · have hf : lookOnce s c = lookInSelf s c := by simp [lookOnce, e_inSelf]
    rw [hf]
    exact good_inSelf g e_inSelf
  by_cases e_inDecl : s.state = 18
  · have hf : lookOnce s c = lookInDecl s c := by simp [lookOnce, e_inDecl]
    rw [hf]
    exact good_inDecl g e_inDecl
  by_cases e_inBogus : s.state = 19
  · have hf : lookOnce s c = lookInBogus s c := by simp [lookOnce, e_inBogus]
    rw [hf]
    exact good_inBogus g e_inBogus
  by_cases e_inBegin : s.state = 20
  · have hf : lookOnce s c = lookInBegin s c := by simp [lookOnce, e_inBegin]
    rw [hf]
    exact good_inBegin g e_inBegin
  by_cases e_inBeginDash : s.state = 21
  · have hf : lookOnce s c = lookInBeginDash s c := by simp [lookOnce, e_inBeginDash]
    rw [hf]
    exact good_inBeginDash g e_inBeginDash
  by_cases e_inComment : s.state = 22
  · have hf : lookOnce s c = lookInComment s c := by simp [lookOnce, e_inComment]
    rw [hf]
    exact good_inComment g e_inComment
  by_cases e_inDash : s.state = 23
  · have hf : lookOnce s c = lookInDash s c := by simp [lookOnce, e_inDash]
    rw [hf]
    exact good_inDash g e_inDash
  by_cases e_inDashes : s.state = 24
  · have hf : lookOnce s c = lookInDashes s c := by simp [lookOnce, e_inDashes]
    rw [hf]
    exact good_inDashes g e_inDashes
  by_cases e_inBang : s.state = 25
  · have hf : lookOnce s c = lookInBang s c := by simp [lookOnce, e_inBang]
    rw [hf]
    exact good_inBang g e_inBang
  by_cases e_inDoctype : s.state = 26
  · have hf : lookOnce s c = lookInDoctype s c := by simp [lookOnce, e_inDoctype]
    rw [hf]
    exact good_inDoctype g e_inDoctype
  by_cases e_inKind : s.state = 27
  · have hf : lookOnce s c = lookInKind s c := by simp [lookOnce, e_inKind]
    rw [hf]
    exact good_inKind g e_inKind
  by_cases e_inKindName : s.state = 28
  · have hf : lookOnce s c = lookInKindName s c := by simp [lookOnce, e_inKindName]
    rw [hf]
    exact good_inKindName g e_inKindName
  by_cases e_inKindEnd : s.state = 29
  · have hf : lookOnce s c = lookInKindEnd s c := by simp [lookOnce, e_inKindEnd]
    rw [hf]
    exact good_inKindEnd g e_inKindEnd
  by_cases e_inKindRest : s.state = 30
  · have hf : lookOnce s c = lookInKindRest s c := by simp [lookOnce, e_inKindRest]
    rw [hf]
    exact good_inKindRest g e_inKindRest
  by_cases e_inRef : s.state = 31
  · have hf : lookOnce s c = lookInRef s c := by simp [lookOnce, e_inRef]
    rw [hf]
    exact good_inRef g e_inRef
  by_cases e_inRefName : s.state = 32
  · have hf : lookOnce s c = lookInRefName s c := by simp [lookOnce, e_inRefName]
    rw [hf]
    exact good_inRefName g e_inRefName
  by_cases e_inRefUnknown : s.state = 33
  · have hf : lookOnce s c = lookInRefUnknown s c := by simp [lookOnce, e_inRefUnknown]
    rw [hf]
    exact good_inRefUnknown g e_inRefUnknown
  by_cases e_inRefHash : s.state = 34
  · have hf : lookOnce s c = lookInRefHash s c := by simp [lookOnce, e_inRefHash]
    rw [hf]
    exact good_inRefHash g e_inRefHash
  by_cases e_inRefNumber : s.state = 35
  · have hf : lookOnce s c = lookInRefNumber s c := by simp [lookOnce, e_inRefNumber]
    rw [hf]
    exact good_inRefNumber g e_inRefNumber
  have := g.st0
  have := g.st1
  omega
end
end Go.Proofs.YtdfmapcnfficlaaGreatDoor

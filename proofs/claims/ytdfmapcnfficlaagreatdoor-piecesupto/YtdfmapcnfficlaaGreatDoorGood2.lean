/-
  What holds from look to look: declarations, references.
-/
import Derived.Test.YtdfmapcnfficlaaGreatDoorGood
import Derived.Lib.MapLaws
set_option linter.unusedSimpArgs false
set_option linter.unusedVariables false
namespace Go.Proofs.YtdfmapcnfficlaaGreatDoor
open Go Go.RowKit

theorem rank_back {q c : Int} (h : backOk q) : rank q c = 0 := by
  rcases h with h | h | h | h | h <;> (rw [h]; rfl)
theorem good_back {s t : TS} {c c' : Int} (g : Good s c) (hr : isRefSt s.state = true) (ht : t.state = s.rback) (ha : isValueSt s.rback = true → t.tag.atts ≠ []) (hb : t.base = s.base) (hd : t.declared = s.declared) : Good t c' := by
  rcases g.back hr with h | h | h | h | h
  · exact g.plain (by rw [ht, h]; exact plain_K _ rfl) (by rw [hb]; exact g.base) (by rw [hd]; exact g.decl)
  · exact g.plain (by rw [ht, h]; exact plain_K _ rfl) (by rw [hb]; exact g.base) (by rw [hd]; exact g.decl)
  all_goals exact g.atts (by rw [ht, h]; exact ⟨by decide, by decide, rfl⟩) (ha (by rw [h]; rfl)) (by rw [hb]; exact g.base) (by rw [hd]; exact g.decl)
/-- Another state of a reference. -/
theorem good_ref {s t : TS} {c c' : Int} (g : Good s c) (hr : isRefSt s.state = true) (ht : isRefSt t.state = true) (hn : NumOk t) (hc : t.rcome.length ≤ 8) (hk : t.rback = s.rback) (ha : isValueSt s.rback = true → t.tag.atts ≠ []) (hb : t.base = s.base) (hd : t.declared = s.declared) (hh : t.state = 34 → t.rcome.length ≤ 1) : Good t c' := by
  have h2 : 31 ≤ t.state ∧ t.state ≤ 35 := by simpa [isRefSt] using ht
  refine ⟨by omega, h2.2, by rw [hb]; exact g.base, by rw [hd]; exact g.decl, fun _ => hn, fun _ => hc, fun _ => by rw [hk]; exact g.back hr, fun _ hv => ha (by rw [← hk]; exact hv), fun h => ?_, fun h => by omega, hh⟩
  simp only [isAttSt, Bool.or_eq_true, beq_iff_eq] at h
  omega

theorem endNumber_atts {s : TS} {p : Int} (h : isValueSt s.rback = true → s.tag.atts ≠ []) (hv : isValueSt s.rback = true) : (endNumber s p).tag.atts ≠ [] := by
  unfold endNumber
  have h1 := addToTarget_atts (s := if (meaning s.rnum).2 = [] then s else wrongAt s (meaning s.rnum).2 p) (Lib.encodeRune (meaning s.rnum).1) (by split <;> exact h)
  apply h1
  rw [addToTarget_rback]
  split <;> exact hv
section
variable {s : TS} {c : Int}

theorem good_inRef (g : Good s c) (hst : s.state = 31) : Leaves s c (lookInRef s c) := by
  have hr : isRefSt s.state = true := by rw [hst]; rfl
  unfold lookInRef
  split
  · exact .inr ⟨rfl, good_ref g hr rfl (g.num hr) (g.come hr) rfl (g.val hr) rfl rfl (fun h => by cases h), by rw [hst]; exact (by decide : (2 : Nat) < 3)⟩
  · split
    · exact .inl ⟨rfl, fun _ c' => good_ref g hr rfl (g.num hr) (by show 1 ≤ 8; omega) rfl (g.val hr) rfl rfl (fun _ => Nat.le_refl 1)⟩
    · refine .inr ⟨rfl, good_back g hr rfl (fun hv => ?_) (fr_leaveAsItIs_base s) (fr_leaveAsItIs_declared s), ?_⟩
      · have := addToTarget_atts (s := s) ([38] ++ s.rcome) (g.val hr)
        rw [addToTarget_rback] at this
        exact this hv
      · rw [hst]
        show rank s.rback c < 3
        rw [rank_back (g.back hr)]
        decide

theorem good_inRefUnknown (g : Good s c) (hst : s.state = 33) : Leaves s c (lookInRefUnknown s c) := by
  have hr : isRefSt s.state = true := by rw [hst]; rfl
  have hrk : rank s.rback c < rank s.state c := by rw [hst, rank_back (g.back hr)]; exact (by decide : (0 : Nat) < 1)
  unfold lookInRefUnknown
  split
  · refine .inl ⟨rfl, fun _ c' => good_ref g hr (by rw [fr_addToTarget_state]; exact hr) ?_ (by rw [fr_addToTarget_rcome]; exact g.come hr) (fr_addToTarget_rback _ _) (fun hv => ?_) (fr_addToTarget_base _ _) (fr_addToTarget_declared _ _) (fun h => by rw [fr_addToTarget_state, hst] at h; cases h)⟩
    · have := g.num hr
      unfold NumOk at *
      rw [fr_addToTarget_rnum]
      exact this
    · have := addToTarget_atts (s := s) (Lib.encodeRune c) (g.val hr)
      rw [addToTarget_rback] at this
      exact this hv
  · split
    · exact .inr ⟨rfl, good_back g hr rfl (g.val hr) rfl rfl, hrk⟩
    · exact .inr ⟨rfl, good_back g hr rfl (g.val hr) rfl rfl, hrk⟩

theorem good_inRefHash (g : Good s c) (hst : s.state = 34) : Leaves s c (lookInRefHash s c) := by
  have hr : isRefSt s.state = true := by rw [hst]; rfl
  unfold lookInRefHash
  split
  · exact .inl ⟨rfl, fun _ c' => good_ref g hr rfl (g.num hr) (by have := len_rune c; have := g.hash hst; show (s.rcome ++ Lib.encodeRune c).length ≤ 8; simp; omega) rfl (g.val hr) rfl rfl (fun h => by cases h)⟩
  · exact .inr ⟨rfl, good_ref g hr rfl (g.num hr) (g.come hr) rfl (g.val hr) rfl rfl (fun h => by cases h), by rw [hst]; exact (by decide : (1 : Nat) < 2)⟩

theorem good_inRefNumber (g : Good s c) (hst : s.state = 35) : Leaves s c (lookInRefNumber s c) := by
  have hr : isRefSt s.state = true := by rw [hst]; rfl
  have hrk : rank s.rback c < rank s.state c := by rw [hst, rank_back (g.back hr)]; exact (by decide : (0 : Nat) < 1)
  unfold lookInRefNumber
  split
  · rename_i hd
    exact .inl ⟨rfl, fun _ c' => good_ref g hr (by exact hr) (addDigit_ok hd (g.num hr)) (g.come hr) rfl (g.val hr) rfl rfl (fun h => by rw [show (addDigit s c).state = s.state from rfl, hst] at h; cases h)⟩
  · split
    · refine .inr ⟨rfl, good_back g hr rfl (fun hv => ?_) (fr_leaveAsItIs_base _) (fr_leaveAsItIs_declared _), hrk⟩
      have := addToTarget_atts (s := wrong s [100, 105, 103, 105, 116, 115]) ([38] ++ s.rcome) (g.val hr)
      rw [addToTarget_rback] at this
      exact this hv
    · split
      · refine .inl ⟨rfl, fun _ c' => good_back g hr rfl (fun hv => endNumber_atts (g.val hr) hv) (fr_endNumber_base _ _) (fr_endNumber_declared _ _)⟩
      · refine .inr ⟨rfl, good_back g hr rfl (fun hv => endNumber_atts (s := wrong s [115, 101, 109, 105, 99, 111, 108, 111, 110]) (g.val hr) hv) ((fr_endNumber_base _ _).trans rfl) ((fr_endNumber_declared _ _).trans rfl), hrk⟩

theorem openName_atts' {s : TS} {n : Str × Str} {x : Str} {nx : Int} (h : isValueSt s.rback = true → s.tag.atts ≠ []) (hv : isValueSt s.rback = true) : (addToTarget (openName s n x nx) x).tag.atts ≠ [] := by
  have := addToTarget_atts (s := openName s n x nx) x (openName_atts n x nx h)
  apply this
  rw [addToTarget_rback, openName_rback]
  exact hv
theorem target_atts {s : TS} {l : Str} (h : isValueSt s.rback = true → s.tag.atts ≠ []) (hv : isValueSt s.rback = true) : (addToTarget s l).tag.atts ≠ [] := by
  have := addToTarget_atts (s := s) l h
  apply this
  rw [addToTarget_rback]
  exact hv
theorem partOf_len {x y : Str} (h : partOf x y = true) : x.length < y.length ∨ x.length ≤ y.length := by
  simp only [partOf, Bool.and_eq_true] at h
  have := (List.isPrefixOf_iff_prefix.1 h.2).length_le
  exact .inr this
theorem wait_len {x : Str} (h : (findName x).2 = true) : x.length ≤ 7 := by
  obtain ⟨n, hn, hp⟩ := findFrom_wait x namesT ([], []) (findName x).1 (by rw [← h]; rfl)
  have h1 := names_len n hn
  rcases partOf_len hp with h2 | h2 <;> omega

theorem good_inRefName (g : Good s c) (hst : s.state = 32) : Leaves s c (lookInRefName s c) := by
  have hr : isRefSt s.state = true := by rw [hst]; rfl
  have hrk : rank s.rback c < rank s.state c := by rw [hst, rank_back (g.back hr)]; exact (by decide : (0 : Nat) < 2)
  unfold lookInRefName
  split
  · rename_i hw
    exact .inl ⟨rfl, fun _ c' => good_ref g hr (by exact hr) (g.num hr) (by have := wait_len hw; show (s.rcome ++ Lib.encodeRune c).length ≤ 8; omega) rfl (g.val hr) rfl rfl (fun h => by rw [show (setCome s (s.rcome ++ Lib.encodeRune c)).state = s.state from rfl, hst] at h; cases h)⟩
  · split
    · refine .inr ⟨rfl, good_ref g hr rfl ?_ (by rw [show ({ addToTarget s (38 :: s.rcome) with state := 33 } : TS).rcome = (addToTarget s (38 :: s.rcome)).rcome from rfl, fr_addToTarget_rcome]; exact g.come hr) (fr_addToTarget_rback _ _) (fun hv => target_atts (g.val hr) hv) (fr_addToTarget_base _ _) (fr_addToTarget_declared _ _) (fun h => by cases h), by rw [hst]; exact (by decide : (1 : Nat) < 2)⟩
      have := g.num hr
      unfold NumOk at *
      rw [show ({ addToTarget s (38 :: s.rcome) with state := 33 } : TS).rnum = (addToTarget s (38 :: s.rcome)).rnum from rfl, fr_addToTarget_rnum]
      exact this
    · split
      · exact .inl ⟨rfl, fun _ c' => good_back g hr rfl (fun hv => target_atts (g.val hr) hv) (fr_addToTarget_base _ _) (fr_addToTarget_declared _ _)⟩
      · exact .inr ⟨rfl, good_back g hr rfl (fun hv => openName_atts' (g.val hr) hv) (fr_endOpenName_base _ _ _) (fr_endOpenName_declared _ _ _), hrk⟩

theorem lowC_len (r : Nat) : (Lib.encodeRune (lowC r)).length = (Lib.encodeRune (r : Int)).length := by
  unfold lowC
  split
  · rename_i h
    unfold Lib.encodeRune
    rw [Lib.encodeRuneZ_one (by omega) (by omega), Lib.encodeRuneZ_one (by omega) (by omega)]
    rfl
  · rfl
theorem lowS_ge : ∀ (n : Nat) (x : Str), x.length ≤ n → x.length ≤ (lowS x).length
  | 0, x, h => by omega
  | n + 1, x, h => by
    by_cases hx : x = []
    · subst hx; simp
    · have h1 := Lib.mapD_step lowC x hx
      have hpos : (0 : Int) ≤ lowC (Lib.decodeL x).1 := by unfold lowC; split <;> omega
      rw [if_pos hpos] at h1
      have hk := Lib.width_pos ⟨x.toArray⟩ 0
      have hk2 := Lib.decodeL_le x hx
      have ih := lowS_ge n (x.drop (Lib.decodeL x).2) (by rw [List.length_drop]; have : 1 ≤ (Lib.decodeL x).2 := hk; omega)
      show x.length ≤ (Lib.mapD lowC x).length
      rw [h1, List.length_append, lowC_len]
      unfold lowS at ih
      rw [List.length_drop] at ih
      by_cases hv : (Lib.decodeL x).1 = 65533 ∧ (Lib.decodeL x).2 = 1
      · rw [hv.1]
        have : (Lib.encodeRune ((65533 : Nat) : Int)).length = 3 := by decide
        omega
      · have h2 := Lib.encode_decode x hx hv
        rw [h2, List.length_take]
        omega
theorem mayDecl_len {x : Str} (h : mayDecl x = true) : x.length ≤ 7 := by
  simp only [mayDecl, Bool.or_eq_true] at h
  have hl := lowS_ge x.length x (Nat.le_refl _)
  rcases h with (h | h) | h
  · have := partOf_len h; simp at this; omega
  · have := partOf_len h; simp at this; omega
  · have := partOf_len h; simp at this; omega

theorem good_inDecl (g : Good s c) (hst : s.state = 18) : Leaves s c (lookInDecl s c) := by
  unfold lookInDecl
  split
  · rename_i hm
    exact .inl ⟨rfl, fun _ c' => g.plain (by rw [show ({ s with declared := s.declared ++ Lib.encodeRune c } : TS).state = s.state from rfl, hst]; exact plain_K _ rfl) g.base (by have := mayDecl_len hm; show (s.declared ++ Lib.encodeRune c).length ≤ 8; omega)⟩
  · repeat' split
    · exact .inl ⟨rfl, fun _ c' => g.plain (plain_K _ rfl) g.base (Nat.zero_le _)⟩
    · exact .inl ⟨rfl, fun _ c' => g.plain (plain_K _ rfl) g.base (Nat.zero_le _)⟩
    · exact .inl ⟨rfl, fun _ c' => g.plain (plain_K _ rfl) g.base (Nat.zero_le _)⟩
    · exact .inr ⟨rfl, g.plain (plain_K _ rfl) g.base (Nat.zero_le _), by rw [hst]; exact (by decide : (0 : Nat) < 1)⟩
end
end Go.Proofs.YtdfmapcnfficlaaGreatDoor

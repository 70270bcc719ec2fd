/-
  References: small functions.
-/
import Derived.Test.YtdfmapcnfficlaaGreatDoorTarget
import Derived.Laws.Concat
set_option linter.unusedSimpArgs false
set_option linter.unusedVariables false
namespace Go.Proofs.YtdfmapcnfficlaaGreatDoor
open Go Go.RowKit
section
variable {w0 : World} {own0 : Nat → Prop} {b : Nat} {s : TS} {ex : List Item} {w : World} {R : Regs}

theorem cat_run (x y : Str) (w : World) (h : x.length + y.length ≤ lim) : (Op.stringOp .add ⟨x.toArray⟩ ⟨y.toArray⟩).run Tryz.prog w = .ok (.string ⟨(x ++ y).toArray⟩) w := by
  rw [run_string_add_sum w _ _ (by unfold lim at h; simp [ByteArray.size]; omega), ByteArray.mk_append_mk]

set_option maxHeartbeats 800000 in
set_option maxRecDepth 1000000 in
theorem addToTarget_text (l : Str) (hv : isValueSt s.rback = false) (h : Tk w0 own0 b s ex w) (hs : sz s + l.length ≤ lim) :
    Calls Tryz.prog 214 #[.pointer (some ⟨b, 0, none⟩), .string ⟨l.toArray⟩] w fun e w' => e = .returned (.tuple #[]) ∧ Tk w0 own0 b (addToTarget s l) ex w' := by
  rw [addToTarget, if_neg (by rw [hv]; decide)]
  obtain ⟨i0, hi, hz0, hz1, hz2⟩ := info_parts Tryz.infoByte
  have HV := hide (targetIsValue_does h)
  rw [hv] at HV
  obtain ⟨R, hR⟩ := h.reg
  have c1 := text_cell hR
  have f1 := hR.1.frozen
  have X1 := hide (text_row hR)
  have Y1 := hide (And.intro (text_max (s := s) (l := l) hs) (text_max' (s := s) (l := l) hs))
  clear hs h
  go_enter Tryz.func214, Tryz.ntmps214
  go_wp2_with fail
  refine (unhide HV).mono ?_
  rintro e w1 ⟨rfl, rfl⟩
  go_wp2_with (at_builtin; refine wpList_append_mine_str _ rfl _ _ 74 9 rfl 5 i0 Tryz.underlying74 Tryz.underlying9 hi hz0 hz1 hz2 R.text.a s.text.length R.text.cap (byteCells s.text) rfl (unhide X1) ⟨l.toArray⟩ rfl (unhide Y1).1 (unhide Y1).2 ?_)
  intro ao1 cap1 w2 hown hgrow hfresh
  obtain ⟨hself, h1⟩ := text_grown hR l ao1 cap1 (by simpa using hown) hgrow hfresh
  have dc := cell_of_self hself 8
  have df := frozen_of_self hself
  simp only [cellsOf] at dc
  clear hown hgrow hfresh
  go_wp2
  try simp only [Exit.inBlock, Exit.then]
  refine bodyPost_ret (results_none rfl _ _ _) rfl ?_
  exact ⟨rfl, h1⟩

theorem addToTarget_does (l : Str) (hat : isValueSt s.rback = true → s.tag.atts ≠ []) (h : Tk w0 own0 b s ex w) (hs : sz s + 4 * l.length + 8 ≤ lim) :
    Calls Tryz.prog 214 #[.pointer (some ⟨b, 0, none⟩), .string ⟨l.toArray⟩] w fun e w' => e = .returned (.tuple #[]) ∧ Tk w0 own0 b (addToTarget s l) ex w' := by
  cases hv : isValueSt s.rback
  · exact addToTarget_text l hv h (by omega)
  · exact addToTarget_value l hv (hat hv) h hs

theorem sz_addRunes (t : ByteArray) : ∀ (f pos : Nat) (s : TS), sz (addRunes t f pos s) ≤ sz s + 4 * f
  | 0, _, s => by simp [addRunes]
  | f + 1, pos, s => by
    rw [addRunes]
    split
    · have h1 := sz_addRunes t f (pos + (Utf8.decode t pos).2) (addToValue s (Utf8.decode t pos).1)
      have h2 := sz_addToValue s (Utf8.decode t pos).1
      omega
    · omega
theorem sz_addToTarget (s : TS) (l : Str) : sz (addToTarget s l) ≤ sz s + 4 * l.length := by
  unfold addToTarget
  split
  · exact sz_addRunes _ _ _ _
  · rw [sz_addText]; omega
theorem addRunes_rback (t : ByteArray) : ∀ (f pos : Nat) (s : TS), (addRunes t f pos s).rback = s.rback
  | 0, _, s => rfl
  | f + 1, pos, s => by
    rw [addRunes]
    split
    · rw [addRunes_rback t f]; rfl
    · rfl
theorem addToTarget_rback (s : TS) (l : Str) : (addToTarget s l).rback = s.rback := by
  unfold addToTarget
  split
  · exact addRunes_rback _ _ _ _
  · rfl
theorem addRunes_atts (t : ByteArray) : ∀ (f pos : Nat) (s : TS), s.tag.atts ≠ [] → (addRunes t f pos s).tag.atts ≠ []
  | 0, _, s, h => h
  | f + 1, pos, s, h => by
    rw [addRunes]
    split
    · exact addRunes_atts t f _ _ (atts_addToValue _ h)
    · exact h
theorem addToTarget_atts {s : TS} (l : Str) (h : isValueSt s.rback = true → s.tag.atts ≠ []) : isValueSt (addToTarget s l).rback = true → (addToTarget s l).tag.atts ≠ [] := by
  rw [addToTarget_rback]
  intro hv
  rw [addToTarget, if_pos hv]
  exact addRunes_atts _ _ _ _ (h hv)

def leaveAsItIs (s : TS) : TS := { addToTarget s ([38] ++ s.rcome) with state := s.rback }

set_option maxHeartbeats 800000 in
set_option maxRecDepth 1000000 in
theorem leaveAsItIs_does (hat : isValueSt s.rback = true → s.tag.atts ≠ []) (h : Tk w0 own0 b s ex w) (hs : sz s + 4 * s.rcome.length + 16 ≤ lim) :
    Calls Tryz.prog 219 #[.pointer (some ⟨b, 0, none⟩)] w fun e w' => e = .returned (.int .i64 1) ∧ Tk w0 own0 b (leaveAsItIs s) ex w' := by
  obtain ⟨R, hR⟩ := h.reg
  have c1 := hR.1.cell 21
  simp only [cellsOf] at c1
  have HA := hide (addToTarget_does ([38] ++ s.rcome) hat h (by simp; omega))
  have hcat := cat_run [38] s.rcome w (by simp; unfold sz at hs; omega)
  clear hs h
  go_enter Tryz.func219, Tryz.ntmps219
  go_wp2_with fail
  refine (unhide HA).mono ?_
  rintro e w1 ⟨rfl, h1⟩
  obtain ⟨R1, hR1⟩ := Tk.reg h1
  have d1 := hR1.1.cell 20
  simp only [cellsOf, addToTarget_rback] at d1
  go_wp2_with fail
  refine (again_does s.rback h1).mono ?_
  rintro e w2 ⟨rfl, h2⟩
  go_wp2
  go_ret
  exact ⟨rfl, h2⟩

set_option maxHeartbeats 800000 in
set_option maxRecDepth 1000000 in
theorem meaningOf_does (n : Int) (w : World) (L : Laid w) (h0 : 0 ≤ n) (h1 : n ≤ 17825791) :
    Calls Tryz.prog 252 #[.int .i32 n] w fun e w' => e = .returned (.tuple #[.int .i32 (meaning n).1, .string ⟨(meaning n).2.toArray⟩]) ∧ w' = w := by
  by_cases n0 : n = 0
  · subst n0
    go_enter Tryz.func252, Tryz.ntmps252
    go_wp2
    go_ret2
    exact ⟨rfl, rfl⟩
  have e0 : (n == 0) = false := beq_eq_false_iff_ne.2 n0
  by_cases n1 : 1114111 < n
  · have hm : meaning n = (65533, [114, 97, 110, 103, 101]) := by simp [meaning, n0, n1]
    rw [hm]
    clear hm
    go_enter Tryz.func252, Tryz.ntmps252
    go_wp2
    go_ret2
    exact ⟨rfl, rfl⟩
  have n1' : n ≤ 1114111 := by omega
  have HU := hide (isSurrogate_does n w)
  have HN := hide (isNone_does n w h0 n1')
  have HC := hide (isControl_does n w)
  cases hs : isSurC n
  · cases hn : isNoneC n
    · cases hc : isCtlC n
      · have hm : meaning n = (n, []) := by simp [meaning, n0, n1, hs, hn, hc]
        rw [hm]
        rw [hs] at HU
        rw [hn] at HN
        rw [hc] at HC
        clear hm L
        go_enter Tryz.func252, Tryz.ntmps252
        go_wp2_with (first
          | (go_at_call 259; refine (unhide HU).mono ?_; rintro e w' ⟨rfl, rfl⟩)
          | (go_at_call 260; refine (unhide HN).mono ?_; rintro e w' ⟨rfl, rfl⟩)
          | (go_at_call 261; refine (unhide HC).mono ?_; rintro e w' ⟨rfl, rfl⟩))
        go_ret2
        exact ⟨rfl, rfl⟩
      · have hm : meaning n = (ctlC n, [99, 111, 110, 116, 114, 111, 108]) := by simp [meaning, n0, n1, hs, hn, hc]
        rw [hm]
        rw [hs] at HU
        rw [hn] at HN
        rw [hc] at HC
        have h159 : n ≤ 159 := by
          simp only [isCtlC, Bool.or_eq_true, Bool.and_eq_true, decide_eq_true_eq] at hc
          omega
        have HM := hide (meaningOfControl_does n w L h0 h159)
        clear hm L
        go_enter Tryz.func252, Tryz.ntmps252
        go_wp2_with (first
          | (go_at_call 259; refine (unhide HU).mono ?_; rintro e w' ⟨rfl, rfl⟩)
          | (go_at_call 260; refine (unhide HN).mono ?_; rintro e w' ⟨rfl, rfl⟩)
          | (go_at_call 261; refine (unhide HC).mono ?_; rintro e w' ⟨rfl, rfl⟩)
          | (go_at_call 262; refine (unhide HM).mono ?_; rintro e w' ⟨rfl, rfl⟩))
        go_ret2
        exact ⟨rfl, rfl⟩
    · have hm : meaning n = (n, [110, 111, 110, 101]) := by simp [meaning, n0, n1, hs, hn]
      rw [hm]
      rw [hs] at HU
      rw [hn] at HN
      clear hm L HC
      go_enter Tryz.func252, Tryz.ntmps252
      go_wp2_with (first
        | (go_at_call 259; refine (unhide HU).mono ?_; rintro e w' ⟨rfl, rfl⟩)
        | (go_at_call 260; refine (unhide HN).mono ?_; rintro e w' ⟨rfl, rfl⟩))
      go_ret2
      exact ⟨rfl, rfl⟩
  · have hm : meaning n = (65533, [115, 117, 114, 114, 111, 103, 97, 116, 101]) := by simp [meaning, n0, n1, hs]
    rw [hm]
    rw [hs] at HU
    clear hm L HC HN
    go_enter Tryz.func252, Tryz.ntmps252
    go_wp2_with (go_at_call 259; refine (unhide HU).mono ?_; rintro e w' ⟨rfl, rfl⟩)
    go_ret2
    exact ⟨rfl, rfl⟩
end
end Go.Proofs.YtdfmapcnfficlaaGreatDoor

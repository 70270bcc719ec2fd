/-
  What goes to the target of a reference.
  References: small functions.
-/
import Derived.Test.YtdfmapcnfficlaaGreatDoorB18
import Derived.Test.YtdfmapcnfficlaaGreatDoorB19
import Derived.Lib.TrimU
import Derived.Laws.Concat
set_option linter.unusedSimpArgs false
set_option linter.unusedVariables false
namespace Go.Proofs.YtdfmapcnfficlaaGreatDoor
open Go Go.RowKit
section
variable {w0 : World} {own0 : Nat → Prop} {b : Nat} {s : TS} {ex : List Item} {w : World} {R : Regs}

def isValueSt (q : Int) : Bool := q == 13 || q == 14 || q == 15

set_option maxHeartbeats 800000 in
set_option maxRecDepth 1000000 in
theorem targetIsValue_does (h : Tk w0 own0 b s ex w) :
    Calls Tryz.prog 250 #[.pointer (some ⟨b, 0, none⟩)] w fun e w' => e = .returned (.bool (isValueSt s.rback)) ∧ w' = w := by
  obtain ⟨R, hR⟩ := h.reg
  have c0 := hR.1.cell 20
  simp only [cellsOf] at c0
  clear hR h
  generalize s.rback = q at *
  by_cases h1 : q = 13
  · subst h1
    go_enter Tryz.func250, Tryz.ntmps250
    go_wp2
    go_ret
    exact ⟨rfl, rfl⟩
  by_cases h2 : q = 14
  · subst h2
    go_enter Tryz.func250, Tryz.ntmps250
    go_wp2
    go_ret
    exact ⟨rfl, rfl⟩
  by_cases h3 : q = 15
  · subst h3
    go_enter Tryz.func250, Tryz.ntmps250
    go_wp2
    go_ret
    exact ⟨rfl, rfl⟩
  have e1 : (q == 13) = false := beq_eq_false_iff_ne.2 h1
  have e2 : (q == 14) = false := beq_eq_false_iff_ne.2 h2
  have e3 : (q == 15) = false := beq_eq_false_iff_ne.2 h3
  go_enter Tryz.func250, Tryz.ntmps250
  go_wp2
  go_ret
  exact ⟨by simp [isValueSt, e1, e2, e3], rfl⟩

def addRunes (t : ByteArray) : Nat → Nat → TS → TS
  | 0, _, s => s
  | f + 1, pos, s => if pos < t.size then addRunes t f (pos + (Utf8.decode t pos).2) (addToValue s (Utf8.decode t pos).1) else s
theorem addRunes_end (t : ByteArray) (f pos : Nat) (s : TS) (h : ¬ pos < t.size) : addRunes t f pos s = s := by
  cases f <;> simp [addRunes, h]

def addToTarget (s : TS) (l : Str) : TS := if isValueSt s.rback = true then addRunes ⟨l.toArray⟩ l.length 0 s else addText s l

theorem attsz_upd (f : Att → Att) (n : Nat) (hf : ∀ a, (f a).name.length + (f a).value.length ≤ a.name.length + a.value.length + n) : ∀ l : List Att, attsz (updLast f l) ≤ attsz l + n
  | [] => by simp [updLast, attsz]
  | [a] => by have := hf a; simp [updLast, attsz]; omega
  | a :: b :: r => by have := attsz_upd f n hf (b :: r); simp only [updLast, attsz] at *; omega
theorem updLast_length (f : Att → Att) : ∀ l : List Att, (updLast f l).length = l.length
  | [] => rfl
  | [a] => rfl
  | a :: b :: r => by have := updLast_length f (b :: r); simp only [updLast, List.length_cons] at *; omega
theorem sz_addToValue (s : TS) (c : Int) : sz (addToValue s c) ≤ sz s + 4 := by
  have h1 := attsz_upd (fun a => if a.twice then a else { a with value := a.value ++ Lib.encodeRune c }) 4 (fun a => by split; omega; have := len_rune c; simp; omega) s.tag.atts
  have h2 := updLast_length (fun a => if a.twice then a else { a with value := a.value ++ Lib.encodeRune c }) s.tag.atts
  simp only [sz, addToValue] at *
  omega
theorem atts_addToValue {s : TS} (c : Int) (h : s.tag.atts ≠ []) : (addToValue s c).tag.atts ≠ [] := by
  intro e
  have := updLast_length (fun a => if a.twice then a else { a with value := a.value ++ Lib.encodeRune c }) s.tag.atts
  simp only [addToValue] at e
  rw [e] at this
  exact h (List.eq_nil_of_length_eq_zero this.symm)

set_option maxHeartbeats 2000000 in
set_option maxRecDepth 1000000 in
theorem addToTarget_value (l : Str) (hv : isValueSt s.rback = true) (hat : s.tag.atts ≠ []) (h : Tk w0 own0 b s ex w) (hs : sz s + 4 * l.length + 8 ≤ lim) :
    Calls Tryz.prog 214 #[.pointer (some ⟨b, 0, none⟩), .string ⟨l.toArray⟩] w fun e w' => e = .returned (.tuple #[]) ∧ Tk w0 own0 b (addToTarget s l) ex w' := by
  rw [addToTarget, if_pos hv]
  have hsz : (⟨l.toArray⟩ : ByteArray).size = l.length := by simp [ByteArray.size]
  rw [← hsz] at hs ⊢
  generalize (⟨l.toArray⟩ : ByteArray) = t at *
  have HV := hide (targetIsValue_does h)
  rw [hv] at HV
  have HT := hide h
  have HS := hide hs
  have hge := h.2.size
  clear h hs hsz
  go_enter Tryz.func214, Tryz.ntmps214
  go_wp2_with (go_at_call 250; refine (unhide HV).mono ?_; rintro e w1 ⟨rfl, rfl⟩)
  go_loopg [] t.size (fun gf wx => ∃ (pos : Nat) (s1 : TS), wx.heap[w1.heap.size]? = some (.stringIter t pos) ∧ Tk w0 own0 b s1 ex wx ∧ s1.tag.atts ≠ [] ∧ sz s1 + 4 * gf + 8 ≤ lim ∧ addRunes t gf pos s1 = addRunes t t.size 0 s ∧ t.size ≤ pos + gf)
  case atStart => exact ⟨0, s, World.iter_heap w1 t 0, tk_alloc (unhide HT) _, hat, unhide HS, rfl, by omega⟩
  case round =>
    obtain ⟨pos, s1, hit, hT, hat1, hsz, hrun, hfu⟩ := hrel
    by_cases hps : pos < t.size
    · obtain ⟨g', rfl⟩ : ∃ g', gk = g' + 1 := ⟨gk - 1, by omega⟩
      have hnx : ∀ ty, (Instr.next (.pointer (some ⟨w1.heap.size, 0, none⟩)) true ty).run Tryz.prog wr = _ := fun ty => Lib.run_next_any_at wr w1.heap.size t pos ty hit hps
      have hwd := Lib.width_pos t pos
      have hrl := Lib.rune_le t pos
      simp only [addRunes, hps, if_true] at hrun
      obtain ⟨c, hc⟩ : ∃ c, (Utf8.decode t pos).1 = c := ⟨_, rfl⟩
      obtain ⟨K, hK⟩ : ∃ K, (Utf8.decode t pos).2 = K := ⟨_, rfl⟩
      rw [hc, hK] at hnx hrun
      rw [hK] at hwd
      rw [hc] at hrl
      have hit2 := Lib.iterAt_heap wr w1.heap.size t pos (pos + K) hit
      have hT2 := (hT.other hit hge (iterAt_parts wr w1.heap.size t (pos + K)).1 (iterAt_parts wr w1.heap.size t (pos + K)).2)
      generalize wr.iterAt w1.heap.size t (pos + K) = W at *
      have hT3 := hT2.rebase hit2
      have HA := hide (addToValue_does c (by constructor <;> omega) hat1 hT3 (by omega))
      have HG := hide (And.intro hT2.2 (And.intro hit2 (And.intro hrun (And.intro hfu (And.intro hsz (And.intro (sz_addToValue s1 c) (atts_addToValue c hat1)))))))
      clear hT hT2 hT3 hrun hfu hsz hit2
      go_wp2_with (go_at_call 201; refine (unhide HA).mono ?_; rintro e w3 ⟨rfl, h3⟩)
      obtain ⟨g1, g2, g3, g4, g5, g6, g7⟩ := unhide HG
      go_roundg g'
      case measure => omega
      case rel => exact ⟨pos + K, addToValue s1 c, (h3.2.block _ (Array.getElem?_eq_some_iff.1 g2).1 (fun hh => hh.2 rfl)).trans g2, h3.unbase g1, g7, by omega, g3, by omega⟩
    · have hnx : ∀ ty, (Instr.next (.pointer (some ⟨w1.heap.size, 0, none⟩)) true ty).run Tryz.prog wr = _ := fun ty => Lib.run_next_end_at wr w1.heap.size t pos ty hit hps
      rw [addRunes_end t gk pos s1 hps] at hrun
      subst hrun
      have HT2 := hide hT
      clear hT
      go_wp2
      go_end0
      exact ⟨rfl, unhide HT2⟩
end
end Go.Proofs.YtdfmapcnfficlaaGreatDoor

set_option linter.unusedSimpArgs false
set_option linter.unusedVariables false
namespace Go.Proofs.YtdfmapcnfficlaaGreatDoor
open Go Go.RowKit
section
variable {w0 : World} {own0 : Nat → Prop} {b : Nat} {s : TS} {ex : List Item} {w : World} {R : Regs}

theorem cat_run (x y : Str) (w : World) (h : x.length + y.length ≤ lim) : (Op.stringOp .add ⟨x.toArray⟩ ⟨y.toArray⟩).run Tryz.prog w = .ok (.string ⟨(x ++ y).toArray⟩) w := by
  rw [run_string_add_sum w _ _ (by unfold lim at h; simp [ByteArray.size]; omega), ByteArray.mk_append_mk]

set_option maxHeartbeats 800000 in
set_option maxRecDepth 1000000 in
theorem addToTarget_text (l : Str) (hv : isValueSt s.rback = false) (h : Tk w0 own0 b s ex w) (hs : sz s + l.length ≤ lim) :
    Calls Tryz.prog 214 #[.pointer (some ⟨b, 0, none⟩), .string ⟨l.toArray⟩] w fun e w' => e = .returned (.tuple #[]) ∧ Tk w0 own0 b (addToTarget s l) ex w' := by
  rw [addToTarget, if_neg (by rw [hv]; decide)]
  obtain ⟨i0, hi, hz0, hz1, hz2⟩ := info_parts Tryz.infoByte
  have HV := hide (targetIsValue_does h)
  rw [hv] at HV
  obtain ⟨R, hR⟩ := h.reg
  have c1 := text_cell hR
  have f1 := hR.1.frozen
  have X1 := hide (text_row hR)
  have Y1 := hide (And.intro (text_max (s := s) (l := l) hs) (text_max' (s := s) (l := l) hs))
  clear hs h
  go_enter Tryz.func214, Tryz.ntmps214
  go_wp2_with fail
  refine (unhide HV).mono ?_
  rintro e w1 ⟨rfl, rfl⟩
  go_wp2_with (at_builtin; refine wpList_append_mine_str _ rfl _ _ 74 9 rfl 5 i0 Tryz.underlying74 Tryz.underlying9 hi hz0 hz1 hz2 R.text.a s.text.length R.text.cap (byteCells s.text) rfl (unhide X1) ⟨l.toArray⟩ rfl (unhide Y1).1 (unhide Y1).2 ?_)
  intro ao1 cap1 w2 hown hgrow hfresh
  obtain ⟨hself, h1⟩ := text_grown hR l ao1 cap1 (by simpa using hown) hgrow hfresh
  have dc := cell_of_self hself 8
  have df := frozen_of_self hself
  simp only [cellsOf] at dc
  clear hown hgrow hfresh
  go_wp2
  try simp only [Exit.inBlock, Exit.then]
  refine bodyPost_ret (results_none rfl _ _ _) rfl ?_
  exact ⟨rfl, h1⟩

theorem addToTarget_does (l : Str) (hat : isValueSt s.rback = true → s.tag.atts ≠ []) (h : Tk w0 own0 b s ex w) (hs : sz s + 4 * l.length + 8 ≤ lim) :
    Calls Tryz.prog 214 #[.pointer (some ⟨b, 0, none⟩), .string ⟨l.toArray⟩] w fun e w' => e = .returned (.tuple #[]) ∧ Tk w0 own0 b (addToTarget s l) ex w' := by
  cases hv : isValueSt s.rback
  · exact addToTarget_text l hv h (by omega)
  · exact addToTarget_value l hv (hat hv) h hs

theorem sz_addRunes (t : ByteArray) : ∀ (f pos : Nat) (s : TS), sz (addRunes t f pos s) ≤ sz s + 4 * f
  | 0, _, s => by simp [addRunes]
  | f + 1, pos, s => by
    rw [addRunes]
    split
    · have h1 := sz_addRunes t f (pos + (Utf8.decode t pos).2) (addToValue s (Utf8.decode t pos).1)
      have h2 := sz_addToValue s (Utf8.decode t pos).1
      omega
    · omega
theorem sz_addToTarget (s : TS) (l : Str) : sz (addToTarget s l) ≤ sz s + 4 * l.length := by
  unfold addToTarget
  split
  · exact sz_addRunes _ _ _ _
  · rw [sz_addText]; omega
theorem addRunes_rback (t : ByteArray) : ∀ (f pos : Nat) (s : TS), (addRunes t f pos s).rback = s.rback
  | 0, _, s => rfl
  | f + 1, pos, s => by
    rw [addRunes]
    split
    · rw [addRunes_rback t f]; rfl
    · rfl
theorem addToTarget_rback (s : TS) (l : Str) : (addToTarget s l).rback = s.rback := by
  unfold addToTarget
  split
  · exact addRunes_rback _ _ _ _
  · rfl
theorem addRunes_atts (t : ByteArray) : ∀ (f pos : Nat) (s : TS), s.tag.atts ≠ [] → (addRunes t f pos s).tag.atts ≠ []
  | 0, _, s, h => h
  | f + 1, pos, s, h => by
    rw [addRunes]
    split
    · exact addRunes_atts t f _ _ (atts_addToValue _ h)
    · exact h
theorem addToTarget_atts {s : TS} (l : Str) (h : isValueSt s.rback = true → s.tag.atts ≠ []) : isValueSt (addToTarget s l).rback = true → (addToTarget s l).tag.atts ≠ [] := by
  rw [addToTarget_rback]
  intro hv
  rw [addToTarget, if_pos hv]
  exact addRunes_atts _ _ _ _ (h hv)

def leaveAsItIs (s : TS) : TS := { addToTarget s ([38] ++ s.rcome) with state := s.rback }

set_option maxHeartbeats 800000 in
set_option maxRecDepth 1000000 in
theorem leaveAsItIs_does (hat : isValueSt s.rback = true → s.tag.atts ≠ []) (h : Tk w0 own0 b s ex w) (hs : sz s + 4 * s.rcome.length + 16 ≤ lim) :
    Calls Tryz.prog 219 #[.pointer (some ⟨b, 0, none⟩)] w fun e w' => e = .returned (.int .i64 1) ∧ Tk w0 own0 b (leaveAsItIs s) ex w' := by
  obtain ⟨R, hR⟩ := h.reg
  have c1 := hR.1.cell 21
  simp only [cellsOf] at c1
  have HA := hide (addToTarget_does ([38] ++ s.rcome) hat h (by simp; omega))
  have hcat := cat_run [38] s.rcome w (by simp; unfold sz at hs; omega)
  clear hs h
  go_enter Tryz.func219, Tryz.ntmps219
  go_wp2_with fail
  refine (unhide HA).mono ?_
  rintro e w1 ⟨rfl, h1⟩
  obtain ⟨R1, hR1⟩ := Tk.reg h1
  have d1 := hR1.1.cell 20
  simp only [cellsOf, addToTarget_rback] at d1
  go_wp2_with fail
  refine (again_does s.rback h1).mono ?_
  rintro e w2 ⟨rfl, h2⟩
  go_wp2
  go_ret
  exact ⟨rfl, h2⟩

set_option maxHeartbeats 800000 in
set_option maxRecDepth 1000000 in
theorem meaningOf_does (n : Int) (w : World) (L : Laid w) (h0 : 0 ≤ n) (h1 : n ≤ 17825791) :
    Calls Tryz.prog 252 #[.int .i32 n] w fun e w' => e = .returned (.tuple #[.int .i32 (meaning n).1, .string ⟨(meaning n).2.toArray⟩]) ∧ w' = w := by
  by_cases n0 : n = 0
  · subst n0
    go_enter Tryz.func252, Tryz.ntmps252
    go_wp2
    go_ret2
    exact ⟨rfl, rfl⟩
  have e0 : (n == 0) = false := beq_eq_false_iff_ne.2 n0
  by_cases n1 : 1114111 < n
  · have hm : meaning n = (65533, [114, 97, 110, 103, 101]) := by simp [meaning, n0, n1]
    rw [hm]
    clear hm
    go_enter Tryz.func252, Tryz.ntmps252
    go_wp2
    go_ret2
    exact ⟨rfl, rfl⟩
  have n1' : n ≤ 1114111 := by omega
  have HU := hide (isSurrogate_does n w)
  have HN := hide (isNone_does n w h0 n1')
  have HC := hide (isControl_does n w)
  cases hs : isSurC n
  · cases hn : isNoneC n
    · cases hc : isCtlC n
      · have hm : meaning n = (n, []) := by simp [meaning, n0, n1, hs, hn, hc]
        rw [hm]
        rw [hs] at HU
        rw [hn] at HN
        rw [hc] at HC
        clear hm L
        go_enter Tryz.func252, Tryz.ntmps252
        go_wp2_with (first
          | (go_at_call 259; refine (unhide HU).mono ?_; rintro e w' ⟨rfl, rfl⟩)
          | (go_at_call 260; refine (unhide HN).mono ?_; rintro e w' ⟨rfl, rfl⟩)
          | (go_at_call 261; refine (unhide HC).mono ?_; rintro e w' ⟨rfl, rfl⟩))
        go_ret2
        exact ⟨rfl, rfl⟩
      · have hm : meaning n = (ctlC n, [99, 111, 110, 116, 114, 111, 108]) := by simp [meaning, n0, n1, hs, hn, hc]
        rw [hm]
        rw [hs] at HU
        rw [hn] at HN
        rw [hc] at HC
        have h159 : n ≤ 159 := by
          simp only [isCtlC, Bool.or_eq_true, Bool.and_eq_true, decide_eq_true_eq] at hc
          omega
        have HM := hide (meaningOfControl_does n w L h0 h159)
        clear hm L
        go_enter Tryz.func252, Tryz.ntmps252
        go_wp2_with (first
          | (go_at_call 259; refine (unhide HU).mono ?_; rintro e w' ⟨rfl, rfl⟩)
          | (go_at_call 260; refine (unhide HN).mono ?_; rintro e w' ⟨rfl, rfl⟩)
          | (go_at_call 261; refine (unhide HC).mono ?_; rintro e w' ⟨rfl, rfl⟩)
          | (go_at_call 262; refine (unhide HM).mono ?_; rintro e w' ⟨rfl, rfl⟩))
        go_ret2
        exact ⟨rfl, rfl⟩
    · have hm : meaning n = (n, [110, 111, 110, 101]) := by simp [meaning, n0, n1, hs, hn]
      rw [hm]
      rw [hs] at HU
      rw [hn] at HN
      clear hm L HC
      go_enter Tryz.func252, Tryz.ntmps252
      go_wp2_with (first
        | (go_at_call 259; refine (unhide HU).mono ?_; rintro e w' ⟨rfl, rfl⟩)
        | (go_at_call 260; refine (unhide HN).mono ?_; rintro e w' ⟨rfl, rfl⟩))
      go_ret2
      exact ⟨rfl, rfl⟩
  · have hm : meaning n = (65533, [115, 117, 114, 114, 111, 103, 97, 116, 101]) := by simp [meaning, n0, n1, hs]
    rw [hm]
    rw [hs] at HU
    clear hm L HC HN
    go_enter Tryz.func252, Tryz.ntmps252
    go_wp2_with (go_at_call 259; refine (unhide HU).mono ?_; rintro e w' ⟨rfl, rfl⟩)
    go_ret2
    exact ⟨rfl, rfl⟩
end
end Go.Proofs.YtdfmapcnfficlaaGreatDoor

/-
  References by number.
  References by number: the end of one.
-/
import Derived.Test.YtdfmapcnfficlaaGreatDoorB20
import Derived.Laws.Runes
set_option linter.unusedSimpArgs false
set_option linter.unusedVariables false
namespace Go.Proofs.YtdfmapcnfficlaaGreatDoor
open Go Go.RowKit

theorem enc_eq (r : Int) : Utf8.encode r = ⟨(Lib.encodeRune r).toArray⟩ := by
  unfold Utf8.encode Lib.encodeRune
  by_cases hv : Utf8.valid r = true
  · have hv' : 0 ≤ r ∧ r ≤ 1114111 ∧ ¬ (55296 ≤ r ∧ r ≤ 57343) := by
      simp [Utf8.valid] at hv
      omega
    obtain ⟨n, rfl⟩ := Int.eq_ofNat_of_zero_le hv'.1
    simp only [hv, if_true, Int.toNat_natCast]
    by_cases h1 : n < 128
    · rw [if_pos h1, Lib.encodeRuneZ_one (by omega) (by omega)]
      rfl
    · rw [if_neg h1]
      by_cases h2 : n < 2048
      · rw [if_pos h2, Lib.encodeRuneZ_two (by omega) (by omega)]
        rfl
      · rw [if_neg h2]
        by_cases h3 : n < 65536
        · rw [if_pos h3, Lib.encodeRuneZ_three (by omega)]
          rfl
        · rw [if_neg h3, Lib.encodeRuneZ_four (by omega) (by omega)]
          rfl
  · have hv' : ¬ (0 ≤ r ∧ r ≤ 1114111 ∧ ¬ (55296 ≤ r ∧ r ≤ 57343)) := by
      simp [Utf8.valid] at hv
      omega
    rw [if_neg hv]
    have : Lib.encodeRuneZ r = [239, 191, 189] := by
      unfold Lib.encodeRuneZ
      rw [if_neg (by omega), if_neg (by omega), if_neg (by omega), if_neg (by omega)]
    rw [this]
    rfl

/-- The tables lie where they lay, and nothing of theirs is the tokenizer's own. -/
structure Base (w0 : World) (own0 : Nat → Prop) : Prop where
  laid : Laid w0
  out : ∀ g, g ∈ [8, 5, 2, 3, 1] → ¬ own0 g ∧ g < w0.heap.size

section
variable {w0 : World} {own0 : Nat → Prop} {b : Nat} {s : TS} {ex : List Item} {w : World} {R : Regs}

theorem Base.cell (B : Base w0 own0) (hk : Kept own0 w0 w) {g : Nat} (hg : g ∈ [8, 5, 2, 3, 1]) (j : Nat) : w.cell? ⟨g, j, none⟩ = w0.cell? ⟨g, j, none⟩ := by
  have h := B.out g hg
  simp [World.cell?, hk.block g h.2 h.1]
theorem Base.at (B : Base w0 own0) (hk : Kept own0 w0 w) : Laid w :=
  ⟨by
    obtain ⟨t, fr, h⟩ := B.laid.names
    have ho := B.out 5 (by simp)
    exact ⟨t, fr, (hk.block _ ho.2 ho.1).trans h⟩,
   ⟨fun c hc => (B.cell hk (by simp) c).trans (B.laid.tabs.1 c hc), fun i hi => ⟨(B.cell hk (by simp) _).trans (B.laid.tabs.2 i hi).1, (B.cell hk (by simp) _).trans (B.laid.tabs.2 i hi).2⟩⟩,
   fun j v hv => (B.cell hk (by simp) j).trans (B.laid.win j v hv)⟩

def digVal (c : Int) : Int := if isDigitC c = true then c - 48 else lowC c - 87
def isDigR (six : Bool) (c : Int) : Bool := isDigitC c || (six && decide (97 ≤ lowC c ∧ lowC c ≤ 102))
def addDigit (s : TS) (c : Int) : TS := { s with rdig := true, rnum := if 1114111 < s.rnum then s.rnum else s.rnum * (if s.rsix = true then 16 else 10) + digVal c }
theorem digVal_le {six : Bool} {c : Int} (h : isDigR six c = true) : 0 ≤ digVal c ∧ digVal c ≤ 15 := by
  unfold digVal
  split
  · rename_i hd
    simp [isDigitC] at hd
    omega
  · rename_i hd
    simp only [isDigR, Bool.or_eq_true, Bool.and_eq_true, decide_eq_true_eq] at h
    rcases h with h | h
    · exact absurd h hd
    · omega
def NumOk (s : TS) : Prop := 0 ≤ s.rnum ∧ s.rnum ≤ 17825791
theorem digVal_ten {c : Int} (h : isDigR false c = true) : digVal c ≤ 9 := by
  simp only [isDigR, Bool.false_and, Bool.or_false] at h
  unfold digVal
  rw [if_pos h]
  simp [isDigitC] at h
  omega
theorem addDigit_ok {c : Int} (h : isDigR s.rsix c = true) (hn : NumOk s) : NumOk (addDigit s c) := by
  have hd := digVal_le h
  obtain ⟨h1, h2⟩ := hn
  unfold NumOk addDigit
  simp only
  split
  · exact ⟨h1, h2⟩
  · split <;> omega

set_option maxHeartbeats 800000 in
set_option maxRecDepth 1000000 in
theorem refIsDigit_does (c : Int) (hc : Rn c) (h : Tk w0 own0 b s ex w) :
    Calls Tryz.prog 217 #[.pointer (some ⟨b, 20, none⟩), .int .i32 c] w fun e w' => e = .returned (.bool (isDigR s.rsix c)) ∧ w' = w := by
  obtain ⟨R, hR⟩ := h.reg
  have c1 := hR.1.cell 22
  simp only [cellsOf] at c1
  have HD := hide (isDigit_does c w)
  have HL := hide (low_does c w hc)
  clear hR h
  generalize s.rsix = six at *
  unfold isDigR
  generalize isDigitC c = d at *
  generalize lowC c = l at *
  cases d
  · cases six
    · go_enter Tryz.func217, Tryz.ntmps217
      go_wp2_with (go_at_call 216; refine (unhide HD).mono ?_; rintro e w' ⟨rfl, rfl⟩)
      go_ret
      exact ⟨rfl, rfl⟩
    · by_cases h1 : 97 ≤ l
      · by_cases h2 : l ≤ 102
        · go_enter Tryz.func217, Tryz.ntmps217
          go_wp2_with (first
            | (go_at_call 216; refine (unhide HD).mono ?_; rintro e w' ⟨rfl, rfl⟩)
            | (go_at_call 194; refine (unhide HL).mono ?_; rintro e w' ⟨rfl, rfl⟩))
          go_ret
          exact ⟨ret_bool (by simp; omega), rfl⟩
        · have h2' : 102 < l := by omega
          go_enter Tryz.func217, Tryz.ntmps217
          go_wp2_with (first
            | (go_at_call 216; refine (unhide HD).mono ?_; rintro e w' ⟨rfl, rfl⟩)
            | (go_at_call 194; refine (unhide HL).mono ?_; rintro e w' ⟨rfl, rfl⟩))
          go_ret
          exact ⟨ret_bool (by simp; omega), rfl⟩
      · have h1' : l < 97 := by omega
        go_enter Tryz.func217, Tryz.ntmps217
        go_wp2_with (first
          | (go_at_call 216; refine (unhide HD).mono ?_; rintro e w' ⟨rfl, rfl⟩)
          | (go_at_call 194; refine (unhide HL).mono ?_; rintro e w' ⟨rfl, rfl⟩))
        go_ret
        exact ⟨ret_bool (by simp; omega), rfl⟩
  · go_enter Tryz.func217, Tryz.ntmps217
    go_wp2_with (go_at_call 216; refine (unhide HD).mono ?_; rintro e w' ⟨rfl, rfl⟩)
    go_ret
    exact ⟨rfl, rfl⟩

theorem Tk.drew (h : Tk w0 own0 b s ex w) : Tk w0 own0 b s ex w.drew := by
  obtain ⟨R, hR⟩ := h.reg
  exact (tkR_drew hR).tk
theorem tk_dig (h : Tk w0 own0 b s ex w) : Tk w0 own0 b { s with rdig := true } ex (w.setCell ⟨b, 23, none⟩ (.bool true)) := by
  obtain ⟨⟨R, hR⟩, hk⟩ := h
  exact ⟨⟨R, hR.setCell 23 _ rfl rfl rfl rfl rfl⟩, hk.setCell _ _ hR.ownB⟩
theorem tk_num (h : Tk w0 own0 b s ex w) (n : Int) : Tk w0 own0 b { s with rnum := n } ex (w.setCell ⟨b, 24, none⟩ (.int .i32 n)) := by
  obtain ⟨⟨R, hR⟩, hk⟩ := h
  exact ⟨⟨R, hR.setCell 24 _ rfl rfl rfl rfl rfl⟩, hk.setCell _ _ hR.ownB⟩

set_option maxHeartbeats 1600000 in
set_option maxRecDepth 1000000 in
theorem addDigit_does (c : Int) (hc : Rn c) (hd : isDigR s.rsix c = true) (hn : NumOk s) (h : Tk w0 own0 b s ex w) :
    Calls Tryz.prog 218 #[.pointer (some ⟨b, 20, none⟩), .int .i32 c] w fun e w' => e = .returned (.tuple #[]) ∧ Tk w0 own0 b (addDigit s c) ex w' := by
  obtain ⟨R, hR⟩ := h.reg
  have c1 := hR.1.cell 22
  have c2 := hR.1.cell 23
  have c3 := hR.1.cell 24
  have f1 := hR.1.frozen
  simp only [cellsOf] at c1 c2 c3
  have hv := digVal_le hd
  have h1 := tk_dig h
  obtain ⟨n0, n1⟩ := hn
  by_cases hg : 1114111 < s.rnum
  · have e : addDigit s c = { s with rdig := true } := by simp [addDigit, hg]
    rw [e]
    clear e
    have H1 := hide h1
    clear h1 h hR
    generalize s.rnum = n at *
    go_enter Tryz.func218, Tryz.ntmps218
    go_wp2
    try simp only [Exit.inBlock, Exit.then]
    refine bodyPost_ret (results_none rfl _ _ _) rfl ?_
    exact ⟨rfl, unhide H1⟩
  · have hg' : s.rnum ≤ 1114111 := by omega
    have hv0 : ∀ w, Calls Tryz.prog 251 #[.int .i32 c] w fun e w' => e = .returned (.int .i32 (digVal c)) ∧ w' = w := fun w => digitValue_does c w hc
    have HV := hide hv0
    have H2 := hide fun n => Tk.drew (tk_num h1 n)
    obtain ⟨v0, v1⟩ := hv
    have v9 : s.rsix = false → digVal c ≤ 9 := fun e => digVal_ten (by rw [← e]; exact hd)
    clear hv0 hd
    have hfin : ∀ n, n = s.rnum * (if s.rsix = true then 16 else 10) + digVal c → addDigit s c = { s with rdig := true, rnum := n } := by
      rintro n rfl
      simp [addDigit, hg]
    have HF := hide hfin
    clear hfin h1 h hR
    generalize digVal c = d at *
    generalize hnn : s.rnum = n at *
    cases hx : s.rsix
    · have v9' := v9 hx
      clear v9
      rw [hx] at c1
      go_enter Tryz.func218, Tryz.ntmps218
      go_wp2_with fail
      go_region_with (go_at_call 251; refine (unhide HV _).mono ?_; rintro e w' ⟨rfl, rfl⟩)
      all_goals
        go_wp2
        go_end0
        have ew : IntKind.i32.wrap (IntKind.i32.wrap (n * 10) + d) = n * 10 + d := by rw [IntKind.wrap_i32, IntKind.wrap_i32]; omega
        rw [ew]
        exact ⟨rfl, by rw [unhide HF (n * 10 + d) (by rw [hx]; simp)]; exact (unhide H2) (n * 10 + d)⟩
    · clear v9
      rw [hx] at c1
      go_enter Tryz.func218, Tryz.ntmps218
      go_wp2_with fail
      go_region_with (go_at_call 251; refine (unhide HV _).mono ?_; rintro e w' ⟨rfl, rfl⟩)
      all_goals
        go_wp2
        go_end0
        have ew : IntKind.i32.wrap (IntKind.i32.wrap (n * 16) + d) = n * 16 + d := by rw [IntKind.wrap_i32, IntKind.wrap_i32]; omega
        rw [ew]
        exact ⟨rfl, by rw [unhide HF (n * 16 + d) (by rw [hx]; simp)]; exact (unhide H2) (n * 16 + d)⟩

end
end Go.Proofs.YtdfmapcnfficlaaGreatDoor

set_option linter.unusedSimpArgs false
set_option linter.unusedVariables false
namespace Go.Proofs.YtdfmapcnfficlaaGreatDoor
open Go Go.RowKit
section
variable {w0 : World} {own0 : Nat → Prop} {b : Nat} {s : TS} {ex : List Item} {w : World} {R : Regs}

def endNumber (s : TS) (p : Int) : TS := addToTarget (if (meaning s.rnum).2 = [] then s else wrongAt s (meaning s.rnum).2 p) (Lib.encodeRune (meaning s.rnum).1)

theorem wrongAt_sz (name : Str) (p : Int) (h : Tk w0 own0 b s ex w) (hs : sz s + 1 ≤ lim) :
    Calls Tryz.prog 204 #[.pointer (some ⟨b, 0, none⟩), .string ⟨name.toArray⟩, .int .i64 p] w fun e w' => e = .returned (.tuple #[]) ∧ Tk w0 own0 b (wrongAt s name p) ex w' :=
  wrongAt_does name p h (by unfold sz at hs; omega)

theorem meaning_names (n : Int) : (meaning n).2 = [] ∨ (meaning n).2 = [110, 117, 108] ∨ (meaning n).2 = [114, 97, 110, 103, 101] ∨ (meaning n).2 = [115, 117, 114, 114, 111, 103, 97, 116, 101] ∨ (meaning n).2 = [110, 111, 110, 101] ∨ (meaning n).2 = [99, 111, 110, 116, 114, 111, 108] := by
  unfold meaning
  repeat' split
  all_goals simp

set_option maxHeartbeats 1600000 in
set_option maxRecDepth 1000000 in
theorem endNumber_does (p : Int) (B : Base w0 own0) (hn : NumOk s) (hat : isValueSt s.rback = true → s.tag.atts ≠ []) (h : Tk w0 own0 b s ex w) (hs : sz s + 32 ≤ lim) :
    Calls Tryz.prog 220 #[.pointer (some ⟨b, 0, none⟩), .int .i64 p] w fun e w' => e = .returned (.tuple #[]) ∧ Tk w0 own0 b (endNumber s p) ex w' := by
  obtain ⟨R, hR⟩ := h.reg
  have c3 := hR.1.cell 24
  simp only [cellsOf] at c3
  have HM := hide (meaningOf_does s.rnum w (B.at h.2) hn.1 hn.2)
  have hl := len_rune (meaning s.rnum).1
  have hnm := meaning_names s.rnum
  unfold endNumber
  have HW := hide (fun x => wrongAt_sz x p h (by omega))
  have HT := hide h
  have HL := hide hl
  have HS := hide hs
  have HA := hide hat
  clear hR h hl hs hat hn
  generalize hm : meaning s.rnum = m at *
  obtain ⟨c, pr⟩ := m
  simp only at *
  rcases hnm with rfl | rfl | rfl | rfl | rfl | rfl
  · rw [if_pos rfl]
    go_enter Tryz.func220, Tryz.ntmps220
    go_wp2_with (go_at_call 252; refine (unhide HM).mono ?_; rintro e w' ⟨rfl, rfl⟩)
    rw [enc_eq]
    refine (addToTarget_does (Lib.encodeRune c) (unhide HA) (unhide HT) (by have := unhide HS; have := unhide HL; omega)).mono ?_
    rintro e w2 ⟨rfl, h2⟩
    go_wp2
    go_end0
    exact ⟨rfl, h2⟩
  all_goals
    rw [if_neg (by decide)]
    go_enter Tryz.func220, Tryz.ntmps220
    go_wp2_with (first
      | (go_at_call 252; refine (unhide HM).mono ?_; rintro e w1 ⟨rfl, rfl⟩)
      | (go_at_call 204; refine (unhide HW _).mono ?_; rintro e w1 ⟨rfl, h1⟩))
    rw [enc_eq]
    refine (addToTarget_does (s := wrongAt s _ p) (Lib.encodeRune c) (fun e => unhide HA e) h1 (by have := unhide HS; have := unhide HL; rw [sz_wrongAt]; omega)).mono ?_
    rintro e w2 ⟨rfl, h2⟩
    go_wp2
    go_end0
    exact ⟨rfl, h2⟩
theorem sz_endNumber (s : TS) (p : Int) : sz (endNumber s p) ≤ sz s + 20 := by
  unfold endNumber
  have h1 := sz_addToTarget (if (meaning s.rnum).2 = [] then s else wrongAt s (meaning s.rnum).2 p) (Lib.encodeRune (meaning s.rnum).1)
  have h2 := len_rune (meaning s.rnum).1
  have h3 : sz (if (meaning s.rnum).2 = [] then s else wrongAt s (meaning s.rnum).2 p) ≤ sz s + 1 := by
    split
    · omega
    · rw [sz_wrongAt]; omega
  omega
theorem endNumber_rback (s : TS) (p : Int) : (endNumber s p).rback = s.rback := by
  unfold endNumber
  rw [addToTarget_rback]
  split <;> rfl
end
end Go.Proofs.YtdfmapcnfficlaaGreatDoor

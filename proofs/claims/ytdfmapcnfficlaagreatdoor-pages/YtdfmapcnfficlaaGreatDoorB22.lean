/-
  References by number: the states.
  Beginnings of texts.
-/
import Derived.Test.YtdfmapcnfficlaaGreatDoorB21
set_option linter.unusedSimpArgs false
set_option linter.unusedVariables false
namespace Go.Proofs.YtdfmapcnfficlaaGreatDoor
open Go Go.RowKit
section
variable {w0 : World} {own0 : Nat → Prop} {b : Nat} {s : TS} {ex : List Item} {w : World} {R : Regs}

/-- What holds between code points while a reference is read. -/
structure RefOk (s : TS) : Prop where
  num : NumOk s
  come : s.rcome.length ≤ 8
  at' : isValueSt s.rback = true → s.tag.atts ≠ []
  place0 : 0 ≤ s.place
  place1 : s.place ≤ 1099511627776

def lookInRefNumber (s : TS) (c : Int) : Int × TS :=
  if isDigR s.rsix c = true then (0, addDigit s c)
  else if s.rdig = false then (1, leaveAsItIs (wrong s [100, 105, 103, 105, 116, 115]))
  else if c = 59 then (0, { endNumber s (s.place + 1) with state := s.rback })
  else (1, { endNumber (wrong s [115, 101, 109, 105, 99, 111, 108, 111, 110]) s.place with state := s.rback })

theorem back_cell (h : Tk w0 own0 b s ex w) : w.cell? ⟨b, 20, none⟩ = some (.int .i64 s.rback) := by
  obtain ⟨R, hR⟩ := h.reg
  have := hR.1.cell 20
  exact this
theorem place_cell (h : Tk w0 own0 b s ex w) : w.cell? ⟨b, 7, none⟩ = some (.int .i64 s.place) := by
  obtain ⟨R, hR⟩ := h.reg
  have := hR.1.cell 7
  exact this

set_option maxHeartbeats 1600000 in
set_option maxRecDepth 1000000 in
theorem lookInRefNumber_does (c : Int) (hc : Rn c) (B : Base w0 own0) (hr : RefOk s) (h : Tk w0 own0 b s ex w) (hs : sz s + 128 ≤ lim) :
    Calls Tryz.prog 158 #[.pointer (some ⟨b, 0, none⟩), .int .i32 c] w fun e w' => e = .returned (.int .i64 (lookInRefNumber s c).1) ∧ Tk w0 own0 b (lookInRefNumber s c).2 ex w' := by
  obtain ⟨R, hR⟩ := h.reg
  have c1 := hR.1.cell 23
  have c2 := place_cell h
  simp only [cellsOf] at c1
  have HD := hide (refIsDigit_does c hc h)
  have HS := hide hs
  have HR := hide hr
  have HT := hide h
  cases hd : isDigR s.rsix c
  · rw [hd] at HD
    cases hx : s.rdig
    · have hfin : lookInRefNumber s c = (1, leaveAsItIs (wrong s [100, 105, 103, 105, 116, 115])) := by simp [lookInRefNumber, hd, hx]
      rw [hfin]
      rw [hx] at c1
      clear hfin h hs hR hr
      go_enter Tryz.func158, Tryz.ntmps158
      go_wp2_with (go_at_call 217; refine (unhide HD).mono ?_; rintro e w1 ⟨rfl, rfl⟩)
      refine (wrong_sz [100, 105, 103, 105, 116, 115] (unhide HT) (by have := unhide HS; omega)).mono ?_
      rintro e w2 ⟨rfl, h2⟩
      go_wp2_with fail
      refine (leaveAsItIs_does (s := wrong s [100, 105, 103, 105, 116, 115]) (fun e => (unhide HR).at' e) h2 (by have := unhide HS; have h1 : (wrong s [100, 105, 103, 105, 116, 115]).rcome.length ≤ 8 := (unhide HR).come; rw [sz_wrong]; omega)).mono ?_
      rintro e w3 ⟨rfl, h3⟩
      go_wp2
      go_ret
      exact ⟨rfl, h3⟩
    · rw [hx] at c1
      have hp := hr.place0
      have hp1 := hr.place1
      by_cases h59 : c = 59
      · subst h59
        have hfin : lookInRefNumber s 59 = (0, { endNumber s (s.place + 1) with state := s.rback }) := by simp [lookInRefNumber, hd, hx]
        rw [hfin]
        have HE := hide (endNumber_does (s.place + 1) B hr.num hr.at' h (by omega))
        clear hfin h hs hR hr
        go_enter Tryz.func158, Tryz.ntmps158
        go_wp2_with (first
          | (go_at_call 217; refine (unhide HD).mono ?_; rintro e w1 ⟨rfl, rfl⟩)
          | (go_at_call 220; refine (unhide HE).mono ?_; rintro e w2 ⟨rfl, h2⟩; have d2 := back_cell h2; rw [endNumber_rback] at d2))
        refine (to_does s.rback h2).mono ?_
        rintro e w3 ⟨rfl, h3⟩
        go_wp2
        go_ret
        exact ⟨rfl, h3⟩
      · have e59 : (c == 59) = false := beq_eq_false_iff_ne.2 h59
        have hfin : lookInRefNumber s c = (1, { endNumber (wrong s [115, 101, 109, 105, 99, 111, 108, 111, 110]) s.place with state := s.rback }) := by simp [lookInRefNumber, hd, hx, h59]
        rw [hfin]
        clear hfin h hs hR hr
        go_enter Tryz.func158, Tryz.ntmps158
        go_wp2_with (go_at_call 217; refine (unhide HD).mono ?_; rintro e w1 ⟨rfl, rfl⟩)
        refine (wrong_sz [115, 101, 109, 105, 99, 111, 108, 111, 110] (unhide HT) (by have := unhide HS; omega)).mono ?_
        rintro e w2 ⟨rfl, h2⟩
        have d2 := place_cell h2
        rw [show (wrong s [115, 101, 109, 105, 99, 111, 108, 111, 110]).place = s.place from rfl] at d2
        go_wp2_with fail
        refine (endNumber_does (s := wrong s [115, 101, 109, 105, 99, 111, 108, 111, 110]) s.place B (unhide HR).num (fun e => (unhide HR).at' e) h2 (by have := unhide HS; rw [sz_wrong]; omega)).mono ?_
        rintro e w3 ⟨rfl, h3⟩
        have d3 := back_cell h3
        rw [endNumber_rback] at d3
        go_wp2_with fail
        refine (again_does (wrong s [115, 101, 109, 105, 99, 111, 108, 111, 110]).rback h3).mono ?_
        rintro e w4 ⟨rfl, h4⟩
        go_wp2
        go_ret
        exact ⟨rfl, h4⟩
  · have hfin : lookInRefNumber s c = (0, addDigit s c) := by simp [lookInRefNumber, hd]
    rw [hfin]
    have HE := hide (addDigit_does c hc hd hr.num h)
    rw [hd] at HD
    clear hfin h hs hR hr
    go_enter Tryz.func158, Tryz.ntmps158
    go_wp2_with (first
      | (go_at_call 217; refine (unhide HD).mono ?_; rintro e w1 ⟨rfl, rfl⟩)
      | (go_at_call 218; refine (unhide HE).mono ?_; rintro e w2 ⟨rfl, h2⟩))
    go_ret
    exact ⟨rfl, h2⟩

def setCome (s : TS) (l : Str) : TS := { s with rcome := l }
theorem tk_come (h : Tk w0 own0 b s ex w) (l : Str) : Tk w0 own0 b (setCome s l) ex (w.setCell ⟨b, 21, none⟩ (.string ⟨l.toArray⟩)) := by
  obtain ⟨⟨R, hR⟩, hk⟩ := h
  exact ⟨⟨R, hR.setCell 21 _ rfl rfl rfl rfl rfl⟩, hk.setCell _ _ hR.ownB⟩
theorem tk_six (h : Tk w0 own0 b s ex w) : Tk w0 own0 b { s with rsix := true } ex (w.setCell ⟨b, 22, none⟩ (.bool true)) := by
  obtain ⟨⟨R, hR⟩, hk⟩ := h
  exact ⟨⟨R, hR.setCell 22 _ rfl rfl rfl rfl rfl⟩, hk.setCell _ _ hR.ownB⟩
theorem come_cell (h : Tk w0 own0 b s ex w) : w.cell? ⟨b, 21, none⟩ = some (.string ⟨s.rcome.toArray⟩) := by
  obtain ⟨R, hR⟩ := h.reg
  have := hR.1.cell 21
  exact this
theorem six_cell (h : Tk w0 own0 b s ex w) : w.cell? ⟨b, 22, none⟩ = some (.bool s.rsix) := by
  obtain ⟨R, hR⟩ := h.reg
  have := hR.1.cell 22
  exact this
theorem Tk.frozen (h : Tk w0 own0 b s ex w) (o : Nat) : w.frozen? ⟨b, o, none⟩ = false := by
  obtain ⟨R, hR⟩ := h.reg
  exact hR.1.frozen o

def lookInRefHash (s : TS) (c : Int) : Int × TS :=
  if c = 120 ∨ c = 88 then (0, { setCome s (s.rcome ++ Lib.encodeRune c) with rsix := true, state := 35 }) else (1, { s with state := 35 })

theorem low_x (c : Int) : (lowC c = 120) ↔ (c = 120 ∨ c = 88) := by unfold lowC; split <;> omega

set_option maxHeartbeats 1600000 in
set_option maxRecDepth 1000000 in
theorem lookInRefHash_does (c : Int) (hc : Rn c) (hr : RefOk s) (h : Tk w0 own0 b s ex w) (hs : sz s + 128 ≤ lim) :
    Calls Tryz.prog 157 #[.pointer (some ⟨b, 0, none⟩), .int .i32 c] w fun e w' => e = .returned (.int .i64 (lookInRefHash s c).1) ∧ Tk w0 own0 b (lookInRefHash s c).2 ex w' := by
  have HL := hide (fun w => low_does c w hc)
  have HT := hide h
  have hx := low_x c
  by_cases h1 : lowC c = 120
  · rw [h1] at HL
    have hfin : lookInRefHash s c = (0, { setCome s (s.rcome ++ Lib.encodeRune c) with rsix := true, state := 35 }) := by rw [lookInRefHash, if_pos (hx.1 h1)]
    rw [hfin]
    have c1 := come_cell h
    have c2 := six_cell h
    have f1 := h.frozen
    have hcv : ∀ w, (convert 21 9 (.int .i32 c)).run Tryz.prog w = .ok (.string ⟨(Lib.encodeRune c).toArray⟩) w := fun w => by
      rw [run_convert_int_string w 21 9 .i32 c (by rw [Tryz.underlying21]; rfl) Tryz.underlying9, enc_eq]
    have hcat : ∀ w, _ := fun w => cat_run s.rcome (Lib.encodeRune c) w (by have := len_rune c; have := hr.come; unfold lim; omega)
    have H2 := hide (tk_six (tk_come h (s.rcome ++ Lib.encodeRune c)))
    clear hfin hs h hr
    go_enter Tryz.func157, Tryz.ntmps157
    go_wp2_with (go_at_call 194; refine (unhide HL _).mono ?_; rintro e w1 ⟨rfl, rfl⟩)
    refine (to_does 35 (unhide H2)).mono ?_
    rintro e w3 ⟨rfl, h3⟩
    go_wp2
    go_ret
    exact ⟨rfl, h3⟩
  · have hfin : lookInRefHash s c = (1, { s with state := 35 }) := by rw [lookInRefHash, if_neg (fun e => h1 (hx.2 e))]
    rw [hfin]
    have e1 : (lowC c == 120) = false := beq_eq_false_iff_ne.2 h1
    generalize lowC c = d at *
    clear hfin hs h hr
    go_enter Tryz.func157, Tryz.ntmps157
    go_wp2_with (go_at_call 194; refine (unhide HL _).mono ?_; rintro e w1 ⟨rfl, rfl⟩)
    refine (again_does 35 (unhide HT)).mono ?_
    rintro e w3 ⟨rfl, h3⟩
    go_wp2
    go_ret
    exact ⟨rfl, h3⟩
end
end Go.Proofs.YtdfmapcnfficlaaGreatDoor

set_option linter.unusedSimpArgs false
set_option linter.unusedVariables false
namespace Go.Proofs.YtdfmapcnfficlaaGreatDoor
open Go Go.RowKit

def hasPre (x p : Str) : Bool := p.isPrefixOf x
theorem extract_list (x : Str) (n : Nat) : (⟨x.toArray⟩ : ByteArray).extract 0 n = ⟨(x.take n).toArray⟩ := by
  apply ByteArray.ext
  simp
theorem hasPre_iff (x p : Str) : hasPre x p = (decide (p.length ≤ x.length) && decide (x.take p.length = p)) := by
  unfold hasPre
  rw [Bool.eq_iff_iff]
  simp only [List.isPrefixOf_iff_prefix, Bool.and_eq_true, decide_eq_true_eq]
  constructor
  · intro h
    exact ⟨h.length_le, (List.prefix_iff_eq_take.1 h).symm⟩
  · rintro ⟨_, h2⟩
    rw [← h2]
    exact List.take_prefix _ _
set_option maxHeartbeats 800000 in
set_option maxRecDepth 1000000 in
theorem liteHasPrefix_does (x p : Str) (w : World) (hx : x.length ≤ lim) (hp : p.length ≤ lim) : Calls Tryz.prog 258 #[.string ⟨x.toArray⟩, .string ⟨p.toArray⟩] w fun e w' => e = .returned (.bool (hasPre x p)) ∧ w' = w := by
  have h1 : (⟨x.toArray⟩ : ByteArray).size = x.length := by simp [ByteArray.size]
  have h2 : (⟨p.toArray⟩ : ByteArray).size = p.length := by simp [ByteArray.size]
  unfold lim at hx hp
  rw [hasPre_iff]
  by_cases hl : p.length ≤ x.length
  · have hsl : ∀ W, (Instr.slice 9 (.string ⟨x.toArray⟩) none (some (.int .i64 (p.length : Int))) none).run Tryz.prog W = .ok (.string ⟨(x.take p.length).toArray⟩) W := fun W => by
      rw [run_slice_string_to_if W 9 ⟨x.toArray⟩ .i64 p.length Tryz.underlying9, if_pos ⟨by omega, by omega⟩, Int.toNat_natCast, extract_list]
    go_enter Tryz.func258, Tryz.ntmps258
    go_wp2
    go_ret
    exact ⟨ret_bool (by rw [decide_eq_true hl, Bool.true_and, Bool.eq_iff_iff]; simp), rfl⟩
  · have hl' : x.length < p.length := by omega
    go_enter Tryz.func258, Tryz.ntmps258
    go_wp2
    go_ret
    exact ⟨ret_bool (by simp [hl]), rfl⟩

set_option maxHeartbeats 800000 in
set_option maxRecDepth 1000000 in
theorem hasPrefix_does (x p : Str) (w : World) (hx : x.length ≤ lim) (hp : p.length ≤ lim) : Calls Tryz.prog 249 #[.string ⟨x.toArray⟩, .string ⟨p.toArray⟩] w fun e w' => e = .returned (.bool (hasPre x p)) ∧ w' = w := by
  have H := hide (liteHasPrefix_does x p w hx hp)
  clear hx hp
  go_enter Tryz.func249, Tryz.ntmps249
  go_wp2_with (go_at_call 258; refine (unhide H).mono ?_; rintro e w1 ⟨rfl, rfl⟩)
  go_ret
  exact ⟨rfl, rfl⟩

/-- The one is the beginning of the other, and not all of it. -/
def partOf (x y : Str) : Bool := !(x == y) && hasPre y x

set_option maxHeartbeats 800000 in
set_option maxRecDepth 1000000 in
theorem isPartOf_does (x y : Str) (w : World) (hx : x.length ≤ lim) (hy : y.length ≤ lim) : Calls Tryz.prog 241 #[.string ⟨x.toArray⟩, .string ⟨y.toArray⟩] w fun e w' => e = .returned (.bool (partOf x y)) ∧ w' = w := by
  have H := hide (hasPrefix_does y x w hy hx)
  clear hx hy
  unfold partOf
  cases hxy : x == y
  · go_enter Tryz.func241, Tryz.ntmps241
    go_wp2_with (go_at_call 249; refine (unhide H).mono ?_; rintro e w1 ⟨rfl, rfl⟩)
    go_ret
    exact ⟨rfl, rfl⟩
  · go_enter Tryz.func241, Tryz.ntmps241
    go_wp2
    go_ret
    exact ⟨rfl, rfl⟩
end Go.Proofs.YtdfmapcnfficlaaGreatDoor

/-
  References by name: a name that ends without its sign; the state of names.
-/
import Derived.Test.YtdfmapcnfficlaaGreatDoorB24
import Derived.Deep.QuietTactic
import Derived.BigQuiet
set_option linter.unusedSimpArgs false
set_option linter.unusedVariables false
namespace Go.Proofs.YtdfmapcnfficlaaGreatDoor
open Go Go.RowKit
section
variable {w0 : World} {own0 : Nat → Prop} {b : Nat} {s : TS} {ex : List Item} {w : World} {R : Regs}

def nextOf (x : Str) : Int := (Lib.decodeGo ⟨x.toArray⟩).1
theorem nextOf_rn (x : Str) : Rn (nextOf x) := by
  unfold nextOf Lib.decodeGo
  split
  · constructor <;> simp
  · have := Lib.rune_le ⟨x.toArray⟩ 0
    constructor <;> omega
def goesOn (s : TS) (nx : Int) : Bool := isValueSt s.rback && (nx == 61 || isLetterC nx || isDigitC nx)
def openName (s : TS) (n : Str × Str) (x : Str) (nx : Int) : TS :=
  if goesOn s nx = true then addToTarget s ([38] ++ n.1) else addToTarget (wrongAt s [115, 101, 109, 105, 99, 111, 108, 111, 110] (s.place - x.length)) n.2
def endOpenName (s : TS) (n : Str × Str) (c : Int) : TS :=
  { addToTarget (openName s n (s.rcome.drop n.1.length) (nextOf (s.rcome.drop n.1.length ++ Lib.encodeRune c))) (s.rcome.drop n.1.length) with state := s.rback }

theorem extract_drop (x : Str) (n : Nat) : (⟨x.toArray⟩ : ByteArray).extract n (⟨x.toArray⟩ : ByteArray).size = ⟨(x.drop n).toArray⟩ := by
  apply ByteArray.ext
  simp [ByteArray.size]
  rw [List.take_of_length_le (by simp)]

theorem sz_openName (s : TS) (n : Str × Str) (x : Str) (nx : Int) (h1 : n.1.length ≤ 7) (h2 : n.2.length ≤ 7) : sz (openName s n x nx) ≤ sz s + 33 := by
  unfold openName
  split
  · have := sz_addToTarget s ([38] ++ n.1)
    rw [List.length_append] at this
    simp only [List.length_cons, List.length_nil] at this
    omega
  · have := sz_addToTarget (wrongAt s [115, 101, 109, 105, 99, 111, 108, 111, 110] (s.place - x.length)) n.2
    rw [sz_wrongAt] at this
    omega
theorem openName_rback (s : TS) (n : Str × Str) (x : Str) (nx : Int) : (openName s n x nx).rback = s.rback := by
  unfold openName
  split <;> rw [addToTarget_rback] <;> rfl
theorem openName_atts {s : TS} (n : Str × Str) (x : Str) (nx : Int) (h : isValueSt s.rback = true → s.tag.atts ≠ []) : isValueSt (openName s n x nx).rback = true → (openName s n x nx).tag.atts ≠ [] := by
  unfold openName
  split
  · exact addToTarget_atts _ h
  · exact addToTarget_atts (s := wrongAt s [115, 101, 109, 105, 99, 111, 108, 111, 110] (s.place - x.length)) _ h

theorem Base.fresh {w1 : World} (B : Base w0 own0) (hk : Kept own0 w0 w1) : Base w1 (ownAt w0 own0 w) :=
  ⟨B.at hk, fun g hg => ⟨fun hh => hh.1.elim (B.out g hg).1 (fun h => by have := (B.out g hg).2; omega), Nat.lt_of_lt_of_le (B.out g hg).2 hk.size⟩⟩

set_option maxHeartbeats 2000000 in
set_option maxRecDepth 1000000 in
theorem endOpenName_does (n : Str × Str) (c : Int) (hc : Rn c) (B : Base w0 own0) (hr : RefOk s) (h1 : n.1.length ≤ 7) (h2 : n.2.length ≤ 7) (hle : n.1.length ≤ s.rcome.length) (h : Tk w0 own0 b s ex w) (hs : sz s + 128 ≤ lim) :
    Calls Tryz.prog 215 #[.pointer (some ⟨b, 0, none⟩), namedV n, .int .i32 c] w fun e w' => e = .returned (.int .i64 1) ∧ Tk w0 own0 b (endOpenName s n c) ex w' := by
  unfold endOpenName namedV
  have hcv : ∀ w, (convert 21 9 (.int .i32 c)).run Tryz.prog w = .ok (.string ⟨(Lib.encodeRune c).toArray⟩) w := fun w => by
    rw [run_convert_int_string w 21 9 .i32 c (by rw [Tryz.underlying21]; rfl) Tryz.underlying9, enc_eq]
  have hsl : ∀ W, (Instr.slice 9 (.string ⟨s.rcome.toArray⟩) (some (.int .i64 (n.1.length : Int))) none none).run Tryz.prog W = .ok (.string ⟨(s.rcome.drop n.1.length).toArray⟩) W := fun W => by
    rw [run_slice_string_from_if W 9 ⟨s.rcome.toArray⟩ .i64 n.1.length Tryz.underlying9, if_pos ⟨by omega, by simp [ByteArray.size]; omega⟩, Int.toNat_natCast, extract_drop]
  have hdl : (s.rcome.drop n.1.length).length ≤ 8 := by have := hr.come; simp; omega
  have hcome := come_cell h
  have hpl := place_cell h
  have hp0 := hr.place0
  have hp1 := hr.place1
  have HS := hide hs
  have HR := hide hr
  generalize s.rcome.drop n.1.length = x at *
  have hcat : ∀ w, _ := fun w => cat_run x (Lib.encodeRune c) w (by have := len_rune c; unfold lim; omega)
  have HDC := hide (fun (w : World) (hT : Lib.Utf8Tabs 2 3 w) => Tryz.utf8_DecodeRuneInString ⟨(x ++ Lib.encodeRune c).toArray⟩ w hT)
  have hrn := nextOf_rn (x ++ Lib.encodeRune c)
  have HX : nextOf (x ++ Lib.encodeRune c) = (Lib.decodeGo ⟨(x ++ Lib.encodeRune c).toArray⟩).1 := rfl
  rw [← HX] at HDC
  clear HX
  generalize nextOf (x ++ Lib.encodeRune c) = nx at *
  generalize (Lib.decodeGo ⟨(x ++ Lib.encodeRune c).toArray⟩).2 = nk at *
  have hM1 : ∀ nq, More w ((w.alloc (.cells #[.string ⟨n.1.toArray⟩, .string ⟨n.2.toArray⟩] 198)).drewN nq) := fun nq => (fun (h : More w (w.alloc (.cells #[.string ⟨n.1.toArray⟩, .string ⟨n.2.toArray⟩] 198))) => ⟨h.os, h.tape, h.output, h.size, h.block⟩) ((More.refl w).alloc _)
  have HT := hide (fun nq => h.fresh (hM1 nq))
  have HB := hide (fun nq => B.fresh (w := w) (h.2.more (hM1 nq)))
  have HK := hide (fun nq => h.2.more (hM1 nq))
  have hb := (by obtain ⟨R, hR⟩ := h.reg; exact hR.1.lt_b : b < w.heap.size)
  have HL := hide (fun w => isLetter_does nx w hrn)
  have HD := hide (fun w => isDigit_does nx w)
  clear h hs hr B hM1
  go_enter Tryz.func215, Tryz.ntmps215
  go_wp2_with fail
  go_quiet (fail)
  have T1 := (unhide HT) nq
  have B1 := (unhide HB) nq
  have K1 := (unhide HK) nq
  have hbox : ((w.alloc (.cells #[.string ⟨n.1.toArray⟩, .string ⟨n.2.toArray⟩] 198)).drewN nq).heap[w.heap.size]? = some (.cells #[.string ⟨n.1.toArray⟩, .string ⟨n.2.toArray⟩] 198 (0, 0)) := heap_alloc_new w (.cells #[.string ⟨n.1.toArray⟩, .string ⟨n.2.toArray⟩] 198)
  have hlt : w.heap.size < ((w.alloc (.cells #[.string ⟨n.1.toArray⟩, .string ⟨n.2.toArray⟩] 198)).drewN nq).heap.size := (Array.getElem?_eq_some_iff.1 hbox).1
  clear HT HB HK
  generalize (w.alloc (.cells #[.string ⟨n.1.toArray⟩, .string ⟨n.2.toArray⟩] 198)).drewN nq = W1 at *
  go_wp2_with fail
  refine (unhide HDC W1 B1.laid.tabs).mono ?_
  rintro e w2 ⟨rfl, hb2⟩
  have T2 := T1.more (More.of_below hb2)
  have hbox2 := (hb2.block _ hlt).trans hbox
  have bx0 : w2.cell? ⟨w.heap.size, 0, none⟩ = some (.string ⟨n.1.toArray⟩) := cell_of_self hbox2 0
  have bx1 : w2.cell? ⟨w.heap.size, 1, none⟩ = some (.string ⟨n.2.toArray⟩) := cell_of_self hbox2 1
  have hcat2 : ∀ w, _ := fun w => cat_run [38] n.1 w (by simp only [List.length_cons, List.length_nil]; unfold lim; omega)
  have HV := hide (targetIsValue_does T2)
  clear T1 B1 hb2 HDC hcome hpl hcat hsl hcv hbox2
  cases hv : isValueSt s.rback
  · skip
    have hg : ¬ goesOn s nx = true := by simp [goesOn, hv]
    have ho : openName s n x nx = addToTarget (wrongAt s [115, 101, 109, 105, 99, 111, 108, 111, 110] (s.place - x.length)) n.2 := by rw [openName, if_neg hg]
    have HO := hide ho
    rw [hv] at HV
    have HW := hide (wrongAt_sz [115, 101, 109, 105, 99, 111, 108, 111, 110] (s.place - x.length) T2 (by have := unhide HS; omega))
    have T2' := hide T2
    have hpl2 := place_cell T2
    clear T2 ho hg
    go_wp2_with (first
      | (go_at_call 250; refine (unhide HV).mono ?_; rintro e w3 ⟨rfl, rfl⟩)
      | (go_at_call 204; refine (unhide HW).mono ?_; rintro e w4 ⟨rfl, h4⟩; have b4 := (h4.stands (Nat.le_refl _) hlt).trans hbox; have e1 : w4.cell? ⟨w.heap.size, 1, none⟩ = some (.string ⟨n.2.toArray⟩) := cell_of_self b4 1; clear b4))
    refine (addToTarget_does (s := wrongAt s [115, 101, 109, 105, 99, 111, 108, 111, 110] (s.place - x.length)) n.2 (fun e => (unhide HR).at' e) h4 (by have := unhide HS; rw [sz_wrongAt]; omega)).mono ?_
    rintro e w5 ⟨rfl, h5⟩
    go_wp2_with fail
    refine (addToTarget_does x (addToTarget_atts (s := wrongAt s [115, 101, 109, 105, 99, 111, 108, 111, 110] (s.place - x.length)) _ (fun e => (unhide HR).at' e)) h5 (by have := unhide HS; have := sz_addToTarget (wrongAt s [115, 101, 109, 105, 99, 111, 108, 111, 110] (s.place - x.length)) n.2; rw [sz_wrongAt] at this; omega)).mono ?_
    rintro e w6 ⟨rfl, h6⟩
    have d5 := back_cell h6
    rw [addToTarget_rback, addToTarget_rback] at d5
    go_wp2_with fail
    refine (again_does s.rback h6).mono ?_
    rintro e w7 ⟨rfl, h7⟩
    go_wp2
    go_ret
    exact ⟨rfl, by rw [unhide HO]; exact h7.unfresh K1⟩
  by_cases h61 : nx = 61
  · have e61 : (nx == 61) = true := by simp [h61]
    have hg : goesOn s nx = true := by simp [goesOn, hv, h61]
    have ho : openName s n x nx = addToTarget s ([38] ++ n.1) := by rw [openName, if_pos hg]
    have HO := hide ho
    rw [hv] at HV
    have HA := hide (addToTarget_does ([38] ++ n.1) (unhide HR).at' T2 (by have := unhide HS; rw [List.length_append]; simp only [List.length_cons, List.length_nil]; omega))
    have T2' := hide T2
    clear T2 ho hg
    go_wp2_with (first
      | (go_at_call 250; refine (unhide HV).mono ?_; rintro e w3 ⟨rfl, rfl⟩))
    refine (unhide HA).mono ?_
    rintro e w4 ⟨rfl, h4⟩
    go_wp2_with fail
    refine (addToTarget_does x (addToTarget_atts _ (unhide HR).at') h4 (by have := unhide HS; have := sz_addToTarget s ([38] ++ n.1); rw [List.length_append] at this; simp only [List.length_cons, List.length_nil] at this; omega)).mono ?_
    rintro e w5 ⟨rfl, h5⟩
    have d5 := back_cell h5
    rw [addToTarget_rback, addToTarget_rback] at d5
    go_wp2_with fail
    refine (again_does s.rback h5).mono ?_
    rintro e w6 ⟨rfl, h6⟩
    go_wp2
    go_ret
    exact ⟨rfl, by rw [unhide HO]; exact h6.unfresh K1⟩
  have e61 : (nx == 61) = false := beq_eq_false_iff_ne.2 h61
  cases hl : isLetterC nx
  · rw [hl] at HL
    cases hd : isDigitC nx
    · rw [hd] at HD
      have hg : ¬ goesOn s nx = true := by simp [goesOn, hv, hl, hd, h61]
      have ho : openName s n x nx = addToTarget (wrongAt s [115, 101, 109, 105, 99, 111, 108, 111, 110] (s.place - x.length)) n.2 := by rw [openName, if_neg hg]
      have HO := hide ho
      rw [hv] at HV
      have HW := hide (wrongAt_sz [115, 101, 109, 105, 99, 111, 108, 111, 110] (s.place - x.length) T2 (by have := unhide HS; omega))
      have T2' := hide T2
      have hpl2 := place_cell T2
      clear T2 ho hg
      go_wp2_with (first
        | (go_at_call 250; refine (unhide HV).mono ?_; rintro e w3 ⟨rfl, rfl⟩)
        | (go_at_call 191; refine (unhide HL _).mono ?_; rintro e w3 ⟨rfl, rfl⟩)
        | (go_at_call 216; refine (unhide HD _).mono ?_; rintro e w3 ⟨rfl, rfl⟩)
        | (go_at_call 204; refine (unhide HW).mono ?_; rintro e w4 ⟨rfl, h4⟩; have b4 := (h4.stands (Nat.le_refl _) hlt).trans hbox; have e1 : w4.cell? ⟨w.heap.size, 1, none⟩ = some (.string ⟨n.2.toArray⟩) := cell_of_self b4 1; clear b4))
      refine (addToTarget_does (s := wrongAt s [115, 101, 109, 105, 99, 111, 108, 111, 110] (s.place - x.length)) n.2 (fun e => (unhide HR).at' e) h4 (by have := unhide HS; rw [sz_wrongAt]; omega)).mono ?_
      rintro e w5 ⟨rfl, h5⟩
      go_wp2_with fail
      refine (addToTarget_does x (addToTarget_atts (s := wrongAt s [115, 101, 109, 105, 99, 111, 108, 111, 110] (s.place - x.length)) _ (fun e => (unhide HR).at' e)) h5 (by have := unhide HS; have := sz_addToTarget (wrongAt s [115, 101, 109, 105, 99, 111, 108, 111, 110] (s.place - x.length)) n.2; rw [sz_wrongAt] at this; omega)).mono ?_
      rintro e w6 ⟨rfl, h6⟩
      have d5 := back_cell h6
      rw [addToTarget_rback, addToTarget_rback] at d5
      go_wp2_with fail
      refine (again_does s.rback h6).mono ?_
      rintro e w7 ⟨rfl, h7⟩
      go_wp2
      go_ret
      exact ⟨rfl, by rw [unhide HO]; exact h7.unfresh K1⟩
    · rw [hd] at HD
      have hg : goesOn s nx = true := by simp [goesOn, hv, hl, hd]
      have ho : openName s n x nx = addToTarget s ([38] ++ n.1) := by rw [openName, if_pos hg]
      have HO := hide ho
      rw [hv] at HV
      have HA := hide (addToTarget_does ([38] ++ n.1) (unhide HR).at' T2 (by have := unhide HS; rw [List.length_append]; simp only [List.length_cons, List.length_nil]; omega))
      have T2' := hide T2
      clear T2 ho hg
      go_wp2_with (first
        | (go_at_call 250; refine (unhide HV).mono ?_; rintro e w3 ⟨rfl, rfl⟩)
        | (go_at_call 191; refine (unhide HL _).mono ?_; rintro e w3 ⟨rfl, rfl⟩)
        | (go_at_call 216; refine (unhide HD _).mono ?_; rintro e w3 ⟨rfl, rfl⟩))
      refine (unhide HA).mono ?_
      rintro e w4 ⟨rfl, h4⟩
      go_wp2_with fail
      refine (addToTarget_does x (addToTarget_atts _ (unhide HR).at') h4 (by have := unhide HS; have := sz_addToTarget s ([38] ++ n.1); rw [List.length_append] at this; simp only [List.length_cons, List.length_nil] at this; omega)).mono ?_
      rintro e w5 ⟨rfl, h5⟩
      have d5 := back_cell h5
      rw [addToTarget_rback, addToTarget_rback] at d5
      go_wp2_with fail
      refine (again_does s.rback h5).mono ?_
      rintro e w6 ⟨rfl, h6⟩
      go_wp2
      go_ret
      exact ⟨rfl, by rw [unhide HO]; exact h6.unfresh K1⟩
  · rw [hl] at HL
    have hg : goesOn s nx = true := by simp [goesOn, hv, hl]
    have ho : openName s n x nx = addToTarget s ([38] ++ n.1) := by rw [openName, if_pos hg]
    have HO := hide ho
    rw [hv] at HV
    have HA := hide (addToTarget_does ([38] ++ n.1) (unhide HR).at' T2 (by have := unhide HS; rw [List.length_append]; simp only [List.length_cons, List.length_nil]; omega))
    have T2' := hide T2
    clear T2 ho hg
    go_wp2_with (first
      | (go_at_call 250; refine (unhide HV).mono ?_; rintro e w3 ⟨rfl, rfl⟩)
      | (go_at_call 191; refine (unhide HL _).mono ?_; rintro e w3 ⟨rfl, rfl⟩))
    refine (unhide HA).mono ?_
    rintro e w4 ⟨rfl, h4⟩
    go_wp2_with fail
    refine (addToTarget_does x (addToTarget_atts _ (unhide HR).at') h4 (by have := unhide HS; have := sz_addToTarget s ([38] ++ n.1); rw [List.length_append] at this; simp only [List.length_cons, List.length_nil] at this; omega)).mono ?_
    rintro e w5 ⟨rfl, h5⟩
    have d5 := back_cell h5
    rw [addToTarget_rback, addToTarget_rback] at d5
    go_wp2_with fail
    refine (again_does s.rback h5).mono ?_
    rintro e w6 ⟨rfl, h6⟩
    go_wp2
    go_ret
    exact ⟨rfl, by rw [unhide HO]; exact h6.unfresh K1⟩
end
end Go.Proofs.YtdfmapcnfficlaaGreatDoor

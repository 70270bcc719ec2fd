/-
  DECL.
  A region that only reads, where a guard says no: a step at a time, behind a wall.
-/
import Derived.Test.YtdfmapcnfficlaaGreatDoorB26
import Derived.Test.YtdfmapcnfficlaaGreatDoorB06
import Derived.Test.YtdfmapcnfficlaaGreatDoorB27
import Derived.Deep.QuietTactic
import Derived.BigQuiet
import Derived.Test.YtdfmapcnfficlaaGreatDoorRows
set_option linter.unusedSimpArgs false
set_option linter.unusedVariables false
namespace Go.Proofs.YtdfmapcnfficlaaGreatDoor
open Go Go.RowKit
section
variable {w0 : World} {own0 : Nat → Prop} {b : Nat} {s : TS} {ex : List Item} {w : World} {R : Regs}

def lowS (x : Str) : Str := Lib.mapD lowC x

theorem low_enters : ∀ args w, (callFunc 194 args).run Tryz.prog w = .ok (.enter 194 args) w := enters_of Tryz.func194 (by kernel_rfl) rfl

theorem strMap_does (x : Str) (w : World) (hx : x.length ≤ 64) (hT : Lib.Utf8Tabs 2 3 w) :
    Calls Tryz.prog 203 #[.func (.func 194) #[] #[], .string ⟨x.toArray⟩] w fun e w' => e = .returned (.string ⟨(lowS x).toArray⟩) ∧ More w w' := by
  have h := Tryz.strings_Map_runes 194 #[] low_enters lowC ⟨x.toArray⟩ w (by simp [ByteArray.size]; omega) (fun W y hy _ => by
    refine (low_does y W ⟨by omega, by omega⟩).mono ?_
    rintro e w' ⟨rfl, rfl⟩
    exact ⟨rfl, 0, rfl⟩) (fun y hy => by unfold lowC; split <;> omega) hT
  refine h.mono ?_
  rintro e w' ⟨rfl, hb⟩
  exact ⟨rfl, More.of_below hb⟩

theorem mapGoD_len (f : Int → Int) : ∀ (n : Nat) (l : List UInt8), (Lib.mapGoD f n l).length ≤ 4 * n
  | 0, _ => by simp [Lib.mapGoD]
  | n + 1, l => by
    rw [Lib.mapGoD]
    split
    · simp
    · have h1 := mapGoD_len f n (l.drop (Lib.decodeL l).2)
      have h2 := len_rune (f (Lib.decodeL l).1)
      rw [List.length_append]
      split
      · omega
      · simp; omega
theorem lowS_len (x : Str) : (lowS x).length ≤ 4 * x.length := mapGoD_len _ _ _

def mayDecl (x : Str) : Bool := partOf x [45, 45] || partOf (lowS x) [100, 111, 99, 116, 121, 112, 101] || partOf x [91, 67, 68, 65, 84, 65, 91]

set_option maxHeartbeats 1600000 in
set_option maxRecDepth 1000000 in
theorem mayDecl_does (x : Str) (w : World) (hx : x.length ≤ 64) (hT : Lib.Utf8Tabs 2 3 w) :
    Calls Tryz.prog 202 #[.string ⟨x.toArray⟩] w fun e w' => e = .returned (.bool (mayDecl x)) ∧ More w w' := by
  have H1 := hide (fun w => isPartOf_does x [45, 45] w (by unfold lim; omega) (by decide))
  have H2 := hide (fun w => isPartOf_does (lowS x) [100, 111, 99, 116, 121, 112, 101] w (by have := lowS_len x; unfold lim; omega) (by decide))
  have H3 := hide (fun w => isPartOf_does x [91, 67, 68, 65, 84, 65, 91] w (by unfold lim; omega) (by decide))
  have HM := hide (strMap_does x w hx hT)
  unfold mayDecl
  clear hx hT
  generalize lowS x = y at *
  cases h1 : partOf x [45, 45]
  · rw [h1] at H1
    cases h2 : partOf y [100, 111, 99, 116, 121, 112, 101]
    · rw [h2] at H2
      cases h3 : partOf x [91, 67, 68, 65, 84, 65, 91]
      all_goals
        rw [h3] at H3
        go_enter Tryz.func202, Tryz.ntmps202
        go_wp2_with fail
        refine (unhide H1 _).mono ?_
        rintro e w1 ⟨rfl, rfl⟩
        go_wp2_with fail
        refine (unhide HM).mono ?_
        rintro e w2 ⟨rfl, hm⟩
        go_wp2_with fail
        refine (unhide H2 _).mono ?_
        rintro e w3 ⟨rfl, rfl⟩
        go_wp2_with fail
        refine (unhide H3 _).mono ?_
        rintro e w4 ⟨rfl, rfl⟩
        go_wp2
        go_ret
        exact ⟨rfl, hm⟩
    · rw [h2] at H2
      go_enter Tryz.func202, Tryz.ntmps202
      go_wp2_with fail
      refine (unhide H1 _).mono ?_
      rintro e w1 ⟨rfl, rfl⟩
      go_wp2_with fail
      refine (unhide HM).mono ?_
      rintro e w2 ⟨rfl, hm⟩
      go_wp2_with fail
      refine (unhide H2 _).mono ?_
      rintro e w3 ⟨rfl, rfl⟩
      go_wp2
      go_ret
      exact ⟨rfl, hm⟩
  · rw [h1] at H1
    go_enter Tryz.func202, Tryz.ntmps202
    go_wp2_with fail
    refine (unhide H1 _).mono ?_
    rintro e w1 ⟨rfl, rfl⟩
    go_wp2
    go_ret
    exact ⟨rfl, More.refl _⟩

def noDecl (s : TS) : TS := { s with declared := [] }
def lookInDecl (s : TS) (c : Int) : Int × TS :=
  if mayDecl (s.declared ++ Lib.encodeRune c) = true then (0, { s with declared := s.declared ++ Lib.encodeRune c })
  else if s.declared ++ Lib.encodeRune c = [45, 45] then (0, { noDecl s with state := 20 })
  else if lowS (s.declared ++ Lib.encodeRune c) = [100, 111, 99, 116, 121, 112, 101] then (0, { noDecl s with state := 26 })
  else if s.declared ++ Lib.encodeRune c = [91, 67, 68, 65, 84, 65, 91] then (0, { addToComment (wrongAt (noDecl s) [99, 100, 97, 116, 97] (s.place - s.declared.length)) [91, 67, 68, 65, 84, 65, 91] with state := 19 })
  else (1, { addToComment (wrongAt (noDecl s) [100, 101, 99, 108, 97, 114, 97, 116, 105, 111, 110] (s.place - s.declared.length)) s.declared with state := 19 })

theorem tk_decl (h : Tk w0 own0 b s ex w) (l : Str) : Tk w0 own0 b { s with declared := l } ex (w.setCell ⟨b, 16, none⟩ (.string ⟨l.toArray⟩)) := by
  obtain ⟨⟨R, hR⟩, hk⟩ := h
  exact ⟨⟨R, hR.setCell 16 _ rfl rfl rfl rfl rfl⟩, hk.setCell _ _ hR.ownB⟩
theorem decl_cell (h : Tk w0 own0 b s ex w) : w.cell? ⟨b, 16, none⟩ = some (.string ⟨s.declared.toArray⟩) := by
  obtain ⟨R, hR⟩ := h.reg
  have := hR.1.cell 16
  exact this
theorem sz_noDecl (s : TS) : sz (noDecl s) ≤ sz s := by simp [sz, noDecl]

theorem lookInDecl_1 (s : TS) (c : Int) (h1 : mayDecl (s.declared ++ Lib.encodeRune c) = true) : lookInDecl s c = (0, { s with declared := s.declared ++ Lib.encodeRune c }) := by rw [lookInDecl, if_pos h1]
theorem lookInDecl_2 (s : TS) (c : Int) (h1 : mayDecl (s.declared ++ Lib.encodeRune c) = false) (h2 : s.declared ++ Lib.encodeRune c = [45, 45]) : lookInDecl s c = (0, { noDecl s with state := 20 }) := by rw [lookInDecl, if_neg (by rw [h1]; decide), if_pos h2]
theorem lookInDecl_3 (s : TS) (c : Int) (h1 : mayDecl (s.declared ++ Lib.encodeRune c) = false) (h2 : s.declared ++ Lib.encodeRune c ≠ [45, 45]) (h3 : lowS (s.declared ++ Lib.encodeRune c) = [100, 111, 99, 116, 121, 112, 101]) : lookInDecl s c = (0, { noDecl s with state := 26 }) := by rw [lookInDecl, if_neg (by rw [h1]; decide), if_neg h2, if_pos h3]
theorem lookInDecl_4 (s : TS) (c : Int) (h1 : mayDecl (s.declared ++ Lib.encodeRune c) = false) (h2 : s.declared ++ Lib.encodeRune c ≠ [45, 45]) (h3 : lowS (s.declared ++ Lib.encodeRune c) ≠ [100, 111, 99, 116, 121, 112, 101]) (h4 : s.declared ++ Lib.encodeRune c = [91, 67, 68, 65, 84, 65, 91]) : lookInDecl s c = (0, { addToComment (wrongAt (noDecl s) [99, 100, 97, 116, 97] (s.place - s.declared.length)) [91, 67, 68, 65, 84, 65, 91] with state := 19 }) := by rw [lookInDecl, if_neg (by rw [h1]; decide), if_neg h2, if_neg h3, if_pos h4]
theorem lookInDecl_5 (s : TS) (c : Int) (h1 : mayDecl (s.declared ++ Lib.encodeRune c) = false) (h2 : s.declared ++ Lib.encodeRune c ≠ [45, 45]) (h3 : lowS (s.declared ++ Lib.encodeRune c) ≠ [100, 111, 99, 116, 121, 112, 101]) (h4 : s.declared ++ Lib.encodeRune c ≠ [91, 67, 68, 65, 84, 65, 91]) : lookInDecl s c = (1, { addToComment (wrongAt (noDecl s) [100, 101, 99, 108, 97, 114, 97, 116, 105, 111, 110] (s.place - s.declared.length)) s.declared with state := 19 }) := by rw [lookInDecl, if_neg (by rw [h1]; decide), if_neg h2, if_neg h3, if_neg h4]

set_option maxHeartbeats 2000000 in
set_option maxRecDepth 1000000 in
theorem lookInDecl_does (c : Int) (hc : Rn c) (B : Base w0 own0) (hd : s.declared.length ≤ 8) (hp0 : 0 ≤ s.place) (hp1 : s.place ≤ 1099511627776) (h : Tk w0 own0 b s ex w) (hs : sz s + 128 ≤ lim) :
    Calls Tryz.prog 142 #[.pointer (some ⟨b, 0, none⟩), .int .i32 c] w fun e w' => e = .returned (.int .i64 (lookInDecl s c).1) ∧ Tk w0 own0 b (lookInDecl s c).2 ex w' := by
  have hcv : ∀ w, (convert 21 9 (.int .i32 c)).run Tryz.prog w = .ok (.string ⟨(Lib.encodeRune c).toArray⟩) w := fun w => by
    rw [run_convert_int_string w 21 9 .i32 c (by rw [Tryz.underlying21]; rfl) Tryz.underlying9, enc_eq]
  have hcat : ∀ w, _ := fun w => cat_run s.declared (Lib.encodeRune c) w (by have := len_rune c; unfold lim; omega)
  have hcl : (s.declared ++ Lib.encodeRune c).length ≤ 12 := by have := len_rune c; simp; omega
  have hdc := decl_cell h
  have hpc := place_cell h
  have hf := h.frozen
  have HT := hide h
  have HB := hide B
  have HS := hide hs
  have X1 := fun h => lookInDecl_1 s c h
  have X2 := fun h => lookInDecl_2 s c h
  have X3 := fun h => lookInDecl_3 s c h
  have X4 := fun h => lookInDecl_4 s c h
  have X5 := fun h => lookInDecl_5 s c h
  have HM := hide (fun w hT => mayDecl_does (s.declared ++ Lib.encodeRune c) w (by omega) hT)
  have HL := hide (fun w hT => strMap_does (s.declared ++ Lib.encodeRune c) w (by omega) hT)
  generalize s.declared ++ Lib.encodeRune c = x at *
  generalize lowS x = y at *
  clear h B hs
  go_enter Tryz.func142, Tryz.ntmps142
  go_wp2_with fail
  go_quiet (fail)
  have T1 := (unhide HT).more (more_drewN w nq)
  clear HT hdc hpc hf
  generalize w.drewN nq = W at *
  go_wp2_with fail
  refine (unhide HM _ ((unhide HB).at T1.2).tabs).mono ?_
  rintro e w2 ⟨rfl, hm2⟩
  have T2 := T1.more hm2
  have hdc := decl_cell T2
  have hf := T2.frozen
  clear T1 hm2 HM hcat hcv
  cases hmay : mayDecl x
  · by_cases h2 : x = [45, 45]
    · have HF := hide (X2 hmay h2)
      have H3 := hide (tk_decl T2 [])
      subst h2
      clear X1 X2 X3 X4 X5 HL T2
      go_wp2_with fail
      refine (to_does 20 (unhide H3)).mono ?_
      rintro e w4 ⟨rfl, h4⟩
      go_wp2
      go_ret
      exact ⟨by rw [unhide HF]; rfl, by rw [unhide HF]; exact h4⟩
    · have e2 : (x == [45, 45]) = false := by simpa using h2
      have H3 := hide (tk_decl T2 [])
      have HTAB := hide (((unhide HB).at (tk_decl T2 []).2).tabs)
      by_cases h3 : y = [100, 111, 99, 116, 121, 112, 101]
      · have HF := hide (X3 hmay h2 h3)
        subst h3
        clear X1 X2 X3 X4 X5 T2 h2
        go_wp2_with fail
        refine (unhide HL _ (unhide HTAB)).mono ?_
        rintro e w4 ⟨rfl, hm4⟩
        have T4 := (unhide H3).more hm4
        go_wp2_with fail
        refine (to_does 26 T4).mono ?_
        rintro e w5 ⟨rfl, h5⟩
        go_wp2
        go_ret
        exact ⟨by rw [unhide HF]; rfl, by rw [unhide HF]; exact h5⟩
      · have e3 : (y == [100, 111, 99, 116, 121, 112, 101]) = false := by simpa using h3
        by_cases h4 : x = [91, 67, 68, 65, 84, 65, 91]
        · have HF := hide (X4 hmay h2 h3 h4)
          subst h4
          clear X1 X2 X3 X4 X5 T2 h2 h3
          go_wp2_with fail
          refine (unhide HL _ (unhide HTAB)).mono ?_
          rintro e w4 ⟨rfl, hm4⟩
          have T4 := (unhide H3).more hm4
          go_wp2_with fail
          refine (wrongAt_sz [99, 100, 97, 116, 97] (s.place - s.declared.length) T4 (by have := unhide HS; have := sz_noDecl s; unfold noDecl at this; omega)).mono ?_
          rintro e w5 ⟨rfl, h5⟩
          go_wp2_with fail
          refine (addToComment_sz [91, 67, 68, 65, 84, 65, 91] h5 (by have := unhide HS; have := sz_noDecl s; unfold noDecl at this; rw [sz_wrongAt]; simp only [List.length_cons, List.length_nil]; omega)).mono ?_
          rintro e w6 ⟨rfl, h6⟩
          go_wp2_with fail
          refine (to_does 19 h6).mono ?_
          rintro e w7 ⟨rfl, h7⟩
          go_wp2
          go_ret
          exact ⟨by rw [unhide HF]; rfl, by rw [unhide HF]; exact h7⟩
        · have e4 : (x == [91, 67, 68, 65, 84, 65, 91]) = false := by simpa using h4
          have HF := hide (X5 hmay h2 h3 h4)
          clear X1 X2 X3 X4 X5 T2 h2 h3 h4
          go_wp2_with fail
          refine (unhide HL _ (unhide HTAB)).mono ?_
          rintro e w4 ⟨rfl, hm4⟩
          have T4 := (unhide H3).more hm4
          go_wp2_with fail
          refine (wrongAt_sz [100, 101, 99, 108, 97, 114, 97, 116, 105, 111, 110] (s.place - s.declared.length) T4 (by have := unhide HS; have := sz_noDecl s; unfold noDecl at this; omega)).mono ?_
          rintro e w5 ⟨rfl, h5⟩
          go_wp2_with fail
          refine (addToComment_sz s.declared h5 (by have := unhide HS; have := sz_noDecl s; unfold noDecl at this; rw [sz_wrongAt]; omega)).mono ?_
          rintro e w6 ⟨rfl, h6⟩
          go_wp2_with fail
          refine (again_does 19 h6).mono ?_
          rintro e w7 ⟨rfl, h7⟩
          go_wp2
          go_ret
          exact ⟨by rw [unhide HF]; rfl, by rw [unhide HF]; exact h7⟩
  · have HF := hide (X1 hmay)
    have H3 := hide (tk_decl T2 x)
    clear X1 X2 X3 X4 X5 HL T2
    go_wp2
    go_ret
    exact ⟨by rw [unhide HF]; rfl, by rw [unhide HF]; exact unhide H3⟩
end
end Go.Proofs.YtdfmapcnfficlaaGreatDoor

namespace Go.Proofs.YtdfmapcnfficlaaGreatDoor
open Go Go.RowKit
structure WpQ (P : Program) (ops : Array Oper) (C : World → Prop) (Q : Act → Prop) (l : List Oper) (a : Act) : Prop where
  out : wpQuiet P ops C Q l a
theorem WpQ.step {P : Program} {ops : Array Oper} {C : World → Prop} {Q : Act → Prop} {a : Act} {o : Oper} {rest : List Oper}
    (h : ∀ K : Act → Prop, (∀ a, WpQ P ops C Q rest a → K a) → if Region.wanted o (yielded ops a.tmps) then o.quiet P a C K else K (a.put o.dst undef)) : WpQ P ops C Q (o :: rest) a :=
  ⟨h _ (fun _ h => h.out)⟩
theorem WpQ.skip {P : Program} {ops : Array Oper} {C : World → Prop} {Q : Act → Prop} {a : Act} {o : Oper} {rest : List Oper} (hw : Region.wanted o (yielded ops a.tmps) = false) (h : WpQ P ops C Q rest (a.put o.dst undef)) : WpQ P ops C Q (o :: rest) a :=
  ⟨by unfold wpQuiet; rw [if_neg (by rw [hw]; decide)]; exact h.out⟩

end Go.Proofs.YtdfmapcnfficlaaGreatDoor

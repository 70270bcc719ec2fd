/-
  Code points out of bytes.
  Code points: one at a time.
-/
import Derived.Test.YtdfmapcnfficlaaGreatDoorB37
import Derived.Test.YtdfmapcnfficlaaGreatDoorB33
set_option linter.unusedSimpArgs false
set_option linter.unusedVariables false
namespace Go.Proofs.YtdfmapcnfficlaaGreatDoor
open Go Go.RowKit

theorem tabs_more {w w' : World} (h : Lib.Utf8Tabs 2 3 w) (hm : More w w') : Lib.Utf8Tabs 2 3 w' :=
  Utf8Tabs_below h ⟨hm.os, hm.tape, hm.output, hm.size, hm.block⟩
theorem More.trans {a b c : World} (h : More a b) (k : More b c) : More a c :=
  ⟨k.os.trans h.os, k.tape.trans h.tape, k.output.trans h.output, Nat.le_trans h.size k.size, fun i hi => (k.block i (Nat.lt_of_lt_of_le hi h.size)).trans (h.block i hi)⟩

def brokenFrom (x : Str) : Nat → Nat → Nat
  | 0, n => n
  | f + 1, n => if n < x.length ∧ fullR (x.take (n + 1)) = false then brokenFrom x f (n + 1) else n
def broken (x : Str) : Nat := brokenFrom x x.length 1
theorem brokenFrom_le (x : Str) : ∀ f n, n ≤ brokenFrom x f n ∧ (n ≤ x.length → brokenFrom x f n ≤ x.length)
  | 0, n => ⟨Nat.le_refl _, id⟩
  | f + 1, n => by
    rw [brokenFrom]
    split
    · rename_i h
      have := brokenFrom_le x f (n + 1)
      exact ⟨by omega, fun _ => this.2 (by omega)⟩
    · exact ⟨Nat.le_refl _, id⟩

set_option maxHeartbeats 1600000 in
set_option maxRecDepth 1000000 in
theorem brokenSize_does (x : Str) (w : World) (hx : x.length ≤ lim) (hT : Lib.Utf8Tabs 2 3 w) :
    Calls Tryz.prog 87 #[.string ⟨x.toArray⟩] w fun e w' => e = .returned (.int .i64 (broken x)) ∧ More w w' := by
  have HT := hide hT
  unfold lim at hx
  clear hT
  go_enter Tryz.func87, Tryz.ntmps87
  go_wp2
  go_loopg [3] x.length (fun gf s3 wx => ∃ n : Nat, s3 = .int .i64 n ∧ 1 ≤ n ∧ x.length ≤ n + gf ∧ n ≤ x.length + 1 ∧ brokenFrom x gf n = broken x ∧ More w wx)
  case atStart => exact ⟨1, rfl, by omega, by omega, by omega, rfl, More.refl _⟩
  case round =>
    obtain ⟨n, rfl, h1, h2, h3, hb, hm⟩ := hrel
    by_cases hn : n < x.length
    · obtain ⟨g', rfl⟩ : ∃ g', gk = g' + 1 := ⟨gk - 1, by omega⟩
      rw [brokenFrom] at hb
      have hnz : (n : Int) < (x.length : Int) := by omega
      have hsl : ∀ W, (Instr.slice 9 (.string ⟨x.toArray⟩) none (some (.int .i64 ((n : Int) + 1))) none).run Tryz.prog W = .ok (.string ⟨(x.take (n + 1)).toArray⟩) W := fun W => by
        rw [run_slice_string_to_if W 9 ⟨x.toArray⟩ .i64 ((n : Int) + 1) Tryz.underlying9, if_pos ⟨by omega, by simp [ByteArray.size]; omega⟩, show ((n : Int) + 1).toNat = n + 1 by omega, extract_list]
      have HC := hide (full_does (x.take (n + 1)) wr (tabs_more (unhide HT) hm))
      have HM := hide hm
      clear hm
      cases hf : fullR (x.take (n + 1))
      · rw [hf] at HC
        rw [if_pos ⟨hn, hf⟩] at hb
        have HB := hide hb
        clear hb hf
        go_wp2_with (go_at_call 85; refine (unhide HC).mono ?_; rintro e w2 ⟨rfl, hm2⟩)
        go_roundg g'
        case measure => omega
        case rel => exact ⟨n + 1, by go_num, by omega, by omega, by omega, unhide HB, (unhide HM).trans hm2⟩
      · rw [hf] at HC
        rw [if_neg (by rw [hf]; simp)] at hb
        have HB := hide hb
        clear hb hf
        go_wp2_with (go_at_call 85; refine (unhide HC).mono ?_; rintro e w2 ⟨rfl, hm2⟩)
        go_ret
        exact ⟨by rw [← unhide HB]; rfl, (unhide HM).trans hm2⟩
    · have hb' : n = broken x := by
        rw [← hb]
        cases gk with
        | zero => rfl
        | succ g => rw [brokenFrom, if_neg (fun hh => hn hh.1)]
      have hnz : (x.length : Int) ≤ (n : Int) := by omega
      have HB := hide hb'
      have HM := hide hm
      clear hb hb' hm
      go_wp2
      go_ret
      exact ⟨by rw [← unhide HB]; rfl, unhide HM⟩

def firstPt (x : Str) : Int × Nat :=
  if fullR x = false then (0, 0)
  else if ((Lib.decodeGo ⟨x.toArray⟩).1 : Int) = 65533 ∧ ((Lib.decodeGo ⟨x.toArray⟩).2 : Int) = 1 then (65533, broken x)
  else ((Lib.decodeGo ⟨x.toArray⟩).1, (Lib.decodeGo ⟨x.toArray⟩).2)

set_option maxHeartbeats 1600000 in
set_option maxRecDepth 1000000 in
theorem firstPoint_does (x : Str) (w : World) (hx : x.length ≤ lim) (hT : Lib.Utf8Tabs 2 3 w) :
    Calls Tryz.prog 55 #[.string ⟨x.toArray⟩] w fun e w' => e = .returned (.tuple #[.int .i32 (firstPt x).1, .int .i64 (firstPt x).2]) ∧ More w w' := by
  have HC := hide (full_does x w hT)
  have HD := hide (fun w' (h : More w w') => Tryz.utf8_DecodeRuneInString ⟨x.toArray⟩ w' (tabs_more hT h))
  have HB := hide (fun w' (h : More w w') => brokenSize_does x w' hx (tabs_more hT h))
  clear hT hx
  unfold firstPt
  generalize ((Lib.decodeGo ⟨x.toArray⟩).1 : Nat) = d at *
  generalize ((Lib.decodeGo ⟨x.toArray⟩).2 : Nat) = k at *
  cases hf : fullR x
  · rw [hf] at HC
    rw [if_pos rfl]
    go_enter Tryz.func55, Tryz.ntmps55
    go_wp2_with (go_at_call 85; refine (unhide HC).mono ?_; rintro e w2 ⟨rfl, hm2⟩)
    go_ret2
    exact ⟨rfl, hm2⟩
  · rw [hf] at HC
    rw [if_neg (by decide)]
    by_cases h1 : (d : Int) = 65533
    · have e1 : ((d : Int) == 65533) = true := by simp [h1]
      by_cases h2 : (k : Int) = 1
      · have e2 : ((k : Int) == 1) = true := by simp [h2]
        rw [if_pos ⟨h1, h2⟩]
        clear h2
        go_enter Tryz.func55, Tryz.ntmps55
        go_wp2_with (first
          | (go_at_call 85; refine (unhide HC).mono ?_; rintro e w2 ⟨rfl, hm2⟩)
          | (go_at_call 86; refine (unhide HD _ hm2).mono ?_; rintro e w3 ⟨rfl, hb3⟩; have hm3 := hm2.trans (More.of_below hb3))
          | (go_at_call 87; refine (unhide HB _ hm3).mono ?_; rintro e w4 ⟨rfl, hm4⟩))
        go_ret2
        exact ⟨by simp [h1], hm3.trans hm4⟩
      · have e2 : ((k : Int) == 1) = false := by simpa using h2
        rw [if_neg (fun hh => h2 hh.2)]
        clear h2 h1
        go_enter Tryz.func55, Tryz.ntmps55
        go_wp2_with (first
          | (go_at_call 85; refine (unhide HC).mono ?_; rintro e w2 ⟨rfl, hm2⟩)
          | (go_at_call 86; refine (unhide HD _ hm2).mono ?_; rintro e w3 ⟨rfl, hb3⟩; have hm3 := hm2.trans (More.of_below hb3)))
        go_ret2
        exact ⟨rfl, hm3⟩
    · have e1 : ((d : Int) == 65533) = false := by simpa using h1
      rw [if_neg (fun hh => h1 hh.1)]
      clear h1
      go_enter Tryz.func55, Tryz.ntmps55
      go_wp2_with (first
        | (go_at_call 85; refine (unhide HC).mono ?_; rintro e w2 ⟨rfl, hm2⟩)
        | (go_at_call 86; refine (unhide HD _ hm2).mono ?_; rintro e w3 ⟨rfl, hb3⟩; have hm3 := hm2.trans (More.of_below hb3)))
      go_ret2
      exact ⟨rfl, hm3⟩
end Go.Proofs.YtdfmapcnfficlaaGreatDoor

set_option linter.unusedSimpArgs false
set_option linter.unusedVariables false
namespace Go.Proofs.YtdfmapcnfficlaaGreatDoor
open Go Go.RowKit
section
variable {w0 : World} {own0 : Nat → Prop} {b : Nat} {s : TS} {ex : List Item} {w : World} {R : Regs}

def setBehind (s : TS) (c : Int) : TS := { s with behind := c == 13 }
def pass (n : Nat) (s : TS) (c : Int) : TS :=
  if c = 10 ∧ s.behind = true then setBehind s c
  else if c = 13 then lookAtNext n (setBehind s c) 10
  else lookAtNext n (setBehind s c) c

theorem behind_cell (h : Tk w0 own0 b s ex w) : w.cell? ⟨b, 1, none⟩ = some (.bool s.behind) := by
  obtain ⟨R, hR⟩ := h.reg
  have := hR.1.cell 1
  exact this
theorem begun_cell (h : Tk w0 own0 b s ex w) : w.cell? ⟨b, 0, none⟩ = some (.string ⟨s.begun.toArray⟩) := by
  obtain ⟨R, hR⟩ := h.reg
  have := hR.1.cell 0
  exact this
theorem tk_behind (h : Tk w0 own0 b s ex w) (v : Bool) : Tk w0 own0 b { s with behind := v } ex (w.setCell ⟨b, 1, none⟩ (.bool v)) := by
  obtain ⟨⟨R, hR⟩, hk⟩ := h
  exact ⟨⟨R, hR.setCell 1 _ rfl rfl rfl rfl rfl⟩, hk.setCell _ _ hR.ownB⟩
theorem tk_begun (h : Tk w0 own0 b s ex w) (l : Str) : Tk w0 own0 b { s with begun := l } ex (w.setCell ⟨b, 0, none⟩ (.string ⟨l.toArray⟩)) := by
  obtain ⟨⟨R, hR⟩, hk⟩ := h
  exact ⟨⟨R, hR.setCell 0 _ rfl rfl rfl rfl rfl⟩, hk.setCell _ _ hR.ownB⟩

/-- The method value t.lookAtNext. -/
def lookV (b : Nat) : Value := .func (.func 34) #[.pointer (some ⟨b, 0, none⟩)] #[]

/-- What is looked at now may be looked at. -/
structure May (w0 : World) (own0 : Nat → Prop) (n : Nat) (s : TS) (c : Int) : Prop where
  runs : Runs w0 own0 n s c
  place0 : 0 ≤ (lookN n s c).place
  place1 : (lookN n s c).place ≤ 1099511627776

set_option maxHeartbeats 1600000 in
set_option maxRecDepth 1000000 in
theorem pass_does (n : Nat) (c : Int) (hm : ¬ (c = 10 ∧ s.behind = true) → May w0 own0 n (setBehind s c) (if c = 13 then 10 else c)) (h : Tk w0 own0 b s ex w) :
    Calls Tryz.prog 56 #[.pointer (some ⟨b, 0, none⟩), .int .i32 c, lookV b] w fun e w' => e = .returned (.tuple #[]) ∧ Tk w0 own0 b (pass n s c) ex w' := by
  have c1 := behind_cell h
  have f1 := h.frozen
  have H1 := hide (tk_behind h (c == 13))
  unfold lookV
  by_cases h10 : c = 10
  · subst h10
    cases hb : s.behind
    · rw [hb] at c1
      have hm' := hm (by simp [hb])
      have HL := hide (lookAtNext_does (s := setBehind s 10) 10 n hm'.runs hm'.place0 hm'.place1 (tk_behind h (10 == 13)))
      rw [show pass n s 10 = lookAtNext n (setBehind s 10) 10 by simp [pass, hb]]
      clear h hm hm'
      go_enter Tryz.func56, Tryz.ntmps56
      go_wp2_with (go_at_call 34; refine (unhide HL).mono ?_; rintro e w1 ⟨rfl, h1⟩)
      go_end0
      exact ⟨rfl, h1⟩
    · rw [hb] at c1
      rw [show pass n s 10 = setBehind s 10 by simp [pass, hb]]
      clear h hm
      go_enter Tryz.func56, Tryz.ntmps56
      go_wp2
      go_end0
      exact ⟨rfl, unhide H1⟩
  · have e10 : (c == 10) = false := beq_eq_false_iff_ne.2 h10
    have hm' := hm (fun hh => h10 hh.1)
    by_cases h13 : c = 13
    · subst h13
      rw [if_pos rfl] at hm'
      have HL := hide (lookAtNext_does (s := setBehind s 13) 10 n hm'.runs hm'.place0 hm'.place1 (tk_behind h (13 == 13)))
      rw [show pass n s 13 = lookAtNext n (setBehind s 13) 10 by simp [pass]]
      clear h hm hm'
      go_enter Tryz.func56, Tryz.ntmps56
      go_wp2_with (go_at_call 34; refine (unhide HL).mono ?_; rintro e w1 ⟨rfl, h1⟩)
      go_end0
      exact ⟨rfl, h1⟩
    · rw [if_neg h13] at hm'
      have e13 : (c == 13) = false := beq_eq_false_iff_ne.2 h13
      have HL := hide (lookAtNext_does (s := setBehind s c) c n hm'.runs hm'.place0 hm'.place1 (tk_behind h (c == 13)))
      rw [show pass n s c = lookAtNext n (setBehind s c) c by simp [pass, h10, h13]]
      rw [e13] at HL
      clear h hm hm' H1
      go_enter Tryz.func56, Tryz.ntmps56
      go_wp2_with (go_at_call 34; refine (unhide HL).mono ?_; rintro e w1 ⟨rfl, h1⟩)
      go_end0
      exact ⟨rfl, h1⟩
end
end Go.Proofs.YtdfmapcnfficlaaGreatDoor

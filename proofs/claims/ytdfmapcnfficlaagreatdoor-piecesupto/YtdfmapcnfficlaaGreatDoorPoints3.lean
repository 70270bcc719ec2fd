/-
  Code points: all that are whole.
-/
import Derived.Test.YtdfmapcnfficlaaGreatDoorPoints2
import Derived.Lib.QuoteLoop
set_option linter.unusedSimpArgs false
set_option linter.unusedVariables false
namespace Go.Proofs.YtdfmapcnfficlaaGreatDoor
open Go Go.RowKit
section
variable {w0 : World} {own0 : Nat → Prop} {b : Nat} {s : TS} {ex : List Item} {w : World} {R : Regs}

set_option maxHeartbeats 800000 in
set_option maxRecDepth 1000000 in
theorem clone_does (x : Str) (w : World) (hx : x.length ≤ lim) : Calls Tryz.prog 57 #[.string ⟨x.toArray⟩] w fun e w' => e = .returned (.string ⟨x.toArray⟩) ∧ More w w' := by
  have H := hide (Tryz.stringslite_Clone ⟨x.toArray⟩ w (by unfold lim at hx; simp [ByteArray.size]; omega))
  clear hx
  go_enter Tryz.func57, Tryz.ntmps57
  go_wp2_with (go_at_call 88; refine (unhide H).mono ?_; rintro e w1 ⟨rfl, hb⟩)
  go_ret
  exact ⟨rfl, More.of_below hb⟩

def readN (n : Nat) : Nat → TS → Str → TS × Str
  | 0, s, r => (s, r)
  | f + 1, s, r => if (firstPt r).2 = 0 then (s, r) else readN n f (pass n s (firstPt r).1) (r.drop (firstPt r).2)
def read (n f : Nat) (s : TS) (chunk : Str) : TS := { (readN n f s (s.begun ++ chunk)).1 with begun := (readN n f s (s.begun ++ chunk)).2 }

/-- Each code point may be looked at, and there are at most so many. -/
def Reads (w0 : World) (own0 : Nat → Prop) (n : Nat) : Nat → TS → Str → Prop
  | 0, _, r => (firstPt r).2 = 0
  | f + 1, s, r => (firstPt r).2 = 0 ∨ ((firstPt r).2 ≠ 0 ∧ (¬ ((firstPt r).1 = 10 ∧ s.behind = true) → May w0 own0 n (setBehind s (firstPt r).1) (if (firstPt r).1 = 13 then 10 else (firstPt r).1)) ∧ Reads w0 own0 n f (pass n s (firstPt r).1) (r.drop (firstPt r).2))

theorem firstPt_le (x : Str) : (firstPt x).2 ≤ x.length := by
  unfold firstPt
  cases hx : x with
  | nil => simp [fullR]
  | cons a r =>
    rw [← hx]
    have hl : 1 ≤ x.length := by rw [hx]; simp
    have hs : (⟨x.toArray⟩ : ByteArray).size = x.length := by simp [ByteArray.size]
    split
    · simp
    · split
      · exact (brokenFrom_le x x.length 1).2 hl
      · unfold Lib.decodeGo
        rw [if_neg (by omega)]
        have := Lib.width_le ⟨x.toArray⟩ (by omega)
        omega

set_option maxHeartbeats 1600000 in
set_option maxRecDepth 1000000 in
theorem read_does (n f : Nat) (chunk : Str) (B : Base w0 own0) (hc : s.begun.length + chunk.length ≤ lim) (hr : Reads w0 own0 n f s (s.begun ++ chunk)) (h : Tk w0 own0 b s ex w) :
    Calls Tryz.prog 33 #[.pointer (some ⟨b, 0, none⟩), .string ⟨chunk.toArray⟩, lookV b] w fun e w' => e = .returned (.tuple #[]) ∧ Tk w0 own0 b (read n f s chunk) ex w' := by
  have hcat := cat_run s.begun chunk w hc
  have c1 := begun_cell h
  have HT := hide h
  have HR := hide hr
  have HB := hide B
  have hl : (s.begun ++ chunk).length ≤ lim := by simpa using hc
  unfold lookV read
  clear h hr B
  generalize hx0 : s.begun ++ chunk = x0 at *
  go_enter Tryz.func33, Tryz.ntmps33
  go_wp2
  go_loopg [6] f (fun gf s6 wx => ∃ (s1 : TS) (r : Str), s6 = .string ⟨r.toArray⟩ ∧ r.length ≤ lim ∧ Reads w0 own0 n gf s1 r ∧ readN n gf s1 r = readN n f s x0 ∧ Tk w0 own0 b s1 ex wx)
  case atStart => exact ⟨s, x0, rfl, hl, unhide HR, rfl, unhide HT⟩
  case round =>
    obtain ⟨s1, r, rfl, hrl, hR, hN, hT⟩ := hrel
    have HC := hide (firstPoint_does r wr hrl ((unhide HB).at hT.2).tabs)
    have hle := firstPt_le r
    cases gk with
    | zero =>
      have hz : (firstPt r).2 = 0 := hR
      rw [readN] at hN
      rw [hz] at HC
      have HN := hide hN
      have hzi : (((firstPt r).2 : Int) == 0) = true := by simp [hz]
      have HCl := hide (fun w' => clone_does r w' hrl)
      have HTT := hide hT
      clear hN hT hR
      generalize (firstPt r).1 = c at *
      go_wp2_with fail
      refine (unhide HC).mono ?_
      rintro e w2 ⟨rfl, hm2⟩
      go_wp2_with fail
      refine (unhide HCl _).mono ?_
      rintro e w3 ⟨rfl, hm3⟩
      have T3 := (unhide HTT).more (hm2.trans hm3)
      have d3 := begun_cell T3
      have f3 := T3.frozen
      have H4 := hide (tk_begun T3 r)
      clear T3
      go_wp2
      go_end0
      exact ⟨rfl, by rw [← unhide HN]; exact unhide H4⟩
    | succ g' =>
      rw [readN] at hN
      rcases hR with hz | ⟨hz, hmay, hrest⟩
      · rw [if_pos hz] at hN
        rw [hz] at HC
        have hR := True.intro
        have HN := hide hN
        have hzi : (((firstPt r).2 : Int) == 0) = true := by simp [hz]
        have HCl := hide (fun w' => clone_does r w' hrl)
        have HTT := hide hT
        clear hN hT hR
        generalize (firstPt r).1 = c at *
        go_wp2_with fail
        refine (unhide HC).mono ?_
        rintro e w2 ⟨rfl, hm2⟩
        go_wp2_with fail
        refine (unhide HCl _).mono ?_
        rintro e w3 ⟨rfl, hm3⟩
        have T3 := (unhide HTT).more (hm2.trans hm3)
        have d3 := begun_cell T3
        have f3 := T3.frozen
        have H4 := hide (tk_begun T3 r)
        clear T3
        go_wp2
        go_end0
        exact ⟨rfl, by rw [← unhide HN]; exact unhide H4⟩
      · rw [if_neg hz] at hN
        have HN := hide hN
        have HRest := hide hrest
        have HP := hide (fun w' (hw : More wr w') => pass_does n (firstPt r).1 hmay (hT.more hw))
        have hzi : (((firstPt r).2 : Int) == 0) = false := by simpa using hz
        have hsl : ∀ W, (Instr.slice 9 (.string ⟨r.toArray⟩) (some (.int .i64 ((firstPt r).2 : Int))) none none).run Tryz.prog W = .ok (.string ⟨(r.drop (firstPt r).2).toArray⟩) W := fun W => by
          rw [run_slice_string_from_if W 9 ⟨r.toArray⟩ .i64 (firstPt r).2 Tryz.underlying9, if_pos ⟨by omega, by simp [ByteArray.size]; omega⟩, Int.toNat_natCast, extract_drop]
        unfold lookV at HP
        clear hN hrest hmay hT hz
        generalize (firstPt r).1 = c at *
        generalize (firstPt r).2 = k at *
        go_wp2_with (first
          | (go_at_call 55; refine (unhide HC).mono ?_; rintro e w2 ⟨rfl, hm2⟩)
          | (go_at_call 56; refine (unhide HP _ hm2).mono ?_; rintro e w3 ⟨rfl, h3⟩))
        go_roundg g'
        case measure => omega
        case rel => exact ⟨_, _, rfl, by simp; omega, unhide HRest, unhide HN, h3⟩
end
end Go.Proofs.YtdfmapcnfficlaaGreatDoor

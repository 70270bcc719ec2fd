/-
  A look, till a state has taken the code point.
-/
import Derived.Test.YtdfmapcnfficlaaGreatDoorOnce2
set_option linter.unusedSimpArgs false
set_option linter.unusedVariables false
namespace Go.Proofs.YtdfmapcnfficlaaGreatDoor
open Go Go.RowKit
section
variable {w0 : World} {own0 : Nat → Prop} {b : Nat} {s : TS} {ex : List Item} {w : World} {R : Regs}

def lookN : Nat → TS → Int → TS
  | 0, s, _ => s
  | n + 1, s, c => if (lookOnce s c).1 = 0 then (lookOnce s c).2 else lookN n (lookOnce s c).2 c

/-- The look ends behind at most n states, and each may look. -/
def Runs (w0 : World) (own0 : Nat → Prop) : Nat → TS → Int → Prop
  | 0, _, _ => False
  | n + 1, s, c => Pre w0 own0 s c ∧ 0 ≤ s.state ∧ s.state ≤ 35 ∧ ((lookOnce s c).1 = 0 ∨ ((lookOnce s c).1 = 1 ∧ Runs w0 own0 n (lookOnce s c).2 c))

set_option maxHeartbeats 1600000 in
set_option maxRecDepth 1000000 in
theorem look_does (c : Int) (n : Nat) (hr : Runs w0 own0 n s c) (h : Tk w0 own0 b s ex w) :
    Calls Tryz.prog 58 #[.pointer (some ⟨b, 0, none⟩), .int .i32 c] w fun e w' => e = .returned (.tuple #[]) ∧ Tk w0 own0 b (lookN n s c) ex w' := by
  have HT := hide h
  have HR := hide hr
  clear h hr
  go_enter Tryz.func58, Tryz.ntmps58
  go_wp2
  go_step3
  go_wp2
  go_step3
  go_wp2
  go_loopg [] n (fun gf wx => ∃ s1 : TS, Runs w0 own0 gf s1 c ∧ lookN gf s1 c = lookN n s c ∧ Tk w0 own0 b s1 ex wx)
  case atStart => exact ⟨s, unhide HR, rfl, unhide HT⟩
  case round =>
    obtain ⟨s1, hr1, hl1, h1⟩ := hrel
    cases gk with
    | zero => exact absurd hr1 id
    | succ g' =>
      obtain ⟨hp, h0, h35, hv⟩ := hr1
      have HC := hide (lookOnce_does c hp h0 h35 h1)
      rw [lookN] at hl1
      rcases hv with hv | ⟨hv, hr2⟩
      · rw [if_pos hv] at hl1
        rw [hv] at HC
        have HL := hide hl1
        clear hp h1 hl1 HT HR
        go_wp2_with (go_at_call 89; refine (unhide HC).mono ?_; rintro e w2 ⟨rfl, h2⟩)
        rw [Exit.noGoto_normal]
        go_end0
        exact ⟨rfl, by rw [← unhide HL]; exact h2⟩
      · rw [if_neg (by rw [hv]; decide)] at hl1
        rw [hv] at HC
        have HL := hide hl1
        have HR2 := hide hr2
        clear hp h1 hl1 HT HR hr2
        go_wp2_with (go_at_call 89; refine (unhide HC).mono ?_; rintro e w2 ⟨rfl, h2⟩)
        go_roundg g'
        case measure => omega
        case rel => exact ⟨_, unhide HR2, unhide HL, h2⟩

def lookAtNext (n : Nat) (s : TS) (c : Int) : TS := { lookN n s c with place := (lookN n s c).place + 1 }

theorem tk_place (h : Tk w0 own0 b s ex w) (p : Int) : Tk w0 own0 b { s with place := p } ex (w.setCell ⟨b, 7, none⟩ (.int .i64 p)) := by
  obtain ⟨⟨R, hR⟩, hk⟩ := h
  exact ⟨⟨R, hR.setCell 7 _ rfl rfl rfl rfl rfl⟩, hk.setCell _ _ hR.ownB⟩

set_option maxHeartbeats 1600000 in
set_option maxRecDepth 1000000 in
theorem lookAtNext_does (c : Int) (n : Nat) (hr : Runs w0 own0 n s c) (hp0 : 0 ≤ (lookN n s c).place) (hp1 : (lookN n s c).place ≤ 1099511627776) (h : Tk w0 own0 b s ex w) :
    Calls Tryz.prog 34 #[.pointer (some ⟨b, 0, none⟩), .int .i32 c] w fun e w' => e = .returned (.tuple #[]) ∧ Tk w0 own0 b (lookAtNext n s c) ex w' := by
  have HC := hide (look_does c n hr h)
  clear h hr
  unfold lookAtNext
  generalize lookN n s c = s1 at *
  go_enter Tryz.func34, Tryz.ntmps34
  go_wp2_with fail
  refine (unhide HC).mono ?_
  rintro e w1 ⟨rfl, h1⟩
  have c1 := place_cell h1
  have f1 := h1.frozen
  have H2 := hide (tk_place h1 (s1.place + 1))
  clear h1
  go_wp2
  go_end0
  exact ⟨rfl, unhide H2⟩
end
end Go.Proofs.YtdfmapcnfficlaaGreatDoor

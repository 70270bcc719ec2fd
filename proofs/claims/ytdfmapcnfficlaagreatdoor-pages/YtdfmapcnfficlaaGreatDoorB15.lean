/-
  To a reference.
-/
import Derived.Test.YtdfmapcnfficlaaGreatDoorB05
set_option linter.unusedSimpArgs false
set_option linter.unusedVariables false
namespace Go.Proofs.YtdfmapcnfficlaaGreatDoor
open Go Go.RowKit
section
variable {w0 : World} {own0 : Nat → Prop} {b : Nat} {s : TS} {ex : List Item} {w : World} {R : Regs}

def zeroRef (s : TS) : TS := { s with rback := s.state, rcome := [], rsix := false, rdig := false, rnum := 0 }
def toReference (s : TS) : TS := { zeroRef s with state := 31 }

theorem tk_zeroRef (h : TkR w0 own0 b s R ex w) : Tk w0 own0 b (zeroRef s) ex (((((w.setCell ⟨b, 20, none⟩ (.int .i64 s.state)).setCell ⟨b, 21, none⟩ (.string ⟨#[]⟩)).setCell ⟨b, 22, none⟩ (.bool false)).setCell ⟨b, 23, none⟩ (.bool false)).setCell ⟨b, 24, none⟩ (.int .i32 0)) := by
  obtain ⟨h1, k1⟩ := h
  exact ⟨⟨R, (((((h1.setCell (s' := { s with rback := s.state }) 20 _ rfl rfl rfl rfl rfl).setCell (s' := { s with rback := s.state, rcome := [] }) 21 _ rfl rfl rfl rfl rfl).setCell (s' := { s with rback := s.state, rcome := [], rsix := false }) 22 _ rfl rfl rfl rfl rfl).setCell (s' := { s with rback := s.state, rcome := [], rsix := false, rdig := false }) 23 _ rfl rfl rfl rfl rfl).setCell 24 _ rfl rfl rfl rfl rfl)⟩,
    (((((k1.setCell _ _ h1.ownB).setCell _ _ h1.ownB).setCell _ _ h1.ownB).setCell _ _ h1.ownB).setCell _ _ h1.ownB)⟩

set_option maxHeartbeats 800000 in
set_option maxRecDepth 1000000 in
theorem toReference_does (h : Tk w0 own0 b s ex w) (hs : sz s + 1 ≤ lim) :
    Calls Tryz.prog 124 #[.pointer (some ⟨b, 0, none⟩)] w fun e w' => e = .returned (.int .i64 0) ∧ Tk w0 own0 b (toReference s) ex w' := by
  clear hs
  obtain ⟨R, hR⟩ := h.reg
  have c4 := hR.1.cell 5
  have c0 := hR.1.cell 20
  have c1 := hR.1.cell 21
  have c2 := hR.1.cell 22
  have c3 := hR.1.cell 23
  have c5 := hR.1.cell 24
  have f1 := hR.1.frozen
  simp only [cellsOf] at c0 c1 c2 c3 c4 c5
  have h1 := tk_zeroRef hR
  go_enter Tryz.func124, Tryz.ntmps124
  go_wp2_with fail
  refine (to_does 31 h1).mono ?_
  rintro e w2 ⟨rfl, h2⟩
  go_wp2
  go_ret
  exact ⟨rfl, h2⟩
end
end Go.Proofs.YtdfmapcnfficlaaGreatDoor

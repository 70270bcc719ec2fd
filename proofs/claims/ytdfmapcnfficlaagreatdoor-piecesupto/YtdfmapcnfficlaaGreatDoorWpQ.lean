/-
  A region that only reads, where a guard says no: a step at a time, behind a wall.
-/
import Derived.Test.YtdfmapcnfficlaaGreatDoorRows
import Derived.Deep.QuietTactic
import Derived.BigQuiet
namespace Go.Proofs.YtdfmapcnfficlaaGreatDoor
open Go Go.RowKit
structure WpQ (P : Program) (ops : Array Oper) (C : World → Prop) (Q : Act → Prop) (l : List Oper) (a : Act) : Prop where
  out : wpQuiet P ops C Q l a
theorem WpQ.step {P : Program} {ops : Array Oper} {C : World → Prop} {Q : Act → Prop} {a : Act} {o : Oper} {rest : List Oper}
    (h : ∀ K : Act → Prop, (∀ a, WpQ P ops C Q rest a → K a) → if Region.wanted o (yielded ops a.tmps) then o.quiet P a C K else K (a.put o.dst undef)) : WpQ P ops C Q (o :: rest) a :=
  ⟨h _ (fun _ h => h.out)⟩
theorem WpQ.skip {P : Program} {ops : Array Oper} {C : World → Prop} {Q : Act → Prop} {a : Act} {o : Oper} {rest : List Oper} (hw : Region.wanted o (yielded ops a.tmps) = false) (h : WpQ P ops C Q rest (a.put o.dst undef)) : WpQ P ops C Q (o :: rest) a :=
  ⟨by unfold wpQuiet; rw [if_neg (by rw [hw]; decide)]; exact h.out⟩

end Go.Proofs.YtdfmapcnfficlaaGreatDoor

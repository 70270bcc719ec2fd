/-
  The names of a tag's attributes.
-/
import Derived.Test.YtdfmapcnfficlaaGreatDoorAtts3
set_option linter.unusedSimpArgs false
set_option linter.unusedVariables false
namespace Go.Proofs.YtdfmapcnfficlaaGreatDoor
open Go Go.RowKit

theorem sameKey_str (a b : Str) : (Lit.string a).sameKey (Lit.string b) = (a == b) := by
  simp [Lit.sameKey]

theorem has_names (ks : List Str) (n : Str) : Maps.has (Maps.setOf (DataW.agg (H := Unit) []) (ks.map Lit.string)) (Lit.string n) = ks.contains n := by
  rw [Maps.has_setOf _ _ _ (by intro x hx; obtain ⟨y, _, rfl⟩ := List.mem_map.1 hx; trivial)]
  induction ks with
  | nil => rfl
  | cons k r ih =>
    simp only [List.map_cons, List.any_cons, sameKey_str, List.contains_cons, ih, BEq.comm (a := k) (b := n)]

section
variable {w0 : World} {own0 : Nat → Prop} {b : Nat} {s : TS} {ex : List Item} {w : World} {R : Regs}

def nameIsNew (s : TS) (n : Str) : Bool × TS :=
  if (s.tag.names.getD []).contains n = true then (false, s) else (true, { s with tag := { s.tag with names := some (s.tag.names.getD [] ++ [n]) } })

theorem RepAt.newName {own : Nat → Prop} (h : RepAt w own b s R ex) {w' : World} {g : Nat} (ks : List Str) (hg : R.names = some g) (hown : w'.ownsMap Tryz.prog 9 (unitElem (H := Unit)) g ks.length (Maps.setOf (.agg []) (ks.map Lit.string)))
    (hgr : w.grownBy w' (some g)) : RepAt w' own b { s with tag := { s.tag with names := some ks } } R ex := by
  have hgb := h.mapB g hg
  refine ⟨?_, h.ownB, ?_, ?_, h.mapB, h.la, h.lv, h.lt⟩
  · rw [hgr.block b h.lt_b (by simp; exact Ne.symm hgb.2)]; exact h.self
  · exact h.rows.kept fun k hk hh => hgr.block k hk (by rw [← hg]; exact hh.2.2)
  · rw [hg]; exact hown

theorem Kept.newName (hk : Kept own0 w0 w) {w' : World} {g : Nat} (hgr : w.grownBy w' (some g)) (hg : own0 g ∨ w0.heap.size ≤ g) : Kept own0 w0 w' :=
  hk.grown (More.refl w) hgr (fun k e => by injection e with e; subst e; exact hg)
end
end Go.Proofs.YtdfmapcnfficlaaGreatDoor

/-
  The same tokenizer, seen from a later start: what was laid since stands.
-/
import Derived.Test.YtdfmapcnfficlaaGreatDoorRep2
namespace Go.Proofs.YtdfmapcnfficlaaGreatDoor
open Go Go.RowKit
section
variable {w0 : World} {own0 : Nat → Prop} {b : Nat} {s : TS} {ex : List Item} {w : World}

/-- What was one's own when the world was w. -/
def ownAt (w0 : World) (own0 : Nat → Prop) (w : World) : Nat → Prop := fun k => (own0 k ∨ w0.heap.size ≤ k) ∧ k < w.heap.size

theorem Tk.fresh {w' : World} (h : Tk w0 own0 b s ex w) (hm : More w w') : Tk w' (ownAt w0 own0 w) b s ex w' := by
  obtain ⟨⟨R0, hR0⟩, hk0⟩ := h
  have h2 : ∀ R, RepAt w (fun k => own0 k ∨ w0.heap.size ≤ k) b s R ex → RepAt w' (fun k => ownAt w0 own0 w k ∨ w'.heap.size ≤ k) b s R ex := fun R hR => by
    refine ⟨?_, .inl ⟨hR.ownB, hR.lt_b⟩, ⟨?_, hR.rows.nodup, fun k hk' => ?_⟩, mapOf_kept hR.map fun g hg => hm.block g (hR.map_lt g hg), fun g hg => ⟨.inl ⟨(hR.mapB g hg).1, hR.map_lt g hg⟩, (hR.mapB g hg).2⟩, hR.la, hR.lv, hR.lt⟩
    · rw [hm.block b hR.lt_b]; exact hR.self
    · exact (hR.rows.kept (w' := w') fun k hk' _ => hm.block k hk').ok
    · obtain ⟨x, hx, hb⟩ := List.mem_filterMap.1 hk'
      exact ⟨.inl ⟨(hR.rows.own k hk').1, Item.lt (hR.rows.ok x hx) k hb⟩, (hR.rows.own k hk').2⟩
  exact ⟨⟨R0, h2 R0 hR0⟩, Kept.refl _ _⟩

theorem Tk.unfresh {w1 w2 : World} (h : Tk w1 (ownAt w0 own0 w) b s ex w2) (hk : Kept own0 w0 w1) : Tk w0 own0 b s ex w2 := by
  obtain ⟨⟨R, hR⟩, hk1⟩ := h
  have hup : ∀ k, (ownAt w0 own0 w k ∨ w1.heap.size ≤ k) → (own0 k ∨ w0.heap.size ≤ k) := fun k hh => hh.elim (fun h => h.1) (fun h => .inr (Nat.le_trans hk.size h))
  refine ⟨⟨R, hR.self, hup _ hR.ownB, ⟨hR.rows.ok, hR.rows.nodup, fun k hk' => ⟨hup _ (hR.rows.own k hk').1, (hR.rows.own k hk').2⟩⟩, hR.map, fun g hg => ⟨hup _ (hR.mapB g hg).1, (hR.mapB g hg).2⟩, hR.la, hR.lv, hR.lt⟩, ?_⟩
  exact hk.trans hk1 fun x hx hh => hh.1.elim id (fun h => by omega)

/-- A block that was laid behind what is one's own stands. -/
theorem Tk.stands {w1 w2 : World} (h : Tk w1 (ownAt w0 own0 w) b s ex w2) {g : Nat} (h1 : w.heap.size ≤ g) (h2 : g < w1.heap.size) : w2.heap[g]? = w1.heap[g]? :=
  h.2.block g h2 (fun hh => by have := hh.2; omega)

theorem Kept.more {w1 : World} (h : Kept own0 w0 w) (hm : More w w1) : Kept own0 w0 w1 :=
  ⟨hm.os.trans h.os, hm.tape.trans h.tape, hm.output.trans h.output, Nat.le_trans h.size hm.size, fun k hk hn => (hm.block k (by have := h.size; omega)).trans (h.block k hk hn)⟩
end
end Go.Proofs.YtdfmapcnfficlaaGreatDoor

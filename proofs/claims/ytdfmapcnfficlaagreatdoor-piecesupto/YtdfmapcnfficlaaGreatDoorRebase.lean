/-
  The same tokenizer, seen from a later start: a block beside it that stands.
-/
import Derived.Test.YtdfmapcnfficlaaGreatDoorRep2
import Derived.Lib.OthersKept
namespace Go.Proofs.YtdfmapcnfficlaaGreatDoor
open Go Go.RowKit
section
variable {w0 : World} {own0 : Nat → Prop} {b : Nat} {s : TS} {ex : List Item} {w : World}

theorem Item.cells {it : Item} (h : it.ok w) : ∀ k, it.blk = some k → ∃ c t z, w.heap[k]? = some (.cells c t z) := by
  intro k hk
  rcases h.2 with ⟨hv, _⟩ | ⟨g, cap, cur, hv, hb, hgg, rest⟩
  · have : it.a = none := by injection hv
    simp [Item.blk, this] at hk
  · have : it.a = some ⟨g, 0, none⟩ := by injection hv
    simp [Item.blk, this] at hk
    subst hk
    exact ⟨_, _, _, hgg⟩

/-- What is one's own, but for the block 'it'. -/
def ownBut (w0 : World) (own0 : Nat → Prop) (it : Nat) : Nat → Prop := fun k => (own0 k ∨ w0.heap.size ≤ k) ∧ k ≠ it

theorem Tk.rebase (h : Tk w0 own0 b s ex w) {it : Nat} {q : ByteArray} {p : Nat} (hit : w.heap[it]? = some (.stringIter q p)) : Tk w (ownBut w0 own0 it) b s ex w := by
  obtain ⟨⟨R, hR⟩, hk⟩ := h
  refine ⟨⟨R, hR.self, .inl ⟨hR.ownB, ?_⟩, ⟨hR.rows.ok, hR.rows.nodup, fun k hk' => ?_⟩, hR.map, fun g hg => ⟨.inl ⟨(hR.mapB g hg).1, ?_⟩, (hR.mapB g hg).2⟩, hR.la, hR.lv, hR.lt⟩, Kept.refl _ _⟩
  · rintro rfl
    rw [hR.self] at hit
    cases hit
  · obtain ⟨x, hx, hb⟩ := List.mem_filterMap.1 hk'
    refine ⟨.inl ⟨(hR.rows.own k hk').1, ?_⟩, (hR.rows.own k hk').2⟩
    rintro rfl
    obtain ⟨c, t, z, hc⟩ := Item.cells (hR.rows.ok x hx) k hb
    rw [hc] at hit
    cases hit
  · rintro rfl
    have hm := hR.map
    rw [hg] at hm
    cases hn : s.tag.names with
    | none => simp [mapOf, hn] at hm
    | some ks =>
      simp only [mapOf, hn] at hm
      obtain ⟨es, c, he, _⟩ := hm
      rw [he] at hit
      cases hit

theorem Tk.unbase {w1 : World} {it : Nat} (h : Tk w1 (ownBut w0 own0 it) b s ex w) (hk : Kept own0 w0 w1) : Tk w0 own0 b s ex w := by
  obtain ⟨⟨R, hR⟩, hk1⟩ := h
  have hup : ∀ k, (ownBut w0 own0 it k ∨ w1.heap.size ≤ k) → (own0 k ∨ w0.heap.size ≤ k) := fun k hh => hh.elim (fun h => h.1) (fun h => .inr (Nat.le_trans hk.size h))
  refine ⟨⟨R, hR.self, hup _ hR.ownB, ⟨hR.rows.ok, hR.rows.nodup, fun k hk' => ⟨hup _ (hR.rows.own k hk').1, (hR.rows.own k hk').2⟩⟩, hR.map, fun g hg => ⟨hup _ (hR.mapB g hg).1, (hR.mapB g hg).2⟩, hR.la, hR.lv, hR.lt⟩, ?_⟩
  exact hk.trans hk1 fun x hx hh => hh.1.elim id (fun h => by omega)

/-- A block that is not the tokenizer's own turns. -/
theorem Tk.other {w' : World} (h : Tk w0 own0 b s ex w) {it : Nat} {q : ByteArray} {p : Nat} (hit : w.heap[it]? = some (.stringIter q p)) (hge : w0.heap.size ≤ it) (hos : w'.os = w.os ∧ w'.tape = w.tape ∧ w'.output = w.output ∧ w'.heap.size = w.heap.size) (ho : ∀ k, k ≠ it → w'.heap[k]? = w.heap[k]?) : Tk w0 own0 b s ex w' := by
  have h1 := h.rebase hit
  obtain ⟨⟨R, hR⟩, hk⟩ := h
  obtain ⟨⟨R1, hR1⟩, hk1⟩ := h1
  have hup : ∀ k, (ownBut w0 own0 it k ∨ w.heap.size ≤ k) → (own0 k ∨ w0.heap.size ≤ k) := fun k hh => hh.elim (fun h => h.1) (fun h => .inr (Nat.le_trans hk.size h))
  have hlt : it < w.heap.size := (Array.getElem?_eq_some_iff.1 hit).1
  have hne : ∀ k, k < w.heap.size → (ownBut w0 own0 it k ∨ w.heap.size ≤ k) → k ≠ it := fun k hk hh => hh.elim (fun h => h.2) (fun h => by omega)
  have hbn : b ≠ it := hne b hR1.lt_b hR1.ownB
  refine ⟨⟨R1, by rw [ho b hbn]; exact hR1.self, hup _ hR1.ownB, ⟨?_, hR1.rows.nodup, fun k hk' => ⟨hup _ (hR1.rows.own k hk').1, (hR1.rows.own k hk').2⟩⟩, ?_, fun g hg => ⟨hup _ (hR1.mapB g hg).1, (hR1.mapB g hg).2⟩, hR1.la, hR1.lv, hR1.lt⟩, ?_⟩
  · exact (hR1.rows.kept (w' := w') fun k hk' hh => ho k (hne k hk' hh.1)).ok
  · exact mapOf_kept hR1.map fun g hg => ho g (hne g (hR1.map_lt g hg) (hR1.mapB g hg).1)
  · exact ⟨hos.1.trans hk.os, hos.2.1.trans hk.tape, hos.2.2.1.trans hk.output, by rw [hos.2.2.2]; exact hk.size, fun k hk' hn => by rw [ho k (by omega)]; exact hk.block k hk' hn⟩

theorem iterAt_parts (w : World) (k : Nat) (q : ByteArray) (p : Nat) : ((w.iterAt k q p).os = w.os ∧ (w.iterAt k q p).tape = w.tape ∧ (w.iterAt k q p).output = w.output ∧ (w.iterAt k q p).heap.size = w.heap.size) ∧ ∀ j, j ≠ k → (w.iterAt k q p).heap[j]? = w.heap[j]? := by
  refine ⟨⟨rfl, rfl, rfl, by simp [World.iterAt]⟩, fun j hj => ?_⟩
  simp [World.iterAt, Ne.symm hj]
end
end Go.Proofs.YtdfmapcnfficlaaGreatDoor

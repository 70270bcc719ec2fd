/-
  A list of tokens of one's own; slices of integers.
-/
import Derived.Test.YtdfmapcnfficlaaGreatDoorAwake2
import Derived.Test.YtdfmapcnfficlaaGreatDoorGrow
import Derived.Test.YtdfmapcnfficlaaGreatDoorPick
set_option linter.unusedSimpArgs false
set_option linter.unusedVariables false
namespace Go.Proofs.YtdfmapcnfficlaaGreatDoor
open Go Go.RowKit

/-- The slice v of integers reads as l. -/
def IntsV (w : World) (v : Value) (l : List Int) : Prop := ∃ a cap, v = .slice a l.length cap ∧ (l ≠ [] → ∃ g o, a = some ⟨g, o, none⟩ ∧ g < w.heap.size ∧ ∀ (j : Nat) (z : Int), l[j]? = some z → w.cell? ⟨g, o + j, none⟩ = some (.int .i64 z)) ∧ l.length ≤ cap ∧ ∀ z ∈ l, -9223372036854775808 ≤ z ∧ z ≤ 9223372036854775807
theorem IntsV.more {w w' : World} {v : Value} {l : List Int} (h : IntsV w v l) (hm : More w w') : IntsV w' v l := by
  obtain ⟨a, cap, rfl, h1, h2, h3⟩ := h
  refine ⟨a, cap, rfl, fun hl => ?_, h2, h3⟩
  obtain ⟨g, o, e, hg, hc⟩ := h1 hl
  exact ⟨g, o, e, by have := hm.size; omega, fun j z hz => by rw [World.cell?_of_block (w := w) (hm.block g hg)]; exact hc j z hz⟩

theorem take_snoc_int (l : List Int) (k : Nat) (z : Int) (h : l[k]? = some z) : z ∈ l := List.mem_of_getElem? h

theorem toldCells_append : ∀ (l : List Tok) (ta : List Sl) (l' : List Tok) (ta' : List Sl), ta.length = l.length → toldCells (l ++ l') (ta ++ ta') = toldCells l ta ++ toldCells l' ta'
  | [], [], l', ta', _ => by simp [toldCells]
  | _ :: l, _ :: ta, l', ta', h => by simp [toldCells, toldCells_append l ta l' ta' (by simpa using h)]
theorem toldItems_append : ∀ (l : List Tok) (ta : List Sl) (l' : List Tok) (ta' : List Sl), ta.length = l.length → toldItems (l ++ l') (ta ++ ta') = toldItems l ta ++ toldItems l' ta'
  | [], [], l', ta', _ => by simp [toldItems]
  | _ :: l, _ :: ta, l', ta', h => by simp [toldItems, toldItems_append l ta l' ta' (by simpa using h)]
theorem toldCells_length : ∀ (l : List Tok) (ta : List Sl), ta.length = l.length → (toldCells l ta).length = l.length * 6
  | [], [], _ => rfl
  | _ :: l, _ :: ta, h => by
    rw [toldCells, List.length_append, toldCells_length l ta (by simpa using h)]
    simp [tokCells]
    omega
theorem toldCells_one : ∀ (l : List Tok) (ta : List Sl), ∀ u ∈ toldCells l ta, u.oneCell' = true
  | [], _, u, h => by simp [toldCells] at h
  | _ :: _, [], u, h => by simp [toldCells] at h
  | t :: l, x :: ta, u, h => by
    rw [toldCells, List.mem_append] at h
    rcases h with h | h
    · exact tokCells_one t x u h
    · exact toldCells_one l ta u h

section
variable {w0 : World} {own0 : Nat → Prop} {b : Nat} {s : TS} {ex : List Item} {w : World}
/-- A list of tokens of one's own, held beside the tokenizer. -/
def Out (q : Sl) (l : List Tok) (ta : List Sl) : List Item := tokItem q l ta :: toldItems l ta

theorem tk_out_nil (h : Tk w0 own0 b s [] w) : Tk w0 own0 b s (Out nilSl [] []) w := by
  obtain ⟨⟨R, hR⟩, hk⟩ := h
  refine ⟨⟨R, hR.self, hR.ownB, ?_, hR.map, hR.mapB, hR.la, hR.lv, hR.lt⟩, hk⟩
  exact (hR.rows.bare (it := tokItem nilSl [] []) (World.ownsRow_nil _ 0 34 6) rfl).perm (by rw [List.append_nil]; exact List.Perm.refl _)

/-- What was taken is put behind what was there. -/
theorem out_grow {w' : World} {q r : Sl} {l l' : List Tok} {ta ta' : List Sl} {ao : Option Addr} {cap : Nat} (h : Tk w0 own0 b s (tokItem r l' ta' :: (toldItems l' ta' ++ Out q l ta)) w) (hl : ta.length = l.length)
    (hown : w'.ownsRow 0 34 6 (.slice ao (l.length + l'.length) cap) (l.length + l'.length) (toldCells l ta ++ toldCells l' ta')) (hg : w.grownBy w' (q.a.map (·.block))) (hf : Fresh w q.a ao) :
    Tk w0 own0 b s (Out ⟨ao, cap⟩ (l ++ l') (ta ++ ta')) w' := by
  have h1 : Tk w0 own0 b s ((tokItem r l' ta' :: toldItems l' ta') ++ tokItem q l ta :: toldItems l ta) w := h
  have hok : (tokItem ⟨ao, cap⟩ (l ++ l') (ta ++ ta')).ok w' := by
    unfold Item.ok tokItem
    rw [toldCells_append l ta l' ta' hl, List.length_append]
    exact hown
  have h2 := h1.ex_grow (it' := tokItem ⟨ao, cap⟩ (l ++ l') (ta ++ ta')) hg hok hf
  refine h2.ex_less (l1 := tokItem ⟨ao, cap⟩ (l ++ l') (ta ++ ta') :: (toldItems l ta ++ toldItems l' ta')) (l2 := [tokItem r l' ta']) ?_ ?_
  · refine List.Perm.trans (List.perm_middle) ?_
    refine List.Perm.trans (List.Perm.cons _ ?_) (by rw [List.cons_append])
    rw [List.cons_append]
    refine List.Perm.trans (List.perm_append_comm (l₁ := [_])) ?_
    exact List.Perm.append_right _ (List.perm_append_comm)
  · unfold Out
    rw [toldItems_append l ta l' ta' hl]

theorem out_own {q : Sl} {l : List Tok} {ta : List Sl} {l1 : List Item} (h : Tk w0 own0 b s (l1 ++ Out q l ta) w) : w.ownsRow 0 34 6 (.slice q.a l.length q.cap) l.length (toldCells l ta) := by
  obtain ⟨⟨R, hR⟩, _⟩ := h
  exact hR.rows.ok (tokItem q l ta) (by simp [Out])
theorem out_toks {q : Sl} {l : List Tok} {ta : List Sl} (h : Tk w0 own0 b s (Out q l ta) w) (hl : ta.length = l.length) : ToksV w (.slice q.a l.length q.cap) l :=
  taken_toks (ex := []) (by rw [List.append_nil]; exact h) hl
theorem taken_cells {r : Sl} {l : List Tok} {ta : List Sl} (h : Tk w0 own0 b s (tokItem r l ta :: ex) w) (hp : 0 < l.length) : ∃ ad, r.a = some ad ∧ ∀ j u, (toldCells l ta)[j]? = some u → w.cell? (ad.add j) = some u := by
  obtain ⟨⟨R, hR⟩, _⟩ := h
  have hok : (tokItem r l ta).ok w := hR.rows.ok _ (by simp)
  obtain ⟨g, hg, _⟩ := row_at hok (by show l.length ≠ 0; omega)
  exact ⟨⟨g, 0, none⟩, hg, fun j u hu => World.ownsRow.cells hok (g := g) (by show (Value.slice r.a _ _).ownBlock = _; rw [show r.a = some ⟨g, 0, none⟩ from hg]; rfl) j u hu⟩
end
end Go.Proofs.YtdfmapcnfficlaaGreatDoor

/-
  The law's 'apart': the tokens of a text.
-/
import Derived.Test.YtdfmapcnfficlaaGreatDoorWrites
import Derived.Test.YtdfmapcnfficlaaGreatDoorSame
set_option linter.unusedSimpArgs false
set_option linter.unusedVariables false
namespace Go.Proofs.YtdfmapcnfficlaaGreatDoor
open Go Go.RowKit

def tokItem' (r : Sl) (l : List Tok) (ta : List Sl) : Item := ⟨34, 6, r.a, l.length, r.cap, toldCells l ta⟩

theorem row_cells {w : World} {it : Item} (h : it.ok w) {g : Nat} (hg : it.a = some ⟨g, 0, none⟩) : ∀ j u, it.xs[j]? = some u → w.cell? ⟨g, j, none⟩ = some u := by
  intro j u hu
  have := World.ownsRow.cells h (g := g) (by rw [hg]; rfl) j u hu
  rw [show ((⟨g, 0, none⟩ : Addr).add j) = ⟨g, j, none⟩ by unfold Addr.add; split <;> simp_all] at this
  exact this
theorem row_at {w : World} {it : Item} (h : it.ok w) (hn : it.n ≠ 0) : ∃ g, it.a = some ⟨g, 0, none⟩ ∧ g < w.heap.size ∧ it.n ≤ it.cap := by
  rcases h.2 with ⟨_, h0⟩ | ⟨g, cap, cur, hv, _, hgg, hc, _⟩
  · exact absurd h0 hn
  · injection hv with h1 h2 h3
    exact ⟨g, h1, (Array.getElem?_eq_some_iff.1 hgg).1, by rw [h3]; exact hc⟩
theorem row_cap {w : World} {it : Item} (h : it.ok w) : it.n ≤ it.cap := by
  rcases h.2 with ⟨_, h0⟩ | ⟨g, cap, cur, hv, _, hgg, hc, _⟩
  · omega
  · injection hv with h1 h2 h3
    rw [h3]; exact hc

theorem row_max {w : World} {it : Item} (h : it.ok w) : it.n ≤ maxLen := by
  rcases h.2 with ⟨_, h0⟩ | ⟨g, cap, cur, hv, _, hgg, hc, hm, _⟩
  · omega
  · exact Nat.le_trans hc hm

theorem toldCells_at : ∀ (l : List Tok) (ta : List Sl) (k : Nat) (t : Tok) (x : Sl), l[k]? = some t → ta[k]? = some x → ∀ i, i < 6 → (toldCells l ta)[k * 6 + i]? = (tokCells t x)[i]?
  | [], _, k, t, x, h, _, _, _ => by simp at h
  | _ :: _, [], k, t, x, _, h, _, _ => by simp at h
  | a :: l, y :: ta, 0, t, x, h, h', i, hi => by
    have e1 : a = t := by simpa using h
    have e2 : y = x := by simpa using h'
    subst e1 e2
    rw [toldCells, List.getElem?_append_left (by simpa [tokCells] using hi)]
    simp
  | a :: l, y :: ta, k + 1, t, x, h, h', i, hi => by
    rw [toldCells, List.getElem?_append_right (by simp [tokCells]; omega)]
    have := toldCells_at l ta k t x (by simpa using h) (by simpa using h') i hi
    rw [← this]
    congr 1
    simp [tokCells]
    omega

theorem toldItems_at : ∀ (l : List Tok) (ta : List Sl) (k : Nat) (t : Tok) (x : Sl), l[k]? = some t → ta[k]? = some x → aItem x t.attrs ∈ toldItems l ta
  | [], _, k, t, x, h, _ => by simp at h
  | _ :: _, [], k, t, x, _, h => by simp at h
  | a :: l, y :: ta, 0, t, x, h, h' => by
    have e1 : a = t := by simpa using h
    have e2 : y = x := by simpa using h'
    subst e1 e2
    simp [toldItems]
  | a :: l, y :: ta, k + 1, t, x, h, h' => by
    have := toldItems_at l ta k t x (by simpa using h) (by simpa using h')
    simp [toldItems, this]

theorem strsAt_of {w : World} {x : Sl} {l : List Str} (h : (aItem x l).ok w) : StrsAt w x l := by
  intro j y hy
  have hl : l.length ≠ 0 := fun e => by have := List.length_eq_zero_iff.1 e; subst this; simp at hy
  obtain ⟨g, hg, hlt, _⟩ := row_at h hl
  exact ⟨g, hg, hlt, row_cells h hg j _ (by simp [aItem, str, hy])⟩

theorem toksV_of {w : World} {r : Sl} {l : List Tok} {ta : List Sl} (h : (tokItem r l ta).ok w) (h2 : ∀ it ∈ toldItems l ta, it.ok w) (hl : ta.length = l.length) : ToksV w (.slice r.a l.length r.cap) l := by
  refine ⟨r.a, r.cap, rfl, fun hne => ?_, row_cap h, fun t ht => ?_⟩
  rotate_left
  · obtain ⟨k, hk, rfl⟩ := List.mem_iff_getElem.1 ht
    have hk' : k < ta.length := by rw [hl]; exact hk
    exact row_max (h2 _ (toldItems_at l ta k l[k] ta[k] (by simp [hk]) (by simp [hk'])))
  obtain ⟨g, hg, hlt, _⟩ := row_at h (fun e => hne (List.length_eq_zero_iff.1 e))
  refine ⟨g, hg, fun k t hk => ?_, hlt⟩
  have hk' : k < ta.length := by rw [hl]; exact (List.getElem?_eq_some_iff.1 hk).1
  obtain ⟨x, hx⟩ : ∃ x, ta[k]? = some x := ⟨ta[k], by simp [hk']⟩
  have hc : ∀ i u, i < 6 → (tokCells t x)[i]? = some u → w.cell? ⟨g, k * 6 + i, none⟩ = some u := fun i u hi hu => row_cells h hg _ _ ((toldCells_at l ta k t x hk hx i hi).trans hu)
  exact ⟨x, hc 0 _ (by decide) rfl, hc 1 _ (by decide) rfl, hc 2 _ (by decide) rfl, hc 3 _ (by decide) rfl, hc 4 _ (by decide) rfl, hc 5 _ (by decide) rfl, strsAt_of (h2 _ (toldItems_at l ta k t x hk hx))⟩

/-- The tokens of a text. -/
def toks (x : Str) : List Tok := (closeT (put { limit := x.length } x)).told

theorem kept_more {w w' : World} (h : Kept (fun _ => False) w w') : More w w' := ⟨h.os, h.tape, h.output, h.size, fun k hk => h.block k hk id⟩

section
variable {w0 : World} {own0 : Nat → Prop} {b : Nat} {s : TS} {ex : List Item} {w : World}
/-- What Take has given away. -/
theorem taken_toks {r : Sl} {l : List Tok} {ta : List Sl} (h : Tk w0 own0 b s (tokItem r l ta :: (toldItems l ta ++ ex)) w) (hl : ta.length = l.length) : ToksV w (.slice r.a l.length r.cap) l := by
  obtain ⟨⟨R, hR⟩, _⟩ := h
  exact toksV_of (hR.rows.ok _ (by simp)) (fun it hi => hR.rows.ok it (by simp [hi])) hl
end

set_option maxHeartbeats 1600000 in
set_option maxRecDepth 1000000 in
theorem apart_does (x : Str) (w : World) (hx : x.length ≤ 1073741824) (B : Base w (fun _ => False)) :
    Calls Tryz.prog 15 #[.string ⟨x.toArray⟩] w fun e w' => ∃ v, e = .returned (.tuple #[v, .bool true]) ∧ ToksV w' v (toks x) ∧ More w w' := by
  have HN := hide (new_does (x.length : Int) w (fun _ => False))
  rw [show max (x.length : Int) 0 = x.length by omega] at HN
  have ho := Open.new (x.length : Int)
  have H1 := hide (fun W hW => write_ok (w0 := w) (own0 := fun _ => False) (b := w.heap.size) (ex := []) (w := W) ho x (by omega) (by simp) (by show (x.length : Int) ≤ _; omega) B hW)
  obtain ⟨_, ho2, _⟩ := open_put (w0 := w) (own0 := fun _ => False) ho x (by omega)
  have H2 := hide (fun W hW => close_ok (w0 := w) (own0 := fun _ => False) (b := w.heap.size) (ex := []) (w := W) ho2 (by omega) B hW)
  have H3 := hide (fun W hW => take_does (w0 := w) (own0 := fun _ => False) (b := w.heap.size) (s := closeT (put { limit := x.length } x)) (ex := []) (w := W) hW)
  have hxl : (x.length : Int) ≤ 1073741824 := by omega
  clear ho ho2 B
  unfold toks
  generalize put { limit := x.length } x = s1 at *
  generalize closeT s1 = s2 at *
  go_enter Tryz.func15, Tryz.ntmps15
  go_wp2_with fail
  refine (unhide HN).mono ?_
  rintro e w1 ⟨rfl, h1⟩
  go_wp2_with fail
  refine (unhide H1 _ h1).mono ?_
  rintro e w2 ⟨rfl, h2⟩
  go_wp2_with fail
  refine (unhide H2 _ h2).mono ?_
  rintro e w3 ⟨rfl, h3⟩
  go_wp2_with fail
  refine (unhide H3 _ h3).mono ?_
  rintro e w4 ⟨r, ta, hl, rfl, h4⟩
  have HV := hide (taken_toks h4 hl)
  have HM := hide (kept_more h4.2)
  go_wp2_with fail
  go_quiet (fail)
  go_wp2
  go_ret2
  have hq : More w4 (w4.drewN nq) := ⟨rfl, rfl, rfl, Nat.le_refl _, fun _ _ => rfl⟩
  exact ⟨.slice r.a s2.told.length r.cap, rfl, (unhide HV).more hq, (unhide HM).trans' hq⟩
end Go.Proofs.YtdfmapcnfficlaaGreatDoor

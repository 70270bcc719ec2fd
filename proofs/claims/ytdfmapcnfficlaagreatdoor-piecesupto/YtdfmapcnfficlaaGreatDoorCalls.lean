/-
  The end of the points; Take; what is closed.
-/
import Derived.Test.YtdfmapcnfficlaaGreatDoorPoints3
set_option linter.unusedSimpArgs false
set_option linter.unusedVariables false
namespace Go.Proofs.YtdfmapcnfficlaaGreatDoor
open Go Go.RowKit
section
variable {w0 : World} {own0 : Nat → Prop} {b : Nat} {s : TS} {ex : List Item} {w : World} {R : Regs}

def endPoints (n : Nat) (s : TS) : TS := if s.begun = [] then s else pass n { s with begun := [] } 65533

set_option maxHeartbeats 800000 in
set_option maxRecDepth 1000000 in
theorem end_does (n : Nat) (hm : s.begun ≠ [] → May w0 own0 n (setBehind { s with begun := [] } 65533) 65533) (h : Tk w0 own0 b s ex w) :
    Calls Tryz.prog 59 #[.pointer (some ⟨b, 0, none⟩), lookV b] w fun e w' => e = .returned (.tuple #[]) ∧ Tk w0 own0 b (endPoints n s) ex w' := by
  have c1 := begun_cell h
  have f1 := h.frozen
  have HT := hide h
  have H2 := hide (fun hh => pass_does (s := { s with begun := [] }) n 65533 (fun _ => hm hh) (tk_begun h []))
  clear h hm
  unfold endPoints
  by_cases hb : s.begun = []
  · rw [if_pos hb]
    have e1 : (s.begun == []) = true := by simp [hb]
    clear hb
    unfold lookV
    go_enter Tryz.func59, Tryz.ntmps59
    go_wp2
    try simp only [Exit.inBlock, Exit.then]
    refine bodyPost_ret (results_none rfl _ _ _) rfl ?_
    exact ⟨rfl, unhide HT⟩
  · rw [if_neg hb]
    have e1 : (s.begun == []) = false := by simpa using hb
    have H3 := hide (unhide H2 hb)
    clear hb H2
    unfold lookV at *
    go_enter Tryz.func59, Tryz.ntmps59
    go_wp2_with (go_at_call 56; refine (unhide H3).mono ?_; rintro e w1 ⟨rfl, h1⟩)
    go_end0
    exact ⟨rfl, h1⟩

set_option maxHeartbeats 800000 in
set_option maxRecDepth 1000000 in
theorem isClosed_does (h : Tk w0 own0 b s ex w) :
    Calls Tryz.prog 31 #[.pointer (some ⟨b, 0, none⟩)] w fun e w' => e = .returned (.bool s.closed) ∧ w' = w := by
  obtain ⟨R, hR⟩ := h.reg
  have c1 : w.cell? ⟨b, 4, none⟩ = some (.bool s.closed) := hR.1.cell 4
  clear h hR
  go_enter Tryz.func31, Tryz.ntmps31
  go_wp2
  go_ret
  exact ⟨rfl, rfl⟩

def tokItem (r : Sl) (l : List Tok) (ta : List Sl) : Item := ⟨34, 6, r.a, l.length, r.cap, toldCells l ta⟩

theorem perm_take (P A B E : List Item) (N T : Item) : (P ++ N :: (A ++ T :: (B ++ E))).Perm (P ++ T :: ((A ++ (B ++ E)) ++ [N])) := by
  refine List.Perm.append_left P ?_
  refine (List.Perm.cons N (List.perm_middle)).trans ?_
  refine (List.Perm.swap T N _).trans (List.Perm.cons T ?_)
  exact List.perm_append_comm (l₁ := [N])

/-- The tokens are given away. -/
theorem tk_take (h : TkR w0 own0 b s R ex w) : Tk w0 own0 b { s with told := [] } (tokItem R.told s.told R.tattrs :: (toldItems s.told R.tattrs ++ ex)) (w.setCell ⟨b, 25, none⟩ (.slice none 0 0)) := by
  obtain ⟨hR, hk⟩ := h
  refine ⟨⟨{ R with told := ⟨none, 0⟩, tattrs := [] }, ?_⟩, hk.setCell _ _ hR.ownB⟩
  have hself : (w.setCell ⟨b, 25, none⟩ (.slice none 0 0)).heap[b]? = some (.cells (cellsOf { s with told := [] } { R with told := ⟨none, 0⟩, tattrs := [] }) 84 (0, 0)) := by rw [set_self hR.self]; rfl
  have hI : Items w (fun k => own0 k ∨ w0.heap.size ≤ k) (itemsOf s R ++ ex) := ⟨hR.rows.ok, hR.rows.nodup, fun k hk => (hR.rows.own k hk).1⟩
  refine hR.anew hself (fun k hk => set_other _ hk) (itemsOf s R ++ ex) [] [⟨34, 6, none, 0, 0, []⟩] (by simp) ?_ ?_ (.inl ⟨rfl, rfl⟩) hR.la hR.lv rfl
  · intro it hi
    rw [List.mem_singleton.1 hi]
    exact ⟨World.ownsRow_nil w 0 34 6, rfl⟩
  · have := perm_take [bItem R.text s.text, bItem R.tname s.tag.name, bItem R.buffer s.tag.buffer, ⟨210, 3, R.atts.a, s.tag.atts.length, R.atts.cap, attsCells s.tag.atts R.anames R.avalues⟩, bItem R.comment s.comment, bItem R.dname s.dname] (attItems s.tag.atts R.anames R.avalues) (toldItems s.told R.tattrs) ex ⟨34, 6, none, 0, 0, []⟩ (tokItem R.told s.told R.tattrs)
    simpa [itemsOf, tokItem, toldItems, toldCells, List.append_assoc] using this

def take (s : TS) : TS := { s with told := [] }

set_option maxHeartbeats 800000 in
set_option maxRecDepth 1000000 in
theorem take_does (h : Tk w0 own0 b s ex w) :
    Calls Tryz.prog 18 #[.pointer (some ⟨b, 0, none⟩)] w fun e w' => ∃ (r : Sl) (ta : List Sl), ta.length = s.told.length ∧ e = .returned (.slice r.a s.told.length r.cap) ∧ Tk w0 own0 b (take s) (tokItem r s.told ta :: (toldItems s.told ta ++ ex)) w' := by
  obtain ⟨R, hR⟩ := h.reg
  have c1 : w.cell? ⟨b, 25, none⟩ = some (.slice R.told.a s.told.length R.told.cap) := hR.1.cell 25
  have f1 := h.frozen
  have H1 := hide (tk_take hR)
  have HL := hide hR.1.lt
  clear h hR
  go_enter Tryz.func18, Tryz.ntmps18
  go_wp2
  go_ret
  exact ⟨R.told, R.tattrs, unhide HL, rfl, unhide H1⟩

end
end Go.Proofs.YtdfmapcnfficlaaGreatDoor

/-
  Tags that are dropped, and told.
-/
import Derived.Test.YtdfmapcnfficlaaGreatDoorAttrs
set_option linter.unusedSimpArgs false
set_option linter.unusedVariables false
namespace Go.Proofs.YtdfmapcnfficlaaGreatDoor
open Go Go.RowKit

theorem perm_tag (t n bf at' c d tl : Item) (A T ex : List Item) : ([t, n, bf, at', c, d, tl] ++ (A ++ T) ++ ex).Perm (([t, c, d, tl] ++ T ++ ex) ++ ([n, bf, at'] ++ A)) := by
  have h1 : ([n, bf, at'] ++ ([c, d, tl] ++ (A ++ (T ++ ex)))).Perm ([c, d, tl] ++ ([n, bf, at'] ++ (A ++ (T ++ ex)))) := List.perm_append_comm_assoc _ _ _
  have h2 : ([n, bf, at'] ++ (A ++ (T ++ ex))).Perm ((T ++ ex) ++ ([n, bf, at'] ++ A)) := by rw [← List.append_assoc]; exact List.perm_append_comm
  have h3 := (h1.trans (h2.append_left [c, d, tl])).cons t
  simpa only [List.cons_append, List.nil_append, List.append_assoc] using h3

def tagItems (s : TS) (R : Regs) : List Item := [bItem R.tname s.tag.name, bItem R.buffer s.tag.buffer, attItem s R] ++ attItems s.tag.atts R.anames R.avalues

/-- The tokenizer's tag is set to nought: six cells. -/
def zeroTag (w : World) (b : Nat) : World :=
  (((((w.setCell ⟨b, 9, none⟩ (.int .i64 0)).setCell ⟨b, 10, none⟩ (.slice none 0 0)).setCell ⟨b, 11, none⟩ (.slice none 0 0)).setCell ⟨b, 12, none⟩ (.slice none 0 0)).setCell ⟨b, 13, none⟩ (.map none)).setCell ⟨b, 14, none⟩ (.bool false)

section
variable {w0 : World} {own0 : Nat → Prop} {b : Nat} {s : TS} {ex : List Item} {w : World} {R : Regs}

theorem zeroTag_other (k : Nat) (hk : k ≠ b) : (zeroTag w b).heap[k]? = w.heap[k]? := by
  unfold zeroTag
  rw [set_other _ hk, set_other _ hk, set_other _ hk, set_other _ hk, set_other _ hk, set_other _ hk]

def noTag (R : Regs) : Regs := { R with tname := ⟨none, 0⟩, buffer := ⟨none, 0⟩, atts := ⟨none, 0⟩, names := none, anames := [], avalues := [] }

theorem zeroTag_self (h : RepAt w (fun k => own0 k ∨ w0.heap.size ≤ k) b s R ex) : (zeroTag w b).heap[b]? = some (.cells (cellsOf { s with tag := {} } (noTag R)) 84 (0, 0)) := by
  unfold zeroTag
  rw [set_self (set_self (set_self (set_self (set_self (set_self h.self _ _) _ _) _ _) _ _) _ _)]
  rfl

/-- The tag's rows are held beside the tokenizer from now on. -/
theorem tkR_takeTag (h : TkR w0 own0 b s R ex w) : TkR w0 own0 b { s with tag := {} } (noTag R) (tagItems s R ++ ex) (zeroTag w b) := by
  refine ⟨?_, ?_⟩
  · refine h.1.anew (zeroTag_self h.1) (fun k hk => zeroTag_other k hk) ([bItem R.text s.text, bItem R.comment s.comment, bItem R.dname s.dname, ⟨34, 6, R.told.a, s.told.length, R.told.cap, toldCells s.told R.tattrs⟩] ++ toldItems s.told R.tattrs ++ (tagItems s R ++ ex)) [] [bItem ⟨none, 0⟩ [], bItem ⟨none, 0⟩ [], ⟨210, 3, none, 0, 0, []⟩] ?_ ?_ ?_ (.inr ⟨rfl, rfl⟩) rfl rfl h.1.lt
    · rw [List.append_nil]
      refine (perm_tag _ _ _ _ _ _ _ _ _ _).trans ?_
      rw [List.append_assoc _ ex]
      exact List.Perm.append_left _ List.perm_append_comm
    · intro it hi
      simp only [List.mem_cons, List.not_mem_nil, or_false] at hi
      rcases hi with rfl | rfl | rfl
      · exact ⟨bItem_nil_ok w, rfl⟩
      · exact ⟨bItem_nil_ok w, rfl⟩
      · exact ⟨World.ownsRow_nil w 0 210 3, rfl⟩
    · exact perm_tag (bItem R.text s.text) (bItem ⟨none, 0⟩ []) (bItem ⟨none, 0⟩ []) ⟨210, 3, none, 0, 0, []⟩ (bItem R.comment s.comment) (bItem R.dname s.dname) ⟨34, 6, R.told.a, s.told.length, R.told.cap, toldCells s.told R.tattrs⟩ [] (toldItems s.told R.tattrs) (tagItems s R ++ ex)
  · exact ((((((h.2.setCell _ _ h.1.ownB).setCell _ _ h.1.ownB).setCell _ _ h.1.ownB).setCell _ _ h.1.ownB).setCell _ _ h.1.ownB).setCell _ _ h.1.ownB)

/-- Rows that are held beside may be let go. -/
theorem tk_forget {l : List Item} (h : TkR w0 own0 b s R (l ++ ex) w) : TkR w0 own0 b s R ex w := by
  refine ⟨⟨h.1.self, h.1.ownB, ?_, h.1.map, h.1.mapB, h.1.la, h.1.lv, h.1.lt⟩, h.2⟩
  refine h.1.rows.less (itemsOf s R ++ ex) l [] ?_ (by simp) (by simp)
  rw [List.append_assoc]
  exact List.Perm.append_left _ List.perm_append_comm

def dropTag (s : TS) : TS := { wrong s [101, 110, 100, 45, 105, 110, 45, 116, 97, 103] with tag := {} }

set_option maxHeartbeats 800000 in
theorem dropTag_does (h : Tk w0 own0 b s ex w) (hs : sz s + 4 ≤ lim) :
    Calls Tryz.prog 200 #[.pointer (some ⟨b, 0, none⟩)] w fun e w' => e = .returned (.int .i64 0) ∧ Tk w0 own0 b (dropTag s) ex w' := by
  have HS := hide hs
  clear hs
  go_enter Tryz.func200, Tryz.ntmps200
  go_wp2_with fail
  refine (wrong_sz [101, 110, 100, 45, 105, 110, 45, 116, 97, 103] h (by have := unhide HS; omega)).mono ?_
  rintro e w1 ⟨rfl, h1⟩
  obtain ⟨R, hR⟩ := h1.reg
  have d0 := hR.1.cell 9
  have d1 := hR.1.cell 10
  have d2 := hR.1.cell 11
  have d3 := hR.1.cell 12
  have d4 := hR.1.cell 13
  have d5 := hR.1.cell 14
  have df := hR.1.frozen
  simp only [cellsOf] at d0 d1 d2 d3 d4 d5
  have hT := (tk_forget (tkR_takeTag hR)).tk
  unfold zeroTag at hT
  go_wp2
  go_ret
  exact ⟨rfl, hT⟩
end
end Go.Proofs.YtdfmapcnfficlaaGreatDoor

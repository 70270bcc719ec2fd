/-
  Attributes: a new one, the last one.
-/
import Derived.Test.YtdfmapcnfficlaaGreatDoorDoctypes2
import Derived.Deep.QuietTactic
import Derived.BigQuiet
set_option linter.unusedSimpArgs false
set_option linter.unusedVariables false
namespace Go.Proofs.YtdfmapcnfficlaaGreatDoor
open Go Go.RowKit

theorem Tryz.infoAtt : (Tryz.prog.info? 210).map (fun i => (i.zero, i.size, i.bytes)) = some (some (.agg #[.slice none 0 0, .slice none 0 0, .bool false]), 3, 56) := by kernel_rfl

theorem attsCells_snoc (t : Att) (a v : Sl) : ∀ (ts : List Att) (rs vs : List Sl), rs.length = ts.length → vs.length = ts.length → attsCells (ts ++ [t]) (rs ++ [a]) (vs ++ [v]) = attsCells ts rs vs ++ attCells t a v
  | [], [], [], _, _ => by simp [attsCells]
  | _ :: ts, _ :: rs, _ :: vs, h, h' => by simp [attsCells, attsCells_snoc t a v ts rs vs (by simpa using h) (by simpa using h')]
theorem attItems_snoc (t : Att) (a v : Sl) : ∀ (ts : List Att) (rs vs : List Sl), rs.length = ts.length → vs.length = ts.length → attItems (ts ++ [t]) (rs ++ [a]) (vs ++ [v]) = attItems ts rs vs ++ [bItem a t.name, bItem v t.value]
  | [], [], [], _, _ => by simp [attItems]
  | _ :: ts, _ :: rs, _ :: vs, h, h' => by simp [attItems, attItems_snoc t a v ts rs vs (by simpa using h) (by simpa using h')]
theorem attsCells_length : ∀ (ts : List Att) (rs vs : List Sl), rs.length = ts.length → vs.length = ts.length → (attsCells ts rs vs).length = 3 * ts.length
  | [], [], [], _, _ => by simp [attsCells]
  | _ :: ts, _ :: rs, _ :: vs, h, h' => by
    have := attsCells_length ts rs vs (by simpa using h) (by simpa using h')
    simp [attsCells, attCells, this]; omega

def attItem (s : TS) (R : Regs) : Item := ⟨210, 3, R.atts.a, s.tag.atts.length, R.atts.cap, attsCells s.tag.atts R.anames R.avalues⟩

section
variable {w0 : World} {own0 : Nat → Prop} {b : Nat} {s : TS} {ex : List Item} {w : World}

theorem RepAt.bareB {own : Nat → Prop} {R : Regs} (h : RepAt w own b s R ex) : RepAt w own b s R (bItem ⟨none, 0⟩ [] :: ex) :=
  ⟨h.self, h.ownB, (h.rows.bare (bItem_nil_ok w) rfl).perm (by rw [List.append_assoc]; exact List.Perm.append_left _ (List.perm_append_comm)), h.map, h.mapB, h.la, h.lv, h.lt⟩

def newAtt (s : TS) : TS := { s with tag := { s.tag with atts := s.tag.atts ++ [{}] } }

theorem RepAt.atts_grow {w1 w' : World} {R : Regs} (h : RepAt w (fun k => own0 k ∨ w0.heap.size ≤ k) b s R ex) (hk : Kept own0 w0 w) (hm : More w w1)
    (a' : Addr) (cap' : Nat) (hown : w'.ownsRow 0 210 3 (.slice (some a') (s.tag.atts.length + 1) cap') (s.tag.atts.length + 1) (attsCells s.tag.atts R.anames R.avalues ++ [.slice none 0 0, .slice none 0 0, .bool false]))
    (hg : w1.grownBy w' (R.atts.a.map (·.block))) (hf : some a'.block = R.atts.a.map (·.block) ∨ w1.heap.size ≤ a'.block) :
    w'.heap[b]? = some (.cells (cellsOf s R) 84 (0, 0)) ∧ Tk w0 own0 b (newAtt s) ex (w'.setCell ⟨b, 12, none⟩ (.slice (some a') (s.tag.atts.length + 1) cap')) := by
  have hit : attItem s R ∈ itemsOf s R := by simp [itemsOf, attItem]
  have hup : ∀ k, w.heap.size ≤ k → (own0 k ∨ w0.heap.size ≤ k) := fun k hh => .inr (Nat.le_trans hk.size hh)
  refine ⟨h.mid hm hit hg, ⟨{ R with atts := ⟨some a', cap'⟩, anames := R.anames ++ [⟨none, 0⟩], avalues := R.avalues ++ [⟨none, 0⟩] }, ?_⟩, (hk.grown hm hg (h.row_own hit)).setCell 12 _ h.ownB⟩
  refine h.bareB.bareB.grow hm hup [bItem R.text s.text, bItem R.tname s.tag.name, bItem R.buffer s.tag.buffer]
    ([bItem R.comment s.comment, bItem R.dname s.dname, ⟨34, 6, R.told.a, s.told.length, R.told.cap, toldCells s.told R.tattrs⟩] ++ (attItems s.tag.atts R.anames R.avalues ++ toldItems s.told R.tattrs ++ bItem ⟨none, 0⟩ [] :: bItem ⟨none, 0⟩ [] :: ex)) (attItem s R) ⟨210, 3, some a', s.tag.atts.length + 1, cap', attsCells s.tag.atts R.anames R.avalues ++ attCells {} ⟨none, 0⟩ ⟨none, 0⟩⟩ hit
    (by simp [itemsOf, attItem]) ?_ hown hg (by
    rcases hf with hf | hf
    · exact .inl (by simpa [Item.blk, attItem] using hf)
    · exact .inr ⟨a'.block, rfl, hf⟩) 12 _ (by simp [cellsOf, newAtt]) rfl rfl (by simp [newAtt, h.la]) (by simp [newAtt, h.lv]) h.lt
  simp only [itemsOf, newAtt, attsCells_snoc _ _ _ _ _ _ h.la h.lv, attItems_snoc _ _ _ _ _ _ h.la h.lv, List.length_append, List.length_cons, List.length_nil, List.cons_append, List.nil_append, List.append_assoc]
  refine List.Perm.cons _ (List.Perm.cons _ (List.Perm.cons _ (List.Perm.cons _ (List.Perm.cons _ (List.Perm.cons _ (List.Perm.cons _ ?_))))))
  refine List.Perm.append_left _ ?_
  exact (List.perm_append_comm_assoc [bItem ⟨none, 0⟩ [], bItem ⟨none, 0⟩ []] (toldItems s.told R.tattrs) ex)

theorem lim_att {n : Nat} (h : n ≤ lim) : (n + 1) * 56 ≤ 140737488355328 := by unfold lim at h; omega

set_option maxHeartbeats 800000 in
set_option maxRecDepth 1000000 in
theorem newAttribute_does (h : Tk w0 own0 b s ex w) (hs : sz s ≤ lim) :
    Calls Tryz.prog 196 #[.pointer (some ⟨b, 9, none⟩)] w fun e w' => e = .returned (.tuple #[]) ∧ Tk w0 own0 b (newAtt s) ex w' := by
  obtain ⟨R, hR, hk⟩ := h.reg
  have c1 : w.cell? ⟨b, 12, none⟩ = some (.slice R.atts.a s.tag.atts.length R.atts.cap) := hR.cell 12
  have hf := hR.frozen
  obtain ⟨i0, hi, hz0, hz1, hz2⟩ := info_parts Tryz.infoAtt
  have HS : Hid (s.tag.atts.length ≤ lim) := by unfold sz at hs; exact hide (by omega)
  clear hs
  go_enter Tryz.func196, Tryz.ntmps196
  go_wp2_with (at_builtin; refine wpList_append_mine _ rfl (.tmp 6) (.tmp 8) 75 rfl 210 i0 _ 3 56 Tryz.underlying75 hi hz0 hz1 hz2 rfl (by decide) R.atts.a s.tag.atts.length R.atts.cap (attsCells s.tag.atts R.anames R.avalues) rfl ?own ⟨w.heap.size, 0, none⟩ 1 1 [.slice none 0 0, .slice none 0 0, .bool false] rfl rfl ?c1 ?c2 (by decide) (lim_max HS.out) (lim_att HS.out) ?next)
  case own => exact World.ownsRow.alloc (hR.rows.ok (attItem s R) (by simp [itemsOf, attItem])) _
  case c1 =>
    intro j u hu
    match j, hu with
    | 0, hu => simp at hu; subst hu; simp [Addr.add]
    | 1, hu => simp at hu; subst hu; simp [Addr.add]
    | 2, hu => simp at hu; subst hu; simp [Addr.add]
    | n + 3, hu => simp at hu
  case c2 => intro u hu; simp at hu; rcases hu with rfl | rfl <;> rfl
  case next =>
    intro a' cap' w' hown hgrow hfresh
    obtain ⟨hself, hT⟩ := hR.atts_grow hk ((More.refl w).alloc _) a' cap' hown hgrow (by simpa using hfresh)
    have d1 := cell_of_self hself 12
    have df := frozen_of_self hself
    simp only [cellsOf] at d1
    go_wp2
    go_end0
    exact ⟨rfl, hT⟩

theorem atts_addr {R : Regs} (h : RepAt w (fun k => own0 k ∨ w0.heap.size ≤ k) b s R ex) (hne : s.tag.atts ≠ []) : ∃ g, R.atts.a = some ⟨g, 0, none⟩ ∧ s.tag.atts.length ≤ R.atts.cap ∧ R.atts.cap ≤ maxLen := by
  have hok := h.rows.ok (attItem s R) (by simp [itemsOf, attItem])
  rcases hok.2 with ⟨_, hn⟩ | ⟨g, cap, cur, hv, _, _, hc, hm, _⟩
  · exact absurd (List.eq_nil_of_length_eq_zero hn) hne
  · simp only [attItem] at hv
    injection hv with e1 e2 e3
    exact ⟨g, e1, by rw [e3]; exact hc, by rw [e3]; exact hm⟩
end
end Go.Proofs.YtdfmapcnfficlaaGreatDoor

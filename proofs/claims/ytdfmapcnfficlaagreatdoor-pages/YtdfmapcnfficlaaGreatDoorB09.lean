/-
  Attributes: a new one, the last one.
  The last attribute: its name and its value grow.
-/
import Derived.Test.YtdfmapcnfficlaaGreatDoorB08
import Derived.Deep.QuietTactic
import Derived.BigQuiet
set_option linter.unusedSimpArgs false
set_option linter.unusedVariables false
namespace Go.Proofs.YtdfmapcnfficlaaGreatDoor
open Go Go.RowKit

theorem Tryz.infoAtt : (Tryz.prog.info? 210).map (fun i => (i.zero, i.size, i.bytes)) = some (some (.agg #[.slice none 0 0, .slice none 0 0, .bool false]), 3, 56) := by kernel_rfl

theorem attsCells_snoc (t : Att) (a v : Sl) : ∀ (ts : List Att) (rs vs : List Sl), rs.length = ts.length → vs.length = ts.length → attsCells (ts ++ [t]) (rs ++ [a]) (vs ++ [v]) = attsCells ts rs vs ++ attCells t a v
  | [], [], [], _, _ => by simp [attsCells]
  | _ :: ts, _ :: rs, _ :: vs, h, h' => by simp [attsCells, attsCells_snoc t a v ts rs vs (by simpa using h) (by simpa using h')]
theorem attItems_snoc (t : Att) (a v : Sl) : ∀ (ts : List Att) (rs vs : List Sl), rs.length = ts.length → vs.length = ts.length → attItems (ts ++ [t]) (rs ++ [a]) (vs ++ [v]) = attItems ts rs vs ++ [bItem a t.name, bItem v t.value]
  | [], [], [], _, _ => by simp [attItems]
  | _ :: ts, _ :: rs, _ :: vs, h, h' => by simp [attItems, attItems_snoc t a v ts rs vs (by simpa using h) (by simpa using h')]
theorem attsCells_length : ∀ (ts : List Att) (rs vs : List Sl), rs.length = ts.length → vs.length = ts.length → (attsCells ts rs vs).length = 3 * ts.length
  | [], [], [], _, _ => by simp [attsCells]
  | _ :: ts, _ :: rs, _ :: vs, h, h' => by
    have := attsCells_length ts rs vs (by simpa using h) (by simpa using h')
    simp [attsCells, attCells, this]; omega

def attItem (s : TS) (R : Regs) : Item := ⟨210, 3, R.atts.a, s.tag.atts.length, R.atts.cap, attsCells s.tag.atts R.anames R.avalues⟩

section
variable {w0 : World} {own0 : Nat → Prop} {b : Nat} {s : TS} {ex : List Item} {w : World}

theorem RepAt.bareB {own : Nat → Prop} {R : Regs} (h : RepAt w own b s R ex) : RepAt w own b s R (bItem ⟨none, 0⟩ [] :: ex) :=
  ⟨h.self, h.ownB, (h.rows.bare (bItem_nil_ok w) rfl).perm (by rw [List.append_assoc]; exact List.Perm.append_left _ (List.perm_append_comm)), h.map, h.mapB, h.la, h.lv, h.lt⟩

def newAtt (s : TS) : TS := { s with tag := { s.tag with atts := s.tag.atts ++ [{}] } }

theorem RepAt.atts_grow {w1 w' : World} {R : Regs} (h : RepAt w (fun k => own0 k ∨ w0.heap.size ≤ k) b s R ex) (hk : Kept own0 w0 w) (hm : More w w1)
    (a' : Addr) (cap' : Nat) (hown : w'.ownsRow 0 210 3 (.slice (some a') (s.tag.atts.length + 1) cap') (s.tag.atts.length + 1) (attsCells s.tag.atts R.anames R.avalues ++ [.slice none 0 0, .slice none 0 0, .bool false]))
    (hg : w1.grownBy w' (R.atts.a.map (·.block))) (hf : some a'.block = R.atts.a.map (·.block) ∨ w1.heap.size ≤ a'.block) :
    w'.heap[b]? = some (.cells (cellsOf s R) 84 (0, 0)) ∧ Tk w0 own0 b (newAtt s) ex (w'.setCell ⟨b, 12, none⟩ (.slice (some a') (s.tag.atts.length + 1) cap')) := by
  have hit : attItem s R ∈ itemsOf s R := by simp [itemsOf, attItem]
  have hup : ∀ k, w.heap.size ≤ k → (own0 k ∨ w0.heap.size ≤ k) := fun k hh => .inr (Nat.le_trans hk.size hh)
  refine ⟨h.mid hm hit hg, ⟨{ R with atts := ⟨some a', cap'⟩, anames := R.anames ++ [⟨none, 0⟩], avalues := R.avalues ++ [⟨none, 0⟩] }, ?_⟩, (hk.grown hm hg (h.row_own hit)).setCell 12 _ h.ownB⟩
  refine h.bareB.bareB.grow hm hup [bItem R.text s.text, bItem R.tname s.tag.name, bItem R.buffer s.tag.buffer]
    ([bItem R.comment s.comment, bItem R.dname s.dname, ⟨34, 6, R.told.a, s.told.length, R.told.cap, toldCells s.told R.tattrs⟩] ++ (attItems s.tag.atts R.anames R.avalues ++ toldItems s.told R.tattrs ++ bItem ⟨none, 0⟩ [] :: bItem ⟨none, 0⟩ [] :: ex)) (attItem s R) ⟨210, 3, some a', s.tag.atts.length + 1, cap', attsCells s.tag.atts R.anames R.avalues ++ attCells {} ⟨none, 0⟩ ⟨none, 0⟩⟩ hit
    (by simp [itemsOf, attItem]) ?_ hown hg (by
    rcases hf with hf | hf
    · exact .inl (by simpa [Item.blk, attItem] using hf)
    · exact .inr ⟨a'.block, rfl, hf⟩) 12 _ (by simp [cellsOf, newAtt]) rfl rfl (by simp [newAtt, h.la]) (by simp [newAtt, h.lv]) h.lt
  simp only [itemsOf, newAtt, attsCells_snoc _ _ _ _ _ _ h.la h.lv, attItems_snoc _ _ _ _ _ _ h.la h.lv, List.length_append, List.length_cons, List.length_nil, List.cons_append, List.nil_append, List.append_assoc]
  refine List.Perm.cons _ (List.Perm.cons _ (List.Perm.cons _ (List.Perm.cons _ (List.Perm.cons _ (List.Perm.cons _ (List.Perm.cons _ ?_))))))
  refine List.Perm.append_left _ ?_
  exact (List.perm_append_comm_assoc [bItem ⟨none, 0⟩ [], bItem ⟨none, 0⟩ []] (toldItems s.told R.tattrs) ex)

theorem lim_att {n : Nat} (h : n ≤ lim) : (n + 1) * 56 ≤ 140737488355328 := by unfold lim at h; omega

set_option maxHeartbeats 800000 in
set_option maxRecDepth 1000000 in
theorem newAttribute_does (h : Tk w0 own0 b s ex w) (hs : sz s ≤ lim) :
    Calls Tryz.prog 196 #[.pointer (some ⟨b, 9, none⟩)] w fun e w' => e = .returned (.tuple #[]) ∧ Tk w0 own0 b (newAtt s) ex w' := by
  obtain ⟨R, hR, hk⟩ := h.reg
  have c1 : w.cell? ⟨b, 12, none⟩ = some (.slice R.atts.a s.tag.atts.length R.atts.cap) := hR.cell 12
  have hf := hR.frozen
  obtain ⟨i0, hi, hz0, hz1, hz2⟩ := info_parts Tryz.infoAtt
  have HS : Hid (s.tag.atts.length ≤ lim) := by unfold sz at hs; exact hide (by omega)
  clear hs
  go_enter Tryz.func196, Tryz.ntmps196
  go_wp2_with (at_builtin; refine wpList_append_mine _ rfl (.tmp 6) (.tmp 8) 75 rfl 210 i0 _ 3 56 Tryz.underlying75 hi hz0 hz1 hz2 rfl (by decide) R.atts.a s.tag.atts.length R.atts.cap (attsCells s.tag.atts R.anames R.avalues) rfl ?own ⟨w.heap.size, 0, none⟩ 1 1 [.slice none 0 0, .slice none 0 0, .bool false] rfl rfl ?c1 ?c2 (by decide) (lim_max HS.out) (lim_att HS.out) ?next)
  case own => exact World.ownsRow.alloc (hR.rows.ok (attItem s R) (by simp [itemsOf, attItem])) _
  case c1 =>
    intro j u hu
    match j, hu with
    | 0, hu => simp at hu; subst hu; simp [Addr.add]
    | 1, hu => simp at hu; subst hu; simp [Addr.add]
    | 2, hu => simp at hu; subst hu; simp [Addr.add]
    | n + 3, hu => simp at hu
  case c2 => intro u hu; simp at hu; rcases hu with rfl | rfl <;> rfl
  case next =>
    intro a' cap' w' hown hgrow hfresh
    obtain ⟨hself, hT⟩ := hR.atts_grow hk ((More.refl w).alloc _) a' cap' hown hgrow (by simpa using hfresh)
    have d1 := cell_of_self hself 12
    have df := frozen_of_self hself
    simp only [cellsOf] at d1
    go_wp2
    go_end0
    exact ⟨rfl, hT⟩

theorem atts_addr {R : Regs} (h : RepAt w (fun k => own0 k ∨ w0.heap.size ≤ k) b s R ex) (hne : s.tag.atts ≠ []) : ∃ g, R.atts.a = some ⟨g, 0, none⟩ ∧ s.tag.atts.length ≤ R.atts.cap ∧ R.atts.cap ≤ maxLen := by
  have hok := h.rows.ok (attItem s R) (by simp [itemsOf, attItem])
  rcases hok.2 with ⟨_, hn⟩ | ⟨g, cap, cur, hv, _, _, hc, hm, _⟩
  · exact absurd (List.eq_nil_of_length_eq_zero hn) hne
  · simp only [attItem] at hv
    injection hv with e1 e2 e3
    exact ⟨g, e1, by rw [e3]; exact hc, by rw [e3]; exact hm⟩
end
end Go.Proofs.YtdfmapcnfficlaaGreatDoor

set_option linter.unusedSimpArgs false
set_option linter.unusedVariables false
namespace Go.Proofs.YtdfmapcnfficlaaGreatDoor
open Go Go.RowKit

theorem Items.ne {w : World} {own : Nat → Prop} {l1 l2 : List Item} {it : Item} (h : Items w own (l1 ++ it :: l2)) : ∀ x ∈ l1 ++ l2, ∀ k, x.blk = some k → it.blk ≠ some k := by
  have hnd := h.nodup
  intro x hx k hk he
  simp only [List.filterMap_append, List.filterMap_cons, he] at hnd
  have hnd' := List.nodup_append.1 hnd
  rcases List.mem_append.1 hx with hx | hx
  · exact hnd'.2.2 k (List.mem_filterMap.2 ⟨x, hx, hk⟩) k (by simp) rfl
  · exact (List.nodup_cons.1 hnd'.2.1).1 (List.mem_filterMap.2 ⟨x, hx, hk⟩)

/-- A cell of one row is written. -/
theorem Items.set {w : World} {own : Nat → Prop} {l1 l2 : List Item} {it : Item} (h : Items w own (l1 ++ it :: l2)) {g i : Nat} (ha : it.a = some ⟨g, 0, none⟩) (hi : i < it.xs.length) (v : Value) :
    Items (w.setCell ⟨g, i, none⟩ v) own (l1 ++ { it with xs := it.xs.set i v } :: l2) := by
  have hb : it.blk = some g := by simp [Item.blk, ha]
  have hfm : (l1 ++ { it with xs := it.xs.set i v } :: l2).filterMap Item.blk = (l1 ++ it :: l2).filterMap Item.blk := by simp only [List.filterMap_append, List.filterMap_cons, Item.blk]
  refine ⟨?_, by rw [hfm]; exact h.nodup, by rw [hfm]; exact h.own⟩
  intro x hx
  have hx' : x ∈ l1 ++ l2 ∨ x = { it with xs := it.xs.set i v } := by
    simp only [List.mem_append, List.mem_cons] at hx ⊢
    rcases hx with h | h | h
    · exact .inl (.inl h)
    · exact .inr h
    · exact .inl (.inr h)
  rcases hx' with hm | rfl
  · have hm' : x ∈ l1 ++ it :: l2 := by
      simp only [List.mem_append, List.mem_cons] at hm ⊢
      rcases hm with h | h
      · exact .inl h
      · exact .inr (.inr h)
    refine Item.ok_kept (h.ok x hm') fun k hk => set_other v ?_
    intro e; subst e
    exact h.ne x hm k hk hb
  · have hok := h.ok it (by simp)
    rcases hok.2 with ⟨hv, hn⟩ | ⟨g', cap, cur, hv, h0, hg, hc, hm, hs, ht⟩
    · injection hv with e1; rw [ha] at e1; cases e1
    · injection hv with e1 e2 e3
      rw [ha] at e1
      have e1' : g = g' := by injection e1 with e1; injection e1
      subst e1'
      refine ⟨by simpa using hok.1, .inr ⟨g, cap, cur.setIfInBounds i v, by simp [ha, e3], h0, ?_, hc, hm, by simpa using hs, ?_⟩⟩
      · rw [set_self hg]
      · show (cur.setIfInBounds i v).toList.take (it.n * it.size) = it.xs.set i v
        rw [← ht, Array.toList_setIfInBounds, List.take_set]

section
variable {w0 : World} {own0 : Nat → Prop} {b : Nat} {s : TS} {ex : List Item} {w : World}

set_option maxHeartbeats 800000 in
theorem lastAttribute_does {R : Regs} (h : TkR w0 own0 b s R ex w) (g k : Nat) (hg : R.atts.a = some ⟨g, 0, none⟩) (hn : s.tag.atts.length = k + 1) (hl : k + 1 ≤ lim) :
    Calls Tryz.prog 236 #[.pointer (some ⟨b, 9, none⟩)] w fun e w' => e = .returned (.pointer (some ⟨g, k * 3, none⟩)) ∧ w' = w.drew := by
  have c1 : w.cell? ⟨b, 12, none⟩ = some (.slice (some ⟨g, 0, none⟩) (k + 1) R.atts.cap) := by rw [← hg, ← hn]; exact h.1.cell 12
  unfold lim at hl
  clear hn hg h
  go_enter Tryz.func236, Tryz.ntmps236
  go_wp2_with fail
  go_region
  all_goals
    go_wp2
    go_ret
    exact ⟨rfl, rfl⟩

/-- The tokenizer with its last attribute laid open. -/
structure LastAt (R : Regs) (s : TS) (pre : List Att) (a : Att) (pa pv : List Sl) (ra rv : Sl) (g : Nat) : Prop where
  atts : s.tag.atts = pre ++ [a]
  names : R.anames = pa ++ [ra]
  values : R.avalues = pv ++ [rv]
  la : pa.length = pre.length
  lv : pv.length = pre.length
  addr : R.atts.a = some ⟨g, 0, none⟩

theorem lastAt_of {R : Regs} (h : RepAt w (fun k => own0 k ∨ w0.heap.size ≤ k) b s R ex) (hne : s.tag.atts ≠ []) : ∃ pre a pa pv ra rv g, LastAt R s pre a pa pv ra rv g := by
  obtain ⟨g, hg, _⟩ := atts_addr h hne
  have h1 : R.anames ≠ [] := fun e => hne (List.eq_nil_of_length_eq_zero (by rw [← h.la, e]; rfl))
  have h2 : R.avalues ≠ [] := fun e => hne (List.eq_nil_of_length_eq_zero (by rw [← h.lv, e]; rfl))
  refine ⟨s.tag.atts.dropLast, s.tag.atts.getLast hne, R.anames.dropLast, R.avalues.dropLast, R.anames.getLast h1, R.avalues.getLast h2, g, ?_, ?_, ?_, ?_, ?_, hg⟩
  · exact (List.dropLast_concat_getLast hne).symm
  · exact (List.dropLast_concat_getLast h1).symm
  · exact (List.dropLast_concat_getLast h2).symm
  · simp [h.la]
  · simp [h.lv]

variable {R : Regs} {pre : List Att} {a : Att} {pa pv : List Sl} {ra rv : Sl} {g : Nat}

theorem LastAt.len (L : LastAt R s pre a pa pv ra rv g) : s.tag.atts.length = pre.length + 1 := by rw [L.atts]; simp

theorem LastAt.xs (L : LastAt R s pre a pa pv ra rv g) : attsCells s.tag.atts R.anames R.avalues = attsCells pre pa pv ++ attCells a ra rv := by
  rw [L.atts, L.names, L.values, attsCells_snoc _ _ _ _ _ _ L.la L.lv]

theorem LastAt.cell (L : LastAt R s pre a pa pv ra rv g) (h : RepAt w (fun k => own0 k ∨ w0.heap.size ≤ k) b s R ex) (i : Nat) (u : Value) (hu : (attCells a ra rv)[i]? = some u) : w.cell? ⟨g, pre.length * 3 + i, none⟩ = some u := by
  have hok := h.rows.ok (attItem s R) (by simp [itemsOf, attItem])
  have hl := attsCells_length pre pa pv L.la L.lv
  have := World.ownsRow.cells hok (g := g) (by simp [attItem, L.addr, Value.ownBlock]) (pre.length * 3 + i) u (by
    show (attsCells s.tag.atts R.anames R.avalues)[pre.length * 3 + i]? = some u
    rw [L.xs, List.getElem?_append_right (by omega), hl]
    rw [show pre.length * 3 + i - 3 * pre.length = i by omega]; exact hu)
  have hadd : (⟨g, 0, none⟩ : Addr).add (pre.length * 3 + i) = ⟨g, pre.length * 3 + i, none⟩ := by unfold Addr.add; split <;> simp_all
  rw [hadd] at this
  exact this

theorem LastAt.block (L : LastAt R s pre a pa pv ra rv g) (h : RepAt w (fun k => own0 k ∨ w0.heap.size ≤ k) b s R ex) : ∃ cur, w.heap[g]? = some (.cells cur 210 (0, 0)) := by
  have hok := h.rows.ok (attItem s R) (by simp [itemsOf, attItem])
  rcases hok.2 with ⟨hv, _⟩ | ⟨g', cap, cur, hv, h0, hg, _⟩
  · injection hv with e1; simp only [attItem] at e1; rw [L.addr] at e1; cases e1
  · injection hv with e1 e2 e3
    simp only [attItem] at e1
    rw [L.addr] at e1
    have e1' : g = g' := by injection e1 with e1; injection e1
    subst e1'
    exact ⟨cur, hg⟩

theorem LastAt.frozen (L : LastAt R s pre a pa pv ra rv g) (h : RepAt w (fun k => own0 k ∨ w0.heap.size ≤ k) b s R ex) (o : Nat) : w.frozen? ⟨g, o, none⟩ = false := by
  obtain ⟨cur, hc⟩ := L.block h
  exact frozen_of_self hc o

def setLast (s : TS) (pre : List Att) (a : Att) : TS := { s with tag := { s.tag with atts := pre ++ [a] } }

/-- The last attribute's three cells are written anew; a row may have been put in another's place. -/
theorem LastAt.write (L : LastAt R s pre a pa pv ra rv g) (h : RepAt w (fun k => own0 k ∨ w0.heap.size ≤ k) b s R ex) {w' : World} (a' : Att) (ra' rv' : Sl) (i : Nat) (v : Value) (hi : i < 3)
    (hcells : (attCells a ra rv).set i v = attCells a' ra' rv')
    (hself : w'.heap[b]? = some (.cells (cellsOf s R) 84 (0, 0))) (hmap : mapOf w' R.names s.tag.names)
    (hI : Items w' (fun k => (own0 k ∨ w0.heap.size ≤ k) ∧ k ≠ b ∧ some k ≠ R.names) ([bItem R.text s.text, bItem R.tname s.tag.name, bItem R.buffer s.tag.buffer] ++ attItem s R :: ([bItem R.comment s.comment, bItem R.dname s.dname, ⟨34, 6, R.told.a, s.told.length, R.told.cap, toldCells s.told R.tattrs⟩] ++ (attItems pre pa pv ++ [bItem ra' a'.name, bItem rv' a'.value] ++ toldItems s.told R.tattrs ++ ex)))) :
    RepAt (w'.setCell ⟨g, pre.length * 3 + i, none⟩ v) (fun k => own0 k ∨ w0.heap.size ≤ k) b (setLast s pre a') { R with anames := pa ++ [ra'], avalues := pv ++ [rv'] } ex := by
  have hl := attsCells_length pre pa pv L.la L.lv
  have hgb : g ≠ b := by
    have := h.rows.own g (List.mem_filterMap.2 ⟨attItem s R, by simp [itemsOf, attItem], by simp [Item.blk, attItem, L.addr]⟩)
    exact this.2.1
  have hgn : some g ≠ R.names := by
    have := h.rows.own g (List.mem_filterMap.2 ⟨attItem s R, by simp [itemsOf, attItem], by simp [Item.blk, attItem, L.addr]⟩)
    exact this.2.2
  have hJ := hI.set (g := g) (i := pre.length * 3 + i) L.addr (by show _ < (attsCells s.tag.atts R.anames R.avalues).length; rw [L.xs]; simp [attCells, hl]; omega) v
  have hxs : (attsCells s.tag.atts R.anames R.avalues).set (pre.length * 3 + i) v = attsCells pre pa pv ++ attCells a' ra' rv' := by
    rw [L.xs, List.set_append_right _ _ (by omega), hl, show pre.length * 3 + i - 3 * pre.length = i by omega, hcells]
  refine ⟨?_, h.ownB, ?_, ?_, h.mapB, by simp [setLast, L.la], by simp [setLast, L.lv], h.lt⟩
  · rw [set_other v (Ne.symm hgb), hself]
    simp [cellsOf, setLast, L.len]
  · refine hJ.perm ?_
    simp only [itemsOf, setLast, attItem, hxs, L.len, attsCells_snoc _ _ _ _ _ _ L.la L.lv, attItems_snoc _ _ _ _ _ _ L.la L.lv, List.length_append, List.length_cons, List.length_nil, List.cons_append, List.nil_append, List.append_assoc]
    exact List.Perm.refl _
  · refine mapOf_kept hmap fun k hk => set_other v ?_
    intro e; subst e; exact hgn hk.symm
end
end Go.Proofs.YtdfmapcnfficlaaGreatDoor

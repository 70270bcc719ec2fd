/-
  The last attribute: its name and its value grow.
-/
import Derived.Test.YtdfmapcnfficlaaGreatDoorB09
set_option linter.unusedSimpArgs false
set_option linter.unusedVariables false
namespace Go.Proofs.YtdfmapcnfficlaaGreatDoor
open Go Go.RowKit
section
variable {w0 : World} {own0 : Nat → Prop} {b : Nat} {s : TS} {ex : List Item} {w : World} {R : Regs} {pre : List Att} {a : Att} {pa pv : List Sl} {ra rv : Sl} {g : Nat}

theorem LastAt.name_grow (L : LastAt R s pre a pa pv ra rv g) (h : RepAt w (fun k => own0 k ∨ w0.heap.size ≤ k) b s R ex) (hk : Kept own0 w0 w) {w1 w' : World} (hm : More w w1) (l : Str) (r' : Sl) (hok : (bItem r' l).ok w')
    (hg : w1.grownBy w' (ra.a.map (·.block))) (hf : Fresh w1 ra.a r'.a) :
    w'.heap[g]? = w.heap[g]? ∧ Tk w0 own0 b (setLast s pre { a with name := l }) ex (w'.setCell ⟨g, pre.length * 3 + 0, none⟩ (.slice r'.a l.length r'.cap)) := by
  have hup : ∀ k, w.heap.size ≤ k → (own0 k ∨ w0.heap.size ≤ k) := fun k hh => .inr (Nat.le_trans hk.size hh)
  have e0 : itemsOf s R = [bItem R.text s.text, bItem R.tname s.tag.name, bItem R.buffer s.tag.buffer, attItem s R, bItem R.comment s.comment, bItem R.dname s.dname, ⟨34, 6, R.told.a, s.told.length, R.told.cap, toldCells s.told R.tattrs⟩] ++ (attItems pre pa pv) ++ bItem ra a.name :: (bItem rv a.value :: toldItems s.told R.tattrs) := by
    simp [itemsOf, attItem, L.atts, L.names, L.values, attItems_snoc _ _ _ _ _ _ L.la L.lv]
  have hit : bItem ra a.name ∈ itemsOf s R := by rw [e0]; simp
  have hrows := h.rows
  rw [e0, List.append_assoc, List.cons_append] at hrows
  have hI : Items w1 (fun k => (own0 k ∨ w0.heap.size ≤ k) ∧ k ≠ b ∧ some k ≠ R.names) _ := hrows.kept fun k hk _ => hm.block k hk
  have hJ := hI.step (it' := bItem r' l) hg hok hf (fun k hk => h.up hup k (by have := hm.size; omega))
  have hgo : some g ≠ ra.a.map (·.block) := by
    have := hrows.ne (attItem s R) (by simp) g (by simp [Item.blk, attItem, L.addr])
    intro e; exact this e.symm
  obtain ⟨cur, hcur⟩ := L.block h
  have hlt : g < w.heap.size := (Array.getElem?_eq_some_iff.1 hcur).1
  have hgg : w'.heap[g]? = w.heap[g]? := by rw [hg.block g (by have := hm.size; omega) hgo, hm.block g hlt]
  refine ⟨hgg, ⟨{ R with anames := pa ++ [r'], avalues := pv ++ [rv] }, ?_⟩, ?_⟩
  · refine L.write h { a with name := l } r' rv 0 _ (by omega) rfl (h.mid hm hit hg) ?_ ?_
    · refine mapOf_kept h.map fun k hkn => ?_
      rw [hg.block k (by have := h.map_lt k hkn; have := hm.size; omega) (h.ne_row hit k (.inr hkn.symm)), hm.block k (h.map_lt k hkn)]
    · simpa using hJ
  · refine (hk.grown hm hg (h.row_own hit)).setCell _ _ ?_
    exact (h.rows.own g (List.mem_filterMap.2 ⟨attItem s R, by simp [itemsOf, attItem], by simp [Item.blk, attItem, L.addr]⟩)).1

theorem LastAt.value_grow (L : LastAt R s pre a pa pv ra rv g) (h : RepAt w (fun k => own0 k ∨ w0.heap.size ≤ k) b s R ex) (hk : Kept own0 w0 w) {w1 w' : World} (hm : More w w1) (l : Str) (r' : Sl) (hok : (bItem r' l).ok w')
    (hg : w1.grownBy w' (rv.a.map (·.block))) (hf : Fresh w1 rv.a r'.a) :
    w'.heap[g]? = w.heap[g]? ∧ Tk w0 own0 b (setLast s pre { a with value := l }) ex (w'.setCell ⟨g, pre.length * 3 + 1, none⟩ (.slice r'.a l.length r'.cap)) := by
  have hup : ∀ k, w.heap.size ≤ k → (own0 k ∨ w0.heap.size ≤ k) := fun k hh => .inr (Nat.le_trans hk.size hh)
  have e0 : itemsOf s R = [bItem R.text s.text, bItem R.tname s.tag.name, bItem R.buffer s.tag.buffer, attItem s R, bItem R.comment s.comment, bItem R.dname s.dname, ⟨34, 6, R.told.a, s.told.length, R.told.cap, toldCells s.told R.tattrs⟩] ++ (attItems pre pa pv ++ [bItem ra a.name]) ++ bItem rv a.value :: (toldItems s.told R.tattrs) := by
    simp [itemsOf, attItem, L.atts, L.names, L.values, attItems_snoc _ _ _ _ _ _ L.la L.lv]
  have hit : bItem rv a.value ∈ itemsOf s R := by rw [e0]; simp
  have hrows := h.rows
  rw [e0, List.append_assoc, List.cons_append] at hrows
  have hI : Items w1 (fun k => (own0 k ∨ w0.heap.size ≤ k) ∧ k ≠ b ∧ some k ≠ R.names) _ := hrows.kept fun k hk _ => hm.block k hk
  have hJ := hI.step (it' := bItem r' l) hg hok hf (fun k hk => h.up hup k (by have := hm.size; omega))
  have hgo : some g ≠ rv.a.map (·.block) := by
    have := hrows.ne (attItem s R) (by simp) g (by simp [Item.blk, attItem, L.addr])
    intro e; exact this e.symm
  obtain ⟨cur, hcur⟩ := L.block h
  have hlt : g < w.heap.size := (Array.getElem?_eq_some_iff.1 hcur).1
  have hgg : w'.heap[g]? = w.heap[g]? := by rw [hg.block g (by have := hm.size; omega) hgo, hm.block g hlt]
  refine ⟨hgg, ⟨{ R with anames := pa ++ [ra], avalues := pv ++ [r'] }, ?_⟩, ?_⟩
  · refine L.write h { a with value := l } ra r' 1 _ (by omega) rfl (h.mid hm hit hg) ?_ ?_
    · refine mapOf_kept h.map fun k hkn => ?_
      rw [hg.block k (by have := h.map_lt k hkn; have := hm.size; omega) (h.ne_row hit k (.inr hkn.symm)), hm.block k (h.map_lt k hkn)]
    · simpa using hJ
  · refine (hk.grown hm hg (h.row_own hit)).setCell _ _ ?_
    exact (h.rows.own g (List.mem_filterMap.2 ⟨attItem s R, by simp [itemsOf, attItem], by simp [Item.blk, attItem, L.addr]⟩)).1

def updLast (f : Att → Att) : List Att → List Att
  | [] => []
  | [a] => [f a]
  | a :: x :: r => a :: updLast f (x :: r)
theorem updLast_snoc (f : Att → Att) (a : Att) : ∀ pre : List Att, updLast f (pre ++ [a]) = pre ++ [f a]
  | [] => rfl
  | [x] => rfl
  | x :: y :: r => by simpa [updLast] using updLast_snoc f a (y :: r)
def addToName (s : TS) (c : Int) : TS := { s with tag := { s.tag with atts := updLast (fun a => { a with name := a.name ++ Lib.encodeRune c }) s.tag.atts } }
def addToValue (s : TS) (c : Int) : TS := { s with tag := { s.tag with atts := updLast (fun a => if a.twice then a else { a with value := a.value ++ Lib.encodeRune c }) s.tag.atts } }

theorem attsz_snoc (a : Att) : ∀ pre : List Att, attsz (pre ++ [a]) = attsz pre + (a.name.length + a.value.length)
  | [] => by simp [attsz]
  | x :: r => by simp [attsz, attsz_snoc a r]; omega
theorem LastAt.szle (L : LastAt R s pre a pa pv ra rv g) : a.name.length + a.value.length + pre.length + 1 ≤ sz s := by
  have h1 := L.len
  have h2 : attsz s.tag.atts = attsz pre + (a.name.length + a.value.length) := by rw [L.atts, attsz_snoc]
  unfold sz; omega

set_option maxHeartbeats 800000 in
set_option maxRecDepth 1000000 in
theorem addToName_does (c : Int) (hc : Rn c) (hne : s.tag.atts ≠ []) (h : Tk w0 own0 b s ex w) (hs : sz s + 8 ≤ lim) :
    Calls Tryz.prog 197 #[.pointer (some ⟨b, 0, none⟩), .int .i32 c] w fun e w' => e = .returned (.tuple #[]) ∧ Tk w0 own0 b (addToName s c) ex w' := by
  obtain ⟨R, hR⟩ := h.reg
  obtain ⟨pre, a, pa, pv, ra, rv, g, L⟩ := lastAt_of hR.1 hne
  have hz := L.szle
  have HL := hide (lastAttribute_does hR g pre.length L.addr L.len (by omega))
  have c0 : w.cell? ⟨g, pre.length * 3, none⟩ = some (.slice ra.a a.name.length ra.cap) := L.cell hR.1 0 _ rfl
  have hrow : (bItem ra a.name).ok w.drew := hR.1.rows.ok (bItem ra a.name) (by simp [itemsOf, L.atts, L.names, L.values, attItems_snoc _ _ _ _ _ _ L.la L.lv])
  have HA := hide (appendRune_does ra a.name c (by have := hc.1; omega) (by have := hc.2; omega) w.drew hrow (by unfold lim at hs; omega))
  have hfin : addToName s c = setLast s pre { a with name := a.name ++ Lib.encodeRune c } := by simp [addToName, setLast, L.atts, updLast_snoc]
  rw [hfin]
  have HR := hide (tkR_drew hR)
  have HLst := hide L
  clear hs hz hfin h hne hR L
  go_enter Tryz.func197, Tryz.ntmps197
  go_wp2_with fail
  refine (unhide HL).mono ?_
  rintro e w1 ⟨rfl, rfl⟩
  go_wp2_with fail
  refine (unhide HA).mono ?_
  rintro e w2 ⟨r', o, rfl, hok, hg, hf⟩
  obtain ⟨hgg, hT⟩ := (unhide HLst).name_grow (unhide HR).1 (unhide HR).2 ((More.refl _).alloc o) _ r' hok hg hf
  obtain ⟨cur, hcur⟩ := (unhide HLst).block (unhide HR).1
  have d0 : w2.cell? ⟨g, pre.length * 3, none⟩ = some (.slice ra.a a.name.length ra.cap) := by rw [World.cell?_of_block (w := w.drew) hgg]; exact c0
  have df := frozen_of_self (hgg.trans hcur)
  simp only [List.length_append, Nat.add_zero] at hT
  clear hgg hcur
  go_wp2
  go_end0
  exact ⟨rfl, hT⟩
end
end Go.Proofs.YtdfmapcnfficlaaGreatDoor

/-
  One row of the tokenizer's grows, and the cell that holds it is set.
  The same tokenizer, seen from a later start: what was laid since stands.
-/
import Derived.Test.YtdfmapcnfficlaaGreatDoorB02
import Derived.Laws.IdiomStrings
import Derived.Laws.BytesArg
namespace Go.Proofs.YtdfmapcnfficlaaGreatDoor
open Go Go.RowKit

theorem RepAt.map_lt {w : World} {own : Nat → Prop} {b : Nat} {s : TS} {R : Regs} {ex : List Item} (h : RepAt w own b s R ex) : ∀ g, R.names = some g → g < w.heap.size := by
  intro g hg
  have hm := h.map
  rw [hg] at hm
  cases hn : s.tag.names with
  | none => simp [mapOf, hn] at hm
  | some ks =>
    simp only [mapOf, hn] at hm
    obtain ⟨es, c, he, _⟩ := hm
    exact (Array.getElem?_eq_some_iff.1 he).1

theorem RepAt.up {w : World} {own : Nat → Prop} {b : Nat} {s : TS} {R : Regs} {ex : List Item} (h : RepAt w own b s R ex) (hup : ∀ k, w.heap.size ≤ k → own k) : ∀ k, w.heap.size ≤ k → own k ∧ k ≠ b ∧ some k ≠ R.names :=
  fun k hk => ⟨hup k hk, fun e => by have := h.lt_b; omega, fun e => by have := h.map_lt k e.symm; omega⟩

/-- A row that points nowhere may stand behind the others. -/
theorem Items.bare {w : World} {own : Nat → Prop} {l : List Item} (h : Items w own l) {it : Item} (hok : it.ok w) (hb : it.blk = none) : Items w own (l ++ [it]) := by
  refine ⟨fun x hx => ?_, ?_, ?_⟩
  · rcases List.mem_append.1 hx with hx | hx
    · exact h.ok x hx
    · rw [List.mem_singleton.1 hx]; exact hok
  · simpa [hb] using h.nodup
  · simpa [hb] using h.own

/-- The order of the rows tells nothing. -/
theorem Items.perm {w : World} {own : Nat → Prop} {l l' : List Item} (h : Items w own l) (p : l.Perm l') : Items w own l' :=
  ⟨fun x hx => h.ok x (p.mem_iff.2 hx), (p.filterMap _).nodup_iff.1 h.nodup, fun k hk => h.own k ((p.filterMap _).mem_iff.2 hk)⟩

/-- Rows may be let go, and rows that point nowhere put in their places. -/
theorem Items.less {w : World} {own : Nat → Prop} {l l' : List Item} (h : Items w own l) (l1 l2 n : List Item) (p : l.Perm (l1 ++ l2)) (hn : ∀ it ∈ n, it.ok w ∧ it.blk = none) (p' : l'.Perm (l1 ++ n)) : Items w own l' := by
  have h1 := h.perm p
  have hnb : n.filterMap Item.blk = [] := by
    rw [List.filterMap_eq_nil_iff]; exact fun it hi => (hn it hi).2
  refine Items.perm ⟨fun x hx => ?_, ?_, ?_⟩ p'.symm
  · rcases List.mem_append.1 hx with hx | hx
    · exact h1.ok x (List.mem_append_left _ hx)
    · exact (hn x hx).1
  · have := h1.nodup
    rw [List.filterMap_append] at this ⊢
    rw [hnb, List.append_nil]
    exact (List.nodup_append.1 this).1
  · intro k hk
    rw [List.filterMap_append, hnb, List.append_nil] at hk
    exact h1.own k (by rw [List.filterMap_append]; exact List.mem_append_left _ hk)

theorem perm_mid (pre post : List Item) (x : Item) : (pre ++ x :: post).Perm ((pre ++ post) ++ [x]) :=
  (List.perm_middle).trans (List.perm_append_comm (l₁ := [x]))

theorem bItem_nil_ok (w : World) : (bItem ⟨none, 0⟩ []).ok w := World.ownsRow_nil w 0 5 1

theorem conv_any {P : Program} {w : World} {a : Option Addr} {cap : Nat} {l : Str} {src dst e : TypeId} (hs : P.underlying src = some (.slice e)) (he : P.underlying e = some (.int .u8)) (hd : P.underlying dst = some .string)
    (h : w.ownsRow 0 e 1 (.slice a l.length cap) l.length (byteCells l)) : (convert src dst (.slice a l.length cap)).run P w = .ok (.string ⟨l.toArray⟩) w := by
  rcases h.2 with ⟨hv, hn⟩ | ⟨g, cap', cur, hv, _⟩
  · have hl : l = [] := List.eq_nil_of_length_eq_zero hn
    subst hl
    injection hv with e1 e2 e3
    subst e1; subst e3
    exact run_convert_bytes_nil w src e hs he 0 0 dst hd
  · injection hv with e1 e2 e3
    subst e1; subst e3
    refine run_convert_bytes_back w src dst e ⟨g, 0, none⟩ _ l hs he hd fun j hj => ?_
    exact World.ownsRow.cells h (g := g) rfl j _ (by simp [byteCells, hj])

/-- 'string(b)' of a row of bytes. -/
theorem conv_row {w : World} {r : Sl} {l : Str} (h : (bItem r l).ok w) : (convert 74 9 (.slice r.a l.length r.cap)).run Tryz.prog w = .ok (.string ⟨l.toArray⟩) w :=
  conv_any (P := Tryz.prog) Tryz.underlying74 Tryz.underlying5 Tryz.underlying9 h

theorem aItem_nil_ok (w : World) : (aItem ⟨none, 0⟩ []).ok w := World.ownsRow_nil w 0 9 1

/-- w1 is w with some new memory. -/
structure More (w w1 : World) : Prop where
  os : w1.os = w.os
  tape : w1.tape = w.tape
  output : w1.output = w.output
  size : w.heap.size ≤ w1.heap.size
  block : ∀ k, k < w.heap.size → w1.heap[k]? = w.heap[k]?

theorem More.refl (w : World) : More w w := ⟨rfl, rfl, rfl, Nat.le_refl _, fun _ _ => rfl⟩
theorem More.alloc {w w1 : World} (h : More w w1) (o : Obj) : More w (w1.alloc o) := ⟨h.os, h.tape, h.output, by have := h.size; simp; omega, fun k hk => (Below.heap_alloc _ _ _ (by have := h.size; omega)).trans (h.block k hk)⟩
theorem More.drew {w w1 : World} (h : More w w1) : More w w1.drew := ⟨h.os, h.tape, h.output, h.size, h.block⟩

theorem RepAt.ne_row {w : World} {own : Nat → Prop} {b : Nat} {s : TS} {R : Regs} {ex : List Item} (h : RepAt w own b s R ex) {it : Item} (hit : it ∈ itemsOf s R) : ∀ k, (k = b ∨ some k = R.names) → some k ≠ it.blk := by
  intro k hk e
  have := h.rows.own k (List.mem_filterMap.2 ⟨it, List.mem_append_left _ hit, e.symm⟩)
  rcases hk with rfl | hk
  · exact this.2.1 rfl
  · exact this.2.2 hk

theorem RepAt.mid {w w1 w' : World} {own : Nat → Prop} {b : Nat} {s : TS} {R : Regs} {ex : List Item} (h : RepAt w own b s R ex) (hm : More w w1) {it : Item} (hit : it ∈ itemsOf s R) (hg : w1.grownBy w' it.blk) : w'.heap[b]? = some (.cells (cellsOf s R) 84 (0, 0)) := by
  rw [hg.block b (by have := h.lt_b; have := hm.size; omega) (h.ne_row hit b (.inl rfl)), hm.block b h.lt_b]; exact h.self

theorem RepAt.grow {w w1 w' : World} {own : Nat → Prop} {b : Nat} {s s' : TS} {R R' : Regs} {ex ex' : List Item} (h : RepAt w own b s R ex) (hm : More w w1) (hup : ∀ k, w.heap.size ≤ k → own k)
    (l1 l2 : List Item) (it it' : Item) (hit : it ∈ itemsOf s R) (e : (itemsOf s R ++ ex).Perm (l1 ++ it :: l2)) (e' : (itemsOf s' R' ++ ex').Perm (l1 ++ it' :: l2)) (hok : it'.ok w') (hg : w1.grownBy w' it.blk) (hf : it'.blk = it.blk ∨ ∃ g, it'.blk = some g ∧ w1.heap.size ≤ g)
    (o : Nat) (v : Value) (hc : (cellsOf s R).setIfInBounds o v = cellsOf s' R') (hn : R'.names = R.names) (hn' : s'.tag.names = s.tag.names)
    (la : R'.anames.length = s'.tag.atts.length) (lv : R'.avalues.length = s'.tag.atts.length) (lt : R'.tattrs.length = s'.told.length) : RepAt (w'.setCell ⟨b, o, none⟩ v) own b s' R' ex' := by
  have hself := h.mid hm hit hg
  have hI : Items w1 (fun k => own k ∧ k ≠ b ∧ some k ≠ R.names) (l1 ++ it :: l2) := (h.rows.perm e).kept fun k hk _ => hm.block k hk
  have hI' := hI.step hg hok hf (fun k hk => h.up hup k (by have := hm.size; omega))
  refine ⟨by rw [set_self hself, hc], h.ownB, ?_, ?_, by rw [hn]; exact h.mapB, la, lv, lt⟩
  · rw [hn]
    exact (hI'.kept fun k _ hk => set_other _ hk.2.1).perm e'.symm
  · rw [hn, hn']
    refine mapOf_kept h.map fun g hgn => ?_
    rw [set_other _ (h.mapB g hgn).2, hg.block g (by have := h.map_lt g hgn; have := hm.size; omega) (h.ne_row hit g (.inr hgn.symm)), hm.block g (h.map_lt g hgn)]

/-- The tokenizer's own cells are written anew; rows may be let go. -/
theorem RepAt.anew {w w' : World} {own : Nat → Prop} {b : Nat} {s s' : TS} {R R' : Regs} {ex ex' : List Item} (h : RepAt w own b s R ex) (hself : w'.heap[b]? = some (.cells (cellsOf s' R') 84 (0, 0))) (hoth : ∀ k, k ≠ b → w'.heap[k]? = w.heap[k]?)
    (l1 l2 n : List Item) (p : (itemsOf s R ++ ex).Perm (l1 ++ l2)) (hn : ∀ it ∈ n, it.ok w ∧ it.blk = none) (p' : (itemsOf s' R' ++ ex').Perm (l1 ++ n))
    (hnm : (R'.names = R.names ∧ s'.tag.names = s.tag.names) ∨ (R'.names = none ∧ s'.tag.names = none))
    (la : R'.anames.length = s'.tag.atts.length) (lv : R'.avalues.length = s'.tag.atts.length) (lt : R'.tattrs.length = s'.told.length) : RepAt w' own b s' R' ex' := by
  have hI : Items w' (fun k => own k ∧ k ≠ b ∧ some k ≠ R.names) (itemsOf s' R' ++ ex') := (h.rows.less l1 l2 n p hn p').kept fun k _ hk => hoth k hk.2.1
  rcases hnm with ⟨hn1, hn2⟩ | ⟨hn1, hn2⟩
  · refine ⟨hself, h.ownB, by rw [hn1]; exact hI, ?_, by rw [hn1]; exact h.mapB, la, lv, lt⟩
    rw [hn1, hn2]
    exact mapOf_kept h.map fun g hg => hoth g (h.mapB g hg).2
  · refine ⟨hself, h.ownB, ⟨hI.ok, hI.nodup, fun k hk => ⟨(hI.own k hk).1, (hI.own k hk).2.1, by rw [hn1]; simp⟩⟩, ?_, by rw [hn1]; simp, la, lv, lt⟩
    rw [hn1, hn2]
    trivial

theorem Kept.anew {own : Nat → Prop} {w0 w w' : World} (h : Kept own w0 w) {b : Nat} (hb : own b ∨ w0.heap.size ≤ b) (he : w'.os = w.os ∧ w'.tape = w.tape ∧ w'.output = w.output ∧ w'.heap.size = w.heap.size) (hoth : ∀ k, k ≠ b → w'.heap[k]? = w.heap[k]?) : Kept own w0 w' :=
  ⟨he.1.trans h.os, he.2.1.trans h.tape, he.2.2.1.trans h.output, by rw [he.2.2.2]; exact h.size, fun k hk hn => by
    rw [hoth k (fun e => by subst e; rcases hb with hb | hb; exact hn hb; omega)]; exact h.block k hk hn⟩

theorem Kept.grown {own : Nat → Prop} {w0 w w1 w' : World} (h : Kept own w0 w) (hm : More w w1) {row : Option Nat} (hg : w1.grownBy w' row) (hr : ∀ k, row = some k → own k ∨ w0.heap.size ≤ k) : Kept own w0 w' :=
  ⟨(hg.os.trans hm.os).trans h.os, (hg.tape.trans hm.tape).trans h.tape, (hg.output.trans hm.output).trans h.output, by have := h.size; have := hg.size; have := hm.size; omega,
   fun k hk hn => by
    have hs := h.size
    have hs' := hm.size
    rw [hg.block k (by omega) (fun e => by rcases hr k e.symm with h1 | h1; exact hn h1; omega), hm.block k (by omega)]; exact h.block k hk hn⟩

theorem RepAt.row_own {w : World} {own : Nat → Prop} {b : Nat} {s : TS} {R : Regs} {ex : List Item} (h : RepAt w own b s R ex) {it : Item} (hit : it ∈ itemsOf s R) : ∀ k, it.blk = some k → own k :=
  fun k hk => (h.rows.own k (List.mem_filterMap.2 ⟨it, List.mem_append_left _ hit, hk⟩)).1

/-- The row 'text' has grown (or is new). -/
theorem RepAt.text_grow {w0 w w1 w' : World} {own0 : Nat → Prop} {b : Nat} {s : TS} {R : Regs} {ex : List Item} (h : RepAt w (fun k => own0 k ∨ w0.heap.size ≤ k) b s R ex) (hk : Kept own0 w0 w) (hm : More w w1)
    (l : Str) (r' : Sl) (hok : (bItem r' l).ok w') (hg : w1.grownBy w' (R.text.a.map (·.block))) (hf : Fresh w1 R.text.a r'.a) :
    w'.heap[b]? = some (.cells (cellsOf s R) 84 (0, 0)) ∧ Tk w0 own0 b { s with text := l } ex (w'.setCell ⟨b, 8, none⟩ (.slice r'.a l.length r'.cap)) := by
  have hit : bItem R.text s.text ∈ itemsOf s R := by simp [itemsOf]
  have hup : ∀ k, w.heap.size ≤ k → (own0 k ∨ w0.heap.size ≤ k) := fun k hh => .inr (Nat.le_trans hk.size hh)
  refine ⟨h.mid hm hit hg, ⟨{ R with text := r' }, ?_⟩, (hk.grown hm hg (h.row_own hit)).setCell 8 _ h.ownB⟩
  exact h.grow hm hup [] ([bItem R.tname s.tag.name, bItem R.buffer s.tag.buffer, ⟨210, 3, R.atts.a, s.tag.atts.length, R.atts.cap, attsCells s.tag.atts R.anames R.avalues⟩, bItem R.comment s.comment, bItem R.dname s.dname, ⟨34, 6, R.told.a, s.told.length, R.told.cap, toldCells s.told R.tattrs⟩] ++ (attItems s.tag.atts R.anames R.avalues ++ toldItems s.told R.tattrs) ++ ex) (bItem R.text s.text) (bItem r' l) hit (by simp [itemsOf]) (by simp [itemsOf]) hok hg hf 8 _ rfl rfl rfl h.la h.lv h.lt

/-- The row 'tname' has grown (or is new). -/
theorem RepAt.tname_grow {w0 w w1 w' : World} {own0 : Nat → Prop} {b : Nat} {s : TS} {R : Regs} {ex : List Item} (h : RepAt w (fun k => own0 k ∨ w0.heap.size ≤ k) b s R ex) (hk : Kept own0 w0 w) (hm : More w w1)
    (l : Str) (r' : Sl) (hok : (bItem r' l).ok w') (hg : w1.grownBy w' (R.tname.a.map (·.block))) (hf : Fresh w1 R.tname.a r'.a) :
    w'.heap[b]? = some (.cells (cellsOf s R) 84 (0, 0)) ∧ Tk w0 own0 b { s with tag := { s.tag with name := l } } ex (w'.setCell ⟨b, 10, none⟩ (.slice r'.a l.length r'.cap)) := by
  have hit : bItem R.tname s.tag.name ∈ itemsOf s R := by simp [itemsOf]
  have hup : ∀ k, w.heap.size ≤ k → (own0 k ∨ w0.heap.size ≤ k) := fun k hh => .inr (Nat.le_trans hk.size hh)
  refine ⟨h.mid hm hit hg, ⟨{ R with tname := r' }, ?_⟩, (hk.grown hm hg (h.row_own hit)).setCell 10 _ h.ownB⟩
  exact h.grow hm hup [bItem R.text s.text] ([bItem R.buffer s.tag.buffer, ⟨210, 3, R.atts.a, s.tag.atts.length, R.atts.cap, attsCells s.tag.atts R.anames R.avalues⟩, bItem R.comment s.comment, bItem R.dname s.dname, ⟨34, 6, R.told.a, s.told.length, R.told.cap, toldCells s.told R.tattrs⟩] ++ (attItems s.tag.atts R.anames R.avalues ++ toldItems s.told R.tattrs) ++ ex) (bItem R.tname s.tag.name) (bItem r' l) hit (by simp [itemsOf]) (by simp [itemsOf]) hok hg hf 10 _ rfl rfl rfl h.la h.lv h.lt

/-- The row 'buffer' has grown (or is new). -/
theorem RepAt.buffer_grow {w0 w w1 w' : World} {own0 : Nat → Prop} {b : Nat} {s : TS} {R : Regs} {ex : List Item} (h : RepAt w (fun k => own0 k ∨ w0.heap.size ≤ k) b s R ex) (hk : Kept own0 w0 w) (hm : More w w1)
    (l : Str) (r' : Sl) (hok : (bItem r' l).ok w') (hg : w1.grownBy w' (R.buffer.a.map (·.block))) (hf : Fresh w1 R.buffer.a r'.a) :
    w'.heap[b]? = some (.cells (cellsOf s R) 84 (0, 0)) ∧ Tk w0 own0 b { s with tag := { s.tag with buffer := l } } ex (w'.setCell ⟨b, 11, none⟩ (.slice r'.a l.length r'.cap)) := by
  have hit : bItem R.buffer s.tag.buffer ∈ itemsOf s R := by simp [itemsOf]
  have hup : ∀ k, w.heap.size ≤ k → (own0 k ∨ w0.heap.size ≤ k) := fun k hh => .inr (Nat.le_trans hk.size hh)
  refine ⟨h.mid hm hit hg, ⟨{ R with buffer := r' }, ?_⟩, (hk.grown hm hg (h.row_own hit)).setCell 11 _ h.ownB⟩
  exact h.grow hm hup [bItem R.text s.text, bItem R.tname s.tag.name] ([⟨210, 3, R.atts.a, s.tag.atts.length, R.atts.cap, attsCells s.tag.atts R.anames R.avalues⟩, bItem R.comment s.comment, bItem R.dname s.dname, ⟨34, 6, R.told.a, s.told.length, R.told.cap, toldCells s.told R.tattrs⟩] ++ (attItems s.tag.atts R.anames R.avalues ++ toldItems s.told R.tattrs) ++ ex) (bItem R.buffer s.tag.buffer) (bItem r' l) hit (by simp [itemsOf]) (by simp [itemsOf]) hok hg hf 11 _ rfl rfl rfl h.la h.lv h.lt

/-- The row 'comment' has grown (or is new). -/
theorem RepAt.comment_grow {w0 w w1 w' : World} {own0 : Nat → Prop} {b : Nat} {s : TS} {R : Regs} {ex : List Item} (h : RepAt w (fun k => own0 k ∨ w0.heap.size ≤ k) b s R ex) (hk : Kept own0 w0 w) (hm : More w w1)
    (l : Str) (r' : Sl) (hok : (bItem r' l).ok w') (hg : w1.grownBy w' (R.comment.a.map (·.block))) (hf : Fresh w1 R.comment.a r'.a) :
    w'.heap[b]? = some (.cells (cellsOf s R) 84 (0, 0)) ∧ Tk w0 own0 b { s with comment := l } ex (w'.setCell ⟨b, 17, none⟩ (.slice r'.a l.length r'.cap)) := by
  have hit : bItem R.comment s.comment ∈ itemsOf s R := by simp [itemsOf]
  have hup : ∀ k, w.heap.size ≤ k → (own0 k ∨ w0.heap.size ≤ k) := fun k hh => .inr (Nat.le_trans hk.size hh)
  refine ⟨h.mid hm hit hg, ⟨{ R with comment := r' }, ?_⟩, (hk.grown hm hg (h.row_own hit)).setCell 17 _ h.ownB⟩
  exact h.grow hm hup [bItem R.text s.text, bItem R.tname s.tag.name, bItem R.buffer s.tag.buffer, ⟨210, 3, R.atts.a, s.tag.atts.length, R.atts.cap, attsCells s.tag.atts R.anames R.avalues⟩] ([bItem R.dname s.dname, ⟨34, 6, R.told.a, s.told.length, R.told.cap, toldCells s.told R.tattrs⟩] ++ (attItems s.tag.atts R.anames R.avalues ++ toldItems s.told R.tattrs) ++ ex) (bItem R.comment s.comment) (bItem r' l) hit (by simp [itemsOf]) (by simp [itemsOf]) hok hg hf 17 _ rfl rfl rfl h.la h.lv h.lt

/-- The row 'dname' has grown (or is new). -/
theorem RepAt.dname_grow {w0 w w1 w' : World} {own0 : Nat → Prop} {b : Nat} {s : TS} {R : Regs} {ex : List Item} (h : RepAt w (fun k => own0 k ∨ w0.heap.size ≤ k) b s R ex) (hk : Kept own0 w0 w) (hm : More w w1)
    (l : Str) (r' : Sl) (hok : (bItem r' l).ok w') (hg : w1.grownBy w' (R.dname.a.map (·.block))) (hf : Fresh w1 R.dname.a r'.a) :
    w'.heap[b]? = some (.cells (cellsOf s R) 84 (0, 0)) ∧ Tk w0 own0 b { s with dname := l } ex (w'.setCell ⟨b, 18, none⟩ (.slice r'.a l.length r'.cap)) := by
  have hit : bItem R.dname s.dname ∈ itemsOf s R := by simp [itemsOf]
  have hup : ∀ k, w.heap.size ≤ k → (own0 k ∨ w0.heap.size ≤ k) := fun k hh => .inr (Nat.le_trans hk.size hh)
  refine ⟨h.mid hm hit hg, ⟨{ R with dname := r' }, ?_⟩, (hk.grown hm hg (h.row_own hit)).setCell 18 _ h.ownB⟩
  exact h.grow hm hup [bItem R.text s.text, bItem R.tname s.tag.name, bItem R.buffer s.tag.buffer, ⟨210, 3, R.atts.a, s.tag.atts.length, R.atts.cap, attsCells s.tag.atts R.anames R.avalues⟩, bItem R.comment s.comment] ([⟨34, 6, R.told.a, s.told.length, R.told.cap, toldCells s.told R.tattrs⟩] ++ (attItems s.tag.atts R.anames R.avalues ++ toldItems s.told R.tattrs) ++ ex) (bItem R.dname s.dname) (bItem r' l) hit (by simp [itemsOf]) (by simp [itemsOf]) hok hg hf 18 _ rfl rfl rfl h.la h.lv h.lt

/-- 'text' is begun anew: nil. -/
theorem tk_drop_text {w0 : World} {own0 : Nat → Prop} {b : Nat} {s : TS} {ex : List Item} {w : World} (h : Tk w0 own0 b s ex w) : Tk w0 own0 b { s with text := [] } ex (w.setCell ⟨b, 8, none⟩ (.slice none 0 0)) := by
  obtain ⟨⟨R, hR⟩, hk⟩ := h
  refine ⟨⟨{ R with text := ⟨none, 0⟩ }, ?_⟩, hk.setCell 8 _ hR.ownB⟩
  refine hR.anew (by rw [set_self hR.self]; rfl) (fun k hk => set_other _ hk) ([] ++ ([bItem R.tname s.tag.name, bItem R.buffer s.tag.buffer, ⟨210, 3, R.atts.a, s.tag.atts.length, R.atts.cap, attsCells s.tag.atts R.anames R.avalues⟩, bItem R.comment s.comment, bItem R.dname s.dname, ⟨34, 6, R.told.a, s.told.length, R.told.cap, toldCells s.told R.tattrs⟩] ++ (attItems s.tag.atts R.anames R.avalues ++ toldItems s.told R.tattrs) ++ ex)) [bItem R.text s.text] [bItem ⟨none, 0⟩ []] (perm_mid [] ([bItem R.tname s.tag.name, bItem R.buffer s.tag.buffer, ⟨210, 3, R.atts.a, s.tag.atts.length, R.atts.cap, attsCells s.tag.atts R.anames R.avalues⟩, bItem R.comment s.comment, bItem R.dname s.dname, ⟨34, 6, R.told.a, s.told.length, R.told.cap, toldCells s.told R.tattrs⟩] ++ (attItems s.tag.atts R.anames R.avalues ++ toldItems s.told R.tattrs) ++ ex) (bItem R.text s.text)) ?_ (perm_mid [] ([bItem R.tname s.tag.name, bItem R.buffer s.tag.buffer, ⟨210, 3, R.atts.a, s.tag.atts.length, R.atts.cap, attsCells s.tag.atts R.anames R.avalues⟩, bItem R.comment s.comment, bItem R.dname s.dname, ⟨34, 6, R.told.a, s.told.length, R.told.cap, toldCells s.told R.tattrs⟩] ++ (attItems s.tag.atts R.anames R.avalues ++ toldItems s.told R.tattrs) ++ ex) (bItem ⟨none, 0⟩ [])) (.inl ⟨rfl, rfl⟩) hR.la hR.lv hR.lt
  intro it hi
  rw [List.mem_singleton.1 hi]
  exact ⟨bItem_nil_ok w, rfl⟩

/-- 'comment' is begun anew: nil. -/
theorem tk_drop_comment {w0 : World} {own0 : Nat → Prop} {b : Nat} {s : TS} {ex : List Item} {w : World} (h : Tk w0 own0 b s ex w) : Tk w0 own0 b { s with comment := [] } ex (w.setCell ⟨b, 17, none⟩ (.slice none 0 0)) := by
  obtain ⟨⟨R, hR⟩, hk⟩ := h
  refine ⟨⟨{ R with comment := ⟨none, 0⟩ }, ?_⟩, hk.setCell 17 _ hR.ownB⟩
  refine hR.anew (by rw [set_self hR.self]; rfl) (fun k hk => set_other _ hk) ([bItem R.text s.text, bItem R.tname s.tag.name, bItem R.buffer s.tag.buffer, ⟨210, 3, R.atts.a, s.tag.atts.length, R.atts.cap, attsCells s.tag.atts R.anames R.avalues⟩] ++ ([bItem R.dname s.dname, ⟨34, 6, R.told.a, s.told.length, R.told.cap, toldCells s.told R.tattrs⟩] ++ (attItems s.tag.atts R.anames R.avalues ++ toldItems s.told R.tattrs) ++ ex)) [bItem R.comment s.comment] [bItem ⟨none, 0⟩ []] (perm_mid [bItem R.text s.text, bItem R.tname s.tag.name, bItem R.buffer s.tag.buffer, ⟨210, 3, R.atts.a, s.tag.atts.length, R.atts.cap, attsCells s.tag.atts R.anames R.avalues⟩] ([bItem R.dname s.dname, ⟨34, 6, R.told.a, s.told.length, R.told.cap, toldCells s.told R.tattrs⟩] ++ (attItems s.tag.atts R.anames R.avalues ++ toldItems s.told R.tattrs) ++ ex) (bItem R.comment s.comment)) ?_ (perm_mid [bItem R.text s.text, bItem R.tname s.tag.name, bItem R.buffer s.tag.buffer, ⟨210, 3, R.atts.a, s.tag.atts.length, R.atts.cap, attsCells s.tag.atts R.anames R.avalues⟩] ([bItem R.dname s.dname, ⟨34, 6, R.told.a, s.told.length, R.told.cap, toldCells s.told R.tattrs⟩] ++ (attItems s.tag.atts R.anames R.avalues ++ toldItems s.told R.tattrs) ++ ex) (bItem ⟨none, 0⟩ [])) (.inl ⟨rfl, rfl⟩) hR.la hR.lv hR.lt
  intro it hi
  rw [List.mem_singleton.1 hi]
  exact ⟨bItem_nil_ok w, rfl⟩
end Go.Proofs.YtdfmapcnfficlaaGreatDoor

namespace Go.Proofs.YtdfmapcnfficlaaGreatDoor
open Go Go.RowKit
section
variable {w0 : World} {own0 : Nat → Prop} {b : Nat} {s : TS} {ex : List Item} {w : World}

/-- What was one's own when the world was w. -/
def ownAt (w0 : World) (own0 : Nat → Prop) (w : World) : Nat → Prop := fun k => (own0 k ∨ w0.heap.size ≤ k) ∧ k < w.heap.size

theorem Tk.fresh {w' : World} (h : Tk w0 own0 b s ex w) (hm : More w w') : Tk w' (ownAt w0 own0 w) b s ex w' := by
  obtain ⟨⟨R0, hR0⟩, hk0⟩ := h
  have h2 : ∀ R, RepAt w (fun k => own0 k ∨ w0.heap.size ≤ k) b s R ex → RepAt w' (fun k => ownAt w0 own0 w k ∨ w'.heap.size ≤ k) b s R ex := fun R hR => by
    refine ⟨?_, .inl ⟨hR.ownB, hR.lt_b⟩, ⟨?_, hR.rows.nodup, fun k hk' => ?_⟩, mapOf_kept hR.map fun g hg => hm.block g (hR.map_lt g hg), fun g hg => ⟨.inl ⟨(hR.mapB g hg).1, hR.map_lt g hg⟩, (hR.mapB g hg).2⟩, hR.la, hR.lv, hR.lt⟩
    · rw [hm.block b hR.lt_b]; exact hR.self
    · exact (hR.rows.kept (w' := w') fun k hk' _ => hm.block k hk').ok
    · obtain ⟨x, hx, hb⟩ := List.mem_filterMap.1 hk'
      exact ⟨.inl ⟨(hR.rows.own k hk').1, Item.lt (hR.rows.ok x hx) k hb⟩, (hR.rows.own k hk').2⟩
  exact ⟨⟨R0, h2 R0 hR0⟩, Kept.refl _ _⟩

theorem Tk.unfresh {w1 w2 : World} (h : Tk w1 (ownAt w0 own0 w) b s ex w2) (hk : Kept own0 w0 w1) : Tk w0 own0 b s ex w2 := by
  obtain ⟨⟨R, hR⟩, hk1⟩ := h
  have hup : ∀ k, (ownAt w0 own0 w k ∨ w1.heap.size ≤ k) → (own0 k ∨ w0.heap.size ≤ k) := fun k hh => hh.elim (fun h => h.1) (fun h => .inr (Nat.le_trans hk.size h))
  refine ⟨⟨R, hR.self, hup _ hR.ownB, ⟨hR.rows.ok, hR.rows.nodup, fun k hk' => ⟨hup _ (hR.rows.own k hk').1, (hR.rows.own k hk').2⟩⟩, hR.map, fun g hg => ⟨hup _ (hR.mapB g hg).1, (hR.mapB g hg).2⟩, hR.la, hR.lv, hR.lt⟩, ?_⟩
  exact hk.trans hk1 fun x hx hh => hh.1.elim id (fun h => by omega)

/-- A block that was laid behind what is one's own stands. -/
theorem Tk.stands {w1 w2 : World} (h : Tk w1 (ownAt w0 own0 w) b s ex w2) {g : Nat} (h1 : w.heap.size ≤ g) (h2 : g < w1.heap.size) : w2.heap[g]? = w1.heap[g]? :=
  h.2.block g h2 (fun hh => by have := hh.2; omega)

theorem Kept.more {w1 : World} (h : Kept own0 w0 w) (hm : More w w1) : Kept own0 w0 w1 :=
  ⟨hm.os.trans h.os, hm.tape.trans h.tape, hm.output.trans h.output, Nat.le_trans h.size hm.size, fun k hk hn => (hm.block k (by have := h.size; omega)).trans (h.block k hk hn)⟩
end
end Go.Proofs.YtdfmapcnfficlaaGreatDoor

/-
  Tokens are told.
-/
import Derived.Test.YtdfmapcnfficlaaGreatDoorRep2
import Derived.Deep.RegionLaw
namespace Go.Proofs.YtdfmapcnfficlaaGreatDoor
open Go Go.RowKit

theorem Tryz.infoToken : (Tryz.prog.info? 34).map (fun i => (i.zero, i.size, i.bytes)) = some (some (.agg #[.int .i64 0, .string ⟨#[]⟩, .slice none 0 0, .string ⟨#[]⟩, .bool false, .int .i64 0]), 6, 80) := by kernel_rfl

theorem toldCells_snoc (t : Tok) (a : Sl) : ∀ (ts : List Tok) (rs : List Sl), rs.length = ts.length → toldCells (ts ++ [t]) (rs ++ [a]) = toldCells ts rs ++ tokCells t a
  | [], [], _ => by simp [toldCells]
  | _ :: ts, _ :: rs, h => by simp [toldCells, toldCells_snoc t a ts rs (by simpa using h)]
theorem toldItems_snoc (t : Tok) (a : Sl) : ∀ (ts : List Tok) (rs : List Sl), rs.length = ts.length → toldItems (ts ++ [t]) (rs ++ [a]) = toldItems ts rs ++ [aItem a t.attrs]
  | [], [], _ => by simp [toldItems]
  | _ :: ts, _ :: rs, h => by simp [toldItems, toldItems_snoc t a ts rs (by simpa using h)]

/-- As 'Tk', the rows' places told. -/
def TkR (w0 : World) (own0 : Nat → Prop) (b : Nat) (s : TS) (R : Regs) (ex : List Item) (w : World) : Prop :=
  RepAt w (fun k => own0 k ∨ w0.heap.size ≤ k) b s R ex ∧ Kept own0 w0 w

theorem TkR.tk {w0 : World} {own0 : Nat → Prop} {b : Nat} {s : TS} {R : Regs} {ex : List Item} {w : World} (h : TkR w0 own0 b s R ex w) : Tk w0 own0 b s ex w := ⟨⟨R, h.1⟩, h.2⟩
theorem Tk.reg {w0 : World} {own0 : Nat → Prop} {b : Nat} {s : TS} {ex : List Item} {w : World} (h : Tk w0 own0 b s ex w) : ∃ R, TkR w0 own0 b s R ex w := by
  obtain ⟨⟨R, hR⟩, hk⟩ := h
  exact ⟨R, hR, hk⟩

def tellTok (s : TS) (t : Tok) : TS := { s with told := s.told ++ [t] }

/-- A token more is told: the row of tokens has grown; the row of its attributes was held beside. -/
theorem RepAt.told_grow {w0 w w1 w' : World} {own0 : Nat → Prop} {b : Nat} {s : TS} {R : Regs} {ex : List Item} (t : Tok) (x : Sl) (h : RepAt w (fun k => own0 k ∨ w0.heap.size ≤ k) b s R (aItem x t.attrs :: ex)) (hk : Kept own0 w0 w) (hm : More w w1)
    (a' : Addr) (cap' : Nat) (hown : w'.ownsRow 0 34 6 (.slice (some a') (s.told.length + 1) cap') (s.told.length + 1) (toldCells s.told R.tattrs ++ tokCells t x))
    (hg : w1.grownBy w' (R.told.a.map (·.block))) (hf : some a'.block = R.told.a.map (·.block) ∨ w1.heap.size ≤ a'.block) :
    w'.heap[b]? = some (.cells (cellsOf s R) 84 (0, 0)) ∧ TkR w0 own0 b (tellTok s t) { R with told := ⟨some a', cap'⟩, tattrs := R.tattrs ++ [x] } ex (w'.setCell ⟨b, 25, none⟩ (.slice (some a') (s.told.length + 1) cap')) := by
  have hit : (⟨34, 6, R.told.a, s.told.length, R.told.cap, toldCells s.told R.tattrs⟩ : Item) ∈ itemsOf s R := by simp [itemsOf]
  have hup : ∀ k, w.heap.size ≤ k → (own0 k ∨ w0.heap.size ≤ k) := fun k hh => .inr (Nat.le_trans hk.size hh)
  refine ⟨h.mid hm hit hg, ?_, (hk.grown hm hg (h.row_own hit)).setCell 25 _ h.ownB⟩
  exact h.grow hm hup [bItem R.text s.text, bItem R.tname s.tag.name, bItem R.buffer s.tag.buffer, ⟨210, 3, R.atts.a, s.tag.atts.length, R.atts.cap, attsCells s.tag.atts R.anames R.avalues⟩, bItem R.comment s.comment, bItem R.dname s.dname]
    (attItems s.tag.atts R.anames R.avalues ++ toldItems s.told R.tattrs ++ aItem x t.attrs :: ex) ⟨34, 6, R.told.a, s.told.length, R.told.cap, toldCells s.told R.tattrs⟩ ⟨34, 6, some a', s.told.length + 1, cap', toldCells s.told R.tattrs ++ tokCells t x⟩ hit
    (by simp [itemsOf]) (by simp [itemsOf, tellTok, toldCells_snoc t x _ _ h.lt, toldItems_snoc t x _ _ h.lt]) hown hg (by
    rcases hf with hf | hf
    · exact .inl (by simpa [Item.blk] using hf)
    · exact .inr ⟨a'.block, rfl, hf⟩) 25 _ (by simp [cellsOf, tellTok]) rfl rfl h.la h.lv (by simp [tellTok, h.lt])

theorem RepAt.bare {w : World} {own : Nat → Prop} {b : Nat} {s : TS} {R : Regs} {ex : List Item} (h : RepAt w own b s R ex) : RepAt w own b s R (aItem ⟨none, 0⟩ [] :: ex) :=
  ⟨h.self, h.ownB, (h.rows.bare (aItem_nil_ok w) rfl).perm (by rw [List.append_assoc]; exact List.Perm.append_left _ (List.perm_append_comm)), h.map, h.mapB, h.la, h.lv, h.lt⟩

theorem tokCells_cells (t : Tok) (x : Sl) (w : World) (T : TypeId) : ∀ j u, (tokCells t x)[j]? = some u → (w.alloc (.cells (tokCells t x).toArray T)).cell? ((⟨w.heap.size, 0, none⟩ : Addr).add j) = some u := by
  intro j u hu
  match j, hu with
  | 0, hu => simp [tokCells] at hu; subst hu; simp [Addr.add, tokCells]
  | 1, hu => simp [tokCells] at hu; subst hu; simp [Addr.add, tokCells]
  | 2, hu => simp [tokCells] at hu; subst hu; simp [Addr.add, tokCells]
  | 3, hu => simp [tokCells] at hu; subst hu; simp [Addr.add, tokCells]
  | 4, hu => simp [tokCells] at hu; subst hu; simp [Addr.add, tokCells]
  | 5, hu => simp [tokCells] at hu; subst hu; simp [Addr.add, tokCells]
  | n + 6, hu => simp [tokCells] at hu

theorem tokCells_one (t : Tok) (x : Sl) : ∀ u ∈ tokCells t x, u.oneCell' = true := by
  intro u hu; simp [tokCells] at hu; rcases hu with rfl | rfl | rfl | rfl | rfl | rfl <;> rfl

/-- Lengths are far from what memory can hold. -/
def lim : Nat := 1099511627776

theorem lim_max {n : Nat} (h : n ≤ lim) : n + 1 ≤ maxLen := by unfold lim at h; unfold maxLen; omega
theorem lim_tok {n : Nat} (h : n ≤ lim) : (n + 1) * 80 ≤ 140737488355328 := by unfold lim at h; omega

def wrongAt (s : TS) (name : Str) (place : Int) : TS := tellTok s { kind := 5, name := name, place := place }
def wrong (s : TS) (name : Str) : TS := wrongAt s name s.place

set_option maxHeartbeats 800000 in
set_option maxRecDepth 1000000 in
theorem wrongAt_doesR {w0 : World} {own0 : Nat → Prop} {b : Nat} {s : TS} {R : Regs} {ex : List Item} {w : World} (name : Str) (place : Int) (h : TkR w0 own0 b s R ex w) (hs : s.told.length ≤ lim) :
    Calls Tryz.prog 204 #[.pointer (some ⟨b, 0, none⟩), .string ⟨name.toArray⟩, .int .i64 place] w fun e w' => ∃ tl ta, e = .returned (.tuple #[]) ∧ TkR w0 own0 b (wrongAt s name place) { R with told := tl, tattrs := ta } ex w' := by
  obtain ⟨hR, hk⟩ := h
  have c19 : w.cell? ⟨b, 25, none⟩ = some (.slice R.told.a s.told.length R.told.cap) := hR.cell 25
  have hf := hR.frozen
  obtain ⟨i0, hi, hz0, hz1, hz2⟩ := info_parts Tryz.infoToken
  have HS : Hid (s.told.length ≤ lim) := hs
  clear hs
  go_enter Tryz.func204, Tryz.ntmps204
  go_wp2_with (at_builtin; refine wpList_append_mine _ rfl (.tmp 10) (.tmp 14) 30 rfl 34 i0 _ 6 80 Tryz.underlying30 hi hz0 hz1 hz2 rfl (by decide) R.told.a s.told.length R.told.cap (toldCells s.told R.tattrs) rfl ?own ⟨w.heap.size, 0, none⟩ 1 1 (tokCells { kind := 5, name := name, place := place } ⟨none, 0⟩) rfl rfl (tokCells_cells _ _ _ _) (tokCells_one _ _) (by decide) (lim_max HS.out) (lim_tok HS.out) ?next)
  case own => exact World.ownsRow.alloc (hR.rows.ok ⟨34, 6, R.told.a, s.told.length, R.told.cap, toldCells s.told R.tattrs⟩ (by simp [itemsOf])) _
  case next =>
    intro a' cap' w' hown hgrow hfresh
    obtain ⟨hself, hT⟩ := RepAt.told_grow { kind := 5, name := name, place := place } ⟨none, 0⟩ hR.bare hk ((More.refl w).alloc _) a' cap' hown hgrow (by simpa using hfresh)
    have d19 : w'.cell? ⟨b, 25, none⟩ = some (.slice R.told.a s.told.length R.told.cap) := cell_of_self hself 25
    have df := frozen_of_self hself
    go_wp2
    go_end0
    exact ⟨_, _, rfl, hT⟩

set_option maxHeartbeats 800000 in
theorem wrong_doesR {w0 : World} {own0 : Nat → Prop} {b : Nat} {s : TS} {R : Regs} {ex : List Item} {w : World} (name : Str) (h : TkR w0 own0 b s R ex w) (hs : s.told.length ≤ lim) :
    Calls Tryz.prog 160 #[.pointer (some ⟨b, 0, none⟩), .string ⟨name.toArray⟩] w fun e w' => ∃ tl ta, e = .returned (.tuple #[]) ∧ TkR w0 own0 b (wrong s name) { R with told := tl, tattrs := ta } ex w' := by
  have h' := h
  obtain ⟨hR, hk⟩ := h
  have c6 : w.cell? ⟨b, 7, none⟩ = some (.int .i64 s.place) := hR.cell 7
  have hf := hR.frozen
  have HS : Hid (s.told.length ≤ lim) := hs
  clear hs
  go_enter Tryz.func160, Tryz.ntmps160
  go_wp2_with (go_at_call 204; refine (wrongAt_doesR name s.place h' HS.out).mono ?_; rintro e w' ⟨tl, ta, rfl, h1⟩)
  go_end0
  exact ⟨tl, ta, rfl, h1⟩

section
variable {w0 : World} {own0 : Nat → Prop} {b : Nat} {s : TS} {ex : List Item} {w : World}
theorem wrongAt_does (name : Str) (place : Int) (h : Tk w0 own0 b s ex w) (hs : s.told.length ≤ lim) :
    Calls Tryz.prog 204 #[.pointer (some ⟨b, 0, none⟩), .string ⟨name.toArray⟩, .int .i64 place] w fun e w' => e = .returned (.tuple #[]) ∧ Tk w0 own0 b (wrongAt s name place) ex w' := by
  obtain ⟨R, hR⟩ := h.reg
  refine (wrongAt_doesR name place hR hs).mono ?_
  rintro e w' ⟨tl, ta, rfl, h1⟩
  exact ⟨rfl, h1.tk⟩

theorem wrong_does (name : Str) (h : Tk w0 own0 b s ex w) (hs : s.told.length ≤ lim) :
    Calls Tryz.prog 160 #[.pointer (some ⟨b, 0, none⟩), .string ⟨name.toArray⟩] w fun e w' => e = .returned (.tuple #[]) ∧ Tk w0 own0 b (wrong s name) ex w' := by
  obtain ⟨R, hR⟩ := h.reg
  refine (wrong_doesR name hR hs).mono ?_
  rintro e w' ⟨tl, ta, rfl, h1⟩
  exact ⟨rfl, h1.tk⟩
end
end Go.Proofs.YtdfmapcnfficlaaGreatDoor

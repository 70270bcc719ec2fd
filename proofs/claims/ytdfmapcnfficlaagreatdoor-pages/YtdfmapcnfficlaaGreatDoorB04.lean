/-
  Tokens are told.
  'tell': the text ahead of a token, and the token.
-/
import Derived.Test.YtdfmapcnfficlaaGreatDoorB03
import Derived.Deep.RegionLaw
import Derived.Deep.DeepCutAuto
namespace Go.Proofs.YtdfmapcnfficlaaGreatDoor
open Go Go.RowKit

theorem Tryz.infoToken : (Tryz.prog.info? 34).map (fun i => (i.zero, i.size, i.bytes)) = some (some (.agg #[.int .i64 0, .string ⟨#[]⟩, .slice none 0 0, .string ⟨#[]⟩, .bool false, .int .i64 0]), 6, 80) := by kernel_rfl

theorem toldCells_snoc (t : Tok) (a : Sl) : ∀ (ts : List Tok) (rs : List Sl), rs.length = ts.length → toldCells (ts ++ [t]) (rs ++ [a]) = toldCells ts rs ++ tokCells t a
  | [], [], _ => by simp [toldCells]
  | _ :: ts, _ :: rs, h => by simp [toldCells, toldCells_snoc t a ts rs (by simpa using h)]
theorem toldItems_snoc (t : Tok) (a : Sl) : ∀ (ts : List Tok) (rs : List Sl), rs.length = ts.length → toldItems (ts ++ [t]) (rs ++ [a]) = toldItems ts rs ++ [aItem a t.attrs]
  | [], [], _ => by simp [toldItems]
  | _ :: ts, _ :: rs, h => by simp [toldItems, toldItems_snoc t a ts rs (by simpa using h)]

/-- As 'Tk', the rows' places told. -/
def TkR (w0 : World) (own0 : Nat → Prop) (b : Nat) (s : TS) (R : Regs) (ex : List Item) (w : World) : Prop :=
  RepAt w (fun k => own0 k ∨ w0.heap.size ≤ k) b s R ex ∧ Kept own0 w0 w

theorem TkR.tk {w0 : World} {own0 : Nat → Prop} {b : Nat} {s : TS} {R : Regs} {ex : List Item} {w : World} (h : TkR w0 own0 b s R ex w) : Tk w0 own0 b s ex w := ⟨⟨R, h.1⟩, h.2⟩
theorem Tk.reg {w0 : World} {own0 : Nat → Prop} {b : Nat} {s : TS} {ex : List Item} {w : World} (h : Tk w0 own0 b s ex w) : ∃ R, TkR w0 own0 b s R ex w := by
  obtain ⟨⟨R, hR⟩, hk⟩ := h
  exact ⟨R, hR, hk⟩

def tellTok (s : TS) (t : Tok) : TS := { s with told := s.told ++ [t] }

/-- A token more is told: the row of tokens has grown; the row of its attributes was held beside. -/
theorem RepAt.told_grow {w0 w w1 w' : World} {own0 : Nat → Prop} {b : Nat} {s : TS} {R : Regs} {ex : List Item} (t : Tok) (x : Sl) (h : RepAt w (fun k => own0 k ∨ w0.heap.size ≤ k) b s R (aItem x t.attrs :: ex)) (hk : Kept own0 w0 w) (hm : More w w1)
    (a' : Addr) (cap' : Nat) (hown : w'.ownsRow 0 34 6 (.slice (some a') (s.told.length + 1) cap') (s.told.length + 1) (toldCells s.told R.tattrs ++ tokCells t x))
    (hg : w1.grownBy w' (R.told.a.map (·.block))) (hf : some a'.block = R.told.a.map (·.block) ∨ w1.heap.size ≤ a'.block) :
    w'.heap[b]? = some (.cells (cellsOf s R) 84 (0, 0)) ∧ TkR w0 own0 b (tellTok s t) { R with told := ⟨some a', cap'⟩, tattrs := R.tattrs ++ [x] } ex (w'.setCell ⟨b, 25, none⟩ (.slice (some a') (s.told.length + 1) cap')) := by
  have hit : (⟨34, 6, R.told.a, s.told.length, R.told.cap, toldCells s.told R.tattrs⟩ : Item) ∈ itemsOf s R := by simp [itemsOf]
  have hup : ∀ k, w.heap.size ≤ k → (own0 k ∨ w0.heap.size ≤ k) := fun k hh => .inr (Nat.le_trans hk.size hh)
  refine ⟨h.mid hm hit hg, ?_, (hk.grown hm hg (h.row_own hit)).setCell 25 _ h.ownB⟩
  exact h.grow hm hup [bItem R.text s.text, bItem R.tname s.tag.name, bItem R.buffer s.tag.buffer, ⟨210, 3, R.atts.a, s.tag.atts.length, R.atts.cap, attsCells s.tag.atts R.anames R.avalues⟩, bItem R.comment s.comment, bItem R.dname s.dname]
    (attItems s.tag.atts R.anames R.avalues ++ toldItems s.told R.tattrs ++ aItem x t.attrs :: ex) ⟨34, 6, R.told.a, s.told.length, R.told.cap, toldCells s.told R.tattrs⟩ ⟨34, 6, some a', s.told.length + 1, cap', toldCells s.told R.tattrs ++ tokCells t x⟩ hit
    (by simp [itemsOf]) (by simp [itemsOf, tellTok, toldCells_snoc t x _ _ h.lt, toldItems_snoc t x _ _ h.lt]) hown hg (by
    rcases hf with hf | hf
    · exact .inl (by simpa [Item.blk] using hf)
    · exact .inr ⟨a'.block, rfl, hf⟩) 25 _ (by simp [cellsOf, tellTok]) rfl rfl h.la h.lv (by simp [tellTok, h.lt])

theorem RepAt.bare {w : World} {own : Nat → Prop} {b : Nat} {s : TS} {R : Regs} {ex : List Item} (h : RepAt w own b s R ex) : RepAt w own b s R (aItem ⟨none, 0⟩ [] :: ex) :=
  ⟨h.self, h.ownB, (h.rows.bare (aItem_nil_ok w) rfl).perm (by rw [List.append_assoc]; exact List.Perm.append_left _ (List.perm_append_comm)), h.map, h.mapB, h.la, h.lv, h.lt⟩

theorem tokCells_cells (t : Tok) (x : Sl) (w : World) (T : TypeId) : ∀ j u, (tokCells t x)[j]? = some u → (w.alloc (.cells (tokCells t x).toArray T)).cell? ((⟨w.heap.size, 0, none⟩ : Addr).add j) = some u := by
  intro j u hu
  match j, hu with
  | 0, hu => simp [tokCells] at hu; subst hu; simp [Addr.add, tokCells]
  | 1, hu => simp [tokCells] at hu; subst hu; simp [Addr.add, tokCells]
  | 2, hu => simp [tokCells] at hu; subst hu; simp [Addr.add, tokCells]
  | 3, hu => simp [tokCells] at hu; subst hu; simp [Addr.add, tokCells]
  | 4, hu => simp [tokCells] at hu; subst hu; simp [Addr.add, tokCells]
  | 5, hu => simp [tokCells] at hu; subst hu; simp [Addr.add, tokCells]
  | n + 6, hu => simp [tokCells] at hu

theorem tokCells_one (t : Tok) (x : Sl) : ∀ u ∈ tokCells t x, u.oneCell' = true := by
  intro u hu; simp [tokCells] at hu; rcases hu with rfl | rfl | rfl | rfl | rfl | rfl <;> rfl

/-- Lengths are far from what memory can hold. -/
def lim : Nat := 1099511627776

theorem lim_max {n : Nat} (h : n ≤ lim) : n + 1 ≤ maxLen := by unfold lim at h; unfold maxLen; omega
theorem lim_tok {n : Nat} (h : n ≤ lim) : (n + 1) * 80 ≤ 140737488355328 := by unfold lim at h; omega

def wrongAt (s : TS) (name : Str) (place : Int) : TS := tellTok s { kind := 5, name := name, place := place }
def wrong (s : TS) (name : Str) : TS := wrongAt s name s.place

set_option maxHeartbeats 800000 in
set_option maxRecDepth 1000000 in
theorem wrongAt_doesR {w0 : World} {own0 : Nat → Prop} {b : Nat} {s : TS} {R : Regs} {ex : List Item} {w : World} (name : Str) (place : Int) (h : TkR w0 own0 b s R ex w) (hs : s.told.length ≤ lim) :
    Calls Tryz.prog 204 #[.pointer (some ⟨b, 0, none⟩), .string ⟨name.toArray⟩, .int .i64 place] w fun e w' => ∃ tl ta, e = .returned (.tuple #[]) ∧ TkR w0 own0 b (wrongAt s name place) { R with told := tl, tattrs := ta } ex w' := by
  obtain ⟨hR, hk⟩ := h
  have c19 : w.cell? ⟨b, 25, none⟩ = some (.slice R.told.a s.told.length R.told.cap) := hR.cell 25
  have hf := hR.frozen
  obtain ⟨i0, hi, hz0, hz1, hz2⟩ := info_parts Tryz.infoToken
  have HS : Hid (s.told.length ≤ lim) := hs
  clear hs
  go_enter Tryz.func204, Tryz.ntmps204
  go_wp2_with (at_builtin; refine wpList_append_mine _ rfl (.tmp 10) (.tmp 14) 30 rfl 34 i0 _ 6 80 Tryz.underlying30 hi hz0 hz1 hz2 rfl (by decide) R.told.a s.told.length R.told.cap (toldCells s.told R.tattrs) rfl ?own ⟨w.heap.size, 0, none⟩ 1 1 (tokCells { kind := 5, name := name, place := place } ⟨none, 0⟩) rfl rfl (tokCells_cells _ _ _ _) (tokCells_one _ _) (by decide) (lim_max HS.out) (lim_tok HS.out) ?next)
  case own => exact World.ownsRow.alloc (hR.rows.ok ⟨34, 6, R.told.a, s.told.length, R.told.cap, toldCells s.told R.tattrs⟩ (by simp [itemsOf])) _
  case next =>
    intro a' cap' w' hown hgrow hfresh
    obtain ⟨hself, hT⟩ := RepAt.told_grow { kind := 5, name := name, place := place } ⟨none, 0⟩ hR.bare hk ((More.refl w).alloc _) a' cap' hown hgrow (by simpa using hfresh)
    have d19 : w'.cell? ⟨b, 25, none⟩ = some (.slice R.told.a s.told.length R.told.cap) := cell_of_self hself 25
    have df := frozen_of_self hself
    go_wp2
    go_end0
    exact ⟨_, _, rfl, hT⟩

set_option maxHeartbeats 800000 in
theorem wrong_doesR {w0 : World} {own0 : Nat → Prop} {b : Nat} {s : TS} {R : Regs} {ex : List Item} {w : World} (name : Str) (h : TkR w0 own0 b s R ex w) (hs : s.told.length ≤ lim) :
    Calls Tryz.prog 160 #[.pointer (some ⟨b, 0, none⟩), .string ⟨name.toArray⟩] w fun e w' => ∃ tl ta, e = .returned (.tuple #[]) ∧ TkR w0 own0 b (wrong s name) { R with told := tl, tattrs := ta } ex w' := by
  have h' := h
  obtain ⟨hR, hk⟩ := h
  have c6 : w.cell? ⟨b, 7, none⟩ = some (.int .i64 s.place) := hR.cell 7
  have hf := hR.frozen
  have HS : Hid (s.told.length ≤ lim) := hs
  clear hs
  go_enter Tryz.func160, Tryz.ntmps160
  go_wp2_with (go_at_call 204; refine (wrongAt_doesR name s.place h' HS.out).mono ?_; rintro e w' ⟨tl, ta, rfl, h1⟩)
  go_end0
  exact ⟨tl, ta, rfl, h1⟩

section
variable {w0 : World} {own0 : Nat → Prop} {b : Nat} {s : TS} {ex : List Item} {w : World}
theorem wrongAt_does (name : Str) (place : Int) (h : Tk w0 own0 b s ex w) (hs : s.told.length ≤ lim) :
    Calls Tryz.prog 204 #[.pointer (some ⟨b, 0, none⟩), .string ⟨name.toArray⟩, .int .i64 place] w fun e w' => e = .returned (.tuple #[]) ∧ Tk w0 own0 b (wrongAt s name place) ex w' := by
  obtain ⟨R, hR⟩ := h.reg
  refine (wrongAt_doesR name place hR hs).mono ?_
  rintro e w' ⟨tl, ta, rfl, h1⟩
  exact ⟨rfl, h1.tk⟩

theorem wrong_does (name : Str) (h : Tk w0 own0 b s ex w) (hs : s.told.length ≤ lim) :
    Calls Tryz.prog 160 #[.pointer (some ⟨b, 0, none⟩), .string ⟨name.toArray⟩] w fun e w' => e = .returned (.tuple #[]) ∧ Tk w0 own0 b (wrong s name) ex w' := by
  obtain ⟨R, hR⟩ := h.reg
  refine (wrong_doesR name hR hs).mono ?_
  rintro e w' ⟨tl, ta, rfl, h1⟩
  exact ⟨rfl, h1.tk⟩
end
end Go.Proofs.YtdfmapcnfficlaaGreatDoor

namespace Go.Proofs.YtdfmapcnfficlaaGreatDoor
open Go Go.RowKit

theorem hide {p : Prop} (h : p) : Hid p := h
theorem unhide {p : Prop} (h : Hid p) : p := h

/-- 'append' onto a row of one's own, as one step of a region that draws. -/
theorem step_append_mine {P : Program} {ops : Array Oper} {o : Oper} {a : Act} {w : World} {K : Act → World → Prop} {Q : Exit → Act → World → Prop} {E : Prop}
    (hg : o.guard = none) (s x : Operand) (t : TypeId) (ho : o.op = Op.call { callee := Callee.builtin Builtin.append, args := #[s, x], argTypes := #[t, t] })
    (e : TypeId) (i : TypeInfo) (z : Value) (size bytes : Nat) (ht : P.underlying t = some (.slice e)) (hi : P.info? e = some i) (hz : i.zero = some z)
    (hsize : i.size = size) (hby : i.bytes = bytes) (hzs : z.cells.size = size) (hsz : 0 < size)
    (ao : Option Addr) (n cap : Nat) (xs : List Value) (hs : a.eval s = .slice ao n cap) (hown : w.ownsRow 0 e size (.slice ao n cap) n xs)
    (ad : Addr) (m c : Nat) (news : List Value) (hx : a.eval x = .slice (some ad) m c) (hl : news.length = m * size) (hnews : ∀ j u, news[j]? = some u → w.cell? (ad.add j) = some u) (h1 : ∀ u ∈ news, u.oneCell' = true) (hm : 0 < m)
    (h63 : n + m ≤ maxLen) (hbytes : (n + m) * bytes ≤ 140737488355328)
    (hK : ∀ a' cap' w', w'.ownsRow 0 e size (.slice (some a') (n + m) cap') (n + m) (xs ++ news) → w.grownBy w' (ao.map (·.block)) → (some a'.block = ao.map (·.block) ∨ w.heap.size ≤ a'.block) → K (a.put o.dst (.slice (some a') (n + m) cap')) w') :
    if Region.wanted o (yielded ops a.tmps) = true then Oper.wp P o a w K Q else E := by
  have hw : Region.wanted o (yielded ops a.tmps) = true := by simp [Region.wanted, hg]
  rw [if_pos hw]
  obtain ⟨a', cap', w', hr, h2, h3, h4⟩ := run_append_mine (P := P) w t o.type e i z size bytes ht hi hz hsize hby hzs hsz ao n cap xs hown ad m c news hl hnews h1 hm h63 hbytes
  unfold Oper.wp execOp
  simp only [ho, resolve, invoke, builtin, Sem.run_bind, Sem.run_pure, Result.andThen_ok, List.map_toArray, List.map_cons, List.map_nil, hs, hx, hr]
  exact hK a' cap' w' h2 h3 h4

theorem tokCells_cells' (t : Tok) (x : Sl) (w : World) (T : TypeId) (g : Nat) (hg : g = w.heap.size) : ∀ j u, (tokCells t x)[j]? = some u → (w.alloc (.cells (tokCells t x).toArray T)).cell? ((⟨g, 0, none⟩ : Addr).add j) = some u := by
  subst hg; exact tokCells_cells t x w T

theorem ownsRow_drew {w : World} {base : Nat} {e : TypeId} {size : Nat} {v : Value} {n : Nat} {xs : List Value} (h : w.ownsRow base e size v n xs) : w.drew.ownsRow base e size v n xs := h

def flush (s : TS) : TS := if s.text = [] then s else { tellTok s { kind := 0, text := s.text } with text := [] }
def tell (s : TS) (t : Tok) : TS := tellTok (flush s) t

theorem tk_alloc {w0 : World} {own0 : Nat → Prop} {b : Nat} {s : TS} {ex : List Item} {w : World} (h : Tk w0 own0 b s ex w) (o : Obj) : Tk w0 own0 b s ex (w.alloc o) := by
  obtain ⟨⟨R, hR⟩, hk⟩ := h
  have hm := (More.refl w).alloc o
  refine ⟨⟨R, ⟨?_, hR.ownB, hR.rows.kept fun k hk' _ => hm.block k hk', mapOf_kept hR.map fun g hg => hm.block g (hR.map_lt g hg), hR.mapB, hR.la, hR.lv, hR.lt⟩⟩, ?_⟩
  · rw [hm.block b hR.lt_b]; exact hR.self
  · exact ⟨hk.os, hk.tape, hk.output, by have := hk.size; have := hm.size; omega, fun k hk' hn => by rw [hm.block k (by have := hk.size; omega)]; exact hk.block k hk' hn⟩

theorem flush_len {s : TS} (h : s.told.length + 1 ≤ lim) : (flush s).told.length ≤ lim := by
  unfold flush
  split
  · omega
  · simp [tellTok]; omega

theorem box_at {w W : World} {o : Obj} (h : More (w.alloc o) W) : W.heap[w.heap.size]? = some o := (h.block _ (by simp)).trans (heap_alloc_new w o)

theorem box_stays {w1 w' : World} {row : Option Addr} {b g : Nat} {o : Obj} (hg : w1.heap[g]? = some o) (hgr : w1.grownBy w' (row.map (·.block))) (hrow : ∀ k, row.map (·.block) = some k → k < g) (hb : g ≠ b) (v v' : Value) (i j : Nat) :
    ((w'.setCell ⟨b, i, none⟩ v).setCell ⟨b, j, none⟩ v').heap[g]? = some o := by
  rw [set_other _ hb, set_other _ hb, hgr.block g (Array.getElem?_eq_some_iff.1 hg).1 (fun e => by have := hrow g e.symm; omega)]; exact hg

set_option maxHeartbeats 1600000 in
set_option maxRecDepth 1000000 in
theorem tellText_does {w0 : World} {own0 : Nat → Prop} {b : Nat} {s : TS} {ex : List Item} {w : World} (h : Tk w0 own0 b s ex w) (hs : s.told.length ≤ lim) :
    Calls Tryz.prog 60 #[.pointer (some ⟨b, 0, none⟩)] w fun e w' => e = .returned (.tuple #[]) ∧ Tk w0 own0 b (flush s) ex w' := by
  obtain ⟨⟨R, hR⟩, hk⟩ := h
  have c7 : w.cell? ⟨b, 8, none⟩ = some (.slice R.text.a s.text.length R.text.cap) := hR.cell 8
  have hlt := hR.lt_b
  have HS : Hid (s.told.length ≤ lim) := hs
  clear hs
  by_cases ht : s.text = []
  · have hl : s.text.length = 0 := by rw [ht]; rfl
    rw [flush, if_pos ht]
    have HT := hide (show Tk w0 own0 b s ex w from ⟨⟨R, hR⟩, hk⟩)
    rw [hl] at c7
    clear hl hk hR ht
    go_enter Tryz.func60, Tryz.ntmps60
    go_wp2
    try simp only [Exit.inBlock, Exit.then]
    refine bodyPost_ret (results_none rfl _ _ _) rfl ?_
    exact ⟨rfl, unhide HT⟩
  · have hl : 0 < s.text.length := by cases hh : s.text with | nil => exact absurd hh ht | cons => simp
    have hl2 : ((s.text.length : Int) == 0) = false := by simp; omega
    rw [flush, if_neg ht]
    have c19 : w.cell? ⟨b, 25, none⟩ = some (.slice R.told.a s.told.length R.told.cap) := hR.cell 25
    have hf := hR.frozen
    have hown0 : w.ownsRow 0 34 6 (.slice R.told.a s.told.length R.told.cap) s.told.length (toldCells s.told R.tattrs) := hR.rows.ok ⟨34, 6, R.told.a, s.told.length, R.told.cap, toldCells s.told R.tattrs⟩ (by simp [itemsOf])
    have htx : (bItem R.text s.text).ok w := hR.rows.ok _ (by simp [itemsOf])
    have hcv0 := conv_row (r := R.text) (l := s.text) htx
    have hcv1 := conv_row (r := R.text) (l := s.text) (ownsRow_drew htx)
    obtain ⟨i0, hi, hz0, hz1, hz2⟩ := info_parts Tryz.infoToken
    clear ht hl
    go_enter Tryz.func60, Tryz.ntmps60
    go_wp2_with fail
    go_region_law (refine step_append_mine rfl (.tmp 12) (.tmp 19) 30 rfl 34 i0 _ 6 80 Tryz.underlying30 hi hz0 hz1 hz2 rfl (by decide) R.told.a s.told.length R.told.cap (toldCells s.told R.tattrs) (by simp [Act.eval]) (by repeat (first | exact hown0 | refine World.ownsRow.alloc ?_ _ | refine ownsRow_drew ?_)) ⟨w.heap.size, 0, none⟩ 1 1 (tokCells { kind := 0, text := s.text } ⟨none, 0⟩) (by simp [Act.eval]) rfl (by exact tokCells_cells' _ _ _ _ _ (by simp)) (tokCells_one _ _) (by decide) (by exact lim_max HS.out) (by exact lim_tok HS.out) ?_; intro a' cap' w' hown hgrow hfresh; obtain ⟨hself, hT⟩ := RepAt.told_grow { kind := 0, text := s.text } ⟨none, 0⟩ hR.bare hk (by repeat (first | exact More.refl _ | refine More.alloc ?_ _ | refine More.drew ?_)) a' cap' hown hgrow (by simpa using hfresh); have d19 : w'.cell? ⟨b, 25, none⟩ = some (.slice R.told.a s.told.length R.told.cap) := cell_of_self hself 25; have df := frozen_of_self hself)
    all_goals
      have hR1 := hT.1
      have hT := hT.tk
      have e7 := hR1.cell 8
      have ef := hR1.frozen
      simp only [cellsOf, tellTok] at e7
      go_wp2
      go_end0
      exact ⟨rfl, tk_drop_text hT⟩

theorem Kept.unfresh {w0 w w1 w2 : World} {own0 : Nat → Prop} {b : Nat} {s : TS} {ex : List Item} (h : Tk w1 (ownAt w0 own0 w) b s ex w2) (hk : Kept own0 w0 w1) : Kept own0 w0 w2 := (h.unfresh hk).2

set_option maxHeartbeats 1600000 in
set_option maxRecDepth 1000000 in
theorem tell_does {w0 : World} {own0 : Nat → Prop} {b : Nat} {s : TS} {ex : List Item} {w : World} (t : Tok) (x : Sl) (h : Tk w0 own0 b s (aItem x t.attrs :: ex) w) (hs : s.told.length + 1 ≤ lim) :
    Calls Tryz.prog 37 #[.pointer (some ⟨b, 0, none⟩), .agg (tokCells t x).toArray] w fun e w' => e = .returned (.tuple #[]) ∧ Tk w0 own0 b (tell s t) ex w' := by
  have hm : More w (w.alloc (.cells (tokCells t x).toArray 34)) := (More.refl w).alloc _
  have hk1 : Kept own0 w0 (w.alloc (.cells (tokCells t x).toArray 34)) := h.2.more hm
  have HC := hide (tellText_does (h.fresh hm) (by omega))
  have hln : Hid ((flush s).told.length ≤ lim) := flush_len hs
  have hbox := heap_alloc_new w (.cells (tokCells t x).toArray 34)
  clear h hs
  simp only [tokCells] at *
  go_enter Tryz.func37, Tryz.ntmps37
  go_wp2_with fail
  refine (unhide HC).mono ?_
  rintro e wc ⟨rfl, h2⟩
  have hbx := (h2.stands (g := w.heap.size) (Nat.le_refl _) (by simp)).trans hbox
  obtain ⟨⟨R2, hR2⟩, hk2⟩ := h2.unfresh hk1
  have hlt2 := hR2.lt_b
  have hgs : w.heap.size < wc.heap.size := (Array.getElem?_eq_some_iff.1 hbx).1
  clear h2 HC hbox
  have c19 : wc.cell? ⟨b, 25, none⟩ = some (.slice R2.told.a (flush s).told.length R2.told.cap) := hR2.cell 25
  have hf := hR2.frozen
  have b0 : wc.cell? ⟨w.heap.size, 0, none⟩ = some (.int .i64 t.kind) := cell_of_self hbx 0
  have b1 : wc.cell? ⟨w.heap.size, 1, none⟩ = some (.string ⟨t.name.toArray⟩) := cell_of_self hbx 1
  have b2 : wc.cell? ⟨w.heap.size, 2, none⟩ = some (.slice x.a t.attrs.length x.cap) := cell_of_self hbx 2
  have b3 : wc.cell? ⟨w.heap.size, 3, none⟩ = some (.string ⟨t.text.toArray⟩) := cell_of_self hbx 3
  have b4 : wc.cell? ⟨w.heap.size, 4, none⟩ = some (.bool t.flag) := cell_of_self hbx 4
  have b5 : wc.cell? ⟨w.heap.size, 5, none⟩ = some (.int .i64 t.place) := cell_of_self hbx 5
  have hown0 : wc.ownsRow 0 34 6 (.slice R2.told.a (flush s).told.length R2.told.cap) (flush s).told.length (toldCells (flush s).told R2.tattrs) := hR2.rows.ok ⟨34, 6, R2.told.a, (flush s).told.length, R2.told.cap, toldCells (flush s).told R2.tattrs⟩ (by simp [itemsOf])
  obtain ⟨i0, hi, hz0, hz1, hz2⟩ := info_parts Tryz.infoToken
  go_wp2_with fail
  go_region_law (refine step_append_mine rfl (.tmp 10) (.tmp 12) 30 rfl 34 i0 _ 6 80 Tryz.underlying30 hi hz0 hz1 hz2 rfl (by decide) R2.told.a (flush s).told.length R2.told.cap (toldCells (flush s).told R2.tattrs) (by simp [Act.eval]) (by repeat (first | exact hown0 | refine World.ownsRow.alloc ?_ _ | refine ownsRow_drew ?_)) ⟨wc.heap.size, 0, none⟩ 1 1 (tokCells t x) (by simp [Act.eval]) rfl (by exact tokCells_cells' t x _ _ _ (by simp)) (tokCells_one _ _) (by decide) (lim_max hln.out) (lim_tok hln.out) ?_; intro a' cap' w' hown hgrow hfresh; obtain ⟨hself, hT⟩ := RepAt.told_grow t x hR2 hk2 (by repeat (first | exact More.refl _ | refine More.alloc ?_ _ | refine More.drew ?_)) a' cap' hown hgrow (by simpa using hfresh); have d19 : w'.cell? ⟨b, 25, none⟩ = some (.slice R2.told.a (flush s).told.length R2.told.cap) := cell_of_self hself 25; have df := frozen_of_self hself)
  all_goals
    go_wp2
    go_end0
    exact ⟨rfl, hT.tk⟩
end Go.Proofs.YtdfmapcnfficlaaGreatDoor

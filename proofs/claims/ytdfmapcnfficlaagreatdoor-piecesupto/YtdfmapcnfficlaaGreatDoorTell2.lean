/-
  'tell': the text ahead of a token, and the token.
-/
import Derived.Test.YtdfmapcnfficlaaGreatDoorTell
import Derived.Test.YtdfmapcnfficlaaGreatDoorFresh
import Derived.Deep.RegionLaw
import Derived.Deep.DeepCutAuto
namespace Go.Proofs.YtdfmapcnfficlaaGreatDoor
open Go Go.RowKit

theorem hide {p : Prop} (h : p) : Hid p := h
theorem unhide {p : Prop} (h : Hid p) : p := h

/-- 'append' onto a row of one's own, as one step of a region that draws. -/
theorem step_append_mine {P : Program} {ops : Array Oper} {o : Oper} {a : Act} {w : World} {K : Act → World → Prop} {Q : Exit → Act → World → Prop} {E : Prop}
    (hg : o.guard = none) (s x : Operand) (t : TypeId) (ho : o.op = Op.call { callee := Callee.builtin Builtin.append, args := #[s, x], argTypes := #[t, t] })
    (e : TypeId) (i : TypeInfo) (z : Value) (size bytes : Nat) (ht : P.underlying t = some (.slice e)) (hi : P.info? e = some i) (hz : i.zero = some z)
    (hsize : i.size = size) (hby : i.bytes = bytes) (hzs : z.cells.size = size) (hsz : 0 < size)
    (ao : Option Addr) (n cap : Nat) (xs : List Value) (hs : a.eval s = .slice ao n cap) (hown : w.ownsRow 0 e size (.slice ao n cap) n xs)
    (ad : Addr) (m c : Nat) (news : List Value) (hx : a.eval x = .slice (some ad) m c) (hl : news.length = m * size) (hnews : ∀ j u, news[j]? = some u → w.cell? (ad.add j) = some u) (h1 : ∀ u ∈ news, u.oneCell' = true) (hm : 0 < m)
    (h63 : n + m ≤ maxLen) (hbytes : (n + m) * bytes ≤ 140737488355328)
    (hK : ∀ a' cap' w', w'.ownsRow 0 e size (.slice (some a') (n + m) cap') (n + m) (xs ++ news) → w.grownBy w' (ao.map (·.block)) → (some a'.block = ao.map (·.block) ∨ w.heap.size ≤ a'.block) → K (a.put o.dst (.slice (some a') (n + m) cap')) w') :
    if Region.wanted o (yielded ops a.tmps) = true then Oper.wp P o a w K Q else E := by
  have hw : Region.wanted o (yielded ops a.tmps) = true := by simp [Region.wanted, hg]
  rw [if_pos hw]
  obtain ⟨a', cap', w', hr, h2, h3, h4⟩ := run_append_mine (P := P) w t o.type e i z size bytes ht hi hz hsize hby hzs hsz ao n cap xs hown ad m c news hl hnews h1 hm h63 hbytes
  unfold Oper.wp execOp
  simp only [ho, resolve, invoke, builtin, Sem.run_bind, Sem.run_pure, Result.andThen_ok, List.map_toArray, List.map_cons, List.map_nil, hs, hx, hr]
  exact hK a' cap' w' h2 h3 h4

theorem tokCells_cells' (t : Tok) (x : Sl) (w : World) (T : TypeId) (g : Nat) (hg : g = w.heap.size) : ∀ j u, (tokCells t x)[j]? = some u → (w.alloc (.cells (tokCells t x).toArray T)).cell? ((⟨g, 0, none⟩ : Addr).add j) = some u := by
  subst hg; exact tokCells_cells t x w T

theorem ownsRow_drew {w : World} {base : Nat} {e : TypeId} {size : Nat} {v : Value} {n : Nat} {xs : List Value} (h : w.ownsRow base e size v n xs) : w.drew.ownsRow base e size v n xs := h

def flush (s : TS) : TS := if s.text = [] then s else { tellTok s { kind := 0, text := s.text } with text := [] }
def tell (s : TS) (t : Tok) : TS := tellTok (flush s) t

theorem tk_alloc {w0 : World} {own0 : Nat → Prop} {b : Nat} {s : TS} {ex : List Item} {w : World} (h : Tk w0 own0 b s ex w) (o : Obj) : Tk w0 own0 b s ex (w.alloc o) := by
  obtain ⟨⟨R, hR⟩, hk⟩ := h
  have hm := (More.refl w).alloc o
  refine ⟨⟨R, ⟨?_, hR.ownB, hR.rows.kept fun k hk' _ => hm.block k hk', mapOf_kept hR.map fun g hg => hm.block g (hR.map_lt g hg), hR.mapB, hR.la, hR.lv, hR.lt⟩⟩, ?_⟩
  · rw [hm.block b hR.lt_b]; exact hR.self
  · exact ⟨hk.os, hk.tape, hk.output, by have := hk.size; have := hm.size; omega, fun k hk' hn => by rw [hm.block k (by have := hk.size; omega)]; exact hk.block k hk' hn⟩

theorem flush_len {s : TS} (h : s.told.length + 1 ≤ lim) : (flush s).told.length ≤ lim := by
  unfold flush
  split
  · omega
  · simp [tellTok]; omega

theorem box_at {w W : World} {o : Obj} (h : More (w.alloc o) W) : W.heap[w.heap.size]? = some o := (h.block _ (by simp)).trans (heap_alloc_new w o)

theorem box_stays {w1 w' : World} {row : Option Addr} {b g : Nat} {o : Obj} (hg : w1.heap[g]? = some o) (hgr : w1.grownBy w' (row.map (·.block))) (hrow : ∀ k, row.map (·.block) = some k → k < g) (hb : g ≠ b) (v v' : Value) (i j : Nat) :
    ((w'.setCell ⟨b, i, none⟩ v).setCell ⟨b, j, none⟩ v').heap[g]? = some o := by
  rw [set_other _ hb, set_other _ hb, hgr.block g (Array.getElem?_eq_some_iff.1 hg).1 (fun e => by have := hrow g e.symm; omega)]; exact hg

set_option maxHeartbeats 1600000 in
set_option maxRecDepth 1000000 in
theorem tellText_does {w0 : World} {own0 : Nat → Prop} {b : Nat} {s : TS} {ex : List Item} {w : World} (h : Tk w0 own0 b s ex w) (hs : s.told.length ≤ lim) :
    Calls Tryz.prog 60 #[.pointer (some ⟨b, 0, none⟩)] w fun e w' => e = .returned (.tuple #[]) ∧ Tk w0 own0 b (flush s) ex w' := by
  obtain ⟨⟨R, hR⟩, hk⟩ := h
  have c7 : w.cell? ⟨b, 8, none⟩ = some (.slice R.text.a s.text.length R.text.cap) := hR.cell 8
  have hlt := hR.lt_b
  have HS : Hid (s.told.length ≤ lim) := hs
  clear hs
  by_cases ht : s.text = []
  · have hl : s.text.length = 0 := by rw [ht]; rfl
    rw [flush, if_pos ht]
    have HT := hide (show Tk w0 own0 b s ex w from ⟨⟨R, hR⟩, hk⟩)
    rw [hl] at c7
    clear hl hk hR ht
    go_enter Tryz.func60, Tryz.ntmps60
    go_wp2
    try simp only [Exit.inBlock, Exit.then]
    refine bodyPost_ret (results_none rfl _ _ _) rfl ?_
    exact ⟨rfl, unhide HT⟩
  · have hl : 0 < s.text.length := by cases hh : s.text with | nil => exact absurd hh ht | cons => simp
    have hl2 : ((s.text.length : Int) == 0) = false := by simp; omega
    rw [flush, if_neg ht]
    have c19 : w.cell? ⟨b, 25, none⟩ = some (.slice R.told.a s.told.length R.told.cap) := hR.cell 25
    have hf := hR.frozen
    have hown0 : w.ownsRow 0 34 6 (.slice R.told.a s.told.length R.told.cap) s.told.length (toldCells s.told R.tattrs) := hR.rows.ok ⟨34, 6, R.told.a, s.told.length, R.told.cap, toldCells s.told R.tattrs⟩ (by simp [itemsOf])
    have htx : (bItem R.text s.text).ok w := hR.rows.ok _ (by simp [itemsOf])
    have hcv0 := conv_row (r := R.text) (l := s.text) htx
    have hcv1 := conv_row (r := R.text) (l := s.text) (ownsRow_drew htx)
    obtain ⟨i0, hi, hz0, hz1, hz2⟩ := info_parts Tryz.infoToken
    clear ht hl
    go_enter Tryz.func60, Tryz.ntmps60
    go_wp2_with fail
    go_region_law (refine step_append_mine rfl (.tmp 12) (.tmp 19) 30 rfl 34 i0 _ 6 80 Tryz.underlying30 hi hz0 hz1 hz2 rfl (by decide) R.told.a s.told.length R.told.cap (toldCells s.told R.tattrs) (by simp [Act.eval]) (by repeat (first | exact hown0 | refine World.ownsRow.alloc ?_ _ | refine ownsRow_drew ?_)) ⟨w.heap.size, 0, none⟩ 1 1 (tokCells { kind := 0, text := s.text } ⟨none, 0⟩) (by simp [Act.eval]) rfl (by exact tokCells_cells' _ _ _ _ _ (by simp)) (tokCells_one _ _) (by decide) (by exact lim_max HS.out) (by exact lim_tok HS.out) ?_; intro a' cap' w' hown hgrow hfresh; obtain ⟨hself, hT⟩ := RepAt.told_grow { kind := 0, text := s.text } ⟨none, 0⟩ hR.bare hk (by repeat (first | exact More.refl _ | refine More.alloc ?_ _ | refine More.drew ?_)) a' cap' hown hgrow (by simpa using hfresh); have d19 : w'.cell? ⟨b, 25, none⟩ = some (.slice R.told.a s.told.length R.told.cap) := cell_of_self hself 25; have df := frozen_of_self hself)
    all_goals
      have hR1 := hT.1
      have hT := hT.tk
      have e7 := hR1.cell 8
      have ef := hR1.frozen
      simp only [cellsOf, tellTok] at e7
      go_wp2
      go_end0
      exact ⟨rfl, tk_drop_text hT⟩

theorem Kept.unfresh {w0 w w1 w2 : World} {own0 : Nat → Prop} {b : Nat} {s : TS} {ex : List Item} (h : Tk w1 (ownAt w0 own0 w) b s ex w2) (hk : Kept own0 w0 w1) : Kept own0 w0 w2 := (h.unfresh hk).2

set_option maxHeartbeats 1600000 in
set_option maxRecDepth 1000000 in
theorem tell_does {w0 : World} {own0 : Nat → Prop} {b : Nat} {s : TS} {ex : List Item} {w : World} (t : Tok) (x : Sl) (h : Tk w0 own0 b s (aItem x t.attrs :: ex) w) (hs : s.told.length + 1 ≤ lim) :
    Calls Tryz.prog 37 #[.pointer (some ⟨b, 0, none⟩), .agg (tokCells t x).toArray] w fun e w' => e = .returned (.tuple #[]) ∧ Tk w0 own0 b (tell s t) ex w' := by
  have hm : More w (w.alloc (.cells (tokCells t x).toArray 34)) := (More.refl w).alloc _
  have hk1 : Kept own0 w0 (w.alloc (.cells (tokCells t x).toArray 34)) := h.2.more hm
  have HC := hide (tellText_does (h.fresh hm) (by omega))
  have hln : Hid ((flush s).told.length ≤ lim) := flush_len hs
  have hbox := heap_alloc_new w (.cells (tokCells t x).toArray 34)
  clear h hs
  simp only [tokCells] at *
  go_enter Tryz.func37, Tryz.ntmps37
  go_wp2_with fail
  refine (unhide HC).mono ?_
  rintro e wc ⟨rfl, h2⟩
  have hbx := (h2.stands (g := w.heap.size) (Nat.le_refl _) (by simp)).trans hbox
  obtain ⟨⟨R2, hR2⟩, hk2⟩ := h2.unfresh hk1
  have hlt2 := hR2.lt_b
  have hgs : w.heap.size < wc.heap.size := (Array.getElem?_eq_some_iff.1 hbx).1
  clear h2 HC hbox
  have c19 : wc.cell? ⟨b, 25, none⟩ = some (.slice R2.told.a (flush s).told.length R2.told.cap) := hR2.cell 25
  have hf := hR2.frozen
  have b0 : wc.cell? ⟨w.heap.size, 0, none⟩ = some (.int .i64 t.kind) := cell_of_self hbx 0
  have b1 : wc.cell? ⟨w.heap.size, 1, none⟩ = some (.string ⟨t.name.toArray⟩) := cell_of_self hbx 1
  have b2 : wc.cell? ⟨w.heap.size, 2, none⟩ = some (.slice x.a t.attrs.length x.cap) := cell_of_self hbx 2
  have b3 : wc.cell? ⟨w.heap.size, 3, none⟩ = some (.string ⟨t.text.toArray⟩) := cell_of_self hbx 3
  have b4 : wc.cell? ⟨w.heap.size, 4, none⟩ = some (.bool t.flag) := cell_of_self hbx 4
  have b5 : wc.cell? ⟨w.heap.size, 5, none⟩ = some (.int .i64 t.place) := cell_of_self hbx 5
  have hown0 : wc.ownsRow 0 34 6 (.slice R2.told.a (flush s).told.length R2.told.cap) (flush s).told.length (toldCells (flush s).told R2.tattrs) := hR2.rows.ok ⟨34, 6, R2.told.a, (flush s).told.length, R2.told.cap, toldCells (flush s).told R2.tattrs⟩ (by simp [itemsOf])
  obtain ⟨i0, hi, hz0, hz1, hz2⟩ := info_parts Tryz.infoToken
  go_wp2_with fail
  go_region_law (refine step_append_mine rfl (.tmp 10) (.tmp 12) 30 rfl 34 i0 _ 6 80 Tryz.underlying30 hi hz0 hz1 hz2 rfl (by decide) R2.told.a (flush s).told.length R2.told.cap (toldCells (flush s).told R2.tattrs) (by simp [Act.eval]) (by repeat (first | exact hown0 | refine World.ownsRow.alloc ?_ _ | refine ownsRow_drew ?_)) ⟨wc.heap.size, 0, none⟩ 1 1 (tokCells t x) (by simp [Act.eval]) rfl (by exact tokCells_cells' t x _ _ _ (by simp)) (tokCells_one _ _) (by decide) (lim_max hln.out) (lim_tok hln.out) ?_; intro a' cap' w' hown hgrow hfresh; obtain ⟨hself, hT⟩ := RepAt.told_grow t x hR2 hk2 (by repeat (first | exact More.refl _ | refine More.alloc ?_ _ | refine More.drew ?_)) a' cap' hown hgrow (by simpa using hfresh); have d19 : w'.cell? ⟨b, 25, none⟩ = some (.slice R2.told.a (flush s).told.length R2.told.cap) := cell_of_self hself 25; have df := frozen_of_self hself)
  all_goals
    go_wp2
    go_end0
    exact ⟨rfl, hT.tk⟩
end Go.Proofs.YtdfmapcnfficlaaGreatDoor

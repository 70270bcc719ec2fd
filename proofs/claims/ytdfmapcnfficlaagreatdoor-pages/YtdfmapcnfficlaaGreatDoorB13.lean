/-
  Tags that are dropped, and told.
  Where a start tag leads to.
-/
import Derived.Test.YtdfmapcnfficlaaGreatDoorB12
set_option linter.unusedSimpArgs false
set_option linter.unusedVariables false
namespace Go.Proofs.YtdfmapcnfficlaaGreatDoor
open Go Go.RowKit

theorem perm_tag (t n bf at' c d tl : Item) (A T ex : List Item) : ([t, n, bf, at', c, d, tl] ++ (A ++ T) ++ ex).Perm (([t, c, d, tl] ++ T ++ ex) ++ ([n, bf, at'] ++ A)) := by
  have h1 : ([n, bf, at'] ++ ([c, d, tl] ++ (A ++ (T ++ ex)))).Perm ([c, d, tl] ++ ([n, bf, at'] ++ (A ++ (T ++ ex)))) := List.perm_append_comm_assoc _ _ _
  have h2 : ([n, bf, at'] ++ (A ++ (T ++ ex))).Perm ((T ++ ex) ++ ([n, bf, at'] ++ A)) := by rw [← List.append_assoc]; exact List.perm_append_comm
  have h3 := (h1.trans (h2.append_left [c, d, tl])).cons t
  simpa only [List.cons_append, List.nil_append, List.append_assoc] using h3

def tagItems (s : TS) (R : Regs) : List Item := [bItem R.tname s.tag.name, bItem R.buffer s.tag.buffer, attItem s R] ++ attItems s.tag.atts R.anames R.avalues

/-- The tokenizer's tag is set to nought: six cells. -/
def zeroTag (w : World) (b : Nat) : World :=
  (((((w.setCell ⟨b, 9, none⟩ (.int .i64 0)).setCell ⟨b, 10, none⟩ (.slice none 0 0)).setCell ⟨b, 11, none⟩ (.slice none 0 0)).setCell ⟨b, 12, none⟩ (.slice none 0 0)).setCell ⟨b, 13, none⟩ (.map none)).setCell ⟨b, 14, none⟩ (.bool false)

section
variable {w0 : World} {own0 : Nat → Prop} {b : Nat} {s : TS} {ex : List Item} {w : World} {R : Regs}

theorem zeroTag_other (k : Nat) (hk : k ≠ b) : (zeroTag w b).heap[k]? = w.heap[k]? := by
  unfold zeroTag
  rw [set_other _ hk, set_other _ hk, set_other _ hk, set_other _ hk, set_other _ hk, set_other _ hk]

def noTag (R : Regs) : Regs := { R with tname := ⟨none, 0⟩, buffer := ⟨none, 0⟩, atts := ⟨none, 0⟩, names := none, anames := [], avalues := [] }

theorem zeroTag_self (h : RepAt w (fun k => own0 k ∨ w0.heap.size ≤ k) b s R ex) : (zeroTag w b).heap[b]? = some (.cells (cellsOf { s with tag := {} } (noTag R)) 84 (0, 0)) := by
  unfold zeroTag
  rw [set_self (set_self (set_self (set_self (set_self (set_self h.self _ _) _ _) _ _) _ _) _ _)]
  rfl

/-- The tag's rows are held beside the tokenizer from now on. -/
theorem tkR_takeTag (h : TkR w0 own0 b s R ex w) : TkR w0 own0 b { s with tag := {} } (noTag R) (tagItems s R ++ ex) (zeroTag w b) := by
  refine ⟨?_, ?_⟩
  · refine h.1.anew (zeroTag_self h.1) (fun k hk => zeroTag_other k hk) ([bItem R.text s.text, bItem R.comment s.comment, bItem R.dname s.dname, ⟨34, 6, R.told.a, s.told.length, R.told.cap, toldCells s.told R.tattrs⟩] ++ toldItems s.told R.tattrs ++ (tagItems s R ++ ex)) [] [bItem ⟨none, 0⟩ [], bItem ⟨none, 0⟩ [], ⟨210, 3, none, 0, 0, []⟩] ?_ ?_ ?_ (.inr ⟨rfl, rfl⟩) rfl rfl h.1.lt
    · rw [List.append_nil]
      refine (perm_tag _ _ _ _ _ _ _ _ _ _).trans ?_
      rw [List.append_assoc _ ex]
      exact List.Perm.append_left _ List.perm_append_comm
    · intro it hi
      simp only [List.mem_cons, List.not_mem_nil, or_false] at hi
      rcases hi with rfl | rfl | rfl
      · exact ⟨bItem_nil_ok w, rfl⟩
      · exact ⟨bItem_nil_ok w, rfl⟩
      · exact ⟨World.ownsRow_nil w 0 210 3, rfl⟩
    · exact perm_tag (bItem R.text s.text) (bItem ⟨none, 0⟩ []) (bItem ⟨none, 0⟩ []) ⟨210, 3, none, 0, 0, []⟩ (bItem R.comment s.comment) (bItem R.dname s.dname) ⟨34, 6, R.told.a, s.told.length, R.told.cap, toldCells s.told R.tattrs⟩ [] (toldItems s.told R.tattrs) (tagItems s R ++ ex)
  · exact ((((((h.2.setCell _ _ h.1.ownB).setCell _ _ h.1.ownB).setCell _ _ h.1.ownB).setCell _ _ h.1.ownB).setCell _ _ h.1.ownB).setCell _ _ h.1.ownB)

/-- Rows that are held beside may be let go. -/
theorem tk_forget {l : List Item} (h : TkR w0 own0 b s R (l ++ ex) w) : TkR w0 own0 b s R ex w := by
  refine ⟨⟨h.1.self, h.1.ownB, ?_, h.1.map, h.1.mapB, h.1.la, h.1.lv, h.1.lt⟩, h.2⟩
  refine h.1.rows.less (itemsOf s R ++ ex) l [] ?_ (by simp) (by simp)
  rw [List.append_assoc]
  exact List.Perm.append_left _ List.perm_append_comm

def dropTag (s : TS) : TS := { wrong s [101, 110, 100, 45, 105, 110, 45, 116, 97, 103] with tag := {} }

set_option maxHeartbeats 800000 in
theorem dropTag_does (h : Tk w0 own0 b s ex w) (hs : sz s + 4 ≤ lim) :
    Calls Tryz.prog 200 #[.pointer (some ⟨b, 0, none⟩)] w fun e w' => e = .returned (.int .i64 0) ∧ Tk w0 own0 b (dropTag s) ex w' := by
  have HS := hide hs
  clear hs
  go_enter Tryz.func200, Tryz.ntmps200
  go_wp2_with fail
  refine (wrong_sz [101, 110, 100, 45, 105, 110, 45, 116, 97, 103] h (by have := unhide HS; omega)).mono ?_
  rintro e w1 ⟨rfl, h1⟩
  obtain ⟨R, hR⟩ := h1.reg
  have d0 := hR.1.cell 9
  have d1 := hR.1.cell 10
  have d2 := hR.1.cell 11
  have d3 := hR.1.cell 12
  have d4 := hR.1.cell 13
  have d5 := hR.1.cell 14
  have df := hR.1.frozen
  simp only [cellsOf] at d0 d1 d2 d3 d4 d5
  have hT := (tk_forget (tkR_takeTag hR)).tk
  unfold zeroTag at hT
  go_wp2
  go_ret
  exact ⟨rfl, hT⟩
end
end Go.Proofs.YtdfmapcnfficlaaGreatDoor

set_option linter.unusedSimpArgs false
set_option linter.unusedVariables false
namespace Go.Proofs.YtdfmapcnfficlaaGreatDoor
open Go Go.RowKit

def stateBehindC (n : Str) : Int :=
  if n = [116, 105, 116, 108, 101] ∨ n = [116, 101, 120, 116, 97, 114, 101, 97] then 1 else if n = [115, 99, 114, 105, 112, 116] ∨ n = [115, 116, 121, 108, 101] ∨ n = [120, 109, 112] then 2 else 0

set_option maxHeartbeats 400000 in
theorem stateBehind_does (n : Str) (w : World) : Calls Tryz.prog 240 #[.string ⟨n.toArray⟩] w fun e w' => e = .returned (.int .i64 (stateBehindC n)) ∧ w' = w := by
  by_cases h1 : n = [116, 105, 116, 108, 101]
  · subst h1
    go_enter Tryz.func240, Tryz.ntmps240
    go_wp2
    go_ret
    exact ⟨rfl, rfl⟩
  by_cases h2 : n = [116, 101, 120, 116, 97, 114, 101, 97]
  · subst h2
    go_enter Tryz.func240, Tryz.ntmps240
    go_wp2
    go_ret
    exact ⟨rfl, rfl⟩
  by_cases h3 : n = [115, 99, 114, 105, 112, 116]
  · subst h3
    go_enter Tryz.func240, Tryz.ntmps240
    go_wp2
    go_ret
    exact ⟨rfl, rfl⟩
  by_cases h4 : n = [115, 116, 121, 108, 101]
  · subst h4
    go_enter Tryz.func240, Tryz.ntmps240
    go_wp2
    go_ret
    exact ⟨rfl, rfl⟩
  by_cases h5 : n = [120, 109, 112]
  · subst h5
    go_enter Tryz.func240, Tryz.ntmps240
    go_wp2
    go_ret
    exact ⟨rfl, rfl⟩
  have e1 : (n == [116, 105, 116, 108, 101]) = false := beq_eq_false_iff_ne.2 h1
  have e2 : (n == [116, 101, 120, 116, 97, 114, 101, 97]) = false := beq_eq_false_iff_ne.2 h2
  have e3 : (n == [115, 99, 114, 105, 112, 116]) = false := beq_eq_false_iff_ne.2 h3
  have e4 : (n == [115, 116, 121, 108, 101]) = false := beq_eq_false_iff_ne.2 h4
  have e5 : (n == [120, 109, 112]) = false := beq_eq_false_iff_ne.2 h5
  have hfin : stateBehindC n = 0 := by simp [stateBehindC, h1, h2, h3, h4, h5]
  rw [hfin]
  clear hfin h1 h2 h3 h4 h5
  go_enter Tryz.func240, Tryz.ntmps240
  go_wp2
  go_ret
  exact ⟨rfl, rfl⟩

set_option maxHeartbeats 400000 in
theorem attrs_none (w : World) (gb cap : Nat) (ao : Option Addr) (hbox : w.cell? ⟨gb, 3, none⟩ = some (.slice ao 0 cap)) :
    Calls Tryz.prog 238 #[.pointer (some ⟨gb, 0, none⟩)] w fun e w' => e = .returned (.slice none 0 0) ∧ w' = w := by
  go_enter Tryz.func238, Tryz.ntmps238
  go_wp2
  go_loopw [3, 11] (fun li i wr => i = .int .i64 0 ∧ li = .slice none 0 0 ∧ wr = w) (fun _ i _ => 0)
  case atStart => exact ⟨rfl, rfl, rfl⟩
  case round =>
    obtain ⟨rfl, rfl, rfl⟩ := hrel
    go_wp2
    go_ret
    exact ⟨rfl, rfl⟩

section
variable {w0 : World} {own0 : Nat → Prop} {b : Nat} {s : TS} {ex : List Item} {w : World} {R : Regs}

theorem tkR_more {w' : World} (h : TkR w0 own0 b s R ex w) (hm : More w w') : TkR w0 own0 b s R ex w' := by
  obtain ⟨hR, hk⟩ := h
  refine ⟨⟨?_, hR.ownB, hR.rows.kept fun k hk' _ => hm.block k hk', mapOf_kept hR.map fun g hg => hm.block g (hR.map_lt g hg), hR.mapB, hR.la, hR.lv, hR.lt⟩, ?_⟩
  · rw [hm.block b hR.lt_b]; exact hR.self
  · exact ⟨hm.os.trans hk.os, hm.tape.trans hk.tape, hm.output.trans hk.output, by have := hk.size; have := hm.size; omega, fun k hk' hn => by rw [hm.block k (by have := hk.size; omega)]; exact hk.block k hk' hn⟩

/-- A new row is held beside. -/
theorem tkR_addRow {w' : World} (h : TkR w0 own0 b s R ex w) (hm : More w w') {it : Item} (hok : it.ok w') (hf : ∀ k, it.blk = some k → w.heap.size ≤ k) : TkR w0 own0 b s R (it :: ex) w' := by
  have h' := tkR_more h hm
  have hup : ∀ k, w.heap.size ≤ k → (own0 k ∨ w0.heap.size ≤ k) := fun k hh => .inr (Nat.le_trans h.2.size hh)
  refine ⟨⟨h'.1.self, h'.1.ownB, ?_, h'.1.map, h'.1.mapB, h'.1.la, h'.1.lv, h'.1.lt⟩, h'.2⟩
  refine Items.perm (l := it :: (itemsOf s R ++ ex)) ?_ (List.perm_middle).symm
  refine ⟨fun x hx => ?_, ?_, ?_⟩
  · rcases List.mem_cons.1 hx with rfl | hx
    · exact hok
    · exact h'.1.rows.ok x hx
  · simp only [List.filterMap_cons]
    split
    · exact h'.1.rows.nodup
    · rename_i k hk
      refine List.nodup_cons.2 ⟨fun hm' => ?_, h'.1.rows.nodup⟩
      obtain ⟨x, hx, hb⟩ := List.mem_filterMap.1 hm'
      have := Item.lt (h.1.rows.ok x hx) k hb
      have := hf k hk
      omega
  · intro k hk
    simp only [List.filterMap_cons] at hk
    split at hk
    · exact h'.1.rows.own k hk
    · rename_i k' hk'
      rcases List.mem_cons.1 hk with rfl | hk
      · exact h.1.up hup k (hf k hk')
      · exact h'.1.rows.own k hk

def tagS (s : TS) : TS := { s with tag := {} }
def endTag (s : TS) : TS :=
  let s1 := if s.tag.atts = [] then tagS s else wrong (tagS s) [101, 110, 100, 45, 97, 116, 116, 114, 105, 98, 117, 116, 101, 115]
  let s2 := if s.tag.closes then wrong s1 [101, 110, 100, 45, 115, 108, 97, 115, 104] else s1
  { tell s2 { kind := 2, name := s.tag.name } with base := 0, state := 0 }
def startTag (s : TS) : TS :=
  { tell (tagS s) { kind := 1, name := s.tag.name, attrs := attrsOf s.tag.atts, flag := s.tag.closes } with lastStart := s.tag.name, base := stateBehindC s.tag.name, state := stateBehindC s.tag.name }
def tellTag (s : TS) : TS := if s.tag.kind = 1 then startTag s else endTag s

/-- The six cells of a tag. -/
def tagCells (s : TS) (R : Regs) : Array Value :=
  #[.int .i64 s.tag.kind, .slice R.tname.a s.tag.name.length R.tname.cap, .slice R.buffer.a s.tag.buffer.length R.buffer.cap, .slice R.atts.a s.tag.atts.length R.atts.cap, .map R.names, .bool s.tag.closes]


/-- The world behind the first steps of 'tellTag': the tag is copied, and begun anew. -/
def copied (w : World) (b : Nat) (s : TS) (R : Regs) : World := (zeroTag w b).alloc (.cells (tagCells s R) 78)

theorem copied_box (i : Nat) : (copied w b s R).cell? ⟨w.heap.size, i, none⟩ = (tagCells s R)[i]? := by
  have hsz : (zeroTag w b).heap.size = w.heap.size := by simp [zeroTag, World.setCell]
  have := heap_alloc_new (zeroTag w b) (.cells (tagCells s R) 78)
  rw [hsz] at this
  exact cell_of_self this i

theorem drew_cell (w : World) (a : Addr) : w.drew.cell? a = w.cell? a := rfl

theorem copied_size : (copied w b s R).heap.size = w.heap.size + 1 := by simp [copied, zeroTag, World.setCell]

theorem copied_tk (h : TkR w0 own0 b s R ex w) : TkR w0 own0 b (tagS s) (noTag R) (tagItems s R ++ ex) (copied w b s R) := tkR_alloc (tkR_takeTag h) _

theorem attsCells_get : ∀ (ts : List Att) (rs vs : List Sl) (k : Nat) (a : Att), rs.length = ts.length → vs.length = ts.length → ts[k]? = some a →
    ∃ r v, rs[k]? = some r ∧ vs[k]? = some v ∧ (∀ i, i < 3 → (attsCells ts rs vs)[k * 3 + i]? = (attCells a r v)[i]?) ∧ bItem r a.name ∈ attItems ts rs vs ∧ bItem v a.value ∈ attItems ts rs vs
  | [], _, _, k, a, _, _, h => by simp at h
  | t :: ts, [], _, _, _, h, _, _ => by simp at h
  | t :: ts, _ :: _, [], _, _, _, h, _ => by simp at h
  | t :: ts, r :: rs, v :: vs, 0, a, _, _, h => by
    simp at h
    subst h
    refine ⟨r, v, rfl, rfl, ?_, by simp [attItems], by simp [attItems]⟩
    intro i hi
    match i, hi with
    | 0, _ => simp [attsCells, attCells]
    | 1, _ => simp [attsCells, attCells]
    | 2, _ => simp [attsCells, attCells]
  | t :: ts, r :: rs, v :: vs, k + 1, a, h1, h2, h => by
    obtain ⟨r', v', e1, e2, e3, e4, e5⟩ := attsCells_get ts rs vs k a (by simpa using h1) (by simpa using h2) (by simpa using h)
    refine ⟨r', v', by simpa using e1, by simpa using e2, ?_, by simp [attItems, e4], by simp [attItems, e5]⟩
    intro i hi
    rw [← e3 i hi]
    show (attCells t r v ++ attsCells ts rs vs)[(k + 1) * 3 + i]? = _
    rw [List.getElem?_append_right (by simp [attCells]; omega)]
    congr 1
    simp [attCells]
    omega

theorem attsAt_of {W : World} {g : Nat} (hA : (attItem s R).ok W) (hi : ∀ it ∈ attItems s.tag.atts R.anames R.avalues, it.ok W) (la : R.anames.length = s.tag.atts.length) (lv : R.avalues.length = s.tag.atts.length) (hg : R.atts.a = some ⟨g, 0, none⟩) :
    AttsAt W g s.tag.atts R.anames R.avalues := by
  refine ⟨fun k a hk => ?_, ?_⟩
  · obtain ⟨r, v, e1, e2, e3, e4, e5⟩ := attsCells_get _ _ _ k a la lv hk
    have hc : ∀ i u, i < 3 → (attCells a r v)[i]? = some u → W.cell? ⟨g, k * 3 + i, none⟩ = some u := by
      intro i u hi hu
      have := World.ownsRow.cells hA (g := g) (by simp [attItem, hg, Value.ownBlock]) (k * 3 + i) u (by show (attsCells s.tag.atts R.anames R.avalues)[k * 3 + i]? = _; rw [e3 i hi]; exact hu)
      have hadd : (⟨g, 0, none⟩ : Addr).add (k * 3 + i) = ⟨g, k * 3 + i, none⟩ := by unfold Addr.add; split <;> simp_all
      rw [hadd] at this
      exact this
    exact ⟨r, v, e1, e2, hc 0 _ (by omega) rfl, hc 1 _ (by omega) rfl, hc 2 _ (by omega) rfl, hi _ e4, hi _ e5⟩
  · exact Item.lt hA g (by simp [Item.blk, attItem, hg])

set_option maxHeartbeats 2000000 in
set_option maxRecDepth 1000000 in
theorem startTag_none (h : Tk w0 own0 b s ex w) (hk : s.tag.kind = 1) (hne : s.tag.atts = []) (hs : sz s + 4 ≤ lim) :
    Calls Tryz.prog 199 #[.pointer (some ⟨b, 0, none⟩)] w fun e w' => e = .returned (.int .i64 0) ∧ Tk w0 own0 b (startTag s) ex w' := by
  obtain ⟨R, hR⟩ := h.reg
  have d0 : w.cell? ⟨b, 9, none⟩ = some (.int .i64 1) := by rw [hR.1.cell, ← hk]; rfl
  have d1 : w.cell? ⟨b, 10, none⟩ = some (.slice R.tname.a s.tag.name.length R.tname.cap) := hR.1.cell _
  have d2 : w.cell? ⟨b, 11, none⟩ = some (.slice R.buffer.a s.tag.buffer.length R.buffer.cap) := hR.1.cell _
  have d3 : w.cell? ⟨b, 12, none⟩ = some (.slice R.atts.a s.tag.atts.length R.atts.cap) := hR.1.cell _
  have d4 : w.cell? ⟨b, 13, none⟩ = some (.map R.names) := hR.1.cell _
  have d5 : w.cell? ⟨b, 14, none⟩ = some (.bool s.tag.closes) := hR.1.cell _
  have df := hR.1.frozen
  have hlt := hR.1.lt_b
  have hT := copied_tk hR
  have hcv := conv_row (r := R.tname) (l := s.tag.name) (hT.1.rows.ok (bItem R.tname s.tag.name) (List.mem_append_right _ (List.mem_append_left _ (by simp [tagItems]))))
  have HN := hide (attrs_none (copied w b s R).drew w.heap.size R.atts.cap R.atts.a (by rw [drew_cell, copied_box]; simp [tagCells, hne]))
  have HTe := hide (tell_does (ex := ex) { kind := 1, name := s.tag.name, attrs := [], flag := s.tag.closes } ⟨none, 0⟩ (TkR.tk ⟨(tkR_drew (tk_forget hT)).1.bare, (tkR_drew (tk_forget hT)).2⟩) (by unfold sz at hs; simp [tagS]; omega))
  have hfin : startTag s = { tell (tagS s) { kind := 1, name := s.tag.name, attrs := [], flag := s.tag.closes } with lastStart := s.tag.name, base := stateBehindC s.tag.name, state := stateBehindC s.tag.name } := by simp [startTag, hne, attrsOf]
  rw [hfin]
  simp only [tokCells, List.length_nil] at HTe
  simp only [copied, zeroTag, tagCells, hk, hne, List.length_nil] at hcv HN HTe
  rw [hne, List.length_nil] at d3
  clear hfin h hs hT hR hk hne
  go_enter Tryz.func199, Tryz.ntmps199
  go_wp2_with fail
  go_region_with (first
    | (go_at_call 238; refine (unhide HN).mono ?_; rintro e w1 ⟨rfl, rfl⟩)
    | (go_at_call 37; refine (unhide HTe).mono ?_; rintro e w2 ⟨rfl, h2⟩))
  all_goals
    obtain ⟨R2, hR2⟩ := h2.reg
    have e1 := hR2.1.cell 15
    have ef := hR2.1.frozen
    simp only [cellsOf] at e1
    have h3 : Tk w0 own0 b { tell (tagS s) { kind := 1, name := s.tag.name, attrs := [], flag := s.tag.closes } with lastStart := s.tag.name } ex (w2.setCell ⟨b, 15, none⟩ (.string ⟨s.tag.name.toArray⟩)) := ⟨⟨R2, hR2.1.setCell 15 _ rfl rfl rfl rfl rfl⟩, hR2.2.setCell 15 _ hR2.1.ownB⟩
    go_wp2_with fail
    refine (stateBehind_does s.tag.name _).mono ?_
    rintro e w3 ⟨rfl, rfl⟩
    go_wp2_with fail
    refine (leadTo_does (stateBehindC s.tag.name) h3).mono ?_
    rintro e w4 ⟨rfl, h4⟩
    go_wp2
    go_ret
    exact ⟨rfl, h4⟩

end
end Go.Proofs.YtdfmapcnfficlaaGreatDoor

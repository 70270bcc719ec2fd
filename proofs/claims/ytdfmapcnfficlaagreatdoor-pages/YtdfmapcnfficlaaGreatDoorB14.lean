/-
  A start tag with attributes is told.
  An end tag is told.
-/
import Derived.Test.YtdfmapcnfficlaaGreatDoorB13
set_option linter.unusedSimpArgs false
set_option linter.unusedVariables false
namespace Go.Proofs.YtdfmapcnfficlaaGreatDoor
open Go Go.RowKit
section
variable {w0 : World} {own0 : Nat → Prop} {b : Nat} {s : TS} {ex : List Item} {w : World} {R : Regs}
set_option maxHeartbeats 2000000 in
set_option maxRecDepth 1000000 in
theorem startTag_some (h : Tk w0 own0 b s ex w) (hk : s.tag.kind = 1) (hne : s.tag.atts ≠ []) (hs : sz s + 4 ≤ lim) :
    Calls Tryz.prog 199 #[.pointer (some ⟨b, 0, none⟩)] w fun e w' => e = .returned (.int .i64 0) ∧ Tk w0 own0 b (startTag s) ex w' := by
  obtain ⟨R, hR⟩ := h.reg
  obtain ⟨g, hg, hcap, _⟩ := atts_addr hR.1 hne
  have d0 : w.cell? ⟨b, 9, none⟩ = some (.int .i64 1) := by rw [hR.1.cell, ← hk]; rfl
  have d1 : w.cell? ⟨b, 10, none⟩ = some (.slice R.tname.a s.tag.name.length R.tname.cap) := hR.1.cell _
  have d2 : w.cell? ⟨b, 11, none⟩ = some (.slice R.buffer.a s.tag.buffer.length R.buffer.cap) := hR.1.cell _
  have d3 : w.cell? ⟨b, 12, none⟩ = some (.slice (some ⟨g, 0, none⟩) s.tag.atts.length R.atts.cap) := by rw [← hg]; exact hR.1.cell _
  have d4 : w.cell? ⟨b, 13, none⟩ = some (.map R.names) := hR.1.cell _
  have d5 : w.cell? ⟨b, 14, none⟩ = some (.bool s.tag.closes) := hR.1.cell _
  have df := hR.1.frozen
  have hlt := hR.1.lt_b
  have hT := copied_tk hR
  have hcv := conv_row (r := R.tname) (l := s.tag.name) (hT.1.rows.ok (bItem R.tname s.tag.name) (List.mem_append_right _ (List.mem_append_left _ (by simp [tagItems]))))
  have hAt : AttsAt (copied w b s R) g s.tag.atts R.anames R.avalues := attsAt_of (hT.1.rows.ok (attItem s R) (List.mem_append_right _ (List.mem_append_left _ (by simp [tagItems])))) (fun it hi => hT.1.rows.ok it (List.mem_append_right _ (List.mem_append_left _ (by simp [tagItems, hi])))) hR.1.la hR.1.lv hg
  have hX := tkR_drew (tk_forget hT)
  have HZ : Hid ((tagS s).told.length + 1 ≤ lim) := hide (by unfold sz at hs; simp [tagS]; omega)
  have hB : (copied w b s R).drew.cell? ⟨w.heap.size, 5, none⟩ = some (.bool s.tag.closes) := by rw [drew_cell, copied_box]; simp [tagCells]
  have hSz : w.heap.size < (copied w b s R).drew.heap.size := by show _ < (copied w b s R).heap.size; rw [copied_size]; omega
  have HN : Hid (Calls Tryz.prog 238 #[.pointer (some ⟨w.heap.size, 0, none⟩)] (copied w b s R).drew fun e w' => ∃ x : Sl, e = .returned (.slice x.a (attrsOf s.tag.atts).length x.cap) ∧ Tk w0 own0 b (tagS s) (aItem x (attrsOf s.tag.atts) :: ex) w' ∧ w'.cell? ⟨w.heap.size, 5, none⟩ = some (.bool s.tag.closes)) := by
    refine hide ((attrs_does (copied w b s R).drew w.heap.size g R.atts.cap s.tag.atts R.anames R.avalues (by rw [drew_cell, copied_box]; simp [tagCells, hg]) (hAt.more (More.refl _).drew) hSz (by unfold sz at hs; omega) hcap).mono ?_)
    rintro e w' ⟨x, rfl, hm, hok, hfr⟩
    exact ⟨x, rfl, (tkR_addRow hX hm hok hfr).tk, by rw [World.cell?_of_block (w := (copied w b s R).drew) (hm.block _ hSz)]; exact hB⟩
  unfold startTag
  generalize hat : attrsOf s.tag.atts = ats at HN ⊢
  simp only [copied, zeroTag, tagCells, hk, hg] at hcv HN
  clear h hs hT hR hk hne hat hAt hg hcap hX hB hSz
  go_enter Tryz.func199, Tryz.ntmps199
  go_wp2_with fail
  go_region_with (first
    | (go_at_call 238; refine (unhide HN).mono ?_; rintro e w1 ⟨x, rfl, hx, b5⟩; have HTe := hide (tell_does (ex := ex) { kind := 1, name := s.tag.name, attrs := ats, flag := s.tag.closes } x hx (unhide HZ)); clear hx; simp only [tokCells] at HTe)
    | (go_at_call 37; refine (unhide HTe).mono ?_; rintro e w2 ⟨rfl, h2⟩))
  all_goals
    obtain ⟨R2, hR2⟩ := h2.reg
    have e1 := hR2.1.cell 15
    have ef := hR2.1.frozen
    simp only [cellsOf] at e1
    have h3 : Tk w0 own0 b { tell (tagS s) { kind := 1, name := s.tag.name, attrs := ats, flag := s.tag.closes } with lastStart := s.tag.name } ex (w2.setCell ⟨b, 15, none⟩ (.string ⟨s.tag.name.toArray⟩)) := ⟨⟨R2, hR2.1.setCell 15 _ rfl rfl rfl rfl rfl⟩, hR2.2.setCell 15 _ hR2.1.ownB⟩
    go_wp2_with fail
    refine (stateBehind_does s.tag.name _).mono ?_
    rintro e w3 ⟨rfl, rfl⟩
    go_wp2_with fail
    refine (leadTo_does (stateBehindC s.tag.name) h3).mono ?_
    rintro e w4 ⟨rfl, h4⟩
    go_wp2
    go_ret
    exact ⟨rfl, h4⟩
end
end Go.Proofs.YtdfmapcnfficlaaGreatDoor

set_option linter.unusedSimpArgs false
set_option linter.unusedVariables false
namespace Go.Proofs.YtdfmapcnfficlaaGreatDoor
open Go Go.RowKit
section
variable {w0 : World} {own0 : Nat → Prop} {b : Nat} {s : TS} {ex : List Item} {w : World} {R : Regs}

/-- The copy of a tag, as a row. -/
def boxItem (g : Nat) (s : TS) (R : Regs) : Item := ⟨78, 6, some ⟨g, 0, none⟩, 1, 1, (tagCells s R).toList⟩

theorem copied_tkB (h : TkR w0 own0 b s R ex w) : TkR w0 own0 b (tagS s) (noTag R) (boxItem w.heap.size s R :: (tagItems s R ++ ex)) (copied w b s R) := by
  have hsz : (zeroTag w b).heap.size = w.heap.size := by simp [zeroTag, World.setCell]
  refine tkR_addRow (tkR_takeTag h) ((More.refl _).alloc _) ?_ ?_
  · refine ⟨by simp [boxItem, tagCells], .inr ⟨w.heap.size, 1, tagCells s R, rfl, Nat.zero_le _, ?_, by simp [boxItem], by simp [maxLen], by simp [boxItem, tagCells], by simp [boxItem, tagCells]⟩⟩
    have := heap_alloc_new (zeroTag w b) (.cells (tagCells s R) 78)
    rw [hsz] at this
    exact this
  · intro k hk
    simp [Item.blk, boxItem] at hk
    omega

theorem box_cell {g : Nat} {s' : TS} {R' : Regs} (h : RepAt w (fun k => own0 k ∨ w0.heap.size ≤ k) b s' R' (boxItem g s R :: ex)) (i : Nat) (u : Value) (hu : (tagCells s R)[i]? = some u) : w.cell? ⟨g, i, none⟩ = some u := by
  have hok := h.rows.ok (boxItem g s R) (by simp)
  have := World.ownsRow.cells hok (g := g) (by simp [boxItem, Value.ownBlock]) i u (by simpa [boxItem] using hu)
  have hadd : (⟨g, 0, none⟩ : Addr).add i = ⟨g, i, none⟩ := by unfold Addr.add; split <;> simp_all
  rw [hadd] at this
  exact this

theorem tk_forget1 {it : Item} (h : Tk w0 own0 b s (it :: ex) w) : Tk w0 own0 b s ex w := by
  obtain ⟨R, hR⟩ := h.reg
  exact (tk_forget (l := [it]) hR).tk
theorem tk_swap {i j : Item} (h : TkR w0 own0 b s R (i :: j :: ex) w) : TkR w0 own0 b s R (j :: i :: ex) w :=
  ⟨⟨h.1.self, h.1.ownB, h.1.rows.perm (List.Perm.append_left _ (List.Perm.swap _ _ _)), h.1.map, h.1.mapB, h.1.la, h.1.lv, h.1.lt⟩, h.2⟩
theorem tk_forgetB {it : Item} {l : List Item} (h : TkR w0 own0 b s R (it :: (l ++ ex)) w) : TkR w0 own0 b s R (it :: ex) w := by
  refine ⟨⟨h.1.self, h.1.ownB, ?_, h.1.map, h.1.mapB, h.1.la, h.1.lv, h.1.lt⟩, h.2⟩
  refine h.1.rows.less (itemsOf s R ++ it :: ex) l [] ?_ (by simp) (by simp)
  rw [List.append_assoc]
  refine List.Perm.append_left _ ?_
  exact List.Perm.cons _ List.perm_append_comm

theorem tell_bareB {w0 : World} {own0 : Nat → Prop} {b : Nat} {s : TS} {ex : List Item} {w : World} (t : Tok) (ht : t.attrs = []) (h : Tk w0 own0 b s ex w) (hs : sz s + 1 ≤ lim) :
    Calls Tryz.prog 37 #[.pointer (some ⟨b, 0, none⟩), .agg #[.int .i64 t.kind, .string ⟨t.name.toArray⟩, .slice none 0 0, .string ⟨t.text.toArray⟩, .bool t.flag, .int .i64 t.place]] w fun e w' => e = .returned (.tuple #[]) ∧ Tk w0 own0 b (tell s t) ex w' := by
  obtain ⟨R, hR⟩ := h.reg
  have := tell_does (ex := ex) t ⟨none, 0⟩ (by rw [ht]; exact TkR.tk ⟨hR.1.bare, hR.2⟩) (by unfold sz at hs; omega)
  simpa only [tokCells, ht, List.length_nil] using this

theorem sz_tagS (s : TS) : sz (tagS s) ≤ sz s := by simp [sz, tagS, attsz]; omega

set_option maxHeartbeats 2000000 in
set_option maxRecDepth 1000000 in
theorem endTag_nn (h : Tk w0 own0 b s ex w) (hk : s.tag.kind ≠ 1) (hne : s.tag.atts = []) (hcl : s.tag.closes = false) (hs : sz s + 6 ≤ lim) :
    Calls Tryz.prog 199 #[.pointer (some ⟨b, 0, none⟩)] w fun e w' => e = .returned (.int .i64 0) ∧ Tk w0 own0 b (endTag s) ex w' := by
  obtain ⟨R, hR⟩ := h.reg
  have d0 : w.cell? ⟨b, 9, none⟩ = some (.int .i64 s.tag.kind) := hR.1.cell _
  have d1 : w.cell? ⟨b, 10, none⟩ = some (.slice R.tname.a s.tag.name.length R.tname.cap) := hR.1.cell _
  have d2 : w.cell? ⟨b, 11, none⟩ = some (.slice R.buffer.a s.tag.buffer.length R.buffer.cap) := hR.1.cell _
  have d3 : w.cell? ⟨b, 12, none⟩ = some (.slice R.atts.a s.tag.atts.length R.atts.cap) := hR.1.cell _
  have d4 : w.cell? ⟨b, 13, none⟩ = some (.map R.names) := hR.1.cell _
  have d5 : w.cell? ⟨b, 14, none⟩ = some (.bool false) := by rw [hR.1.cell, ← hcl]; rfl
  have df := hR.1.frozen
  have hlt := hR.1.lt_b
  have hT := copied_tk hR
  have hcv := conv_row (r := R.tname) (l := s.tag.name) (hT.1.rows.ok (bItem R.tname s.tag.name) (List.mem_append_right _ (List.mem_append_left _ (by simp [tagItems]))))
  have h0 := (tk_forgetB (copied_tkB hR)).tk
  have ek : (s.tag.kind == 1) = false := beq_eq_false_iff_ne.2 hk
  have hal : s.tag.atts.length = 0 := by rw [hne]; rfl
  have hfin : endTag s = { tell (tagS s) { kind := 2, name := s.tag.name } with base := 0, state := 0 } := by simp [endTag, hne, hcl]
  rw [hfin]
  have HS : Hid (sz (tagS s) + 6 ≤ lim) := hide (by have := sz_tagS s; omega)
  have HC := hide hcl
  simp only [copied, zeroTag, tagCells, hcl, hal] at hcv h0
  rw [hal] at d3
  clear hfin h hs hT hR hk hcl hne hal
  go_enter Tryz.func199, Tryz.ntmps199
  go_wp2_with fail
  refine (tell_bareB { kind := 2, name := s.tag.name } rfl h0 (by have := unhide HS; first | omega | (simp only [sz_wrong]; omega))).mono ?_
  rintro e w8 ⟨rfl, h8⟩
  go_wp2_with fail
  refine (leadTo_does 0 h8).mono ?_
  rintro e w9 ⟨rfl, h9⟩
  go_wp2
  go_ret
  exact ⟨rfl, tk_forget1 h9⟩

set_option maxHeartbeats 2000000 in
set_option maxRecDepth 1000000 in
theorem endTag_nc (h : Tk w0 own0 b s ex w) (hk : s.tag.kind ≠ 1) (hne : s.tag.atts = []) (hcl : s.tag.closes = true) (hs : sz s + 6 ≤ lim) :
    Calls Tryz.prog 199 #[.pointer (some ⟨b, 0, none⟩)] w fun e w' => e = .returned (.int .i64 0) ∧ Tk w0 own0 b (endTag s) ex w' := by
  obtain ⟨R, hR⟩ := h.reg
  have d0 : w.cell? ⟨b, 9, none⟩ = some (.int .i64 s.tag.kind) := hR.1.cell _
  have d1 : w.cell? ⟨b, 10, none⟩ = some (.slice R.tname.a s.tag.name.length R.tname.cap) := hR.1.cell _
  have d2 : w.cell? ⟨b, 11, none⟩ = some (.slice R.buffer.a s.tag.buffer.length R.buffer.cap) := hR.1.cell _
  have d3 : w.cell? ⟨b, 12, none⟩ = some (.slice R.atts.a s.tag.atts.length R.atts.cap) := hR.1.cell _
  have d4 : w.cell? ⟨b, 13, none⟩ = some (.map R.names) := hR.1.cell _
  have d5 : w.cell? ⟨b, 14, none⟩ = some (.bool true) := by rw [hR.1.cell, ← hcl]; rfl
  have df := hR.1.frozen
  have hlt := hR.1.lt_b
  have hT := copied_tk hR
  have hcv := conv_row (r := R.tname) (l := s.tag.name) (hT.1.rows.ok (bItem R.tname s.tag.name) (List.mem_append_right _ (List.mem_append_left _ (by simp [tagItems]))))
  have h0 := (tk_forgetB (copied_tkB hR)).tk
  have ek : (s.tag.kind == 1) = false := beq_eq_false_iff_ne.2 hk
  have hal : s.tag.atts.length = 0 := by rw [hne]; rfl
  have hfin : endTag s = { tell (wrong (tagS s) [101, 110, 100, 45, 115, 108, 97, 115, 104]) { kind := 2, name := s.tag.name } with base := 0, state := 0 } := by simp [endTag, hne, hcl]
  rw [hfin]
  have HS : Hid (sz (tagS s) + 6 ≤ lim) := hide (by have := sz_tagS s; omega)
  have HC := hide hcl
  simp only [copied, zeroTag, tagCells, hcl, hal] at hcv h0
  rw [hal] at d3
  clear hfin h hs hT hR hk hcl hne hal
  go_enter Tryz.func199, Tryz.ntmps199
  go_wp2_with fail
  refine (wrong_sz [101, 110, 100, 45, 115, 108, 97, 115, 104] h0 (by have := unhide HS; first | omega | (simp only [sz_wrong]; omega))).mono ?_
  rintro e w1 ⟨rfl, h1⟩
  go_wp2_with fail
  refine (tell_bareB { kind := 2, name := s.tag.name } rfl h1 (by have := unhide HS; first | omega | (simp only [sz_wrong]; omega))).mono ?_
  rintro e w8 ⟨rfl, h8⟩
  go_wp2_with fail
  refine (leadTo_does 0 h8).mono ?_
  rintro e w9 ⟨rfl, h9⟩
  go_wp2
  go_ret
  exact ⟨rfl, tk_forget1 h9⟩

set_option maxHeartbeats 2000000 in
set_option maxRecDepth 1000000 in
theorem endTag_an (h : Tk w0 own0 b s ex w) (hk : s.tag.kind ≠ 1) (hne : s.tag.atts ≠ []) (hcl : s.tag.closes = false) (hs : sz s + 6 ≤ lim) :
    Calls Tryz.prog 199 #[.pointer (some ⟨b, 0, none⟩)] w fun e w' => e = .returned (.int .i64 0) ∧ Tk w0 own0 b (endTag s) ex w' := by
  obtain ⟨R, hR⟩ := h.reg
  have d0 : w.cell? ⟨b, 9, none⟩ = some (.int .i64 s.tag.kind) := hR.1.cell _
  have d1 : w.cell? ⟨b, 10, none⟩ = some (.slice R.tname.a s.tag.name.length R.tname.cap) := hR.1.cell _
  have d2 : w.cell? ⟨b, 11, none⟩ = some (.slice R.buffer.a s.tag.buffer.length R.buffer.cap) := hR.1.cell _
  have d3 : w.cell? ⟨b, 12, none⟩ = some (.slice R.atts.a s.tag.atts.length R.atts.cap) := hR.1.cell _
  have d4 : w.cell? ⟨b, 13, none⟩ = some (.map R.names) := hR.1.cell _
  have d5 : w.cell? ⟨b, 14, none⟩ = some (.bool false) := by rw [hR.1.cell, ← hcl]; rfl
  have df := hR.1.frozen
  have hlt := hR.1.lt_b
  have hT := copied_tk hR
  have hcv := conv_row (r := R.tname) (l := s.tag.name) (hT.1.rows.ok (bItem R.tname s.tag.name) (List.mem_append_right _ (List.mem_append_left _ (by simp [tagItems]))))
  have h0 := (tk_forgetB (copied_tkB hR)).tk
  have ek : (s.tag.kind == 1) = false := beq_eq_false_iff_ne.2 hk
  have hal : 0 < s.tag.atts.length := List.length_pos_iff.2 hne
  have hfin : endTag s = { tell (wrong (tagS s) [101, 110, 100, 45, 97, 116, 116, 114, 105, 98, 117, 116, 101, 115]) { kind := 2, name := s.tag.name } with base := 0, state := 0 } := by simp [endTag, hne, hcl]
  rw [hfin]
  have HS : Hid (sz (tagS s) + 6 ≤ lim) := hide (by have := sz_tagS s; omega)
  have HC := hide hcl
  simp only [copied, zeroTag, tagCells, hcl] at hcv h0
  skip
  clear hfin h hs hT hR hk hcl hne
  go_enter Tryz.func199, Tryz.ntmps199
  go_wp2_with fail
  refine (wrong_sz [101, 110, 100, 45, 97, 116, 116, 114, 105, 98, 117, 116, 101, 115] h0 (by have := unhide HS; omega)).mono ?_
  rintro e w1 ⟨rfl, h1⟩
  have b5_1 : w1.cell? ⟨w.heap.size, 5, none⟩ = some (.bool false) := by
    obtain ⟨R', hR'⟩ := Tk.reg h1
    exact box_cell hR'.1 5 _ (by simp [tagCells, unhide HC])
  go_wp2_with fail
  refine (tell_bareB { kind := 2, name := s.tag.name } rfl h1 (by have := unhide HS; first | omega | (simp only [sz_wrong]; omega))).mono ?_
  rintro e w8 ⟨rfl, h8⟩
  go_wp2_with fail
  refine (leadTo_does 0 h8).mono ?_
  rintro e w9 ⟨rfl, h9⟩
  go_wp2
  go_ret
  exact ⟨rfl, tk_forget1 h9⟩

set_option maxHeartbeats 2000000 in
set_option maxRecDepth 1000000 in
theorem endTag_ac (h : Tk w0 own0 b s ex w) (hk : s.tag.kind ≠ 1) (hne : s.tag.atts ≠ []) (hcl : s.tag.closes = true) (hs : sz s + 6 ≤ lim) :
    Calls Tryz.prog 199 #[.pointer (some ⟨b, 0, none⟩)] w fun e w' => e = .returned (.int .i64 0) ∧ Tk w0 own0 b (endTag s) ex w' := by
  obtain ⟨R, hR⟩ := h.reg
  have d0 : w.cell? ⟨b, 9, none⟩ = some (.int .i64 s.tag.kind) := hR.1.cell _
  have d1 : w.cell? ⟨b, 10, none⟩ = some (.slice R.tname.a s.tag.name.length R.tname.cap) := hR.1.cell _
  have d2 : w.cell? ⟨b, 11, none⟩ = some (.slice R.buffer.a s.tag.buffer.length R.buffer.cap) := hR.1.cell _
  have d3 : w.cell? ⟨b, 12, none⟩ = some (.slice R.atts.a s.tag.atts.length R.atts.cap) := hR.1.cell _
  have d4 : w.cell? ⟨b, 13, none⟩ = some (.map R.names) := hR.1.cell _
  have d5 : w.cell? ⟨b, 14, none⟩ = some (.bool true) := by rw [hR.1.cell, ← hcl]; rfl
  have df := hR.1.frozen
  have hlt := hR.1.lt_b
  have hT := copied_tk hR
  have hcv := conv_row (r := R.tname) (l := s.tag.name) (hT.1.rows.ok (bItem R.tname s.tag.name) (List.mem_append_right _ (List.mem_append_left _ (by simp [tagItems]))))
  have h0 := (tk_forgetB (copied_tkB hR)).tk
  have ek : (s.tag.kind == 1) = false := beq_eq_false_iff_ne.2 hk
  have hal : 0 < s.tag.atts.length := List.length_pos_iff.2 hne
  have hfin : endTag s = { tell (wrong (wrong (tagS s) [101, 110, 100, 45, 97, 116, 116, 114, 105, 98, 117, 116, 101, 115]) [101, 110, 100, 45, 115, 108, 97, 115, 104]) { kind := 2, name := s.tag.name } with base := 0, state := 0 } := by simp [endTag, hne, hcl]
  rw [hfin]
  have HS : Hid (sz (tagS s) + 6 ≤ lim) := hide (by have := sz_tagS s; omega)
  have HC := hide hcl
  simp only [copied, zeroTag, tagCells, hcl] at hcv h0
  skip
  clear hfin h hs hT hR hk hcl hne
  go_enter Tryz.func199, Tryz.ntmps199
  go_wp2_with fail
  refine (wrong_sz [101, 110, 100, 45, 97, 116, 116, 114, 105, 98, 117, 116, 101, 115] h0 (by have := unhide HS; omega)).mono ?_
  rintro e w1 ⟨rfl, h1⟩
  have b5_1 : w1.cell? ⟨w.heap.size, 5, none⟩ = some (.bool true) := by
    obtain ⟨R', hR'⟩ := Tk.reg h1
    exact box_cell hR'.1 5 _ (by simp [tagCells, unhide HC])
  go_wp2_with fail
  refine (wrong_sz [101, 110, 100, 45, 115, 108, 97, 115, 104] h1 (by have := unhide HS; first | omega | (simp only [sz_wrong]; omega))).mono ?_
  rintro e w2 ⟨rfl, h2⟩
  go_wp2_with fail
  refine (tell_bareB { kind := 2, name := s.tag.name } rfl h2 (by have := unhide HS; first | omega | (simp only [sz_wrong]; omega))).mono ?_
  rintro e w8 ⟨rfl, h8⟩
  go_wp2_with fail
  refine (leadTo_does 0 h8).mono ?_
  rintro e w9 ⟨rfl, h9⟩
  go_wp2
  go_ret
  exact ⟨rfl, tk_forget1 h9⟩

theorem tellTag_does (h : Tk w0 own0 b s ex w) (hs : sz s + 6 ≤ lim) :
    Calls Tryz.prog 199 #[.pointer (some ⟨b, 0, none⟩)] w fun e w' => e = .returned (.int .i64 0) ∧ Tk w0 own0 b (tellTag s) ex w' := by
  by_cases hk : s.tag.kind = 1
  · rw [tellTag, if_pos hk]
    by_cases hne : s.tag.atts = []
    · exact startTag_none h hk hne (by omega)
    · exact startTag_some h hk hne (by omega)
  · rw [tellTag, if_neg hk]
    by_cases hne : s.tag.atts = []
    · by_cases hcl : s.tag.closes = true
      · exact endTag_nc h hk hne hcl hs
      · exact endTag_nn h hk hne (by simpa using hcl) hs
    · by_cases hcl : s.tag.closes = true
      · exact endTag_ac h hk hne hcl hs
      · exact endTag_an h hk hne (by simpa using hcl) hs
end
end Go.Proofs.YtdfmapcnfficlaaGreatDoor

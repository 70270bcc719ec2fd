/-
  A start tag with attributes is told.
-/
import Derived.Test.YtdfmapcnfficlaaGreatDoorTags2
set_option linter.unusedSimpArgs false
set_option linter.unusedVariables false
namespace Go.Proofs.YtdfmapcnfficlaaGreatDoor
open Go Go.RowKit
section
variable {w0 : World} {own0 : Nat → Prop} {b : Nat} {s : TS} {ex : List Item} {w : World} {R : Regs}
set_option maxHeartbeats 2000000 in
set_option maxRecDepth 1000000 in
theorem startTag_some (h : Tk w0 own0 b s ex w) (hk : s.tag.kind = 1) (hne : s.tag.atts ≠ []) (hs : sz s + 4 ≤ lim) :
    Calls Tryz.prog 199 #[.pointer (some ⟨b, 0, none⟩)] w fun e w' => e = .returned (.int .i64 0) ∧ Tk w0 own0 b (startTag s) ex w' := by
  obtain ⟨R, hR⟩ := h.reg
  obtain ⟨g, hg, hcap, _⟩ := atts_addr hR.1 hne
  have d0 : w.cell? ⟨b, 9, none⟩ = some (.int .i64 1) := by rw [hR.1.cell, ← hk]; rfl
  have d1 : w.cell? ⟨b, 10, none⟩ = some (.slice R.tname.a s.tag.name.length R.tname.cap) := hR.1.cell _
  have d2 : w.cell? ⟨b, 11, none⟩ = some (.slice R.buffer.a s.tag.buffer.length R.buffer.cap) := hR.1.cell _
  have d3 : w.cell? ⟨b, 12, none⟩ = some (.slice (some ⟨g, 0, none⟩) s.tag.atts.length R.atts.cap) := by rw [← hg]; exact hR.1.cell _
  have d4 : w.cell? ⟨b, 13, none⟩ = some (.map R.names) := hR.1.cell _
  have d5 : w.cell? ⟨b, 14, none⟩ = some (.bool s.tag.closes) := hR.1.cell _
  have df := hR.1.frozen
  have hlt := hR.1.lt_b
  have hT := copied_tk hR
  have hcv := conv_row (r := R.tname) (l := s.tag.name) (hT.1.rows.ok (bItem R.tname s.tag.name) (List.mem_append_right _ (List.mem_append_left _ (by simp [tagItems]))))
  have hAt : AttsAt (copied w b s R) g s.tag.atts R.anames R.avalues := attsAt_of (hT.1.rows.ok (attItem s R) (List.mem_append_right _ (List.mem_append_left _ (by simp [tagItems])))) (fun it hi => hT.1.rows.ok it (List.mem_append_right _ (List.mem_append_left _ (by simp [tagItems, hi])))) hR.1.la hR.1.lv hg
  have hX := tkR_drew (tk_forget hT)
  have HZ : Hid ((tagS s).told.length + 1 ≤ lim) := hide (by unfold sz at hs; simp [tagS]; omega)
  have hB : (copied w b s R).drew.cell? ⟨w.heap.size, 5, none⟩ = some (.bool s.tag.closes) := by rw [drew_cell, copied_box]; simp [tagCells]
  have hSz : w.heap.size < (copied w b s R).drew.heap.size := by show _ < (copied w b s R).heap.size; rw [copied_size]; omega
  have HN : Hid (Calls Tryz.prog 238 #[.pointer (some ⟨w.heap.size, 0, none⟩)] (copied w b s R).drew fun e w' => ∃ x : Sl, e = .returned (.slice x.a (attrsOf s.tag.atts).length x.cap) ∧ Tk w0 own0 b (tagS s) (aItem x (attrsOf s.tag.atts) :: ex) w' ∧ w'.cell? ⟨w.heap.size, 5, none⟩ = some (.bool s.tag.closes)) := by
    refine hide ((attrs_does (copied w b s R).drew w.heap.size g R.atts.cap s.tag.atts R.anames R.avalues (by rw [drew_cell, copied_box]; simp [tagCells, hg]) (hAt.more (More.refl _).drew) hSz (by unfold sz at hs; omega) hcap).mono ?_)
    rintro e w' ⟨x, rfl, hm, hok, hfr⟩
    exact ⟨x, rfl, (tkR_addRow hX hm hok hfr).tk, by rw [World.cell?_of_block (w := (copied w b s R).drew) (hm.block _ hSz)]; exact hB⟩
  unfold startTag
  generalize hat : attrsOf s.tag.atts = ats at HN ⊢
  simp only [copied, zeroTag, tagCells, hk, hg] at hcv HN
  clear h hs hT hR hk hne hat hAt hg hcap hX hB hSz
  go_enter Tryz.func199, Tryz.ntmps199
  go_wp2_with fail
  go_region_with (first
    | (go_at_call 238; refine (unhide HN).mono ?_; rintro e w1 ⟨x, rfl, hx, b5⟩; have HTe := hide (tell_does (ex := ex) { kind := 1, name := s.tag.name, attrs := ats, flag := s.tag.closes } x hx (unhide HZ)); clear hx; simp only [tokCells] at HTe)
    | (go_at_call 37; refine (unhide HTe).mono ?_; rintro e w2 ⟨rfl, h2⟩))
  all_goals
    obtain ⟨R2, hR2⟩ := h2.reg
    have e1 := hR2.1.cell 15
    have ef := hR2.1.frozen
    simp only [cellsOf] at e1
    have h3 : Tk w0 own0 b { tell (tagS s) { kind := 1, name := s.tag.name, attrs := ats, flag := s.tag.closes } with lastStart := s.tag.name } ex (w2.setCell ⟨b, 15, none⟩ (.string ⟨s.tag.name.toArray⟩)) := ⟨⟨R2, hR2.1.setCell 15 _ rfl rfl rfl rfl rfl⟩, hR2.2.setCell 15 _ hR2.1.ownB⟩
    go_wp2_with fail
    refine (stateBehind_does s.tag.name _).mono ?_
    rintro e w3 ⟨rfl, rfl⟩
    go_wp2_with fail
    refine (leadTo_does (stateBehindC s.tag.name) h3).mono ?_
    rintro e w4 ⟨rfl, h4⟩
    go_wp2
    go_ret
    exact ⟨rfl, h4⟩
end
end Go.Proofs.YtdfmapcnfficlaaGreatDoor

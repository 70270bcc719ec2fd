/-
  The last attribute's value; the end of its name.
-/
import Derived.Test.YtdfmapcnfficlaaGreatDoorNames2
set_option linter.unusedSimpArgs false
set_option linter.unusedVariables false
namespace Go.Proofs.YtdfmapcnfficlaaGreatDoor
open Go Go.RowKit
section
variable {w0 : World} {own0 : Nat → Prop} {b : Nat} {s : TS} {ex : List Item} {w : World} {R : Regs} {pre : List Att} {a : Att} {pa pv : List Sl} {ra rv : Sl} {g : Nat}

theorem tk_drewR (h : TkR w0 own0 b s R ex w) : Tk w0 own0 b s ex w.drew := (tkR_drew h).tk

set_option maxHeartbeats 800000 in
set_option maxRecDepth 1000000 in
theorem addToValue_does (c : Int) (hc : Rn c) (hne : s.tag.atts ≠ []) (h : Tk w0 own0 b s ex w) (hs : sz s + 8 ≤ lim) :
    Calls Tryz.prog 201 #[.pointer (some ⟨b, 0, none⟩), .int .i32 c] w fun e w' => e = .returned (.tuple #[]) ∧ Tk w0 own0 b (addToValue s c) ex w' := by
  obtain ⟨R, hR⟩ := h.reg
  obtain ⟨pre, a, pa, pv, ra, rv, g, L⟩ := lastAt_of hR.1 hne
  have hz := L.szle
  have HL := hide (lastAttribute_does hR g pre.length L.addr L.len (by omega))
  have c1 : w.cell? ⟨g, pre.length * 3 + 1, none⟩ = some (.slice rv.a a.value.length rv.cap) := L.cell hR.1 1 _ rfl
  have c2 : w.cell? ⟨g, pre.length * 3 + 2, none⟩ = some (.bool a.twice) := L.cell hR.1 2 _ rfl
  have HR := hide (tkR_drew hR)
  have HLst := hide L
  by_cases ht : a.twice = true
  · have hfin : addToValue s c = s := by
      have : addToValue s c = setLast s pre a := by simp [addToValue, setLast, L.atts, updLast_snoc, ht]
      rw [this, setLast, ← L.atts]
    rw [hfin]
    clear hs hz hfin h hne hR L
    go_enter Tryz.func201, Tryz.ntmps201
    go_wp2_with fail
    refine (unhide HL).mono ?_
    rintro e w1 ⟨rfl, rfl⟩
    go_wp2
    go_end0
    exact ⟨rfl, (unhide HR).tk⟩
  · have ht' : a.twice = false := by simpa using ht
    have hrow : (bItem rv a.value).ok w.drew := hR.1.rows.ok (bItem rv a.value) (by simp [itemsOf, L.atts, L.names, L.values, attItems_snoc _ _ _ _ _ _ L.la L.lv])
    have HA := hide (appendRune_does rv a.value c (by have := hc.1; omega) (by have := hc.2; omega) w.drew hrow (by unfold lim at hs; omega))
    have hfin : addToValue s c = setLast s pre { a with value := a.value ++ Lib.encodeRune c } := by simp [addToValue, setLast, L.atts, updLast_snoc, ht']
    rw [hfin]
    clear hs hz hfin h hne hR L ht
    go_enter Tryz.func201, Tryz.ntmps201
    go_wp2_with fail
    refine (unhide HL).mono ?_
    rintro e w1 ⟨rfl, rfl⟩
    go_wp2_with fail
    refine (unhide HA).mono ?_
    rintro e w2 ⟨r', o, rfl, hok, hg, hf⟩
    obtain ⟨hgg, hT⟩ := (unhide HLst).value_grow (unhide HR).1 (unhide HR).2 ((More.refl _).alloc o) _ r' hok hg hf
    obtain ⟨cur, hcur⟩ := (unhide HLst).block (unhide HR).1
    have d0 : w2.cell? ⟨g, pre.length * 3 + 1, none⟩ = some (.slice rv.a a.value.length rv.cap) := by rw [World.cell?_of_block (w := w.drew) hgg]; exact c1
    have df := frozen_of_self (hgg.trans hcur)
    simp only [List.length_append] at hT
    clear hgg hcur
    go_wp2
    go_end0
    exact ⟨rfl, hT⟩

def twiceS : Str := [116, 119, 105, 99, 101]
def lastName (s : TS) : Str := (s.tag.atts.getLast?.map (·.name)).getD []
def endName (s : TS) : TS :=
  if (s.tag.names.getD []).contains (lastName s) = true then { wrong s twiceS with tag := { s.tag with atts := updLast (fun a => { a with twice := true }) s.tag.atts } }
  else (nameIsNew s (lastName s)).2

theorem LastAt.lastName (L : LastAt R s pre a pa pv ra rv g) : lastName s = a.name := by simp [Proofs.YtdfmapcnfficlaaGreatDoor.lastName, L.atts]

/-- The last attribute is marked. -/
theorem LastAt.twice (L : LastAt R s pre a pa pv ra rv g) (h : TkR w0 own0 b s R ex w) : Tk w0 own0 b (setLast s pre { a with twice := true }) ex (w.setCell ⟨g, pre.length * 3 + 2, none⟩ (.bool true)) := by
  refine ⟨⟨{ R with anames := pa ++ [ra], avalues := pv ++ [rv] }, ?_⟩, ?_⟩
  · refine L.write h.1 { a with twice := true } ra rv 2 _ (by omega) rfl h.1.self h.1.map ?_
    have := h.1.rows
    simpa [itemsOf, attItem, L.atts, L.names, L.values, attItems_snoc _ _ _ _ _ _ L.la L.lv] using this
  · refine h.2.setCell _ _ ?_
    exact (h.1.rows.own g (List.mem_filterMap.2 ⟨attItem s R, by simp [itemsOf, attItem], by simp [Item.blk, attItem, L.addr]⟩)).1

set_option maxHeartbeats 1000000 in
set_option maxRecDepth 1000000 in
theorem endName_does (hne : s.tag.atts ≠ []) (h : Tk w0 own0 b s ex w) (hs : sz s + 8 ≤ lim) :
    Calls Tryz.prog 198 #[.pointer (some ⟨b, 0, none⟩)] w fun e w' => e = .returned (.tuple #[]) ∧ Tk w0 own0 b (endName s) ex w' := by
  obtain ⟨R, hR⟩ := h.reg
  obtain ⟨pre, a, pa, pv, ra, rv, g, L⟩ := lastAt_of hR.1 hne
  have hz := L.szle
  have HL := hide (lastAttribute_does hR g pre.length L.addr L.len (by omega))
  have c0 : w.cell? ⟨g, pre.length * 3, none⟩ = some (.slice ra.a a.name.length ra.cap) := L.cell hR.1 0 _ rfl
  have hrow : (bItem ra a.name).ok w.drew.drew := hR.1.rows.ok (bItem ra a.name) (by simp [itemsOf, L.atts, L.names, L.values, attItems_snoc _ _ _ _ _ _ L.la L.lv])
  have hcv := conv_row hrow
  have HR := hide (tkR_drew (tkR_drew hR))
  have HLst := hide L
  have hnm : (s.tag.names.getD []).length ≤ lim := by unfold sz at hs; omega
  by_cases hh : (s.tag.names.getD []).contains a.name = true
  · have hfin : endName s = setLast (wrong s twiceS) pre { a with twice := true } := by
      unfold endName
      rw [L.lastName, if_pos hh]
      simp [setLast, L.atts, updLast_snoc, wrong, wrongAt, tellTok]
    obtain ⟨ks, hks⟩ : ∃ ks, s.tag.names = some ks := by
      cases hk : s.tag.names with
      | none => rw [hk] at hh; simp at hh
      | some ks => exact ⟨ks, rfl⟩
    rw [hks] at hh
    have HN := hide (nameIsNew_knownR a.name ks hks hh (unhide HR) (by omega) (by omega))
    have HW : Hid (s.told.length ≤ lim) := hide (by unfold sz at hs; omega)
    rw [hfin]
    clear hs hz hfin h hne hR L hnm hks hh hrow
    go_enter Tryz.func198, Tryz.ntmps198
    go_wp2_with fail
    refine (unhide HL).mono ?_
    rintro e w1 ⟨rfl, rfl⟩
    go_wp2_with fail
    go_region_with (go_at_call 237; refine (unhide HN).mono ?_; rintro e w2 ⟨rfl, h2⟩)
    all_goals
      go_wp2_with fail
      refine (wrong_doesR twiceS h2 (unhide HW)).mono ?_
      rintro e w3 ⟨tl, ta, rfl, h3⟩
      have L' : LastAt { R with told := tl, tattrs := ta } (wrong s twiceS) pre a pa pv ra rv g := ⟨(unhide HLst).atts, (unhide HLst).names, (unhide HLst).values, (unhide HLst).la, (unhide HLst).lv, (unhide HLst).addr⟩
      have d2 : w3.cell? ⟨g, pre.length * 3 + 2, none⟩ = some (.bool a.twice) := L'.cell h3.1 2 _ rfl
      have df := L'.frozen h3.1
      have hT := L'.twice h3
      clear L'
      go_wp2
      go_end0
      exact ⟨rfl, hT⟩
  · have hfin : endName s = (nameIsNew s a.name).2 := by
      unfold endName
      rw [L.lastName, if_neg hh]
    have hb : (nameIsNew s a.name).1 = true := by unfold nameIsNew; rw [if_neg hh]
    have HN := hide (nameIsNew_does a.name (unhide HR).tk hnm (by omega))
    rw [hb] at HN
    rw [hfin]
    clear hs hz hfin h hne hR L hnm hh hrow hb
    go_enter Tryz.func198, Tryz.ntmps198
    go_wp2_with fail
    refine (unhide HL).mono ?_
    rintro e w1 ⟨rfl, rfl⟩
    go_wp2_with fail
    go_region_with (go_at_call 237; refine (unhide HN).mono ?_; rintro e w2 ⟨rfl, h2⟩)
    all_goals
      go_wp2
      go_end0
      exact ⟨rfl, h2⟩
end
end Go.Proofs.YtdfmapcnfficlaaGreatDoor

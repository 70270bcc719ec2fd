/-
  The last attribute's value; the end of its name.
  The list of a tag's attributes.
-/
import Derived.Test.YtdfmapcnfficlaaGreatDoorB11
import Derived.Deep.LoopGhost
set_option linter.unusedSimpArgs false
set_option linter.unusedVariables false
namespace Go.Proofs.YtdfmapcnfficlaaGreatDoor
open Go Go.RowKit
section
variable {w0 : World} {own0 : Nat → Prop} {b : Nat} {s : TS} {ex : List Item} {w : World} {R : Regs} {pre : List Att} {a : Att} {pa pv : List Sl} {ra rv : Sl} {g : Nat}

theorem tk_drewR (h : TkR w0 own0 b s R ex w) : Tk w0 own0 b s ex w.drew := (tkR_drew h).tk

set_option maxHeartbeats 800000 in
set_option maxRecDepth 1000000 in
theorem addToValue_does (c : Int) (hc : Rn c) (hne : s.tag.atts ≠ []) (h : Tk w0 own0 b s ex w) (hs : sz s + 8 ≤ lim) :
    Calls Tryz.prog 201 #[.pointer (some ⟨b, 0, none⟩), .int .i32 c] w fun e w' => e = .returned (.tuple #[]) ∧ Tk w0 own0 b (addToValue s c) ex w' := by
  obtain ⟨R, hR⟩ := h.reg
  obtain ⟨pre, a, pa, pv, ra, rv, g, L⟩ := lastAt_of hR.1 hne
  have hz := L.szle
  have HL := hide (lastAttribute_does hR g pre.length L.addr L.len (by omega))
  have c1 : w.cell? ⟨g, pre.length * 3 + 1, none⟩ = some (.slice rv.a a.value.length rv.cap) := L.cell hR.1 1 _ rfl
  have c2 : w.cell? ⟨g, pre.length * 3 + 2, none⟩ = some (.bool a.twice) := L.cell hR.1 2 _ rfl
  have HR := hide (tkR_drew hR)
  have HLst := hide L
  by_cases ht : a.twice = true
  · have hfin : addToValue s c = s := by
      have : addToValue s c = setLast s pre a := by simp [addToValue, setLast, L.atts, updLast_snoc, ht]
      rw [this, setLast, ← L.atts]
    rw [hfin]
    clear hs hz hfin h hne hR L
    go_enter Tryz.func201, Tryz.ntmps201
    go_wp2_with fail
    refine (unhide HL).mono ?_
    rintro e w1 ⟨rfl, rfl⟩
    go_wp2
    go_end0
    exact ⟨rfl, (unhide HR).tk⟩
  · have ht' : a.twice = false := by simpa using ht
    have hrow : (bItem rv a.value).ok w.drew := hR.1.rows.ok (bItem rv a.value) (by simp [itemsOf, L.atts, L.names, L.values, attItems_snoc _ _ _ _ _ _ L.la L.lv])
    have HA := hide (appendRune_does rv a.value c (by have := hc.1; omega) (by have := hc.2; omega) w.drew hrow (by unfold lim at hs; omega))
    have hfin : addToValue s c = setLast s pre { a with value := a.value ++ Lib.encodeRune c } := by simp [addToValue, setLast, L.atts, updLast_snoc, ht']
    rw [hfin]
    clear hs hz hfin h hne hR L ht
    go_enter Tryz.func201, Tryz.ntmps201
    go_wp2_with fail
    refine (unhide HL).mono ?_
    rintro e w1 ⟨rfl, rfl⟩
    go_wp2_with fail
    refine (unhide HA).mono ?_
    rintro e w2 ⟨r', o, rfl, hok, hg, hf⟩
    obtain ⟨hgg, hT⟩ := (unhide HLst).value_grow (unhide HR).1 (unhide HR).2 ((More.refl _).alloc o) _ r' hok hg hf
    obtain ⟨cur, hcur⟩ := (unhide HLst).block (unhide HR).1
    have d0 : w2.cell? ⟨g, pre.length * 3 + 1, none⟩ = some (.slice rv.a a.value.length rv.cap) := by rw [World.cell?_of_block (w := w.drew) hgg]; exact c1
    have df := frozen_of_self (hgg.trans hcur)
    simp only [List.length_append] at hT
    clear hgg hcur
    go_wp2
    go_end0
    exact ⟨rfl, hT⟩

def twiceS : Str := [116, 119, 105, 99, 101]
def lastName (s : TS) : Str := (s.tag.atts.getLast?.map (·.name)).getD []
def endName (s : TS) : TS :=
  if (s.tag.names.getD []).contains (lastName s) = true then { wrong s twiceS with tag := { s.tag with atts := updLast (fun a => { a with twice := true }) s.tag.atts } }
  else (nameIsNew s (lastName s)).2

theorem LastAt.lastName (L : LastAt R s pre a pa pv ra rv g) : lastName s = a.name := by simp [Proofs.YtdfmapcnfficlaaGreatDoor.lastName, L.atts]

/-- The last attribute is marked. -/
theorem LastAt.twice (L : LastAt R s pre a pa pv ra rv g) (h : TkR w0 own0 b s R ex w) : Tk w0 own0 b (setLast s pre { a with twice := true }) ex (w.setCell ⟨g, pre.length * 3 + 2, none⟩ (.bool true)) := by
  refine ⟨⟨{ R with anames := pa ++ [ra], avalues := pv ++ [rv] }, ?_⟩, ?_⟩
  · refine L.write h.1 { a with twice := true } ra rv 2 _ (by omega) rfl h.1.self h.1.map ?_
    have := h.1.rows
    simpa [itemsOf, attItem, L.atts, L.names, L.values, attItems_snoc _ _ _ _ _ _ L.la L.lv] using this
  · refine h.2.setCell _ _ ?_
    exact (h.1.rows.own g (List.mem_filterMap.2 ⟨attItem s R, by simp [itemsOf, attItem], by simp [Item.blk, attItem, L.addr]⟩)).1

set_option maxHeartbeats 1000000 in
set_option maxRecDepth 1000000 in
theorem endName_does (hne : s.tag.atts ≠ []) (h : Tk w0 own0 b s ex w) (hs : sz s + 8 ≤ lim) :
    Calls Tryz.prog 198 #[.pointer (some ⟨b, 0, none⟩)] w fun e w' => e = .returned (.tuple #[]) ∧ Tk w0 own0 b (endName s) ex w' := by
  obtain ⟨R, hR⟩ := h.reg
  obtain ⟨pre, a, pa, pv, ra, rv, g, L⟩ := lastAt_of hR.1 hne
  have hz := L.szle
  have HL := hide (lastAttribute_does hR g pre.length L.addr L.len (by omega))
  have c0 : w.cell? ⟨g, pre.length * 3, none⟩ = some (.slice ra.a a.name.length ra.cap) := L.cell hR.1 0 _ rfl
  have hrow : (bItem ra a.name).ok w.drew.drew := hR.1.rows.ok (bItem ra a.name) (by simp [itemsOf, L.atts, L.names, L.values, attItems_snoc _ _ _ _ _ _ L.la L.lv])
  have hcv := conv_row hrow
  have HR := hide (tkR_drew (tkR_drew hR))
  have HLst := hide L
  have hnm : (s.tag.names.getD []).length ≤ lim := by unfold sz at hs; omega
  by_cases hh : (s.tag.names.getD []).contains a.name = true
  · have hfin : endName s = setLast (wrong s twiceS) pre { a with twice := true } := by
      unfold endName
      rw [L.lastName, if_pos hh]
      simp [setLast, L.atts, updLast_snoc, wrong, wrongAt, tellTok]
    obtain ⟨ks, hks⟩ : ∃ ks, s.tag.names = some ks := by
      cases hk : s.tag.names with
      | none => rw [hk] at hh; simp at hh
      | some ks => exact ⟨ks, rfl⟩
    rw [hks] at hh
    have HN := hide (nameIsNew_knownR a.name ks hks hh (unhide HR) (by omega) (by omega))
    have HW : Hid (s.told.length ≤ lim) := hide (by unfold sz at hs; omega)
    rw [hfin]
    clear hs hz hfin h hne hR L hnm hks hh hrow
    go_enter Tryz.func198, Tryz.ntmps198
    go_wp2_with fail
    refine (unhide HL).mono ?_
    rintro e w1 ⟨rfl, rfl⟩
    go_wp2_with fail
    go_region_with (go_at_call 237; refine (unhide HN).mono ?_; rintro e w2 ⟨rfl, h2⟩)
    all_goals
      go_wp2_with fail
      refine (wrong_doesR twiceS h2 (unhide HW)).mono ?_
      rintro e w3 ⟨tl, ta, rfl, h3⟩
      have L' : LastAt { R with told := tl, tattrs := ta } (wrong s twiceS) pre a pa pv ra rv g := ⟨(unhide HLst).atts, (unhide HLst).names, (unhide HLst).values, (unhide HLst).la, (unhide HLst).lv, (unhide HLst).addr⟩
      have d2 : w3.cell? ⟨g, pre.length * 3 + 2, none⟩ = some (.bool a.twice) := L'.cell h3.1 2 _ rfl
      have df := L'.frozen h3.1
      have hT := L'.twice h3
      clear L'
      go_wp2
      go_end0
      exact ⟨rfl, hT⟩
  · have hfin : endName s = (nameIsNew s a.name).2 := by
      unfold endName
      rw [L.lastName, if_neg hh]
    have hb : (nameIsNew s a.name).1 = true := by unfold nameIsNew; rw [if_neg hh]
    have HN := hide (nameIsNew_does a.name (unhide HR).tk hnm (by omega))
    rw [hb] at HN
    rw [hfin]
    clear hs hz hfin h hne hR L hnm hh hrow hb
    go_enter Tryz.func198, Tryz.ntmps198
    go_wp2_with fail
    refine (unhide HL).mono ?_
    rintro e w1 ⟨rfl, rfl⟩
    go_wp2_with fail
    go_region_with (go_at_call 237; refine (unhide HN).mono ?_; rintro e w2 ⟨rfl, h2⟩)
    all_goals
      go_wp2
      go_end0
      exact ⟨rfl, h2⟩
end
end Go.Proofs.YtdfmapcnfficlaaGreatDoor

set_option linter.unusedSimpArgs false
set_option linter.unusedVariables false
namespace Go.Proofs.YtdfmapcnfficlaaGreatDoor
open Go Go.RowKit

theorem Tryz.infoStr : (Tryz.prog.info? 9).map (fun i => (i.zero, i.size, i.bytes)) = some (some (.string ⟨#[]⟩), 1, 16) := by kernel_rfl

def attrsOf : List Att → List Str
  | [] => []
  | a :: r => (if a.twice then [] else [a.name, a.value]) ++ attrsOf r
theorem attrsOf_snoc (a : Att) : ∀ l : List Att, attrsOf (l ++ [a]) = attrsOf l ++ (if a.twice then [] else [a.name, a.value])
  | [] => by simp [attrsOf]
  | x :: r => by simp [attrsOf, attrsOf_snoc a r]
theorem attrsOf_le : ∀ l : List Att, (attrsOf l).length ≤ 2 * l.length
  | [] => by simp [attrsOf]
  | x :: r => by
    have := attrsOf_le r
    unfold attrsOf
    split <;> simp <;> omega

/-- The rows of a list of attributes, by their numbers. -/
structure AttsAt (w : World) (g : Nat) (l : List Att) (ns vs : List Sl) : Prop where
  cells : ∀ k a, l[k]? = some a → ∃ r v, ns[k]? = some r ∧ vs[k]? = some v ∧ w.cell? ⟨g, k * 3, none⟩ = some (.slice r.a a.name.length r.cap) ∧ w.cell? ⟨g, k * 3 + 1, none⟩ = some (.slice v.a a.value.length v.cap) ∧ w.cell? ⟨g, k * 3 + 2, none⟩ = some (.bool a.twice) ∧ (bItem r a.name).ok w ∧ (bItem v a.value).ok w
  lt : g < w.heap.size

theorem AttsAt.more {w w' : World} {g : Nat} {l : List Att} {ns vs : List Sl} (h : AttsAt w g l ns vs) (hm : More w w') : AttsAt w' g l ns vs := by
  refine ⟨fun k a hk => ?_, by have := h.lt; have := hm.size; omega⟩
  obtain ⟨r, v, h1, h2, h3, h4, h5, h6, h7⟩ := h.cells k a hk
  have hg := hm.block g h.lt
  refine ⟨r, v, h1, h2, ?_, ?_, ?_, Item.ok_kept h6 fun k hk => hm.block k (Item.lt h6 k hk), Item.ok_kept h7 fun k hk => hm.block k (Item.lt h7 k hk)⟩
  · rw [World.cell?_of_block (w := w) hg]; exact h3
  · rw [World.cell?_of_block (w := w) hg]; exact h4
  · rw [World.cell?_of_block (w := w) hg]; exact h5

theorem take_snoc_att (l : List Att) (k : Nat) (a : Att) (h : l[k]? = some a) : l.take (k + 1) = l.take k ++ [a] := by
  obtain ⟨hk, rfl⟩ := List.getElem?_eq_some_iff.1 h
  rw [List.take_succ_eq_append_getElem hk]

theorem lim_attrs {n : Nat} (h : n ≤ 2 * lim) : n + 2 ≤ maxLen ∧ (n + 2) * 16 ≤ 140737488355328 := by unfold lim at h; unfold maxLen; omega

theorem More.grown' {w wr w1 w' : World} {row : Option Nat} (h : More w wr) (hg : w1.grownBy w' row) (hr : ∀ k, row = some k → w.heap.size ≤ k) (hs : True) (hm : More wr w1) : More w w' :=
  ⟨(hg.os.trans hm.os).trans h.os, (hg.tape.trans hm.tape).trans h.tape, (hg.output.trans hm.output).trans h.output, by have := h.size; have := hm.size; have := hg.size; omega, fun k hk => by
    rw [hg.block k (by have := h.size; have := hm.size; omega) (fun e => by have := hr k e.symm; omega), hm.block k (by have := h.size; omega), h.block k hk]⟩

set_option maxHeartbeats 2000000 in
set_option maxRecDepth 1000000 in
theorem attrs_does (w : World) (gb : Nat) (g cap : Nat) (l : List Att) (ns vs : List Sl) (hbox : w.cell? ⟨gb, 3, none⟩ = some (.slice (some ⟨g, 0, none⟩) l.length cap)) (hA : AttsAt w g l ns vs) (hgb : gb < w.heap.size) (hl : l.length ≤ lim) (hcap : l.length ≤ cap) :
    Calls Tryz.prog 238 #[.pointer (some ⟨gb, 0, none⟩)] w fun e w' => ∃ x : Sl, e = .returned (.slice x.a (attrsOf l).length x.cap) ∧ More w w' ∧ (aItem x (attrsOf l)).ok w' ∧ (∀ k, x.a.map (·.block) = some k → w.heap.size ≤ k) := by
  have HL := hide hl
  unfold lim at hl
  obtain ⟨i0, hi, hz0, hz1, hz2⟩ := info_parts Tryz.infoStr
  go_enter Tryz.func238, Tryz.ntmps238
  go_wp2
  go_loopw [3, 11] (fun li i wr => ∃ (k : Nat) (x : Sl), k ≤ l.length ∧ i = .int .i64 k ∧ li = .slice x.a (attrsOf (l.take k)).length x.cap ∧ More w wr ∧ (aItem x (attrsOf (l.take k))).ok wr ∧ (∀ k, x.a.map (·.block) = some k → w.heap.size ≤ k)) (fun _ i _ => l.length - (intOf i).toNat)
  case atStart => exact ⟨0, ⟨none, 0⟩, Nat.zero_le _, rfl, rfl, More.refl w, aItem_nil_ok w, by simp⟩
  case round =>
    obtain ⟨k, x, hk, rfl, rfl, hm, hok, hfr⟩ := hrel
    by_cases hlt : k < l.length
    · obtain ⟨a, ha⟩ : ∃ a, l[k]? = some a := ⟨l[k], by simp [hlt]⟩
      obtain ⟨r, v, _, _, d0, d1, d2, hr, hv⟩ := (hA.more hm).cells k a ha
      have HSN := hide (take_snoc_att l k a ha)
      have hglt : g < wr.heap.size := (hA.more hm).lt
      have hle := attrsOf_le (l.take k)
      have hlk : (l.take k).length ≤ k := List.length_take_le _ _
      by_cases ht : a.twice = true
      · go_wp2
        go_roundw
        case rel => exact ⟨k + 1, x, by omega, by go_num, by rw [unhide HSN, attrsOf_snoc, if_pos ht, List.append_nil], hm.alloc _, by rw [unhide HSN, attrsOf_snoc, if_pos ht, List.append_nil]; exact Item.ok_kept hok fun k hk => Below.heap_alloc _ _ _ (Item.lt hok k hk), hfr⟩
        case measure => simp [intOf]; omega
      · have ht' : a.twice = false := by simpa using ht
        have hcv1 := conv_row (r := r) (l := a.name) (w := wr.alloc (.cells #[.slice r.a a.name.length r.cap, .slice v.a a.value.length v.cap, .bool a.twice] 210)) (World.ownsRow.alloc hr _)
        have hcv2 := conv_row (r := v) (l := a.value) (w := wr.alloc (.cells #[.slice r.a a.name.length r.cap, .slice v.a a.value.length v.cap, .bool a.twice] 210)) (World.ownsRow.alloc hv _)
        have HB := hide (lim_attrs (by have := unhide HL; omega : (attrsOf (l.take k)).length ≤ 2 * lim))
        rw [ht'] at hcv1 hcv2
        go_wp2_with (at_builtin; refine wpList_append_mine _ rfl (.tmp 18) (.tmp 25) 23 rfl 9 i0 _ 1 16 Tryz.underlying23 hi hz0 hz1 hz2 rfl (by decide) x.a (attrsOf (l.take k)).length x.cap ((attrsOf (l.take k)).map str) rfl (by exact World.ownsRow.alloc (World.ownsRow.alloc hok _) _) ⟨wr.heap.size + 1, 0, none⟩ 2 2 [str a.name, str a.value] rfl rfl ?c1 ?c2 (by decide) (unhide HB).1 (unhide HB).2 ?next)
        case c1 =>
          intro j u hj
          match j, hj with
          | 0, hj => simp at hj; subst hj; simp [Addr.add, str]
          | 1, hj => simp at hj; subst hj; simp [Addr.add, str]
          | (j + 2), hj => simp at hj
        case c2 => intro u hu; simp at hu; rcases hu with rfl | rfl <;> rfl
        case next =>
          intro a' cap' w' hown hgrow hfresh
          go_wp2
          go_roundw
          case rel =>
            refine ⟨k + 1, ⟨some a', cap'⟩, by omega, by go_num, by rw [unhide HSN, attrsOf_snoc, if_neg ht]; simp, ?_, ?_, ?_⟩
            · exact More.grown' hm hgrow (fun k hk => hfr k hk) trivial (by repeat (first | exact More.refl _ | refine More.alloc ?_ _))
            · rw [unhide HSN, attrsOf_snoc, if_neg ht]
              simpa [Item.ok, aItem] using hown
            · intro q hq
              have hq' : a'.block = q := by simpa using hq
              rcases hfresh with h1 | h1
              · exact hfr q (by rw [← h1, hq'])
              · have := hm.size
                omega
          case measure => simp [intOf]; omega
    · have hk' : k = l.length := by omega
      have HK := hide hk'
      clear hk'
      go_wp2
      go_ret
      have e := unhide HK
      subst e
      rw [List.take_length] at hok ⊢
      exact ⟨x, rfl, hm, hok, hfr⟩
end Go.Proofs.YtdfmapcnfficlaaGreatDoor

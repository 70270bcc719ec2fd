/-
  The names of a tag's attributes.
  The names of a tag's attributes: the walk.
-/
import Derived.Test.YtdfmapcnfficlaaGreatDoorB10
import Derived.StringKeys
set_option linter.unusedSimpArgs false
set_option linter.unusedVariables false
namespace Go.Proofs.YtdfmapcnfficlaaGreatDoor
open Go Go.RowKit

theorem sameKey_str (a b : Str) : (Lit.string a).sameKey (Lit.string b) = (a == b) := by
  simp [Lit.sameKey]

theorem has_names (ks : List Str) (n : Str) : Maps.has (Maps.setOf (DataW.agg (H := Unit) []) (ks.map Lit.string)) (Lit.string n) = ks.contains n := by
  rw [Maps.has_setOf _ _ _ (by intro x hx; obtain ⟨y, _, rfl⟩ := List.mem_map.1 hx; trivial)]
  induction ks with
  | nil => rfl
  | cons k r ih =>
    simp only [List.map_cons, List.any_cons, sameKey_str, List.contains_cons, ih, BEq.comm (a := k) (b := n)]

section
variable {w0 : World} {own0 : Nat → Prop} {b : Nat} {s : TS} {ex : List Item} {w : World} {R : Regs}

def nameIsNew (s : TS) (n : Str) : Bool × TS :=
  if (s.tag.names.getD []).contains n = true then (false, s) else (true, { s with tag := { s.tag with names := some (s.tag.names.getD [] ++ [n]) } })

theorem RepAt.newName {own : Nat → Prop} (h : RepAt w own b s R ex) {w' : World} {g : Nat} (ks : List Str) (hg : R.names = some g) (hown : w'.ownsMap Tryz.prog 9 (unitElem (H := Unit)) g ks.length (Maps.setOf (.agg []) (ks.map Lit.string)))
    (hgr : w.grownBy w' (some g)) : RepAt w' own b { s with tag := { s.tag with names := some ks } } R ex := by
  have hgb := h.mapB g hg
  refine ⟨?_, h.ownB, ?_, ?_, h.mapB, h.la, h.lv, h.lt⟩
  · rw [hgr.block b h.lt_b (by simp; exact Ne.symm hgb.2)]; exact h.self
  · exact h.rows.kept fun k hk hh => hgr.block k hk (by rw [← hg]; exact hh.2.2)
  · rw [hg]; exact hown

theorem Kept.newName (hk : Kept own0 w0 w) {w' : World} {g : Nat} (hgr : w.grownBy w' (some g)) (hg : own0 g ∨ w0.heap.size ≤ g) : Kept own0 w0 w' :=
  hk.grown (More.refl w) hgr (fun k e => by injection e with e; subst e; exact hg)
end
end Go.Proofs.YtdfmapcnfficlaaGreatDoor

set_option linter.unusedSimpArgs false
set_option linter.unusedVariables false
namespace Go.Proofs.YtdfmapcnfficlaaGreatDoor
open Go Go.RowKit

theorem Tryz.zeroUnit (w : World) : (zeroValue 100).run Tryz.prog w = .ok (.agg #[]) w := by kernel_rfl

theorem eq_map_some (w : World) (g : Nat) : (binOp .eql 76 (.map (some g)) (.map none)).run Tryz.prog w = .ok (.bool false) w := by kernel_rfl
theorem eq_map_none (w : World) : (binOp .eql 76 (.map none) (.map none)).run Tryz.prog w = .ok (.bool true) w := by kernel_rfl

theorem make_map (w : World) (g : Nat) (hg : w.heap.size = g) : (Instr.makeMap 76 none).run Tryz.prog w = .ok (.map (some g)) (w.alloc (.map #[] 0)) := by subst hg; rfl

theorem key_str (n : Str) (h : n.length ≤ lim) : keyOf Tryz.prog 9 (.string ⟨n.toArray⟩) = some (.string n) :=
  Go.WideMaps.keyOf_string_mk (P := Tryz.prog) Tryz.underlying9 (s := ⟨n.toArray⟩) (by rw [size_str]; unfold lim at h; unfold maxLen; omega)

theorem tkR_alloc {w0 : World} {own0 : Nat → Prop} {b : Nat} {s : TS} {R : Regs} {ex : List Item} {w : World} (h : TkR w0 own0 b s R ex w) (o : Obj) : TkR w0 own0 b s R ex (w.alloc o) := by
  obtain ⟨hR, hk⟩ := h
  have hm := (More.refl w).alloc o
  refine ⟨⟨?_, hR.ownB, hR.rows.kept fun k hk' _ => hm.block k hk', mapOf_kept hR.map fun g hg => hm.block g (hR.map_lt g hg), hR.mapB, hR.la, hR.lv, hR.lt⟩, ?_⟩
  · rw [hm.block b hR.lt_b]; exact hR.self
  · exact ⟨hk.os, hk.tape, hk.output, by have := hk.size; have := hm.size; omega, fun k hk' hn => by rw [hm.block k (by have := hk.size; omega)]; exact hk.block k hk' hn⟩

section
variable {w0 : World} {own0 : Nat → Prop} {b : Nat} {s : TS} {ex : List Item} {w : World} {R : Regs}

set_option maxHeartbeats 1000000 in
set_option maxRecDepth 1000000 in
theorem nameIsNew_knownR {R : Regs} (n : Str) (ks : List Str) (hks : s.tag.names = some ks) (hh : ks.contains n = true) (h : TkR w0 own0 b s R ex w) (hs : n.length ≤ lim) (hn : n.length ≤ lim) :
    Calls Tryz.prog 237 #[.pointer (some ⟨b, 9, none⟩), .string ⟨n.toArray⟩] w fun e w' => e = .returned (.bool false) ∧ TkR w0 own0 b s R ex w' := by
  obtain ⟨hR, hk⟩ := h
  have hmap := hR.map
  obtain ⟨g, hg⟩ : ∃ g, R.names = some g := by
    cases hr : R.names with
    | none => rw [hr, hks] at hmap; exact hmap.elim
    | some g => exact ⟨g, rfl⟩
  rw [hg, hks] at hmap
  have hmap' : w.ownsMap Tryz.prog 9 (unitElem (H := Unit)) g ks.length (Maps.setOf (.agg []) (ks.map Lit.string)) := hmap
  have c1 : w.cell? ⟨b, 13, none⟩ = some (.map (some g)) := by rw [hR.cell 13]; simp [cellsOf, hg]
  have HK := hide (key_str n hn)
  have hhas := has_names ks n
  rw [hh] at hhas
  clear hs hn hks hmap hg hh
  go_enter Tryz.func237, Tryz.ntmps237
  go_wp2_with (at_lookup; refine wpList_lookup_own_unit _ rfl _ _ 76 rfl 9 100 (Maps.string_keyed Tryz.underlying9) Tryz.underlying76 (Tryz.zeroUnit _) g ks.length _ rfl hmap' _ _ rfl (unhide HK) ?_; rw [hhas])
  go_ret
  exact ⟨rfl, tkR_alloc ⟨hR, hk⟩ _⟩

theorem nameIsNew_known (n : Str) (ks : List Str) (hks : s.tag.names = some ks) (hh : ks.contains n = true) (h : Tk w0 own0 b s ex w) (hs : n.length ≤ lim) (hn : n.length ≤ lim) :
    Calls Tryz.prog 237 #[.pointer (some ⟨b, 9, none⟩), .string ⟨n.toArray⟩] w fun e w' => e = .returned (.bool false) ∧ Tk w0 own0 b s ex w' := by
  obtain ⟨R, hR⟩ := h.reg
  refine (nameIsNew_knownR n ks hks hh hR hs hn).mono ?_
  rintro e w' ⟨rfl, h1⟩
  exact ⟨rfl, h1.tk⟩

set_option maxHeartbeats 1000000 in
set_option maxRecDepth 1000000 in
theorem nameIsNew_new (n : Str) (ks : List Str) (hks : s.tag.names = some ks) (hh : ks.contains n = false) (h : Tk w0 own0 b s ex w) (hl : ks.length ≤ lim) (hn : n.length ≤ lim) :
    Calls Tryz.prog 237 #[.pointer (some ⟨b, 9, none⟩), .string ⟨n.toArray⟩] w fun e w' => e = .returned (.bool true) ∧ Tk w0 own0 b { s with tag := { s.tag with names := some (ks ++ [n]) } } ex w' := by
  obtain ⟨R, hR, hk⟩ := h.reg
  have hmap := hR.map
  obtain ⟨g, hg⟩ : ∃ g, R.names = some g := by
    cases hr : R.names with
    | none => rw [hr, hks] at hmap; exact hmap.elim
    | some g => exact ⟨g, rfl⟩
  rw [hg, hks] at hmap
  have hmap' : w.ownsMap Tryz.prog 9 (unitElem (H := Unit)) g ks.length (Maps.setOf (.agg []) (ks.map Lit.string)) := hmap
  have c1 : w.cell? ⟨b, 13, none⟩ = some (.map (some g)) := by rw [hR.cell 13]; simp [cellsOf, hg]
  have hlt := hR.lt_b
  have HK := hide (key_str n hn)
  have hhas := has_names ks n
  rw [hh] at hhas
  have HL : Hid (ks.length < maxLen) := hide (by unfold lim at hl; unfold maxLen; omega)
  have HG := hide hg
  have heq := eq_map_some (w.alloc (.cells #[] 100)) g
  clear hn hks hmap hg hh hl
  go_enter Tryz.func237, Tryz.ntmps237
  go_wp2_with (first
    | (at_lookup; refine wpList_lookup_own_unit _ rfl _ _ 76 rfl 9 100 (Maps.string_keyed Tryz.underlying9) Tryz.underlying76 (Tryz.zeroUnit _) g ks.length _ rfl hmap' _ _ rfl (unhide HK) ?_; rw [hhas])
    | (at_mapUpdate; refine wpList_mapUpdate_own _ rfl _ _ _ 76 rfl 9 100 (Maps.string_keyed Tryz.underlying9) Tryz.underlying76 unitElem g ks.length _ rfl (hmap'.alloc _) (unhide HL) _ _ _ rfl rfl (unhide HK) _ _ unitElem_mk ?_; intro w2 hown hgr))
  go_ret
  have hT := tkR_alloc ⟨hR, hk⟩ (.cells #[] 100)
  rw [← Maps.setOf_snoc, ← List.map_singleton (f := Lit.string), ← List.map_append] at hown
  exact ⟨rfl, TkR.tk ⟨hT.1.newName (ks ++ [n]) (unhide HG) (by simpa using hown) hgr, hT.2.newName hgr (hT.1.mapB g (unhide HG)).1⟩⟩

theorem world_swap (w : World) (o : Obj) (v : Value) {b i : Nat} (hlt : b < w.heap.size) : ((w.alloc o).alloc (.map #[] 0)).setCell ⟨b, i, none⟩ v = ((w.setCell ⟨b, i, none⟩ v).alloc o).alloc (.map #[] 0) := by
  rw [World.setCell_alloc_past _ _ _ (hn := by simp; omega), World.setCell_alloc_past _ _ _ (hn := hlt)]

theorem RepAt.madeMap (h : TkR w0 own0 b s R ex w) (hn : R.names = none) : TkR w0 own0 b { s with tag := { s.tag with names := some [] } } { R with names := some w.heap.size } ex ((w.alloc (.map #[] 0)).setCell ⟨b, 13, none⟩ (.map (some w.heap.size))) := by
  have h1 := tkR_alloc h (.map #[] 0)
  have hlt := h.1.lt_b
  refine ⟨⟨?_, h.1.ownB, ?_, ?_, ?_, h.1.la, h.1.lv, h.1.lt⟩, h1.2.setCell _ _ h.1.ownB⟩
  · rw [set_self h1.1.self]; rfl
  · refine ⟨(h1.1.rows.kept fun k _ hk => set_other _ hk.2.1).ok, h1.1.rows.nodup, fun k hk => ?_⟩
    have := h.1.rows.own k hk
    refine ⟨this.1, this.2.1, fun e => ?_⟩
    injection e with e
    obtain ⟨it, hi, hb⟩ := List.mem_filterMap.1 hk
    have := Item.lt (h.1.rows.ok it hi) k hb
    omega
  · exact World.ownsMap.setCell (World.ownsMap_made w Tryz.prog 9 unitElem) (by show w.heap.size ≠ b; omega) _
  · intro g hg
    injection hg with hg
    subst hg
    exact ⟨.inr h.2.size, by omega⟩

set_option maxHeartbeats 1000000 in
set_option maxRecDepth 1000000 in
theorem nameIsNew_first (n : Str) (hks : s.tag.names = none) (h : Tk w0 own0 b s ex w) (hn : n.length ≤ lim) :
    Calls Tryz.prog 237 #[.pointer (some ⟨b, 9, none⟩), .string ⟨n.toArray⟩] w fun e w' => e = .returned (.bool true) ∧ Tk w0 own0 b { s with tag := { s.tag with names := some [n] } } ex w' := by
  obtain ⟨R, hR⟩ := h.reg
  have hmap := hR.1.map
  have hg : R.names = none := by
    cases hr : R.names with
    | none => rfl
    | some g => rw [hr, hks] at hmap; exact hmap.elim
  have c1 : w.cell? ⟨b, 13, none⟩ = some (.map none) := by rw [hR.1.cell 13]; simp [cellsOf, hg]
  have hf := hR.1.frozen
  have hlt := hR.1.lt_b
  have HK := hide (key_str n hn)
  have hlk := Maps.look_nil (P := Tryz.prog) (w := w) true (Maps.string_keyed Tryz.underlying9) Tryz.underlying76 (Tryz.zeroUnit w) (unhide HK)
  have heq := eq_map_none (w.alloc (.cells #[] 100))
  have HT := hide (RepAt.madeMap (tkR_alloc hR (.cells #[] 100)) hg)
  rw [world_swap w _ _ hlt] at HT
  simp only [World.size_alloc] at HT
  have hmk : (Instr.makeMap 76 none).run Tryz.prog (w.alloc (.cells #[] 100)) = .ok (.map (some (w.heap.size + 1))) ((w.alloc (.cells #[] 100)).alloc (.map #[] 0)) := make_map _ _ (by simp)
  simp only [if_true] at hlk
  clear hn hks hmap hg h hR
  go_enter Tryz.func237, Tryz.ntmps237
  go_wp2_with (at_mapUpdate; refine wpList_mapUpdate_own _ rfl _ _ _ 76 rfl 9 100 (Maps.string_keyed Tryz.underlying9) Tryz.underlying76 unitElem (w.heap.size + 1) 0 (.map []) rfl (by exact (unhide HT).1.map) (by decide) _ _ _ rfl rfl (unhide HK) _ _ unitElem_mk ?_; intro w2 hown hgr)
  go_ret
  have hT := unhide HT
  exact ⟨rfl, TkR.tk ⟨hT.1.newName [n] (by simp) (by exact hown) hgr, hT.2.newName hgr (hT.1.mapB (w.heap.size + 1) rfl).1⟩⟩

theorem nameIsNew_does (n : Str) (h : Tk w0 own0 b s ex w) (hl : (s.tag.names.getD []).length ≤ lim) (hn : n.length ≤ lim) :
    Calls Tryz.prog 237 #[.pointer (some ⟨b, 9, none⟩), .string ⟨n.toArray⟩] w fun e w' => e = .returned (.bool (nameIsNew s n).1) ∧ Tk w0 own0 b (nameIsNew s n).2 ex w' := by
  cases hks : s.tag.names with
  | none =>
    have hfin : nameIsNew s n = (true, { s with tag := { s.tag with names := some [n] } }) := by simp [nameIsNew, hks]
    rw [hfin]
    exact nameIsNew_first n hks h hn
  | some ks =>
    rw [hks] at hl
    by_cases hh : ks.contains n = true
    · have hfin : nameIsNew s n = (false, s) := by simp only [nameIsNew, hks, Option.getD_some]; rw [if_pos hh]
      rw [hfin]
      exact nameIsNew_known n ks hks hh h (by simpa using hn) hn
    · have hfin : nameIsNew s n = (true, { s with tag := { s.tag with names := some (ks ++ [n]) } }) := by simp only [nameIsNew, hks, Option.getD_some]; rw [if_neg hh]
      rw [hfin]
      exact nameIsNew_new n ks hks (by simpa using hh) h (by simpa using hl) hn
end
end Go.Proofs.YtdfmapcnfficlaaGreatDoor

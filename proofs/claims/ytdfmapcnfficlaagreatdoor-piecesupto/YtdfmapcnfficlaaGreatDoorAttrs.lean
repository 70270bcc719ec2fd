/-
  The list of a tag's attributes.
-/
import Derived.Test.YtdfmapcnfficlaaGreatDoorNames3
import Derived.Deep.LoopGhost
set_option linter.unusedSimpArgs false
set_option linter.unusedVariables false
namespace Go.Proofs.YtdfmapcnfficlaaGreatDoor
open Go Go.RowKit

theorem Tryz.infoStr : (Tryz.prog.info? 9).map (fun i => (i.zero, i.size, i.bytes)) = some (some (.string ⟨#[]⟩), 1, 16) := by kernel_rfl

def attrsOf : List Att → List Str
  | [] => []
  | a :: r => (if a.twice then [] else [a.name, a.value]) ++ attrsOf r
theorem attrsOf_snoc (a : Att) : ∀ l : List Att, attrsOf (l ++ [a]) = attrsOf l ++ (if a.twice then [] else [a.name, a.value])
  | [] => by simp [attrsOf]
  | x :: r => by simp [attrsOf, attrsOf_snoc a r]
theorem attrsOf_le : ∀ l : List Att, (attrsOf l).length ≤ 2 * l.length
  | [] => by simp [attrsOf]
  | x :: r => by
    have := attrsOf_le r
    unfold attrsOf
    split <;> simp <;> omega

/-- The rows of a list of attributes, by their numbers. -/
structure AttsAt (w : World) (g : Nat) (l : List Att) (ns vs : List Sl) : Prop where
  cells : ∀ k a, l[k]? = some a → ∃ r v, ns[k]? = some r ∧ vs[k]? = some v ∧ w.cell? ⟨g, k * 3, none⟩ = some (.slice r.a a.name.length r.cap) ∧ w.cell? ⟨g, k * 3 + 1, none⟩ = some (.slice v.a a.value.length v.cap) ∧ w.cell? ⟨g, k * 3 + 2, none⟩ = some (.bool a.twice) ∧ (bItem r a.name).ok w ∧ (bItem v a.value).ok w
  lt : g < w.heap.size

theorem AttsAt.more {w w' : World} {g : Nat} {l : List Att} {ns vs : List Sl} (h : AttsAt w g l ns vs) (hm : More w w') : AttsAt w' g l ns vs := by
  refine ⟨fun k a hk => ?_, by have := h.lt; have := hm.size; omega⟩
  obtain ⟨r, v, h1, h2, h3, h4, h5, h6, h7⟩ := h.cells k a hk
  have hg := hm.block g h.lt
  refine ⟨r, v, h1, h2, ?_, ?_, ?_, Item.ok_kept h6 fun k hk => hm.block k (Item.lt h6 k hk), Item.ok_kept h7 fun k hk => hm.block k (Item.lt h7 k hk)⟩
  · rw [World.cell?_of_block (w := w) hg]; exact h3
  · rw [World.cell?_of_block (w := w) hg]; exact h4
  · rw [World.cell?_of_block (w := w) hg]; exact h5

theorem take_snoc_att (l : List Att) (k : Nat) (a : Att) (h : l[k]? = some a) : l.take (k + 1) = l.take k ++ [a] := by
  obtain ⟨hk, rfl⟩ := List.getElem?_eq_some_iff.1 h
  rw [List.take_succ_eq_append_getElem hk]

theorem lim_attrs {n : Nat} (h : n ≤ 2 * lim) : n + 2 ≤ maxLen ∧ (n + 2) * 16 ≤ 140737488355328 := by unfold lim at h; unfold maxLen; omega

theorem More.grown' {w wr w1 w' : World} {row : Option Nat} (h : More w wr) (hg : w1.grownBy w' row) (hr : ∀ k, row = some k → w.heap.size ≤ k) (hs : True) (hm : More wr w1) : More w w' :=
  ⟨(hg.os.trans hm.os).trans h.os, (hg.tape.trans hm.tape).trans h.tape, (hg.output.trans hm.output).trans h.output, by have := h.size; have := hm.size; have := hg.size; omega, fun k hk => by
    rw [hg.block k (by have := h.size; have := hm.size; omega) (fun e => by have := hr k e.symm; omega), hm.block k (by have := h.size; omega), h.block k hk]⟩

set_option maxHeartbeats 2000000 in
set_option maxRecDepth 1000000 in
theorem attrs_does (w : World) (gb : Nat) (g cap : Nat) (l : List Att) (ns vs : List Sl) (hbox : w.cell? ⟨gb, 3, none⟩ = some (.slice (some ⟨g, 0, none⟩) l.length cap)) (hA : AttsAt w g l ns vs) (hgb : gb < w.heap.size) (hl : l.length ≤ lim) (hcap : l.length ≤ cap) :
    Calls Tryz.prog 238 #[.pointer (some ⟨gb, 0, none⟩)] w fun e w' => ∃ x : Sl, e = .returned (.slice x.a (attrsOf l).length x.cap) ∧ More w w' ∧ (aItem x (attrsOf l)).ok w' ∧ (∀ k, x.a.map (·.block) = some k → w.heap.size ≤ k) := by
  have HL := hide hl
  unfold lim at hl
  obtain ⟨i0, hi, hz0, hz1, hz2⟩ := info_parts Tryz.infoStr
  go_enter Tryz.func238, Tryz.ntmps238
  go_wp2
  go_loopw [3, 11] (fun li i wr => ∃ (k : Nat) (x : Sl), k ≤ l.length ∧ i = .int .i64 k ∧ li = .slice x.a (attrsOf (l.take k)).length x.cap ∧ More w wr ∧ (aItem x (attrsOf (l.take k))).ok wr ∧ (∀ k, x.a.map (·.block) = some k → w.heap.size ≤ k)) (fun _ i _ => l.length - (intOf i).toNat)
  case atStart => exact ⟨0, ⟨none, 0⟩, Nat.zero_le _, rfl, rfl, More.refl w, aItem_nil_ok w, by simp⟩
  case round =>
    obtain ⟨k, x, hk, rfl, rfl, hm, hok, hfr⟩ := hrel
    by_cases hlt : k < l.length
    · obtain ⟨a, ha⟩ : ∃ a, l[k]? = some a := ⟨l[k], by simp [hlt]⟩
      obtain ⟨r, v, _, _, d0, d1, d2, hr, hv⟩ := (hA.more hm).cells k a ha
      have HSN := hide (take_snoc_att l k a ha)
      have hglt : g < wr.heap.size := (hA.more hm).lt
      have hle := attrsOf_le (l.take k)
      have hlk : (l.take k).length ≤ k := List.length_take_le _ _
      by_cases ht : a.twice = true
      · go_wp2
        go_roundw
        case rel => exact ⟨k + 1, x, by omega, by go_num, by rw [unhide HSN, attrsOf_snoc, if_pos ht, List.append_nil], hm.alloc _, by rw [unhide HSN, attrsOf_snoc, if_pos ht, List.append_nil]; exact Item.ok_kept hok fun k hk => Below.heap_alloc _ _ _ (Item.lt hok k hk), hfr⟩
        case measure => simp [intOf]; omega
      · have ht' : a.twice = false := by simpa using ht
        have hcv1 := conv_row (r := r) (l := a.name) (w := wr.alloc (.cells #[.slice r.a a.name.length r.cap, .slice v.a a.value.length v.cap, .bool a.twice] 210)) (World.ownsRow.alloc hr _)
        have hcv2 := conv_row (r := v) (l := a.value) (w := wr.alloc (.cells #[.slice r.a a.name.length r.cap, .slice v.a a.value.length v.cap, .bool a.twice] 210)) (World.ownsRow.alloc hv _)
        have HB := hide (lim_attrs (by have := unhide HL; omega : (attrsOf (l.take k)).length ≤ 2 * lim))
        rw [ht'] at hcv1 hcv2
        go_wp2_with (at_builtin; refine wpList_append_mine _ rfl (.tmp 18) (.tmp 25) 23 rfl 9 i0 _ 1 16 Tryz.underlying23 hi hz0 hz1 hz2 rfl (by decide) x.a (attrsOf (l.take k)).length x.cap ((attrsOf (l.take k)).map str) rfl (by exact World.ownsRow.alloc (World.ownsRow.alloc hok _) _) ⟨wr.heap.size + 1, 0, none⟩ 2 2 [str a.name, str a.value] rfl rfl ?c1 ?c2 (by decide) (unhide HB).1 (unhide HB).2 ?next)
        case c1 =>
          intro j u hj
          match j, hj with
          | 0, hj => simp at hj; subst hj; simp [Addr.add, str]
          | 1, hj => simp at hj; subst hj; simp [Addr.add, str]
          | (j + 2), hj => simp at hj
        case c2 => intro u hu; simp at hu; rcases hu with rfl | rfl <;> rfl
        case next =>
          intro a' cap' w' hown hgrow hfresh
          go_wp2
          go_roundw
          case rel =>
            refine ⟨k + 1, ⟨some a', cap'⟩, by omega, by go_num, by rw [unhide HSN, attrsOf_snoc, if_neg ht]; simp, ?_, ?_, ?_⟩
            · exact More.grown' hm hgrow (fun k hk => hfr k hk) trivial (by repeat (first | exact More.refl _ | refine More.alloc ?_ _))
            · rw [unhide HSN, attrsOf_snoc, if_neg ht]
              simpa [Item.ok, aItem] using hown
            · intro q hq
              have hq' : a'.block = q := by simpa using hq
              rcases hfresh with h1 | h1
              · exact hfr q (by rw [← h1, hq'])
              · have := hm.size
                omega
          case measure => simp [intOf]; omega
    · have hk' : k = l.length := by omega
      have HK := hide hk'
      clear hk'
      go_wp2
      go_ret
      have e := unhide HK
      subst e
      rw [List.take_length] at hok ⊢
      exact ⟨x, rfl, hm, hok, hfr⟩
end Go.Proofs.YtdfmapcnfficlaaGreatDoor

/-
  Lists of tokens in memory; the law's 'same' of two lists that are the same.
-/
import Derived.Test.YtdfmapcnfficlaaGreatDoorB04
import Derived.Deep.LoopGhost
import Derived.Deep.QuietTactic
import Derived.BigQuiet
set_option linter.unusedSimpArgs false
set_option linter.unusedVariables false
namespace Go.Proofs.YtdfmapcnfficlaaGreatDoor
open Go Go.RowKit

/-- The strings l lie where x says. -/
def StrsAt (w : World) (x : Sl) (l : List Str) : Prop := ∀ j y, l[j]? = some y → ∃ g, x.a = some ⟨g, 0, none⟩ ∧ g < w.heap.size ∧ w.cell? ⟨g, j, none⟩ = some (.string ⟨y.toArray⟩)
/-- The tokens l lie in block g. -/
structure ToksAt (w : World) (g : Nat) (l : List Tok) : Prop where
  cells : ∀ k t, l[k]? = some t → ∃ x : Sl, w.cell? ⟨g, k * 6, none⟩ = some (.int .i64 t.kind) ∧ w.cell? ⟨g, k * 6 + 1, none⟩ = some (.string ⟨t.name.toArray⟩) ∧ w.cell? ⟨g, k * 6 + 2, none⟩ = some (.slice x.a t.attrs.length x.cap) ∧ w.cell? ⟨g, k * 6 + 3, none⟩ = some (.string ⟨t.text.toArray⟩) ∧ w.cell? ⟨g, k * 6 + 4, none⟩ = some (.bool t.flag) ∧ w.cell? ⟨g, k * 6 + 5, none⟩ = some (.int .i64 t.place) ∧ StrsAt w x t.attrs
  lt : g < w.heap.size
/-- The slice v of tokens reads as l. -/
def ToksV (w : World) (v : Value) (l : List Tok) : Prop := ∃ a cap, v = .slice a l.length cap ∧ (l ≠ [] → ∃ g, a = some ⟨g, 0, none⟩ ∧ ToksAt w g l) ∧ l.length ≤ cap ∧ ∀ t ∈ l, t.attrs.length ≤ maxLen

theorem StrsAt.more {w w' : World} {x : Sl} {l : List Str} (h : StrsAt w x l) (hm : More w w') : StrsAt w' x l := by
  intro j y hy
  obtain ⟨g, h1, h2, h3⟩ := h j y hy
  exact ⟨g, h1, by have := hm.size; omega, by rw [World.cell?_of_block (w := w) (hm.block g h2)]; exact h3⟩
theorem ToksAt.more {w w' : World} {g : Nat} {l : List Tok} (h : ToksAt w g l) (hm : More w w') : ToksAt w' g l := by
  have hg := hm.block g h.lt
  refine ⟨fun k t hk => ?_, by have := h.lt; have := hm.size; omega⟩
  obtain ⟨x, h1, h2, h3, h4, h5, h6, h7⟩ := h.cells k t hk
  exact ⟨x, by rw [World.cell?_of_block (w := w) hg]; exact h1, by rw [World.cell?_of_block (w := w) hg]; exact h2, by rw [World.cell?_of_block (w := w) hg]; exact h3, by rw [World.cell?_of_block (w := w) hg]; exact h4, by rw [World.cell?_of_block (w := w) hg]; exact h5, by rw [World.cell?_of_block (w := w) hg]; exact h6, h7.more hm⟩
theorem ToksV.more {w w' : World} {v : Value} {l : List Tok} (h : ToksV w v l) (hm : More w w') : ToksV w' v l := by
  obtain ⟨a, cap, rfl, h1, h2⟩ := h
  exact ⟨a, cap, rfl, fun hl => by obtain ⟨g, e, ht⟩ := h1 hl; exact ⟨g, e, ht.more hm⟩, h2⟩

theorem ToksAt.take {w : World} {g : Nat} {l : List Tok} (h : ToksAt w g l) (n : Nat) : ToksAt w g (l.take n) := by
  refine ⟨fun k t hk => h.cells k t ?_, h.lt⟩
  rw [List.getElem?_take] at hk
  split at hk
  · exact hk
  · cases hk

theorem More.trans' {a b c : World} (h : More a b) (k : More b c) : More a c :=
  ⟨k.os.trans h.os, k.tape.trans h.tape, k.output.trans h.output, Nat.le_trans h.size k.size, fun x hx => (k.block x (Nat.lt_of_lt_of_le hx h.size)).trans (h.block x hx)⟩
theorem len_same {n : Nat} : ((n : Int) == (n : Int)) = true := by simp

set_option maxHeartbeats 4000000 in
set_option maxRecDepth 1000000 in
theorem same_true (l : List Tok) (w : World) (v v' : Value) (h : ToksV w v l) (h' : ToksV w v' l) (hl : l.length ≤ lim) :
    Calls Tryz.prog 20 #[v, v'] w fun e w' => e = .returned (.bool true) ∧ More w w' := by
  obtain ⟨a, cap, rfl, h1, hc, ha⟩ := h
  obtain ⟨a', cap', rfl, h1', hc', _⟩ := h'
  have HA := hide ha
  clear ha
  unfold lim at hl
  go_enter Tryz.func20, Tryz.ntmps20
  go_wp2
  go_loopw [5] (fun i wr => ∃ (k : Nat), k ≤ l.length ∧ i = .int .i64 k ∧ More w wr) (fun i _ => l.length - (intOf i).toNat)
  case atStart => exact ⟨0, Nat.zero_le _, rfl, More.refl w⟩
  case round =>
    obtain ⟨k, hk, rfl, hm⟩ := hrel
    generalize wr = wo at *
    by_cases hlt : k < l.length
    · obtain ⟨t, ht⟩ : ∃ t, l[k]? = some t := ⟨l[k], by simp [hlt]⟩
      have hne : l ≠ [] := fun e => by subst e; simp at hlt
      obtain ⟨g, rfl, hT⟩ := h1 hne
      obtain ⟨g', rfl, hT'⟩ := h1' hne
      obtain ⟨x, d0, d1, d2, d3, d4, d5, hS⟩ := (hT.more hm).cells k t ht
      obtain ⟨x', d0', d1', d2', d3', d4', d5', hS'⟩ := (hT'.more hm).cells k t ht
      have hglt : g < wo.heap.size := (hT.more hm).lt
      have hglt' : g' < wo.heap.size := (hT'.more hm).lt
      have hal := unhide HA t (List.mem_of_getElem? ht)
      simp only [maxLen] at hal
      have e1 : (t.kind == t.kind) = true := by simp
      have e2 : (t.place == t.place) = true := by simp
      have e3 : (t.name == t.name) = true := by simp
      have e4 : (t.text == t.text) = true := by simp
      have e5 : (t.flag == t.flag) = true := by simp
      have HS := hide hS
      have HS' := hide hS'
      clear hS hS' h1 h1' hT hT'
      go_wp2
      go_loopw [8] (fun i8 wy => ∃ (j : Nat), j ≤ t.attrs.length ∧ i8 = .int .i64 j ∧ More wo wy ∧ wo.heap.size + 1 < wy.heap.size ∧ wy.cell? ⟨wo.heap.size, 2, none⟩ = some (.slice x.a t.attrs.length x.cap) ∧ wy.cell? ⟨wo.heap.size + 1, 2, none⟩ = some (.slice x'.a t.attrs.length x'.cap)) (fun i _ => t.attrs.length - (intOf i).toNat)
      case atStart => exact ⟨0, Nat.zero_le _, rfl, by repeat (first | exact More.refl _ | refine More.alloc ?_ _), by simp, by simp, by simp⟩
      case round =>
        obtain ⟨j, hj, rfl, hmy, hsy, b1, b2⟩ := hrel
        clear d0 d1 d2 d3 d4 d5 d0' d1' d2' d3' d4' d5' e1 e2 e3 e4 e5
        by_cases hjl : j < t.attrs.length
        · obtain ⟨y, hy⟩ : ∃ y, t.attrs[j]? = some y := ⟨t.attrs[j], by simp [hjl]⟩
          obtain ⟨gx, hxa, hgx, hcx⟩ := ((unhide HS).more hmy) j y hy
          obtain ⟨gx', hxa', hgx', hcx'⟩ := ((unhide HS').more hmy) j y hy
          rw [hxa] at b1
          rw [hxa'] at b2
          have e1 : (y == y) = true := by simp
          clear hy HS HS'
          go_wp2_with fail
          go_quiet (fail)
          go_wp2
          go_roundw
          case rel => exact ⟨j + 1, by omega, by go_num, ⟨hmy.os, hmy.tape, hmy.output, hmy.size, hmy.block⟩, hsy, by rw [hxa]; exact b1, by rw [hxa']; exact b2⟩
          case measure => simp [intOf]; omega
        · clear HS HS'
          go_wp2
          go_roundw
          case rel => exact ⟨k + 1, by omega, by go_num, hm.trans' hmy⟩
          case measure => simp [intOf]; omega
    · go_wp2
      go_ret
      exact ⟨rfl, hm⟩
end Go.Proofs.YtdfmapcnfficlaaGreatDoor

/-
  What the row lists of the package's variables: the tables lie there, and the two errors.
-/
import Derived.Test.YtdfmapcnfficlaaGreatDoorRefs2
import Derived.Lib.LaidU8
import Derived.PinnedBridge
import Derived.LaidLaws
import Derived.LaidEql
set_option linter.unusedSimpArgs false
set_option linter.unusedVariables false
namespace Go.Proofs.YtdfmapcnfficlaaGreatDoor
open Go Go.RowKit Go.Lib

section
variable {H : Type} {enc : TypeId × Value → H} {P : Program} {w : World} {base : Nat} {sp : Nat → Bool} {held : Bool}
/-- A struct of two strings. -/
theorem strs_of_struct {fuel : Nat} {t : TypeId} {f0 f1 : Field} {cs : List Value} {x y : List UInt8} {p : List MemPlace} (ht : P.underlying t = some (.struct #[f0, f1]))
    (h0 : P.underlying f0.type = some .string ∧ f0.offset = 0 ∧ P.cellsOf f0.type = 1) (h1 : P.underlying f1.type = some .string ∧ f1.offset = 1 ∧ P.cellsOf f1.type = 1) (hct : P.cellsOf t = 2)
    (h : DataW.trod enc P w base sp held fuel t cs = some (.agg [.lit (.string x), .lit (.string y)], p)) : cs = [.string ⟨x.toArray⟩, .string ⟨y.toArray⟩] := by
  obtain ⟨xs, n, rfl, hx, hl, hxl, hall⟩ := DataW.trod_struct ht h
  have hxs : xs.map (·.1) = [.lit (.string x), .lit (.string y)] := by
    have := congrArg Prod.fst hx
    simpa using this.symm
  match xs, hxs with
  | [a, b], hxs =>
    simp only [List.map_cons, List.map_nil, List.cons.injEq, and_true] at hxs
    have k0 := hall 0 f0 rfl
    have k1 := hall 1 f1 rfl
    rw [h0.2.1, h0.2.2] at k0
    rw [h1.2.1, h1.2.2] at k1
    obtain ⟨s0, c0, e0, _⟩ := DataW.trod_string h0.1 (k0.trans rfl)
    obtain ⟨s1, c1, e1, _⟩ := DataW.trod_string h1.1 (k1.trans rfl)
    rw [hct] at hl
    match cs, hl with
    | [u, v], _ =>
      simp only [List.drop_zero, List.take_succ_cons, List.take_zero, List.cons.injEq, and_true] at c0
      simp only [List.drop_succ_cons, List.drop_zero, List.take_succ_cons, List.take_zero, List.cons.injEq, and_true] at c1
      subst c0 c1
      have d0 : DataW.lit (.string s0.data.toList) = (DataW.lit (.string x) : DataW H) := by rw [← hxs.1, e0]
      have d1 : DataW.lit (.string s1.data.toList) = (DataW.lit (.string y) : DataW H) := by rw [← hxs.2, e1]
      injection d0 with d0
      injection d0 with d0
      injection d1 with d1
      injection d1 with d1
      subst d0 d1
      simp
end

theorem gFirst : Tryz.prog.globalNamed "unicode/utf8.first" = some 2 := by kernel_rfl
theorem gAccept : Tryz.prog.globalNamed "unicode/utf8.acceptRanges" = some 3 := by kernel_rfl
theorem gNames : Tryz.prog.globalNamed "unmark/unmark.names" = some 5 := by kernel_rfl
theorem gWin : Tryz.prog.globalNamed "unmark/unmark.fromWindows" = some 8 := by kernel_rfl
theorem tFirst : (Tryz.prog.globals[2]?).map (·.type) = some 162 := by kernel_rfl
theorem tAccept : (Tryz.prog.globals[3]?).map (·.type) = some 165 := by kernel_rfl
theorem tNames : (Tryz.prog.globals[5]?).map (·.type) = some 223 := by kernel_rfl
theorem tWin : (Tryz.prog.globals[8]?).map (·.type) = some 232 := by kernel_rfl

theorem tabs_of {w : World} (h3 : VarReads Tryz.prog w "unicode/utf8.first" Pinned.utf8First) (h4 : VarReads Tryz.prog w "unicode/utf8.acceptRanges" Rows.laid_unicode_utf8_acceptRanges) : Utf8Tabs 2 3 w := by
  refine ⟨fun c hc => ?_, fun i hi => ?_⟩
  · obtain ⟨g, t, cs, fuel, p, hg, hty, hvar, hd⟩ := h3
    obtain rfl := Option.some.inj (gFirst.symm.trans hg)
    obtain rfl := Option.some.inj (tFirst.symm.trans hty)
    rw [Pinned.utf8First_eq] at hd
    have hcs := cells_of_tab Tryz.underlying162 Tryz.underlying5 (by kernel_rfl) (by kernel_rfl) hd
    rw [World.var?_cell hg hvar c, ← Array.getElem?_toList, hcs]
    simp [firstTab, hc]
  · obtain ⟨g, t, cs, fuel, p, hg, hty, hvar, hd⟩ := h4
    obtain rfl := Option.some.inj (gAccept.symm.trans hg)
    obtain rfl := Option.some.inj (tAccept.symm.trans hty)
    have hda : Rows.laid_unicode_utf8_acceptRanges = acceptData := by kernel_rfl
    rw [hda] at hd
    obtain ⟨fuel', d, q, hdi, he⟩ := array_elem Tryz.underlying165 hd i hi
    simp only [List.getElem?_map, List.getElem?_range hi, Option.map_some, Option.some.injEq] at hdi
    subst hdi
    have hc2 : Tryz.prog.cellsOf 164 = 2 := by kernel_rfl
    rw [hc2] at he
    have hcs := ints_of_struct Tryz.underlying164 (fun j f hj => by
      match j, hj with
      | 0, hj => simp at hj; subst hj; exact ⟨Tryz.underlying5, rfl, by kernel_rfl⟩
      | 1, hj => simp at hj; subst hj; exact ⟨Tryz.underlying5, rfl, by kernel_rfl⟩
      | j + 2, hj => simp at hj) (by rw [hc2]; rfl) he
    have e0 := congrArg (·[0]?) hcs
    have e1 := congrArg (·[1]?) hcs
    simp only [List.getElem?_take, List.getElem?_drop] at e0 e1
    constructor
    · rw [World.var?_cell hg hvar (2 * i), ← Array.getElem?_toList]
      simpa [Nat.mul_comm] using e0
    · rw [World.var?_cell hg hvar (2 * i + 1), ← Array.getElem?_toList]
      simpa [Nat.mul_comm] using e1

theorem win_of {w : World} (h : VarReads Tryz.prog w "unmark/unmark.fromWindows" Rows.laid_unmark_unmark_fromWindows) (j : Nat) (v : Int) (hv : winT[j]? = some v) : w.cell? ⟨8, j, none⟩ = some (.int .i32 v) := by
  obtain ⟨g, t, cs, fuel, p, hg, hty, hvar, hd⟩ := h
  obtain rfl := Option.some.inj (gWin.symm.trans hg)
  obtain rfl := Option.some.inj (tWin.symm.trans hty)
  have hda : Rows.laid_unmark_unmark_fromWindows = tabData (H := Unit) .i32 winT := by kernel_rfl
  rw [hda] at hd
  have hcs := cells_of_tab Tryz.underlying232 Tryz.underlying21 (by kernel_rfl) (by kernel_rfl) hd
  rw [World.var?_cell hg hvar j, ← Array.getElem?_toList, hcs]
  simp [hv]

theorem namesData : Rows.laid_unmark_unmark_names (H := Unit) = .agg (namesT.map fun n => .agg [.lit (.string n.1), .lit (.string n.2)]) := by kernel_rfl

theorem chunk2 : ∀ (l : List (Str × Str)) (cs : List Value), cs.length = 2 * l.length → (∀ i n, l[i]? = some n → (cs.drop (i * 2)).take 2 = [Value.string ⟨n.1.toArray⟩, Value.string ⟨n.2.toArray⟩]) → cs = l.flatMap fun n => [Value.string ⟨n.1.toArray⟩, Value.string ⟨n.2.toArray⟩]
  | [], cs, hl, _ => by
    have : cs = [] := List.length_eq_zero_iff.1 (by simpa using hl)
    simp [this]
  | n :: l, cs, hl, h => by
    match cs, hl with
    | [], hl => simp at hl
    | [a], hl => simp at hl; omega
    | a :: b :: cs, hl =>
      have h0 := h 0 n rfl
      simp at h0
      have ih := chunk2 l cs (by simp at hl; omega) (fun i m hm => by
        have := h (i + 1) m (by simpa using hm)
        rw [show (i + 1) * 2 = i * 2 + 1 + 1 by omega] at this
        simpa only [List.drop_succ_cons] using this)
      rw [ih, h0.1, h0.2]
      simp [List.flatMap_cons]

theorem names_of {w : World} (h : VarReads Tryz.prog w "unmark/unmark.names" Rows.laid_unmark_unmark_names) : ∃ t fr, w.heap[5]? = some (.cells namesCells t fr) := by
  obtain ⟨g, t, cs, fuel, p, hg, hty, hvar, hd⟩ := h
  obtain rfl := Option.some.inj (gNames.symm.trans hg)
  obtain rfl := Option.some.inj (tNames.symm.trans hty)
  rw [namesData] at hd
  have hc2 : Tryz.prog.cellsOf 198 = 2 := by kernel_rfl
  have hlen : cs.toList.length = 42 := trod_array_len Tryz.underlying223 (by kernel_rfl) hd
  have hcs : cs.toList = namesT.flatMap fun n => [Value.string ⟨n.1.toArray⟩, Value.string ⟨n.2.toArray⟩] := by
    refine chunk2 namesT cs.toList hlen fun i n hn => ?_
    have hi : i < 21 := (List.getElem?_eq_some_iff.1 hn).1
    obtain ⟨fuel', d, q, hdi, he⟩ := array_elem Tryz.underlying223 hd i hi
    rw [hc2] at he
    have hd' : d = .agg [.lit (.string n.1), .lit (.string n.2)] := by
      rw [List.getElem?_map, hn] at hdi
      exact (Option.some.inj hdi).symm
    subst hd'
    exact strs_of_struct Tryz.underlying198 ⟨Tryz.underlying9, rfl, by kernel_rfl⟩ ⟨Tryz.underlying9, rfl, by kernel_rfl⟩ hc2 he
  have hh : ∃ t fr, w.heap[5]? = some (.cells cs t fr) := by
    simp only [World.var?, hg, Option.bind_some] at hvar
    split at hvar
    · rename_i c t fr he
      injection hvar with hvar
      subst hvar
      exact ⟨t, fr, he⟩
    · cases hvar
  obtain ⟨t, fr, he⟩ := hh
  refine ⟨t, fr, he.trans ?_⟩
  have : cs = namesCells := by
    apply Array.ext'
    rw [hcs]
    rfl
  rw [this]
where
  trod_array_len {P : Program} {w : World} {base : Nat} {sp : Nat → Bool} {held : Bool} {enc : TypeId × Value → Unit} {fuel : Nat} {t e : TypeId} {n m : Nat} {cs : List Value} {ds : List (DataW Unit)} {p : List MemPlace} (ht : P.underlying t = some (.array n e)) (hm : P.cellsOf t = m)
      (h : DataW.trod enc P w base sp held fuel t cs = some (.agg ds, p)) : cs.length = m := by
    cases fuel with
    | zero => simp [DataW.trod] at h
    | succ fuel =>
      simp only [DataW.trod, ht] at h
      split at h
      · rename_i hl
        rw [← hm]
        simpa using hl
      · cases h

theorem base_of {w : World} (h1 : VarReads Tryz.prog w "unicode/utf8.first" Pinned.utf8First) (h2 : VarReads Tryz.prog w "unicode/utf8.acceptRanges" Rows.laid_unicode_utf8_acceptRanges)
    (h3 : VarReads Tryz.prog w "unmark/unmark.names" Rows.laid_unmark_unmark_names) (h4 : VarReads Tryz.prog w "unmark/unmark.fromWindows" Rows.laid_unmark_unmark_fromWindows) (hs : 8 < w.heap.size) : Base w (fun _ => False) := by
  refine ⟨⟨names_of h3, tabs_of h1 h2, win_of h4⟩, fun g hg => ⟨id, ?_⟩⟩
  simp at hg
  omega
end Go.Proofs.YtdfmapcnfficlaaGreatDoor

/-
  What the row lists of the package's variables: the tables lie there, and the two errors.
  From a walk to a row: what the laws' rows have in common.
  The laws' arguments, opened; what the bound gives.
-/
import Derived.Test.YtdfmapcnfficlaaGreatDoorB21
import Derived.Lib.LaidU8
import Derived.PinnedBridge
import Derived.LaidLaws
import Derived.LaidEql
import Derived.Test.YtdfmapcnfficlaaGreatDoorCards
import Derived.Test.YtdfmapcnfficlaaGreatDoorTie
import Derived.ProofKit
import Derived.OpenShut
import Derived.Carry
import Derived.Lay
import Derived.SevenTiedAt
import Derived.Deep.DeepHandedRow
import Derived.Test.YtdfmapcnfficlaaGreatDoorB46
import Derived.ChangeSlices
import Derived.ChangeMaps5
set_option linter.unusedSimpArgs false
set_option linter.unusedVariables false
namespace Go.Proofs.YtdfmapcnfficlaaGreatDoor
open Go Go.RowKit Go.Lib

section
variable {H : Type} {enc : TypeId × Value → H} {P : Program} {w : World} {base : Nat} {sp : Nat → Bool} {held : Bool}
/-- A struct of two strings. -/
theorem strs_of_struct {fuel : Nat} {t : TypeId} {f0 f1 : Field} {cs : List Value} {x y : List UInt8} {p : List MemPlace} (ht : P.underlying t = some (.struct #[f0, f1]))
    (h0 : P.underlying f0.type = some .string ∧ f0.offset = 0 ∧ P.cellsOf f0.type = 1) (h1 : P.underlying f1.type = some .string ∧ f1.offset = 1 ∧ P.cellsOf f1.type = 1) (hct : P.cellsOf t = 2)
    (h : DataW.trod enc P w base sp held fuel t cs = some (.agg [.lit (.string x), .lit (.string y)], p)) : cs = [.string ⟨x.toArray⟩, .string ⟨y.toArray⟩] := by
  obtain ⟨xs, n, rfl, hx, hl, hxl, hall⟩ := DataW.trod_struct ht h
  have hxs : xs.map (·.1) = [.lit (.string x), .lit (.string y)] := by
    have := congrArg Prod.fst hx
    simpa using this.symm
  match xs, hxs with
  | [a, b], hxs =>
    simp only [List.map_cons, List.map_nil, List.cons.injEq, and_true] at hxs
    have k0 := hall 0 f0 rfl
    have k1 := hall 1 f1 rfl
    rw [h0.2.1, h0.2.2] at k0
    rw [h1.2.1, h1.2.2] at k1
    obtain ⟨s0, c0, e0, _⟩ := DataW.trod_string h0.1 (k0.trans rfl)
    obtain ⟨s1, c1, e1, _⟩ := DataW.trod_string h1.1 (k1.trans rfl)
    rw [hct] at hl
    match cs, hl with
    | [u, v], _ =>
      simp only [List.drop_zero, List.take_succ_cons, List.take_zero, List.cons.injEq, and_true] at c0
      simp only [List.drop_succ_cons, List.drop_zero, List.take_succ_cons, List.take_zero, List.cons.injEq, and_true] at c1
      subst c0 c1
      have d0 : DataW.lit (.string s0.data.toList) = (DataW.lit (.string x) : DataW H) := by rw [← hxs.1, e0]
      have d1 : DataW.lit (.string s1.data.toList) = (DataW.lit (.string y) : DataW H) := by rw [← hxs.2, e1]
      injection d0 with d0
      injection d0 with d0
      injection d1 with d1
      injection d1 with d1
      subst d0 d1
      simp
end

theorem gFirst : Tryz.prog.globalNamed "unicode/utf8.first" = some 2 := by kernel_rfl
theorem gAccept : Tryz.prog.globalNamed "unicode/utf8.acceptRanges" = some 3 := by kernel_rfl
theorem gNames : Tryz.prog.globalNamed "unmark/unmark.names" = some 5 := by kernel_rfl
theorem gWin : Tryz.prog.globalNamed "unmark/unmark.fromWindows" = some 8 := by kernel_rfl
theorem tFirst : (Tryz.prog.globals[2]?).map (·.type) = some 162 := by kernel_rfl
theorem tAccept : (Tryz.prog.globals[3]?).map (·.type) = some 165 := by kernel_rfl
theorem tNames : (Tryz.prog.globals[5]?).map (·.type) = some 223 := by kernel_rfl
theorem tWin : (Tryz.prog.globals[8]?).map (·.type) = some 232 := by kernel_rfl

theorem tabs_of {w : World} (h3 : VarReads Tryz.prog w "unicode/utf8.first" Pinned.utf8First) (h4 : VarReads Tryz.prog w "unicode/utf8.acceptRanges" Rows.laid_unicode_utf8_acceptRanges) : Utf8Tabs 2 3 w := by
  refine ⟨fun c hc => ?_, fun i hi => ?_⟩
  · obtain ⟨g, t, cs, fuel, p, hg, hty, hvar, hd⟩ := h3
    obtain rfl := Option.some.inj (gFirst.symm.trans hg)
    obtain rfl := Option.some.inj (tFirst.symm.trans hty)
    rw [Pinned.utf8First_eq] at hd
    have hcs := cells_of_tab Tryz.underlying162 Tryz.underlying5 (by kernel_rfl) (by kernel_rfl) hd
    rw [World.var?_cell hg hvar c, ← Array.getElem?_toList, hcs]
    simp [firstTab, hc]
  · obtain ⟨g, t, cs, fuel, p, hg, hty, hvar, hd⟩ := h4
    obtain rfl := Option.some.inj (gAccept.symm.trans hg)
    obtain rfl := Option.some.inj (tAccept.symm.trans hty)
    have hda : Rows.laid_unicode_utf8_acceptRanges = acceptData := by kernel_rfl
    rw [hda] at hd
    obtain ⟨fuel', d, q, hdi, he⟩ := array_elem Tryz.underlying165 hd i hi
    simp only [List.getElem?_map, List.getElem?_range hi, Option.map_some, Option.some.injEq] at hdi
    subst hdi
    have hc2 : Tryz.prog.cellsOf 164 = 2 := by kernel_rfl
    rw [hc2] at he
    have hcs := ints_of_struct Tryz.underlying164 (fun j f hj => by
      match j, hj with
      | 0, hj => simp at hj; subst hj; exact ⟨Tryz.underlying5, rfl, by kernel_rfl⟩
      | 1, hj => simp at hj; subst hj; exact ⟨Tryz.underlying5, rfl, by kernel_rfl⟩
      | j + 2, hj => simp at hj) (by rw [hc2]; rfl) he
    have e0 := congrArg (·[0]?) hcs
    have e1 := congrArg (·[1]?) hcs
    simp only [List.getElem?_take, List.getElem?_drop] at e0 e1
    constructor
    · rw [World.var?_cell hg hvar (2 * i), ← Array.getElem?_toList]
      simpa [Nat.mul_comm] using e0
    · rw [World.var?_cell hg hvar (2 * i + 1), ← Array.getElem?_toList]
      simpa [Nat.mul_comm] using e1

theorem win_of {w : World} (h : VarReads Tryz.prog w "unmark/unmark.fromWindows" Rows.laid_unmark_unmark_fromWindows) (j : Nat) (v : Int) (hv : winT[j]? = some v) : w.cell? ⟨8, j, none⟩ = some (.int .i32 v) := by
  obtain ⟨g, t, cs, fuel, p, hg, hty, hvar, hd⟩ := h
  obtain rfl := Option.some.inj (gWin.symm.trans hg)
  obtain rfl := Option.some.inj (tWin.symm.trans hty)
  have hda : Rows.laid_unmark_unmark_fromWindows = tabData (H := Unit) .i32 winT := by kernel_rfl
  rw [hda] at hd
  have hcs := cells_of_tab Tryz.underlying232 Tryz.underlying21 (by kernel_rfl) (by kernel_rfl) hd
  rw [World.var?_cell hg hvar j, ← Array.getElem?_toList, hcs]
  simp [hv]

theorem namesData : Rows.laid_unmark_unmark_names (H := Unit) = .agg (namesT.map fun n => .agg [.lit (.string n.1), .lit (.string n.2)]) := by kernel_rfl

theorem chunk2 : ∀ (l : List (Str × Str)) (cs : List Value), cs.length = 2 * l.length → (∀ i n, l[i]? = some n → (cs.drop (i * 2)).take 2 = [Value.string ⟨n.1.toArray⟩, Value.string ⟨n.2.toArray⟩]) → cs = l.flatMap fun n => [Value.string ⟨n.1.toArray⟩, Value.string ⟨n.2.toArray⟩]
  | [], cs, hl, _ => by
    have : cs = [] := List.length_eq_zero_iff.1 (by simpa using hl)
    simp [this]
  | n :: l, cs, hl, h => by
    match cs, hl with
    | [], hl => simp at hl
    | [a], hl => simp at hl; omega
    | a :: b :: cs, hl =>
      have h0 := h 0 n rfl
      simp at h0
      have ih := chunk2 l cs (by simp at hl; omega) (fun i m hm => by
        have := h (i + 1) m (by simpa using hm)
        rw [show (i + 1) * 2 = i * 2 + 1 + 1 by omega] at this
        simpa only [List.drop_succ_cons] using this)
      rw [ih, h0.1, h0.2]
      simp [List.flatMap_cons]

theorem names_of {w : World} (h : VarReads Tryz.prog w "unmark/unmark.names" Rows.laid_unmark_unmark_names) : ∃ t fr, w.heap[5]? = some (.cells namesCells t fr) := by
  obtain ⟨g, t, cs, fuel, p, hg, hty, hvar, hd⟩ := h
  obtain rfl := Option.some.inj (gNames.symm.trans hg)
  obtain rfl := Option.some.inj (tNames.symm.trans hty)
  rw [namesData] at hd
  have hc2 : Tryz.prog.cellsOf 198 = 2 := by kernel_rfl
  have hlen : cs.toList.length = 42 := trod_array_len Tryz.underlying223 (by kernel_rfl) hd
  have hcs : cs.toList = namesT.flatMap fun n => [Value.string ⟨n.1.toArray⟩, Value.string ⟨n.2.toArray⟩] := by
    refine chunk2 namesT cs.toList hlen fun i n hn => ?_
    have hi : i < 21 := (List.getElem?_eq_some_iff.1 hn).1
    obtain ⟨fuel', d, q, hdi, he⟩ := array_elem Tryz.underlying223 hd i hi
    rw [hc2] at he
    have hd' : d = .agg [.lit (.string n.1), .lit (.string n.2)] := by
      rw [List.getElem?_map, hn] at hdi
      exact (Option.some.inj hdi).symm
    subst hd'
    exact strs_of_struct Tryz.underlying198 ⟨Tryz.underlying9, rfl, by kernel_rfl⟩ ⟨Tryz.underlying9, rfl, by kernel_rfl⟩ hc2 he
  have hh : ∃ t fr, w.heap[5]? = some (.cells cs t fr) := by
    simp only [World.var?, hg, Option.bind_some] at hvar
    split at hvar
    · rename_i c t fr he
      injection hvar with hvar
      subst hvar
      exact ⟨t, fr, he⟩
    · cases hvar
  obtain ⟨t, fr, he⟩ := hh
  refine ⟨t, fr, he.trans ?_⟩
  have : cs = namesCells := by
    apply Array.ext'
    rw [hcs]
    rfl
  rw [this]
where
  trod_array_len {P : Program} {w : World} {base : Nat} {sp : Nat → Bool} {held : Bool} {enc : TypeId × Value → Unit} {fuel : Nat} {t e : TypeId} {n m : Nat} {cs : List Value} {ds : List (DataW Unit)} {p : List MemPlace} (ht : P.underlying t = some (.array n e)) (hm : P.cellsOf t = m)
      (h : DataW.trod enc P w base sp held fuel t cs = some (.agg ds, p)) : cs.length = m := by
    cases fuel with
    | zero => simp [DataW.trod] at h
    | succ fuel =>
      simp only [DataW.trod, ht] at h
      split at h
      · rename_i hl
        rw [← hm]
        simpa using hl
      · cases h

theorem base_of {w : World} (h1 : VarReads Tryz.prog w "unicode/utf8.first" Pinned.utf8First) (h2 : VarReads Tryz.prog w "unicode/utf8.acceptRanges" Rows.laid_unicode_utf8_acceptRanges)
    (h3 : VarReads Tryz.prog w "unmark/unmark.names" Rows.laid_unmark_unmark_names) (h4 : VarReads Tryz.prog w "unmark/unmark.fromWindows" Rows.laid_unmark_unmark_fromWindows) (hs : 8 < w.heap.size) : Base w (fun _ => False) := by
  refine ⟨⟨names_of h3, tabs_of h1 h2, win_of h4⟩, fun g hg => ⟨id, ?_⟩⟩
  simp at hg
  omega
end Go.Proofs.YtdfmapcnfficlaaGreatDoor

namespace Go.Proofs.YtdfmapcnfficlaaGreatDoor
open Go Go.RowKit Go.Lib Go.ChangeShapes Go.WideShapes

theorem Tryz.own : ownKnob Tryz.prog.godebug = none := by kernel_rfl
theorem Tryz.laidOut : laidOutB Tryz.prog = true := by kernel_rfl

theorem More.below {W W' : World} (h : More W W') : Below W.heap.size W W' := ⟨h.os, h.tape, h.output, h.size, h.block⟩

/-- A tied card without a companion, of a call whose text can come to a 'go' statement (or to a function's value, in a program that has one): 'goes'. -/
theorem holds_tied_goes (Lk : Looks) {p : Pinned} {s : OpenSpec} {c : OpenClaim} (kinds : List LaidKind) (tests : Bool) (har : Bool × String) (lk : Bool)
    (hc : c.holds p s) (hw : c.wfByText s = true) (htie : c.laidByTextAt Lk p kinds tests)
    (hst : c.start = .entering) (hnb : c.noBlocks = false ∧ c.again = false) (hm : p.checked.prog.mainIs = some (har.1, har.2.toList)) (hn : (!har.1 && har.2.isEmpty && !lk) = false)
    (hl : ∀ f fn, p.checked.prog.funcNamed c.func = some f → p.checked.prog.funcs[f]? = some fn → lk = p.checked.prog.looks [] ∧ ∀ (j : Nat) t, fn.params[j]? = some t → p.checked.prog.wantsStandIn t = false)
    (hg : true = c.goesBy p.checked.prog) :
    Claim7.holds p (.plain s) { stood := { row := c, standIns := [], harness := har, looks := lk }, kinds := [], alts := [], goes := true, laidByText := true, laidKinds := kinds, laidTests := tests, laidLooks := Lk } := by
  have h6 : Claim7.isSixth { stood := { row := c, standIns := [], harness := har, looks := lk }, kinds := [] } = false := by simpa [Claim7.isSixth] using hn
  have h7 := Claim7.tied_new_at Lk kinds tests (Claim7.new_of_sixth hc har lk hst hnb hm h6 hl) hw
  refine ⟨?_, (fun D hD => by cases hD), htie, (fun h => by cases h), hg⟩
  exact h7

/-- One input that fits, at a world that holds the listed variables. -/
theorem witness_zip {H : Type} {enc : TypeId × Value → H} {C : Checked} {os : Os} {f : FuncId} {fn : Func} {s : OpenSpec} {conds : List PathCond} {apart : Bool} {laid : List (String × DataW Unit)} (modest : Bool) (w0 : World) (args : Array Value) (hos : w0.os = os)
    (hsh : (w0.forCall (fun _ _ => 0) ⟨#[], args, []⟩).Shaped C.prog)
    (hok : Input.okWideB C.prog (w0.forCall (fun _ _ => 0) ⟨#[], args, []⟩) f ⟨#[], args, []⟩ = true)
    (hrow : s.preRow enc C.prog fn conds apart laid (w0.forCall (fun _ _ => 0) ⟨#[], args, []⟩).memory args) :
    ∃ (w : World) (tape : Tape) (i : Input), w.os = os ∧ (w.forCall tape i).Shaped C.prog ∧ i.vars = [] ∧ Input.okWide C.prog (w.forCall tape i) .any w.heap.size f i ∧
      s.preRow enc C.prog fn conds apart laid (w.forCall tape i).memory i.args ∧ ({ modest := modest } : Assume).holds C.prog (lone (Frame.enter C.prog f i.args .normal) [] (w.forCall tape i)) :=
  ⟨w0, fun _ _ => 0, ⟨#[], args, []⟩, hos, hsh, (Input.okWide_of_okWideB (base := 0) hok).1, (Input.okWide_of_okWideB hok).2, hrow, by
    simp only [Assume.holds]
    exact ⟨by simp, by simp, fun _ => Modest.zero, by simp, by simp⟩⟩

theorem cell_lt {w : World} {g j : Nat} {v : Value} (h : w.cell? ⟨g, j, none⟩ = some v) : g < w.heap.size := by
  cases hh : w.heap[g]? with
  | none => simp [World.cell?, hh] at h
  | some o => exact (Array.getElem?_eq_some_iff.1 hh).1

def laid6 : List (String × DataW Unit) := [("unicode/utf8.acceptRanges", Rows.laid_unicode_utf8_acceptRanges), ("unmark/unmark.fromWindows", Rows.laid_unmark_unmark_fromWindows), ("unmark/unmark.names", Rows.laid_unmark_unmark_names), ("unmark/unmark.ErrClosed", Rows.laid_unmark_unmark_ErrClosed), ("unmark/unmark.ErrLimit", Rows.laid_unmark_unmark_ErrLimit), ("unicode/utf8.first", Rows.laid_unicode_utf8_first)]

theorem base_of_laid6 {W : World} (h : laidMetH Tryz.prog laid6 W) : Base W (fun _ => False) := by
  rw [MakeChecks.laidMetH_plain _ _ _ (by kernel_rfl)] at h
  have h4 := laidMet.reads h (n := "unmark/unmark.fromWindows") (d := Rows.laid_unmark_unmark_fromWindows) (by simp [laid6])
  refine base_of (laidMet.reads h (n := "unicode/utf8.first") (d := Rows.laid_unicode_utf8_first) (by simp [laid6])) (laidMet.reads h (n := "unicode/utf8.acceptRanges") (d := Rows.laid_unicode_utf8_acceptRanges) (by simp [laid6])) (laidMet.reads h (n := "unmark/unmark.names") (d := Rows.laid_unmark_unmark_names) (by simp [laid6])) h4 ?_
  exact cell_lt (win_of h4 0 8364 rfl)

theorem laid6_met (os : Os) (args : Array Value) : laidMetH Tryz.prog laid6 ((World.laidAll Tryz.prog os laid6).forCall (fun _ _ => 0) ⟨#[], args, []⟩).memory := by
  rw [MakeChecks.laidMetH_plain _ _ _ (by kernel_rfl)]
  exact laidMet_laidAll _ (by kernel_rfl) (by kernel_rfl)
end Go.Proofs.YtdfmapcnfficlaaGreatDoor

set_option linter.unusedSimpArgs false
set_option linter.unusedVariables false
set_option linter.constructorNameAsVariable false
set_option maxRecDepth 100000
namespace Go.Proofs.YtdfmapcnfficlaaGreatDoor
open Go Go.RowKit Go.Lib Go.ChangeShapes Go.WideShapes

theorem bulk_one {H : Type} (d : DataW H) : 1 ≤ Rows.uptoBulk d := by
  cases d with
  | lit l => cases l <;> simp [Rows.uptoBulk]
  | nil => simp [Rows.uptoBulk]
  | ptr d => simp [Rows.uptoBulk]
  | slice elems spare => simp [Rows.uptoBulk]
  | agg parts => simp [Rows.uptoBulk]
  | iface t d => simp [Rows.uptoBulk]
  | map entries => simp [Rows.uptoBulk]
  | held h => simp [Rows.uptoBulk]
theorem bulk_length {H : Type} : ∀ l : List (DataW H), l.length ≤ Rows.uptoBulkAll l
  | [] => by simp
  | x :: r => by
    have h1 := bulk_one x
    have h2 := bulk_length r
    simp only [Rows.uptoBulkAll, List.length_cons]
    omega
theorem bulk_string {H : Type} (l : Str) : Rows.uptoBulk (DataW.lit (H := H) (.string l)) = l.length + 1 := by simp [Rows.uptoBulk]
theorem bulk_slice {H : Type} (a b : List (DataW H)) : a.length + 1 ≤ Rows.uptoBulk (.slice a b) := by
  have := bulk_length a
  simp only [Rows.uptoBulk]
  omega
theorem bulk_bound {H : Type} {l : List (DataW H)} (hk : Rows.uptoSmall H l = true) : Rows.uptoBulkAll l ≤ 1048576 := of_decide_eq_true hk

section
variable {H : Type} {enc : TypeId × Value → H} {W : World}
/-- A slice of integers. -/
theorem arg_ints {b0 : Nat} {v : Value} {d : DataW H} {p : List MemPlace} (hval : Value.okWide Tryz.prog W .any b0 45 v) (h : DataW.Trod enc Tryz.prog W 0 (fun _ => true) true 45 v d p) : ∃ l, IntsV W v l ∧ l.length + 1 ≤ Rows.uptoBulk d := by
  obtain ⟨a0, len, cap, rfl⟩ := okWide_slice Tryz.underlying45 hval
  obtain ⟨fuel, hf⟩ := h
  rcases open_ints Tryz.underlying45 Tryz.underlying3 (by kernel_rfl) hf with ⟨hcs, hx⟩ | ⟨a, len', cap', zs, hcs, _, hl, hm, hz, hx, hcell, hwz⟩
  · simp [Value.cells] at hcs
    obtain ⟨rfl, rfl, rfl⟩ := hcs
    simp only [Prod.mk.injEq] at hx
    obtain ⟨rfl, rfl⟩ := hx
    exact ⟨[], ⟨none, 0, rfl, fun h => absurd rfl h, Nat.le_refl _, fun z hz => by cases hz⟩, by simp [Rows.uptoBulk]⟩
  · simp [Value.cells] at hcs
    obtain ⟨rfl, rfl, rfl⟩ := hcs
    simp only [Prod.mk.injEq] at hx
    obtain ⟨rfl, rfl⟩ := hx
    simp only [if_true] at hz
    have hll : (zs.take len).length = len := by rw [List.length_take]; omega
    refine ⟨zs.take len, ⟨some a, cap, by rw [hll], fun hne => ?_, by rw [hll]; exact hl, fun z hzm => ?_⟩, ?_⟩
    · have hpos : 0 < len := by
        rcases Nat.eq_zero_or_pos len with e | e
        · subst e; simp at hne
        · exact e
      have hc0 := hcell 0 (by omega)
      obtain ⟨g, o, spt⟩ := a
      have hs : spt = none := cell_spot (o := o) (b := g) (by simpa [Addr.add] using hc0)
      subst hs
      refine ⟨g, o, rfl, cell_lt (j := o) (by simpa [Addr.add] using hc0), fun j z hj => ?_⟩
      have hj' : j < len := by have := (List.getElem?_eq_some_iff.1 hj).1; omega
      have := hcell j (by omega)
      rw [show ((⟨g, o, none⟩ : Addr).add j) = ⟨g, o + j, none⟩ by unfold Addr.add; split <;> simp_all] at this
      rw [this]
      rw [List.getElem?_take, if_pos hj'] at hj
      simp [List.getD, hj]
    · have := hwz z (List.mem_of_mem_take hzm)
      simp [Lit.wf] at this
      have e1 : IntKind.i64.min = -9223372036854775808 := rfl
      have e2 : IntKind.i64.max = 9223372036854775807 := rfl
      omega
    · have := bulk_slice (H := H) (lits .i64 (zs.take len)) (lits .i64 (zs.drop len))
      have e : (lits (H := H) .i64 (zs.take len)).length = (zs.take len).length := by simp [lits]
      omega
/-- A text. -/
theorem arg_text {b0 : Nat} {v : Value} {d : DataW H} {p : List MemPlace} (hv : Value.okWide Tryz.prog W .any b0 9 v) (h : DataW.Trod enc Tryz.prog W 0 (fun _ => true) true 9 v d p) : ∃ x : Str, v = .string ⟨x.toArray⟩ ∧ x.length + 1 = Rows.uptoBulk d := by
  obtain ⟨s, rfl, rfl, rfl, hs⟩ := ChangeMaps.open_string Tryz.underlying9 hv h
  exact ⟨s.data.toList, by simp, (bulk_string _).symm⟩
end
end Go.Proofs.YtdfmapcnfficlaaGreatDoor

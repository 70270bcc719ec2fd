/-
  The pieces of a page, as they are handed in.
  Pages: the row, whatever the input, and its tied card.
-/
import Derived.Test.YtdfmapcnfficlaaGreatDoorPageVL
import Derived.Test.YtdfmapcnfficlaaGreatDoorB47
import Derived.Deep.Strs
import Derived.Test.YtdfmapcnfficlaaGreatDoorPagesWalkL
set_option linter.unusedSimpArgs false
set_option linter.unusedVariables false
set_option maxRecDepth 100000
namespace Go.Proofs.YtdfmapcnfficlaaGreatDoor
open Go Go.RowKit Go.Lib Go.ChangeShapes Go.WideShapes

section
variable {H : Type} {enc : TypeId × Value → H} {W : World}
theorem ints_of_trod {fuel : Nat} {v : Value} {d : DataW H} {p : List MemPlace} (hf : DataW.trod enc Tryz.prog W 0 (fun _ => true) true fuel 45 [v] = some (d, p)) : ∃ l, IntsV W v l ∧ l.length ≤ 9223372036854775807 := by
  rcases open_ints Tryz.underlying45 Tryz.underlying3 (by kernel_rfl) hf with ⟨hcs, hx⟩ | ⟨a, len, cap, zs, hcs, _, hl, hm, hz, hx, hcell, hwz⟩
  · simp at hcs
    subst hcs
    simp only [Prod.mk.injEq] at hx
    obtain ⟨rfl, rfl⟩ := hx
    exact ⟨[], ⟨none, 0, rfl, fun h => absurd rfl h, Nat.le_refl _, fun z hz => by cases hz⟩, by simp⟩
  · simp at hcs
    subst hcs
    simp only [Prod.mk.injEq] at hx
    obtain ⟨rfl, rfl⟩ := hx
    simp only [if_true] at hz
    have hll : (zs.take len).length = len := by rw [List.length_take]; omega
    refine ⟨zs.take len, ⟨some a, cap, by rw [hll], fun hne => ?_, by rw [hll]; exact hl, fun z hzm => ?_⟩, ?_⟩
    · have hpos : 0 < len := by
        rcases Nat.eq_zero_or_pos len with e | e
        · subst e; simp at hne
        · exact e
      have hc0 := hcell 0 (by omega)
      obtain ⟨g, o, spt⟩ := a
      have hs : spt = none := cell_spot (o := o) (b := g) (by simpa [Addr.add] using hc0)
      subst hs
      refine ⟨g, o, rfl, cell_lt (j := o) (by simpa [Addr.add] using hc0), fun j z hj => ?_⟩
      have hj' : j < len := by have := (List.getElem?_eq_some_iff.1 hj).1; omega
      have := hcell j (by omega)
      rw [show ((⟨g, o, none⟩ : Addr).add j) = ⟨g, o + j, none⟩ by unfold Addr.add; split <;> simp_all] at this
      rw [this]
      rw [List.getElem?_take, if_pos hj'] at hj
      simp [List.getD, hj]
    · have := hwz z (List.mem_of_mem_take hzm)
      simp [Lit.wf] at this
      have e1 : IntKind.i64.min = -9223372036854775808 := rfl
      have e2 : IntKind.i64.max = 9223372036854775807 := rfl
      omega
    · unfold maxLen at hm
      omega

theorem cell_add {g o : Nat} (j : Nat) : ((⟨g, o, none⟩ : Addr).add j) = ⟨g, o + j, none⟩ := by unfold Addr.add; split <;> simp_all
/-- One piece. -/
theorem one_piece {fuel : Nat} {a : Addr} {d : DataW H} {p : List MemPlace} {cs : List Value} (h1 : W.cells? 0 a 3 = some cs) (h2 : DataW.trod enc Tryz.prog W 0 (fun _ => true) true fuel 93 cs = some (d, p)) :
    ∃ (x : PieceD) (va : Value), W.cell? (a.add 0) = some (.int .i64 x.kind) ∧ W.cell? (a.add 1) = some (.int .i64 x.n) ∧ W.cell? (a.add 2) = some va ∧ IntsV W va x.attrs ∧ (-9223372036854775808 ≤ x.kind ∧ x.kind ≤ 9223372036854775807) ∧ (-9223372036854775808 ≤ x.n ∧ x.n ≤ 9223372036854775807) ∧ x.attrs.length ≤ 9223372036854775807 := by
  obtain ⟨_, hlen, hcell⟩ := World.cells?_some h1
  obtain ⟨y0, y1, y2, n, hx, _, g0, g1, g2⟩ := Go.Deep.trod_struct3 Tryz.underlying93 h2
  match cs, hlen with
  | [v0, v1, v2], _ =>
    have k0 : Tryz.prog.cellsOf 3 = 1 := by kernel_rfl
    have k2 : Tryz.prog.cellsOf 45 = 1 := by kernel_rfl
    simp only [k0, k2, List.drop_zero, List.drop_succ_cons, List.take_succ_cons, List.take_zero] at g0 g1 g2
    obtain ⟨z0, e0, _, w0⟩ := DataW.trod_int Tryz.underlying3 g0
    obtain ⟨z1, e1, _, w1⟩ := DataW.trod_int Tryz.underlying3 g1
    obtain ⟨d2, p2⟩ := y2
    obtain ⟨l, hI, hb⟩ := ints_of_trod g2
    simp at e0 e1
    subst e0 e1
    simp only [Prod.mk.injEq] at hx
    obtain ⟨rfl, _⟩ := hx
    have c0 := hcell 0 (by omega)
    have c1 := hcell 1 (by omega)
    have c2 := hcell 2 (by omega)
    simp [Lit.wf] at w0 w1
    have e1 : IntKind.i64.min = -9223372036854775808 := rfl
    have e2 : IntKind.i64.max = 9223372036854775807 := rfl
    refine ⟨⟨z0, z1, l⟩, v2, by simpa using c0, by simpa using c1, by simpa using c2, hI, by simp only; omega, by simp only; omega, hb⟩
/-- A slice of pieces. -/
theorem arg_pieces {b0 : Nat} {v : Value} {d : DataW H} {p : List MemPlace} (hval : Value.okWide Tryz.prog W .any b0 49 v) (h : DataW.Trod enc Tryz.prog W 0 (fun _ => true) true 49 v d p) : ∃ l, PcsV W v l ∧ l.length ≤ 9223372036854775807 := by
  obtain ⟨a0, len0, cap0, rfl⟩ := okWide_slice Tryz.underlying49 hval
  obtain ⟨fuel, hf⟩ := h
  rcases Go.Deep.open_slice Tryz.underlying49 hf with ⟨hcs, hx⟩ | ⟨a, len, cap, m, n, D, Pl, hcs, _, hl, hm, hmm, hx, hel⟩
  · simp [Value.cells] at hcs
    obtain ⟨rfl, rfl, rfl⟩ := hcs
    simp only [Prod.mk.injEq] at hx
    obtain ⟨rfl, rfl⟩ := hx
    exact ⟨[], ⟨none, 0, rfl, fun h => absurd rfl h, Nat.le_refl _, fun z hz => by cases hz⟩, by simp⟩
  · simp [Value.cells] at hcs
    obtain ⟨rfl, rfl, rfl⟩ := hcs
    simp only [Prod.mk.injEq] at hx
    obtain ⟨rfl, _⟩ := hx
    simp only [if_true] at hmm
    have ce : Tryz.prog.cellsOf 93 = 3 := by kernel_rfl
    rw [ce] at hel
    have each : ∀ i, i < len0 → ∃ x : PieceD × Value, W.cell? (a.add (i * 3)) = some (.int .i64 x.1.kind) ∧ W.cell? (a.add (i * 3 + 1)) = some (.int .i64 x.1.n) ∧ W.cell? (a.add (i * 3 + 2)) = some x.2 ∧ IntsV W x.2 x.1.attrs ∧ (-9223372036854775808 ≤ x.1.kind ∧ x.1.kind ≤ 9223372036854775807) ∧ (-9223372036854775808 ≤ x.1.n ∧ x.1.n ≤ 9223372036854775807) ∧ x.1.attrs.length ≤ 9223372036854775807 := by
      intro i hi
      obtain ⟨cs', h1, h2⟩ := hel i (by omega)
      obtain ⟨x, va, c0, c1, c2, r⟩ := one_piece h1 h2
      rw [Go.Deep.add_add] at c0 c1 c2
      exact ⟨(x, va), by simpa using c0, c1, c2, r⟩
    haveI : Inhabited (PieceD × Value) := ⟨(noPiece, .int .i64 0)⟩
    obtain ⟨q, hq⟩ := Go.Deep.choose_lt each
    have hll : ((List.range len0).map fun i => (q i).1).length = len0 := by simp
    refine ⟨(List.range len0).map fun i => (q i).1, ⟨some a, cap0, by rw [hll], fun hne => ?_, by rw [hll]; exact hl, fun x hx => ?_⟩, ?_⟩
    · have hpos : 0 < len0 := by
        rcases Nat.eq_zero_or_pos len0 with e | e
        · subst e; simp at hne
        · exact e
      have hc0 := (hq 0 hpos).1
      obtain ⟨g, o, spt⟩ := a
      have hs : spt = none := cell_spot (o := o) (b := g) (by simpa [Addr.add] using hc0)
      subst hs
      refine ⟨g, o, rfl, cell_lt (j := o) (by simpa [Addr.add] using hc0), fun j x hj => ?_⟩
      have hj' : j < len0 := by have := (List.getElem?_eq_some_iff.1 hj).1; simpa using this
      have ex : (q j).1 = x := by simpa [hj'] using hj
      obtain ⟨c0, c1, c2, hI, _⟩ := hq j hj'
      rw [cell_add] at c0 c1 c2
      rw [ex] at c0 c1 hI
      exact ⟨(q j).2, c0, c1, c2, hI⟩
    · obtain ⟨i, hi, rfl⟩ := List.mem_map.1 hx
      have hi' := List.mem_range.1 hi
      obtain ⟨_, _, _, _, r1, r2, r3⟩ := hq i hi'
      exact ⟨r1, r2, r3⟩
    · rw [hll]
      unfold maxLen at hm
      omega
end
end Go.Proofs.YtdfmapcnfficlaaGreatDoor

set_option linter.unusedSimpArgs false
set_option linter.unusedVariables false
set_option linter.constructorNameAsVariable false
set_option maxRecDepth 100000
namespace Go.Proofs.YtdfmapcnfficlaaGreatDoor.pages
open Go Go.RowKit Go.Lib Go.ChangeShapes Go.WideShapes Go.Proofs.YtdfmapcnfficlaaGreatDoor

theorem contract (H : Type) (enc : TypeId × Value → H) (W : World) (base : Nat) (args : Array Value) (ds gs : List (DataW H)) (before : List MemPlace)
    (hval : ∀ (j : Nat) t v, Tryz.f8.params[j]? = some t → args[j]? = some v → Value.okWide Tryz.prog W .any base t v)
    (hW : DataW.Whole enc Tryz.prog Tryz.f8.params.toList Rows.pagesSpec.vars false W args.toList ds gs before) (hL : laidMetH Tryz.prog laid6 W) :
    Calls Tryz.prog 8 args W fun e W' => ∃ v, e = .returned v ∧ Rows.pagesSpec.post enc Tryz.prog Tryz.f8 false true false false W args v W' := by
  have hW' := hW
  obtain ⟨p, q, hA0, hV, rfl, hfz, hnd⟩ := hW
  have hA : DataW.TrodAll enc Tryz.prog W 0 (fun _ => true) true Tryz.f8.params.toList args.toList ds p := hA0
  have hlt : ∀ x ∈ p ++ q, x.block < W.heap.size := fun x hx => by simpa using hW'.lt x hx
  rw [Tryz.params8] at hA hval
  obtain ⟨v0, d0, rfl, rfl, h0⟩ := trodAll_one hA
  obtain ⟨rfl, rfl⟩ := trodVars_none hV
  have k0 := h0
  obtain ⟨l0, hl0, hn0⟩ := arg_pieces (hval 0 _ v0 rfl rfl) h0
  refine (pages_walk l0 v0 W hl0 hn0 (base_of_laid6 hL)).mono ?_
  rintro e W' ⟨rfl, hm⟩
  have hbl := hm.below
  refine ⟨_, rfl, _, _, _, [], p, [], hW', trodAll_mk1 (shut_bool Tryz.underlying4 _), ?_, rfl, hbl.frame _, fun h => by cases h⟩
  exact trodAll_mk1 (Below.trod Tryz.laidOut (by kernel_rfl) (of_decide_eq_true (by kernel_rfl)) k0 hbl (fun x hx => hlt x (by simp [hx])))

theorem lifted (os : Os) (started : os.Started) (H : Type) (enc : TypeId × Value → H) (F : Stop.Interp) :
    ReturnsInHanded {} Tryz.checked os 8 .any ((OpenSpec.ofChange Rows.pagesSpec).preRow enc Tryz.prog Tryz.f8 Rows.pagesRow.domain false Rows.pagesRow.laid) (((OpenSpec.ofChange Rows.pagesSpec).at F).post enc Tryz.prog Tryz.f8 false true false false) := by
  have hx : ∃ places, DataW.whole enc Tryz.prog ((World.laidAll Tryz.prog os laid6).forCall (fun _ _ => 0) ⟨#[], #[.slice none 0 0], []⟩).memory Tryz.f8.params.toList Rows.pagesSpec.vars false #[(.slice none 0 0 : Value)].toList 8 = some ([.nil], [], places) := ⟨[], by kernel_rfl⟩
  obtain ⟨places, hx⟩ := hx
  refine returnsInHanded_of_row (C := Tryz.checked) (s := OpenSpec.ofChange Rows.pagesSpec) Tryz.own started (by kernel_rfl) Tryz.func8
    (witness_zip (enc := enc) (C := Tryz.checked) false (World.laidAll Tryz.prog os laid6) #[.slice none 0 0] (World.laidAll_os _ _ _) (World.shaped_of_ZipB (by kernel_rfl) (by kernel_rfl)) (by kernel_rfl)
      (OpenSpec.preRow_of_cond 8 hx (by kernel_rfl) (fun k hk => by cases hk) (by kernel_rfl) (laid6_met os _))) ?_
  intro W base args ds gs before hval hW _ _ _ hL _ _
  exact contract H enc W base args ds gs before hval hW hL

theorem said : Rows.PagesSaid :=
  OpenClaim.holds_of_cond 8 Tryz.f8 rfl rfl rfl rfl rfl rfl rfl ⟨rfl, rfl, rfl, rfl, rfl⟩ rfl rfl rfl rfl rfl (by kernel_rfl) Tryz.func8 (by kernel_rfl)
    (of_decide_eq_true (by kernel_rfl)) (by unfold Func.isWrapper; first | (rw [if_pos (by decide +kernel)]; kernel_rfl) | (rw [if_neg (by decide +kernel)]; exact ⟨rfl, rfl⟩))
    (fun os started H enc _ F => by rw [OpenClaim.pre_eq_preRow]; exact lifted os started H enc F)

theorem plain (f : FuncId) (fn : Func) (hf : Tryz.pinned.checked.prog.funcNamed "unmark/unmarkkeep.Pages" = some f) (hfn : Tryz.pinned.checked.prog.funcs[f]? = some fn) :
    true = Tryz.pinned.checked.prog.looks [] ∧ ∀ (j : Nat) t, fn.params[j]? = some t → Tryz.pinned.checked.prog.wantsStandIn t = false := by
  obtain rfl : f = 8 := Option.some.inj ((show Tryz.prog.funcNamed "unmark/unmarkkeep.Pages" = some 8 by kernel_rfl).symm.trans hf) |>.symm
  obtain rfl : fn = Tryz.f8 := (Option.some.inj (Tryz.func8.symm.trans hfn)).symm
  refine ⟨by kernel_rfl, fun j t ht => ?_⟩
  rw [Tryz.params8] at ht
  have hm := Array.mem_of_getElem? ht
  simp at hm
  subst hm
  · exact (show Tryz.prog.wantsStandIn 49 = false by kernel_rfl)

theorem pages_card_holds : Rows.PagesCardSaid :=
  holds_tied_goes .later _ _ _ _ said (by kernel_rfl) pages_row_tie rfl ⟨rfl, rfl⟩ (by kernel_rfl) (by kernel_rfl) plain (by kernel_rfl)
#print axioms pages_card_holds
end Go.Proofs.YtdfmapcnfficlaaGreatDoor.pages

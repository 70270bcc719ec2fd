/-
  Of the row's list of variables: the two errors, the powers of ten, the tables.
  Limits: the row, where what it reads is of bulk at most 1048576, and its tied card.
-/
import Derived.Test.YtdfmapcnfficlaaGreatDoorB47
import Derived.Test.YtdfmapcnfficlaaGreatDoorWhatL
import Derived.Test.YtdfmapcnfficlaaGreatDoorLimitsWalkL
set_option linter.unusedSimpArgs false
set_option linter.unusedVariables false
set_option linter.constructorNameAsVariable false
set_option maxRecDepth 100000
namespace Go.Proofs.YtdfmapcnfficlaaGreatDoor
open Go Go.RowKit Go.Lib Go.ChangeShapes Go.WideShapes

theorem laid_tail {P : Program} {n : String} {d : DataW Unit} {l : List (String × DataW Unit)} {w : World} (h : laidMet P ((n, d) :: l) w) : laidMet P l w := by
  obtain ⟨ps, ⟨g, t, cs, f, p, q, h1, h2, h3, h4, h5, e⟩, hnd, hrows⟩ := h
  subst e
  exact ⟨q, h5, (List.nodup_append.1 hnd).2.1, fun b o hb => hrows b o (by simp [hb])⟩

def laid9 : List (String × DataW Unit) := [("math/bits.deBruijn32tab", Rows.laid_math_bits_deBruijn32tab), ("math/bits.deBruijn64tab", Rows.laid_math_bits_deBruijn64tab), ("internal/strconv.uint64pow10", Rows.laid_internal_strconv_uint64pow10), ("unicode/utf8.acceptRanges", Rows.laid_unicode_utf8_acceptRanges), ("unmark/unmark.fromWindows", Rows.laid_unmark_unmark_fromWindows), ("unmark/unmark.names", Rows.laid_unmark_unmark_names), ("unmark/unmark.ErrClosed", Rows.laid_unmark_unmark_ErrClosed), ("unmark/unmark.ErrLimit", Rows.laid_unmark_unmark_ErrLimit), ("unicode/utf8.first", Rows.laid_unicode_utf8_first)]

theorem gClosed : Tryz.prog.globalNamed "unmark/unmark.ErrClosed" = some 1 := by kernel_rfl
theorem gLimit : Tryz.prog.globalNamed "unmark/unmark.ErrLimit" = some 0 := by kernel_rfl
theorem tClosed : (Tryz.prog.globals[1]?).map (·.type) = some 38 := by kernel_rfl
theorem tLimit : (Tryz.prog.globals[0]?).map (·.type) = some 38 := by kernel_rfl
theorem cellsE : Tryz.prog.cellsOf 247 = 1 := by kernel_rfl
theorem cellsS : Tryz.prog.cellsOf 9 = 1 := by kernel_rfl
theorem star : "*" ++ "errors.errorString" = "*errors.errorString" := by decide
theorem rowE (u : TypeId) (h : Tryz.prog.typeName? 3 u = some "*errors.errorString") : u = 233 :=
  typeName_ptr_named (nm := "errors.errorString") (by rw [star]; kernel_rfl) (by kernel_rfl) (by decide) u (by rw [star]; exact h)

theorem errs_of {W : World} {l : List (String × DataW Unit)} (h : laidMet Tryz.prog (("unmark/unmark.ErrClosed", Rows.laid_unmark_unmark_ErrClosed) :: ("unmark/unmark.ErrLimit", Rows.laid_unmark_unmark_ErrLimit) :: l) W) : ∃ ac al, Errs W ac al := by
  obtain ⟨ps, ⟨g0, t0, cs0, f0, p0, q0, hg0, ht0, hv0, hd0, ⟨g1, t1, cs1, f1, p1, q1, hg1, ht1, hv1, hd1, hq1, e1⟩, e0⟩, hnd, hrows⟩ := h
  obtain rfl := Option.some.inj (gClosed.symm.trans hg0)
  obtain rfl := Option.some.inj (gLimit.symm.trans hg1)
  obtain rfl := Option.some.inj (tClosed.symm.trans ht0)
  obtain rfl := Option.some.inj (tLimit.symm.trans ht1)
  subst e1
  subst e0
  obtain ⟨l0⟩ := cs0
  obtain ⟨l1⟩ := cs1
  have ok0 : ∀ u v, l0 = [.iface u v] → Value.okWide Tryz.prog W .any 0 u v := fun u v e => by
    subst e
    exact (hrows 1 0 (by simp [MemPlace.row])).2 u v (by simpa using World.var?_cell hg0 hv0 0)
  have ok1 : ∀ u v, l1 = [.iface u v] → Value.okWide Tryz.prog W .any 0 u v := fun u v e => by
    subst e
    exact (hrows 0 0 (by simp [MemPlace.row])).2 u v (by simpa using World.var?_cell hg1 hv1 0)
  obtain ⟨a0, s0, rfl, hc0, hs0, hz0, rfl⟩ := errorString_of_trod Tryz.underlying38 rowE Tryz.underlying233 Tryz.underlying247 rfl rfl Tryz.underlying9 cellsE cellsS hd0 ok0
  obtain ⟨a1, s1, rfl, hc1, hs1, hz1, rfl⟩ := errorString_of_trod Tryz.underlying38 rowE Tryz.underlying233 Tryz.underlying247 rfl rfl Tryz.underlying9 cellsE cellsS hd1 ok1
  obtain ⟨c0, t0, hb0⟩ := (hrows a0.block a0.off (by simp [MemPlace.row])).1
  obtain ⟨c1, t1, hb1⟩ := (hrows a1.block a1.off (by simp [MemPlace.row])).1
  refine ⟨a0, a1, by simpa using World.var?_cell hg0 hv0 0, by simpa using World.var?_cell hg1 hv1 0, ?_, ⟨c0, t0, hb0⟩, ⟨c1, t1, hb1⟩, ?_, ?_⟩
  · rintro rfl
    simp [MemPlace.row] at hnd
  · exact ⟨s0.data.toList, by rw [hs0]; decide, by rw [hc0]⟩
  · exact ⟨s1.data.toList, by rw [hs1]; decide, by rw [hc1]⟩

theorem tPow : (Tryz.prog.globals[4]?).map (·.type) = some 204 := by kernel_rfl
theorem pow_of {w : World} (h : VarReads Tryz.prog w "internal/strconv.uint64pow10" Rows.laid_internal_strconv_uint64pow10) : Pow w := by
  obtain ⟨g, t, cs, fuel, p, hg, hty, hvar, hd⟩ := h
  obtain rfl := Option.some.inj (gPow.symm.trans hg)
  obtain rfl := Option.some.inj (tPow.symm.trans hty)
  have hda : Rows.laid_internal_strconv_uint64pow10 = tabData (H := Unit) .u64 pow10Tab := by kernel_rfl
  rw [hda] at hd
  have hcs := cells_of_tab Tryz.underlying204 Tryz.underlying12 (by kernel_rfl) (by kernel_rfl) hd
  unfold Pow TabIs
  rw [hvar]
  congr 1
  apply Array.ext'
  rw [hcs]

theorem all_of_laid9 {W : World} (h : laidMetH Tryz.prog laid9 W) : Base W (fun _ => False) ∧ (∃ ac al, Errs W ac al) ∧ Pow W := by
  rw [MakeChecks.laidMetH_plain _ _ _ (by kernel_rfl)] at h
  have h4 := laidMet.reads h (n := "unmark/unmark.fromWindows") (d := Rows.laid_unmark_unmark_fromWindows) (by simp [laid9])
  refine ⟨base_of (laidMet.reads h (n := "unicode/utf8.first") (d := Rows.laid_unicode_utf8_first) (by simp [laid9])) (laidMet.reads h (n := "unicode/utf8.acceptRanges") (d := Rows.laid_unicode_utf8_acceptRanges) (by simp [laid9])) (laidMet.reads h (n := "unmark/unmark.names") (d := Rows.laid_unmark_unmark_names) (by simp [laid9])) h4 (cell_lt (win_of h4 0 8364 rfl)), ?_, ?_⟩
  · exact errs_of (laid_tail (laid_tail (laid_tail (laid_tail (laid_tail (laid_tail h))))))
  · exact pow_of (laidMet.reads h (n := "internal/strconv.uint64pow10") (d := Rows.laid_internal_strconv_uint64pow10) (by simp [laid9]))

theorem laid9_met (os : Os) (args : Array Value) : laidMetH Tryz.prog laid9 ((World.laidAll Tryz.prog os laid9).forCall (fun _ _ => 0) ⟨#[], args, []⟩).memory := by
  rw [MakeChecks.laidMetH_plain _ _ _ (by kernel_rfl)]
  exact laidMet_laidAll _ (by kernel_rfl) (by kernel_rfl)

section
variable {H : Type} {enc : TypeId × Value → H} {W : World}
theorem arg_int {b0 : Nat} {v : Value} {d : DataW H} {p : List MemPlace} (hv : Value.okWide Tryz.prog W .any b0 3 v) (h : DataW.Trod enc Tryz.prog W 0 (fun _ => true) true 3 v d p) : ∃ z : Int, v = .int .i64 z ∧ (-9223372036854775808 ≤ z ∧ z ≤ 9223372036854775807) := by
  obtain ⟨z, rfl, rfl, rfl, hw⟩ := open_int Tryz.underlying3 hv h
  refine ⟨z, rfl, ?_⟩
  simp [Lit.wf] at hw
  have e1 : IntKind.i64.min = -9223372036854775808 := rfl
  have e2 : IntKind.i64.max = 9223372036854775807 := rfl
  omega
end
end Go.Proofs.YtdfmapcnfficlaaGreatDoor

set_option linter.unusedSimpArgs false
set_option linter.unusedVariables false
set_option linter.constructorNameAsVariable false
set_option maxRecDepth 100000
namespace Go.Proofs.YtdfmapcnfficlaaGreatDoor.limits
open Go Go.RowKit Go.Lib Go.ChangeShapes Go.WideShapes Go.Proofs.YtdfmapcnfficlaaGreatDoor

theorem contract (H : Type) (enc : TypeId × Value → H) (W : World) (base : Nat) (args : Array Value) (ds gs : List (DataW H)) (before : List MemPlace)
    (hval : ∀ (j : Nat) t v, Tryz.f9.params[j]? = some t → args[j]? = some v → Value.okWide Tryz.prog W .any base t v)
    (hW : DataW.Whole enc Tryz.prog Tryz.f9.params.toList Rows.limitsSpec.vars false W args.toList ds gs before) (hsm : Rows.uptoSmall H (ds ++ gs) = true) (hL : laidMetH Tryz.prog laid9 W) :
    Calls Tryz.prog 9 args W fun e W' => ∃ v, e = .returned v ∧ Rows.limitsSpec.post enc Tryz.prog Tryz.f9 false true false false W args v W' := by
  have hW' := hW
  obtain ⟨p, q, hA0, hV, rfl, hfz, hnd⟩ := hW
  have hA : DataW.TrodAll enc Tryz.prog W 0 (fun _ => true) true Tryz.f9.params.toList args.toList ds p := hA0
  have hlt : ∀ x ∈ p ++ q, x.block < W.heap.size := fun x hx => by simpa using hW'.lt x hx
  rw [Tryz.params9] at hA hval
  obtain ⟨v0, v1, v2, d0, d1, d2, p0, p1, p2, rfl, rfl, rfl, h0, h1, h2⟩ := trodAll_three hA
  obtain ⟨rfl, rfl⟩ := trodVars_none hV
  have k0 := h0
  have k1 := h1
  have k2 := h2
  obtain ⟨x0, rfl, hx0⟩ := arg_text (hval 0 _ v0 rfl rfl) h0
  obtain ⟨x1, rfl, hx1⟩ := arg_text (hval 1 _ v1 rfl rfl) h1
  obtain ⟨z2, rfl, hz2⟩ := arg_int (hval 2 _ v2 rfl rfl) h2
  have hb := bulk_bound hsm
  simp only [List.append_nil, Rows.uptoBulkAll] at hb
  obtain ⟨hB, ⟨ac, al, hE⟩, hT⟩ := all_of_laid9 hL
  refine (limits_walk x0 x1 z2 W (by omega) hz2 hB hE hT).mono ?_
  rintro e W' ⟨rfl, hm⟩
  have hbl := hm.below
  refine ⟨_, rfl, _, _, _, [], (p0 ++ (p1 ++ p2)), [], hW', trodAll_mk1 (shut_bool Tryz.underlying4 _), ?_, rfl, hbl.frame _, fun h => by cases h⟩
  exact trodAll_mk3 (Below.trod Tryz.laidOut (by kernel_rfl) (of_decide_eq_true (by kernel_rfl)) k0 hbl (fun x hx => hlt x (by simp [hx]))) (Below.trod Tryz.laidOut (by kernel_rfl) (of_decide_eq_true (by kernel_rfl)) k1 hbl (fun x hx => hlt x (by simp [hx]))) (Below.trod Tryz.laidOut (by kernel_rfl) (of_decide_eq_true (by kernel_rfl)) k2 hbl (fun x hx => hlt x (by simp [hx])))

theorem liftedUpto (os : Os) (started : os.Started) (H : Type) (enc : TypeId × Value → H) (F : Stop.Interp) :
    ReturnsInHanded {} Tryz.checked os 9 .any ((Rows.OpenSpec.upto Rows.limitsSpec).preRow enc Tryz.prog Tryz.f9 Rows.limitsUptoRow.domain false Rows.limitsUptoRow.laid) (((Rows.OpenSpec.upto Rows.limitsSpec).at F).post enc Tryz.prog Tryz.f9 false true false false) := by
  have hx : ∃ places, DataW.whole enc Tryz.prog ((World.laidAll Tryz.prog os laid9).forCall (fun _ _ => 0) ⟨#[], #[.string ⟨#[]⟩, .string ⟨#[]⟩, .int .i64 0], []⟩).memory Tryz.f9.params.toList Rows.limitsSpec.vars false #[(.string ⟨#[]⟩ : Value), .string ⟨#[]⟩, .int .i64 0].toList 8 = some ([.lit (.string []), .lit (.string []), .lit (.int .i64 0)], [], places) := ⟨[], by kernel_rfl⟩
  obtain ⟨places, hx⟩ := hx
  refine returnsInHanded_of_row (C := Tryz.checked) (s := Rows.OpenSpec.upto Rows.limitsSpec) Tryz.own started (by kernel_rfl) Tryz.func9
    (witness_zip (enc := enc) (C := Tryz.checked) false (World.laidAll Tryz.prog os laid9) #[.string ⟨#[]⟩, .string ⟨#[]⟩, .int .i64 0] (World.laidAll_os _ _ _) (World.shaped_of_ZipB (by kernel_rfl) (by kernel_rfl)) (by kernel_rfl)
      (OpenSpec.preRow_of_cond 8 hx (by kernel_rfl) (fun k hk => by cases hk; kernel_rfl) (by kernel_rfl) (laid9_met os _))) ?_
  intro W base args ds gs before hval hW _ hc _ hL _ _
  exact contract H enc W base args ds gs before hval hW (hc _ rfl) hL

theorem saidUpto : Rows.LimitsUptoSaid :=
  OpenClaim.holds_of_cond 9 Tryz.f9 rfl rfl rfl rfl rfl rfl rfl ⟨rfl, rfl, rfl, rfl, rfl⟩ rfl rfl rfl rfl rfl (by kernel_rfl) Tryz.func9 (by kernel_rfl)
    (of_decide_eq_true (by kernel_rfl)) (by unfold Func.isWrapper; first | (rw [if_pos (by decide +kernel)]; kernel_rfl) | (rw [if_neg (by decide +kernel)]; exact ⟨rfl, rfl⟩))
    (fun os started H enc _ F => by rw [OpenClaim.pre_eq_preRow]; exact liftedUpto os started H enc F)

theorem plain (f : FuncId) (fn : Func) (hf : Tryz.pinned.checked.prog.funcNamed "unmark/unmarkkeep.Limits" = some f) (hfn : Tryz.pinned.checked.prog.funcs[f]? = some fn) :
    true = Tryz.pinned.checked.prog.looks [] ∧ ∀ (j : Nat) t, fn.params[j]? = some t → Tryz.pinned.checked.prog.wantsStandIn t = false := by
  obtain rfl : f = 9 := Option.some.inj ((show Tryz.prog.funcNamed "unmark/unmarkkeep.Limits" = some 9 by kernel_rfl).symm.trans hf) |>.symm
  obtain rfl : fn = Tryz.f9 := (Option.some.inj (Tryz.func9.symm.trans hfn)).symm
  refine ⟨by kernel_rfl, fun j t ht => ?_⟩
  rw [Tryz.params9] at ht
  have hm := Array.mem_of_getElem? ht
  simp at hm
  rcases hm with rfl | rfl
  · exact (show Tryz.prog.wantsStandIn 9 = false by kernel_rfl)
  · exact (show Tryz.prog.wantsStandIn 3 = false by kernel_rfl)

theorem limits_card_holds : Rows.LimitsUptoCardSaid :=
  holds_tied_goes .later _ _ _ _ saidUpto (by kernel_rfl) limitsUpto_row_tie rfl ⟨rfl, rfl⟩ (by kernel_rfl) (by kernel_rfl) plain (by kernel_rfl)
#print axioms limits_card_holds
end Go.Proofs.YtdfmapcnfficlaaGreatDoor.limits

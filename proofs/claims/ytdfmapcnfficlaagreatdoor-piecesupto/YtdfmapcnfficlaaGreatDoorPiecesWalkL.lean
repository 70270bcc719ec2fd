/-
  Pieces: the walk.
-/
import Derived.Test.YtdfmapcnfficlaaGreatDoorB46
set_option linter.unusedSimpArgs false
set_option linter.unusedVariables false
namespace Go.Proofs.YtdfmapcnfficlaaGreatDoor
open Go Go.RowKit

/-- What stands between pieces. -/
structure Piece (w2 : World) (b : Nat) (x : Str) (r : Str) (q : Sl) (l : List Tok) (wx : World) : Prop where
  ex : ∃ (done : Str) (s : TS) (ta : List Sl), x = done ++ r ∧ Open s done.length ∧ s.limit = x.length ∧ ahead l s = put { limit := x.length } done ∧ ta.length = l.length ∧ l.length ≤ 512 * x.length + 2048 ∧ Tk w2 (fun _ => False) b s (Out q l ta) wx

theorem put_told_small {s : TS} {n : Nat} (h : Open s n) : s.told.length ≤ 512 * n + 3 := by
  have := h.small
  have : s.told.length ≤ sz s := by unfold sz; omega
  omega

theorem ahead_told (p : List Tok) (s : TS) : (ahead p s).told = p ++ s.told := rfl
theorem ahead_take (p : List Tok) (s : TS) : ahead (p ++ s.told) (take s) = ahead p s := by simp [ahead, take]

theorem piece_small {l : List Tok} {s : TS} {x done : Str} (h : ahead l s = put { limit := x.length } done) (hd : done.length ≤ x.length) (hx : x.length ≤ 1073741824) : (l ++ s.told).length ≤ 512 * x.length + 2048 := by
  have h1 : l ++ s.told = (put { limit := x.length } done).told := by rw [← h]; rfl
  rw [h1]
  have := put_told_small (open_put (w0 := default) (own0 := fun _ => False) (Open.new (x.length : Int)) done (by omega)).2.1
  omega

set_option maxHeartbeats 8000000 in
set_option maxRecDepth 1000000 in
theorem pieces_walk (x : Str) (cs ts : List Int) (vc vt : Value) (w : World) (hx : x.length ≤ 16777216) (hc : IntsV w vc cs) (ht : IntsV w vt ts) (hcl : cs.length ≤ 1099511627776) (B : Base w (fun _ => False)) :
    Calls Tryz.prog 7 #[.string ⟨x.toArray⟩, vc, vt] w fun e w' => e = .returned (.bool true) ∧ More w w' := by
  have HAw := hide (awake_does w B)
  have HB := hide B
  have HC := hide hc
  have HTs := hide ht
  clear hc ht B
  go_enter Tryz.func7, Tryz.ntmps7
  go_wp2_with fail
  refine (unhide HAw).mono ?_
  rintro e w1 ⟨rfl, m1⟩
  go_wp2_with fail
  refine (apart_does x w1 (by omega) ((unhide HB).more m1)).mono ?_
  rintro e w2 ⟨v2, rfl, t2, m2'⟩
  have m2 := m1.trans' m2'
  have HB2 := hide ((unhide HB).more m2)
  have HT2 := hide t2
  have HC2 := hide ((unhide HC).more m2)
  have HTs2 := hide ((unhide HTs).more m2)
  have HM2 := hide m2
  clear t2 m2' m1 m2 HB HAw HC HTs
  go_wp2_with fail
  refine (new_does (x.length : Int) w2 (fun _ => False)).mono ?_
  rintro e w3 ⟨rfl, h3⟩
  rw [show max (x.length : Int) 0 = x.length by omega] at h3
  have HP := hide (show Piece w2 w2.heap.size x x nilSl [] w3 from ⟨[], _, [], rfl, Open.new _, rfl, (put_nil _ (Open.new _).wait).symm, rfl, Nat.zero_le _, tk_out_nil h3⟩)
  clear h3
  obtain ⟨ac, capc, rfl, hc1, hc2, hc3⟩ := unhide HC2
  obtain ⟨at', capt, rfl, ht1, ht2, ht3⟩ := unhide HTs2
  have HC1 := hide hc1
  have HT1 := hide ht1
  have HC3 := hide hc3
  have HT3 := hide ht3
  clear hc1 ht1 hc3 ht3 HC2 HTs2
  have hxl : (x.length : Int) ≤ 16777216 := by omega
  go_wp2
  go_loopw [11, 12, 13] (fun o r i wx => ∃ (k : Nat) (y : Str) (q : Sl) (l : List Tok), k ≤ cs.length ∧ i = .int .i64 k ∧ r = .string ⟨y.toArray⟩ ∧ o = .slice q.a l.length q.cap ∧ Hid (Piece w2 w2.heap.size x y q l wx)) (fun _ _ i _ => cs.length - (intOf i).toNat)
  case atStart => exact ⟨0, x, nilSl, [], Nat.zero_le _, rfl, rfl, rfl, HP⟩
  case round =>
    obtain ⟨k, y, q, l, hk, rfl, rfl, rfl, HPc⟩ := hrel
    obtain ⟨done, s, ta, hxd, ho, hlm, hah, hta, hll, hT⟩ := (unhide HPc).ex
    have hmr := kept_more hT.2
    have hxy : x.length = done.length + y.length := by rw [hxd, List.length_append]
    by_cases hlt : k < cs.length
    · obtain ⟨z, hz⟩ : ∃ z, cs[k]? = some z := ⟨cs[k], by simp [hlt]⟩
      have hne : cs ≠ [] := fun e => by subst e; simp at hlt
      obtain ⟨g, o, rfl, hg, hcell⟩ := unhide HC1 hne
      have hcz : wr.cell? ⟨g, o + k, none⟩ = some (.int .i64 z) := by rw [World.cell?_of_block (w := w2) (hmr.block g hg)]; exact hcell k z hz
      have hzr := unhide HC3 z (List.mem_of_getElem? hz)
      have hpr := pickN_range z ((y.length : Int) + 1) (by omega)
      have HPk := hide (pick_does z ((y.length : Int) + 1) wr hzr.1 hzr.2 (by omega) (by omega))
      obtain ⟨kk, hkk⟩ : ∃ kk : Nat, pickN z ((y.length : Int) + 1) = kk := ⟨(pickN z ((y.length : Int) + 1)).toNat, by omega⟩
      rw [hkk] at HPk hpr
      have hkl : kk ≤ y.length := by omega
      have hsl1 : ∀ W, (Instr.slice 9 (.string ⟨y.toArray⟩) none (some (.int .i64 (kk : Int))) none).run Tryz.prog W = .ok (.string ⟨(y.take kk).toArray⟩) W := fun W => by
        rw [run_slice_string_to_if W 9 ⟨y.toArray⟩ .i64 kk Tryz.underlying9, if_pos ⟨by omega, by simp [ByteArray.size]; omega⟩, Int.toNat_natCast, extract_list]
      have hsl2 : ∀ W, (Instr.slice 9 (.string ⟨y.toArray⟩) (some (.int .i64 (kk : Int))) none none).run Tryz.prog W = .ok (.string ⟨(y.drop kk).toArray⟩) W := fun W => by
        rw [run_slice_string_from_if W 9 ⟨y.toArray⟩ .i64 kk Tryz.underlying9, if_pos ⟨by omega, by simp [ByteArray.size]; omega⟩, Int.toNat_natCast, extract_drop]
      have htl : (y.take kk).length = kk := by rw [List.length_take]; omega
      have HW := hide (write_ok ho (y.take kk) (by omega) (by omega) (by omega) (unhide HB2) hT)
      have ho5 := (open_put (w0 := w2) (own0 := fun _ => False) ho (y.take kk) (by omega)).2
      have hxd' : x = (done ++ y.take kk) ++ y.drop kk := by rw [List.append_assoc, List.take_append_drop]; exact hxd
      have hdl : (done ++ y.take kk).length = done.length + (y.take kk).length := List.length_append
      have hah5 : ahead l (put s (y.take kk)) = put { limit := x.length } (done ++ y.take kk) := by rw [← put_ahead, hah, put_put]
      have hyl : (y.length : Int) ≤ 1073741824 := by omega
      have H5 := hide (And.intro ho5.1 (And.intro (ho5.2.trans hlm) (And.intro hxd' (And.intro hdl hah5))))
      have hdn : done.length + kk ≤ x.length := by omega
      have HDN := hide hdn
      clear ho ho5 hxd hxd' hah hah5 hdl hT hcell hz hkk HPc hzr hlm hxy hdn
      go_wp2_with fail
      refine (unhide HPk).mono ?_
      rintro e w4 ⟨rfl, rfl⟩
      clear HPk
      go_wp2_with fail
      refine (unhide HW).mono ?_
      rintro e w5 ⟨rfl, h5⟩
      have m5 := kept_more h5.2
      clear HW
      by_cases hkt : k < ts.length
      · obtain ⟨zt, hzt⟩ : ∃ z, ts[k]? = some z := ⟨ts[k], by simp [hkt]⟩
        have hnet : ts ≠ [] := fun e => by subst e; simp at hkt
        obtain ⟨gt, ot, rfl, hgt, hcellt⟩ := unhide HT1 hnet
        have hczt : w5.cell? ⟨gt, ot + k, none⟩ = some (.int .i64 zt) := by rw [World.cell?_of_block (w := w2) (m5.block gt hgt)]; exact hcellt k zt hzt
        have hzr := unhide HT3 zt (List.mem_of_getElem? hzt)
        clear hcellt hzt
        by_cases he : zt.tmod 2 = 0
        · have e1 : (zt.tmod 2 == 0) = true := by simp [he]
          have H6 := hide (take_does h5)
          have hpl := put_told_small (unhide H5).1
          clear h5 he
          go_wp2_with fail
          refine (unhide H6).mono ?_
          rintro e w6 ⟨r6, ta6, l6, rfl, h6⟩
          have hown := out_own (l1 := tokItem r6 (put s (y.take kk)).told ta6 :: toldItems (put s (y.take kk)).told ta6) h6
          have hcells := fun hp => taken_cells h6 hp
          obtain ⟨i0, hi, hz0, hz1, hz2⟩ := info_parts Tryz.infoToken
          have HG := hide (fun (ao : Option Addr) (cap : Nat) (W : World) h1 h2 h3 => out_grow (w' := W) (ao := ao) (cap := cap) h6 hta h1 h2 h3)
          have hrm : l.length + (put s (y.take kk)).told.length ≤ lim := by have := unhide HDN; unfold lim; omega
          have hn1 : l.length + (put s (y.take kk)).told.length ≤ maxLen := by have := lim_max hrm; omega
          have hn2 : (l.length + (put s (y.take kk)).told.length) * 80 ≤ 140737488355328 := by have := lim_tok hrm; omega
          have hlc := toldCells_length (put s (y.take kk)).told ta6 l6
          have HAT := hide (ahead_take l (put s (y.take kk)))
          have HL6 := hide l6
          have ho6 := hide (open_take (unhide H5).1)
          clear H6 h6 hrm l6 hpl
          generalize put s (y.take kk) = s5 at *
          go_wp2_with (at_builtin; refine wpList_append_any _ rfl (.tmp 79) (.tmp 80) 30 rfl 34 i0 _ 6 80 Tryz.underlying30 hi hz0 hz1 hz2 rfl (by decide) q.a l.length q.cap (toldCells l ta) rfl hown r6.a s5.told.length r6.cap (toldCells s5.told ta6) rfl hlc hcells (toldCells_one _ _) hn1 hn2 ?next)
          case next =>
            intro ao cap w7 h1 h2 h3
            have H7 := hide (unhide HG ao cap w7 h1 h2 h3)
            clear h1 h2 h3 HG hown hcells
            go_wp2
            go_roundw
            case rel => exact ⟨k + 1, y.drop kk, ⟨ao, cap⟩, l ++ s5.told, by omega, by go_num, rfl, by simp, hide ⟨done ++ y.take kk, take s5, ta ++ ta6, (unhide H5).2.2.1, by rw [(unhide H5).2.2.2.1]; exact unhide ho6, (unhide H5).2.1, (unhide HAT).trans (unhide H5).2.2.2.2, by rw [List.length_append, List.length_append, hta, unhide HL6], piece_small (unhide H5).2.2.2.2 (by have := unhide HDN; rw [List.length_append, htl]; exact this) (by omega), unhide H7⟩⟩
            case measure => simp [intOf]; omega
        · have e1 : (zt.tmod 2 == 0) = false := by simpa using he
          clear he
          go_wp2
          go_roundw
          case rel => exact ⟨k + 1, y.drop kk, q, l, by omega, by go_num, rfl, rfl, hide ⟨_, _, ta, (unhide H5).2.2.1, by rw [(unhide H5).2.2.2.1]; exact (unhide H5).1, (unhide H5).2.1, (unhide H5).2.2.2.2, hta, hll, h5⟩⟩
          case measure => simp [intOf]; omega
      · go_wp2
        go_roundw
        case rel => exact ⟨k + 1, y.drop kk, q, l, by omega, by go_num, rfl, rfl, hide ⟨_, _, ta, (unhide H5).2.2.1, by rw [(unhide H5).2.2.2.1]; exact (unhide H5).1, (unhide H5).2.1, (unhide H5).2.2.2.2, hta, hll, h5⟩⟩
        case measure => simp [intOf]; omega
    · have HW := hide (write_ok ho y (by omega) (by omega) (by omega) (unhide HB2) hT)
      have ho5 := (open_put (w0 := w2) (own0 := fun _ => False) ho y (by omega)).2.1
      have hes := endAll_small w2 ho5 (by omega)
      have htk : l ++ (closeT (put s y)).told = toks x := by
        rw [← closeT_ahead, ← put_ahead, hah, put_put, ← hxd]
        rfl
      have hcl2 : (closeT (put s y)).told.length ≤ 512 * x.length + 1032 := by
        rw [closeT_told, List.length_append]
        simp only [List.length_cons, List.length_nil]
        omega
      have HCl := hide (fun W hW => close_ok (w0 := w2) (own0 := fun _ => False) (b := w2.heap.size) (ex := Out q l ta) (w := W) ho5 (by omega) (unhide HB2) hW)
      have HTake := hide (fun W hW => take_does (w0 := w2) (own0 := fun _ => False) (b := w2.heap.size) (s := closeT (put s y)) (ex := Out q l ta) (w := W) hW)
      have HTK := hide htk
      clear ho ho5 hxd hah hT HPc hlm hxy htk hes
      generalize put s y = s5 at *
      generalize closeT s5 = s6 at *
      go_wp2_with fail
      refine (unhide HW).mono ?_
      rintro e w5 ⟨rfl, h5⟩
      go_wp2_with fail
      refine (unhide HCl _ h5).mono ?_
      rintro e w6 ⟨rfl, h6⟩
      go_wp2_with fail
      refine (unhide HTake _ h6).mono ?_
      rintro e w7 ⟨r7, ta7, l7, rfl, h7⟩
      have hown := out_own (l1 := tokItem r7 s6.told ta7 :: toldItems s6.told ta7) h7
      have hcells := fun hp => taken_cells h7 hp
      obtain ⟨i0, hi, hz0, hz1, hz2⟩ := info_parts Tryz.infoToken
      have HG := hide (fun (ao : Option Addr) (cap : Nat) (W : World) h1 h2 h3 => out_grow (w' := W) (ao := ao) (cap := cap) h7 hta h1 h2 h3)
      have hrm : l.length + s6.told.length ≤ lim := by unfold lim; omega
      have hn1 : l.length + s6.told.length ≤ maxLen := by have := lim_max hrm; omega
      have hn2 : (l.length + s6.told.length) * 80 ≤ 140737488355328 := by have := lim_tok hrm; omega
      have hlc := toldCells_length s6.told ta7 l7
      have HL7 := hide (show (ta ++ ta7).length = (l ++ s6.told).length by rw [List.length_append, List.length_append, hta, l7])
      have HRM := hide hrm
      clear h5 h6 h7 l7 hrm HW HCl HTake
      go_wp2_with (at_builtin; refine wpList_append_any _ rfl (.tmp 89) (.tmp 90) 30 rfl 34 i0 _ 6 80 Tryz.underlying30 hi hz0 hz1 hz2 rfl (by decide) q.a l.length q.cap (toldCells l ta) rfl hown r7.a s6.told.length r7.cap (toldCells s6.told ta7) rfl hlc hcells (toldCells_one _ _) hn1 hn2 ?next)
      case next =>
        intro ao cap w8 h1 h2 h3
        have h8 := unhide HG ao cap w8 h1 h2 h3
        have hv := out_toks h8 (unhide HL7)
        rw [unhide HTK] at hv
        have hlen : l.length + s6.told.length = (toks x).length := by rw [← unhide HTK, List.length_append]
        have m8 := kept_more h8.2
        have HS := hide (same_true (toks x) w8 v2 (.slice ao (toks x).length cap) ((unhide HT2).more m8) hv (by rw [← hlen]; exact unhide HRM))
        rw [← hlen] at HS
        have HM8 := hide ((unhide HM2).trans' m8)
        clear h1 h2 h3 HG hown hcells h8 hv hlen m8
        go_wp2_with fail
        refine (unhide HS).mono ?_
        rintro e w9 ⟨rfl, m9⟩
        go_wp2
        go_ret
        exact ⟨rfl, (unhide HM8).trans' m9⟩
end Go.Proofs.YtdfmapcnfficlaaGreatDoor

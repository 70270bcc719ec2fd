/-
  Limits: the walk.
-/
import Derived.Test.YtdfmapcnfficlaaGreatDoorWhatL
import Derived.Test.YtdfmapcnfficlaaGreatDoorBegunWalkL
import Derived.Test.YtdfmapcnfficlaaGreatDoorB46
set_option linter.unusedSimpArgs false
set_option linter.unusedVariables false
namespace Go.Proofs.YtdfmapcnfficlaaGreatDoor
open Go Go.RowKit

theorem endAll_closed (s : TS) (w0 : World) {n : Nat} (h : Open s n) (hn : n ≤ 1073741824) : (endAll s).closed = true ∧ (endAll s).bytes = s.bytes := by
  have hf' : Fine { s with closed := true } := h.fine.head rfl rfl rfl rfl rfl rfl rfl rfl
  have hsz := h.small
  have hpl := h.place
  have hz : sz { s with closed := true } = sz s := rfl
  have hp : ({ s with closed := true } : TS).place = s.place := rfl
  obtain ⟨_, i2, i3, i4, i5, i6, i7⟩ := endPoints_fine (w0 := w0) (own0 := fun _ => False) hf' (by show s.place + 1 ≤ _; omega) (by unfold lim; omega)
  obtain ⟨_, _, j3, _⟩ := look4 (w0 := w0) (own0 := fun _ => False) i2 (c := -1) ⟨by decide, by decide⟩ (by omega) (by unfold lim; omega)
  unfold endAll
  rw [fr_flush_closed, fr_flush_bytes, j3.2.2.2.2.1, j3.2.2.2.1, i7, i5]
  exact ⟨rfl, rfl⟩
theorem closeT_closed (s : TS) (w0 : World) {n : Nat} (h : Open s n) (hn : n ≤ 1073741824) : (closeT s).closed = true ∧ (closeT s).bytes = s.bytes := by
  have := endAll_closed s w0 h hn
  unfold closeT
  rw [fr_tell_closed, fr_tell_bytes]
  exact this

/-- The tokens of a text, without the end. -/
theorem toks_limit (l : Int) (x : Str) : toks x = (endAll (put { limit := l } x)).told ++ [{ kind := 6 }] := by
  have h := toks_two l x []
  rw [List.append_nil] at h
  rw [h, closeT_told]
  congr 2
  have ho := (open_put (w0 := default) (own0 := fun _ => False) (Open.new l) x)
  rw [put_nil _ (put_wait l x)]
where
  put_wait (l : Int) (x : Str) : (firstPt (put { limit := l } x).begun).2 = 0 := by
    rw [put_eq]
    show (firstPt (readN 4 _ { limit := l } _).2).2 = 0
    exact readN_stops 4 _ _ _ (Nat.le_refl _)
  readN_stops (n : Nat) : ∀ (f : Nat) (s : TS) (r : Str), r.length ≤ f → (firstPt (readN n f s r).2).2 = 0
    | 0, s, r, h => by
      have hr : r = [] := List.length_eq_zero_iff.1 (by omega)
      subst hr
      have := firstPt_le []
      simpa [readN] using this
    | f + 1, s, r, h => by
      rw [readN]
      by_cases h0 : (firstPt r).2 = 0
      · rw [if_pos h0]; exact h0
      · rw [if_neg h0]
        have hle := firstPt_le r
        exact readN_stops n f _ _ (by rw [List.length_drop]; omega)

theorem toksV_front {w : World} {a : Option Addr} {cap : Nat} {l r : List Tok} (h : ToksV w (.slice a (l ++ r).length cap) (l ++ r)) : ToksV w (.slice a l.length cap) l := by
  obtain ⟨a', cap', e, hv, hc, hb⟩ := h
  injection e with e1 e2 e3
  subst e1 e3
  refine ⟨a, cap, rfl, fun hne => ?_, by rw [List.length_append] at hc; omega, fun t ht => hb t (by simp [ht])⟩
  obtain ⟨g, eg, hg⟩ := hv (by simp [hne])
  exact ⟨g, eg, by have := hg.take l.length; rwa [List.take_left] at this⟩

set_option maxHeartbeats 16000000 in
set_option maxRecDepth 1000000 in
theorem limits_walk_over (x y : Str) (z : Int) (n : Nat) (w : World) {ac al : Addr} (hx : x.length ≤ 16777216) (hz : -9223372036854775808 ≤ z ∧ z ≤ 9223372036854775807) (hn : pickN z ((x.length : Int) + 3) = n) (hlt : n < x.length) (B : Base w (fun _ => False)) (E : Errs w ac al) (T : Pow w) :
    Calls Tryz.prog 9 #[.string ⟨x.toArray⟩, .string ⟨y.toArray⟩, .int .i64 z] w fun e w' => e = .returned (.bool true) ∧ More w w' := by
  have HAw := hide (awake_does w B)
  have HB := hide B
  have HEr := hide E
  have HPw := hide T
  have HP := hide (fun W => pick_does z ((x.length : Int) + 3) W hz.1 hz.2 (by omega) (by omega))
  rw [hn] at HP
  have hxl : (x.length : Int) ≤ 16777216 := by omega
  have hltI : (n : Int) < x.length := by omega
  have hsl : ∀ W, (Instr.slice 9 (.string ⟨x.toArray⟩) none (some (.int .i64 (n : Int))) none).run Tryz.prog W = .ok (.string ⟨(x.take n).toArray⟩) W := fun W => by
    rw [run_slice_string_to_if W 9 ⟨x.toArray⟩ .i64 n Tryz.underlying9, if_pos ⟨by omega, by simp [ByteArray.size]; omega⟩, Int.toNat_natCast, extract_list]
  have htl : (x.take n).length = n := by rw [List.length_take]; omega
  clear B E T hn
  go_enter Tryz.func9, Tryz.ntmps9
  go_wp2_with fail
  refine (unhide HAw).mono ?_
  rintro e w1 ⟨rfl, m1⟩
  have HM1 := hide m1
  clear m1 HAw
  go_wp2_with fail
  refine (unhide HP w1).mono ?_
  rintro e w2 ⟨rfl, rfl⟩
  clear HP
  go_wp2_with fail
  refine (new_does (n : Int) w2 (fun _ => False)).mono ?_
  rintro e w3 ⟨rfl, h3⟩
  rw [show max (n : Int) 0 = n by omega] at h3
  have ho := Open.new (n : Int)
  have ho4 := (open_put (w0 := w2) (own0 := fun _ => False) ho (x.take n) (by omega)).2.1
  have HE2 := hide ((unhide HEr).more (unhide HM1))
  have HP2 := hide ((unhide HPw).more (unhide HM1))
  have HB2 := hide ((unhide HB).more (unhide HM1))
  have HW := hide (write_over (n := 0) (k := n) (ac := ac) (al := al) (fun W hW => (unhide HE2).more (kept_more hW)) ho x (by simp) hlt (by omega) (by omega) (unhide HB2) h3)
  have hec := endAll_closed _ w2 ho4 (by omega)
  have hby := ho4.by'
  have HTL := hide (toks_limit (n : Int) (x.take n))
  have hes := endAll_small w2 ho4 (by omega)
  clear ho ho4 h3 HEr HPw HB
  generalize put { limit := (n : Int) } (x.take n) = s1 at *
  go_wp2_with fail
  refine (unhide HW).mono ?_
  rintro e w4 ⟨v4, rfl, a4, h4⟩
  have m4 := kept_more h4.2
  have HWh := hide (what_limit ((unhide HE2).more m4) a4 (by show (0 : Int) ≤ n; omega) (by show (n : Int) ≤ 2147483648; omega) ((unhide HP2).more m4))
  have H4 := hide h4
  have M4 := hide m4
  clear a4 h4 m4 HW
  go_wp2_with fail
  refine (unhide HWh).mono ?_
  rintro e w5 ⟨rfl, m5⟩
  have H5 := hide ((unhide H4).more m5)
  have M5 := hide ((unhide M4).trans' m5)
  clear m5 H4 M4 HWh
  go_wp2_with fail
  refine (take_does (unhide H5)).mono ?_
  rintro e w6 ⟨r6, ta6, l6, rfl, h6⟩
  have HV6 := hide (taken_toks h6 l6)
  have m6 := kept_more h6.2
  have HA := hide (apart_does (x.take n) w6 (by omega) ((unhide HB2).more m6))
  have H6 := hide h6
  have M6 := hide m6
  clear h6 m6 l6 H5
  go_wp2_with fail
  refine (unhide HA).mono ?_
  rintro e w7 ⟨v7, rfl, t7, m7⟩
  rw [unhide HTL] at t7
  have HV7 := hide ((unhide HV6).more m7)
  have H7 := hide ((unhide H6).more m7)
  have M7 := hide ((unhide M6).trans' m7)
  have HT7 := hide t7
  obtain ⟨a7, cap7, e7, _, hc7, _⟩ := t7
  subst e7
  have HF := hide (toksV_front (unhide HT7))
  have hlen : ((endAll s1).told ++ [({ kind := 6 } : Tok)]).length = (endAll s1).told.length + 1 := by simp
  rw [hlen] at hc7 ⊢
  have HSm := hide (same_true (endAll s1).told w7 _ _ (unhide HV7) (unhide HF) (by unfold lim; omega))
  have hL : ((endAll s1).told.length : Int) ≤ 17179869184 := by omega
  have hb1 : s1.bytes = n := by rw [hby, htl]; simp
  have HW2 := hide (fun W (hW : Tk w2 (fun _ => False) w2.heap.size (take (endAll s1)) (tokItem r6 (endAll s1).told ta6 :: (toldItems (endAll s1).told ta6 ++ [])) W) => write_closed (ac := ac) (al := al) ((unhide HE2).more (kept_more hW.2)) y (show (take (endAll s1)).closed = true from hec.1) hW)
  have HC2 := hide (fun W (hW : Tk w2 (fun _ => False) w2.heap.size (take (endAll s1)) (tokItem r6 (endAll s1).told ta6 :: (toldItems (endAll s1).told ta6 ++ [])) W) => close_closed (ac := ac) (al := al) ((unhide HE2).more (kept_more hW.2)) (show (take (endAll s1)).closed = true from hec.1) hW)
  rw [show (take (endAll s1)).bytes = n from hec.2.trans hb1] at HW2 HC2
  have hnI : (n : Int) ≤ 16777216 := by omega
  clear hlen HV6 HV7 HT7 HF hes hec hby hb1 HTL H6 M6 HA
  generalize hLL : (endAll s1).told.length = L at *
  go_wp2_with fail
  refine (unhide HSm).mono ?_
  rintro e w8 ⟨rfl, m8⟩
  have H8 := hide ((unhide H7).more m8)
  have M8 := hide ((unhide M7).trans' m8)
  clear m8 H7 M7 HSm
  go_wp2_with fail
  refine (unhide HW2 _ (unhide H8)).mono ?_
  rintro e w9 ⟨v9, rfl, a9, m9⟩
  have H9 := hide ((unhide H8).more m9)
  have M9 := hide ((unhide M8).trans' m9)
  have A9 := hide a9
  clear m9 H8 M8 a9 HW2
  go_wp2_with fail
  refine (unhide HC2 _ (unhide H9)).mono ?_
  rintro e w10 ⟨v10, rfl, a10, m10⟩
  have H10 := hide ((unhide H9).more m10)
  have M10 := hide ((unhide M9).trans' m10)
  have HWA := hide (what_closed ((unhide HE2).more (unhide M10)) ((unhide A9).more m10) (by omega) (by omega) ((unhide HP2).more (unhide M10)))
  have A10 := hide a10
  clear m10 a10 A9 H9 M9 HC2
  go_wp2_with fail
  refine (unhide HWA).mono ?_
  rintro e w11 ⟨rfl, m11⟩
  have H11 := hide ((unhide H10).more m11)
  have M11 := hide ((unhide M10).trans' m11)
  have HWB := hide (what_closed ((unhide HE2).more (unhide M11)) ((unhide A10).more m11) (by omega) (by omega) ((unhide HP2).more (unhide M11)))
  clear m11 A10 H10 M10 HWA
  go_wp2_with fail
  refine (unhide HWB).mono ?_
  rintro e w12 ⟨rfl, m12⟩
  have H12 := hide ((unhide H11).more m12)
  clear m12 H11 M11 HWB
  go_wp2_with fail
  refine (take_does (unhide H12)).mono ?_
  rintro e w13 ⟨r13, ta13, l13, rfl, h13⟩
  have HM := hide ((unhide HM1).trans' (kept_more h13.2))
  clear h13 l13 H12
  rw [show (take (endAll s1)).told.length = 0 from rfl]
  go_wp2
  go_ret
  exact ⟨rfl, unhide HM⟩
theorem toks_close (l : Int) (x : Str) : toks x = (closeT (put { limit := l } x)).told := by
  rw [closeT_told, toks_limit l x]

set_option maxHeartbeats 16000000 in
set_option maxRecDepth 1000000 in
theorem limits_walk_in (x y : Str) (z : Int) (n : Nat) (w : World) {ac al : Addr} (hx : x.length ≤ 16777216) (hz : -9223372036854775808 ≤ z ∧ z ≤ 9223372036854775807) (hn : pickN z ((x.length : Int) + 3) = n) (hle : x.length ≤ n) (hn2 : n ≤ 16777220) (B : Base w (fun _ => False)) (E : Errs w ac al) (T : Pow w) :
    Calls Tryz.prog 9 #[.string ⟨x.toArray⟩, .string ⟨y.toArray⟩, .int .i64 z] w fun e w' => e = .returned (.bool true) ∧ More w w' := by
  have HAw := hide (awake_does w B)
  have HB := hide B
  have HEr := hide E
  have HPw := hide T
  have HP := hide (fun W => pick_does z ((x.length : Int) + 3) W hz.1 hz.2 (by omega) (by omega))
  rw [hn] at HP
  have hxl : (x.length : Int) ≤ 16777216 := by omega
  have hleI : (x.length : Int) ≤ n := by omega
  clear B E T hn
  go_enter Tryz.func9, Tryz.ntmps9
  go_wp2_with fail
  refine (unhide HAw).mono ?_
  rintro e w1 ⟨rfl, m1⟩
  have HM1 := hide m1
  clear m1 HAw
  go_wp2_with fail
  refine (unhide HP w1).mono ?_
  rintro e w2 ⟨rfl, rfl⟩
  clear HP
  go_wp2_with fail
  refine (new_does (n : Int) w2 (fun _ => False)).mono ?_
  rintro e w3 ⟨rfl, h3⟩
  rw [show max (n : Int) 0 = n by omega] at h3
  have ho := Open.new (n : Int)
  have ho4 := (open_put (w0 := w2) (own0 := fun _ => False) ho x (by omega)).2.1
  have HE2 := hide ((unhide HEr).more (unhide HM1))
  have HP2 := hide ((unhide HPw).more (unhide HM1))
  have HB2 := hide ((unhide HB).more (unhide HM1))
  have HW := hide (write_ok (n := 0) ho x (by omega) (by show ((0 : Nat) : Int) + x.length ≤ (n : Int); omega) (by show (n : Int) ≤ _; omega) (unhide HB2) h3)
  have HCl := hide (fun W hW => close_ok (w0 := w2) (own0 := fun _ => False) (b := w2.heap.size) (ex := []) (w := W) ho4 (by omega) (unhide HB2) hW)
  have hec := closeT_closed _ w2 ho4 (by omega)
  have hby := ho4.by'
  have HTL := hide (toks_close (n : Int) x)
  have HTS := hide (toks_small_len x (by omega))
  clear ho ho4 h3 HEr HPw HB
  generalize put { limit := (n : Int) } x = s1 at *
  go_wp2_with fail
  refine (unhide HW).mono ?_
  rintro e w4 ⟨rfl, h4⟩
  have H4 := hide h4
  clear h4 HW
  go_wp2_with fail
  refine (what_nil w4).mono ?_
  rintro e w5 ⟨rfl, rfl⟩
  go_wp2_with fail
  refine (unhide HCl _ (unhide H4)).mono ?_
  rintro e w5 ⟨rfl, h5⟩
  have H5 := hide h5
  clear h5 H4 HCl
  go_wp2_with fail
  refine (take_does (unhide H5)).mono ?_
  rintro e w6 ⟨r6, ta6, l6, rfl, h6⟩
  have HV6 := hide (taken_toks h6 l6)
  have m6 := kept_more h6.2
  have HA := hide (apart_does x w6 (by omega) ((unhide HB2).more m6))
  have H6 := hide h6
  have M6 := hide m6
  clear h6 m6 l6 H5
  go_wp2_with fail
  refine (unhide HA).mono ?_
  rintro e w7 ⟨v7, rfl, t7, m7⟩
  have hes := unhide HTS
  rw [unhide HTL] at t7 hes
  have HV7 := hide ((unhide HV6).more m7)
  have H7 := hide ((unhide H6).more m7)
  have M7 := hide ((unhide M6).trans' m7)
  have HT7 := hide t7
  obtain ⟨a7, cap7, e7, _, hc7, _⟩ := t7
  subst e7
  have HSm := hide (same_true (closeT s1).told w7 _ _ (unhide HV7) (unhide HT7) (by unfold lim; omega))
  have hL : ((closeT s1).told.length : Int) ≤ 17179869184 := by omega
  have hpos : 0 < (closeT s1).told.length := by rw [closeT_told, List.length_append]; simp
  have hb1 : s1.bytes = x.length := by rw [hby]; simp
  have HW2 := hide (fun W (hW : Tk w2 (fun _ => False) w2.heap.size (take (closeT s1)) (tokItem r6 (closeT s1).told ta6 :: (toldItems (closeT s1).told ta6 ++ [])) W) => write_closed (ac := ac) (al := al) ((unhide HE2).more (kept_more hW.2)) y (show (take (closeT s1)).closed = true from hec.1) hW)
  have HC2 := hide (fun W (hW : Tk w2 (fun _ => False) w2.heap.size (take (closeT s1)) (tokItem r6 (closeT s1).told ta6 :: (toldItems (closeT s1).told ta6 ++ [])) W) => close_closed (ac := ac) (al := al) ((unhide HE2).more (kept_more hW.2)) (show (take (closeT s1)).closed = true from hec.1) hW)
  rw [show (take (closeT s1)).bytes = x.length from hec.2.trans hb1] at HW2 HC2
  have hnI : (n : Int) ≤ 16777220 := by omega
  clear HV6 HV7 HT7 hes hec hby hb1 HTL H6 M6 HA HTS
  generalize hLL : (closeT s1).told.length = L at *
  go_wp2_with fail
  refine (unhide HSm).mono ?_
  rintro e w8 ⟨rfl, m8⟩
  have H8 := hide ((unhide H7).more m8)
  have M8 := hide ((unhide M7).trans' m8)
  clear m8 H7 M7 HSm
  go_wp2_with fail
  refine (unhide HW2 _ (unhide H8)).mono ?_
  rintro e w9 ⟨v9, rfl, a9, m9⟩
  have H9 := hide ((unhide H8).more m9)
  have M9 := hide ((unhide M8).trans' m9)
  have A9 := hide a9
  clear m9 H8 M8 a9 HW2
  go_wp2_with fail
  refine (unhide HC2 _ (unhide H9)).mono ?_
  rintro e w10 ⟨v10, rfl, a10, m10⟩
  have H10 := hide ((unhide H9).more m10)
  have M10 := hide ((unhide M9).trans' m10)
  have HWA := hide (what_closed ((unhide HE2).more (unhide M10)) ((unhide A9).more m10) (by omega) (by omega) ((unhide HP2).more (unhide M10)))
  have A10 := hide a10
  clear m10 a10 A9 H9 M9 HC2
  go_wp2_with fail
  refine (unhide HWA).mono ?_
  rintro e w11 ⟨rfl, m11⟩
  have H11 := hide ((unhide H10).more m11)
  have M11 := hide ((unhide M10).trans' m11)
  have HWB := hide (what_closed ((unhide HE2).more (unhide M11)) ((unhide A10).more m11) (by omega) (by omega) ((unhide HP2).more (unhide M11)))
  clear m11 A10 H10 M10 HWA
  go_wp2_with fail
  refine (unhide HWB).mono ?_
  rintro e w12 ⟨rfl, m12⟩
  have H12 := hide ((unhide H11).more m12)
  clear m12 H11 M11 HWB
  go_wp2_with fail
  refine (take_does (unhide H12)).mono ?_
  rintro e w13 ⟨r13, ta13, l13, rfl, h13⟩
  have HM := hide ((unhide HM1).trans' (kept_more h13.2))
  clear h13 l13 H12
  rw [show (take (closeT s1)).told.length = 0 from rfl]
  go_wp2
  go_ret
  exact ⟨rfl, unhide HM⟩

theorem limits_walk (x y : Str) (z : Int) (w : World) {ac al : Addr} (hx : x.length ≤ 16777216) (hz : -9223372036854775808 ≤ z ∧ z ≤ 9223372036854775807) (B : Base w (fun _ => False)) (E : Errs w ac al) (T : Pow w) :
    Calls Tryz.prog 9 #[.string ⟨x.toArray⟩, .string ⟨y.toArray⟩, .int .i64 z] w fun e w' => e = .returned (.bool true) ∧ More w w' := by
  have hr := pickN_range z ((x.length : Int) + 3) (by omega)
  obtain ⟨n, hn⟩ : ∃ n : Nat, pickN z ((x.length : Int) + 3) = n := ⟨(pickN z ((x.length : Int) + 3)).toNat, by omega⟩
  by_cases hlt : n < x.length
  · exact limits_walk_over x y z n w hx hz hn hlt B E T
  · exact limits_walk_in x y z n w hx hz hn (by omega) (by omega) B E T
end Go.Proofs.YtdfmapcnfficlaaGreatDoor

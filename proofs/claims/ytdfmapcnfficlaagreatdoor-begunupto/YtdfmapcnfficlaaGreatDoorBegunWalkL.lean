/-
  Begun: what is told is a beginning of what every longer text tells; the walk.
-/
import Derived.Test.YtdfmapcnfficlaaGreatDoorWfAL
import Derived.Test.YtdfmapcnfficlaaGreatDoorSizeCL
import Derived.Test.YtdfmapcnfficlaaGreatDoorB45
import Derived.Laws.IdiomStrings
set_option linter.unusedSimpArgs false
set_option linter.unusedVariables false
namespace Go.Proofs.YtdfmapcnfficlaaGreatDoor
open Go Go.RowKit

theorem put_over (h : TS) (p : List Tok) (s : TS) (x : Str) (hb : h.begun = s.begun) : ∃ h', put (over h p s) x = over h' p (put s x) ∧ h'.begun = (put s x).begun := by
  rw [put_eq, put_eq s x]
  rw [show (over h p s).begun = s.begun from hb, over_readN]
  refine ⟨{ h with begun := (readN 4 (s.begun ++ x).length s (s.begun ++ x)).2, bytes := h.bytes + x.length }, ?_, rfl⟩
  simp only [over, List.nil_append]
theorem closeT_over (h : TS) (p : List Tok) (s : TS) (hb : h.begun = s.begun) : (closeT (over h p s)).told = p ++ (closeT s).told := by
  rw [closeT_told, closeT_told]
  obtain ⟨h', e, _⟩ := endAll_over h p s hb
  rw [e]
  show (p ++ (endAll s).told) ++ _ = _
  rw [List.append_assoc]

/-- The limit is nothing to the tokens. -/
theorem toks_two (l : Int) (x y : Str) : toks (x ++ y) = (closeT (put (put { limit := l } x) y)).told := by
  unfold toks
  rw [← put_put]
  have e : ({ limit := ((x ++ y).length : Int) } : TS) = over { limit := ((x ++ y).length : Int) } [] { limit := l } := rfl
  rw [e]
  obtain ⟨h1, e1, b1⟩ := put_over { limit := ((x ++ y).length : Int) } [] { limit := l } x rfl
  rw [e1]
  obtain ⟨h2, e2, b2⟩ := put_over h1 [] (put { limit := l } x) y b1
  rw [e2, closeT_over h2 [] _ b2]
  rfl
theorem toks_begin (l : Int) (x y : Str) : toks (x ++ y) = (put { limit := l } x).told ++ (closeT (put (take (put { limit := l } x)) y)).told := by
  rw [toks_two l x y]
  generalize put { limit := l } x = s
  rw [← closeT_ahead, ← put_ahead]
  congr 2
  simp [ahead, take]
theorem toks_done (l : Int) (x y : Str) (hT : (put { limit := l } x).text ≠ []) : DoneT (put { limit := l } x).text (put { limit := l } x).told.length (toks (x ++ y)) := by
  rw [toks_two l x y]
  refine pd_closeT hT (pd_put hT y ?_)
  exact ⟨Nat.le_refl _, .inl ⟨[], [], by simp, fun t ht => (by cases ht), by simp⟩⟩

theorem toks_small_len (x : Str) (hx : x.length ≤ 1073741824) : (toks x).length ≤ 512 * x.length + 1032 := by
  have ho := (open_put (w0 := default) (own0 := fun _ => False) (Open.new (x.length : Int)) x (by omega)).2.1
  have := endAll_small default ho (by omega)
  unfold toks
  rw [closeT_told, List.length_append]
  simp only [List.length_cons, List.length_nil]
  omega

theorem sz_take (s : TS) : sz (take s) ≤ sz s := by simp [sz, take]
theorem size_runes (x : Str) : ∀ (f i : Nat) (acc : Array Value), (Conv.runesFrom ⟨x.toArray⟩ f i acc).size = acc.size + cntL f (x.drop i)
  | 0, _, acc => by simp [Conv.runesFrom, cntL]
  | f + 1, i, acc => by
    unfold Conv.runesFrom
    rw [cntL]
    have hs : (⟨x.toArray⟩ : ByteArray).size = x.length := by simp [ByteArray.size]
    by_cases hi : i < x.length
    · rw [if_pos (by rw [hs]; exact hi), if_neg (by simp; omega)]
      have := size_runes x f (i + (Utf8.decode ⟨x.toArray⟩ i).2) (acc.push (.int .i32 (Int.ofNat (Utf8.decode ⟨x.toArray⟩ i).1)))
      rw [decode_drop] at this ⊢
      simp only at this ⊢
      rw [this, List.drop_drop]
      simp
      omega
    · rw [if_neg (by rw [hs]; exact hi), if_pos (by simp; omega)]
      rfl
theorem runes_size (x : Str) : (Conv.runesFrom ⟨x.toArray⟩ (⟨x.toArray⟩ : ByteArray).size 0 #[]).size = runeCount x := by
  rw [size_runes]
  simp [runeCount, ByteArray.size]
theorem count_le (x : Str) : runeCount x ≤ x.length := cntL_le _ _

set_option maxHeartbeats 8000000 in
set_option maxRecDepth 1000000 in
theorem begun_walk (x y : Str) (w : World) (hx : x.length + y.length ≤ 16777216) (B : Base w (fun _ => False)) :
    Calls Tryz.prog 6 #[.string ⟨x.toArray⟩, .string ⟨y.toArray⟩] w fun e w' => e = .returned (.bool true) ∧ More w w' := by
  have HAw := hide (awake_does w B)
  have HB := hide B
  have hcat := fun W => cat_run x y W (by unfold lim; omega)
  have hxl : (x.length : Int) ≤ 16777216 := by omega
  have hxy : (x ++ y).length ≤ 16777216 := by rw [List.length_append]; omega
  have HXY := hide hxy
  clear B hxy
  go_enter Tryz.func6, Tryz.ntmps6
  go_wp2_with fail
  refine (unhide HAw).mono ?_
  rintro e w1 ⟨rfl, m1⟩
  have hcat1 := hcat w1
  go_wp2_with fail
  refine (apart_does (x ++ y) w1 (by have := unhide HXY; omega) ((unhide HB).more m1)).mono ?_
  rintro e w2 ⟨v2, rfl, t2, m2'⟩
  have m2 := m1.trans' m2'
  have HB2 := hide ((unhide HB).more m2)
  have HT2 := hide t2
  have HM2 := hide m2
  clear t2 m2' m1 m2 HB HAw hcat hcat1
  go_wp2_with fail
  refine (new_does (x.length : Int) w2 (fun _ => False)).mono ?_
  rintro e w3 ⟨rfl, h3⟩
  rw [show max (x.length : Int) 0 = x.length by omega] at h3
  have ho := Open.new (x.length : Int)
  have HW := hide (write_ok (n := 0) ho x (by omega) (by simp) (by show (x.length : Int) ≤ _; omega) (unhide HB2) h3)
  have ho4 := (open_put (w0 := w2) (own0 := fun _ => False) ho x (by omega)).2.1
  have hsm := ho4.small
  have hbeg := toks_begin (x.length : Int) x y
  have HD := hide (toks_done (x.length : Int) x y)
  have HWF := hide (wa_put x (wa_new (x.length : Int))).1
  have HTX := hide (fun t ht hk => toks_text w2 (x ++ y) (by have := unhide HXY; omega) (t := t) ht hk)
  have HTS := hide (toks_small_len (x ++ y) (by have := unhide HXY; omega))
  have hwt : sz (put { limit := (x.length : Int) } x) ≤ lim := by unfold lim; omega
  have HTk := hide (fun W hW => take_does (w0 := w2) (own0 := fun _ => False) (b := w2.heap.size) (s := put { limit := (x.length : Int) } x) (ex := []) (w := W) hW)
  have HH := hide (fun ex W hW => held_does (w0 := w2) (own0 := fun _ => False) (b := w2.heap.size) (s := take (put { limit := (x.length : Int) } x)) (ex := ex) (w := W) hW (Nat.le_trans (sz_take _) hwt))
  rw [show (take (put { limit := (x.length : Int) } x)).text = (put { limit := (x.length : Int) } x).text from rfl] at HH
  clear ho ho4 hsm hwt h3
  generalize put { limit := (x.length : Int) } x = s1 at *
  generalize toks (x ++ y) = al at *
  go_wp2_with fail
  refine (unhide HW).mono ?_
  rintro e w4 ⟨rfl, h4⟩
  go_wp2_with fail
  refine (unhide HTk _ h4).mono ?_
  rintro e w5 ⟨r5, ta5, l5, rfl, h5⟩
  go_wp2_with fail
  refine (unhide HH _ _ h5).mono ?_
  rintro e w6 ⟨rfl, h6⟩
  have HV6 := hide (taken_toks h6 l5)
  have m6 := kept_more h6.2
  have HV2 := hide ((unhide HT2).more m6)
  have HM6 := hide ((unhide HM2).trans' m6)
  have hlen : s1.told.length ≤ al.length := by rw [hbeg, List.length_append]; omega
  have htake : al.take s1.told.length = s1.told := by rw [hbeg, List.take_left]
  have HTA := hide htake
  have hal := unhide HTS
  have hnn : runeCount s1.text ≤ s1.text.length := count_le _
  clear h4 h5 h6 l5 m6 HT2 HM2 HB2 HW HTk HH hbeg htake HTS
  obtain ⟨a2, cap2, rfl, hv2, hc2, hb2⟩ := unhide HV2
  have HV := hide hv2
  have HBd := hide hb2
  clear hv2 hb2 HV2
  have hv1 : ToksV w6 (.slice a2 s1.told.length cap2) s1.told := by
    refine ⟨a2, cap2, rfl, fun hne => ?_, by omega, fun t ht => ?_⟩
    · obtain ⟨g, e, hg⟩ := unhide HV (fun e => hne (by rw [e] at hlen; exact List.length_eq_zero_iff.1 (by simpa using hlen)))
      exact ⟨g, e, by rw [← unhide HTA]; exact hg.take _⟩
    · exact unhide HBd t (by rw [← unhide HTA] at ht; exact List.mem_of_mem_take ht)
  have HSm := hide (same_true s1.told w6 _ _ (unhide HV6) hv1 (by unfold lim; have := unhide HXY; omega))
  clear hv1 HV6
  have hcc : s1.told.length ≤ cap2 := by omega
  have hal2 : al.length ≤ 17179869184 := by have := unhide HXY; omega
  clear hal
  go_wp2_with fail
  refine (unhide HSm).mono ?_
  rintro e w7 ⟨rfl, m7⟩
  have HM7 := hide ((unhide HM6).trans' m7)
  have HV7 := hide (fun hne => (unhide HV hne).imp fun g hg => And.intro hg.1 (hg.2.more m7))
  clear HSm HM6 HV m7
  by_cases hT : s1.text = []
  · have hn0 : runeCount s1.text = 0 := by rw [hT]; simp [runeCount, cntL]
    rw [hn0]
    go_wp2
    go_loopw [13] (fun i wx => i = .int .i64 s1.told.length ∧ wx = w7) (fun _ _ => 0)
    case atStart => exact ⟨rfl, rfl⟩
    case round =>
      obtain ⟨rfl, rfl⟩ := hrel
      by_cases hlt : s1.told.length < al.length
      · go_wp2
        go_ret
        exact ⟨rfl, unhide HM7⟩
      · go_wp2
        go_ret
        exact ⟨rfl, unhide HM7⟩
  · obtain ⟨_, ws, xs, r, hd, hw⟩ := unhide HD hT
    have hnp : 0 < runeCount s1.text := by
      rw [count_step hT]
      omega
    have hcnt : runeCount s1.text ≤ runeCount (s1.text ++ xs) := by
      rw [(unhide HWF) xs]
      omega
    have hlen2 : s1.told.length + ws.length < al.length := by
      have := congrArg List.length hd
      rw [List.length_drop, List.length_append, List.length_cons] at this
      omega
    have hat : ∀ k, k < ws.length → ∃ t, al[s1.told.length + k]? = some t ∧ t.kind = 5 := fun k hk => by
      have h1 : (al.drop s1.told.length)[k]? = ws[k]? := by rw [hd, List.getElem?_append_left hk]
      rw [List.getElem?_drop] at h1
      exact ⟨ws[k], by rw [h1]; simp [hk], hw _ (List.getElem_mem hk)⟩
    have hlast : al[s1.told.length + ws.length]? = some { kind := 0, text := s1.text ++ xs } := by
      have h1 : (al.drop s1.told.length)[ws.length]? = some { kind := 0, text := s1.text ++ xs } := by rw [hd, List.getElem?_append_right (Nat.le_refl _)]; simp
      rw [List.getElem?_drop] at h1
      exact h1
    obtain ⟨g, rfl, hTA⟩ := unhide HV7 (fun e => by rw [e] at hlen2; simp at hlen2)
    have HTA7 := hide hTA
    have hglt := hTA.lt
    have hrc : runeCount (s1.text ++ xs) ≤ 70368744177664 := by
      have h1 := unhide HTX _ (List.mem_of_getElem? hlast) rfl
      have h2 := count_le (s1.text ++ xs)
      have h3 := unhide HXY
      simp only at h1
      omega
    clear hTA hd hw HD HV7 hT HWF
    generalize runeCount s1.text = n at *
    go_wp2
    go_loopw [13] (fun i wx => ∃ k : Nat, k ≤ ws.length ∧ i = .int .i64 ((s1.told.length + k : Nat) : Int) ∧ More w7 wx) (fun i _ => al.length - (intOf i).toNat)
    case atStart => exact ⟨0, Nat.zero_le _, by simp, More.refl _⟩
    case round =>
      obtain ⟨k, hk, rfl, hm⟩ := hrel
      by_cases hkl : k < ws.length
      · obtain ⟨t, ht, htk⟩ := hat k hkl
        obtain ⟨xt, d0, d1, d2, d3, d4, d5, _⟩ := ((unhide HTA7).more hm).cells _ t ht
        have hg' : g < wr.heap.size := ((unhide HTA7).more hm).lt
        rw [htk] at d0
        clear ht
        go_wp2
        go_roundw
        case rel => exact ⟨k + 1, by omega, by go_num, hm.alloc _⟩
        case measure => simp [intOf]; omega
      · have hk' : k = ws.length := by omega
        subst hk'
        obtain ⟨xt, d0, d1, d2, d3, d4, d5, _⟩ := ((unhide HTA7).more hm).cells _ _ hlast
        have hg' : g < wr.heap.size := ((unhide HTA7).more hm).lt
        have hcv : ∀ W, (convert 9 43 (.string ⟨(s1.text ++ xs).toArray⟩)).run Tryz.prog W = .ok (.slice (some ⟨W.heap.size, 0, none⟩) (runeCount (s1.text ++ xs)) (grownCap W (runeCount (s1.text ++ xs)) 0 21)) (W.drew.alloc (.cells (Conv.runesFrom ⟨(s1.text ++ xs).toArray⟩ (⟨(s1.text ++ xs).toArray⟩ : ByteArray).size 0 #[] ++ Array.replicate (grownCap W (runeCount (s1.text ++ xs)) 0 21 - runeCount (s1.text ++ xs)) (.int .i32 0)) 21)) := fun W => by
          have := run_runes_of_string (P := Tryz.prog) W 9 43 21 ⟨(s1.text ++ xs).toArray⟩ Tryz.underlying9 Tryz.underlying43 Tryz.underlying21 (by rw [runes_size]; exact hrc)
          rw [runes_size] at this
          exact this
        clear hlast hat
        generalize s1.text ++ xs = tx at *
        generalize runeCount tx = rc at *
        generalize (fun W : World => Conv.runesFrom ⟨tx.toArray⟩ (⟨tx.toArray⟩ : ByteArray).size 0 #[] ++ Array.replicate (grownCap W rc 0 21 - rc) (.int .i32 0)) = big at *
        go_wp2
        go_ret
        exact ⟨rfl, (unhide HM7).trans' (hm.trans' (by repeat (first | exact More.refl _ | refine More.alloc ?_ _ | refine More.drew ?_)))⟩
end Go.Proofs.YtdfmapcnfficlaaGreatDoor

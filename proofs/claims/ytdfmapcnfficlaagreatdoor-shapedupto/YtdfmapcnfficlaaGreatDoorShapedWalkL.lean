/-
  Shaped: the walk.
-/
import Derived.Test.YtdfmapcnfficlaaGreatDoorShapeNL
import Derived.Test.YtdfmapcnfficlaaGreatDoorB45
import Derived.Laws.IdiomStrings
set_option linter.unusedSimpArgs false
set_option linter.unusedVariables false
namespace Go.Proofs.YtdfmapcnfficlaaGreatDoor
open Go Go.RowKit

theorem prs_len (ps : List (Str × Str)) : (ps.flatMap (fun p => [p.1, p.2])).length = 2 * ps.length := by
  induction ps with
  | nil => rfl
  | cons a l ih => simp only [List.flatMap_cons, List.length_append, ih, List.length_cons, List.length_nil]; omega
theorem prs_at : ∀ (ps : List (Str × Str)) (m : Nat), (ps.flatMap (fun p => [p.1, p.2]))[2 * m]? = (ps.map (·.1))[m]?
  | [], m => by simp
  | p :: l, 0 => by simp
  | p :: l, m + 1 => by
    have := prs_at l m
    rw [List.flatMap_cons, List.getElem?_append_right (by simp; omega)]
    simp only [List.length_cons, List.length_nil, List.map_cons, List.getElem?_cons_succ]
    rw [← this]
    congr 1
theorem prs_ne {ps : List (Str × Str)} (h : (ps.map (·.1)).Nodup) {i j : Nat} (hij : i < j) (hj : j < ps.length) : ∃ a b, (ps.flatMap (fun p => [p.1, p.2]))[2 * i]? = some a ∧ (ps.flatMap (fun p => [p.1, p.2]))[2 * j]? = some b ∧ (a == b) = false := by
  have h1 : i < (ps.map (·.1)).length := by simp; omega
  have h2 : j < (ps.map (·.1)).length := by simp; omega
  refine ⟨(ps.map (·.1))[i], (ps.map (·.1))[j], by rw [prs_at, List.getElem?_eq_getElem h1], by rw [prs_at, List.getElem?_eq_getElem h2], ?_⟩
  simp only [beq_eq_false_iff_ne]
  exact (List.pairwise_iff_getElem.1 h) i j h1 h2 hij
theorem take_one {l : List Tok} {i : Nat} {t : Tok} (h : l[i]? = some t) : l.take (i + 1) = l.take i ++ [t] := by
  obtain ⟨hi, e⟩ := List.getElem?_eq_some_iff.1 h
  rw [← e]
  simp [hi]

theorem toks_len_le (x : Str) (hx : x.length ≤ 1073741824) : (toks x).length ≤ 512 * x.length + 1032 := by
  have ho := (open_put (w0 := default) (own0 := fun _ => False) (Open.new (x.length : Int)) x (by omega)).2.1
  have := endAll_small default ho (by omega)
  unfold toks
  rw [closeT_told, List.length_append]
  simp only [List.length_cons, List.length_nil]
  omega

set_option maxHeartbeats 8000000 in
set_option maxRecDepth 1000000 in
theorem shaped_walk (x : Str) (w : World) (hx : x.length ≤ 16777216) (B : Base w (fun _ => False)) :
    Calls Tryz.prog 5 #[.string ⟨x.toArray⟩] w fun e w' => e = .returned (.bool true) ∧ More w w' := by
  have HAw := hide (awake_does w B)
  have HB := hide B
  have HX := hide hx
  have hxl : (x.length : Int) ≤ 16777216 := by omega
  clear B hx
  go_enter Tryz.func5, Tryz.ntmps5
  go_wp2_with fail
  refine (unhide HAw).mono ?_
  rintro e w1 ⟨rfl, m1⟩
  go_wp2_with fail
  refine (apart_does x w1 (by have := unhide HX; omega) ((unhide HB).more m1)).mono ?_
  rintro e w2 ⟨v2, rfl, t2, m2'⟩
  have m2 := m1.trans' m2'
  have HM2 := hide m2
  clear m2' m1 m2 HB HAw
  obtain ⟨M, hM, hA, hBB, hpl⟩ := toks_AB w2 x (by have := unhide HX; omega)
  have HN := hide (fun t ht hk => toks_name w2 x (by have := unhide HX; omega) (t := t) ht hk)
  have hsm := toks_len_le x (by have := unhide HX; omega)
  obtain ⟨a2, cap2, rfl, hv2, hc2, hb2⟩ := t2
  have hne : toks x ≠ [] := by rw [hM]; simp
  obtain ⟨g, rfl, hT⟩ := hv2 hne
  have HBd := hide hb2
  rw [hM, List.length_append] at hc2 hsm ⊢
  rw [hM] at hT hb2 HN
  simp only [List.length_cons, List.length_nil, Nat.zero_add] at hc2 hsm ⊢
  have HT := hide hT
  have HBd := hide hb2
  have HA := hide hA
  have HBB := hide hBB
  have HP := hide hpl
  have hml : M.length + 1 ≤ 17179869184 := by have := unhide HX; omega
  clear hT hb2 hA hBB hpl hM hv2 hne hsm
  have hz0 : ((M.length : Int) + 1 == 0) = false := by simp; omega
  go_wp2
  clear hz0
  go_loopw [6, 7, 8] (fun la ch i wx => ∃ k : Nat, k ≤ M.length + 1 ∧ i = .int .i64 (k : Int) ∧ (k ≤ M.length → la = .int .i64 (lastW (M.take k)) ∧ ch = .bool (lastC (M.take k))) ∧ More w2 wx) (fun _ _ i _ => M.length + 1 - (intOf i).toNat)
  case atStart => exact ⟨0, Nat.zero_le _, rfl, fun _ => ⟨rfl, rfl⟩, More.refl _⟩
  case round =>
    obtain ⟨k, hk, rfl, hlc, hm⟩ := hrel
    by_cases hk1 : k < M.length + 1
    · obtain ⟨rfl, rfl⟩ := hlc (by omega)
      clear hlc
      by_cases hkm : k < M.length
      · obtain ⟨t, ht⟩ : ∃ t, M[k]? = some t := ⟨M[k], by simp [hkm]⟩
        obtain ⟨xt, d0, d1, d2, d3, d4, d5, hS⟩ := ((unhide HT).more hm).cells k t (by rw [List.getElem?_append_left hkm]; exact ht)
        have hglt : g < wr.heap.size := ((unhide HT).more hm).lt
        have hal := unhide HBd t (List.mem_append_left _ (List.mem_of_getElem? ht))
        simp only [maxLen] at hal
        obtain ⟨a1, a2, a3, a4⟩ := unhide HA k t ht
        have hb := unhide HBB k t ht
        have hp := unhide HP k t ht
        have hS1 := take_one ht
        have HR : Hid (lastW (M.take (k + 1)) = (if t.kind = 5 then t.place else lastW (M.take k)) ∧ lastC (M.take (k + 1)) = (if t.kind = 5 then lastC (M.take k) else t.kind == 0)) := hide (by rw [hS1]; exact ⟨lastW_snoc _ _, lastC_snoc _ _⟩)
        have HTT := hide ht
        clear hS1 ht
        generalize lastW (M.take k) = lw at *
        generalize lastC (M.take k) = lc at *
        by_cases h5 : t.kind = 5
        · have b1 := hb h5
          have b2 := hp h5
          have b3 : (t.name == []) = false := by simpa using a2 h5
          rw [h5] at d0
          rw [if_pos h5, if_pos h5] at HR
          clear a1 a2 a3 a4 hb hp h5 hS
          go_wp2
          go_roundw
          case rel => exact ⟨k + 1, by omega, by go_num, fun _ => by rw [(unhide HR).1, (unhide HR).2]; exact ⟨rfl, rfl⟩, hm.alloc _⟩
          case measure => simp [intOf]; omega
        · generalize wr = wo at *
          have e5 : (t.kind == 5) = false := by simpa using h5
          have e6 : (t.kind == 6) = false := by simpa using a1
          obtain ⟨hlow, hatt, ps, hps, hnd⟩ := a3 h5
          rw [if_neg h5, if_neg h5] at HR
          have HL := hide hlow
          have hnl := unhide HN t (List.mem_append_left _ (List.mem_of_getElem? (unhide HTT))) h5
          clear a1 a2 a3 hb hp hlow
          by_cases ha : t.attrs = []
          · rw [ha] at d2
            simp only [List.length_nil] at d2
            clear hatt ha ps hps hnd hS hal
            by_cases h0 : t.kind = 0
            · obtain ⟨rfl, htx⟩ := a4 h0
              have e3 : (t.text == []) = false := by simpa using htx
              rw [h0] at d0 HR
              clear a4 htx h0 e5 e6 h5
              have hdk : decide ((k : Int) < (M.length : Int) + 1) = true := by simp; omega
              have hdk2 : ((k : Int) == (M.length : Int)) = false := by simp; omega
              go_wp2
              clear hdk hdk2
              go_loopw [10] (fun i wy => ∃ j : Nat, j ≤ t.name.length ∧ i = .int .i64 (j : Int) ∧ More wo wy ∧ wo.heap.size < wy.heap.size ∧ wy.cell? ⟨wo.heap.size, 1, none⟩ = some (.string ⟨t.name.toArray⟩) ∧ wy.cell? ⟨wo.heap.size, 2, none⟩ = some (.slice xt.a 0 xt.cap)) (fun i _ => t.name.length - (intOf i).toNat)
              case atStart => exact ⟨0, Nat.zero_le _, rfl, by repeat (first | exact More.refl _ | refine More.alloc ?_ _), by simp, by simp, by simp⟩
              case round =>
                obtain ⟨j, hj, rfl, hmy, hsy, b1, b2⟩ := hrel
                clear d0 d1 d2 d3 d4 d5
                by_cases hjl : j < t.name.length
                · have hh : j < (⟨t.name.toArray⟩ : ByteArray).size := by simpa [ByteArray.size] using hjl
                  have hyl := unhide HL ((⟨t.name.toArray⟩ : ByteArray)[j]'hh) (List.mem_of_getElem? (i := j) (by show t.name[j]? = some (t.name[j]); simp [hjl]))
                  by_cases hA : 65 ≤ ((⟨t.name.toArray⟩ : ByteArray)[j]'hh).toNat
                  · have hZ : ¬ ((⟨t.name.toArray⟩ : ByteArray)[j]'hh).toNat ≤ 90 := fun e => hyl ⟨hA, e⟩
                    clear hyl
                    go_wp2
                    go_roundw
                    case rel => exact ⟨j + 1, by omega, by go_num, hmy, hsy, b1, b2⟩
                    case measure => simp [intOf]; omega
                  · clear hyl
                    go_wp2
                    go_roundw
                    case rel => exact ⟨j + 1, by omega, by go_num, hmy, hsy, b1, b2⟩
                    case measure => simp [intOf]; omega
                · generalize wr = wp at *
                  go_wp2
                  go_loopw [11] (fun i wy2 => i = .int .i64 0 ∧ wy2 = wp) (fun _ _ => 0)
                  case atStart => exact ⟨rfl, rfl⟩
                  case round =>
                    obtain ⟨rfl, rfl⟩ := hrel
                    go_wp2
                    go_roundw
                    case rel => exact ⟨k + 1, by omega, by go_num, fun _ => by rw [(unhide HR).1, (unhide HR).2]; exact ⟨rfl, rfl⟩, hm.trans' hmy⟩
                    case measure => simp [intOf]; omega
            · have e0 : (t.kind == 0) = false := by simpa using h0
              rw [e0] at HR
              clear a4 h0 h5
              have hdk : decide ((k : Int) < (M.length : Int) + 1) = true := by simp; omega
              have hdk2 : ((k : Int) == (M.length : Int)) = false := by simp; omega
              go_wp2
              clear hdk hdk2
              go_loopw [10] (fun i wy => ∃ j : Nat, j ≤ t.name.length ∧ i = .int .i64 (j : Int) ∧ More wo wy ∧ wo.heap.size < wy.heap.size ∧ wy.cell? ⟨wo.heap.size, 1, none⟩ = some (.string ⟨t.name.toArray⟩) ∧ wy.cell? ⟨wo.heap.size, 2, none⟩ = some (.slice xt.a 0 xt.cap)) (fun i _ => t.name.length - (intOf i).toNat)
              case atStart => exact ⟨0, Nat.zero_le _, rfl, by repeat (first | exact More.refl _ | refine More.alloc ?_ _), by simp, by simp, by simp⟩
              case round =>
                obtain ⟨j, hj, rfl, hmy, hsy, b1, b2⟩ := hrel
                clear d0 d1 d2 d3 d4 d5
                by_cases hjl : j < t.name.length
                · have hh : j < (⟨t.name.toArray⟩ : ByteArray).size := by simpa [ByteArray.size] using hjl
                  have hyl := unhide HL ((⟨t.name.toArray⟩ : ByteArray)[j]'hh) (List.mem_of_getElem? (i := j) (by show t.name[j]? = some (t.name[j]); simp [hjl]))
                  by_cases hA : 65 ≤ ((⟨t.name.toArray⟩ : ByteArray)[j]'hh).toNat
                  · have hZ : ¬ ((⟨t.name.toArray⟩ : ByteArray)[j]'hh).toNat ≤ 90 := fun e => hyl ⟨hA, e⟩
                    clear hyl
                    go_wp2
                    go_roundw
                    case rel => exact ⟨j + 1, by omega, by go_num, hmy, hsy, b1, b2⟩
                    case measure => simp [intOf]; omega
                  · clear hyl
                    go_wp2
                    go_roundw
                    case rel => exact ⟨j + 1, by omega, by go_num, hmy, hsy, b1, b2⟩
                    case measure => simp [intOf]; omega
                · generalize wr = wp at *
                  go_wp2
                  go_loopw [11] (fun i wy2 => i = .int .i64 0 ∧ wy2 = wp) (fun _ _ => 0)
                  case atStart => exact ⟨rfl, rfl⟩
                  case round =>
                    obtain ⟨rfl, rfl⟩ := hrel
                    go_wp2
                    go_roundw
                    case rel => exact ⟨k + 1, by omega, by go_num, fun _ => by rw [(unhide HR).1, (unhide HR).2]; exact ⟨rfl, rfl⟩, hm.trans' hmy⟩
                    case measure => simp [intOf]; omega
          · have hk1' : t.kind = 1 := hatt ha
            rw [hk1'] at d0 HR
            have hlp : t.attrs.length = 2 * ps.length := by rw [hps, prs_len]
            have hpp : 0 < ps.length := by
              rcases ps with _ | ⟨p, ps⟩
              · exact absurd hps ha
              · simp
            rw [hlp] at d2 hal
            have HS := hide hS
            have HND := hide hnd
            have HPS := hide hps
            clear hatt ha hps hnd hS hlp a4 hk1' e5 e6 h5
            have hpar : ((2 * ps.length : Nat) : Int).tmod 2 = 0 := by simp
            have hdk : decide ((k : Int) < (M.length : Int) + 1) = true := by simp; omega
            have hdk2 : ((k : Int) == (M.length : Int)) = false := by simp; omega
            go_wp2
            clear hdk hdk2
            go_loopw [10] (fun i wy => ∃ j : Nat, j ≤ t.name.length ∧ i = .int .i64 (j : Int) ∧ More wo wy ∧ wo.heap.size < wy.heap.size ∧ wy.cell? ⟨wo.heap.size, 1, none⟩ = some (.string ⟨t.name.toArray⟩) ∧ wy.cell? ⟨wo.heap.size, 2, none⟩ = some (.slice xt.a (2 * ps.length) xt.cap)) (fun i _ => t.name.length - (intOf i).toNat)
            case atStart => exact ⟨0, Nat.zero_le _, rfl, by repeat (first | exact More.refl _ | refine More.alloc ?_ _), by simp, by simp, by simp⟩
            case round =>
              obtain ⟨j, hj, rfl, hmy, hsy, b1, b2⟩ := hrel
              clear d0 d1 d2 d3 d4 d5
              by_cases hjl : j < t.name.length
              · have hh : j < (⟨t.name.toArray⟩ : ByteArray).size := by simpa [ByteArray.size] using hjl
                have hyl := unhide HL ((⟨t.name.toArray⟩ : ByteArray)[j]'hh) (List.mem_of_getElem? (i := j) (by show t.name[j]? = some (t.name[j]); simp [hjl]))
                by_cases hA : 65 ≤ ((⟨t.name.toArray⟩ : ByteArray)[j]'hh).toNat
                · have hZ : ¬ ((⟨t.name.toArray⟩ : ByteArray)[j]'hh).toNat ≤ 90 := fun e => hyl ⟨hA, e⟩
                  clear hyl
                  go_wp2
                  go_roundw
                  case rel => exact ⟨j + 1, by omega, by go_num, hmy, hsy, b1, b2⟩
                  case measure => simp [intOf]; omega
                · clear hyl
                  go_wp2
                  go_roundw
                  case rel => exact ⟨j + 1, by omega, by go_num, hmy, hsy, b1, b2⟩
                  case measure => simp [intOf]; omega
              · generalize wr = wp at *
                go_wp2
                go_loopw [11] (fun i wy2 => ∃ m : Nat, m ≤ ps.length ∧ i = .int .i64 ((2 * m : Nat) : Int) ∧ More wp wy2) (fun i _ => 2 * ps.length - (intOf i).toNat)
                case atStart => exact ⟨0, Nat.zero_le _, rfl, More.refl _⟩
                case round =>
                  obtain ⟨m, hmm, rfl, hm3⟩ := hrel
                  generalize wr = wq at *
                  have c2 : wq.cell? ⟨wo.heap.size, 2, none⟩ = some (.slice xt.a (2 * ps.length) xt.cap) := by rw [World.cell?_of_block (w := wp) (hm3.block _ hsy)]; exact b2
                  clear b1 b2
                  by_cases hml : m < ps.length
                  · go_wp2
                    go_loopw [12] (fun i wy3 => ∃ q : Nat, q ≤ m ∧ i = .int .i64 ((2 * q : Nat) : Int) ∧ More wq wy3) (fun i _ => 2 * m - (intOf i).toNat)
                    case atStart => exact ⟨0, Nat.zero_le _, rfl, More.refl _⟩
                    case round =>
                      obtain ⟨q, hqm, rfl, hm4⟩ := hrel
                      have hsq : wo.heap.size < wq.heap.size := by have := hm3.size; omega
                      have c3 : wr.cell? ⟨wo.heap.size, 2, none⟩ = some (.slice xt.a (2 * ps.length) xt.cap) := by rw [World.cell?_of_block (w := wq) (hm4.block _ hsq)]; exact c2
                      have hsr : wo.heap.size < wr.heap.size := by have := hm4.size; omega
                      by_cases hq : q < m
                      · obtain ⟨ya, yb, hya, hyb, hne⟩ := prs_ne (unhide HND) hq hml
                        obtain ⟨gx, hxa, hgx, hcx⟩ := ((unhide HS).more (hmy.trans' (hm3.trans' hm4))) (2 * q) ya (by rw [unhide HPS]; exact hya)
                        obtain ⟨gx', hxa', hgx', hcx'⟩ := ((unhide HS).more (hmy.trans' (hm3.trans' hm4))) (2 * m) yb (by rw [unhide HPS]; exact hyb)
                        have hgg : gx' = gx := by rw [hxa] at hxa'; cases hxa'; rfl
                        subst hgg
                        rw [hxa] at c3
                        clear hya hyb c2 hxa hxa'
                        go_wp2_with fail
                        go_quiet (fail)
                        go_wp2
                        go_roundw
                        case rel => exact ⟨q + 1, by omega, by go_num, ⟨hm4.os, hm4.tape, hm4.output, hm4.size, hm4.block⟩⟩
                        case measure => simp [intOf]; omega
                      · clear c2
                        go_wp2
                        go_roundw
                        case rel => exact ⟨m + 1, by omega, by go_num, hm3.trans' hm4⟩
                        case measure => simp [intOf]; omega
                  · go_wp2
                    go_roundw
                    case rel => exact ⟨k + 1, by omega, by go_num, fun _ => by rw [(unhide HR).1, (unhide HR).2]; exact ⟨rfl, rfl⟩, hm.trans' (hmy.trans' hm3)⟩
                    case measure => simp [intOf]; omega
      · have hk' : k = M.length := by omega
        subst hk'
        obtain ⟨xt, d0, d1, d2, d3, d4, d5, hS⟩ := ((unhide HT).more hm).cells M.length { kind := 6 } (by simp)
        have hglt : g < wr.heap.size := ((unhide HT).more hm).lt
        simp only [List.length_nil] at d2
        clear hS hkm hk1
        generalize lastW (M.take M.length) = lw at *
        generalize lastC (M.take M.length) = lc at *
        generalize wr = wo at *
        go_wp2
        go_loopw [10] (fun i wy => i = .int .i64 0 ∧ More wo wy ∧ wo.heap.size < wy.heap.size ∧ wy.cell? ⟨wo.heap.size, 1, none⟩ = some (.string ⟨#[]⟩) ∧ wy.cell? ⟨wo.heap.size, 2, none⟩ = some (.slice xt.a 0 xt.cap)) (fun i _ => 0)
        case atStart => exact ⟨rfl, by repeat (first | exact More.refl _ | refine More.alloc ?_ _), by simp, by simp, by simp⟩
        case round =>
          obtain ⟨rfl, hmy, hsy, b1, b2⟩ := hrel
          clear d0 d1 d2 d3 d4 d5
          generalize wr = wp at *
          go_wp2
          go_loopw [11] (fun i wy2 => i = .int .i64 0 ∧ wy2 = wp) (fun _ _ => 0)
          case atStart => exact ⟨rfl, rfl⟩
          case round =>
            obtain ⟨rfl, rfl⟩ := hrel
            go_wp2
            go_roundw
            case rel => exact ⟨M.length + 1, by omega, by go_num, fun h => absurd h (by omega), hm.trans' hmy⟩
            case measure => simp [intOf]
    · go_wp2
      go_ret
      exact ⟨rfl, (unhide HM2).trans' hm⟩
end Go.Proofs.YtdfmapcnfficlaaGreatDoor

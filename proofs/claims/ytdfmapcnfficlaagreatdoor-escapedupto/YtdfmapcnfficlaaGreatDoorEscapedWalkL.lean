/-
  Escaped: what Escape tells of a text is that text; the walk.
-/
import Derived.Test.YtdfmapcnfficlaaGreatDoorEscTL
import Derived.Test.YtdfmapcnfficlaaGreatDoorBegunWalkL
set_option linter.unusedSimpArgs false
set_option linter.unusedVariables false
namespace Go.Proofs.YtdfmapcnfficlaaGreatDoor
open Go Go.RowKit

theorem list_cells (W : World) (xs : List Value) (T : TypeId) : ∀ (j : Nat) u, xs[j]? = some u → (W.alloc (.cells xs.toArray T)).cell? ((⟨W.heap.size, 0, none⟩ : Addr).add j) = some u := by
  intro j u h
  rw [show ((⟨W.heap.size, 0, none⟩ : Addr).add j) = ⟨W.heap.size, j, none⟩ by unfold Addr.add; split <;> simp_all, World.cell?_alloc_at _ _ _ _ rfl]
  simpa using h
def tStart : Tok := { kind := 1, name := [98] }
def tChars (S : Str) : Tok := { kind := 0, text := S }
def tEnd : Tok := { kind := 2, name := [98] }
def tFin : Tok := { kind := 6 }
theorem bare2 {w : World} {q : Sl} (a b : Tok) (ha : a.attrs = []) (hb : b.attrs = []) : (∀ (k : Nat) (t : Tok) (x : Sl), [a, b][k]? = some t → [nilSl, nilSl][k]? = some x → AttrAt w q x t.attrs) ∧ ∀ t ∈ [a, b], t.attrs.length ≤ maxLen := by
  refine ⟨fun k t x hk hx => ?_, fun t ht => ?_⟩
  · have : t ∈ [a, b] := List.mem_of_getElem? hk
    have e : t.attrs = [] := by simp at this; rcases this with rfl | rfl <;> assumption
    rw [e]
    exact AttrAt.nil _ _ _
  · have e : t.attrs = [] := by simp at ht; rcases ht with rfl | rfl <;> assumption
    rw [e]
    simp
theorem lit2 (w : World) (S : Str) (g : Nat) (hg : g = w.heap.size + 1) : ToksV ((w.alloc (.cells #[.string ⟨#[99]⟩, .string ⟨S.toArray⟩] 9)).alloc (.cells (toldCells [{ kind := 1, name := [98], attrs := [[99], S] }, { kind := 6 }] [⟨some ⟨w.heap.size, 0, none⟩, 2⟩, nilSl]).toArray 34)) (.slice (some ⟨g, 0, none⟩) 2 2) [{ kind := 1, name := [98], attrs := [[99], S] }, { kind := 6 }] := by
  refine toksV_lit _ [⟨some ⟨w.heap.size, 0, none⟩, 2⟩, nilSl] (heap_last _ _ _ (by simp [hg])) rfl rfl ?_ rfl ?_
  · intro k t x hk hx
    match k, hk, hx with
    | 0, hk, hx =>
      simp at hk hx
      subst hk hx
      intro j y hy
      refine ⟨w.heap.size, rfl, by simp; omega, ?_⟩
      match j, hy with
      | 0, hy => simp at hy; subst hy; simp
      | 1, hy => simp at hy; subst hy; simp
      | j + 2, hy => simp at hy
    | 1, hk, hx => simp at hk; subst hk; exact strsAt_nil _ _
    | k + 2, hk, hx => simp at hk
  · intro t ht
    simp at ht
    rcases ht with rfl | rfl <;> simp [maxLen]

set_option maxHeartbeats 8000000 in
set_option maxRecDepth 1000000 in
theorem escaped_walk (l : List Int) (v : Value) (w : World) (h : IntsV w v l) (hl : l.length ≤ 1048576) (B : Base w (fun _ => False)) :
    Calls Tryz.prog 10 #[v] w fun e w' => e = .returned (.bool true) ∧ More w w' := by
  have HAw := hide (awake_does w B)
  have HB := hide B
  have HL := hide (fun (W : World) (hm : More w W) => letters_does W l v (h.more hm) (by omega))
  clear B h
  go_enter Tryz.func10, Tryz.ntmps10
  go_wp2_with fail
  refine (unhide HAw).mono ?_
  rintro e w1 ⟨rfl, m1⟩
  go_wp2_with fail
  refine (unhide HL w1 m1).mono ?_
  rintro e w2 ⟨cs, rfl, hsc, hcl, m2'⟩
  have m2 := m1.trans' m2'
  have hs1 : ∀ c ∈ cs, Scalar c := fun c hc => (hsc c hc).1
  have hs2 : ∀ c ∈ cs, 0 < c := fun c hc => (hsc c hc).2
  have hel : (encs cs).length ≤ 4194304 := by have := letters_len cs; omega
  have HE := hide (escape_does w2 (encs cs) (by unfold lim; omega))
  have hfl : (encs (cs.flatMap escP)).length ≤ 25165824 := by rw [← esc_encs hs1 hs2]; have := escL_len (encs cs); omega
  rw [esc_encs hs1 hs2] at HE
  have HV1 := hide (vis_text cs hs1 hs2)
  have HV2 := hide (vis_val cs hs1 hs2)
  clear m1 m2' hsc hcl hs1 hs2 HAw HL
  generalize encs (cs.flatMap escP) = E at *
  generalize encs cs = S at *
  go_wp2_with fail
  refine (unhide HE).mono ?_
  rintro e w3 ⟨rfl, m3'⟩
  have m3 := m2.trans' m3'
  clear HE m2 m3'
  obtain ⟨X1, hX1⟩ : ∃ X1 : Str, X1 = [60, 98, 62] ++ E := ⟨_, rfl⟩
  obtain ⟨X2, hX2⟩ : ∃ X2 : Str, X2 = X1 ++ [60, 47, 98, 62] := ⟨_, rfl⟩
  obtain ⟨Y1, hY1⟩ : ∃ Y1 : Str, Y1 = [60, 98, 32, 99, 61, 34] ++ E := ⟨_, rfl⟩
  obtain ⟨Y2, hY2⟩ : ∃ Y2 : Str, Y2 = Y1 ++ [34, 62] := ⟨_, rfl⟩
  have x1l : X1.length = 3 + E.length := by rw [hX1, List.length_append]; rfl
  have y1l : Y1.length = 6 + E.length := by rw [hY1, List.length_append]; rfl
  have x2l : X2.length = X1.length + 4 := by rw [hX2, List.length_append]; rfl
  have y2l : Y2.length = Y1.length + 2 := by rw [hY2, List.length_append]; rfl
  have cx1 : ∀ W, (Op.stringOp .add ⟨#[60, 98, 62]⟩ ⟨E.toArray⟩).run Tryz.prog W = .ok (.string ⟨X1.toArray⟩) W := fun W => by rw [hX1]; exact cat_run [60, 98, 62] E W (by unfold lim; simp; omega)
  have cx2 : ∀ W, (Op.stringOp .add ⟨X1.toArray⟩ ⟨#[60, 47, 98, 62]⟩).run Tryz.prog W = .ok (.string ⟨X2.toArray⟩) W := fun W => by rw [hX2]; exact cat_run X1 [60, 47, 98, 62] W (by unfold lim; simp; omega)
  have cy1 : ∀ W, (Op.stringOp .add ⟨#[60, 98, 32, 99, 61, 34]⟩ ⟨E.toArray⟩).run Tryz.prog W = .ok (.string ⟨Y1.toArray⟩) W := fun W => by rw [hY1]; exact cat_run [60, 98, 32, 99, 61, 34] E W (by unfold lim; simp; omega)
  have cy2 : ∀ W, (Op.stringOp .add ⟨Y1.toArray⟩ ⟨#[34, 62]⟩).run Tryz.prog W = .ok (.string ⟨Y2.toArray⟩) W := fun W => by rw [hY2]; exact cat_run Y1 [34, 62] W (by unfold lim; simp; omega)
  have e1 : X2 = [60, 98, 62] ++ (E ++ [60, 47, 98, 62]) := by rw [hX2, hX1, List.append_assoc]
  have e2 : Y2 = [60, 98, 32, 99, 61, 34] ++ (E ++ [34, 62]) := by rw [hY2, hY1, List.append_assoc]
  rw [← e1] at HV1
  rw [← e2] at HV2
  clear hX1 hX2 hY1 hY2 e1 e2
  have cx1' := cx1 w3
  have cx2' := cx2 w3
  go_wp2_with fail
  refine (apart_does X2 w3 (by omega) ((unhide HB).more m3)).mono ?_
  rintro e w4 ⟨v4, rfl, t4, m4'⟩
  have m4 := m3.trans' m4'
  have cy1' := cy1 w4
  have cy2' := cy2 w4
  clear cx1' cx2' cx1 cx2
  go_wp2_with fail
  refine (apart_does Y2 w4 (by omega) ((unhide HB).more m4)).mono ?_
  rintro e w5 ⟨v5, rfl, t5, m5'⟩
  have M5 := hide (m4.trans' m5')
  have hlX := toks_small_len X2 (by omega)
  have hlY := toks_small_len Y2 (by omega)
  obtain ⟨a4, cap4, rfl, hv4, hc4, hb4⟩ := t4.more m5'
  obtain ⟨a5, cap5, rfl, hv5, hc5, hb5⟩ := t5
  have HVa := hide hv4
  have HBda := hide hb4
  have HVb := hide hv5
  have HBdb := hide hb5
  have HSa := hide (More.refl w5)
  clear hv4 hb4 hv5 hb5 m3 m4 m4' m5' t4 cy1' cy2' cy1 cy2 HB
  generalize toks X2 = la at *
  generalize toks Y2 = lb at *
  have hla : la.length ≤ 17179869184 := by omega
  have hlb : lb.length ≤ 17179869184 := by omega
  clear hlX hlY
  go_wp2
  go_loopw [10, 11] (fun o i wx => ∃ (k : Nat) (q : Sl) (ta : List Sl), k ≤ la.length ∧ i = .int .i64 (k : Int) ∧ o = .slice q.a (vis (la.take k)).length q.cap ∧ Hid (MineT w5 wx q (vis (la.take k)) ta)) (fun _ i _ => la.length - (intOf i).toNat)
  case atStart => exact ⟨0, nilSl, [], Nat.zero_le _, rfl, rfl, hide (MineT.nil (unhide HSa))⟩
  case round =>
    obtain ⟨k, q, ta, hk, rfl, rfl, HM⟩ := hrel
    by_cases hlt : k < la.length
    · obtain ⟨t, ht⟩ : ∃ t, la[k]? = some t := ⟨la[k], by simp [hlt]⟩
      obtain ⟨g, rfl, hT⟩ := unhide HVa (fun e => by subst e; simp at hlt)
      obtain ⟨xt, c0, c1, c2, c3, c4, c5, hS⟩ := hT.cells k t ht
      have hblk := (unhide HM).more.block g hT.lt
      have d0 := (World.cell?_of_block (w := w5) (a := ⟨g, k * 6, none⟩) hblk).trans c0
      have d1 := (World.cell?_of_block (w := w5) (a := ⟨g, k * 6 + 1, none⟩) hblk).trans c1
      have d2 := (World.cell?_of_block (w := w5) (a := ⟨g, k * 6 + 2, none⟩) hblk).trans c2
      have d3 := (World.cell?_of_block (w := w5) (a := ⟨g, k * 6 + 3, none⟩) hblk).trans c3
      have d4 := (World.cell?_of_block (w := w5) (a := ⟨g, k * 6 + 4, none⟩) hblk).trans c4
      have d5 := (World.cell?_of_block (w := w5) (a := ⟨g, k * 6 + 5, none⟩) hblk).trans c5
      have hglt : g < wr.heap.size := (hT.more (unhide HM).more).lt
      clear c0 c1 c2 c3 c4 c5 hblk
      have HSt := hide hS
      have HSN := hide (vis_take la k t ht)
      have HX := hide (unhide HBda t (List.mem_of_getElem? ht))
      have hvl : (vis (la.take k)).length ≤ k := Nat.le_trans (vis_len _) (List.length_take_le _ _)
      obtain ⟨hn1, hn2⟩ := (lim_toks (n := (vis (la.take k)).length) (by unfold lim; omega)).2.2
      clear hS hT ht
      by_cases h5 : t.kind = 5
      · rw [h5] at d0
        have HSN' := hide (show vis (la.take (k + 1)) = vis (la.take k) by rw [unhide HSN, if_pos h5, List.append_nil])
        clear h5 HSN
        generalize vis (la.take k) = lv at *
        go_wp2
        go_roundw
        case rel => exact ⟨k + 1, q, ta, by omega, by go_num, by rw [unhide HSN'], by rw [unhide HSN']; exact HM⟩
        case measure => simp [intOf]; omega
      · have e5 : (t.kind == 5) = false := by simpa using h5
        have HSN' := hide (show vis (la.take (k + 1)) = vis (la.take k) ++ [t] by rw [unhide HSN, if_neg h5])
        have hown := (unhide HM).ok
        unfold Item.ok tokItem at hown
        clear h5 HSN
        generalize vis (la.take k) = lv at *
        obtain ⟨i0, hi, hz0, hz1, hz2⟩ := info_parts Tryz.infoToken
        go_wp2_with (at_builtin; refine wpList_append_mine _ rfl _ _ 30 rfl 34 i0 _ 6 80 Tryz.underlying30 hi hz0 hz1 hz2 rfl (by decide) q.a lv.length q.cap (toldCells lv ta) rfl (by exact World.ownsRow.alloc hown _) ⟨wr.heap.size, 0, none⟩ 1 1 (tokCells t xt) rfl rfl (by exact tokCells_cells' t xt wr 34 _ rfl) (tokCells_one _ _) (by decide) hn1 hn2 ?next)
        case next =>
          intro a' cap' w' g1 g2 g3
          have HN := hide ((unhide HM).one t xt ((More.refl wr).alloc _) g1 g2 (by simpa using g3) (AttrAt.more (AttrAt.old (unhide HSt) (unhide HM).more (unhide HM).new) ((More.refl wr).alloc _)) (unhide HX))
          clear g1 g2 g3 hown
          go_wp2
          go_roundw
          case rel => exact ⟨k + 1, ⟨some a', cap'⟩, ta ++ [xt], by omega, by go_num, by rw [unhide HSN', List.length_append]; rfl, by rw [unhide HSN']; exact HN⟩
          case measure => simp [intOf]; omega
    · have hkl : la.take k = la := List.take_of_length_le (by omega)
      rw [hkl] at HM ⊢
      have HMa := HM
      clear hkl HM
      have HMx := hide (unhide HMa).more
      have HXt := hide (unhide HMa).toks
      have HVb := hide (fun hne => (show ∃ g, a5 = some ⟨g, 0, none⟩ ∧ ToksAt wr g lb by obtain ⟨g, e, hT⟩ := unhide HVb hne; exact ⟨g, e, hT.more (unhide HMx)⟩))
      clear HMa
      generalize wr = w6 at *
      have HSb := hide (More.refl w6)
      go_wp2
      go_loopw [12, 13] (fun o i wx => ∃ (k : Nat) (q : Sl) (ta : List Sl), k ≤ lb.length ∧ i = .int .i64 (k : Int) ∧ o = .slice q.a (vis (lb.take k)).length q.cap ∧ Hid (MineT w6 wx q (vis (lb.take k)) ta)) (fun _ i _ => lb.length - (intOf i).toNat)
      case atStart => exact ⟨0, nilSl, [], Nat.zero_le _, rfl, rfl, hide (MineT.nil (unhide HSb))⟩
      case round =>
        obtain ⟨k, q, ta, hk, rfl, rfl, HM⟩ := hrel
        by_cases hlt : k < lb.length
        · obtain ⟨t, ht⟩ : ∃ t, lb[k]? = some t := ⟨lb[k], by simp [hlt]⟩
          obtain ⟨g, rfl, hT⟩ := unhide HVb (fun e => by subst e; simp at hlt)
          obtain ⟨xt, c0, c1, c2, c3, c4, c5, hS⟩ := hT.cells k t ht
          have hblk := (unhide HM).more.block g hT.lt
          have d0 := (World.cell?_of_block (w := w6) (a := ⟨g, k * 6, none⟩) hblk).trans c0
          have d1 := (World.cell?_of_block (w := w6) (a := ⟨g, k * 6 + 1, none⟩) hblk).trans c1
          have d2 := (World.cell?_of_block (w := w6) (a := ⟨g, k * 6 + 2, none⟩) hblk).trans c2
          have d3 := (World.cell?_of_block (w := w6) (a := ⟨g, k * 6 + 3, none⟩) hblk).trans c3
          have d4 := (World.cell?_of_block (w := w6) (a := ⟨g, k * 6 + 4, none⟩) hblk).trans c4
          have d5 := (World.cell?_of_block (w := w6) (a := ⟨g, k * 6 + 5, none⟩) hblk).trans c5
          have hglt : g < wr.heap.size := (hT.more (unhide HM).more).lt
          clear c0 c1 c2 c3 c4 c5 hblk
          have HSt := hide hS
          have HSN := hide (vis_take lb k t ht)
          have HX := hide (unhide HBdb t (List.mem_of_getElem? ht))
          have hvl : (vis (lb.take k)).length ≤ k := Nat.le_trans (vis_len _) (List.length_take_le _ _)
          obtain ⟨hn1, hn2⟩ := (lim_toks (n := (vis (lb.take k)).length) (by unfold lim; omega)).2.2
          clear hS hT ht
          by_cases h5 : t.kind = 5
          · rw [h5] at d0
            have HSN' := hide (show vis (lb.take (k + 1)) = vis (lb.take k) by rw [unhide HSN, if_pos h5, List.append_nil])
            clear h5 HSN
            generalize vis (lb.take k) = lv at *
            go_wp2
            go_roundw
            case rel => exact ⟨k + 1, q, ta, by omega, by go_num, by rw [unhide HSN'], by rw [unhide HSN']; exact HM⟩
            case measure => simp [intOf]; omega
          · have e5 : (t.kind == 5) = false := by simpa using h5
            have HSN' := hide (show vis (lb.take (k + 1)) = vis (lb.take k) ++ [t] by rw [unhide HSN, if_neg h5])
            have hown := (unhide HM).ok
            unfold Item.ok tokItem at hown
            clear h5 HSN
            generalize vis (lb.take k) = lv at *
            obtain ⟨i0, hi, hz0, hz1, hz2⟩ := info_parts Tryz.infoToken
            go_wp2_with (at_builtin; refine wpList_append_mine _ rfl _ _ 30 rfl 34 i0 _ 6 80 Tryz.underlying30 hi hz0 hz1 hz2 rfl (by decide) q.a lv.length q.cap (toldCells lv ta) rfl (by exact World.ownsRow.alloc hown _) ⟨wr.heap.size, 0, none⟩ 1 1 (tokCells t xt) rfl rfl (by exact tokCells_cells' t xt wr 34 _ rfl) (tokCells_one _ _) (by decide) hn1 hn2 ?next)
            case next =>
              intro a' cap' w' g1 g2 g3
              have HN := hide ((unhide HM).one t xt ((More.refl wr).alloc _) g1 g2 (by simpa using g3) (AttrAt.more (AttrAt.old (unhide HSt) (unhide HM).more (unhide HM).new) ((More.refl wr).alloc _)) (unhide HX))
              clear g1 g2 g3 hown
              go_wp2
              go_roundw
              case rel => exact ⟨k + 1, ⟨some a', cap'⟩, ta ++ [xt], by omega, by go_num, by rw [unhide HSN', List.length_append]; rfl, by rw [unhide HSN']; exact HN⟩
              case measure => simp [intOf]; omega
        · have hkl : lb.take k = lb := List.take_of_length_le (by omega)
          rw [hkl] at HM ⊢
          have HMb := HM
          clear hkl HM
          have M7 := hide ((unhide M5).trans' ((unhide HMx).trans' (unhide HMb).more))
          have HY := hide (unhide HMb).toks
          have HX := hide ((unhide HXt).more (unhide HMb).more)
          have hlx : (vis la).length ≤ 17179869184 := Nat.le_trans (vis_len _) hla
          have hly : (vis lb).length ≤ 17179869184 := Nat.le_trans (vis_len _) hlb
          clear HMb HMx HXt M5 HVa HVb HBda HBdb hc4 hc5 hla hlb HSa HSb
          generalize vis la = lx at *
          generalize vis lb = ly at *
          generalize wr = w7 at *
          have HW0 := hide (MineT.nil (More.refl w7))
          obtain ⟨i0, hi, hz0, hz1, hz2⟩ := info_parts Tryz.infoToken
          by_cases hS : S = []
          · subst hS
            have HV1 := hide (show lx = [tStart, tEnd, tFin] from unhide HV1)
            have hoa1 := (unhide HW0).ok
            unfold Item.ok tokItem at hoa1
            go_wp2_with (at_builtin; refine wpList_append_mine _ rfl _ _ 30 rfl 34 i0 _ 6 80 Tryz.underlying30 hi hz0 hz1 hz2 rfl (by decide) none 0 0 (toldCells [] []) rfl (by exact World.ownsRow.alloc hoa1 _) ⟨w7.heap.size, 0, none⟩ 1 1 (tokCells tStart nilSl) rfl rfl (by exact tokCells_cells' tStart nilSl w7 34 _ rfl) (tokCells_one _ _) (by decide) (by unfold maxLen; omega) (by omega) ?next)
            case next =>
              intro a1 capa1 w8 g1 g2 g3
              have HW1 := hide (show MineT w7 w8 ⟨some a1, capa1⟩ [tStart] [nilSl] from (unhide HW0).one tStart nilSl ((More.refl w7).alloc _) g1 g2 (by simpa [nilSl] using g3) (AttrAt.nil _ _ _) (by simp [tStart]))
              clear g1 g2 g3 hoa1
              have hoa3 := (unhide HW1).ok
              unfold Item.ok tokItem at hoa3
              go_wp2_with (at_builtin; refine wpList_append_mine _ rfl _ _ 30 rfl 34 i0 _ 6 80 Tryz.underlying30 hi hz0 hz1 hz2 rfl (by decide) (some a1) 1 capa1 (toldCells [tStart] [nilSl]) rfl (by exact World.ownsRow.alloc hoa3 _) ⟨w8.heap.size, 0, none⟩ 2 2 (toldCells [tEnd, tFin] [nilSl, nilSl]) rfl rfl (by exact list_cells w8 (toldCells [tEnd, tFin] [nilSl, nilSl]) 34) (toldCells_one _ _) (by decide) (by unfold maxLen; omega) (by omega) ?next)
              case next =>
                intro a3 capa3 wz g1 g2 g3
                have HW3 := hide (show MineT w7 wz ⟨some a3, capa3⟩ [tStart, tEnd, tFin] [nilSl, nilSl, nilSl] from (unhide HW1).grown [tEnd, tFin] [nilSl, nilSl] ((More.refl w8).alloc _) rfl g1 g2 (by simpa using g3) rfl (bare2 tEnd tFin rfl rfl).1 (bare2 (w := w8) (q := nilSl) tEnd tFin rfl rfl).2)
                clear g1 g2 g3 hoa3
                have hM7 := (unhide HW3).more
                have HSm := hide (same_true lx wz _ (.slice (some a3) 3 capa3) ((unhide HX).more hM7) (by rw [unhide HV1]; exact (unhide HW3).toks) (by unfold lim; omega))
                have HY' := hide ((unhide HY).more hM7)
                have HML := hide ((unhide M7).trans' hM7)
                clear hM7 HX HY M7 HW0 HW1 HW3
                go_wp2_with fail
                refine (unhide HSm).mono ?_
                rintro e wy ⟨rfl, my⟩
                clear HSm
                have HY2 := hide ((unhide HY').more my)
                have HMy := hide ((unhide HML).trans' my)
                clear HY' HML my
                go_wp2_with fail
                refine (same_true ly _ _ _ ((unhide HY2).more (((More.refl wy).alloc _).alloc _)) (by rw [unhide HV2]; exact lit2 wy _ _ rfl) (by unfold lim; omega)).mono ?_
                rintro e wf ⟨rfl, mf⟩
                have HMf := hide ((unhide HMy).trans' ((((More.refl wy).alloc _).alloc _).trans' mf))
                clear mf HMy HY2
                go_wp2
                go_ret
                exact ⟨rfl, unhide HMf⟩
          · have eS : (S == []) = false := by simpa using hS
            have HV1 := hide (show lx = [tStart, tChars S, tEnd, tFin] by rw [unhide HV1, charsOf, if_neg hS]; rfl)
            clear hS
            have hoa1 := (unhide HW0).ok
            unfold Item.ok tokItem at hoa1
            go_wp2_with (at_builtin; refine wpList_append_mine _ rfl _ _ 30 rfl 34 i0 _ 6 80 Tryz.underlying30 hi hz0 hz1 hz2 rfl (by decide) none 0 0 (toldCells [] []) rfl (by exact World.ownsRow.alloc hoa1 _) ⟨w7.heap.size, 0, none⟩ 1 1 (tokCells tStart nilSl) rfl rfl (by exact tokCells_cells' tStart nilSl w7 34 _ rfl) (tokCells_one _ _) (by decide) (by unfold maxLen; omega) (by omega) ?next)
            case next =>
              intro a1 capa1 w8 g1 g2 g3
              have HW1 := hide (show MineT w7 w8 ⟨some a1, capa1⟩ [tStart] [nilSl] from (unhide HW0).one tStart nilSl ((More.refl w7).alloc _) g1 g2 (by simpa [nilSl] using g3) (AttrAt.nil _ _ _) (by simp [tStart]))
              clear g1 g2 g3 hoa1
              have hoa2 := (unhide HW1).ok
              unfold Item.ok tokItem at hoa2
              go_wp2_with (at_builtin; refine wpList_append_mine _ rfl _ _ 30 rfl 34 i0 _ 6 80 Tryz.underlying30 hi hz0 hz1 hz2 rfl (by decide) (some a1) 1 capa1 (toldCells [tStart] [nilSl]) rfl (by exact World.ownsRow.alloc hoa2 _) ⟨w8.heap.size, 0, none⟩ 1 1 (tokCells (tChars S) nilSl) rfl rfl (by exact tokCells_cells' (tChars S) nilSl w8 34 _ rfl) (tokCells_one _ _) (by decide) (by unfold maxLen; omega) (by omega) ?next)
              case next =>
                intro a2 capa2 w9 g1 g2 g3
                have HW2 := hide (show MineT w7 w9 ⟨some a2, capa2⟩ [tStart, tChars S] [nilSl, nilSl] from (unhide HW1).one (tChars S) nilSl ((More.refl w8).alloc _) g1 g2 (by simpa using g3) (AttrAt.nil _ _ _) (by simp [tChars]))
                clear g1 g2 g3 hoa2
                have hoa3 := (unhide HW2).ok
                unfold Item.ok tokItem at hoa3
                go_wp2_with (at_builtin; refine wpList_append_mine _ rfl _ _ 30 rfl 34 i0 _ 6 80 Tryz.underlying30 hi hz0 hz1 hz2 rfl (by decide) (some a2) 2 capa2 (toldCells [tStart, tChars S] [nilSl, nilSl]) rfl (by exact World.ownsRow.alloc hoa3 _) ⟨w9.heap.size, 0, none⟩ 2 2 (toldCells [tEnd, tFin] [nilSl, nilSl]) rfl rfl (by exact list_cells w9 (toldCells [tEnd, tFin] [nilSl, nilSl]) 34) (toldCells_one _ _) (by decide) (by unfold maxLen; omega) (by omega) ?next)
                case next =>
                  intro a3 capa3 wz g1 g2 g3
                  have HW3 := hide (show MineT w7 wz ⟨some a3, capa3⟩ [tStart, tChars S, tEnd, tFin] [nilSl, nilSl, nilSl, nilSl] from (unhide HW2).grown [tEnd, tFin] [nilSl, nilSl] ((More.refl w9).alloc _) rfl g1 g2 (by simpa using g3) rfl (bare2 tEnd tFin rfl rfl).1 (bare2 (w := w9) (q := nilSl) tEnd tFin rfl rfl).2)
                  clear g1 g2 g3 hoa3
                  have hM7 := (unhide HW3).more
                  have HSm := hide (same_true lx wz _ (.slice (some a3) 4 capa3) ((unhide HX).more hM7) (by rw [unhide HV1]; exact (unhide HW3).toks) (by unfold lim; omega))
                  have HY' := hide ((unhide HY).more hM7)
                  have HML := hide ((unhide M7).trans' hM7)
                  clear hM7 HX HY M7 HW0 HW1 HW2 HW3
                  go_wp2_with fail
                  refine (unhide HSm).mono ?_
                  rintro e wy ⟨rfl, my⟩
                  clear HSm
                  have HY2 := hide ((unhide HY').more my)
                  have HMy := hide ((unhide HML).trans' my)
                  clear HY' HML my
                  go_wp2_with fail
                  refine (same_true ly _ _ _ ((unhide HY2).more (((More.refl wy).alloc _).alloc _)) (by rw [unhide HV2]; exact lit2 wy _ _ rfl) (by unfold lim; omega)).mono ?_
                  rintro e wf ⟨rfl, mf⟩
                  have HMf := hide ((unhide HMy).trans' ((((More.refl wy).alloc _).alloc _).trans' mf))
                  clear mf HMy HY2
                  go_wp2
                  go_ret
                  exact ⟨rfl, unhide HMf⟩
end Go.Proofs.YtdfmapcnfficlaaGreatDoor

/-
  The longest name.
-/
import Derived.Test.YtdfmapcnfficlaaGreatDoorPrefix
set_option linter.unusedSimpArgs false
set_option linter.unusedVariables false
namespace Go.Proofs.YtdfmapcnfficlaaGreatDoor
open Go Go.RowKit

def findFrom (come : Str) : List (Str × Str) → Str × Str → (Str × Str) × Bool
  | [], l => (l, false)
  | n :: r, l => if partOf come n.1 = true then (l, true) else if hasPre come n.1 = false ∨ n.1.length < l.1.length then findFrom come r l else findFrom come r n
def findName (come : Str) : (Str × Str) × Bool := findFrom come namesT ([], [])
def namedV (n : Str × Str) : Value := .agg #[.string ⟨n.1.toArray⟩, .string ⟨n.2.toArray⟩]

theorem pairs_at : ∀ (l : List (Str × Str)) (j : Nat) (n : Str × Str), l[j]? = some n → ((l.flatMap fun n => [Value.string ⟨n.1.toArray⟩, Value.string ⟨n.2.toArray⟩]).drop (j * 2)).take 2 = [Value.string ⟨n.1.toArray⟩, Value.string ⟨n.2.toArray⟩]
  | [], j, n, h => by simp at h
  | a :: r, 0, n, h => by
    have : a = n := by simpa using h
    subst this
    simp [List.flatMap_cons]
  | a :: r, j + 1, n, h => by
    have h1 := pairs_at r j n (by simpa using h)
    rw [show (j + 1) * 2 = j * 2 + 1 + 1 by omega]
    simpa only [List.flatMap_cons, List.cons_append, List.nil_append, List.drop_succ_cons] using h1

theorem names_ix : ∀ (j : Nat) (n : Str × Str), namesT[j]? = some n → ∀ W, (Instr.index 223 (.agg namesCells) (.int .i64 j)).run Tryz.prog W = .ok (namedV n) W := by
  intro j n h W
  have hj : j < 21 := (List.getElem?_eq_some_iff.1 h).1
  have hs : (sizeOf 198).run Tryz.prog W = .ok 2 W := by kernel_rfl
  have hg : (isAgg 198).run Tryz.prog W = .ok true W := by kernel_rfl
  have hx : namesCells.extract (j * 2) (j * 2 + 2) = #[Value.string ⟨n.1.toArray⟩, Value.string ⟨n.2.toArray⟩] := by
    rw [namesCells, List.extract_toArray, List.extract_eq_drop_take', List.drop_take, show j * 2 + 2 - j * 2 = 2 by omega, pairs_at namesT j n h]
  simp [Instr.index, asIntOf, run_underlying Tryz.underlying223, hs, hj, part, hg, hx, namedV]

theorem More.set {w w1 : World} (h : More w w1) {b : Nat} (hb : w.heap.size ≤ b) (o : Nat) (v : Value) : More w (w1.setCell ⟨b, o, none⟩ v) :=
  ⟨h.os, h.tape, h.output, by simpa [World.setCell] using h.size, fun k hk => (set_other v (by omega)).trans (h.block k hk)⟩

theorem results_cell_tmp {P : Program} {fn : Func} {p q : Tmp} {ty : TypeId} (h : fn.results = #[.cell p ty, .tmp q]) (tmps : Array Value) (w : World) (g : Nat) (t : TypeId) (cs : Array Value) (fr : Nat × Nat) (d : TypeDesc)
    (hp : tmps.getD p undef = .pointer (some ⟨g, 0, none⟩)) (hg : w.heap[g]? = some (.cells cs t fr))
    (hu : P.underlying ty = some d) (hd : (match d with | .struct _ | .array _ _ => true | _ => false) = true) (hi : (P.info? ty).map (·.size) = some cs.size) :
    (results fn tmps).run P w = .ok (.tuple #[.agg cs, tmps.getD q undef]) w := by
  have hp' : tmps[p]?.getD undef = .pointer (some ⟨g, 0, none⟩) := by simpa using hp
  simp [results, h, hp', asAddr, run_loadVar_row w g t ty cs fr d hg hu hd hi]

theorem names_len : ∀ n ∈ namesT, n.1.length ≤ 7 := by decide

set_option maxHeartbeats 4000000 in
set_option maxRecDepth 1000000 in
theorem findName_does (come : Str) (w : World) (L : Laid w) (hc : come.length ≤ 64) : Calls Tryz.prog 213 #[.string ⟨come.toArray⟩] w fun e w' => e = .returned (.tuple #[namedV (findName come).1, .bool (findName come).2]) ∧ More w w' := by
  obtain ⟨t, fr, hnm⟩ := L.names
  have hsz : (Tryz.prog.info? 223).map (·.size) = some namesCells.size := by kernel_rfl
  have hm0 := (More.refl w).alloc (.cells #[.string ⟨#[]⟩, .string ⟨#[]⟩] 198)
  have hblk0 := (hm0.block _ (Array.getElem?_eq_some_iff.1 hnm).1).trans hnm
  have hIX := hide names_ix
  generalize namesCells = A at *
  clear hnm L
  go_enter Tryz.func213, Tryz.ntmps213
  go_wp2
  go_step3
  go_wp2
  go_step3
  go_wp2_with (refine wpList_load_row rfl 223 (.global 5) rfl 5 rfl t A fr _ hblk0 Tryz.underlying223 rfl hsz ?_)
  clear hblk0 hsz
  go_loopg [3, 7] 21 (fun gf s3 s7 wx => ∃ (k : Nat) (l : Str × Str), k + gf = 21 ∧ s3 = .bool false ∧ s7 = .int .i64 k ∧ wx.heap[w.heap.size]? = some (.cells #[.string ⟨l.1.toArray⟩, .string ⟨l.2.toArray⟩] 198 (0, 0)) ∧ More w wx ∧ findFrom come (namesT.drop k) l = findName come)
  case atStart => exact ⟨0, ([], []), by omega, rfl, rfl, heap_alloc_new _ _, hm0, rfl⟩
  case round =>
    obtain ⟨k, l, hkg, rfl, rfl, hblk, hM, hfin⟩ := hrel
    have c0 : wr.cell? ⟨w.heap.size, 0, none⟩ = some (.string ⟨l.1.toArray⟩) := cell_of_self hblk 0
    have c1 : wr.cell? ⟨w.heap.size, 1, none⟩ = some (.string ⟨l.2.toArray⟩) := cell_of_self hblk 1
    have f1 := frozen_of_self hblk
    have hlt : w.heap.size < wr.heap.size := (Array.getElem?_eq_some_iff.1 hblk).1
    by_cases hk : k < 21
    · obtain ⟨n, hn⟩ : ∃ n, namesT[k]? = some n := ⟨_, List.getElem?_eq_getElem hk⟩
      have hix := (unhide hIX) k n hn
      have hdrop : namesT.drop k = n :: namesT.drop (k + 1) := by
        have := List.drop_eq_getElem_cons (l := namesT) (i := k) hk
        rw [this]
        congr 1
        exact Option.some.inj ((List.getElem?_eq_getElem hk).symm.trans hn)
      rw [hdrop, findFrom] at hfin
      clear hdrop
      unfold namedV at hix
      have hkz : (k : Int) < 21 := by omega
      obtain ⟨g', rfl⟩ : ∃ g', gk = g' + 1 := ⟨gk - 1, by omega⟩
      have hnl : n.1.length ≤ 7 := names_len n (List.mem_of_getElem? hn)
      have HP := hide (fun W => isPartOf_does come n.1 W (by unfold lim; omega) (by unfold lim; omega))
      have HH := hide (fun W => hasPrefix_does come n.1 W (by unfold lim; omega) (by unfold lim; omega))
      have HM := hide hM
      have HB := hide hblk
      clear hM hblk hn hm0
      cases hp : partOf come n.1
      · rw [hp] at HP
        rw [if_neg (by rw [hp]; decide)] at hfin
        cases hh : hasPre come n.1
        · rw [hh] at HH
          rw [if_pos (.inl hh)] at hfin
          have HF := hide hfin
          clear hfin
          go_wp2_with (first
            | (go_at_call 241; refine (unhide HP _).mono ?_; rintro e w1 ⟨rfl, rfl⟩)
            | (go_at_call 249; refine (unhide HH _).mono ?_; rintro e w1 ⟨rfl, rfl⟩))
          go_roundg g'
          case measure => omega
          case rel => exact ⟨k + 1, l, by omega, rfl, by go_num, ((More.refl wr).alloc _).block _ hlt |>.trans (unhide HB), (unhide HM).alloc _, unhide HF⟩
        · rw [hh] at HH
          by_cases hl : n.1.length < l.1.length
          · rw [if_pos (.inr hl)] at hfin
            have HF := hide hfin
            clear hfin
            go_wp2_with (first
              | (go_at_call 241; refine (unhide HP _).mono ?_; rintro e w1 ⟨rfl, rfl⟩)
              | (go_at_call 249; refine (unhide HH _).mono ?_; rintro e w1 ⟨rfl, rfl⟩))
            go_roundg g'
            case measure => omega
            case rel => exact ⟨k + 1, l, by omega, rfl, by go_num, ((More.refl wr).alloc _).block _ hlt |>.trans (unhide HB), (unhide HM).alloc _, unhide HF⟩
          · rw [if_neg (by rw [hh]; simpa using hl)] at hfin
            have hl' : l.1.length ≤ n.1.length := by omega
            have HF := hide hfin
            clear hfin
            go_wp2_with (first
              | (go_at_call 241; refine (unhide HP _).mono ?_; rintro e w1 ⟨rfl, rfl⟩)
              | (go_at_call 249; refine (unhide HH _).mono ?_; rintro e w1 ⟨rfl, rfl⟩))
            go_roundg g'
            case measure => omega
            case rel => exact ⟨k + 1, n, by omega, rfl, by go_num, (by rw [Below.heap_alloc _ _ _ (by simpa [World.setCell] using hlt), set_self (set_self (unhide HB) 0 _) 1 _]; rfl), (((unhide HM).set (Nat.le_refl _) _ _).set (Nat.le_refl _) _ _).alloc _, unhide HF⟩
      · rw [if_pos hp] at hfin
        rw [hp] at HP
        have HF := hide hfin
        clear hfin
        go_wp2_with (go_at_call 241; refine (unhide HP _).mono ?_; rintro e w1 ⟨rfl, rfl⟩)
        rw [Exit.noGoto_ret]
        refine bodyPost_ret (results_cell_tmp rfl _ _ w.heap.size 198 #[.string ⟨l.1.toArray⟩, .string ⟨l.2.toArray⟩] (0, 0) _ rfl ?_ Tryz.underlying198 rfl (by kernel_rfl)) rfl ?_
        · rw [Below.heap_alloc _ _ _ (by simpa [World.setCell] using hlt), set_self (set_self (unhide HB) 0 _) 1 _]
          rfl
        · exact ⟨by rw [← unhide HF]; rfl, ((((unhide HM).set (Nat.le_refl _) _ _).set (Nat.le_refl _) _ _).alloc _)⟩
    · have hk' : k = 21 := by omega
      subst hk'
      have HF := hide hfin
      have HM := hide hM
      have HB := hide hblk
      clear hfin hM hblk hm0
      go_wp2
      rw [Exit.noGoto_ret]
      refine bodyPost_ret (results_cell_tmp rfl _ _ w.heap.size 198 #[.string ⟨l.1.toArray⟩, .string ⟨l.2.toArray⟩] (0, 0) _ rfl ?_ Tryz.underlying198 rfl (by kernel_rfl)) rfl ?_
      · rw [set_self (set_self (unhide HB) 0 _) 1 _]
        rfl
      · exact ⟨by rw [← unhide HF]; rfl, (((unhide HM).set (Nat.le_refl _) _ _).set (Nat.le_refl _) _ _)⟩
end Go.Proofs.YtdfmapcnfficlaaGreatDoor

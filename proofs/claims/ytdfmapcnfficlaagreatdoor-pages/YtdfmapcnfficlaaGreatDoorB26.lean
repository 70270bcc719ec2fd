/-
  References by name: the state of names.
-/
import Derived.Test.YtdfmapcnfficlaaGreatDoorB25
set_option linter.unusedSimpArgs false
set_option linter.unusedVariables false
namespace Go.Proofs.YtdfmapcnfficlaaGreatDoor
open Go Go.RowKit
section
variable {w0 : World} {own0 : Nat → Prop} {b : Nat} {s : TS} {ex : List Item} {w : World} {R : Regs}

theorem findFrom_mem (come : Str) : ∀ (l : List (Str × Str)) (a r : Str × Str), findFrom come l a = (r, false) → r = a ∨ (r ∈ l ∧ hasPre come r.1 = true)
  | [], a, r, h => by
    simp [findFrom] at h
    exact .inl h.symm
  | n :: l, a, r, h => by
    rw [findFrom] at h
    split at h
    · simp at h
    · split at h
      · rcases findFrom_mem come l a r h with h1 | h1
        · exact .inl h1
        · exact .inr ⟨List.mem_cons_of_mem _ h1.1, h1.2⟩
      · rename_i hn
        rcases findFrom_mem come l n r h with h1 | h1
        · subst h1
          refine .inr ⟨List.mem_cons_self, ?_⟩
          cases hh : hasPre come r.1
          · exact absurd (.inl hh) hn
          · rfl
        · exact .inr ⟨List.mem_cons_of_mem _ h1.1, h1.2⟩
theorem findFrom_wait (come : Str) : ∀ (l : List (Str × Str)) (a r : Str × Str), findFrom come l a = (r, true) → ∃ n ∈ l, partOf come n.1 = true
  | [], a, r, h => by simp [findFrom] at h
  | n :: l, a, r, h => by
    rw [findFrom] at h
    split at h
    · rename_i hp
      exact ⟨n, List.mem_cons_self, hp⟩
    · split at h
      · obtain ⟨m, h1, h2⟩ := findFrom_wait come l a r h
        exact ⟨m, List.mem_cons_of_mem _ h1, h2⟩
      · obtain ⟨m, h1, h2⟩ := findFrom_wait come l n r h
        exact ⟨m, List.mem_cons_of_mem _ h1, h2⟩

theorem names_ascii : ∀ n ∈ namesT, (∀ x ∈ n.1, x.toNat < 128) ∧ n.2.length ≤ 3 := by decide
theorem enc_head (c : Int) : (∃ x, Lib.encodeRune c = [x]) ∨ ∃ y r, Lib.encodeRune c = y :: r ∧ 128 ≤ y.toNat := by
  unfold Lib.encodeRune Lib.encodeRuneZ
  split
  · exact .inl ⟨_, rfl⟩
  · right
    split
    · refine ⟨_, _, rfl, ?_⟩
      rename_i h
      have : (192 + c / 64).toNat < 256 := by omega
      show 128 ≤ (UInt8.ofNat (192 + c / 64).toNat).toNat
      rw [UInt8.toNat_ofNat_of_lt' (by simpa using this)]
      omega
    · split
      · refine ⟨_, _, rfl, ?_⟩
        rename_i h
        have : (224 + c / 4096).toNat < 256 := by omega
        show 128 ≤ (UInt8.ofNat (224 + c / 4096).toNat).toNat
        rw [UInt8.toNat_ofNat_of_lt' (by simpa using this)]
        omega
      · split
        · refine ⟨_, _, rfl, ?_⟩
          rename_i h
          have : (240 + c / 262144).toNat < 256 := by omega
          show 128 ≤ (UInt8.ofNat (240 + c / 262144).toNat).toNat
          rw [UInt8.toNat_ofNat_of_lt' (by simpa using this)]
          omega
        · exact ⟨_, _, rfl, by decide⟩
theorem pre_len {a p : Str} {c : Int} (h : hasPre (a ++ Lib.encodeRune c) p = true) (hne : p ≠ a ++ Lib.encodeRune c) (hasc : ∀ x ∈ p, x.toNat < 128) : p.length ≤ a.length := by
  have hp : p <+: a ++ Lib.encodeRune c := List.isPrefixOf_iff_prefix.1 h
  apply Nat.le_of_not_lt
  intro hlt
  obtain ⟨z, hz⟩ := hp
  have hq : p = a ++ p.drop a.length := by
    have h1 : p.take a.length = a := by
      have := congrArg (List.take a.length) hz
      rw [List.take_append_of_le_length (by omega)] at this
      rw [this]
      simp
    exact (by rw [← h1, List.length_take, Nat.min_eq_left (by omega)]; exact (List.take_append_drop _ _).symm)
  have hq0 : p.drop a.length ≠ [] := by
    intro e
    have := congrArg List.length e
    simp at this
    omega
  generalize p.drop a.length = q at *
  subst hq
  rw [List.append_assoc] at hz
  have hz' := List.append_cancel_left hz
  cases q with
  | nil => exact hq0 rfl
  | cons y q =>
    rcases enc_head c with ⟨x, hx⟩ | ⟨y', r, hx, hy⟩
    · rw [hx] at hz' hne
      simp only [List.cons_append, List.cons.injEq, List.append_eq_nil_iff] at hz'
      obtain ⟨rfl, rfl, rfl⟩ := hz'
      exact hne rfl
    · rw [hx] at hz'
      simp only [List.cons_append, List.cons.injEq] at hz'
      obtain ⟨rfl, _⟩ := hz'
      have := hasc y (by simp)
      omega

def lookInRefName (s : TS) (c : Int) : Int × TS :=
  if (findName (s.rcome ++ Lib.encodeRune c)).2 = true then (0, setCome s (s.rcome ++ Lib.encodeRune c))
  else if (findName (s.rcome ++ Lib.encodeRune c)).1.1 = [] then (1, { addToTarget s (38 :: s.rcome) with state := 33 })
  else if (findName (s.rcome ++ Lib.encodeRune c)).1.1 = s.rcome ++ Lib.encodeRune c then (0, { addToTarget s (findName (s.rcome ++ Lib.encodeRune c)).1.2 with state := s.rback })
  else (1, endOpenName s (findName (s.rcome ++ Lib.encodeRune c)).1 c)

theorem lookInRefName_1 (s : TS) (c : Int) (h : (findName (s.rcome ++ Lib.encodeRune c)).2 = true) : lookInRefName s c = (0, setCome s (s.rcome ++ Lib.encodeRune c)) := by rw [lookInRefName, if_pos h]
theorem lookInRefName_2 (s : TS) (c : Int) (h : (findName (s.rcome ++ Lib.encodeRune c)).2 = false ∧ (findName (s.rcome ++ Lib.encodeRune c)).1.1 = []) : lookInRefName s c = (1, { addToTarget s (38 :: s.rcome) with state := 33 }) := by rw [lookInRefName, if_neg (by rw [h.1]; decide), if_pos h.2]
theorem lookInRefName_3 (s : TS) (c : Int) (h : (findName (s.rcome ++ Lib.encodeRune c)).2 = false ∧ (findName (s.rcome ++ Lib.encodeRune c)).1.1 ≠ [] ∧ (findName (s.rcome ++ Lib.encodeRune c)).1.1 = s.rcome ++ Lib.encodeRune c) : lookInRefName s c = (0, { addToTarget s (findName (s.rcome ++ Lib.encodeRune c)).1.2 with state := s.rback }) := by rw [lookInRefName, if_neg (by rw [h.1]; decide), if_neg h.2.1, if_pos h.2.2]
theorem lookInRefName_4 (s : TS) (c : Int) (h : (findName (s.rcome ++ Lib.encodeRune c)).2 = false ∧ (findName (s.rcome ++ Lib.encodeRune c)).1.1 ≠ [] ∧ (findName (s.rcome ++ Lib.encodeRune c)).1.1 ≠ s.rcome ++ Lib.encodeRune c) : lookInRefName s c = (1, endOpenName s (findName (s.rcome ++ Lib.encodeRune c)).1 c) := by rw [lookInRefName, if_neg (by rw [h.1]; decide), if_neg h.2.1, if_neg h.2.2]

set_option maxHeartbeats 1000000 in
set_option maxRecDepth 1000000 in
theorem lookInRefName_does (c : Int) (hc : Rn c) (B : Base w0 own0) (hr : RefOk s) (h : Tk w0 own0 b s ex w) (hs : sz s + 128 ≤ lim) :
    Calls Tryz.prog 155 #[.pointer (some ⟨b, 0, none⟩), .int .i32 c] w fun e w' => e = .returned (.int .i64 (lookInRefName s c).1) ∧ Tk w0 own0 b (lookInRefName s c).2 ex w' := by
  have hcv : ∀ w, (convert 21 9 (.int .i32 c)).run Tryz.prog w = .ok (.string ⟨(Lib.encodeRune c).toArray⟩) w := fun w => by
    rw [run_convert_int_string w 21 9 .i32 c (by rw [Tryz.underlying21]; rfl) Tryz.underlying9, enc_eq]
  have hcat : ∀ w, _ := fun w => cat_run s.rcome (Lib.encodeRune c) w (by have := len_rune c; have := hr.come; unfold lim; omega)
  have hcl : (s.rcome ++ Lib.encodeRune c).length ≤ 12 := by have := len_rune c; have := hr.come; simp; omega
  have hcome := come_cell h
  have HT := hide h
  have HB := hide B
  have HS := hide hs
  have HR := hide hr
  have hf1 := h.frozen
  clear h B hs hr
  go_enter Tryz.func155, Tryz.ntmps155
  go_wp2_with fail
  refine (findName_does (s.rcome ++ Lib.encodeRune c) w ((unhide HB).at (unhide HT).2) (by omega)).mono ?_
  rintro e w1 ⟨rfl, hm⟩
  have T1 := (unhide HT).more hm
  have hcome1 := come_cell T1
  have hback1 := back_cell T1
  have hf2 := T1.frozen
  have hb1 := (by obtain ⟨R, hR⟩ := T1.reg; exact hR.1.lt_b : b < w1.heap.size)
  clear hf1 hcome HT hm hcat
  have hmem := fun r h => findFrom_mem (s.rcome ++ Lib.encodeRune c) namesT ([], []) r h
  have hX := fun h => lookInRefName_1 s c h
  have hX2 := fun h => lookInRefName_2 s c h
  have hX3 := fun h => lookInRefName_3 s c h
  have hX4 := fun h => lookInRefName_4 s c h
  rw [show findFrom (s.rcome ++ Lib.encodeRune c) namesT ([], []) = findName (s.rcome ++ Lib.encodeRune c) from rfl] at hmem
  generalize findName (s.rcome ++ Lib.encodeRune c) = f at *
  obtain ⟨n, wt⟩ := f
  unfold namedV
  simp only at *
  have T2 := hide (fun o => tk_alloc T1 o)
  cases wt
  · have hmem' := hmem n rfl
    by_cases hn0 : n.1 = []
    · have e0 : (n.1 == []) = true := by simp [hn0]
      have HF := hide (hX2 ⟨rfl, hn0⟩)
      have hcat2 : ∀ w, (Op.stringOp .add ⟨#[38]⟩ ⟨s.rcome.toArray⟩).run Tryz.prog w = .ok (.string ⟨(38 :: s.rcome).toArray⟩) w := fun w => cat_run [38] s.rcome w (by have := (unhide HR).come; simp only [List.length_cons, List.length_nil]; unfold lim; omega)
      clear hX hX2 hX3 hX4 hmem hmem' T1
      go_wp2_with fail
      refine (addToTarget_does (38 :: s.rcome) (unhide HR).at' (unhide T2 _) (by have := unhide HS; have := (unhide HR).come; simp only [List.length_cons]; omega)).mono ?_
      rintro e w3 ⟨rfl, h3⟩
      go_wp2_with fail
      refine (again_does 33 h3).mono ?_
      rintro e w4 ⟨rfl, h4⟩
      go_wp2
      go_ret
      exact ⟨by rw [unhide HF]; rfl, by rw [unhide HF]; exact h4⟩
    · have e0 : (n.1 == []) = false := by simp [hn0]
      have hin : n ∈ namesT ∧ hasPre (s.rcome ++ Lib.encodeRune c) n.1 = true := by
        rcases hmem' with h1 | h1
        · subst h1; exact absurd rfl hn0
        · exact h1
      have hl1 := names_len n hin.1
      have hl2 := (names_ascii n hin.1).2
      by_cases hnc : n.1 = s.rcome ++ Lib.encodeRune c
      · have e1 : (n.1 == s.rcome ++ Lib.encodeRune c) = true := by simp [hnc]
        have HF := hide (hX3 ⟨rfl, hn0, hnc⟩)
        clear hX hX2 hX3 hX4 hmem hmem' T1 hin hn0 hnc
        go_wp2_with fail
        refine (addToTarget_does n.2 (unhide HR).at' (unhide T2 _) (by have := unhide HS; omega)).mono ?_
        rintro e w3 ⟨rfl, h3⟩
        have d3 := back_cell h3
        rw [addToTarget_rback] at d3
        go_wp2_with fail
        refine (to_does s.rback h3).mono ?_
        rintro e w4 ⟨rfl, h4⟩
        go_wp2
        go_ret
        exact ⟨by rw [unhide HF]; rfl, by rw [unhide HF]; exact h4⟩
      · have e1 : (n.1 == s.rcome ++ Lib.encodeRune c) = false := by simp [hnc]
        have HF := hide (hX4 ⟨rfl, hn0, hnc⟩)
        have hle := pre_len hin.2 hnc (names_ascii n hin.1).1
        clear hX hX2 hX3 hX4 hmem hmem' T1 hin hn0 hnc
        go_wp2_with fail
        refine (endOpenName_does n c hc (unhide HB) (unhide HR) hl1 (by omega) hle (unhide T2 _) (unhide HS)).mono ?_
        rintro e w3 ⟨rfl, h3⟩
        go_wp2
        go_ret
        exact ⟨by rw [unhide HF]; rfl, by rw [unhide HF]; exact h3⟩
  · have HF := hide (hX rfl)
    have T3 := hide (fun o => tk_alloc (tk_come T1 (s.rcome ++ Lib.encodeRune c)) o)
    clear hX hX2 hX3 hX4 hmem T1
    go_wp2
    go_ret
    exact ⟨by rw [unhide HF]; rfl, by rw [unhide HF]; exact unhide T3 _⟩
end
end Go.Proofs.YtdfmapcnfficlaaGreatDoor

/-
  A text in pieces is the text at once.
  Write and Close of a tokenizer that is open.
-/
import Derived.Test.YtdfmapcnfficlaaGreatDoorB41
import Derived.Test.YtdfmapcnfficlaaGreatDoorB40
import Derived.Deep.QuietTactic
import Derived.BigQuiet
set_option linter.unusedSimpArgs false
set_option linter.unusedVariables false
namespace Go.Proofs.YtdfmapcnfficlaaGreatDoor
open Go Go.RowKit

theorem readN_stop (n f : Nat) (s : TS) {r : Str} (h : (firstPt r).2 = 0) : readN n f s r = (s, r) := by
  cases f with
  | zero => rfl
  | succ f => rw [readN, if_pos h]

theorem readN_fuel (n : Nat) : ∀ (k f g : Nat) (s : TS) (r : Str), r.length ≤ k → r.length ≤ f → r.length ≤ g → readN n f s r = readN n g s r
  | 0, f, g, s, r, h1, h2, h3 => by
    have hx : r = [] := List.length_eq_zero_iff.1 (by omega)
    subst hx
    have h0 : (firstPt []).2 = 0 := by have := firstPt_le []; simpa using this
    rw [readN_stop n f s h0, readN_stop n g s h0]
  | k + 1, f, g, s, r, h1, h2, h3 => by
    by_cases h0 : (firstPt r).2 = 0
    · rw [readN_stop n f s h0, readN_stop n g s h0]
    · have hle := firstPt_le r
      cases f with
      | zero => omega
      | succ f =>
        cases g with
        | zero => omega
        | succ g =>
          rw [readN, readN, if_neg h0, if_neg h0]
          exact readN_fuel n k f g _ _ (by rw [List.length_drop]; omega) (by rw [List.length_drop]; omega) (by rw [List.length_drop]; omega)

theorem readN_cut (n : Nat) (y : Str) : ∀ (k f g l : Nat) (s : TS) (x : Str), x.length ≤ k → x.length ≤ f → x.length + y.length ≤ g → x.length + y.length ≤ l → readN n g s (x ++ y) = readN n l (readN n f s x).1 ((readN n f s x).2 ++ y)
  | 0, f, g, l, s, x, h1, h2, h3, h4 => by
    have hx : x = [] := List.length_eq_zero_iff.1 (by omega)
    subst hx
    have h0 : (firstPt []).2 = 0 := by have := firstPt_le []; simpa using this
    rw [readN_stop n f s h0]
    exact readN_fuel n y.length g l s y (Nat.le_refl _) (by simpa using h3) (by simpa using h4)
  | k + 1, f, g, l, s, x, h1, h2, h3, h4 => by
    by_cases h0 : (firstPt x).2 = 0
    · rw [readN_stop n f s h0]
      exact readN_fuel n (x ++ y).length g l s (x ++ y) (Nat.le_refl _) (by simpa using h3) (by simpa using h4)
    · have hle := firstPt_le x
      have hs := firstPt_stable y h0
      cases f with
      | zero => omega
      | succ f =>
        cases g with
        | zero => omega
        | succ g =>
          rw [readN, readN, hs, if_neg h0, if_neg h0, List.drop_append_of_le_length hle]
          exact readN_cut n y k f g l _ _ (by rw [List.length_drop]; omega) (by rw [List.length_drop]; omega) (by rw [List.length_drop]; omega) (by rw [List.length_drop]; omega)

/-- With p told ahead of all. -/
def ahead (p : List Tok) (s : TS) : TS := { s with told := p ++ s.told }
theorem ahead_over (p : List Tok) (s : TS) : ahead p s = over s p s := rfl

/-- The tokens of the end: what Close and Take tell. -/
def closeT (s : TS) : TS := tell (endAll s) { kind := 6 }

theorem over_endPoints (h : TS) (p : List Tok) (n : Nat) (s : TS) (hb : h.begun = s.begun) : endPoints n (over h p s) = over (if s.begun = [] then h else { h with begun := [] }) p (endPoints n s) := by
  unfold endPoints
  rw [show (over h p s).begun = s.begun from hb]
  split
  · rfl
  · rw [show ({ over h p s with begun := [] } : TS) = over { h with begun := [] } p { s with begun := [] } from rfl, over_pass]

theorem endAll_over (h : TS) (p : List Tok) (s : TS) (hb : h.begun = s.begun) : ∃ h', endAll (over h p s) = over h' p (endAll s) ∧ h'.limit = h.limit ∧ h'.bytes = h.bytes ∧ h'.closed = true := by
  unfold endAll
  rw [show ({ over h p s with closed := true } : TS) = over { h with closed := true } p { s with closed := true } from rfl, over_endPoints _ _ _ _ (by exact hb), over_lookN, over_flush]
  refine ⟨_, rfl, ?_⟩
  split <;> exact ⟨rfl, rfl, rfl⟩

theorem endAll_ahead (p : List Tok) (s : TS) : (endAll (ahead p s)).told = p ++ (endAll s).told := by
  rw [ahead_over]
  obtain ⟨h', e, _⟩ := endAll_over s p s rfl
  rw [e]
  rfl
theorem endAll_text (s : TS) : (endAll s).text = [] := by
  unfold endAll flush
  split
  · assumption
  · rfl
theorem flush_nil {s : TS} (h : s.text = []) : flush s = s := by unfold flush; rw [if_pos h]
theorem closeT_told (s : TS) : (closeT s).told = (endAll s).told ++ [{ kind := 6 }] := by
  unfold closeT tell
  rw [flush_nil (endAll_text s)]
  rfl
theorem closeT_ahead (p : List Tok) (s : TS) : (closeT (ahead p s)).told = p ++ (closeT s).told := by
  rw [closeT_told, closeT_told, endAll_ahead, List.append_assoc]

theorem put_eq (s : TS) (x : Str) : put s x = over { s with begun := (readN 4 (s.begun ++ x).length s (s.begun ++ x)).2, bytes := s.bytes + x.length } [] (readN 4 (s.begun ++ x).length s (s.begun ++ x)).1 := by
  unfold put read
  rw [show ({ s with bytes := s.bytes + x.length } : TS) = over { s with bytes := s.bytes + x.length } [] s from rfl, over_readN]
  rfl

theorem put_ahead (p : List Tok) (s : TS) (x : Str) : put (ahead p s) x = ahead p (put s x) := by
  rw [put_eq, put_eq, ahead_over, over_readN]
  simp [over, ahead]

theorem readN_rest (n : Nat) : ∀ (f : Nat) (s : TS) (r : Str), (readN n f s r).2.length ≤ r.length
  | 0, s, r => Nat.le_refl _
  | f + 1, s, r => by
    rw [readN]
    split
    · exact Nat.le_refl _
    · have := readN_rest n f (pass n s (firstPt r).1) (r.drop (firstPt r).2)
      rw [List.length_drop] at this
      omega

theorem put_put (s : TS) (x y : Str) : put (put s x) y = put s (x ++ y) := by
  rw [put_eq s x, put_eq s (x ++ y), ← List.append_assoc]
  generalize hA : readN 4 (s.begun ++ x).length s (s.begun ++ x) = A
  have hl := readN_cut 4 y (s.begun ++ x).length (s.begun ++ x).length (s.begun ++ x ++ y).length (s.begun ++ x ++ y).length s (s.begun ++ x) (Nat.le_refl _) (Nat.le_refl _) (by simp only [List.length_append]; omega) (by simp only [List.length_append]; omega)
  rw [hA] at hl
  have hle : A.2.length ≤ (s.begun ++ x).length := by rw [← hA]; exact readN_rest 4 _ _ _
  have hfu := readN_fuel 4 (A.2 ++ y).length (s.begun ++ x ++ y).length (A.2 ++ y).length A.1 (A.2 ++ y) (Nat.le_refl _) (by simp only [List.length_append] at *; omega) (Nat.le_refl _)
  rw [hl, hfu]
  generalize hD : readN 4 (A.2 ++ y).length A.1 (A.2 ++ y) = D
  generalize hP : over { s with begun := A.2, bytes := s.bytes + (x.length : Int) } [] A.1 = P
  have hb : P.begun = A.2 := by rw [← hP]; rfl
  have hb2 : P.bytes = s.bytes + (x.length : Int) := by rw [← hP]; rfl
  have hb3 : P.limit = s.limit := by rw [← hP]; rfl
  have hb4 : P.closed = s.closed := by rw [← hP]; rfl
  have hr : readN 4 (A.2 ++ y).length P (A.2 ++ y) = (over { s with begun := A.2, bytes := s.bytes + (x.length : Int) } [] D.1, D.2) := by rw [← hP, over_readN, hD]
  rw [put_eq P y, hb, hr]
  simp only [over, hb2, hb3, hb4, List.nil_append, List.length_append]
  rw [show s.bytes + (x.length : Int) + (y.length : Int) = s.bytes + ((x.length + y.length : Nat) : Int) by omega]

theorem put_nil (s : TS) (h : (firstPt s.begun).2 = 0) : put s [] = s := by
  rw [put_eq, List.append_nil, readN_stop 4 _ s h]
  simp [over]
end Go.Proofs.YtdfmapcnfficlaaGreatDoor

set_option linter.unusedSimpArgs false
set_option linter.unusedVariables false
namespace Go.Proofs.YtdfmapcnfficlaaGreatDoor
open Go Go.RowKit
section
variable {w0 : World} {own0 : Nat → Prop} {b : Nat} {s : TS} {ex : List Item} {w : World} {R : Regs} {c : Int}

theorem Tk.drewN (h : Tk w0 own0 b s ex w) (n : Nat) : Tk w0 own0 b s ex (w.drewN n) := h.more ⟨rfl, rfl, rfl, Nat.le_refl _, fun _ _ => rfl⟩

theorem extract_all (x : Str) : (⟨x.toArray⟩ : ByteArray).extract 0 x.length = ⟨x.toArray⟩ := by
  apply ByteArray.ext
  simp

set_option maxHeartbeats 1600000 in
set_option maxRecDepth 1000000 in
theorem write_ok {n : Nat} (ho : Open s n) (x : Str) (hn : n + x.length ≤ 1073741824) (hl : (n + x.length : Int) ≤ s.limit) (hl2 : s.limit ≤ 9223372036854775807) (B : Base w0 own0) (h : Tk w0 own0 b s ex w) :
    Calls Tryz.prog 17 #[.pointer (some ⟨b, 0, none⟩), .string ⟨x.toArray⟩] w fun e w' => e = .returned .nilIface ∧ Tk w0 own0 b (put s x) ex w' := by
  obtain ⟨hr, _, _⟩ := open_put (w0 := w0) (own0 := own0) ho x hn
  have hby := ho.by'
  have c1 := limit_cell h
  have c2 := bytes_cell h
  have f1 := h.frozen
  have HI := hide (isClosed_does h)
  rw [ho.cl] at HI
  have hsh := ho.short
  have H1 := hide (fun W (hW : Tk w0 own0 b { s with bytes := s.bytes + x.length } ex W) => read_does (s := { s with bytes := s.bytes + x.length }) 4 (s.begun ++ x).length x B (by show s.begun.length + x.length ≤ lim; unfold lim; omega) (hr B) hW)
  have HT := hide (fun nq => tk_bytes (h.drewN nq) (s.bytes + x.length))
  have hmin : min (x.length : Int) (s.limit - s.bytes) = x.length := by omega
  have hsl : ∀ W, (Instr.slice 9 (.string ⟨x.toArray⟩) none (some (.int .i64 (x.length : Int))) none).run Tryz.prog W = .ok (.string ⟨x.toArray⟩) W := fun W => by
    rw [run_slice_string_to_if W 9 ⟨x.toArray⟩ .i64 x.length Tryz.underlying9, if_pos ⟨by omega, by simp [ByteArray.size]⟩, Int.toNat_natCast, extract_all]
  have hle : (x.length : Int) ≤ s.limit - s.bytes := by omega
  unfold put
  unfold lookV at H1
  clear ho hr B h
  simp only [hby] at H1 HT c2 hmin hle ⊢
  clear hby
  go_enter Tryz.func17, Tryz.ntmps17
  go_wp2_with fail
  refine (unhide HI).mono ?_
  rintro e w1 ⟨rfl, rfl⟩
  go_wp2_with fail
  go_quiet (fail)
  go_wp2_with fail
  have HT1 := hide (unhide HT nq)
  clear HT HI c1 c2
  try simp only [hmin]
  generalize (w1.drewN nq).setCell ⟨b, 3, none⟩ (.int .i64 ((n : Int) + (x.length : Int))) = W at *
  have HT2 := hide (unhide HT1).drew
  clear f1
  go_region_with (go_at_call 33; refine (unhide H1 _ (by first | exact unhide HT1 | exact unhide HT2)).mono ?_; rintro e w2 ⟨rfl, h2⟩)
  all_goals
    go_wp2
    go_ret
    exact ⟨rfl, h2⟩

set_option maxHeartbeats 1600000 in
set_option maxRecDepth 1000000 in
theorem close_ok {n : Nat} (ho : Open s n) (hn : n ≤ 1073741824) (B : Base w0 own0) (h : Tk w0 own0 b s ex w) :
    Calls Tryz.prog 22 #[.pointer (some ⟨b, 0, none⟩)] w fun e w' => e = .returned .nilIface ∧ Tk w0 own0 b (closeT s) ex w' := by
  have HI := hide (isClosed_does h)
  rw [ho.cl] at HI
  have hsz := ho.small
  have hpl := ho.place
  have H1 := hide (endAll_does B ho.fine (by omega) (by unfold lim; omega) h)
  have hez := endAll_small w0 ho hn
  have H2 := hide (fun W (hW : Tk w0 own0 b (endAll s) ex W) => tell_does { kind := 6 } ⟨none, 0⟩ (tk_bare hW) (by unfold lim; omega : (endAll s).told.length + 1 ≤ lim))
  simp only [tokCells] at H2
  unfold closeT
  clear ho B h
  go_enter Tryz.func22, Tryz.ntmps22
  go_wp2_with fail
  refine (unhide HI).mono ?_
  rintro e w1 ⟨rfl, rfl⟩
  go_wp2_with fail
  refine (unhide H1).mono ?_
  rintro e w2 ⟨rfl, h2⟩
  go_wp2_with fail
  refine (unhide H2 _ h2).mono ?_
  rintro e w3 ⟨rfl, h3⟩
  go_wp2
  go_ret
  exact ⟨rfl, h3⟩
end
end Go.Proofs.YtdfmapcnfficlaaGreatDoor

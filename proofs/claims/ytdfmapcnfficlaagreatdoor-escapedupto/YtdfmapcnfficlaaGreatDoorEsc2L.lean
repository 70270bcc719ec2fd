/-
  A text of whole code points, and what the machine makes of one that was escaped.
  An escaped text is read as it was: as a text, as a value.
-/
import Derived.Test.YtdfmapcnfficlaaGreatDoorWfAL
import Derived.Test.YtdfmapcnfficlaaGreatDoorB44
import Derived.Test.YtdfmapcnfficlaaGreatDoorB42
set_option linter.unusedSimpArgs false
set_option linter.unusedVariables false
namespace Go.Proofs.YtdfmapcnfficlaaGreatDoor
open Go Go.RowKit

def Scalar (c : Int) : Prop := 0 ≤ c ∧ c ≤ 1114111 ∧ ¬ (55296 ≤ c ∧ c ≤ 57343)
theorem dec_enc {c : Int} (h : Scalar c) : ((Lib.decodeGo ⟨(Lib.encodeRune c).toArray⟩).1 : Int) = c := by
  obtain ⟨h0, h1, h2⟩ := h
  obtain ⟨n, rfl⟩ : ∃ n : Nat, c = n := ⟨c.toNat, by omega⟩
  obtain ⟨w1, w2, w3⟩ := whole_enc (n : Int)
  rw [decode_list w1] at w3 ⊢
  have hs := Lib.decodeN_shape (Lib.encodeRune (n : Int)).length ((Lib.encodeRune (n : Int)).getD 0 0).toNat ((Lib.encodeRune (n : Int)).getD 1 0).toNat ((Lib.encodeRune (n : Int)).getD 2 0).toNat ((Lib.encodeRune (n : Int)).getD 3 0).toNat
  by_cases k1 : n ≤ 127
  · unfold Lib.encodeRune
    rw [Lib.encodeRuneZ_one (by omega) (by omega)]
    have e1 : (n : Int).toNat = n := by omega
    have f1 : (UInt8.ofNat n).toNat = n := u8_nat n (by omega)
    simp only [List.map_cons, List.map_nil, e1, Nat.toUInt8, List.getD_cons_zero, List.getD_cons_succ, f1, List.length_cons, List.length_nil]
    unfold Lib.decodeN
    rw [if_pos (by omega)]
  generalize hd : Lib.decodeN (Lib.encodeRune (n : Int)).length ((Lib.encodeRune (n : Int)).getD 0 0).toNat ((Lib.encodeRune (n : Int)).getD 1 0).toNat ((Lib.encodeRune (n : Int)).getD 2 0).toNat ((Lib.encodeRune (n : Int)).getD 3 0).toNat = d at *
  clear hd
  unfold Lib.encodeRune at w3 hs
  by_cases k2 : n ≤ 2047
  · rw [Lib.encodeRuneZ_two (by omega) (by omega)] at w3 hs
    have e1 : (192 + (n : Int) / 64).toNat = 192 + n / 64 := by omega
    have e2 : (128 + (n : Int) % 64).toNat = 128 + n % 64 := by omega
    have f1 : (UInt8.ofNat (192 + n / 64)).toNat = 192 + n / 64 := u8_nat _ (by omega)
    have f2 : (UInt8.ofNat (128 + n % 64)).toNat = 128 + n % 64 := u8_nat _ (by omega)
    simp only [List.map_cons, List.map_nil, e1, e2, Nat.toUInt8, List.getD_cons_zero, List.getD_cons_succ, f1, f2, List.length_cons, List.length_nil] at w3 hs
    rcases hs with ⟨_, e⟩ | ⟨_, _, _, _, e⟩ | ⟨_, q, _⟩ | ⟨_, q, _⟩ | e
    · omega
    · rw [e]
      simp only
      omega
    · omega
    · omega
    · rw [e] at w3
      simp at w3
  by_cases k3 : n ≤ 65535
  · rw [Lib.encodeRuneZ_three (by omega)] at w3 hs
    have e1 : (224 + (n : Int) / 4096).toNat = 224 + n / 4096 := by omega
    have e2 : (128 + (n : Int) / 64 % 64).toNat = 128 + n / 64 % 64 := by omega
    have e3 : (128 + (n : Int) % 64).toNat = 128 + n % 64 := by omega
    have f1 : (UInt8.ofNat (224 + n / 4096)).toNat = 224 + n / 4096 := u8_nat _ (by omega)
    have f2 : (UInt8.ofNat (128 + n / 64 % 64)).toNat = 128 + n / 64 % 64 := u8_nat _ (by omega)
    have f3 : (UInt8.ofNat (128 + n % 64)).toNat = 128 + n % 64 := u8_nat _ (by omega)
    simp only [List.map_cons, List.map_nil, e1, e2, e3, Nat.toUInt8, List.getD_cons_zero, List.getD_cons_succ, f1, f2, f3, List.length_cons, List.length_nil] at w3 hs
    rcases hs with ⟨_, e⟩ | ⟨_, _, _, _, e⟩ | ⟨_, _, _, _, _, _, e⟩ | ⟨_, q, _⟩ | e
    · omega
    · omega
    · rw [e]
      simp only
      omega
    · omega
    · rw [e] at w3
      simp at w3
  · rw [Lib.encodeRuneZ_four (by omega) (by omega)] at w3 hs
    have e1 : (240 + (n : Int) / 262144).toNat = 240 + n / 262144 := by omega
    have e2 : (128 + (n : Int) / 4096 % 64).toNat = 128 + n / 4096 % 64 := by omega
    have e3 : (128 + (n : Int) / 64 % 64).toNat = 128 + n / 64 % 64 := by omega
    have e4 : (128 + (n : Int) % 64).toNat = 128 + n % 64 := by omega
    have f1 : (UInt8.ofNat (240 + n / 262144)).toNat = 240 + n / 262144 := u8_nat _ (by omega)
    have f2 : (UInt8.ofNat (128 + n / 4096 % 64)).toNat = 128 + n / 4096 % 64 := u8_nat _ (by omega)
    have f3 : (UInt8.ofNat (128 + n / 64 % 64)).toNat = 128 + n / 64 % 64 := u8_nat _ (by omega)
    have f4 : (UInt8.ofNat (128 + n % 64)).toNat = 128 + n % 64 := u8_nat _ (by omega)
    simp only [List.map_cons, List.map_nil, e1, e2, e3, e4, Nat.toUInt8, List.getD_cons_zero, List.getD_cons_succ, f1, f2, f3, f4, List.length_cons, List.length_nil] at w3 hs
    rcases hs with ⟨_, e⟩ | ⟨_, _, _, _, e⟩ | ⟨_, _, _, _, _, _, e⟩ | ⟨_, _, _, _, _, _, _, e⟩ | e
    · omega
    · omega
    · omega
    · rw [e]
      simp only
      omega
    · rw [e] at w3
      simp at w3
theorem firstPt_enc {c : Int} (h : Scalar c) (r : Str) : firstPt (Lib.encodeRune c ++ r) = (c, (Lib.encodeRune c).length) := by
  obtain ⟨w1, w2, w3⟩ := whole_enc c
  have h1 : firstPt (Lib.encodeRune c) = (c, (Lib.encodeRune c).length) := by
    unfold firstPt
    rw [if_neg (by rw [w2]; decide), dec_enc h, w3]
    split
    · rename_i hh
      obtain ⟨rfl, e⟩ := hh
      exact absurd e (by decide)
    · rfl
  rw [firstPt_stable r (by rw [h1]; simp; exact w1), h1]

def encs (l : List Int) : Str := l.flatMap Lib.encodeRune
theorem encs_cons (c : Int) (l : List Int) : encs (c :: l) = Lib.encodeRune c ++ encs l := rfl
theorem encs_app (a b : List Int) : encs (a ++ b) = encs a ++ encs b := by simp [encs]
def runC (s : TS) (l : List Int) : TS := l.foldl (fun s c => pass 4 s c) s
theorem runC_app (s : TS) (a b : List Int) : runC s (a ++ b) = runC (runC s a) b := by simp [runC]
theorem readN_encs : ∀ (l : List Int) (f : Nat) (s : TS), (∀ c ∈ l, Scalar c) → (encs l).length ≤ f → readN 4 f s (encs l) = (runC s l, [])
  | [], f, s, _, _ => by rw [show encs [] = [] from rfl, readN_stop 4 f s (by decide)]; rfl
  | c :: l, 0, s, h, hf => by
    rw [encs_cons, List.length_append] at hf
    have := (whole_enc c).1
    exact absurd (List.length_eq_zero_iff.1 (by omega)) this
  | c :: l, f + 1, s, h, hf => by
    have hc := firstPt_enc (h c (by simp)) (encs l)
    have hp : (Lib.encodeRune c).length ≠ 0 := fun e => (whole_enc c).1 (List.length_eq_zero_iff.1 e)
    rw [encs_cons, List.length_append] at hf
    rw [encs_cons, readN, hc]
    simp only
    rw [if_neg hp, List.drop_left]
    exact readN_encs l f _ (fun d hd => h d (by simp [hd])) (by omega)

theorem closeT_over2 (h : TS) (p : List Tok) (s : TS) (hb : h.begun = s.begun) : (closeT (over h p s)).told = p ++ (closeT s).told := by
  rw [closeT_told, closeT_told]
  obtain ⟨h', e, _⟩ := endAll_over h p s hb
  rw [e]
  show (p ++ (endAll s).told) ++ _ = _
  rw [List.append_assoc]
theorem toks_encs (l : List Int) (h : ∀ c ∈ l, Scalar c) (hb : (runC { limit := ((encs l).length : Int) } l).begun = []) : toks (encs l) = (closeT (runC { limit := ((encs l).length : Int) } l)).told := by
  unfold toks
  rw [put_eq]
  have e : readN 4 (([] : Str) ++ encs l).length { limit := ((encs l).length : Int) } (([] : Str) ++ encs l) = (runC { limit := ((encs l).length : Int) } l, []) := by
    rw [List.nil_append]
    exact readN_encs l _ _ h (Nat.le_refl _)
  simp only [e]
  rw [closeT_over2 _ [] _ (by exact hb.symm)]
  rfl

/-- The tokens that are no errors. -/
def vis (l : List Tok) : List Tok := l.filter fun t => !(t.kind == 5)
theorem vis_app (a b : List Tok) : vis (a ++ b) = vis a ++ vis b := by simp [vis]

theorem vis_of {s : TS} {l L : List Tok} (e : s.told = l) (h : vis l = L) : vis s.told = L := by rw [e]; exact h

/-- How a code point is written. -/
def escP (c : Int) : List Int := if c = 38 then [38, 97, 109, 112, 59] else if c = 60 then [38, 108, 116, 59] else if c = 34 then [38, 113, 117, 111, 116, 59] else if c = 13 then [38, 35, 49, 51, 59] else [c]

structure AtText (T : Str) (L : List Tok) (s : TS) : Prop where
  st : s.state = 0
  be : s.begun = []
  bh : s.behind = false
  tx : s.text = T
  td : vis s.told = L

theorem pass_data {s : TS} {c : Int} (hst : s.state = 0) (hb : s.behind = false) (h0 : 0 < c) (hc : c ≠ 38 ∧ c ≠ 60 ∧ c ≠ 13) : pass 4 s c = { s with behind := false, text := s.text ++ Lib.encodeRune c, place := s.place + 1 } := by
  have e1 : setBehind s c = { s with behind := false } := by
    unfold setBehind
    rw [show (c == 13) = false by simpa using hc.2.2]
  have e2 : lookOnce { s with behind := false } c = (0, addText { s with behind := false } (Lib.encodeRune c)) := by
    have : lookOnce { s with behind := false } c = lookInData { s with behind := false } c := by simp [lookOnce, hst]
    rw [this]
    unfold lookInData
    rw [if_neg (by omega), if_neg hc.1, if_neg hc.2.1, if_neg (by omega)]
  unfold pass
  rw [hb, if_neg (by simp), if_neg hc.2.2, e1]
  unfold lookAtNext
  rw [show lookN 4 { s with behind := false } c = addText { s with behind := false } (Lib.encodeRune c) by rw [lookN, e2, if_pos rfl]]
  rfl

theorem text_step {T : Str} {L : List Tok} {s : TS} (c : Int) (h : AtText T L s) (h0 : 0 < c) : AtText (T ++ Lib.encodeRune c) L (runC s (escP c)) := by
  by_cases hc : c ≠ 38 ∧ c ≠ 60 ∧ c ≠ 34 ∧ c ≠ 13
  · have e : escP c = [c] := by unfold escP; rw [if_neg hc.1, if_neg hc.2.1, if_neg hc.2.2.1, if_neg hc.2.2.2]
    rw [e]
    show AtText _ _ (pass 4 s c)
    rw [pass_data h.st h.bh h0 ⟨hc.1, hc.2.1, hc.2.2.2⟩]
    exact ⟨h.st, h.be, rfl, by rw [← h.tx], h.td⟩
  · obtain ⟨h1, h2, h3, h4, h5⟩ := h
    obtain ⟨begun, behind, limit, bytes, closed, state, base, place, text, tag, lastStart, declared, comment, dname, odd, rback, rcome, rsix, rdig, rnum, told⟩ := s
    simp only at h1 h2 h3 h4 h5
    subst h1 h2 h3 h4
    have hc' : c = 38 ∨ c = 60 ∨ c = 34 ∨ c = 13 := by omega
    rcases hc' with rfl | rfl | rfl | rfl
    · exact ⟨by kernel_rfl, by kernel_rfl, by kernel_rfl, by kernel_rfl, vis_of (l := told) (by kernel_rfl) h5⟩
    · exact ⟨by kernel_rfl, by kernel_rfl, by kernel_rfl, by kernel_rfl, vis_of (l := told) (by kernel_rfl) h5⟩
    · exact ⟨by kernel_rfl, by kernel_rfl, by kernel_rfl, by kernel_rfl, vis_of (l := told) (by kernel_rfl) h5⟩
    · refine ⟨by kernel_rfl, by kernel_rfl, by kernel_rfl, by kernel_rfl, vis_of (l := told ++ [{ kind := 5, name := [99, 111, 110, 116, 114, 111, 108], place := place + 1 + 1 + 1 + 1 + 1 }]) (by kernel_rfl) ?_⟩
      rw [vis_app, h5]
      simp [vis]
end Go.Proofs.YtdfmapcnfficlaaGreatDoor

set_option linter.unusedSimpArgs false
set_option linter.unusedVariables false
namespace Go.Proofs.YtdfmapcnfficlaaGreatDoor
open Go Go.RowKit

def bTag (V : Str) : TagS := { kind := 1, name := [98], atts := [{ name := [99], value := V }], names := some [[99]] }
structure AtVal (V : Str) (L : List Tok) (s : TS) : Prop where
  st : s.state = 13
  be : s.begun = []
  bh : s.behind = false
  tx : s.text = []
  tg : s.tag = bTag V
  td : vis s.told = L

theorem pass_double {s : TS} {c : Int} (hst : s.state = 13) (hb : s.behind = false) (h0 : 0 < c) (hc : c ≠ 38 ∧ c ≠ 34 ∧ c ≠ 13) : pass 4 s c = { addToValue { s with behind := false } c with place := s.place + 1 } := by
  have e1 : setBehind s c = { s with behind := false } := by
    unfold setBehind
    rw [show (c == 13) = false by simpa using hc.2.2]
  have e2 : lookOnce { s with behind := false } c = (0, addToValue { s with behind := false } c) := by
    have : lookOnce { s with behind := false } c = lookInDouble { s with behind := false } c := by simp [lookOnce, hst]
    rw [this]
    unfold lookInDouble withoutNul withoutNulC
    rw [if_neg hc.2.1, if_neg hc.1, if_neg (by omega), if_neg (by omega), if_neg (by omega)]
  unfold pass
  rw [hb, if_neg (by simp), if_neg hc.2.2, e1]
  unfold lookAtNext
  rw [show lookN 4 { s with behind := false } c = addToValue { s with behind := false } c by rw [lookN, e2, if_pos rfl]]
  rfl
theorem val_step {T : Str} {L : List Tok} {s : TS} (c : Int) (h : AtVal T L s) (h0 : 0 < c) : AtVal (T ++ Lib.encodeRune c) L (runC s (escP c)) := by
  by_cases hc : c ≠ 38 ∧ c ≠ 60 ∧ c ≠ 34 ∧ c ≠ 13
  · have e : escP c = [c] := by unfold escP; rw [if_neg hc.1, if_neg hc.2.1, if_neg hc.2.2.1, if_neg hc.2.2.2]
    rw [e]
    show AtVal _ _ (pass 4 s c)
    rw [pass_double h.st h.bh h0 ⟨hc.1, hc.2.2.1, hc.2.2.2⟩]
    refine ⟨h.st, h.be, rfl, h.tx, ?_, h.td⟩
    show { s.tag with atts := updLast (fun a => if a.twice then a else { a with value := a.value ++ Lib.encodeRune c }) s.tag.atts } = _
    rw [h.tg]
    rfl
  · obtain ⟨h1, h2, h3, h4, h5, h6⟩ := h
    obtain ⟨begun, behind, limit, bytes, closed, state, base, place, text, tag, lastStart, declared, comment, dname, odd, rback, rcome, rsix, rdig, rnum, told⟩ := s
    simp only at h1 h2 h3 h4 h5 h6
    subst h1 h2 h3 h4 h5
    have hc' : c = 38 ∨ c = 60 ∨ c = 34 ∨ c = 13 := by omega
    rcases hc' with rfl | rfl | rfl | rfl
    · exact ⟨by kernel_rfl, by kernel_rfl, by kernel_rfl, by kernel_rfl, by kernel_rfl, vis_of (l := told) (by kernel_rfl) h6⟩
    · exact ⟨by kernel_rfl, by kernel_rfl, by kernel_rfl, by kernel_rfl, by kernel_rfl, vis_of (l := told) (by kernel_rfl) h6⟩
    · exact ⟨by kernel_rfl, by kernel_rfl, by kernel_rfl, by kernel_rfl, by kernel_rfl, vis_of (l := told) (by kernel_rfl) h6⟩
    · refine ⟨by kernel_rfl, by kernel_rfl, by kernel_rfl, by kernel_rfl, by kernel_rfl, vis_of (l := told ++ [{ kind := 5, name := [99, 111, 110, 116, 114, 111, 108], place := place + 1 + 1 + 1 + 1 + 1 }]) (by kernel_rfl) ?_⟩
      rw [vis_app, h6]
      simp [vis]
theorem text_steps {L : List Tok} : ∀ (cs : List Int) (T : Str) (s : TS), (∀ c ∈ cs, 0 < c) → AtText T L s → AtText (T ++ encs cs) L (runC s (cs.flatMap escP))
  | [], T, s, _, h => by rw [show encs [] = [] from rfl, List.append_nil]; exact h
  | c :: cs, T, s, hc, h => by
    have h1 := text_steps cs _ _ (fun d hd => hc d (by simp [hd])) (text_step c h (hc c (by simp)))
    rw [List.flatMap_cons, runC_app, encs_cons, ← List.append_assoc]
    exact h1
theorem val_steps {L : List Tok} : ∀ (cs : List Int) (T : Str) (s : TS), (∀ c ∈ cs, 0 < c) → AtVal T L s → AtVal (T ++ encs cs) L (runC s (cs.flatMap escP))
  | [], T, s, _, h => by rw [show encs [] = [] from rfl, List.append_nil]; exact h
  | c :: cs, T, s, hc, h => by
    have h1 := val_steps cs _ _ (fun d hd => hc d (by simp [hd])) (val_step c h (hc c (by simp)))
    rw [List.flatMap_cons, runC_app, encs_cons, ← List.append_assoc]
    exact h1
theorem text_start (l : Int) : AtText [] [{ kind := 1, name := [98] }] (runC { limit := l } [60, 98, 62]) := ⟨by kernel_rfl, by kernel_rfl, by kernel_rfl, by kernel_rfl, by kernel_rfl⟩
theorem val_start (l : Int) : AtVal [] [] (runC { limit := l } [60, 98, 32, 99, 61, 34]) := ⟨by kernel_rfl, by kernel_rfl, by kernel_rfl, by kernel_rfl, by kernel_rfl, by kernel_rfl⟩
def charsOf (T : Str) : List Tok := if T = [] then [] else [{ kind := 0, text := T }]
theorem vis_told {s : TS} {l L : List Tok} (e : (closeT s).told = l) (h : vis l = L) : vis (closeT s).told = L := by rw [e]; exact h
theorem text_end {T : Str} {L : List Tok} {s : TS} (h : AtText T L s) : vis (closeT (runC s [60, 47, 98, 62])).told = L ++ charsOf T ++ [{ kind := 2, name := [98] }, { kind := 6 }] ∧ (runC s [60, 47, 98, 62]).begun = [] := by
  obtain ⟨h1, h2, h3, h4, h5⟩ := h
  obtain ⟨begun, behind, limit, bytes, closed, state, base, place, text, tag, lastStart, declared, comment, dname, odd, rback, rcome, rsix, rdig, rnum, told⟩ := s
  simp only at h1 h2 h3 h4 h5
  subst h1 h2 h3 h4
  rcases text with _ | ⟨a, r⟩
  · refine ⟨vis_told (l := told ++ [{ kind := 2, name := [98] }] ++ [{ kind := 6 }]) (by kernel_rfl) ?_, by kernel_rfl⟩
    rw [vis_app, vis_app, h5]
    simp [vis, charsOf]
  · refine ⟨vis_told (l := told ++ [{ kind := 0, text := a :: r }] ++ [{ kind := 2, name := [98] }] ++ [{ kind := 6 }]) (by kernel_rfl) ?_, by kernel_rfl⟩
    rw [vis_app, vis_app, vis_app, h5]
    simp [vis, charsOf]
theorem val_end {T : Str} {L : List Tok} {s : TS} (h : AtVal T L s) : vis (closeT (runC s [34, 62])).told = L ++ [{ kind := 1, name := [98], attrs := [[99], T] }, { kind := 6 }] ∧ (runC s [34, 62]).begun = [] := by
  obtain ⟨h1, h2, h3, h4, h5, h6⟩ := h
  obtain ⟨begun, behind, limit, bytes, closed, state, base, place, text, tag, lastStart, declared, comment, dname, odd, rback, rcome, rsix, rdig, rnum, told⟩ := s
  simp only at h1 h2 h3 h4 h5 h6
  subst h1 h2 h3 h4 h5
  refine ⟨vis_told (l := told ++ [{ kind := 1, name := [98], attrs := [[99], T] }] ++ [{ kind := 6 }]) (by kernel_rfl) ?_, by kernel_rfl⟩
  rw [vis_app, vis_app, h6]
  simp [vis]

theorem escP_scalar {c : Int} (h : Scalar c) : ∀ d ∈ escP c, Scalar d := by
  intro d hd
  unfold escP at hd
  unfold Scalar
  split at hd
  · simp at hd; omega
  split at hd
  · simp at hd; omega
  split at hd
  · simp at hd; omega
  split at hd
  · simp at hd; omega
  · rw [List.mem_singleton.1 hd]
    exact h
theorem mid_scalar {cs : List Int} (h : ∀ c ∈ cs, Scalar c) {a b : List Int} (ha : ∀ c ∈ a, Scalar c) (hb : ∀ c ∈ b, Scalar c) : ∀ c ∈ a ++ (cs.flatMap escP ++ b), Scalar c := by
  intro c hc
  rcases List.mem_append.1 hc with hc | hc
  · exact ha c hc
  rcases List.mem_append.1 hc with hc | hc
  · obtain ⟨d, hd, hc⟩ := List.mem_flatMap.1 hc
    exact escP_scalar (h d hd) c hc
  · exact hb c hc

/-- Escaped as a text. -/
theorem vis_text (cs : List Int) (h : ∀ c ∈ cs, Scalar c) (h0 : ∀ c ∈ cs, 0 < c) : vis (toks ([60, 98, 62] ++ (encs (cs.flatMap escP) ++ [60, 47, 98, 62]))) = { kind := 1, name := [98] } :: (charsOf (encs cs) ++ [{ kind := 2, name := [98] }, { kind := 6 }]) := by
  have e : ([60, 98, 62] ++ (encs (cs.flatMap escP) ++ [60, 47, 98, 62]) : Str) = encs ([60, 98, 62] ++ (cs.flatMap escP ++ [60, 47, 98, 62])) := by
    rw [encs_app, encs_app]
    rfl
  rw [e]
  generalize hl : ((encs ([60, 98, 62] ++ (cs.flatMap escP ++ [60, 47, 98, 62]))).length : Int) = l
  have h1 := text_end (text_steps cs _ _ h0 (text_start l))
  rw [← runC_app, ← runC_app, List.append_assoc] at h1
  rw [toks_encs _ (mid_scalar h (by simp [Scalar]) (by simp [Scalar])) (by rw [hl]; exact h1.2), hl, h1.1]
  simp
/-- Escaped as a value. -/
theorem vis_val (cs : List Int) (h : ∀ c ∈ cs, Scalar c) (h0 : ∀ c ∈ cs, 0 < c) : vis (toks ([60, 98, 32, 99, 61, 34] ++ (encs (cs.flatMap escP) ++ [34, 62]))) = [{ kind := 1, name := [98], attrs := [[99], encs cs] }, { kind := 6 }] := by
  have e : ([60, 98, 32, 99, 61, 34] ++ (encs (cs.flatMap escP) ++ [34, 62]) : Str) = encs ([60, 98, 32, 99, 61, 34] ++ (cs.flatMap escP ++ [34, 62])) := by
    rw [encs_app, encs_app]
    rfl
  rw [e]
  generalize hl : ((encs ([60, 98, 32, 99, 61, 34] ++ (cs.flatMap escP ++ [34, 62]))).length : Int) = l
  have h1 := val_end (val_steps cs _ _ h0 (val_start l))
  rw [← runC_app, ← runC_app] at h1
  rw [toks_encs _ (mid_scalar h (by simp [Scalar]) (by simp [Scalar])) (by rw [hl]; exact h1.2), hl, h1.1]
  simp

/-- Escape goes byte by byte. -/
def escB (b : UInt8) : Str := if b.toNat = 38 then [38, 97, 109, 112, 59] else if b.toNat = 60 then [38, 108, 116, 59] else if b.toNat = 34 then [38, 113, 117, 111, 116, 59] else if b.toNat = 13 then [38, 35, 49, 51, 59] else if b.toNat = 0 then [38, 35, 48, 59] else [b]
theorem escB_high {l : Str} (h : ∀ b ∈ l, 128 ≤ b.toNat) : l.flatMap escB = l := by
  induction l with
  | nil => rfl
  | cons b l ih =>
    have hb := h b (by simp)
    rw [List.flatMap_cons, ih fun d hd => h d (by simp [hd])]
    unfold escB
    rw [if_neg (by omega), if_neg (by omega), if_neg (by omega), if_neg (by omega), if_neg (by omega)]
    rfl
theorem u8_of' {z : Int} (h : 0 ≤ z ∧ z < 256) : (z.toNat.toUInt8).toNat = z.toNat := by
  simp [Nat.toUInt8, UInt8.toNat_ofNat']
  omega
theorem esc_enc {c : Int} (h : Scalar c) (h0 : 0 < c) : (Lib.encodeRune c).flatMap escB = encs (escP c) := by
  by_cases h1 : c ≤ 127
  · obtain ⟨n, rfl⟩ : ∃ n : Nat, c = n := ⟨c.toNat, by omega⟩
    have e : Lib.encodeRune (n : Int) = [UInt8.ofNat n] := by
      unfold Lib.encodeRune
      rw [Lib.encodeRuneZ_one (by omega) h1]
      simp [Nat.toUInt8]
    have f1 : (UInt8.ofNat n).toNat = n := u8_nat n (by omega)
    rw [e, List.flatMap_cons, List.flatMap_nil, List.append_nil]
    unfold escB escP
    rw [f1]
    by_cases k1 : n = 38
    · subst k1; rfl
    by_cases k2 : n = 60
    · subst k2; rfl
    by_cases k3 : n = 34
    · subst k3; rfl
    by_cases k4 : n = 13
    · subst k4; rfl
    rw [if_neg k1, if_neg k2, if_neg k3, if_neg k4, if_neg (by omega), if_neg (by omega), if_neg (by omega), if_neg (by omega), if_neg (by omega)]
    show _ = Lib.encodeRune (n : Int) ++ []
    rw [e]
    rfl
  · have e : escP c = [c] := by unfold escP; rw [if_neg (by omega), if_neg (by omega), if_neg (by omega), if_neg (by omega)]
    rw [e, escB_high]
    · show _ = Lib.encodeRune c ++ []
      rw [List.append_nil]
    · intro b hb
      unfold Lib.encodeRune at hb
      obtain ⟨z, hz, rfl⟩ := List.mem_map.1 hb
      have h2 := Lib.encodeRuneZ_byte c z hz
      rw [u8_of' h2]
      unfold Lib.encodeRuneZ at hz
      rw [if_neg (by omega)] at hz
      repeat' split at hz
      all_goals simp at hz
      all_goals omega
theorem esc_encs {cs : List Int} (h : ∀ c ∈ cs, Scalar c) (h0 : ∀ c ∈ cs, 0 < c) : (encs cs).flatMap escB = encs (cs.flatMap escP) := by
  induction cs with
  | nil => rfl
  | cons c cs ih =>
    rw [encs_cons, List.flatMap_append, List.flatMap_cons, encs_app, esc_enc (h c (by simp)) (h0 c (by simp)), ih (fun d hd => h d (by simp [hd])) fun d hd => h0 d (by simp [hd])]
end Go.Proofs.YtdfmapcnfficlaaGreatDoor

/-
  How many code points a text has that is made of whole ones.
  A text of whole code points, and what the machine makes of one that was escaped.
  A list of tokens of one's own, whose attributes lie elsewhere.
-/
import Derived.Test.YtdfmapcnfficlaaGreatDoorB44
import Derived.Test.YtdfmapcnfficlaaGreatDoorB40
import Derived.Test.YtdfmapcnfficlaaGreatDoorB42
import Derived.Test.YtdfmapcnfficlaaGreatDoorB46
set_option linter.unusedSimpArgs false
set_option linter.unusedVariables false
namespace Go.Proofs.YtdfmapcnfficlaaGreatDoor
open Go Go.RowKit

theorem decodeL_go {l : Str} (h : l ≠ []) : Lib.decodeL l = Lib.decodeGo ⟨l.toArray⟩ := by
  have hl : l.length ≠ 0 := fun e => h (List.length_eq_zero_iff.1 e)
  unfold Lib.decodeGo Lib.decodeL
  rw [if_neg (by simp [ByteArray.size]; exact h)]

theorem u8_nat (n : Nat) (h : n < 256) : (UInt8.ofNat n).toNat = n := by
  simp [UInt8.toNat_ofNat']
  omega

/-- An encoding is one whole code point. -/
def Whole1 (l : Str) : Prop := l ≠ [] ∧ fullR l = true ∧ (Lib.decodeGo ⟨l.toArray⟩).2 = l.length

theorem whole_one (n : Nat) (h : n < 128) : Whole1 [UInt8.ofNat n] := by
  have e := u8_nat n (by omega)
  have hf : Lib.firstT n = 240 := by unfold Lib.firstT; rw [if_pos h]
  refine ⟨by simp, ?_, ?_⟩
  · simp [fullR, e, hf]
  · rw [decode_list (by simp), decodeN_slow _ _ _ _ _ (by simp) (lt256 _) (lt256 _) (lt256 _) (lt256 _)]
    simp [e, hf]

theorem whole_two (a b : Nat) (ha : 194 ≤ a ∧ a < 224) (hb : 128 ≤ b ∧ b ≤ 191) : Whole1 [UInt8.ofNat a, UInt8.ofNat b] := by
  have ea := u8_nat a (by omega)
  have eb := u8_nat b (by omega)
  have hf : Lib.firstT a = 2 := by unfold Lib.firstT; rw [if_neg (by omega), if_neg (by omega), if_pos (by omega)]
  refine ⟨by simp, ?_, ?_⟩
  · simp [fullR, ea, hf]
  · rw [decode_list (by simp), decodeN_slow _ _ _ _ _ (by simp) (lt256 _) (lt256 _) (lt256 _) (lt256 _)]
    simp only [List.getD_cons_zero, List.getD_cons_succ, ea, eb, hf]
    rw [if_neg (by decide), if_neg (by decide)]
    have h1 : Lib.accLo (2 / 16) = 128 := by decide
    have h2 : Lib.accHi (2 / 16) = 191 := by decide
    rw [h1, h2]
    unfold Lib.slowN
    rw [if_neg (by simp), if_neg (by omega), if_pos (by decide)]
    rfl

theorem whole_three (a b c t : Nat) (ha : a < 256) (hb : b ≤ 191) (hc : 128 ≤ c ∧ c ≤ 191) (hf : Lib.firstT a = t) (ht : t % 8 = 3) (hn : t ≠ 240 ∧ t ≠ 241) (hlo : Lib.accLo (t / 16) ≤ b) (hhi : b ≤ Lib.accHi (t / 16)) : Whole1 [UInt8.ofNat a, UInt8.ofNat b, UInt8.ofNat c] := by
  have ea := u8_nat a (by omega)
  have eb := u8_nat b (by omega)
  have ec := u8_nat c (by omega)
  refine ⟨by simp, ?_, ?_⟩
  · simp [fullR, ea, hf, ht]
  · rw [decode_list (by simp), decodeN_slow _ _ _ _ _ (by simp) (lt256 _) (lt256 _) (lt256 _) (lt256 _)]
    simp only [List.getD_cons_zero, List.getD_cons_succ, ea, eb, ec, hf]
    rw [if_neg hn.1, if_neg hn.2, ht]
    unfold Lib.slowN
    rw [if_neg (by simp), if_neg (by omega), if_neg (by decide), if_neg (by omega), if_pos (by decide)]
    rfl

theorem whole_four (a b c d t : Nat) (ha : a < 256) (hb : b ≤ 191) (hc : 128 ≤ c ∧ c ≤ 191) (hd : 128 ≤ d ∧ d ≤ 191) (hf : Lib.firstT a = t) (ht : t % 8 = 4) (hn : t ≠ 240 ∧ t ≠ 241) (hlo : Lib.accLo (t / 16) ≤ b) (hhi : b ≤ Lib.accHi (t / 16)) : Whole1 [UInt8.ofNat a, UInt8.ofNat b, UInt8.ofNat c, UInt8.ofNat d] := by
  have ea := u8_nat a (by omega)
  have eb := u8_nat b (by omega)
  have ec := u8_nat c (by omega)
  have ed := u8_nat d (by omega)
  refine ⟨by simp, ?_, ?_⟩
  · simp [fullR, ea, hf, ht]
  · rw [decode_list (by simp), decodeN_slow _ _ _ _ _ (by simp) (lt256 _) (lt256 _) (lt256 _) (lt256 _)]
    simp only [List.getD_cons_zero, List.getD_cons_succ, ea, eb, ec, ed, hf]
    rw [if_neg hn.1, if_neg hn.2, ht]
    unfold Lib.slowN
    rw [if_neg (by simp), if_neg (by omega), if_neg (by decide), if_neg (by omega), if_neg (by decide), if_neg (by omega)]
    rfl

theorem whole_enc (r : Int) : Whole1 (Lib.encodeRune r) := by
  unfold Lib.encodeRune
  by_cases h0 : r < 0 ∨ (55296 ≤ r ∧ r ≤ 57343) ∨ 1114111 < r
  · rw [Lib.encodeRuneZ_bad h0]
    exact whole_three 239 191 189 3 (by decide) (by decide) (by decide) (by decide) (by decide) (by decide) (by decide) (by decide)
  obtain ⟨n, rfl⟩ : ∃ n : Nat, r = n := ⟨r.toNat, by omega⟩
  by_cases h1 : n ≤ 127
  · rw [Lib.encodeRuneZ_one (by omega) (by omega)]
    simpa using whole_one n (by omega)
  by_cases h2 : n ≤ 2047
  · rw [Lib.encodeRuneZ_two (by omega) (by omega)]
    have e1 : (192 + (n : Int) / 64).toNat = 192 + n / 64 := by omega
    have e2 : (128 + (n : Int) % 64).toNat = 128 + n % 64 := by omega
    simp only [List.map_cons, List.map_nil, e1, e2]
    exact whole_two _ _ (by omega) (by omega)
  by_cases h3 : n ≤ 65535
  · rw [Lib.encodeRuneZ_three (by omega)]
    have e1 : (224 + (n : Int) / 4096).toNat = 224 + n / 4096 := by omega
    have e2 : (128 + (n : Int) / 64 % 64).toNat = 128 + n / 64 % 64 := by omega
    have e3 : (128 + (n : Int) % 64).toNat = 128 + n % 64 := by omega
    simp only [List.map_cons, List.map_nil, e1, e2, e3]
    have hb : 128 + n / 64 % 64 ≤ 191 := by omega
    have hc : 128 ≤ 128 + n % 64 ∧ 128 + n % 64 ≤ 191 := by omega
    by_cases k1 : n < 4096
    · exact whole_three _ _ _ 19 (by omega) hb hc (by rw [show n / 4096 = 0 by omega]; decide) (by decide) (by decide) (by rw [show Lib.accLo (19 / 16) = 160 by decide]; omega) (by rw [show Lib.accHi (19 / 16) = 191 by decide]; omega)
    by_cases k2 : n / 4096 = 13
    · exact whole_three _ _ _ 35 (by omega) hb hc (by rw [k2]; decide) (by decide) (by decide) (by rw [show Lib.accLo (35 / 16) = 128 by decide]; omega) (by rw [show Lib.accHi (35 / 16) = 159 by decide]; omega)
    · refine whole_three _ _ _ 3 (by omega) hb hc ?_ (by decide) (by decide) (by rw [show Lib.accLo (3 / 16) = 128 by decide]; omega) (by rw [show Lib.accHi (3 / 16) = 191 by decide]; omega)
      unfold Lib.firstT
      rw [if_neg (by omega), if_neg (by omega), if_neg (by omega), if_neg (by omega)]
      by_cases k3 : 224 + n / 4096 < 237
      · rw [if_pos k3]
      · rw [if_neg k3, if_neg (by omega), if_pos (by omega)]
  · rw [Lib.encodeRuneZ_four (by omega) (by omega)]
    have e1 : (240 + (n : Int) / 262144).toNat = 240 + n / 262144 := by omega
    have e2 : (128 + (n : Int) / 4096 % 64).toNat = 128 + n / 4096 % 64 := by omega
    have e3 : (128 + (n : Int) / 64 % 64).toNat = 128 + n / 64 % 64 := by omega
    have e4 : (128 + (n : Int) % 64).toNat = 128 + n % 64 := by omega
    simp only [List.map_cons, List.map_nil, e1, e2, e3, e4]
    have hb : 128 + n / 4096 % 64 ≤ 191 := by omega
    have hc : 128 ≤ 128 + n / 64 % 64 ∧ 128 + n / 64 % 64 ≤ 191 := by omega
    have hd : 128 ≤ 128 + n % 64 ∧ 128 + n % 64 ≤ 191 := by omega
    by_cases k1 : n / 262144 = 0
    · exact whole_four _ _ _ _ 52 (by omega) hb hc hd (by rw [k1]; decide) (by decide) (by decide) (by rw [show Lib.accLo (52 / 16) = 144 by decide]; omega) (by rw [show Lib.accHi (52 / 16) = 191 by decide]; omega)
    by_cases k2 : n / 262144 = 4
    · exact whole_four _ _ _ _ 68 (by omega) hb hc hd (by rw [k2]; decide) (by decide) (by decide) (by rw [show Lib.accLo (68 / 16) = 128 by decide]; omega) (by rw [show Lib.accHi (68 / 16) = 143 by decide]; omega)
    · refine whole_four _ _ _ _ 4 (by omega) hb hc hd ?_ (by decide) (by decide) (by rw [show Lib.accLo (4 / 16) = 128 by decide]; omega) (by rw [show Lib.accHi (4 / 16) = 191 by decide]; omega)
      unfold Lib.firstT
      rw [if_neg (by omega), if_neg (by omega), if_neg (by omega), if_neg (by omega), if_neg (by omega), if_neg (by omega), if_neg (by omega), if_neg (by omega), if_pos (by omega)]

/-- Made of whole code points: what comes behind is counted apart. -/
def Wf (l : Str) : Prop := ∀ y, runeCount (l ++ y) = runeCount l + runeCount y
theorem Wf.nil : Wf [] := fun y => by simp [runeCount, cntL]
theorem Wf.app {a b : Str} (ha : Wf a) (hb : Wf b) : Wf (a ++ b) := fun y => by rw [List.append_assoc, ha, hb, ha b]; omega
theorem count_step {x : Str} (h : x ≠ []) : runeCount x = 1 + runeCount (x.drop (Lib.decodeL x).2) := by
  unfold runeCount
  have hl : x.length ≠ 0 := fun e => h (List.length_eq_zero_iff.1 e)
  have hp := decodeL_pos x
  obtain ⟨n, hn⟩ : ∃ n, x.length = n + 1 := ⟨x.length - 1, by omega⟩
  rw [hn, cntL, if_neg h]
  rw [cntL_fuel n (x.drop (Lib.decodeL x).2).length _ (by rw [List.length_drop]; omega) (Nat.le_refl _)]
theorem Whole1.step {l : Str} (h : Whole1 l) (y : Str) : runeCount (l ++ y) = 1 + runeCount y := by
  have hne : l ++ y ≠ [] := by simp [h.1]
  rw [count_step hne, decodeL_go hne, decode_stable y h.2.1, h.2.2, List.drop_left]
theorem Whole1.wf {l : Str} (h : Whole1 l) : Wf l := fun y => by
  have h0 := h.step []
  rw [List.append_nil] at h0
  rw [h.step y, h0]
  simp [runeCount, cntL]
theorem wf_enc (r : Int) : Wf (Lib.encodeRune r) := (whole_enc r).wf
theorem wf_ascii : ∀ l : Str, (∀ x ∈ l, x.toNat < 128) → Wf l
  | [], _ => Wf.nil
  | a :: l, h => by
    have h1 : Wf [a] := by
      have := whole_one a.toNat (h a (by simp))
      rw [UInt8.ofNat_toNat] at this
      exact this.wf
    exact Wf.app (a := [a]) h1 (wf_ascii l fun x hx => h x (by simp [hx]))
end Go.Proofs.YtdfmapcnfficlaaGreatDoor

set_option linter.unusedSimpArgs false
set_option linter.unusedVariables false
namespace Go.Proofs.YtdfmapcnfficlaaGreatDoor
open Go Go.RowKit

def Scalar (c : Int) : Prop := 0 ≤ c ∧ c ≤ 1114111 ∧ ¬ (55296 ≤ c ∧ c ≤ 57343)
theorem dec_enc {c : Int} (h : Scalar c) : ((Lib.decodeGo ⟨(Lib.encodeRune c).toArray⟩).1 : Int) = c := by
  obtain ⟨h0, h1, h2⟩ := h
  obtain ⟨n, rfl⟩ : ∃ n : Nat, c = n := ⟨c.toNat, by omega⟩
  obtain ⟨w1, w2, w3⟩ := whole_enc (n : Int)
  rw [decode_list w1] at w3 ⊢
  have hs := Lib.decodeN_shape (Lib.encodeRune (n : Int)).length ((Lib.encodeRune (n : Int)).getD 0 0).toNat ((Lib.encodeRune (n : Int)).getD 1 0).toNat ((Lib.encodeRune (n : Int)).getD 2 0).toNat ((Lib.encodeRune (n : Int)).getD 3 0).toNat
  by_cases k1 : n ≤ 127
  · unfold Lib.encodeRune
    rw [Lib.encodeRuneZ_one (by omega) (by omega)]
    have e1 : (n : Int).toNat = n := by omega
    have f1 : (UInt8.ofNat n).toNat = n := u8_nat n (by omega)
    simp only [List.map_cons, List.map_nil, e1, Nat.toUInt8, List.getD_cons_zero, List.getD_cons_succ, f1, List.length_cons, List.length_nil]
    unfold Lib.decodeN
    rw [if_pos (by omega)]
  generalize hd : Lib.decodeN (Lib.encodeRune (n : Int)).length ((Lib.encodeRune (n : Int)).getD 0 0).toNat ((Lib.encodeRune (n : Int)).getD 1 0).toNat ((Lib.encodeRune (n : Int)).getD 2 0).toNat ((Lib.encodeRune (n : Int)).getD 3 0).toNat = d at *
  clear hd
  unfold Lib.encodeRune at w3 hs
  by_cases k2 : n ≤ 2047
  · rw [Lib.encodeRuneZ_two (by omega) (by omega)] at w3 hs
    have e1 : (192 + (n : Int) / 64).toNat = 192 + n / 64 := by omega
    have e2 : (128 + (n : Int) % 64).toNat = 128 + n % 64 := by omega
    have f1 : (UInt8.ofNat (192 + n / 64)).toNat = 192 + n / 64 := u8_nat _ (by omega)
    have f2 : (UInt8.ofNat (128 + n % 64)).toNat = 128 + n % 64 := u8_nat _ (by omega)
    simp only [List.map_cons, List.map_nil, e1, e2, Nat.toUInt8, List.getD_cons_zero, List.getD_cons_succ, f1, f2, List.length_cons, List.length_nil] at w3 hs
    rcases hs with ⟨_, e⟩ | ⟨_, _, _, _, e⟩ | ⟨_, q, _⟩ | ⟨_, q, _⟩ | e
    · omega
    · rw [e]
      simp only
      omega
    · omega
    · omega
    · rw [e] at w3
      simp at w3
  by_cases k3 : n ≤ 65535
  · rw [Lib.encodeRuneZ_three (by omega)] at w3 hs
    have e1 : (224 + (n : Int) / 4096).toNat = 224 + n / 4096 := by omega
    have e2 : (128 + (n : Int) / 64 % 64).toNat = 128 + n / 64 % 64 := by omega
    have e3 : (128 + (n : Int) % 64).toNat = 128 + n % 64 := by omega
    have f1 : (UInt8.ofNat (224 + n / 4096)).toNat = 224 + n / 4096 := u8_nat _ (by omega)
    have f2 : (UInt8.ofNat (128 + n / 64 % 64)).toNat = 128 + n / 64 % 64 := u8_nat _ (by omega)
    have f3 : (UInt8.ofNat (128 + n % 64)).toNat = 128 + n % 64 := u8_nat _ (by omega)
    simp only [List.map_cons, List.map_nil, e1, e2, e3, Nat.toUInt8, List.getD_cons_zero, List.getD_cons_succ, f1, f2, f3, List.length_cons, List.length_nil] at w3 hs
    rcases hs with ⟨_, e⟩ | ⟨_, _, _, _, e⟩ | ⟨_, _, _, _, _, _, e⟩ | ⟨_, q, _⟩ | e
    · omega
    · omega
    · rw [e]
      simp only
      omega
    · omega
    · rw [e] at w3
      simp at w3
  · rw [Lib.encodeRuneZ_four (by omega) (by omega)] at w3 hs
    have e1 : (240 + (n : Int) / 262144).toNat = 240 + n / 262144 := by omega
    have e2 : (128 + (n : Int) / 4096 % 64).toNat = 128 + n / 4096 % 64 := by omega
    have e3 : (128 + (n : Int) / 64 % 64).toNat = 128 + n / 64 % 64 := by omega
    have e4 : (128 + (n : Int) % 64).toNat = 128 + n % 64 := by omega
    have f1 : (UInt8.ofNat (240 + n / 262144)).toNat = 240 + n / 262144 := u8_nat _ (by omega)
    have f2 : (UInt8.ofNat (128 + n / 4096 % 64)).toNat = 128 + n / 4096 % 64 := u8_nat _ (by omega)
    have f3 : (UInt8.ofNat (128 + n / 64 % 64)).toNat = 128 + n / 64 % 64 := u8_nat _ (by omega)
    have f4 : (UInt8.ofNat (128 + n % 64)).toNat = 128 + n % 64 := u8_nat _ (by omega)
    simp only [List.map_cons, List.map_nil, e1, e2, e3, e4, Nat.toUInt8, List.getD_cons_zero, List.getD_cons_succ, f1, f2, f3, f4, List.length_cons, List.length_nil] at w3 hs
    rcases hs with ⟨_, e⟩ | ⟨_, _, _, _, e⟩ | ⟨_, _, _, _, _, _, e⟩ | ⟨_, _, _, _, _, _, _, e⟩ | e
    · omega
    · omega
    · omega
    · rw [e]
      simp only
      omega
    · rw [e] at w3
      simp at w3
theorem firstPt_enc {c : Int} (h : Scalar c) (r : Str) : firstPt (Lib.encodeRune c ++ r) = (c, (Lib.encodeRune c).length) := by
  obtain ⟨w1, w2, w3⟩ := whole_enc c
  have h1 : firstPt (Lib.encodeRune c) = (c, (Lib.encodeRune c).length) := by
    unfold firstPt
    rw [if_neg (by rw [w2]; decide), dec_enc h, w3]
    split
    · rename_i hh
      obtain ⟨rfl, e⟩ := hh
      exact absurd e (by decide)
    · rfl
  rw [firstPt_stable r (by rw [h1]; simp; exact w1), h1]

def encs (l : List Int) : Str := l.flatMap Lib.encodeRune
theorem encs_cons (c : Int) (l : List Int) : encs (c :: l) = Lib.encodeRune c ++ encs l := rfl
theorem encs_app (a b : List Int) : encs (a ++ b) = encs a ++ encs b := by simp [encs]
def runC (s : TS) (l : List Int) : TS := l.foldl (fun s c => pass 4 s c) s
theorem runC_app (s : TS) (a b : List Int) : runC s (a ++ b) = runC (runC s a) b := by simp [runC]
theorem readN_encs : ∀ (l : List Int) (f : Nat) (s : TS), (∀ c ∈ l, Scalar c) → (encs l).length ≤ f → readN 4 f s (encs l) = (runC s l, [])
  | [], f, s, _, _ => by rw [show encs [] = [] from rfl, readN_stop 4 f s (by decide)]; rfl
  | c :: l, 0, s, h, hf => by
    rw [encs_cons, List.length_append] at hf
    have := (whole_enc c).1
    exact absurd (List.length_eq_zero_iff.1 (by omega)) this
  | c :: l, f + 1, s, h, hf => by
    have hc := firstPt_enc (h c (by simp)) (encs l)
    have hp : (Lib.encodeRune c).length ≠ 0 := fun e => (whole_enc c).1 (List.length_eq_zero_iff.1 e)
    rw [encs_cons, List.length_append] at hf
    rw [encs_cons, readN, hc]
    simp only
    rw [if_neg hp, List.drop_left]
    exact readN_encs l f _ (fun d hd => h d (by simp [hd])) (by omega)

theorem closeT_over2 (h : TS) (p : List Tok) (s : TS) (hb : h.begun = s.begun) : (closeT (over h p s)).told = p ++ (closeT s).told := by
  rw [closeT_told, closeT_told]
  obtain ⟨h', e, _⟩ := endAll_over h p s hb
  rw [e]
  show (p ++ (endAll s).told) ++ _ = _
  rw [List.append_assoc]
theorem toks_encs (l : List Int) (h : ∀ c ∈ l, Scalar c) (hb : (runC { limit := ((encs l).length : Int) } l).begun = []) : toks (encs l) = (closeT (runC { limit := ((encs l).length : Int) } l)).told := by
  unfold toks
  rw [put_eq]
  have e : readN 4 (([] : Str) ++ encs l).length { limit := ((encs l).length : Int) } (([] : Str) ++ encs l) = (runC { limit := ((encs l).length : Int) } l, []) := by
    rw [List.nil_append]
    exact readN_encs l _ _ h (Nat.le_refl _)
  simp only [e]
  rw [closeT_over2 _ [] _ (by exact hb.symm)]
  rfl

/-- The tokens that are no errors. -/
def vis (l : List Tok) : List Tok := l.filter fun t => !(t.kind == 5)
theorem vis_app (a b : List Tok) : vis (a ++ b) = vis a ++ vis b := by simp [vis]

theorem vis_of {s : TS} {l L : List Tok} (e : s.told = l) (h : vis l = L) : vis s.told = L := by rw [e]; exact h

theorem pass_data {s : TS} {c : Int} (hst : s.state = 0) (hb : s.behind = false) (h0 : 0 < c) (hc : c ≠ 38 ∧ c ≠ 60 ∧ c ≠ 13) : pass 4 s c = { s with behind := false, text := s.text ++ Lib.encodeRune c, place := s.place + 1 } := by
  have e1 : setBehind s c = { s with behind := false } := by
    unfold setBehind
    rw [show (c == 13) = false by simpa using hc.2.2]
  have e2 : lookOnce { s with behind := false } c = (0, addText { s with behind := false } (Lib.encodeRune c)) := by
    have : lookOnce { s with behind := false } c = lookInData { s with behind := false } c := by simp [lookOnce, hst]
    rw [this]
    unfold lookInData
    rw [if_neg (by omega), if_neg hc.1, if_neg hc.2.1, if_neg (by omega)]
  unfold pass
  rw [hb, if_neg (by simp), if_neg hc.2.2, e1]
  unfold lookAtNext
  rw [show lookN 4 { s with behind := false } c = addText { s with behind := false } (Lib.encodeRune c) by rw [lookN, e2, if_pos rfl]]
  rfl
end Go.Proofs.YtdfmapcnfficlaaGreatDoor

set_option linter.unusedSimpArgs false
set_option linter.unusedVariables false
namespace Go.Proofs.YtdfmapcnfficlaaGreatDoor
open Go Go.RowKit

/-- The strings l lie where x says, beside the row q. -/
def AttrAt (w : World) (q x : Sl) (l : List Str) : Prop := ∀ j y, l[j]? = some y → ∃ g, x.a = some ⟨g, 0, none⟩ ∧ g < w.heap.size ∧ q.a.map (·.block) ≠ some g ∧ w.cell? ⟨g, j, none⟩ = some (.string ⟨y.toArray⟩)
theorem AttrAt.strs {w : World} {q x : Sl} {l : List Str} (h : AttrAt w q x l) : StrsAt w x l := fun j y hy => by
  obtain ⟨g, h1, h2, _, h3⟩ := h j y hy
  exact ⟨g, h1, h2, h3⟩
theorem AttrAt.nil (w : World) (q x : Sl) : AttrAt w q x [] := fun j y h => by simp at h
theorem AttrAt.more {w w' : World} {q x : Sl} {l : List Str} (h : AttrAt w q x l) (hm : More w w') : AttrAt w' q x l := fun j y hy => by
  obtain ⟨g, h1, h2, h3, h4⟩ := h j y hy
  exact ⟨g, h1, by have := hm.size; omega, h3, by rw [World.cell?_of_block (w := w) (hm.block g h2)]; exact h4⟩
/-- Strings that were there ahead of the row. -/
theorem AttrAt.old {w0 w : World} {q x : Sl} {l : List Str} (h : StrsAt w0 x l) (hm : More w0 w) (hq : ∀ k, q.a.map (·.block) = some k → w0.heap.size ≤ k) : AttrAt w q x l := fun j y hy => by
  obtain ⟨g, h1, h2, h3⟩ := h j y hy
  exact ⟨g, h1, by have := hm.size; omega, fun e => by have := hq g e; omega, by rw [World.cell?_of_block (w := w0) (hm.block g h2)]; exact h3⟩
/-- Strings that were made since the row. -/
theorem AttrAt.late {w w1 : World} {q x : Sl} {l : List Str} (h : StrsAt w1 x l) (hx : ∀ k, x.a.map (·.block) = some k → w.heap.size ≤ k) (hq : ∀ k, q.a.map (·.block) = some k → k < w.heap.size) : AttrAt w1 q x l := fun j y hy => by
  obtain ⟨g, h1, h2, h3⟩ := h j y hy
  exact ⟨g, h1, h2, fun e => by have := hq g e; have := hx g (by rw [h1]; rfl); omega, h3⟩
theorem AttrAt.grown {w1 w' : World} {q x : Sl} {l : List Str} (h : AttrAt w1 q x l) {a' : Addr} {cap : Nat} (hg : w1.grownBy w' (q.a.map (·.block))) (hf : some a'.block = q.a.map (·.block) ∨ w1.heap.size ≤ a'.block) : AttrAt w' ⟨some a', cap⟩ x l := fun j y hy => by
  obtain ⟨g, h1, h2, h3, h4⟩ := h j y hy
  refine ⟨g, h1, by have := hg.size; omega, fun e => ?_, ?_⟩
  · have e' : a'.block = g := by simpa using e
    rcases hf with hf | hf
    · exact h3 (by rw [← hf, e'])
    · omega
  · rw [World.cell?_of_block (w := w1) (hg.block g h2 (fun e => h3 e.symm))]
    exact h4

structure MineT (w0 w : World) (q : Sl) (l : List Tok) (ta : List Sl) : Prop where
  ok : (tokItem q l ta).ok w
  more : More w0 w
  new : ∀ k, q.a.map (·.block) = some k → w0.heap.size ≤ k
  len : ta.length = l.length
  strs : ∀ (k : Nat) (t : Tok) (x : Sl), l[k]? = some t → ta[k]? = some x → AttrAt w q x t.attrs
  max : ∀ t ∈ l, t.attrs.length ≤ maxLen

theorem MineT.nil {w0 w : World} (h : More w0 w) : MineT w0 w nilSl [] [] := ⟨World.ownsRow_nil w 0 34 6, h, by simp [nilSl], rfl, by simp, by simp⟩
theorem MineT.later {w0 w w1 : World} {q : Sl} {l : List Tok} {ta : List Sl} (h : MineT w0 w q l ta) (hm : More w w1) : MineT w0 w1 q l ta :=
  ⟨Item.ok_kept h.ok fun k hk => hm.block k (Item.lt h.ok k hk), h.more.trans' hm, h.new, h.len, fun k t x hk hx => (h.strs k t x hk hx).more hm, h.max⟩
theorem MineT.lt {w0 w : World} {q : Sl} {l : List Tok} {ta : List Sl} (h : MineT w0 w q l ta) : ∀ k, q.a.map (·.block) = some k → k < w.heap.size := Item.lt h.ok
theorem MineT.toks {w0 w : World} {q : Sl} {l : List Tok} {ta : List Sl} (h : MineT w0 w q l ta) : ToksV w (.slice q.a l.length q.cap) l := by
  refine ⟨q.a, q.cap, rfl, fun hne => ?_, row_cap h.ok, h.max⟩
  obtain ⟨g, hg, hlt, _⟩ := row_at h.ok (fun e => hne (List.length_eq_zero_iff.1 e))
  refine ⟨g, hg, fun k t hk => ?_, hlt⟩
  have hk' : k < ta.length := by rw [h.len]; exact (List.getElem?_eq_some_iff.1 hk).1
  obtain ⟨x, hx⟩ : ∃ x, ta[k]? = some x := ⟨ta[k], by simp [hk']⟩
  have hc : ∀ i u, i < 6 → (tokCells t x)[i]? = some u → w.cell? ⟨g, k * 6 + i, none⟩ = some u := fun i u hi hu => row_cells h.ok hg _ _ ((toldCells_at l ta k t x hk hx i hi).trans hu)
  exact ⟨x, hc 0 _ (by decide) rfl, hc 1 _ (by decide) rfl, hc 2 _ (by decide) rfl, hc 3 _ (by decide) rfl, hc 4 _ (by decide) rfl, hc 5 _ (by decide) rfl, (h.strs k t x hk hx).strs⟩
theorem MineT.grown {w0 w w1 w' : World} {q : Sl} {l : List Tok} {ta : List Sl} (h : MineT w0 w q l ta) (l' : List Tok) (ta' : List Sl) (hm : More w w1) {a' : Addr} {cap m : Nat} (hm' : m = l'.length) (hown : w'.ownsRow 0 34 6 (.slice (some a') (l.length + m) cap) (l.length + m) (toldCells l ta ++ toldCells l' ta')) (hg : w1.grownBy w' (q.a.map (·.block))) (hf : some a'.block = q.a.map (·.block) ∨ w1.heap.size ≤ a'.block)
    (hl : ta'.length = l'.length) (hs : ∀ (k : Nat) (t : Tok) (x : Sl), l'[k]? = some t → ta'[k]? = some x → AttrAt w1 q x t.attrs) (hx : ∀ t ∈ l', t.attrs.length ≤ maxLen) : MineT w0 w' ⟨some a', cap⟩ (l ++ l') (ta ++ ta') := by
  subst hm'
  refine ⟨?_, More.grown' h.more hg h.new trivial hm, fun k hk => ?_, by rw [List.length_append, List.length_append, h.len, hl], fun k t x hk hx => ?_, fun t ht => ?_⟩
  · unfold Item.ok tokItem
    rw [toldCells_append l ta l' ta' h.len, List.length_append]
    exact hown
  · have hk' : a'.block = k := by simpa using hk
    rcases hf with hf | hf
    · exact h.new k (by rw [← hf, hk'])
    · have := hm.size
      have := h.more.size
      omega
  · by_cases hlt : k < l.length
    · rw [List.getElem?_append_left hlt] at hk
      rw [List.getElem?_append_left (by rw [h.len]; exact hlt)] at hx
      exact ((h.strs k t x hk hx).more hm).grown hg hf
    · rw [List.getElem?_append_right (by omega)] at hk
      rw [List.getElem?_append_right (by rw [h.len]; omega), h.len] at hx
      exact (hs _ t x hk hx).grown hg hf
  · rcases List.mem_append.1 ht with ht | ht
    · exact h.max t ht
    · exact hx t ht
/-- One token more. -/
theorem MineT.one {w0 w w1 w' : World} {q : Sl} {l : List Tok} {ta : List Sl} (h : MineT w0 w q l ta) (t : Tok) (x : Sl) (hm : More w w1) {a' : Addr} {cap : Nat} (hown : w'.ownsRow 0 34 6 (.slice (some a') (l.length + 1) cap) (l.length + 1) (toldCells l ta ++ tokCells t x)) (hg : w1.grownBy w' (q.a.map (·.block))) (hf : some a'.block = q.a.map (·.block) ∨ w1.heap.size ≤ a'.block)
    (hs : AttrAt w1 q x t.attrs) (hx : t.attrs.length ≤ maxLen) : MineT w0 w' ⟨some a', cap⟩ (l ++ [t]) (ta ++ [x]) := by
  refine h.grown [t] [x] hm rfl (by simpa [toldCells] using hown) hg hf rfl (fun k u y hk hy => ?_) (fun u hu => by rw [List.mem_singleton.1 hu]; exact hx)
  match k, hk, hy with
  | 0, hk, hy =>
    simp at hk hy
    subst hk hy
    exact hs
  | k + 1, hk, hy => simp at hk
end Go.Proofs.YtdfmapcnfficlaaGreatDoor

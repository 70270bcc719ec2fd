/-
  A code point that is whole stays so, whatever comes behind it.
-/
import Derived.Test.YtdfmapcnfficlaaGreatDoorPoints3
set_option linter.unusedSimpArgs false
set_option linter.unusedVariables false
namespace Go.Proofs.YtdfmapcnfficlaaGreatDoor
open Go Go.RowKit

theorem firstT_mod (b : Nat) : Lib.firstT b % 8 ≤ 4 := by
  rcases Lib.firstT_cases b with h | h | h | h | h | h | h | h | h <;> rw [h] <;> decide
theorem fullR_append (x y : Str) (h : fullR x = true) : fullR (x ++ y) = true := by
  match x, h with
  | [], h => cases h
  | [b0], h =>
    simp only [fullR, List.length_nil] at h
    simp only [List.cons_append, List.nil_append, fullR]
    split at h
    · rw [if_pos (by omega)]
    · cases h
  | [b0, b1], h =>
    simp only [fullR, List.length_cons, List.length_nil] at h
    simp only [List.cons_append, List.nil_append, fullR, List.length_cons]
    split at h
    · rw [if_pos (by omega)]
    · split at h
      · rename_i h1
        split
        · rfl
        · first | rfl | rw [if_pos h1]
      · cases h
  | b0 :: b1 :: b2 :: r, h =>
    simp only [fullR, List.length_cons] at h
    simp only [List.cons_append, fullR, List.length_cons, List.length_append]
    split at h
    · rw [if_pos (by omega)]
    · split
      · rfl
      · exact h
theorem fullR_short {x : Str} (h : fullR x = false) : x.length ≤ 3 := by
  match x, h with
  | [], h => simp
  | b0 :: r, h =>
    simp only [fullR] at h
    have := firstT_mod b0.toNat
    split at h
    · cases h
    · simp only [List.length_cons]
      omega
theorem get_list (l : Str) (k : Nat) : (⟨l.toArray⟩ : ByteArray).get! k = l.getD k 0 := by
  show l.toArray.getD k default = _
  by_cases hk : k < l.length
  · simp [Array.getD, List.getD, hk]
  · simp [Array.getD, List.getD, hk]
    rfl
theorem decode_list {l : Str} (h : l ≠ []) : Lib.decodeGo ⟨l.toArray⟩ = Lib.decodeN l.length (l.getD 0 0).toNat (l.getD 1 0).toNat (l.getD 2 0).toNat (l.getD 3 0).toNat := by
  have hl : l.length ≠ 0 := fun e => h (List.length_eq_zero_iff.1 e)
  have hs : (⟨l.toArray⟩ : ByteArray).size = l.length := by simp [ByteArray.size]
  unfold Lib.decodeGo
  rw [if_neg (by omega), Lib.decode_at, get_list, get_list, get_list, get_list, hs]
  rfl
theorem lt256 (x : UInt8) : x.toNat < 256 := x.toBitVec.isLt
theorem decodeN_slow (n b0 b1 b2 b3 : Nat) (hn : 1 ≤ n) (h0 : b0 < 256) (h1 : b1 < 256) (h2 : b2 < 256) (h3 : b3 < 256) :
    Lib.decodeN n b0 b1 b2 b3 = if Lib.firstT b0 = 240 then (b0, 1) else if Lib.firstT b0 = 241 then (65533, 1) else Lib.slowN n b0 b1 b2 b3 (Lib.firstT b0 % 8) (Lib.accLo (Lib.firstT b0 / 16)) (Lib.accHi (Lib.firstT b0 / 16)) := by
  by_cases c0 : b0 < 128
  · have : Lib.firstT b0 = 240 := by unfold Lib.firstT; rw [if_pos c0]
    rw [this, if_pos rfl]
    simp [Lib.decodeN, c0]
  by_cases c1 : b0 < 194
  · have : Lib.firstT b0 = 241 := by unfold Lib.firstT; rw [if_neg c0, if_pos c1]
    rw [this, if_neg (by decide), if_pos rfl]
    unfold Lib.decodeN
    have e1 : b0 / 32 = 6 ∨ b0 / 32 ≠ 6 := by omega
    have e2 : b0 / 16 ≠ 14 := by omega
    have e3 : b0 / 8 ≠ 30 := by omega
    rcases e1 with e1 | e1
    · simp [c0, e1, e2, e3]
      intros
      omega
    · simp [c0, e1, e2, e3]
  by_cases c2 : b0 < 224
  · have : Lib.firstT b0 = 2 := by unfold Lib.firstT; rw [if_neg c0, if_neg c1, if_pos c2]
    rw [this, if_neg (by decide), if_neg (by decide)]
    exact (Lib.slow_C2 n b0 b1 b2 b3 hn h1 h2 h3 ⟨by omega, c2⟩).symm
  by_cases c3 : b0 = 224
  · have : Lib.firstT b0 = 19 := by subst c3; decide
    rw [this, if_neg (by decide), if_neg (by decide)]
    exact (Lib.slow_E0 n b0 b1 b2 b3 hn h1 h2 h3 c3).symm
  by_cases c4 : b0 < 237
  · have : Lib.firstT b0 = 3 := by unfold Lib.firstT; rw [if_neg c0, if_neg c1, if_neg c2, if_neg c3, if_pos c4]
    rw [this, if_neg (by decide), if_neg (by decide)]
    exact (Lib.slow_E1 n b0 b1 b2 b3 hn h1 h2 h3 (.inl ⟨by omega, c4⟩)).symm
  by_cases c5 : b0 = 237
  · have : Lib.firstT b0 = 35 := by subst c5; decide
    rw [this, if_neg (by decide), if_neg (by decide)]
    exact (Lib.slow_ED n b0 b1 b2 b3 hn h1 h2 h3 c5).symm
  by_cases c6 : b0 < 240
  · have : Lib.firstT b0 = 3 := by unfold Lib.firstT; rw [if_neg c0, if_neg c1, if_neg c2, if_neg c3, if_neg c4, if_neg c5, if_pos c6]
    rw [this, if_neg (by decide), if_neg (by decide)]
    exact (Lib.slow_E1 n b0 b1 b2 b3 hn h1 h2 h3 (.inr ⟨by omega, c6⟩)).symm
  by_cases c7 : b0 = 240
  · have : Lib.firstT b0 = 52 := by subst c7; decide
    rw [this, if_neg (by decide), if_neg (by decide)]
    exact (Lib.slow_F0 n b0 b1 b2 b3 hn h1 h2 h3 c7).symm
  by_cases c8 : b0 < 244
  · have : Lib.firstT b0 = 4 := by unfold Lib.firstT; rw [if_neg c0, if_neg c1, if_neg c2, if_neg c3, if_neg c4, if_neg c5, if_neg c6, if_neg c7, if_pos c8]
    rw [this, if_neg (by decide), if_neg (by decide)]
    exact (Lib.slow_F1 n b0 b1 b2 b3 hn h1 h2 h3 ⟨by omega, c8⟩).symm
  by_cases c9 : b0 = 244
  · have : Lib.firstT b0 = 68 := by subst c9; decide
    rw [this, if_neg (by decide), if_neg (by decide)]
    exact (Lib.slow_F4 n b0 b1 b2 b3 hn h1 h2 h3 c9).symm
  · have : Lib.firstT b0 = 241 := by unfold Lib.firstT; rw [if_neg c0, if_neg c1, if_neg c2, if_neg c3, if_neg c4, if_neg c5, if_neg c6, if_neg c7, if_neg c8, if_neg c9]
    rw [this, if_neg (by decide), if_pos rfl]
    unfold Lib.decodeN
    have e1 : b0 / 32 ≠ 6 := by omega
    have e2 : b0 / 16 ≠ 14 := by omega
    have e3 : b0 / 8 = 30 ∨ b0 / 8 ≠ 30 := by omega
    rcases e3 with e3 | e3
    · simp [c0, e1, e2, e3]
      intros
      omega
    · simp [c0, e1, e2, e3]
theorem decode_stable {x : Str} (y : Str) (h : fullR x = true) : Lib.decodeGo ⟨(x ++ y).toArray⟩ = Lib.decodeGo ⟨x.toArray⟩ := by
  have hx : x ≠ [] := by rintro rfl; cases h
  have hxy : x ++ y ≠ [] := by simp [hx]
  rw [decode_list hx, decode_list hxy, decodeN_slow _ _ _ _ _ (by have := List.length_pos_iff.2 hxy; omega) (lt256 _) (lt256 _) (lt256 _) (lt256 _), decodeN_slow _ _ _ _ _ (by have := List.length_pos_iff.2 hx; omega) (lt256 _) (lt256 _) (lt256 _) (lt256 _)]
  have g : ∀ k, k < x.length → (x ++ y).getD k 0 = x.getD k 0 := fun k hk => by simp [List.getD, List.getElem?_append_left hk]
  have hm := firstT_mod (x.getD 0 0).toNat
  rw [g 0 (List.length_pos_iff.2 hx)]
  split
  · rfl
  · split
    · rfl
    · rw [List.length_append]
      match x, h with
      | [b0], h =>
        simp only [fullR, List.length_nil] at h
        rename_i h1 h2
        change ¬ Lib.firstT b0.toNat = 240 at h1
        change ¬ Lib.firstT b0.toNat = 241 at h2
        split at h
        · rename_i h3
          rcases Lib.firstT_cases b0.toNat with h4 | h4 | h4 | h4 | h4 | h4 | h4 | h4 | h4 <;> rw [h4] at h1 h2 h3 <;> simp at h1 h2 h3
        · cases h
      | [b0, b1], h =>
        simp only [fullR, List.length_cons, List.length_nil] at h
        rw [g 1 (by simp)]
        rw [show ([b0, b1] : Str).getD 0 0 = b0 from rfl, show ([b0, b1] : Str).getD 1 0 = b1 from rfl]
        change Lib.firstT b0.toNat % 8 ≤ 4 at hm
        unfold Lib.slowN
        split at h
        · rename_i h3
          have h3' : Lib.firstT b0.toNat % 8 ≤ 2 := by omega
          have hn1 : ¬ ([b0, b1] : Str).length + y.length < Lib.firstT b0.toNat % 8 := by simp; omega
          have hn2 : ¬ ([b0, b1] : Str).length < Lib.firstT b0.toNat % 8 := by simp; omega
          rw [if_neg hn1, if_neg hn2]
          split
          · rfl
          · first | rfl | rw [if_pos h3', if_pos h3']
        · rename_i h3
          have hn2 : ([b0, b1] : Str).length < Lib.firstT b0.toNat % 8 := by simp; omega
          rw [if_pos hn2]
          split at h
          · rename_i h4
            simp only [outR, decide_eq_true_eq] at h4
            split
            · rfl
            · first | rfl | rw [if_pos h4]
          · cases h
      | b0 :: b1 :: b2 :: r, h =>
        simp only [fullR, List.length_cons] at h
        rw [g 1 (by simp), g 2 (by simp)]
        rw [show (b0 :: b1 :: b2 :: r : Str).getD 0 0 = b0 from rfl, show (b0 :: b1 :: b2 :: r : Str).getD 1 0 = b1 from rfl, show (b0 :: b1 :: b2 :: r : Str).getD 2 0 = b2 from rfl]
        change Lib.firstT b0.toNat % 8 ≤ 4 at hm
        unfold Lib.slowN
        split at h
        · rename_i h3
          have hn1 : ¬ (b0 :: b1 :: b2 :: r : Str).length + y.length < Lib.firstT b0.toNat % 8 := by simp; omega
          have hn2 : ¬ (b0 :: b1 :: b2 :: r : Str).length < Lib.firstT b0.toNat % 8 := by simp; omega
          rw [if_neg hn1, if_neg hn2]
          by_cases hs : Lib.firstT b0.toNat % 8 ≤ 3
          · split
            · rfl
            · split
              · rfl
              · split
                · rfl
                · first | rfl | rw [if_pos hs, if_pos hs]
          · rw [g 3 (by simp; omega)]
        · rename_i h3
          have hn2 : (b0 :: b1 :: b2 :: r : Str).length < Lib.firstT b0.toNat % 8 := by simp; omega
          rw [if_pos hn2]
          split at h
          · rename_i h4
            simp only [outR, decide_eq_true_eq] at h4
            split
            · rfl
            · first | rfl | rw [if_pos h4]
          · simp only [outR, decide_eq_true_eq] at h
            rw [if_neg (show ¬ Lib.firstT b0.toNat % 8 ≤ 2 by omega), if_pos h]
            repeat' split
            all_goals rfl
theorem brokenFrom_stable {x : Str} (y : Str) (h : fullR x = true) : ∀ (f g n : Nat), 1 ≤ n → n ≤ x.length → x.length ≤ n + f → x.length + y.length ≤ n + g → (2 ≤ x.length ∨ n = x.length) → brokenFrom (x ++ y) g n = brokenFrom x f n := by
  intro f
  induction f with
  | zero =>
    intro g n h1 h2 h3 h4 h5
    have hn : n = x.length := by omega
    cases g with
    | zero => rfl
    | succ g =>
      rw [brokenFrom, brokenFrom, if_neg]
      rintro ⟨_, h6⟩
      rw [List.take_append, hn, List.take_of_length_le (by omega)] at h6
      rw [fullR_append _ _ h] at h6
      cases h6
  | succ f ih =>
    intro g n h1 h2 h3 h4 h5
    by_cases hn : n = x.length
    · have e1 : brokenFrom x (f + 1) n = n := by rw [brokenFrom, if_neg (by omega)]
      rw [e1]
      cases g with
      | zero => rfl
      | succ g =>
        rw [brokenFrom, if_neg]
        rintro ⟨_, h6⟩
        rw [List.take_append, hn, List.take_of_length_le (by omega)] at h6
        rw [fullR_append _ _ h] at h6
        cases h6
    · cases g with
      | zero => omega
      | succ g =>
        rw [brokenFrom, brokenFrom]
        have et : (x ++ y).take (n + 1) = x.take (n + 1) := by rw [List.take_append, show n + 1 - x.length = 0 by omega]; simp
        rw [et, List.length_append]
        by_cases hb : fullR (x.take (n + 1)) = false
        · rw [if_pos ⟨by omega, hb⟩, if_pos ⟨by omega, hb⟩]
          exact ih g (n + 1) (by omega) (by omega) (by omega) (by omega) (by omega)
        · rw [if_neg (fun hh => hb hh.2), if_neg (fun hh => hb hh.2)]
theorem broken_stable {x : Str} (y : Str) (h : fullR x = true) : broken (x ++ y) = broken x := by
  have hx : 1 ≤ x.length := by
    cases x with
    | nil => cases h
    | cons => simp
  unfold broken
  rw [List.length_append]
  exact brokenFrom_stable y h _ _ 1 (by omega) hx (by omega) (by omega) (by omega)
theorem firstPt_zero {x : Str} : (firstPt x).2 = 0 ↔ fullR x = false := by
  unfold firstPt
  by_cases hf : fullR x = false
  · rw [if_pos hf]; simp [hf]
  · rw [if_neg hf]
    have hx : x ≠ [] := by rintro rfl; exact hf rfl
    have hl := List.length_pos_iff.2 hx
    refine ⟨fun h => ?_, fun h => absurd h hf⟩
    exfalso
    split at h
    · have := (brokenFrom_le x x.length 1).1
      unfold broken at h
      simp only at h
      omega
    · rw [decode_list hx, decodeN_slow _ _ _ _ _ (by omega) (lt256 _) (lt256 _) (lt256 _) (lt256 _)] at h
      unfold Lib.slowN at h
      repeat' split at h
      all_goals simp at h
theorem firstPt_stable {x : Str} (y : Str) (h : (firstPt x).2 ≠ 0) : firstPt (x ++ y) = firstPt x := by
  have hf : fullR x = true := by
    cases hh : fullR x
    · exact absurd (firstPt_zero.2 hh) h
    · rfl
  unfold firstPt
  rw [fullR_append x y hf, hf, decode_stable y hf, broken_stable y hf]
theorem firstPt_wait {x : Str} (h : (firstPt x).2 = 0) : x.length ≤ 3 := fullR_short (firstPt_zero.1 h)
end Go.Proofs.YtdfmapcnfficlaaGreatDoor

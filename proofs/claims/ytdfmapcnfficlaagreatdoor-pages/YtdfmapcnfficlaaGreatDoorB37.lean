/-
  utf8.FullRuneInString, whole.
-/
import Derived.Test.YtdfmapcnfficlaaGreatDoorB36
set_option linter.unusedSimpArgs false
set_option linter.unusedVariables false
namespace Go.Proofs.YtdfmapcnfficlaaGreatDoor
open Go Go.RowKit

theorem at0 (b0 : UInt8) (r : Str) (h : 0 < (⟨(b0 :: r).toArray⟩ : ByteArray).size) : (⟨(b0 :: r).toArray⟩ : ByteArray)[0]'h = b0 := rfl
theorem at1 (b0 b1 : UInt8) (r : Str) (h : 1 < (⟨(b0 :: b1 :: r).toArray⟩ : ByteArray).size) : (⟨(b0 :: b1 :: r).toArray⟩ : ByteArray)[1]'h = b1 := rfl
theorem at2 (b0 b1 b2 : UInt8) (r : Str) (h : 2 < (⟨(b0 :: b1 :: b2 :: r).toArray⟩ : ByteArray).size) : (⟨(b0 :: b1 :: b2 :: r).toArray⟩ : ByteArray)[2]'h = b2 := rfl

theorem full_does (x : Str) (w : World) (hT : Lib.Utf8Tabs 2 3 w) :
    Calls Tryz.prog 85 #[.string ⟨x.toArray⟩] w fun e w' => e = .returned (.bool (fullR x)) ∧ More w w' := by
  cases x with
  | nil => exact full_nil w
  | cons b0 r =>
    have hsz : (⟨(b0 :: r).toArray⟩ : ByteArray).size = r.length + 1 := by simp [ByteArray.size]
    by_cases hk : Lib.firstT b0.toNat % 8 ≤ r.length + 1
    · have e : fullR (b0 :: r) = true := by unfold fullR; exact if_pos hk
      rw [e]
      exact full_enough _ w (by omega) hT (by rw [at0, hsz]; exact hk)
    · rcases Lib.firstT_cases b0.toNat with hx | hx | hx | hx | hx | hx | hx | hx | hx
      · rw [hx] at hk; simp at hk
      · rw [hx] at hk; simp at hk
      · have hk' := hk
        rw [hx] at hk'
        cases r with
        | nil =>
          rw [show fullR [b0] = false by rw [fullR, if_neg hk]]
          exact full1_2 _ w rfl b0 rfl hx hT
        | cons b1 r =>
          simp only [List.length_cons] at hk'; omega
      · have hk' := hk
        rw [hx] at hk'
        cases r with
        | nil =>
          rw [show fullR [b0] = false by rw [fullR, if_neg hk]]
          exact full1_19 _ w rfl b0 rfl hx hT
        | cons b1 r =>
          cases r with
          | nil =>
            by_cases h1 : (b1.toNat : Int) < 160
            · rw [show fullR [b0, b1] = true by rw [fullR, if_neg hk, hx]; rw [if_pos (by simp only [outR, Lib.accLo, Lib.accHi]; exact decide_eq_true (by simp; omega))]]
              exact full2_19_low _ w rfl b0 b1 rfl rfl hx hT h1
            · by_cases h2 : (191 : Int) < b1.toNat
              · rw [show fullR [b0, b1] = true by rw [fullR, if_neg hk, hx]; rw [if_pos (by simp only [outR, Lib.accLo, Lib.accHi]; exact decide_eq_true (by simp; omega))]]
                exact full2_19_high _ w rfl b0 b1 rfl rfl hx hT (by omega) h2
              · rw [show fullR [b0, b1] = false by rw [fullR, if_neg hk, hx]; rw [if_neg (by simp only [outR, Lib.accLo, Lib.accHi]; rw [decide_eq_true_iff]; simp; omega)]]
                exact full2_19_in _ w rfl b0 b1 rfl rfl hx hT (by omega) (by omega)
          | cons b2 r =>
            simp only [List.length_cons] at hk'; omega
      · have hk' := hk
        rw [hx] at hk'
        cases r with
        | nil =>
          rw [show fullR [b0] = false by rw [fullR, if_neg hk]]
          exact full1_3 _ w rfl b0 rfl hx hT
        | cons b1 r =>
          cases r with
          | nil =>
            by_cases h1 : (b1.toNat : Int) < 128
            · rw [show fullR [b0, b1] = true by rw [fullR, if_neg hk, hx]; rw [if_pos (by simp only [outR, Lib.accLo, Lib.accHi]; exact decide_eq_true (by simp; omega))]]
              exact full2_3_low _ w rfl b0 b1 rfl rfl hx hT h1
            · by_cases h2 : (191 : Int) < b1.toNat
              · rw [show fullR [b0, b1] = true by rw [fullR, if_neg hk, hx]; rw [if_pos (by simp only [outR, Lib.accLo, Lib.accHi]; exact decide_eq_true (by simp; omega))]]
                exact full2_3_high _ w rfl b0 b1 rfl rfl hx hT (by omega) h2
              · rw [show fullR [b0, b1] = false by rw [fullR, if_neg hk, hx]; rw [if_neg (by simp only [outR, Lib.accLo, Lib.accHi]; rw [decide_eq_true_iff]; simp; omega)]]
                exact full2_3_in _ w rfl b0 b1 rfl rfl hx hT (by omega) (by omega)
          | cons b2 r =>
            simp only [List.length_cons] at hk'; omega
      · have hk' := hk
        rw [hx] at hk'
        cases r with
        | nil =>
          rw [show fullR [b0] = false by rw [fullR, if_neg hk]]
          exact full1_35 _ w rfl b0 rfl hx hT
        | cons b1 r =>
          cases r with
          | nil =>
            by_cases h1 : (b1.toNat : Int) < 128
            · rw [show fullR [b0, b1] = true by rw [fullR, if_neg hk, hx]; rw [if_pos (by simp only [outR, Lib.accLo, Lib.accHi]; exact decide_eq_true (by simp; omega))]]
              exact full2_35_low _ w rfl b0 b1 rfl rfl hx hT h1
            · by_cases h2 : (159 : Int) < b1.toNat
              · rw [show fullR [b0, b1] = true by rw [fullR, if_neg hk, hx]; rw [if_pos (by simp only [outR, Lib.accLo, Lib.accHi]; exact decide_eq_true (by simp; omega))]]
                exact full2_35_high _ w rfl b0 b1 rfl rfl hx hT (by omega) h2
              · rw [show fullR [b0, b1] = false by rw [fullR, if_neg hk, hx]; rw [if_neg (by simp only [outR, Lib.accLo, Lib.accHi]; rw [decide_eq_true_iff]; simp; omega)]]
                exact full2_35_in _ w rfl b0 b1 rfl rfl hx hT (by omega) (by omega)
          | cons b2 r =>
            simp only [List.length_cons] at hk'; omega
      · have hk' := hk
        rw [hx] at hk'
        cases r with
        | nil =>
          rw [show fullR [b0] = false by rw [fullR, if_neg hk]]
          exact full1_52 _ w rfl b0 rfl hx hT
        | cons b1 r =>
          cases r with
          | nil =>
            by_cases h1 : (b1.toNat : Int) < 144
            · rw [show fullR [b0, b1] = true by rw [fullR, if_neg hk, hx]; rw [if_pos (by simp only [outR, Lib.accLo, Lib.accHi]; exact decide_eq_true (by simp; omega))]]
              exact full2_52_low _ w rfl b0 b1 rfl rfl hx hT h1
            · by_cases h2 : (191 : Int) < b1.toNat
              · rw [show fullR [b0, b1] = true by rw [fullR, if_neg hk, hx]; rw [if_pos (by simp only [outR, Lib.accLo, Lib.accHi]; exact decide_eq_true (by simp; omega))]]
                exact full2_52_high _ w rfl b0 b1 rfl rfl hx hT (by omega) h2
              · rw [show fullR [b0, b1] = false by rw [fullR, if_neg hk, hx]; rw [if_neg (by simp only [outR, Lib.accLo, Lib.accHi]; rw [decide_eq_true_iff]; simp; omega)]]
                exact full2_52_in _ w rfl b0 b1 rfl rfl hx hT (by omega) (by omega)
          | cons b2 r =>
            cases r with
            | cons b3 r => simp only [List.length_cons] at hk'; omega
            | nil =>
              by_cases h1 : (b1.toNat : Int) < 144
              · rw [show fullR [b0, b1, b2] = true by rw [fullR, if_neg hk, hx]; rw [if_pos (by simp only [outR, Lib.accLo, Lib.accHi]; exact decide_eq_true (by simp; omega))]]
                exact full3_52_low _ w rfl b0 b1 b2 rfl rfl rfl hx hT h1
              · by_cases h2 : (191 : Int) < b1.toNat
                · rw [show fullR [b0, b1, b2] = true by rw [fullR, if_neg hk, hx]; rw [if_pos (by simp only [outR, Lib.accLo, Lib.accHi]; exact decide_eq_true (by simp; omega))]]
                  exact full3_52_high _ w rfl b0 b1 b2 rfl rfl rfl hx hT (by omega) h2
                · by_cases h3 : (b2.toNat : Int) < 128
                  · rw [show fullR [b0, b1, b2] = true by rw [fullR, if_neg hk, hx]; rw [if_neg (by simp only [outR, Lib.accLo, Lib.accHi]; rw [decide_eq_true_iff]; simp; omega)]; exact decide_eq_true (by omega)]
                    exact full3_52_in_low _ w rfl b0 b1 b2 rfl rfl rfl hx hT (by omega) (by omega) h3
                  · by_cases h4 : (191 : Int) < b2.toNat
                    · rw [show fullR [b0, b1, b2] = true by rw [fullR, if_neg hk, hx]; rw [if_neg (by simp only [outR, Lib.accLo, Lib.accHi]; rw [decide_eq_true_iff]; simp; omega)]; exact decide_eq_true (by omega)]
                      exact full3_52_in_high _ w rfl b0 b1 b2 rfl rfl rfl hx hT (by omega) (by omega) (by omega) h4
                    · rw [show fullR [b0, b1, b2] = false by rw [fullR, if_neg hk, hx]; rw [if_neg (by simp only [outR, Lib.accLo, Lib.accHi]; rw [decide_eq_true_iff]; simp; omega)]; exact decide_eq_false (by omega)]
                      exact full3_52_in_in _ w rfl b0 b1 b2 rfl rfl rfl hx hT (by omega) (by omega) (by omega) (by omega)
      · have hk' := hk
        rw [hx] at hk'
        cases r with
        | nil =>
          rw [show fullR [b0] = false by rw [fullR, if_neg hk]]
          exact full1_4 _ w rfl b0 rfl hx hT
        | cons b1 r =>
          cases r with
          | nil =>
            by_cases h1 : (b1.toNat : Int) < 128
            · rw [show fullR [b0, b1] = true by rw [fullR, if_neg hk, hx]; rw [if_pos (by simp only [outR, Lib.accLo, Lib.accHi]; exact decide_eq_true (by simp; omega))]]
              exact full2_4_low _ w rfl b0 b1 rfl rfl hx hT h1
            · by_cases h2 : (191 : Int) < b1.toNat
              · rw [show fullR [b0, b1] = true by rw [fullR, if_neg hk, hx]; rw [if_pos (by simp only [outR, Lib.accLo, Lib.accHi]; exact decide_eq_true (by simp; omega))]]
                exact full2_4_high _ w rfl b0 b1 rfl rfl hx hT (by omega) h2
              · rw [show fullR [b0, b1] = false by rw [fullR, if_neg hk, hx]; rw [if_neg (by simp only [outR, Lib.accLo, Lib.accHi]; rw [decide_eq_true_iff]; simp; omega)]]
                exact full2_4_in _ w rfl b0 b1 rfl rfl hx hT (by omega) (by omega)
          | cons b2 r =>
            cases r with
            | cons b3 r => simp only [List.length_cons] at hk'; omega
            | nil =>
              by_cases h1 : (b1.toNat : Int) < 128
              · rw [show fullR [b0, b1, b2] = true by rw [fullR, if_neg hk, hx]; rw [if_pos (by simp only [outR, Lib.accLo, Lib.accHi]; exact decide_eq_true (by simp; omega))]]
                exact full3_4_low _ w rfl b0 b1 b2 rfl rfl rfl hx hT h1
              · by_cases h2 : (191 : Int) < b1.toNat
                · rw [show fullR [b0, b1, b2] = true by rw [fullR, if_neg hk, hx]; rw [if_pos (by simp only [outR, Lib.accLo, Lib.accHi]; exact decide_eq_true (by simp; omega))]]
                  exact full3_4_high _ w rfl b0 b1 b2 rfl rfl rfl hx hT (by omega) h2
                · by_cases h3 : (b2.toNat : Int) < 128
                  · rw [show fullR [b0, b1, b2] = true by rw [fullR, if_neg hk, hx]; rw [if_neg (by simp only [outR, Lib.accLo, Lib.accHi]; rw [decide_eq_true_iff]; simp; omega)]; exact decide_eq_true (by omega)]
                    exact full3_4_in_low _ w rfl b0 b1 b2 rfl rfl rfl hx hT (by omega) (by omega) h3
                  · by_cases h4 : (191 : Int) < b2.toNat
                    · rw [show fullR [b0, b1, b2] = true by rw [fullR, if_neg hk, hx]; rw [if_neg (by simp only [outR, Lib.accLo, Lib.accHi]; rw [decide_eq_true_iff]; simp; omega)]; exact decide_eq_true (by omega)]
                      exact full3_4_in_high _ w rfl b0 b1 b2 rfl rfl rfl hx hT (by omega) (by omega) (by omega) h4
                    · rw [show fullR [b0, b1, b2] = false by rw [fullR, if_neg hk, hx]; rw [if_neg (by simp only [outR, Lib.accLo, Lib.accHi]; rw [decide_eq_true_iff]; simp; omega)]; exact decide_eq_false (by omega)]
                      exact full3_4_in_in _ w rfl b0 b1 b2 rfl rfl rfl hx hT (by omega) (by omega) (by omega) (by omega)
      · have hk' := hk
        rw [hx] at hk'
        cases r with
        | nil =>
          rw [show fullR [b0] = false by rw [fullR, if_neg hk]]
          exact full1_68 _ w rfl b0 rfl hx hT
        | cons b1 r =>
          cases r with
          | nil =>
            by_cases h1 : (b1.toNat : Int) < 128
            · rw [show fullR [b0, b1] = true by rw [fullR, if_neg hk, hx]; rw [if_pos (by simp only [outR, Lib.accLo, Lib.accHi]; exact decide_eq_true (by simp; omega))]]
              exact full2_68_low _ w rfl b0 b1 rfl rfl hx hT h1
            · by_cases h2 : (143 : Int) < b1.toNat
              · rw [show fullR [b0, b1] = true by rw [fullR, if_neg hk, hx]; rw [if_pos (by simp only [outR, Lib.accLo, Lib.accHi]; exact decide_eq_true (by simp; omega))]]
                exact full2_68_high _ w rfl b0 b1 rfl rfl hx hT (by omega) h2
              · rw [show fullR [b0, b1] = false by rw [fullR, if_neg hk, hx]; rw [if_neg (by simp only [outR, Lib.accLo, Lib.accHi]; rw [decide_eq_true_iff]; simp; omega)]]
                exact full2_68_in _ w rfl b0 b1 rfl rfl hx hT (by omega) (by omega)
          | cons b2 r =>
            cases r with
            | cons b3 r => simp only [List.length_cons] at hk'; omega
            | nil =>
              by_cases h1 : (b1.toNat : Int) < 128
              · rw [show fullR [b0, b1, b2] = true by rw [fullR, if_neg hk, hx]; rw [if_pos (by simp only [outR, Lib.accLo, Lib.accHi]; exact decide_eq_true (by simp; omega))]]
                exact full3_68_low _ w rfl b0 b1 b2 rfl rfl rfl hx hT h1
              · by_cases h2 : (143 : Int) < b1.toNat
                · rw [show fullR [b0, b1, b2] = true by rw [fullR, if_neg hk, hx]; rw [if_pos (by simp only [outR, Lib.accLo, Lib.accHi]; exact decide_eq_true (by simp; omega))]]
                  exact full3_68_high _ w rfl b0 b1 b2 rfl rfl rfl hx hT (by omega) h2
                · by_cases h3 : (b2.toNat : Int) < 128
                  · rw [show fullR [b0, b1, b2] = true by rw [fullR, if_neg hk, hx]; rw [if_neg (by simp only [outR, Lib.accLo, Lib.accHi]; rw [decide_eq_true_iff]; simp; omega)]; exact decide_eq_true (by omega)]
                    exact full3_68_in_low _ w rfl b0 b1 b2 rfl rfl rfl hx hT (by omega) (by omega) h3
                  · by_cases h4 : (191 : Int) < b2.toNat
                    · rw [show fullR [b0, b1, b2] = true by rw [fullR, if_neg hk, hx]; rw [if_neg (by simp only [outR, Lib.accLo, Lib.accHi]; rw [decide_eq_true_iff]; simp; omega)]; exact decide_eq_true (by omega)]
                      exact full3_68_in_high _ w rfl b0 b1 b2 rfl rfl rfl hx hT (by omega) (by omega) (by omega) h4
                    · rw [show fullR [b0, b1, b2] = false by rw [fullR, if_neg hk, hx]; rw [if_neg (by simp only [outR, Lib.accLo, Lib.accHi]; rw [decide_eq_true_iff]; simp; omega)]; exact decide_eq_false (by omega)]
                      exact full3_68_in_in _ w rfl b0 b1 b2 rfl rfl rfl hx hT (by omega) (by omega) (by omega) (by omega)
end Go.Proofs.YtdfmapcnfficlaaGreatDoor

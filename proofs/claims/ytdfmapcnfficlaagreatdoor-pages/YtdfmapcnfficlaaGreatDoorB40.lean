/-
  A look ends behind at most four states; a text is read to its end.
  A code point that is whole stays so, whatever comes behind it.
-/
import Derived.Test.YtdfmapcnfficlaaGreatDoorB35
import Derived.Test.YtdfmapcnfficlaaGreatDoorB39
set_option linter.unusedSimpArgs false
set_option linter.unusedVariables false
namespace Go.Proofs.YtdfmapcnfficlaaGreatDoor
open Go Go.RowKit
section
variable {w0 : World} {own0 : Nat → Prop} {b : Nat} {s : TS} {ex : List Item} {w : World} {R : Regs} {c : Int}

theorem sameHead.refl (s : TS) : sameHead s s := ⟨rfl, rfl, rfl, rfl, rfl, rfl⟩
theorem sameHead.trans {s t u : TS} (h : sameHead s t) (k : sameHead t u) : sameHead s u :=
  ⟨k.1.trans h.1, k.2.1.trans h.2.1, k.2.2.1.trans h.2.2.1, k.2.2.2.1.trans h.2.2.2.1, k.2.2.2.2.1.trans h.2.2.2.2.1, k.2.2.2.2.2.trans h.2.2.2.2.2⟩

theorem pre_of (B : Base w0 own0) (hc : Rn c) (g : Good s c) (h0 : 0 ≤ s.place) (h1 : s.place ≤ 1099511627776) (hs : sz s + 128 ≤ lim) : Pre w0 own0 s c :=
  ⟨hc, B, fun h => ⟨g.num h, g.come h, g.val h, h0, h1⟩, g.att, g.decl, h0, h1, hs⟩

theorem runs_of (hc : Rn c) : ∀ (n : Nat) (s : TS), Good s c → 0 ≤ s.place → s.place ≤ 1099511627776 → sz s + 128 * n ≤ lim → rank s.state c < n →
    ((Base w0 own0 → Runs w0 own0 n s c) ∧ sz (lookN n s c) ≤ sz s + 128 * n ∧ sameHead s (lookN n s c) ∧ (c ≠ -1 → ∀ c', Good (lookN n s c) c'))
  | 0, s, g, h0, h1, hs, hr => by omega
  | n + 1, s, g, h0, h1, hs, hr => by
    have hl := good_lookOnce g
    have hh := head_lookOnce (s := s) (c := c)
    have hz := sz_lookOnce g
    rw [lookN]
    rcases hl with ⟨e, hg⟩ | ⟨e, hg, hk⟩
    · rw [if_pos e]
      exact ⟨fun B => ⟨pre_of B hc g h0 h1 (by omega), g.st0, g.st1, .inl e⟩, by omega, hh, hg⟩
    · rw [if_neg (by rw [e]; decide)]
      have hp : (lookOnce s c).2.place = s.place := hh.2.2.2.2.2
      obtain ⟨i1, i2, i3, i4⟩ := runs_of hc n (lookOnce s c).2 hg (by omega) (by omega) (by omega) (by omega)
      exact ⟨fun B => ⟨pre_of B hc g h0 h1 (by omega), g.st0, g.st1, .inr ⟨e, i1 B⟩⟩, by omega, hh.trans i3, i4⟩

/-- Between code points. -/
def Fine (s : TS) : Prop := (∀ c, Good s c) ∧ 0 ≤ s.place

theorem Fine.head {s t : TS} (h : Fine s) (h1 : t.state = s.state) (h2 : t.base = s.base) (h3 : t.declared = s.declared) (h4 : t.rnum = s.rnum) (h5 : t.rcome = s.rcome) (h6 : t.rback = s.rback) (h7 : t.tag = s.tag) (h8 : t.place = s.place) : Fine t := by
  refine ⟨fun c => ?_, by rw [h8]; exact h.2⟩
  have g := h.1 c
  exact ⟨by rw [h1]; exact g.st0, by rw [h1]; exact g.st1, by rw [h2]; exact g.base, by rw [h3]; exact g.decl, by unfold NumOk; rw [h1, h4]; exact g.num, by rw [h1, h5]; exact g.come, by rw [h1, h6]; exact g.back, by rw [h1, h6, h7]; exact g.val, by rw [h1, h7]; exact g.att, by rw [h1, h7]; exact g.after, by rw [h1, h5]; exact g.hash⟩

theorem look4 (hf : Fine s) (hc : Rn c) (h1 : s.place ≤ 1099511627776) (hs : sz s + 512 ≤ lim) :
    (Base w0 own0 → May w0 own0 4 s c) ∧ sz (lookN 4 s c) ≤ sz s + 512 ∧ sameHead s (lookN 4 s c) ∧ (c ≠ -1 → Fine (lookN 4 s c)) := by
  obtain ⟨i1, i2, i3, i4⟩ := runs_of (w0 := w0) (own0 := own0) hc 4 s (hf.1 c) hf.2 h1 (by omega) (by have := rank_le s.state c; omega)
  have hp : (lookN 4 s c).place = s.place := i3.2.2.2.2.2
  exact ⟨fun B => ⟨i1 B, by rw [hp]; exact hf.2, by rw [hp]; exact h1⟩, by omega, i3, fun h => ⟨i4 h, by rw [hp]; exact hf.2⟩⟩

theorem firstPt_rn (x : Str) : 0 ≤ (firstPt x).1 ∧ (firstPt x).1 ≤ 1114111 := by
  unfold firstPt
  split
  · simp
  · split
    · simp
    · unfold Lib.decodeGo
      split
      · simp
      · have := Lib.rune_le ⟨x.toArray⟩ 0
        constructor
        · exact Int.natCast_nonneg _
        · omega

/-- One code point is passed on. -/
theorem pass_fine {c : Int} (hf : Fine s) (h0 : 0 ≤ c) (h2 : c ≤ 1114111) (h1 : s.place ≤ 1099511627776) (hs : sz s + 512 ≤ lim) :
    (¬ (c = 10 ∧ s.behind = true) → Base w0 own0 → May w0 own0 4 (setBehind s c) (if c = 13 then 10 else c)) ∧ sz (pass 4 s c) ≤ sz s + 512 ∧ Fine (pass 4 s c) ∧ (pass 4 s c).place ≤ s.place + 1 ∧ (pass 4 s c).begun = s.begun ∧ (pass 4 s c).bytes = s.bytes ∧ (pass 4 s c).limit = s.limit ∧ (pass 4 s c).closed = s.closed := by
  have hf' : Fine (setBehind s c) := hf.head rfl rfl rfl rfl rfl rfl rfl rfl
  have hz : sz (setBehind s c) = sz s := rfl
  have hp : (setBehind s c).place = s.place := rfl
  have key : ∀ d : Int, 0 ≤ d → d ≤ 1114111 → (Base w0 own0 → May w0 own0 4 (setBehind s c) d) ∧ sz (lookAtNext 4 (setBehind s c) d) ≤ sz s + 512 ∧ Fine (lookAtNext 4 (setBehind s c) d) ∧ (lookAtNext 4 (setBehind s c) d).place ≤ s.place + 1 ∧ (lookAtNext 4 (setBehind s c) d).begun = s.begun ∧ (lookAtNext 4 (setBehind s c) d).bytes = s.bytes ∧ (lookAtNext 4 (setBehind s c) d).limit = s.limit ∧ (lookAtNext 4 (setBehind s c) d).closed = s.closed := by
    intro d hd0 hd1
    obtain ⟨i1, i2, i3, i4⟩ := look4 (w0 := w0) (own0 := own0) hf' (c := d) ⟨by omega, hd1⟩ h1 (by omega)
    have i5 := i4 (by omega)
    have hp' : (lookN 4 (setBehind s c) d).place = s.place := i3.2.2.2.2.2
    refine ⟨i1, i2, ⟨fun c' => ?_, ?_⟩, ?_, i3.1, i3.2.2.2.1, i3.2.2.1, i3.2.2.2.2.1⟩
    · have g := i5.1 c'
      exact ⟨g.st0, g.st1, g.base, g.decl, g.num, g.come, g.back, g.val, g.att, g.after, g.hash⟩
    · show 0 ≤ (lookN 4 (setBehind s c) d).place + 1
      have := hf.2
      omega
    · show (lookN 4 (setBehind s c) d).place + 1 ≤ s.place + 1
      omega
  unfold pass
  by_cases h10 : c = 10 ∧ s.behind = true
  · rw [if_pos h10]
    exact ⟨fun h => absurd h10 h, by omega, hf', by omega, rfl, rfl, rfl, rfl⟩
  · rw [if_neg h10]
    by_cases h13 : c = 13
    · rw [if_pos h13, if_pos h13]
      have k := key 10 (by decide) (by decide)
      exact ⟨fun _ => k.1, k.2⟩
    · rw [if_neg h13, if_neg h13]
      have k := key c h0 h2
      exact ⟨fun _ => k.1, k.2⟩

theorem reads_of : ∀ (f : Nat) (s : TS) (r : Str), r.length ≤ f → Fine s → s.place + r.length ≤ 1099511627776 → sz s + 512 * r.length ≤ lim →
    (Base w0 own0 → Reads w0 own0 4 f s r) ∧ sz (readN 4 f s r).1 + 512 * (readN 4 f s r).2.length ≤ sz s + 512 * r.length ∧ Fine (readN 4 f s r).1 ∧ (readN 4 f s r).1.place + (readN 4 f s r).2.length ≤ s.place + r.length ∧ (readN 4 f s r).1.begun = s.begun ∧ (readN 4 f s r).1.bytes = s.bytes ∧ (readN 4 f s r).1.limit = s.limit ∧ (readN 4 f s r).1.closed = s.closed ∧ (readN 4 f s r).2.length ≤ r.length ∧ (firstPt (readN 4 f s r).2).2 = 0
  | 0, s, r, hl, hf, hp, hz => by
    have hr : r = [] := List.length_eq_zero_iff.1 (by omega)
    subst hr
    have h0 : (firstPt []).2 = 0 := by have := firstPt_le []; simpa using this
    rw [readN]
    exact ⟨fun _ => h0, Nat.le_refl _, hf, Int.le_refl _, rfl, rfl, rfl, rfl, Nat.le_refl _, h0⟩
  | f + 1, s, r, hl, hf, hp, hz => by
    rw [readN]
    by_cases h0 : (firstPt r).2 = 0
    · rw [if_pos h0]
      exact ⟨fun _ => .inl h0, Nat.le_refl _, hf, Int.le_refl _, rfl, rfl, rfl, rfl, Nat.le_refl _, h0⟩
    · rw [if_neg h0]
      have hle := firstPt_le r
      have hd : (r.drop (firstPt r).2).length = r.length - (firstPt r).2 := List.length_drop
      obtain ⟨c0, c1⟩ := firstPt_rn r
      obtain ⟨i1, i2, i3, i4, i5, i6, i7, i8⟩ := pass_fine (w0 := w0) (own0 := own0) hf c0 c1 (by omega) (by omega)
      obtain ⟨j1, j2, j3, j4, j5, j6, j7, j8, j9, j10⟩ := reads_of f (pass 4 s (firstPt r).1) (r.drop (firstPt r).2) (by omega) i3 (by omega) (by omega)
      exact ⟨fun B => .inr ⟨h0, fun h => i1 h B, j1 B⟩, by omega, j3, by omega, j5.trans i5, j6.trans i6, j7.trans i7, j8.trans i8, by omega, j10⟩
end
end Go.Proofs.YtdfmapcnfficlaaGreatDoor

set_option linter.unusedSimpArgs false
set_option linter.unusedVariables false
namespace Go.Proofs.YtdfmapcnfficlaaGreatDoor
open Go Go.RowKit

theorem firstT_mod (b : Nat) : Lib.firstT b % 8 ≤ 4 := by
  rcases Lib.firstT_cases b with h | h | h | h | h | h | h | h | h <;> rw [h] <;> decide
theorem fullR_append (x y : Str) (h : fullR x = true) : fullR (x ++ y) = true := by
  match x, h with
  | [], h => cases h
  | [b0], h =>
    simp only [fullR, List.length_nil] at h
    simp only [List.cons_append, List.nil_append, fullR]
    split at h
    · rw [if_pos (by omega)]
    · cases h
  | [b0, b1], h =>
    simp only [fullR, List.length_cons, List.length_nil] at h
    simp only [List.cons_append, List.nil_append, fullR, List.length_cons]
    split at h
    · rw [if_pos (by omega)]
    · split at h
      · rename_i h1
        split
        · rfl
        · first | rfl | rw [if_pos h1]
      · cases h
  | b0 :: b1 :: b2 :: r, h =>
    simp only [fullR, List.length_cons] at h
    simp only [List.cons_append, fullR, List.length_cons, List.length_append]
    split at h
    · rw [if_pos (by omega)]
    · split
      · rfl
      · exact h
theorem fullR_short {x : Str} (h : fullR x = false) : x.length ≤ 3 := by
  match x, h with
  | [], h => simp
  | b0 :: r, h =>
    simp only [fullR] at h
    have := firstT_mod b0.toNat
    split at h
    · cases h
    · simp only [List.length_cons]
      omega
theorem get_list (l : Str) (k : Nat) : (⟨l.toArray⟩ : ByteArray).get! k = l.getD k 0 := by
  show l.toArray.getD k default = _
  by_cases hk : k < l.length
  · simp [Array.getD, List.getD, hk]
  · simp [Array.getD, List.getD, hk]
    rfl
theorem decode_list {l : Str} (h : l ≠ []) : Lib.decodeGo ⟨l.toArray⟩ = Lib.decodeN l.length (l.getD 0 0).toNat (l.getD 1 0).toNat (l.getD 2 0).toNat (l.getD 3 0).toNat := by
  have hl : l.length ≠ 0 := fun e => h (List.length_eq_zero_iff.1 e)
  have hs : (⟨l.toArray⟩ : ByteArray).size = l.length := by simp [ByteArray.size]
  unfold Lib.decodeGo
  rw [if_neg (by omega), Lib.decode_at, get_list, get_list, get_list, get_list, hs]
  rfl
theorem lt256 (x : UInt8) : x.toNat < 256 := x.toBitVec.isLt
theorem decodeN_slow (n b0 b1 b2 b3 : Nat) (hn : 1 ≤ n) (h0 : b0 < 256) (h1 : b1 < 256) (h2 : b2 < 256) (h3 : b3 < 256) :
    Lib.decodeN n b0 b1 b2 b3 = if Lib.firstT b0 = 240 then (b0, 1) else if Lib.firstT b0 = 241 then (65533, 1) else Lib.slowN n b0 b1 b2 b3 (Lib.firstT b0 % 8) (Lib.accLo (Lib.firstT b0 / 16)) (Lib.accHi (Lib.firstT b0 / 16)) := by
  by_cases c0 : b0 < 128
  · have : Lib.firstT b0 = 240 := by unfold Lib.firstT; rw [if_pos c0]
    rw [this, if_pos rfl]
    simp [Lib.decodeN, c0]
  by_cases c1 : b0 < 194
  · have : Lib.firstT b0 = 241 := by unfold Lib.firstT; rw [if_neg c0, if_pos c1]
    rw [this, if_neg (by decide), if_pos rfl]
    unfold Lib.decodeN
    have e1 : b0 / 32 = 6 ∨ b0 / 32 ≠ 6 := by omega
    have e2 : b0 / 16 ≠ 14 := by omega
    have e3 : b0 / 8 ≠ 30 := by omega
    rcases e1 with e1 | e1
    · simp [c0, e1, e2, e3]
      intros
      omega
    · simp [c0, e1, e2, e3]
  by_cases c2 : b0 < 224
  · have : Lib.firstT b0 = 2 := by unfold Lib.firstT; rw [if_neg c0, if_neg c1, if_pos c2]
    rw [this, if_neg (by decide), if_neg (by decide)]
    exact (Lib.slow_C2 n b0 b1 b2 b3 hn h1 h2 h3 ⟨by omega, c2⟩).symm
  by_cases c3 : b0 = 224
  · have : Lib.firstT b0 = 19 := by subst c3; decide
    rw [this, if_neg (by decide), if_neg (by decide)]
    exact (Lib.slow_E0 n b0 b1 b2 b3 hn h1 h2 h3 c3).symm
  by_cases c4 : b0 < 237
  · have : Lib.firstT b0 = 3 := by unfold Lib.firstT; rw [if_neg c0, if_neg c1, if_neg c2, if_neg c3, if_pos c4]
    rw [this, if_neg (by decide), if_neg (by decide)]
    exact (Lib.slow_E1 n b0 b1 b2 b3 hn h1 h2 h3 (.inl ⟨by omega, c4⟩)).symm
  by_cases c5 : b0 = 237
  · have : Lib.firstT b0 = 35 := by subst c5; decide
    rw [this, if_neg (by decide), if_neg (by decide)]
    exact (Lib.slow_ED n b0 b1 b2 b3 hn h1 h2 h3 c5).symm
  by_cases c6 : b0 < 240
  · have : Lib.firstT b0 = 3 := by unfold Lib.firstT; rw [if_neg c0, if_neg c1, if_neg c2, if_neg c3, if_neg c4, if_neg c5, if_pos c6]
    rw [this, if_neg (by decide), if_neg (by decide)]
    exact (Lib.slow_E1 n b0 b1 b2 b3 hn h1 h2 h3 (.inr ⟨by omega, c6⟩)).symm
  by_cases c7 : b0 = 240
  · have : Lib.firstT b0 = 52 := by subst c7; decide
    rw [this, if_neg (by decide), if_neg (by decide)]
    exact (Lib.slow_F0 n b0 b1 b2 b3 hn h1 h2 h3 c7).symm
  by_cases c8 : b0 < 244
  · have : Lib.firstT b0 = 4 := by unfold Lib.firstT; rw [if_neg c0, if_neg c1, if_neg c2, if_neg c3, if_neg c4, if_neg c5, if_neg c6, if_neg c7, if_pos c8]
    rw [this, if_neg (by decide), if_neg (by decide)]
    exact (Lib.slow_F1 n b0 b1 b2 b3 hn h1 h2 h3 ⟨by omega, c8⟩).symm
  by_cases c9 : b0 = 244
  · have : Lib.firstT b0 = 68 := by subst c9; decide
    rw [this, if_neg (by decide), if_neg (by decide)]
    exact (Lib.slow_F4 n b0 b1 b2 b3 hn h1 h2 h3 c9).symm
  · have : Lib.firstT b0 = 241 := by unfold Lib.firstT; rw [if_neg c0, if_neg c1, if_neg c2, if_neg c3, if_neg c4, if_neg c5, if_neg c6, if_neg c7, if_neg c8, if_neg c9]
    rw [this, if_neg (by decide), if_pos rfl]
    unfold Lib.decodeN
    have e1 : b0 / 32 ≠ 6 := by omega
    have e2 : b0 / 16 ≠ 14 := by omega
    have e3 : b0 / 8 = 30 ∨ b0 / 8 ≠ 30 := by omega
    rcases e3 with e3 | e3
    · simp [c0, e1, e2, e3]
      intros
      omega
    · simp [c0, e1, e2, e3]
theorem decode_stable {x : Str} (y : Str) (h : fullR x = true) : Lib.decodeGo ⟨(x ++ y).toArray⟩ = Lib.decodeGo ⟨x.toArray⟩ := by
  have hx : x ≠ [] := by rintro rfl; cases h
  have hxy : x ++ y ≠ [] := by simp [hx]
  rw [decode_list hx, decode_list hxy, decodeN_slow _ _ _ _ _ (by have := List.length_pos_iff.2 hxy; omega) (lt256 _) (lt256 _) (lt256 _) (lt256 _), decodeN_slow _ _ _ _ _ (by have := List.length_pos_iff.2 hx; omega) (lt256 _) (lt256 _) (lt256 _) (lt256 _)]
  have g : ∀ k, k < x.length → (x ++ y).getD k 0 = x.getD k 0 := fun k hk => by simp [List.getD, List.getElem?_append_left hk]
  have hm := firstT_mod (x.getD 0 0).toNat
  rw [g 0 (List.length_pos_iff.2 hx)]
  split
  · rfl
  · split
    · rfl
    · rw [List.length_append]
      match x, h with
      | [b0], h =>
        simp only [fullR, List.length_nil] at h
        rename_i h1 h2
        change ¬ Lib.firstT b0.toNat = 240 at h1
        change ¬ Lib.firstT b0.toNat = 241 at h2
        split at h
        · rename_i h3
          rcases Lib.firstT_cases b0.toNat with h4 | h4 | h4 | h4 | h4 | h4 | h4 | h4 | h4 <;> rw [h4] at h1 h2 h3 <;> simp at h1 h2 h3
        · cases h
      | [b0, b1], h =>
        simp only [fullR, List.length_cons, List.length_nil] at h
        rw [g 1 (by simp)]
        rw [show ([b0, b1] : Str).getD 0 0 = b0 from rfl, show ([b0, b1] : Str).getD 1 0 = b1 from rfl]
        change Lib.firstT b0.toNat % 8 ≤ 4 at hm
        unfold Lib.slowN
        split at h
        · rename_i h3
          have h3' : Lib.firstT b0.toNat % 8 ≤ 2 := by omega
          have hn1 : ¬ ([b0, b1] : Str).length + y.length < Lib.firstT b0.toNat % 8 := by simp; omega
          have hn2 : ¬ ([b0, b1] : Str).length < Lib.firstT b0.toNat % 8 := by simp; omega
          rw [if_neg hn1, if_neg hn2]
          split
          · rfl
          · first | rfl | rw [if_pos h3', if_pos h3']
        · rename_i h3
          have hn2 : ([b0, b1] : Str).length < Lib.firstT b0.toNat % 8 := by simp; omega
          rw [if_pos hn2]
          split at h
          · rename_i h4
            simp only [outR, decide_eq_true_eq] at h4
            split
            · rfl
            · first | rfl | rw [if_pos h4]
          · cases h
      | b0 :: b1 :: b2 :: r, h =>
        simp only [fullR, List.length_cons] at h
        rw [g 1 (by simp), g 2 (by simp)]
        rw [show (b0 :: b1 :: b2 :: r : Str).getD 0 0 = b0 from rfl, show (b0 :: b1 :: b2 :: r : Str).getD 1 0 = b1 from rfl, show (b0 :: b1 :: b2 :: r : Str).getD 2 0 = b2 from rfl]
        change Lib.firstT b0.toNat % 8 ≤ 4 at hm
        unfold Lib.slowN
        split at h
        · rename_i h3
          have hn1 : ¬ (b0 :: b1 :: b2 :: r : Str).length + y.length < Lib.firstT b0.toNat % 8 := by simp; omega
          have hn2 : ¬ (b0 :: b1 :: b2 :: r : Str).length < Lib.firstT b0.toNat % 8 := by simp; omega
          rw [if_neg hn1, if_neg hn2]
          by_cases hs : Lib.firstT b0.toNat % 8 ≤ 3
          · split
            · rfl
            · split
              · rfl
              · split
                · rfl
                · first | rfl | rw [if_pos hs, if_pos hs]
          · rw [g 3 (by simp; omega)]
        · rename_i h3
          have hn2 : (b0 :: b1 :: b2 :: r : Str).length < Lib.firstT b0.toNat % 8 := by simp; omega
          rw [if_pos hn2]
          split at h
          · rename_i h4
            simp only [outR, decide_eq_true_eq] at h4
            split
            · rfl
            · first | rfl | rw [if_pos h4]
          · simp only [outR, decide_eq_true_eq] at h
            rw [if_neg (show ¬ Lib.firstT b0.toNat % 8 ≤ 2 by omega), if_pos h]
            repeat' split
            all_goals rfl
theorem brokenFrom_stable {x : Str} (y : Str) (h : fullR x = true) : ∀ (f g n : Nat), 1 ≤ n → n ≤ x.length → x.length ≤ n + f → x.length + y.length ≤ n + g → (2 ≤ x.length ∨ n = x.length) → brokenFrom (x ++ y) g n = brokenFrom x f n := by
  intro f
  induction f with
  | zero =>
    intro g n h1 h2 h3 h4 h5
    have hn : n = x.length := by omega
    cases g with
    | zero => rfl
    | succ g =>
      rw [brokenFrom, brokenFrom, if_neg]
      rintro ⟨_, h6⟩
      rw [List.take_append, hn, List.take_of_length_le (by omega)] at h6
      rw [fullR_append _ _ h] at h6
      cases h6
  | succ f ih =>
    intro g n h1 h2 h3 h4 h5
    by_cases hn : n = x.length
    · have e1 : brokenFrom x (f + 1) n = n := by rw [brokenFrom, if_neg (by omega)]
      rw [e1]
      cases g with
      | zero => rfl
      | succ g =>
        rw [brokenFrom, if_neg]
        rintro ⟨_, h6⟩
        rw [List.take_append, hn, List.take_of_length_le (by omega)] at h6
        rw [fullR_append _ _ h] at h6
        cases h6
    · cases g with
      | zero => omega
      | succ g =>
        rw [brokenFrom, brokenFrom]
        have et : (x ++ y).take (n + 1) = x.take (n + 1) := by rw [List.take_append, show n + 1 - x.length = 0 by omega]; simp
        rw [et, List.length_append]
        by_cases hb : fullR (x.take (n + 1)) = false
        · rw [if_pos ⟨by omega, hb⟩, if_pos ⟨by omega, hb⟩]
          exact ih g (n + 1) (by omega) (by omega) (by omega) (by omega) (by omega)
        · rw [if_neg (fun hh => hb hh.2), if_neg (fun hh => hb hh.2)]
theorem broken_stable {x : Str} (y : Str) (h : fullR x = true) : broken (x ++ y) = broken x := by
  have hx : 1 ≤ x.length := by
    cases x with
    | nil => cases h
    | cons => simp
  unfold broken
  rw [List.length_append]
  exact brokenFrom_stable y h _ _ 1 (by omega) hx (by omega) (by omega) (by omega)
theorem firstPt_zero {x : Str} : (firstPt x).2 = 0 ↔ fullR x = false := by
  unfold firstPt
  by_cases hf : fullR x = false
  · rw [if_pos hf]; simp [hf]
  · rw [if_neg hf]
    have hx : x ≠ [] := by rintro rfl; exact hf rfl
    have hl := List.length_pos_iff.2 hx
    refine ⟨fun h => ?_, fun h => absurd h hf⟩
    exfalso
    split at h
    · have := (brokenFrom_le x x.length 1).1
      unfold broken at h
      simp only at h
      omega
    · rw [decode_list hx, decodeN_slow _ _ _ _ _ (by omega) (lt256 _) (lt256 _) (lt256 _) (lt256 _)] at h
      unfold Lib.slowN at h
      repeat' split at h
      all_goals simp at h
theorem firstPt_stable {x : Str} (y : Str) (h : (firstPt x).2 ≠ 0) : firstPt (x ++ y) = firstPt x := by
  have hf : fullR x = true := by
    cases hh : fullR x
    · exact absurd (firstPt_zero.2 hh) h
    · rfl
  unfold firstPt
  rw [fullR_append x y hf, hf, decode_stable y hf, broken_stable y hf]
theorem firstPt_wait {x : Str} (h : (firstPt x).2 = 0) : x.length ≤ 3 := fullR_short (firstPt_zero.1 h)
end Go.Proofs.YtdfmapcnfficlaaGreatDoor

/-
  A look ends behind at most four states; a text is read to its end.
-/
import Derived.Test.YtdfmapcnfficlaaGreatDoorGood4
import Derived.Test.YtdfmapcnfficlaaGreatDoorCalls
set_option linter.unusedSimpArgs false
set_option linter.unusedVariables false
namespace Go.Proofs.YtdfmapcnfficlaaGreatDoor
open Go Go.RowKit
section
variable {w0 : World} {own0 : Nat → Prop} {b : Nat} {s : TS} {ex : List Item} {w : World} {R : Regs} {c : Int}

theorem sameHead.refl (s : TS) : sameHead s s := ⟨rfl, rfl, rfl, rfl, rfl, rfl⟩
theorem sameHead.trans {s t u : TS} (h : sameHead s t) (k : sameHead t u) : sameHead s u :=
  ⟨k.1.trans h.1, k.2.1.trans h.2.1, k.2.2.1.trans h.2.2.1, k.2.2.2.1.trans h.2.2.2.1, k.2.2.2.2.1.trans h.2.2.2.2.1, k.2.2.2.2.2.trans h.2.2.2.2.2⟩

theorem pre_of (B : Base w0 own0) (hc : Rn c) (g : Good s c) (h0 : 0 ≤ s.place) (h1 : s.place ≤ 1099511627776) (hs : sz s + 128 ≤ lim) : Pre w0 own0 s c :=
  ⟨hc, B, fun h => ⟨g.num h, g.come h, g.val h, h0, h1⟩, g.att, g.decl, h0, h1, hs⟩

theorem runs_of (hc : Rn c) : ∀ (n : Nat) (s : TS), Good s c → 0 ≤ s.place → s.place ≤ 1099511627776 → sz s + 128 * n ≤ lim → rank s.state c < n →
    ((Base w0 own0 → Runs w0 own0 n s c) ∧ sz (lookN n s c) ≤ sz s + 128 * n ∧ sameHead s (lookN n s c) ∧ (c ≠ -1 → ∀ c', Good (lookN n s c) c'))
  | 0, s, g, h0, h1, hs, hr => by omega
  | n + 1, s, g, h0, h1, hs, hr => by
    have hl := good_lookOnce g
    have hh := head_lookOnce (s := s) (c := c)
    have hz := sz_lookOnce g
    rw [lookN]
    rcases hl with ⟨e, hg⟩ | ⟨e, hg, hk⟩
    · rw [if_pos e]
      exact ⟨fun B => ⟨pre_of B hc g h0 h1 (by omega), g.st0, g.st1, .inl e⟩, by omega, hh, hg⟩
    · rw [if_neg (by rw [e]; decide)]
      have hp : (lookOnce s c).2.place = s.place := hh.2.2.2.2.2
      obtain ⟨i1, i2, i3, i4⟩ := runs_of hc n (lookOnce s c).2 hg (by omega) (by omega) (by omega) (by omega)
      exact ⟨fun B => ⟨pre_of B hc g h0 h1 (by omega), g.st0, g.st1, .inr ⟨e, i1 B⟩⟩, by omega, hh.trans i3, i4⟩

/-- Between code points. -/
def Fine (s : TS) : Prop := (∀ c, Good s c) ∧ 0 ≤ s.place

theorem Fine.head {s t : TS} (h : Fine s) (h1 : t.state = s.state) (h2 : t.base = s.base) (h3 : t.declared = s.declared) (h4 : t.rnum = s.rnum) (h5 : t.rcome = s.rcome) (h6 : t.rback = s.rback) (h7 : t.tag = s.tag) (h8 : t.place = s.place) : Fine t := by
  refine ⟨fun c => ?_, by rw [h8]; exact h.2⟩
  have g := h.1 c
  exact ⟨by rw [h1]; exact g.st0, by rw [h1]; exact g.st1, by rw [h2]; exact g.base, by rw [h3]; exact g.decl, by unfold NumOk; rw [h1, h4]; exact g.num, by rw [h1, h5]; exact g.come, by rw [h1, h6]; exact g.back, by rw [h1, h6, h7]; exact g.val, by rw [h1, h7]; exact g.att, by rw [h1, h7]; exact g.after, by rw [h1, h5]; exact g.hash⟩

theorem look4 (hf : Fine s) (hc : Rn c) (h1 : s.place ≤ 1099511627776) (hs : sz s + 512 ≤ lim) :
    (Base w0 own0 → May w0 own0 4 s c) ∧ sz (lookN 4 s c) ≤ sz s + 512 ∧ sameHead s (lookN 4 s c) ∧ (c ≠ -1 → Fine (lookN 4 s c)) := by
  obtain ⟨i1, i2, i3, i4⟩ := runs_of (w0 := w0) (own0 := own0) hc 4 s (hf.1 c) hf.2 h1 (by omega) (by have := rank_le s.state c; omega)
  have hp : (lookN 4 s c).place = s.place := i3.2.2.2.2.2
  exact ⟨fun B => ⟨i1 B, by rw [hp]; exact hf.2, by rw [hp]; exact h1⟩, by omega, i3, fun h => ⟨i4 h, by rw [hp]; exact hf.2⟩⟩

theorem firstPt_rn (x : Str) : 0 ≤ (firstPt x).1 ∧ (firstPt x).1 ≤ 1114111 := by
  unfold firstPt
  split
  · simp
  · split
    · simp
    · unfold Lib.decodeGo
      split
      · simp
      · have := Lib.rune_le ⟨x.toArray⟩ 0
        constructor
        · exact Int.natCast_nonneg _
        · omega

/-- One code point is passed on. -/
theorem pass_fine {c : Int} (hf : Fine s) (h0 : 0 ≤ c) (h2 : c ≤ 1114111) (h1 : s.place ≤ 1099511627776) (hs : sz s + 512 ≤ lim) :
    (¬ (c = 10 ∧ s.behind = true) → Base w0 own0 → May w0 own0 4 (setBehind s c) (if c = 13 then 10 else c)) ∧ sz (pass 4 s c) ≤ sz s + 512 ∧ Fine (pass 4 s c) ∧ (pass 4 s c).place ≤ s.place + 1 ∧ (pass 4 s c).begun = s.begun ∧ (pass 4 s c).bytes = s.bytes ∧ (pass 4 s c).limit = s.limit ∧ (pass 4 s c).closed = s.closed := by
  have hf' : Fine (setBehind s c) := hf.head rfl rfl rfl rfl rfl rfl rfl rfl
  have hz : sz (setBehind s c) = sz s := rfl
  have hp : (setBehind s c).place = s.place := rfl
  have key : ∀ d : Int, 0 ≤ d → d ≤ 1114111 → (Base w0 own0 → May w0 own0 4 (setBehind s c) d) ∧ sz (lookAtNext 4 (setBehind s c) d) ≤ sz s + 512 ∧ Fine (lookAtNext 4 (setBehind s c) d) ∧ (lookAtNext 4 (setBehind s c) d).place ≤ s.place + 1 ∧ (lookAtNext 4 (setBehind s c) d).begun = s.begun ∧ (lookAtNext 4 (setBehind s c) d).bytes = s.bytes ∧ (lookAtNext 4 (setBehind s c) d).limit = s.limit ∧ (lookAtNext 4 (setBehind s c) d).closed = s.closed := by
    intro d hd0 hd1
    obtain ⟨i1, i2, i3, i4⟩ := look4 (w0 := w0) (own0 := own0) hf' (c := d) ⟨by omega, hd1⟩ h1 (by omega)
    have i5 := i4 (by omega)
    have hp' : (lookN 4 (setBehind s c) d).place = s.place := i3.2.2.2.2.2
    refine ⟨i1, i2, ⟨fun c' => ?_, ?_⟩, ?_, i3.1, i3.2.2.2.1, i3.2.2.1, i3.2.2.2.2.1⟩
    · have g := i5.1 c'
      exact ⟨g.st0, g.st1, g.base, g.decl, g.num, g.come, g.back, g.val, g.att, g.after, g.hash⟩
    · show 0 ≤ (lookN 4 (setBehind s c) d).place + 1
      have := hf.2
      omega
    · show (lookN 4 (setBehind s c) d).place + 1 ≤ s.place + 1
      omega
  unfold pass
  by_cases h10 : c = 10 ∧ s.behind = true
  · rw [if_pos h10]
    exact ⟨fun h => absurd h10 h, by omega, hf', by omega, rfl, rfl, rfl, rfl⟩
  · rw [if_neg h10]
    by_cases h13 : c = 13
    · rw [if_pos h13, if_pos h13]
      have k := key 10 (by decide) (by decide)
      exact ⟨fun _ => k.1, k.2⟩
    · rw [if_neg h13, if_neg h13]
      have k := key c h0 h2
      exact ⟨fun _ => k.1, k.2⟩

theorem reads_of : ∀ (f : Nat) (s : TS) (r : Str), r.length ≤ f → Fine s → s.place + r.length ≤ 1099511627776 → sz s + 512 * r.length ≤ lim →
    (Base w0 own0 → Reads w0 own0 4 f s r) ∧ sz (readN 4 f s r).1 + 512 * (readN 4 f s r).2.length ≤ sz s + 512 * r.length ∧ Fine (readN 4 f s r).1 ∧ (readN 4 f s r).1.place + (readN 4 f s r).2.length ≤ s.place + r.length ∧ (readN 4 f s r).1.begun = s.begun ∧ (readN 4 f s r).1.bytes = s.bytes ∧ (readN 4 f s r).1.limit = s.limit ∧ (readN 4 f s r).1.closed = s.closed ∧ (readN 4 f s r).2.length ≤ r.length ∧ (firstPt (readN 4 f s r).2).2 = 0
  | 0, s, r, hl, hf, hp, hz => by
    have hr : r = [] := List.length_eq_zero_iff.1 (by omega)
    subst hr
    have h0 : (firstPt []).2 = 0 := by have := firstPt_le []; simpa using this
    rw [readN]
    exact ⟨fun _ => h0, Nat.le_refl _, hf, Int.le_refl _, rfl, rfl, rfl, rfl, Nat.le_refl _, h0⟩
  | f + 1, s, r, hl, hf, hp, hz => by
    rw [readN]
    by_cases h0 : (firstPt r).2 = 0
    · rw [if_pos h0]
      exact ⟨fun _ => .inl h0, Nat.le_refl _, hf, Int.le_refl _, rfl, rfl, rfl, rfl, Nat.le_refl _, h0⟩
    · rw [if_neg h0]
      have hle := firstPt_le r
      have hd : (r.drop (firstPt r).2).length = r.length - (firstPt r).2 := List.length_drop
      obtain ⟨c0, c1⟩ := firstPt_rn r
      obtain ⟨i1, i2, i3, i4, i5, i6, i7, i8⟩ := pass_fine (w0 := w0) (own0 := own0) hf c0 c1 (by omega) (by omega)
      obtain ⟨j1, j2, j3, j4, j5, j6, j7, j8, j9, j10⟩ := reads_of f (pass 4 s (firstPt r).1) (r.drop (firstPt r).2) (by omega) i3 (by omega) (by omega)
      exact ⟨fun B => .inr ⟨h0, fun h => i1 h B, j1 B⟩, by omega, j3, by omega, j5.trans i5, j6.trans i6, j7.trans i7, j8.trans i8, by omega, j10⟩
end
end Go.Proofs.YtdfmapcnfficlaaGreatDoor

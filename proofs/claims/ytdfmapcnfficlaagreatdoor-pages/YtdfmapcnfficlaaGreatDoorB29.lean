/-
  LESSNAME: another sign.
-/
import Derived.Test.YtdfmapcnfficlaaGreatDoorB27
import Derived.Test.YtdfmapcnfficlaaGreatDoorB28
set_option linter.unusedSimpArgs false
set_option linter.unusedVariables false
namespace Go.Proofs.YtdfmapcnfficlaaGreatDoor
open Go Go.RowKit
section
variable {w0 : World} {own0 : Nat → Prop} {b : Nat} {s : TS} {ex : List Item} {w : World} {R : Regs}

set_option maxHeartbeats 1000000 in
set_option maxRecDepth 1000000 in
theorem lessName_other (c : Int) (hc : Rn c) (hl : isLetterC c = false) (hb : isBlankC c = false) (e47 : (c == 47) = false) (e62 : (c == 62) = false) (h : Tk w0 own0 b s ex w) (hs : sz s + 12 ≤ lim) :
    Calls Tryz.prog 132 #[.pointer (some ⟨b, 0, none⟩), .int .i32 c] w fun e w' => e = .returned (.int .i64 1) ∧ Tk w0 own0 b (backToBase { s with tag := {} } ([60, 47] ++ s.tag.buffer)).2 ex w' := by
  have HS := hide hs
  clear hs
  obtain ⟨R, hR⟩ := h.reg
  have H0 := hide hR
  have c1 : w.cell? ⟨b, 10, none⟩ = some (.slice R.tname.a s.tag.name.length R.tname.cap) := hR.1.cell 10
  have t1 : w.cell? ⟨b, 11, none⟩ = some (.slice R.buffer.a s.tag.buffer.length R.buffer.cap) := hR.1.cell 11
  have t0 : w.cell? ⟨b, 9, none⟩ = some (.int .i64 s.tag.kind) := hR.1.cell 9
  have t3 : w.cell? ⟨b, 12, none⟩ = some (.slice R.atts.a s.tag.atts.length R.atts.cap) := hR.1.cell 12
  have t4 : w.cell? ⟨b, 13, none⟩ = some (.map R.names) := hR.1.cell 13
  have t5 : w.cell? ⟨b, 14, none⟩ = some (.bool s.tag.closes) := hR.1.cell 14
  have hf := hR.1.frozen
  have hbl : s.tag.buffer.length ≤ 1099511627776 := by have := unhide HS; unfold sz lim at this; omega
  have hcv2 : ∀ q, (convert 74 9 (.slice R.buffer.a s.tag.buffer.length R.buffer.cap)).run Tryz.prog (w.drewN q) = .ok (.string ⟨s.tag.buffer.toArray⟩) (w.drewN q) := fun q => conv_row (w := w.drewN q) (r := R.buffer) (l := s.tag.buffer) (ok_drewN q (hR.1.rows.ok (bItem R.buffer s.tag.buffer) (by simp [itemsOf])))
  have HB := hide (fun w => isBlank_does c w)
  rw [hb] at HB
  clear hb
  clear h hR
  go_enter Tryz.func132, Tryz.ntmps132
  go_wp2_with fail
  refine (isLetter_does c _ hc).mono ?_
  rintro e w1 ⟨rfl, rfl⟩
  rw [hl]
  go_wp2_with fail
  clear hl
  refine wp_region_quiet_lit (by kernel_rfl) (by kernel_rfl) (WpQ.out ?_)
  iterate 11
    refine WpQ.step (fun K hK => ?_)
    go_simp
    first
      | (refine hK _ ?_; clear hK K)
      | (apply Exists.intro
         refine ⟨fun _ => ?_, hK _ ?_⟩
         (go_at_call 195; exact Calls.quiet_of_same (unhide HB _))
         clear hK K)
  iterate 11 refine WpQ.skip (by kernel_rfl) ?_
  iterate 2
    refine WpQ.step (fun K hK => ?_)
    go_simp
    refine hK _ ?_
    clear hK K
  refine ⟨wpQuiet_nil ?_⟩
  intro _ hw'
  obtain ⟨nq, hw''⟩ := hw'
  subst hw''
  have h3 := tk_newTag (tkR_drewN nq (unhide H0)) 0
  unfold zeroTagK at h3
  go_wp2_with fail
  refine (backToBase_does ([60, 47] ++ s.tag.buffer) h3 (by have := unhide HS; unfold sz at *; simp [attsz]; omega)).mono ?_
  rintro e w3 ⟨rfl, h4⟩
  go_wp2
  go_ret
  exact ⟨rfl, h4⟩

theorem lookInLessName_does (c : Int) (hc : Rn c) (h : Tk w0 own0 b s ex w) (hs : sz s + 12 ≤ lim) :
    Calls Tryz.prog 132 #[.pointer (some ⟨b, 0, none⟩), .int .i32 c] w fun e w' => e = .returned (.int .i64 (lookInLessName s c).1) ∧ Tk w0 own0 b (lookInLessName s c).2 ex w' := by
  unfold lookInLessName
  cases hl : isLetterC c
  · rw [if_neg (by decide)]
    by_cases heq : s.tag.name = s.lastStart
    · cases hb : isBlankC c
      · by_cases h47 : c = 47
        · subst h47
          rw [if_pos ⟨by simp, heq⟩]
          exact lessName_slash_eq heq h hs
        · by_cases h62 : c = 62
          · subst h62
            rw [if_pos ⟨by simp, heq⟩]
            exact lessName_gt_eq heq h hs
          · rw [if_neg (by simp [h47, h62])]
            exact lessName_other c hc hl hb (beq_eq_false_iff_ne.2 h47) (beq_eq_false_iff_ne.2 h62) h hs
      · rw [if_pos ⟨by simp, heq⟩]
        exact lessName_blank_eq c hc hl hb heq h hs
    · rw [if_neg (fun hh => heq hh.2)]
      cases hb : isBlankC c
      · by_cases h47 : c = 47
        · subst h47
          exact lessName_slash_ne heq h hs
        · by_cases h62 : c = 62
          · subst h62
            exact lessName_gt_ne heq h hs
          · exact lessName_other c hc hl hb (beq_eq_false_iff_ne.2 h47) (beq_eq_false_iff_ne.2 h62) h hs
      · exact lessName_blank_ne c hc hl hb heq h hs
  · rw [if_pos rfl]
    exact lessName_letter c hc hl h hs
end
end Go.Proofs.YtdfmapcnfficlaaGreatDoor

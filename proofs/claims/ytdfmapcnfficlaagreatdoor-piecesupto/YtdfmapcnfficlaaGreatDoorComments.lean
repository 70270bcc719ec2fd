/-
  Comments.
-/
import Derived.Test.YtdfmapcnfficlaaGreatDoorSmall
import Derived.Deep.RegionWith
namespace Go.Proofs.YtdfmapcnfficlaaGreatDoor
open Go Go.RowKit
section
variable {w0 : World} {own0 : Nat → Prop} {b : Nat} {s : TS} {ex : List Item} {w : World}

theorem strCells_bytes (l : Str) : Lib.strCells ⟨l.toArray⟩ = byteCells l := by simp [Lib.strCells, byteCells]
theorem lim_str {n m : Nat} (h : n + m ≤ lim) : n + m ≤ maxLen ∧ n + m ≤ 140737488355328 := by unfold lim at h; unfold maxLen; omega
theorem size_str (l : Str) : (⟨l.toArray⟩ : ByteArray).size = l.length := by simp [ByteArray.size]

def addToComment (s : TS) (l : Str) : TS := { s with comment := s.comment ++ l }

set_option maxHeartbeats 800000 in
set_option maxRecDepth 1000000 in
theorem addToComment_does (l : Str) (h : Tk w0 own0 b s ex w) (hs : s.comment.length + l.length ≤ lim) :
    Calls Tryz.prog 205 #[.pointer (some ⟨b, 0, none⟩), .string ⟨l.toArray⟩] w fun e w' => e = .returned (.tuple #[]) ∧ Tk w0 own0 b (addToComment s l) ex w' := by
  obtain ⟨R, hR, hk⟩ := h.reg
  have c1 : w.cell? ⟨b, 17, none⟩ = some (.slice R.comment.a s.comment.length R.comment.cap) := hR.cell 17
  have hf := hR.frozen
  obtain ⟨i0, hi, hz0, hz1, hz2⟩ := info_parts Tryz.infoByte
  have HS := hide (lim_str hs)
  clear hs
  go_enter Tryz.func205, Tryz.ntmps205
  go_wp2_with (at_builtin; refine wpList_append_mine_str _ rfl _ _ 74 9 rfl 5 i0 Tryz.underlying74 Tryz.underlying9 hi hz0 hz1 hz2 R.comment.a s.comment.length R.comment.cap (byteCells s.comment) rfl (by exact hR.rows.ok (bItem R.comment s.comment) (by simp [itemsOf])) ⟨l.toArray⟩ rfl (by rw [size_str]; exact (unhide HS).1) (by rw [size_str]; exact (unhide HS).2) ?next)
  case next =>
    intro ao' cap' w' hown hgrow hfresh
    rw [strCells_bytes] at hown
    obtain ⟨hself, hT⟩ := hR.comment_grow hk (More.refl w) (s.comment ++ l) ⟨ao', cap'⟩ (by simpa [Item.ok, bItem, byteCells] using hown) hgrow hfresh
    have d1 := cell_of_self hself 17
    have df := frozen_of_self hself
    simp only [List.length_append] at hT
    simp only [cellsOf] at d1
    go_wp2
    go_end0
    exact ⟨rfl, hT⟩

def tellComment (s : TS) : TS := { tell s { kind := 3, text := s.comment } with comment := [] }
def endComment (s : TS) : TS := { tellComment s with state := 0 }
def cutComment (s : TS) : TS := tellComment (wrong s [101, 110, 100, 45, 105, 110, 45, 99, 111, 109, 109, 101, 110, 116])

set_option maxHeartbeats 800000 in
set_option maxRecDepth 1000000 in
theorem tellComment_does (h : Tk w0 own0 b s ex w) (hs : sz s + 2 ≤ lim) :
    Calls Tryz.prog 207 #[.pointer (some ⟨b, 0, none⟩)] w fun e w' => e = .returned (.tuple #[]) ∧ Tk w0 own0 b (tellComment s) ex w' := by
  obtain ⟨R, hR, hk⟩ := h.reg
  have c1 : w.cell? ⟨b, 17, none⟩ = some (.slice R.comment.a s.comment.length R.comment.cap) := hR.cell 17
  have hf := hR.frozen
  have hcv := conv_row (r := R.comment) (l := s.comment) (hR.rows.ok (bItem R.comment s.comment) (by simp [itemsOf]))
  have HC := hide (tell_does (ex := ex) { kind := 3, text := s.comment } ⟨none, 0⟩ (TkR.tk ⟨hR.bare, hk⟩) (by unfold sz at hs; omega))
  simp only [tokCells] at HC
  clear hs
  go_enter Tryz.func207, Tryz.ntmps207
  go_wp2_with (go_at_call 37; refine (unhide HC).mono ?_; rintro e w' ⟨rfl, h1⟩; obtain ⟨R1, hR1⟩ := h1.reg; have d1 := hR1.1.cell 17; have df := hR1.1.frozen; simp only [cellsOf] at d1)
  go_end0
  exact ⟨rfl, tk_drop_comment h1⟩
end
end Go.Proofs.YtdfmapcnfficlaaGreatDoor

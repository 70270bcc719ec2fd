/-
  Beginnings of texts.
-/
import Derived.Test.YtdfmapcnfficlaaGreatDoorRefs4
set_option linter.unusedSimpArgs false
set_option linter.unusedVariables false
namespace Go.Proofs.YtdfmapcnfficlaaGreatDoor
open Go Go.RowKit

def hasPre (x p : Str) : Bool := p.isPrefixOf x
theorem extract_list (x : Str) (n : Nat) : (⟨x.toArray⟩ : ByteArray).extract 0 n = ⟨(x.take n).toArray⟩ := by
  apply ByteArray.ext
  simp
theorem hasPre_iff (x p : Str) : hasPre x p = (decide (p.length ≤ x.length) && decide (x.take p.length = p)) := by
  unfold hasPre
  rw [Bool.eq_iff_iff]
  simp only [List.isPrefixOf_iff_prefix, Bool.and_eq_true, decide_eq_true_eq]
  constructor
  · intro h
    exact ⟨h.length_le, (List.prefix_iff_eq_take.1 h).symm⟩
  · rintro ⟨_, h2⟩
    rw [← h2]
    exact List.take_prefix _ _
set_option maxHeartbeats 800000 in
set_option maxRecDepth 1000000 in
theorem liteHasPrefix_does (x p : Str) (w : World) (hx : x.length ≤ lim) (hp : p.length ≤ lim) : Calls Tryz.prog 258 #[.string ⟨x.toArray⟩, .string ⟨p.toArray⟩] w fun e w' => e = .returned (.bool (hasPre x p)) ∧ w' = w := by
  have h1 : (⟨x.toArray⟩ : ByteArray).size = x.length := by simp [ByteArray.size]
  have h2 : (⟨p.toArray⟩ : ByteArray).size = p.length := by simp [ByteArray.size]
  unfold lim at hx hp
  rw [hasPre_iff]
  by_cases hl : p.length ≤ x.length
  · have hsl : ∀ W, (Instr.slice 9 (.string ⟨x.toArray⟩) none (some (.int .i64 (p.length : Int))) none).run Tryz.prog W = .ok (.string ⟨(x.take p.length).toArray⟩) W := fun W => by
      rw [run_slice_string_to_if W 9 ⟨x.toArray⟩ .i64 p.length Tryz.underlying9, if_pos ⟨by omega, by omega⟩, Int.toNat_natCast, extract_list]
    go_enter Tryz.func258, Tryz.ntmps258
    go_wp2
    go_ret
    exact ⟨ret_bool (by rw [decide_eq_true hl, Bool.true_and, Bool.eq_iff_iff]; simp), rfl⟩
  · have hl' : x.length < p.length := by omega
    go_enter Tryz.func258, Tryz.ntmps258
    go_wp2
    go_ret
    exact ⟨ret_bool (by simp [hl]), rfl⟩

set_option maxHeartbeats 800000 in
set_option maxRecDepth 1000000 in
theorem hasPrefix_does (x p : Str) (w : World) (hx : x.length ≤ lim) (hp : p.length ≤ lim) : Calls Tryz.prog 249 #[.string ⟨x.toArray⟩, .string ⟨p.toArray⟩] w fun e w' => e = .returned (.bool (hasPre x p)) ∧ w' = w := by
  have H := hide (liteHasPrefix_does x p w hx hp)
  clear hx hp
  go_enter Tryz.func249, Tryz.ntmps249
  go_wp2_with (go_at_call 258; refine (unhide H).mono ?_; rintro e w1 ⟨rfl, rfl⟩)
  go_ret
  exact ⟨rfl, rfl⟩

/-- The one is the beginning of the other, and not all of it. -/
def partOf (x y : Str) : Bool := !(x == y) && hasPre y x

set_option maxHeartbeats 800000 in
set_option maxRecDepth 1000000 in
theorem isPartOf_does (x y : Str) (w : World) (hx : x.length ≤ lim) (hy : y.length ≤ lim) : Calls Tryz.prog 241 #[.string ⟨x.toArray⟩, .string ⟨y.toArray⟩] w fun e w' => e = .returned (.bool (partOf x y)) ∧ w' = w := by
  have H := hide (hasPrefix_does y x w hy hx)
  clear hx hy
  unfold partOf
  cases hxy : x == y
  · go_enter Tryz.func241, Tryz.ntmps241
    go_wp2_with (go_at_call 249; refine (unhide H).mono ?_; rintro e w1 ⟨rfl, rfl⟩)
    go_ret
    exact ⟨rfl, rfl⟩
  · go_enter Tryz.func241, Tryz.ntmps241
    go_wp2
    go_ret
    exact ⟨rfl, rfl⟩
end Go.Proofs.YtdfmapcnfficlaaGreatDoor

/-
  utf8.FullRuneInString.
-/
import Derived.Test.YtdfmapcnfficlaaGreatDoorB25
import Derived.Test.YtdfmapcnfficlaaGreatDoorB28
set_option linter.unusedSimpArgs false
set_option linter.unusedVariables false
namespace Go.Proofs.YtdfmapcnfficlaaGreatDoor
open Go Go.RowKit

def outR (lo hi : Nat) (x : UInt8) : Bool := decide (x.toNat < lo ∨ hi < x.toNat)
/-- Is what the text begins with a whole code point, or broken? -/
def fullR : Str → Bool
  | [] => false
  | b0 :: r =>
    if Lib.firstT b0.toNat % 8 ≤ r.length + 1 then true
    else match r with
      | [] => false
      | b1 :: r => if outR (Lib.accLo (Lib.firstT b0.toNat / 16)) (Lib.accHi (Lib.firstT b0.toNat / 16)) b1 = true then true
        else match r with
          | [] => false
          | b2 :: _ => outR 128 191 b2

set_option maxHeartbeats 1600000 in
set_option maxRecDepth 1000000 in
theorem full_nil (w : World) : Calls Tryz.prog 85 #[.string ⟨#[]⟩] w fun e w' => e = .returned (.bool false) ∧ More w w' := by
  go_enter Tryz.func85, Tryz.ntmps85
  go_wp2
  go_ret
  exact ⟨rfl, More.refl _⟩

theorem isEmpty_of (s : ByteArray) : s.toList.isEmpty = decide (s.size = 0) := by
  rw [Lib.toList_data]
  cases h : s.data.toList with
  | nil =>
    have : s.size = 0 := by rw [Lib.size_eq, h]; rfl
    simp [this]
  | cons a r =>
    have : s.size ≠ 0 := by rw [Lib.size_eq, h]; simp
    simp [this]

set_option maxHeartbeats 1600000 in
set_option maxRecDepth 1000000 in
/-- The first byte tells that all is there. -/
theorem full_enough (s : ByteArray) (w : World) (hz : 0 < s.size) (hT : Lib.Utf8Tabs 2 3 w) (hk : Lib.firstT (s[0]'hz).toNat % 8 ≤ s.size) :
    Calls Tryz.prog 85 #[.string s] w fun e w' => e = .returned (.bool true) ∧ More w w' := by
  have h0 := hT.1 (s[0]'hz).toNat (UInt8.toNat_lt _)
  have hx := Lib.firstT_cases (s[0]'hz).toNat
  generalize hx0 : s[0]'hz = x0 at *
  have hne : s.toList.isEmpty = false := by rw [isEmpty_of]; exact decide_eq_false (by omega)
  clear hT
  generalize Lib.firstT x0.toNat = x at *
  have hz0 : (0 : Int) < (s.size : Int) := by omega
  have h256 : (x0.toNat : Int) < 256 := by have := UInt8.toNat_lt x0; omega
  rcases hx with rfl | rfl | rfl | rfl | rfl | rfl | rfl | rfl | rfl
  all_goals
    simp only [Nat.reduceMod] at hk
    have hk' := Int.ofNat_le.2 hk
    go_enter Tryz.func85, Tryz.ntmps85
    go_wp2
    go_ret
    exact ⟨rfl, by repeat (first | exact More.refl _ | refine More.alloc ?_ _ | refine More.drew ?_)⟩

theorem outR_eq (lo hi : Nat) (x : UInt8) : outR lo hi x = (decide ((x.toNat : Int) < lo) || decide ((hi : Int) < x.toNat)) := by
  unfold outR
  rw [Bool.eq_iff_iff]
  simp only [Bool.or_eq_true, decide_eq_true_eq]
  omega

-- LESS
theorem more_alloc_drewN (w : World) (o : Obj) (q : Nat) : More w ((w.alloc o).drewN q) := (fun (h : More w (w.alloc o)) => ⟨h.os, h.tape, h.output, h.size, h.block⟩) ((More.refl w).alloc o)

set_option maxHeartbeats 1600000 in
set_option maxRecDepth 1000000 in
theorem full1_2 (s : ByteArray) (w : World) (hz : s.size = 1) (x0 : UInt8) (hs0 : s[0]'(by omega) = x0) (hx : Lib.firstT x0.toNat = 2) (hT : Lib.Utf8Tabs 2 3 w) :
    Calls Tryz.prog 85 #[.string s] w fun e w' => e = .returned (.bool false) ∧ More w w' := by
  have h0 := hT.1 x0.toNat (UInt8.toNat_lt _)
  rw [hx] at h0
  have hne : s.toList.isEmpty = false := by rw [isEmpty_of]; exact decide_eq_false (by omega)
  have a0 : w.cell? ⟨3, 0, none⟩ = some (.int .u8 128) := (hT.2 0 (by decide)).1
  have a1 : w.cell? ⟨3, 1, none⟩ = some (.int .u8 191) := (hT.2 0 (by decide)).2
  have h256 : (x0.toNat : Int) < 256 := by have := UInt8.toNat_lt x0; omega
  clear hT hx
  go_enter Tryz.func85, Tryz.ntmps85
  go_wp2
  refine wp_region_quiet_lit (by kernel_rfl) (by kernel_rfl) (WpQ.out ?_)
  iterate 3 (refine WpQ.step (fun K hK => ?_); go_simp; refine hK _ ?_; clear hK K)
  iterate 12 refine WpQ.skip (by kernel_rfl) ?_
  iterate 1 (refine WpQ.step (fun K hK => ?_); go_simp; refine hK _ ?_; clear hK K)
  refine ⟨wpQuiet_nil ?_⟩
  intro _ hw
  obtain ⟨nq, hw2⟩ := hw
  subst hw2
  go_wp2
  go_ret
  exact ⟨rfl, by repeat (first | exact More.refl _ | exact more_alloc_drewN _ _ _ | refine More.alloc ?_ _ | refine More.drew ?_)⟩

set_option maxHeartbeats 1600000 in
set_option maxRecDepth 1000000 in
theorem full1_19 (s : ByteArray) (w : World) (hz : s.size = 1) (x0 : UInt8) (hs0 : s[0]'(by omega) = x0) (hx : Lib.firstT x0.toNat = 19) (hT : Lib.Utf8Tabs 2 3 w) :
    Calls Tryz.prog 85 #[.string s] w fun e w' => e = .returned (.bool false) ∧ More w w' := by
  have h0 := hT.1 x0.toNat (UInt8.toNat_lt _)
  rw [hx] at h0
  have hne : s.toList.isEmpty = false := by rw [isEmpty_of]; exact decide_eq_false (by omega)
  have a0 : w.cell? ⟨3, 2, none⟩ = some (.int .u8 160) := (hT.2 1 (by decide)).1
  have a1 : w.cell? ⟨3, 3, none⟩ = some (.int .u8 191) := (hT.2 1 (by decide)).2
  have h256 : (x0.toNat : Int) < 256 := by have := UInt8.toNat_lt x0; omega
  clear hT hx
  go_enter Tryz.func85, Tryz.ntmps85
  go_wp2
  refine wp_region_quiet_lit (by kernel_rfl) (by kernel_rfl) (WpQ.out ?_)
  iterate 3 (refine WpQ.step (fun K hK => ?_); go_simp; refine hK _ ?_; clear hK K)
  iterate 12 refine WpQ.skip (by kernel_rfl) ?_
  iterate 1 (refine WpQ.step (fun K hK => ?_); go_simp; refine hK _ ?_; clear hK K)
  refine ⟨wpQuiet_nil ?_⟩
  intro _ hw
  obtain ⟨nq, hw2⟩ := hw
  subst hw2
  go_wp2
  go_ret
  exact ⟨rfl, by repeat (first | exact More.refl _ | exact more_alloc_drewN _ _ _ | refine More.alloc ?_ _ | refine More.drew ?_)⟩

set_option maxHeartbeats 1600000 in
set_option maxRecDepth 1000000 in
theorem full2_19_low (s : ByteArray) (w : World) (hz : s.size = 2) (x0 : UInt8) (x1 : UInt8) (hs0 : s[0]'(by omega) = x0) (hs1 : s[1]'(by omega) = x1) (hx : Lib.firstT x0.toNat = 19) (hT : Lib.Utf8Tabs 2 3 w) (h1 : (x1.toNat : Int) < 160) :
    Calls Tryz.prog 85 #[.string s] w fun e w' => e = .returned (.bool true) ∧ More w w' := by
  have h0 := hT.1 x0.toNat (UInt8.toNat_lt _)
  rw [hx] at h0
  have hne : s.toList.isEmpty = false := by rw [isEmpty_of]; exact decide_eq_false (by omega)
  have a0 : w.cell? ⟨3, 2, none⟩ = some (.int .u8 160) := (hT.2 1 (by decide)).1
  have a1 : w.cell? ⟨3, 3, none⟩ = some (.int .u8 191) := (hT.2 1 (by decide)).2
  have h256 : (x0.toNat : Int) < 256 := by have := UInt8.toNat_lt x0; omega
  clear hT hx
  go_enter Tryz.func85, Tryz.ntmps85
  go_wp2
  refine wp_region_quiet_lit (by kernel_rfl) (by kernel_rfl) (WpQ.out ?_)
  iterate 9 (refine WpQ.step (fun K hK => ?_); go_simp; refine hK _ ?_; clear hK K)
  iterate 5 refine WpQ.skip (by kernel_rfl) ?_
  iterate 2 (refine WpQ.step (fun K hK => ?_); go_simp; refine hK _ ?_; clear hK K)
  refine ⟨wpQuiet_nil ?_⟩
  intro _ hw
  obtain ⟨nq, hw2⟩ := hw
  subst hw2
  go_wp2
  go_ret
  exact ⟨rfl, by repeat (first | exact More.refl _ | exact more_alloc_drewN _ _ _ | refine More.alloc ?_ _ | refine More.drew ?_)⟩

set_option maxHeartbeats 1600000 in
set_option maxRecDepth 1000000 in
theorem full2_19_high (s : ByteArray) (w : World) (hz : s.size = 2) (x0 : UInt8) (x1 : UInt8) (hs0 : s[0]'(by omega) = x0) (hs1 : s[1]'(by omega) = x1) (hx : Lib.firstT x0.toNat = 19) (hT : Lib.Utf8Tabs 2 3 w) (h1 : (160 : Int) ≤ x1.toNat) (h2 : (191 : Int) < x1.toNat) :
    Calls Tryz.prog 85 #[.string s] w fun e w' => e = .returned (.bool true) ∧ More w w' := by
  have h0 := hT.1 x0.toNat (UInt8.toNat_lt _)
  rw [hx] at h0
  have hne : s.toList.isEmpty = false := by rw [isEmpty_of]; exact decide_eq_false (by omega)
  have a0 : w.cell? ⟨3, 2, none⟩ = some (.int .u8 160) := (hT.2 1 (by decide)).1
  have a1 : w.cell? ⟨3, 3, none⟩ = some (.int .u8 191) := (hT.2 1 (by decide)).2
  have h256 : (x0.toNat : Int) < 256 := by have := UInt8.toNat_lt x0; omega
  clear hT hx
  go_enter Tryz.func85, Tryz.ntmps85
  go_wp2
  refine wp_region_quiet_lit (by kernel_rfl) (by kernel_rfl) (WpQ.out ?_)
  iterate 16 (refine WpQ.step (fun K hK => ?_); go_simp; refine hK _ ?_; clear hK K)
  refine ⟨wpQuiet_nil ?_⟩
  intro _ hw
  obtain ⟨nq, hw2⟩ := hw
  subst hw2
  go_wp2
  go_ret
  exact ⟨rfl, by repeat (first | exact More.refl _ | exact more_alloc_drewN _ _ _ | refine More.alloc ?_ _ | refine More.drew ?_)⟩

set_option maxHeartbeats 1600000 in
set_option maxRecDepth 1000000 in
theorem full2_19_in (s : ByteArray) (w : World) (hz : s.size = 2) (x0 : UInt8) (x1 : UInt8) (hs0 : s[0]'(by omega) = x0) (hs1 : s[1]'(by omega) = x1) (hx : Lib.firstT x0.toNat = 19) (hT : Lib.Utf8Tabs 2 3 w) (h1 : (160 : Int) ≤ x1.toNat) (h2 : (x1.toNat : Int) ≤ 191) :
    Calls Tryz.prog 85 #[.string s] w fun e w' => e = .returned (.bool false) ∧ More w w' := by
  have h0 := hT.1 x0.toNat (UInt8.toNat_lt _)
  rw [hx] at h0
  have hne : s.toList.isEmpty = false := by rw [isEmpty_of]; exact decide_eq_false (by omega)
  have a0 : w.cell? ⟨3, 2, none⟩ = some (.int .u8 160) := (hT.2 1 (by decide)).1
  have a1 : w.cell? ⟨3, 3, none⟩ = some (.int .u8 191) := (hT.2 1 (by decide)).2
  have h256 : (x0.toNat : Int) < 256 := by have := UInt8.toNat_lt x0; omega
  clear hT hx
  go_enter Tryz.func85, Tryz.ntmps85
  go_wp2
  refine wp_region_quiet_lit (by kernel_rfl) (by kernel_rfl) (WpQ.out ?_)
  iterate 16 (refine WpQ.step (fun K hK => ?_); go_simp; refine hK _ ?_; clear hK K)
  refine ⟨wpQuiet_nil ?_⟩
  intro _ hw
  obtain ⟨nq, hw2⟩ := hw
  subst hw2
  go_wp2
  go_ret
  exact ⟨rfl, by repeat (first | exact More.refl _ | exact more_alloc_drewN _ _ _ | refine More.alloc ?_ _ | refine More.drew ?_)⟩

set_option maxHeartbeats 1600000 in
set_option maxRecDepth 1000000 in
theorem full1_3 (s : ByteArray) (w : World) (hz : s.size = 1) (x0 : UInt8) (hs0 : s[0]'(by omega) = x0) (hx : Lib.firstT x0.toNat = 3) (hT : Lib.Utf8Tabs 2 3 w) :
    Calls Tryz.prog 85 #[.string s] w fun e w' => e = .returned (.bool false) ∧ More w w' := by
  have h0 := hT.1 x0.toNat (UInt8.toNat_lt _)
  rw [hx] at h0
  have hne : s.toList.isEmpty = false := by rw [isEmpty_of]; exact decide_eq_false (by omega)
  have a0 : w.cell? ⟨3, 0, none⟩ = some (.int .u8 128) := (hT.2 0 (by decide)).1
  have a1 : w.cell? ⟨3, 1, none⟩ = some (.int .u8 191) := (hT.2 0 (by decide)).2
  have h256 : (x0.toNat : Int) < 256 := by have := UInt8.toNat_lt x0; omega
  clear hT hx
  go_enter Tryz.func85, Tryz.ntmps85
  go_wp2
  refine wp_region_quiet_lit (by kernel_rfl) (by kernel_rfl) (WpQ.out ?_)
  iterate 3 (refine WpQ.step (fun K hK => ?_); go_simp; refine hK _ ?_; clear hK K)
  iterate 12 refine WpQ.skip (by kernel_rfl) ?_
  iterate 1 (refine WpQ.step (fun K hK => ?_); go_simp; refine hK _ ?_; clear hK K)
  refine ⟨wpQuiet_nil ?_⟩
  intro _ hw
  obtain ⟨nq, hw2⟩ := hw
  subst hw2
  go_wp2
  go_ret
  exact ⟨rfl, by repeat (first | exact More.refl _ | exact more_alloc_drewN _ _ _ | refine More.alloc ?_ _ | refine More.drew ?_)⟩

set_option maxHeartbeats 1600000 in
set_option maxRecDepth 1000000 in
theorem full2_3_low (s : ByteArray) (w : World) (hz : s.size = 2) (x0 : UInt8) (x1 : UInt8) (hs0 : s[0]'(by omega) = x0) (hs1 : s[1]'(by omega) = x1) (hx : Lib.firstT x0.toNat = 3) (hT : Lib.Utf8Tabs 2 3 w) (h1 : (x1.toNat : Int) < 128) :
    Calls Tryz.prog 85 #[.string s] w fun e w' => e = .returned (.bool true) ∧ More w w' := by
  have h0 := hT.1 x0.toNat (UInt8.toNat_lt _)
  rw [hx] at h0
  have hne : s.toList.isEmpty = false := by rw [isEmpty_of]; exact decide_eq_false (by omega)
  have a0 : w.cell? ⟨3, 0, none⟩ = some (.int .u8 128) := (hT.2 0 (by decide)).1
  have a1 : w.cell? ⟨3, 1, none⟩ = some (.int .u8 191) := (hT.2 0 (by decide)).2
  have h256 : (x0.toNat : Int) < 256 := by have := UInt8.toNat_lt x0; omega
  clear hT hx
  go_enter Tryz.func85, Tryz.ntmps85
  go_wp2
  refine wp_region_quiet_lit (by kernel_rfl) (by kernel_rfl) (WpQ.out ?_)
  iterate 9 (refine WpQ.step (fun K hK => ?_); go_simp; refine hK _ ?_; clear hK K)
  iterate 5 refine WpQ.skip (by kernel_rfl) ?_
  iterate 2 (refine WpQ.step (fun K hK => ?_); go_simp; refine hK _ ?_; clear hK K)
  refine ⟨wpQuiet_nil ?_⟩
  intro _ hw
  obtain ⟨nq, hw2⟩ := hw
  subst hw2
  go_wp2
  go_ret
  exact ⟨rfl, by repeat (first | exact More.refl _ | exact more_alloc_drewN _ _ _ | refine More.alloc ?_ _ | refine More.drew ?_)⟩

set_option maxHeartbeats 1600000 in
set_option maxRecDepth 1000000 in
theorem full2_3_high (s : ByteArray) (w : World) (hz : s.size = 2) (x0 : UInt8) (x1 : UInt8) (hs0 : s[0]'(by omega) = x0) (hs1 : s[1]'(by omega) = x1) (hx : Lib.firstT x0.toNat = 3) (hT : Lib.Utf8Tabs 2 3 w) (h1 : (128 : Int) ≤ x1.toNat) (h2 : (191 : Int) < x1.toNat) :
    Calls Tryz.prog 85 #[.string s] w fun e w' => e = .returned (.bool true) ∧ More w w' := by
  have h0 := hT.1 x0.toNat (UInt8.toNat_lt _)
  rw [hx] at h0
  have hne : s.toList.isEmpty = false := by rw [isEmpty_of]; exact decide_eq_false (by omega)
  have a0 : w.cell? ⟨3, 0, none⟩ = some (.int .u8 128) := (hT.2 0 (by decide)).1
  have a1 : w.cell? ⟨3, 1, none⟩ = some (.int .u8 191) := (hT.2 0 (by decide)).2
  have h256 : (x0.toNat : Int) < 256 := by have := UInt8.toNat_lt x0; omega
  clear hT hx
  go_enter Tryz.func85, Tryz.ntmps85
  go_wp2
  refine wp_region_quiet_lit (by kernel_rfl) (by kernel_rfl) (WpQ.out ?_)
  iterate 16 (refine WpQ.step (fun K hK => ?_); go_simp; refine hK _ ?_; clear hK K)
  refine ⟨wpQuiet_nil ?_⟩
  intro _ hw
  obtain ⟨nq, hw2⟩ := hw
  subst hw2
  go_wp2
  go_ret
  exact ⟨rfl, by repeat (first | exact More.refl _ | exact more_alloc_drewN _ _ _ | refine More.alloc ?_ _ | refine More.drew ?_)⟩

set_option maxHeartbeats 1600000 in
set_option maxRecDepth 1000000 in
theorem full2_3_in (s : ByteArray) (w : World) (hz : s.size = 2) (x0 : UInt8) (x1 : UInt8) (hs0 : s[0]'(by omega) = x0) (hs1 : s[1]'(by omega) = x1) (hx : Lib.firstT x0.toNat = 3) (hT : Lib.Utf8Tabs 2 3 w) (h1 : (128 : Int) ≤ x1.toNat) (h2 : (x1.toNat : Int) ≤ 191) :
    Calls Tryz.prog 85 #[.string s] w fun e w' => e = .returned (.bool false) ∧ More w w' := by
  have h0 := hT.1 x0.toNat (UInt8.toNat_lt _)
  rw [hx] at h0
  have hne : s.toList.isEmpty = false := by rw [isEmpty_of]; exact decide_eq_false (by omega)
  have a0 : w.cell? ⟨3, 0, none⟩ = some (.int .u8 128) := (hT.2 0 (by decide)).1
  have a1 : w.cell? ⟨3, 1, none⟩ = some (.int .u8 191) := (hT.2 0 (by decide)).2
  have h256 : (x0.toNat : Int) < 256 := by have := UInt8.toNat_lt x0; omega
  clear hT hx
  go_enter Tryz.func85, Tryz.ntmps85
  go_wp2
  refine wp_region_quiet_lit (by kernel_rfl) (by kernel_rfl) (WpQ.out ?_)
  iterate 16 (refine WpQ.step (fun K hK => ?_); go_simp; refine hK _ ?_; clear hK K)
  refine ⟨wpQuiet_nil ?_⟩
  intro _ hw
  obtain ⟨nq, hw2⟩ := hw
  subst hw2
  go_wp2
  go_ret
  exact ⟨rfl, by repeat (first | exact More.refl _ | exact more_alloc_drewN _ _ _ | refine More.alloc ?_ _ | refine More.drew ?_)⟩

set_option maxHeartbeats 1600000 in
set_option maxRecDepth 1000000 in
theorem full1_35 (s : ByteArray) (w : World) (hz : s.size = 1) (x0 : UInt8) (hs0 : s[0]'(by omega) = x0) (hx : Lib.firstT x0.toNat = 35) (hT : Lib.Utf8Tabs 2 3 w) :
    Calls Tryz.prog 85 #[.string s] w fun e w' => e = .returned (.bool false) ∧ More w w' := by
  have h0 := hT.1 x0.toNat (UInt8.toNat_lt _)
  rw [hx] at h0
  have hne : s.toList.isEmpty = false := by rw [isEmpty_of]; exact decide_eq_false (by omega)
  have a0 : w.cell? ⟨3, 4, none⟩ = some (.int .u8 128) := (hT.2 2 (by decide)).1
  have a1 : w.cell? ⟨3, 5, none⟩ = some (.int .u8 159) := (hT.2 2 (by decide)).2
  have h256 : (x0.toNat : Int) < 256 := by have := UInt8.toNat_lt x0; omega
  clear hT hx
  go_enter Tryz.func85, Tryz.ntmps85
  go_wp2
  refine wp_region_quiet_lit (by kernel_rfl) (by kernel_rfl) (WpQ.out ?_)
  iterate 3 (refine WpQ.step (fun K hK => ?_); go_simp; refine hK _ ?_; clear hK K)
  iterate 12 refine WpQ.skip (by kernel_rfl) ?_
  iterate 1 (refine WpQ.step (fun K hK => ?_); go_simp; refine hK _ ?_; clear hK K)
  refine ⟨wpQuiet_nil ?_⟩
  intro _ hw
  obtain ⟨nq, hw2⟩ := hw
  subst hw2
  go_wp2
  go_ret
  exact ⟨rfl, by repeat (first | exact More.refl _ | exact more_alloc_drewN _ _ _ | refine More.alloc ?_ _ | refine More.drew ?_)⟩

set_option maxHeartbeats 1600000 in
set_option maxRecDepth 1000000 in
theorem full2_35_low (s : ByteArray) (w : World) (hz : s.size = 2) (x0 : UInt8) (x1 : UInt8) (hs0 : s[0]'(by omega) = x0) (hs1 : s[1]'(by omega) = x1) (hx : Lib.firstT x0.toNat = 35) (hT : Lib.Utf8Tabs 2 3 w) (h1 : (x1.toNat : Int) < 128) :
    Calls Tryz.prog 85 #[.string s] w fun e w' => e = .returned (.bool true) ∧ More w w' := by
  have h0 := hT.1 x0.toNat (UInt8.toNat_lt _)
  rw [hx] at h0
  have hne : s.toList.isEmpty = false := by rw [isEmpty_of]; exact decide_eq_false (by omega)
  have a0 : w.cell? ⟨3, 4, none⟩ = some (.int .u8 128) := (hT.2 2 (by decide)).1
  have a1 : w.cell? ⟨3, 5, none⟩ = some (.int .u8 159) := (hT.2 2 (by decide)).2
  have h256 : (x0.toNat : Int) < 256 := by have := UInt8.toNat_lt x0; omega
  clear hT hx
  go_enter Tryz.func85, Tryz.ntmps85
  go_wp2
  refine wp_region_quiet_lit (by kernel_rfl) (by kernel_rfl) (WpQ.out ?_)
  iterate 9 (refine WpQ.step (fun K hK => ?_); go_simp; refine hK _ ?_; clear hK K)
  iterate 5 refine WpQ.skip (by kernel_rfl) ?_
  iterate 2 (refine WpQ.step (fun K hK => ?_); go_simp; refine hK _ ?_; clear hK K)
  refine ⟨wpQuiet_nil ?_⟩
  intro _ hw
  obtain ⟨nq, hw2⟩ := hw
  subst hw2
  go_wp2
  go_ret
  exact ⟨rfl, by repeat (first | exact More.refl _ | exact more_alloc_drewN _ _ _ | refine More.alloc ?_ _ | refine More.drew ?_)⟩

set_option maxHeartbeats 1600000 in
set_option maxRecDepth 1000000 in
theorem full2_35_high (s : ByteArray) (w : World) (hz : s.size = 2) (x0 : UInt8) (x1 : UInt8) (hs0 : s[0]'(by omega) = x0) (hs1 : s[1]'(by omega) = x1) (hx : Lib.firstT x0.toNat = 35) (hT : Lib.Utf8Tabs 2 3 w) (h1 : (128 : Int) ≤ x1.toNat) (h2 : (159 : Int) < x1.toNat) :
    Calls Tryz.prog 85 #[.string s] w fun e w' => e = .returned (.bool true) ∧ More w w' := by
  have h0 := hT.1 x0.toNat (UInt8.toNat_lt _)
  rw [hx] at h0
  have hne : s.toList.isEmpty = false := by rw [isEmpty_of]; exact decide_eq_false (by omega)
  have a0 : w.cell? ⟨3, 4, none⟩ = some (.int .u8 128) := (hT.2 2 (by decide)).1
  have a1 : w.cell? ⟨3, 5, none⟩ = some (.int .u8 159) := (hT.2 2 (by decide)).2
  have h256 : (x0.toNat : Int) < 256 := by have := UInt8.toNat_lt x0; omega
  clear hT hx
  go_enter Tryz.func85, Tryz.ntmps85
  go_wp2
  refine wp_region_quiet_lit (by kernel_rfl) (by kernel_rfl) (WpQ.out ?_)
  iterate 16 (refine WpQ.step (fun K hK => ?_); go_simp; refine hK _ ?_; clear hK K)
  refine ⟨wpQuiet_nil ?_⟩
  intro _ hw
  obtain ⟨nq, hw2⟩ := hw
  subst hw2
  go_wp2
  go_ret
  exact ⟨rfl, by repeat (first | exact More.refl _ | exact more_alloc_drewN _ _ _ | refine More.alloc ?_ _ | refine More.drew ?_)⟩

set_option maxHeartbeats 1600000 in
set_option maxRecDepth 1000000 in
theorem full2_35_in (s : ByteArray) (w : World) (hz : s.size = 2) (x0 : UInt8) (x1 : UInt8) (hs0 : s[0]'(by omega) = x0) (hs1 : s[1]'(by omega) = x1) (hx : Lib.firstT x0.toNat = 35) (hT : Lib.Utf8Tabs 2 3 w) (h1 : (128 : Int) ≤ x1.toNat) (h2 : (x1.toNat : Int) ≤ 159) :
    Calls Tryz.prog 85 #[.string s] w fun e w' => e = .returned (.bool false) ∧ More w w' := by
  have h0 := hT.1 x0.toNat (UInt8.toNat_lt _)
  rw [hx] at h0
  have hne : s.toList.isEmpty = false := by rw [isEmpty_of]; exact decide_eq_false (by omega)
  have a0 : w.cell? ⟨3, 4, none⟩ = some (.int .u8 128) := (hT.2 2 (by decide)).1
  have a1 : w.cell? ⟨3, 5, none⟩ = some (.int .u8 159) := (hT.2 2 (by decide)).2
  have h256 : (x0.toNat : Int) < 256 := by have := UInt8.toNat_lt x0; omega
  clear hT hx
  go_enter Tryz.func85, Tryz.ntmps85
  go_wp2
  refine wp_region_quiet_lit (by kernel_rfl) (by kernel_rfl) (WpQ.out ?_)
  iterate 16 (refine WpQ.step (fun K hK => ?_); go_simp; refine hK _ ?_; clear hK K)
  refine ⟨wpQuiet_nil ?_⟩
  intro _ hw
  obtain ⟨nq, hw2⟩ := hw
  subst hw2
  go_wp2
  go_ret
  exact ⟨rfl, by repeat (first | exact More.refl _ | exact more_alloc_drewN _ _ _ | refine More.alloc ?_ _ | refine More.drew ?_)⟩

set_option maxHeartbeats 1600000 in
set_option maxRecDepth 1000000 in
theorem full1_52 (s : ByteArray) (w : World) (hz : s.size = 1) (x0 : UInt8) (hs0 : s[0]'(by omega) = x0) (hx : Lib.firstT x0.toNat = 52) (hT : Lib.Utf8Tabs 2 3 w) :
    Calls Tryz.prog 85 #[.string s] w fun e w' => e = .returned (.bool false) ∧ More w w' := by
  have h0 := hT.1 x0.toNat (UInt8.toNat_lt _)
  rw [hx] at h0
  have hne : s.toList.isEmpty = false := by rw [isEmpty_of]; exact decide_eq_false (by omega)
  have a0 : w.cell? ⟨3, 6, none⟩ = some (.int .u8 144) := (hT.2 3 (by decide)).1
  have a1 : w.cell? ⟨3, 7, none⟩ = some (.int .u8 191) := (hT.2 3 (by decide)).2
  have h256 : (x0.toNat : Int) < 256 := by have := UInt8.toNat_lt x0; omega
  clear hT hx
  go_enter Tryz.func85, Tryz.ntmps85
  go_wp2
  refine wp_region_quiet_lit (by kernel_rfl) (by kernel_rfl) (WpQ.out ?_)
  iterate 3 (refine WpQ.step (fun K hK => ?_); go_simp; refine hK _ ?_; clear hK K)
  iterate 12 refine WpQ.skip (by kernel_rfl) ?_
  iterate 1 (refine WpQ.step (fun K hK => ?_); go_simp; refine hK _ ?_; clear hK K)
  refine ⟨wpQuiet_nil ?_⟩
  intro _ hw
  obtain ⟨nq, hw2⟩ := hw
  subst hw2
  go_wp2
  go_ret
  exact ⟨rfl, by repeat (first | exact More.refl _ | exact more_alloc_drewN _ _ _ | refine More.alloc ?_ _ | refine More.drew ?_)⟩

set_option maxHeartbeats 1600000 in
set_option maxRecDepth 1000000 in
theorem full2_52_low (s : ByteArray) (w : World) (hz : s.size = 2) (x0 : UInt8) (x1 : UInt8) (hs0 : s[0]'(by omega) = x0) (hs1 : s[1]'(by omega) = x1) (hx : Lib.firstT x0.toNat = 52) (hT : Lib.Utf8Tabs 2 3 w) (h1 : (x1.toNat : Int) < 144) :
    Calls Tryz.prog 85 #[.string s] w fun e w' => e = .returned (.bool true) ∧ More w w' := by
  have h0 := hT.1 x0.toNat (UInt8.toNat_lt _)
  rw [hx] at h0
  have hne : s.toList.isEmpty = false := by rw [isEmpty_of]; exact decide_eq_false (by omega)
  have a0 : w.cell? ⟨3, 6, none⟩ = some (.int .u8 144) := (hT.2 3 (by decide)).1
  have a1 : w.cell? ⟨3, 7, none⟩ = some (.int .u8 191) := (hT.2 3 (by decide)).2
  have h256 : (x0.toNat : Int) < 256 := by have := UInt8.toNat_lt x0; omega
  clear hT hx
  go_enter Tryz.func85, Tryz.ntmps85
  go_wp2
  refine wp_region_quiet_lit (by kernel_rfl) (by kernel_rfl) (WpQ.out ?_)
  iterate 9 (refine WpQ.step (fun K hK => ?_); go_simp; refine hK _ ?_; clear hK K)
  iterate 5 refine WpQ.skip (by kernel_rfl) ?_
  iterate 2 (refine WpQ.step (fun K hK => ?_); go_simp; refine hK _ ?_; clear hK K)
  refine ⟨wpQuiet_nil ?_⟩
  intro _ hw
  obtain ⟨nq, hw2⟩ := hw
  subst hw2
  go_wp2
  go_ret
  exact ⟨rfl, by repeat (first | exact More.refl _ | exact more_alloc_drewN _ _ _ | refine More.alloc ?_ _ | refine More.drew ?_)⟩

set_option maxHeartbeats 1600000 in
set_option maxRecDepth 1000000 in
theorem full2_52_high (s : ByteArray) (w : World) (hz : s.size = 2) (x0 : UInt8) (x1 : UInt8) (hs0 : s[0]'(by omega) = x0) (hs1 : s[1]'(by omega) = x1) (hx : Lib.firstT x0.toNat = 52) (hT : Lib.Utf8Tabs 2 3 w) (h1 : (144 : Int) ≤ x1.toNat) (h2 : (191 : Int) < x1.toNat) :
    Calls Tryz.prog 85 #[.string s] w fun e w' => e = .returned (.bool true) ∧ More w w' := by
  have h0 := hT.1 x0.toNat (UInt8.toNat_lt _)
  rw [hx] at h0
  have hne : s.toList.isEmpty = false := by rw [isEmpty_of]; exact decide_eq_false (by omega)
  have a0 : w.cell? ⟨3, 6, none⟩ = some (.int .u8 144) := (hT.2 3 (by decide)).1
  have a1 : w.cell? ⟨3, 7, none⟩ = some (.int .u8 191) := (hT.2 3 (by decide)).2
  have h256 : (x0.toNat : Int) < 256 := by have := UInt8.toNat_lt x0; omega
  clear hT hx
  go_enter Tryz.func85, Tryz.ntmps85
  go_wp2
  refine wp_region_quiet_lit (by kernel_rfl) (by kernel_rfl) (WpQ.out ?_)
  iterate 16 (refine WpQ.step (fun K hK => ?_); go_simp; refine hK _ ?_; clear hK K)
  refine ⟨wpQuiet_nil ?_⟩
  intro _ hw
  obtain ⟨nq, hw2⟩ := hw
  subst hw2
  go_wp2
  go_ret
  exact ⟨rfl, by repeat (first | exact More.refl _ | exact more_alloc_drewN _ _ _ | refine More.alloc ?_ _ | refine More.drew ?_)⟩

set_option maxHeartbeats 1600000 in
set_option maxRecDepth 1000000 in
theorem full2_52_in (s : ByteArray) (w : World) (hz : s.size = 2) (x0 : UInt8) (x1 : UInt8) (hs0 : s[0]'(by omega) = x0) (hs1 : s[1]'(by omega) = x1) (hx : Lib.firstT x0.toNat = 52) (hT : Lib.Utf8Tabs 2 3 w) (h1 : (144 : Int) ≤ x1.toNat) (h2 : (x1.toNat : Int) ≤ 191) :
    Calls Tryz.prog 85 #[.string s] w fun e w' => e = .returned (.bool false) ∧ More w w' := by
  have h0 := hT.1 x0.toNat (UInt8.toNat_lt _)
  rw [hx] at h0
  have hne : s.toList.isEmpty = false := by rw [isEmpty_of]; exact decide_eq_false (by omega)
  have a0 : w.cell? ⟨3, 6, none⟩ = some (.int .u8 144) := (hT.2 3 (by decide)).1
  have a1 : w.cell? ⟨3, 7, none⟩ = some (.int .u8 191) := (hT.2 3 (by decide)).2
  have h256 : (x0.toNat : Int) < 256 := by have := UInt8.toNat_lt x0; omega
  clear hT hx
  go_enter Tryz.func85, Tryz.ntmps85
  go_wp2
  refine wp_region_quiet_lit (by kernel_rfl) (by kernel_rfl) (WpQ.out ?_)
  iterate 16 (refine WpQ.step (fun K hK => ?_); go_simp; refine hK _ ?_; clear hK K)
  refine ⟨wpQuiet_nil ?_⟩
  intro _ hw
  obtain ⟨nq, hw2⟩ := hw
  subst hw2
  go_wp2
  go_ret
  exact ⟨rfl, by repeat (first | exact More.refl _ | exact more_alloc_drewN _ _ _ | refine More.alloc ?_ _ | refine More.drew ?_)⟩

set_option maxHeartbeats 1600000 in
set_option maxRecDepth 1000000 in
theorem full3_52_low (s : ByteArray) (w : World) (hz : s.size = 3) (x0 : UInt8) (x1 : UInt8) (x2 : UInt8) (hs0 : s[0]'(by omega) = x0) (hs1 : s[1]'(by omega) = x1) (hs2 : s[2]'(by omega) = x2) (hx : Lib.firstT x0.toNat = 52) (hT : Lib.Utf8Tabs 2 3 w) (h1 : (x1.toNat : Int) < 144) :
    Calls Tryz.prog 85 #[.string s] w fun e w' => e = .returned (.bool true) ∧ More w w' := by
  have h0 := hT.1 x0.toNat (UInt8.toNat_lt _)
  rw [hx] at h0
  have hne : s.toList.isEmpty = false := by rw [isEmpty_of]; exact decide_eq_false (by omega)
  have a0 : w.cell? ⟨3, 6, none⟩ = some (.int .u8 144) := (hT.2 3 (by decide)).1
  have a1 : w.cell? ⟨3, 7, none⟩ = some (.int .u8 191) := (hT.2 3 (by decide)).2
  have h256 : (x0.toNat : Int) < 256 := by have := UInt8.toNat_lt x0; omega
  clear hT hx
  go_enter Tryz.func85, Tryz.ntmps85
  go_wp2
  refine wp_region_quiet_lit (by kernel_rfl) (by kernel_rfl) (WpQ.out ?_)
  iterate 9 (refine WpQ.step (fun K hK => ?_); go_simp; refine hK _ ?_; clear hK K)
  iterate 5 refine WpQ.skip (by kernel_rfl) ?_
  iterate 2 (refine WpQ.step (fun K hK => ?_); go_simp; refine hK _ ?_; clear hK K)
  refine ⟨wpQuiet_nil ?_⟩
  intro _ hw
  obtain ⟨nq, hw2⟩ := hw
  subst hw2
  go_wp2
  go_ret
  exact ⟨rfl, by repeat (first | exact More.refl _ | exact more_alloc_drewN _ _ _ | refine More.alloc ?_ _ | refine More.drew ?_)⟩

set_option maxHeartbeats 1600000 in
set_option maxRecDepth 1000000 in
theorem full3_52_high (s : ByteArray) (w : World) (hz : s.size = 3) (x0 : UInt8) (x1 : UInt8) (x2 : UInt8) (hs0 : s[0]'(by omega) = x0) (hs1 : s[1]'(by omega) = x1) (hs2 : s[2]'(by omega) = x2) (hx : Lib.firstT x0.toNat = 52) (hT : Lib.Utf8Tabs 2 3 w) (h1 : (144 : Int) ≤ x1.toNat) (h2 : (191 : Int) < x1.toNat) :
    Calls Tryz.prog 85 #[.string s] w fun e w' => e = .returned (.bool true) ∧ More w w' := by
  have h0 := hT.1 x0.toNat (UInt8.toNat_lt _)
  rw [hx] at h0
  have hne : s.toList.isEmpty = false := by rw [isEmpty_of]; exact decide_eq_false (by omega)
  have a0 : w.cell? ⟨3, 6, none⟩ = some (.int .u8 144) := (hT.2 3 (by decide)).1
  have a1 : w.cell? ⟨3, 7, none⟩ = some (.int .u8 191) := (hT.2 3 (by decide)).2
  have h256 : (x0.toNat : Int) < 256 := by have := UInt8.toNat_lt x0; omega
  clear hT hx
  go_enter Tryz.func85, Tryz.ntmps85
  go_wp2
  refine wp_region_quiet_lit (by kernel_rfl) (by kernel_rfl) (WpQ.out ?_)
  iterate 16 (refine WpQ.step (fun K hK => ?_); go_simp; refine hK _ ?_; clear hK K)
  refine ⟨wpQuiet_nil ?_⟩
  intro _ hw
  obtain ⟨nq, hw2⟩ := hw
  subst hw2
  go_wp2
  go_ret
  exact ⟨rfl, by repeat (first | exact More.refl _ | exact more_alloc_drewN _ _ _ | refine More.alloc ?_ _ | refine More.drew ?_)⟩

set_option maxHeartbeats 1600000 in
set_option maxRecDepth 1000000 in
theorem full3_52_in_low (s : ByteArray) (w : World) (hz : s.size = 3) (x0 : UInt8) (x1 : UInt8) (x2 : UInt8) (hs0 : s[0]'(by omega) = x0) (hs1 : s[1]'(by omega) = x1) (hs2 : s[2]'(by omega) = x2) (hx : Lib.firstT x0.toNat = 52) (hT : Lib.Utf8Tabs 2 3 w) (h1 : (144 : Int) ≤ x1.toNat) (h2 : (x1.toNat : Int) ≤ 191) (h3 : (x2.toNat : Int) < 128) :
    Calls Tryz.prog 85 #[.string s] w fun e w' => e = .returned (.bool true) ∧ More w w' := by
  have h0 := hT.1 x0.toNat (UInt8.toNat_lt _)
  rw [hx] at h0
  have hne : s.toList.isEmpty = false := by rw [isEmpty_of]; exact decide_eq_false (by omega)
  have a0 : w.cell? ⟨3, 6, none⟩ = some (.int .u8 144) := (hT.2 3 (by decide)).1
  have a1 : w.cell? ⟨3, 7, none⟩ = some (.int .u8 191) := (hT.2 3 (by decide)).2
  have h256 : (x0.toNat : Int) < 256 := by have := UInt8.toNat_lt x0; omega
  clear hT hx
  go_enter Tryz.func85, Tryz.ntmps85
  go_wp2
  refine wp_region_quiet_lit (by kernel_rfl) (by kernel_rfl) (WpQ.out ?_)
  iterate 16 (refine WpQ.step (fun K hK => ?_); go_simp; refine hK _ ?_; clear hK K)
  refine ⟨wpQuiet_nil ?_⟩
  intro _ hw
  obtain ⟨nq, hw2⟩ := hw
  subst hw2
  go_wp2
  go_ret
  exact ⟨rfl, by repeat (first | exact More.refl _ | exact more_alloc_drewN _ _ _ | refine More.alloc ?_ _ | refine More.drew ?_)⟩

set_option maxHeartbeats 1600000 in
set_option maxRecDepth 1000000 in
theorem full3_52_in_high (s : ByteArray) (w : World) (hz : s.size = 3) (x0 : UInt8) (x1 : UInt8) (x2 : UInt8) (hs0 : s[0]'(by omega) = x0) (hs1 : s[1]'(by omega) = x1) (hs2 : s[2]'(by omega) = x2) (hx : Lib.firstT x0.toNat = 52) (hT : Lib.Utf8Tabs 2 3 w) (h1 : (144 : Int) ≤ x1.toNat) (h2 : (x1.toNat : Int) ≤ 191) (h3 : (128 : Int) ≤ x2.toNat) (h4 : (191 : Int) < x2.toNat) :
    Calls Tryz.prog 85 #[.string s] w fun e w' => e = .returned (.bool true) ∧ More w w' := by
  have h0 := hT.1 x0.toNat (UInt8.toNat_lt _)
  rw [hx] at h0
  have hne : s.toList.isEmpty = false := by rw [isEmpty_of]; exact decide_eq_false (by omega)
  have a0 : w.cell? ⟨3, 6, none⟩ = some (.int .u8 144) := (hT.2 3 (by decide)).1
  have a1 : w.cell? ⟨3, 7, none⟩ = some (.int .u8 191) := (hT.2 3 (by decide)).2
  have h256 : (x0.toNat : Int) < 256 := by have := UInt8.toNat_lt x0; omega
  clear hT hx
  go_enter Tryz.func85, Tryz.ntmps85
  go_wp2
  refine wp_region_quiet_lit (by kernel_rfl) (by kernel_rfl) (WpQ.out ?_)
  iterate 16 (refine WpQ.step (fun K hK => ?_); go_simp; refine hK _ ?_; clear hK K)
  refine ⟨wpQuiet_nil ?_⟩
  intro _ hw
  obtain ⟨nq, hw2⟩ := hw
  subst hw2
  go_wp2
  go_ret
  exact ⟨rfl, by repeat (first | exact More.refl _ | exact more_alloc_drewN _ _ _ | refine More.alloc ?_ _ | refine More.drew ?_)⟩

set_option maxHeartbeats 1600000 in
set_option maxRecDepth 1000000 in
theorem full3_52_in_in (s : ByteArray) (w : World) (hz : s.size = 3) (x0 : UInt8) (x1 : UInt8) (x2 : UInt8) (hs0 : s[0]'(by omega) = x0) (hs1 : s[1]'(by omega) = x1) (hs2 : s[2]'(by omega) = x2) (hx : Lib.firstT x0.toNat = 52) (hT : Lib.Utf8Tabs 2 3 w) (h1 : (144 : Int) ≤ x1.toNat) (h2 : (x1.toNat : Int) ≤ 191) (h3 : (128 : Int) ≤ x2.toNat) (h4 : (x2.toNat : Int) ≤ 191) :
    Calls Tryz.prog 85 #[.string s] w fun e w' => e = .returned (.bool false) ∧ More w w' := by
  have h0 := hT.1 x0.toNat (UInt8.toNat_lt _)
  rw [hx] at h0
  have hne : s.toList.isEmpty = false := by rw [isEmpty_of]; exact decide_eq_false (by omega)
  have a0 : w.cell? ⟨3, 6, none⟩ = some (.int .u8 144) := (hT.2 3 (by decide)).1
  have a1 : w.cell? ⟨3, 7, none⟩ = some (.int .u8 191) := (hT.2 3 (by decide)).2
  have h256 : (x0.toNat : Int) < 256 := by have := UInt8.toNat_lt x0; omega
  clear hT hx
  go_enter Tryz.func85, Tryz.ntmps85
  go_wp2
  refine wp_region_quiet_lit (by kernel_rfl) (by kernel_rfl) (WpQ.out ?_)
  iterate 16 (refine WpQ.step (fun K hK => ?_); go_simp; refine hK _ ?_; clear hK K)
  refine ⟨wpQuiet_nil ?_⟩
  intro _ hw
  obtain ⟨nq, hw2⟩ := hw
  subst hw2
  go_wp2
  go_ret
  exact ⟨rfl, by repeat (first | exact More.refl _ | exact more_alloc_drewN _ _ _ | refine More.alloc ?_ _ | refine More.drew ?_)⟩

set_option maxHeartbeats 1600000 in
set_option maxRecDepth 1000000 in
theorem full1_4 (s : ByteArray) (w : World) (hz : s.size = 1) (x0 : UInt8) (hs0 : s[0]'(by omega) = x0) (hx : Lib.firstT x0.toNat = 4) (hT : Lib.Utf8Tabs 2 3 w) :
    Calls Tryz.prog 85 #[.string s] w fun e w' => e = .returned (.bool false) ∧ More w w' := by
  have h0 := hT.1 x0.toNat (UInt8.toNat_lt _)
  rw [hx] at h0
  have hne : s.toList.isEmpty = false := by rw [isEmpty_of]; exact decide_eq_false (by omega)
  have a0 : w.cell? ⟨3, 0, none⟩ = some (.int .u8 128) := (hT.2 0 (by decide)).1
  have a1 : w.cell? ⟨3, 1, none⟩ = some (.int .u8 191) := (hT.2 0 (by decide)).2
  have h256 : (x0.toNat : Int) < 256 := by have := UInt8.toNat_lt x0; omega
  clear hT hx
  go_enter Tryz.func85, Tryz.ntmps85
  go_wp2
  refine wp_region_quiet_lit (by kernel_rfl) (by kernel_rfl) (WpQ.out ?_)
  iterate 3 (refine WpQ.step (fun K hK => ?_); go_simp; refine hK _ ?_; clear hK K)
  iterate 12 refine WpQ.skip (by kernel_rfl) ?_
  iterate 1 (refine WpQ.step (fun K hK => ?_); go_simp; refine hK _ ?_; clear hK K)
  refine ⟨wpQuiet_nil ?_⟩
  intro _ hw
  obtain ⟨nq, hw2⟩ := hw
  subst hw2
  go_wp2
  go_ret
  exact ⟨rfl, by repeat (first | exact More.refl _ | exact more_alloc_drewN _ _ _ | refine More.alloc ?_ _ | refine More.drew ?_)⟩

set_option maxHeartbeats 1600000 in
set_option maxRecDepth 1000000 in
theorem full2_4_low (s : ByteArray) (w : World) (hz : s.size = 2) (x0 : UInt8) (x1 : UInt8) (hs0 : s[0]'(by omega) = x0) (hs1 : s[1]'(by omega) = x1) (hx : Lib.firstT x0.toNat = 4) (hT : Lib.Utf8Tabs 2 3 w) (h1 : (x1.toNat : Int) < 128) :
    Calls Tryz.prog 85 #[.string s] w fun e w' => e = .returned (.bool true) ∧ More w w' := by
  have h0 := hT.1 x0.toNat (UInt8.toNat_lt _)
  rw [hx] at h0
  have hne : s.toList.isEmpty = false := by rw [isEmpty_of]; exact decide_eq_false (by omega)
  have a0 : w.cell? ⟨3, 0, none⟩ = some (.int .u8 128) := (hT.2 0 (by decide)).1
  have a1 : w.cell? ⟨3, 1, none⟩ = some (.int .u8 191) := (hT.2 0 (by decide)).2
  have h256 : (x0.toNat : Int) < 256 := by have := UInt8.toNat_lt x0; omega
  clear hT hx
  go_enter Tryz.func85, Tryz.ntmps85
  go_wp2
  refine wp_region_quiet_lit (by kernel_rfl) (by kernel_rfl) (WpQ.out ?_)
  iterate 9 (refine WpQ.step (fun K hK => ?_); go_simp; refine hK _ ?_; clear hK K)
  iterate 5 refine WpQ.skip (by kernel_rfl) ?_
  iterate 2 (refine WpQ.step (fun K hK => ?_); go_simp; refine hK _ ?_; clear hK K)
  refine ⟨wpQuiet_nil ?_⟩
  intro _ hw
  obtain ⟨nq, hw2⟩ := hw
  subst hw2
  go_wp2
  go_ret
  exact ⟨rfl, by repeat (first | exact More.refl _ | exact more_alloc_drewN _ _ _ | refine More.alloc ?_ _ | refine More.drew ?_)⟩

set_option maxHeartbeats 1600000 in
set_option maxRecDepth 1000000 in
theorem full2_4_high (s : ByteArray) (w : World) (hz : s.size = 2) (x0 : UInt8) (x1 : UInt8) (hs0 : s[0]'(by omega) = x0) (hs1 : s[1]'(by omega) = x1) (hx : Lib.firstT x0.toNat = 4) (hT : Lib.Utf8Tabs 2 3 w) (h1 : (128 : Int) ≤ x1.toNat) (h2 : (191 : Int) < x1.toNat) :
    Calls Tryz.prog 85 #[.string s] w fun e w' => e = .returned (.bool true) ∧ More w w' := by
  have h0 := hT.1 x0.toNat (UInt8.toNat_lt _)
  rw [hx] at h0
  have hne : s.toList.isEmpty = false := by rw [isEmpty_of]; exact decide_eq_false (by omega)
  have a0 : w.cell? ⟨3, 0, none⟩ = some (.int .u8 128) := (hT.2 0 (by decide)).1
  have a1 : w.cell? ⟨3, 1, none⟩ = some (.int .u8 191) := (hT.2 0 (by decide)).2
  have h256 : (x0.toNat : Int) < 256 := by have := UInt8.toNat_lt x0; omega
  clear hT hx
  go_enter Tryz.func85, Tryz.ntmps85
  go_wp2
  refine wp_region_quiet_lit (by kernel_rfl) (by kernel_rfl) (WpQ.out ?_)
  iterate 16 (refine WpQ.step (fun K hK => ?_); go_simp; refine hK _ ?_; clear hK K)
  refine ⟨wpQuiet_nil ?_⟩
  intro _ hw
  obtain ⟨nq, hw2⟩ := hw
  subst hw2
  go_wp2
  go_ret
  exact ⟨rfl, by repeat (first | exact More.refl _ | exact more_alloc_drewN _ _ _ | refine More.alloc ?_ _ | refine More.drew ?_)⟩

set_option maxHeartbeats 1600000 in
set_option maxRecDepth 1000000 in
theorem full2_4_in (s : ByteArray) (w : World) (hz : s.size = 2) (x0 : UInt8) (x1 : UInt8) (hs0 : s[0]'(by omega) = x0) (hs1 : s[1]'(by omega) = x1) (hx : Lib.firstT x0.toNat = 4) (hT : Lib.Utf8Tabs 2 3 w) (h1 : (128 : Int) ≤ x1.toNat) (h2 : (x1.toNat : Int) ≤ 191) :
    Calls Tryz.prog 85 #[.string s] w fun e w' => e = .returned (.bool false) ∧ More w w' := by
  have h0 := hT.1 x0.toNat (UInt8.toNat_lt _)
  rw [hx] at h0
  have hne : s.toList.isEmpty = false := by rw [isEmpty_of]; exact decide_eq_false (by omega)
  have a0 : w.cell? ⟨3, 0, none⟩ = some (.int .u8 128) := (hT.2 0 (by decide)).1
  have a1 : w.cell? ⟨3, 1, none⟩ = some (.int .u8 191) := (hT.2 0 (by decide)).2
  have h256 : (x0.toNat : Int) < 256 := by have := UInt8.toNat_lt x0; omega
  clear hT hx
  go_enter Tryz.func85, Tryz.ntmps85
  go_wp2
  refine wp_region_quiet_lit (by kernel_rfl) (by kernel_rfl) (WpQ.out ?_)
  iterate 16 (refine WpQ.step (fun K hK => ?_); go_simp; refine hK _ ?_; clear hK K)
  refine ⟨wpQuiet_nil ?_⟩
  intro _ hw
  obtain ⟨nq, hw2⟩ := hw
  subst hw2
  go_wp2
  go_ret
  exact ⟨rfl, by repeat (first | exact More.refl _ | exact more_alloc_drewN _ _ _ | refine More.alloc ?_ _ | refine More.drew ?_)⟩

set_option maxHeartbeats 1600000 in
set_option maxRecDepth 1000000 in
theorem full3_4_low (s : ByteArray) (w : World) (hz : s.size = 3) (x0 : UInt8) (x1 : UInt8) (x2 : UInt8) (hs0 : s[0]'(by omega) = x0) (hs1 : s[1]'(by omega) = x1) (hs2 : s[2]'(by omega) = x2) (hx : Lib.firstT x0.toNat = 4) (hT : Lib.Utf8Tabs 2 3 w) (h1 : (x1.toNat : Int) < 128) :
    Calls Tryz.prog 85 #[.string s] w fun e w' => e = .returned (.bool true) ∧ More w w' := by
  have h0 := hT.1 x0.toNat (UInt8.toNat_lt _)
  rw [hx] at h0
  have hne : s.toList.isEmpty = false := by rw [isEmpty_of]; exact decide_eq_false (by omega)
  have a0 : w.cell? ⟨3, 0, none⟩ = some (.int .u8 128) := (hT.2 0 (by decide)).1
  have a1 : w.cell? ⟨3, 1, none⟩ = some (.int .u8 191) := (hT.2 0 (by decide)).2
  have h256 : (x0.toNat : Int) < 256 := by have := UInt8.toNat_lt x0; omega
  clear hT hx
  go_enter Tryz.func85, Tryz.ntmps85
  go_wp2
  refine wp_region_quiet_lit (by kernel_rfl) (by kernel_rfl) (WpQ.out ?_)
  iterate 9 (refine WpQ.step (fun K hK => ?_); go_simp; refine hK _ ?_; clear hK K)
  iterate 5 refine WpQ.skip (by kernel_rfl) ?_
  iterate 2 (refine WpQ.step (fun K hK => ?_); go_simp; refine hK _ ?_; clear hK K)
  refine ⟨wpQuiet_nil ?_⟩
  intro _ hw
  obtain ⟨nq, hw2⟩ := hw
  subst hw2
  go_wp2
  go_ret
  exact ⟨rfl, by repeat (first | exact More.refl _ | exact more_alloc_drewN _ _ _ | refine More.alloc ?_ _ | refine More.drew ?_)⟩

set_option maxHeartbeats 1600000 in
set_option maxRecDepth 1000000 in
theorem full3_4_high (s : ByteArray) (w : World) (hz : s.size = 3) (x0 : UInt8) (x1 : UInt8) (x2 : UInt8) (hs0 : s[0]'(by omega) = x0) (hs1 : s[1]'(by omega) = x1) (hs2 : s[2]'(by omega) = x2) (hx : Lib.firstT x0.toNat = 4) (hT : Lib.Utf8Tabs 2 3 w) (h1 : (128 : Int) ≤ x1.toNat) (h2 : (191 : Int) < x1.toNat) :
    Calls Tryz.prog 85 #[.string s] w fun e w' => e = .returned (.bool true) ∧ More w w' := by
  have h0 := hT.1 x0.toNat (UInt8.toNat_lt _)
  rw [hx] at h0
  have hne : s.toList.isEmpty = false := by rw [isEmpty_of]; exact decide_eq_false (by omega)
  have a0 : w.cell? ⟨3, 0, none⟩ = some (.int .u8 128) := (hT.2 0 (by decide)).1
  have a1 : w.cell? ⟨3, 1, none⟩ = some (.int .u8 191) := (hT.2 0 (by decide)).2
  have h256 : (x0.toNat : Int) < 256 := by have := UInt8.toNat_lt x0; omega
  clear hT hx
  go_enter Tryz.func85, Tryz.ntmps85
  go_wp2
  refine wp_region_quiet_lit (by kernel_rfl) (by kernel_rfl) (WpQ.out ?_)
  iterate 16 (refine WpQ.step (fun K hK => ?_); go_simp; refine hK _ ?_; clear hK K)
  refine ⟨wpQuiet_nil ?_⟩
  intro _ hw
  obtain ⟨nq, hw2⟩ := hw
  subst hw2
  go_wp2
  go_ret
  exact ⟨rfl, by repeat (first | exact More.refl _ | exact more_alloc_drewN _ _ _ | refine More.alloc ?_ _ | refine More.drew ?_)⟩

set_option maxHeartbeats 1600000 in
set_option maxRecDepth 1000000 in
theorem full3_4_in_low (s : ByteArray) (w : World) (hz : s.size = 3) (x0 : UInt8) (x1 : UInt8) (x2 : UInt8) (hs0 : s[0]'(by omega) = x0) (hs1 : s[1]'(by omega) = x1) (hs2 : s[2]'(by omega) = x2) (hx : Lib.firstT x0.toNat = 4) (hT : Lib.Utf8Tabs 2 3 w) (h1 : (128 : Int) ≤ x1.toNat) (h2 : (x1.toNat : Int) ≤ 191) (h3 : (x2.toNat : Int) < 128) :
    Calls Tryz.prog 85 #[.string s] w fun e w' => e = .returned (.bool true) ∧ More w w' := by
  have h0 := hT.1 x0.toNat (UInt8.toNat_lt _)
  rw [hx] at h0
  have hne : s.toList.isEmpty = false := by rw [isEmpty_of]; exact decide_eq_false (by omega)
  have a0 : w.cell? ⟨3, 0, none⟩ = some (.int .u8 128) := (hT.2 0 (by decide)).1
  have a1 : w.cell? ⟨3, 1, none⟩ = some (.int .u8 191) := (hT.2 0 (by decide)).2
  have h256 : (x0.toNat : Int) < 256 := by have := UInt8.toNat_lt x0; omega
  clear hT hx
  go_enter Tryz.func85, Tryz.ntmps85
  go_wp2
  refine wp_region_quiet_lit (by kernel_rfl) (by kernel_rfl) (WpQ.out ?_)
  iterate 16 (refine WpQ.step (fun K hK => ?_); go_simp; refine hK _ ?_; clear hK K)
  refine ⟨wpQuiet_nil ?_⟩
  intro _ hw
  obtain ⟨nq, hw2⟩ := hw
  subst hw2
  go_wp2
  go_ret
  exact ⟨rfl, by repeat (first | exact More.refl _ | exact more_alloc_drewN _ _ _ | refine More.alloc ?_ _ | refine More.drew ?_)⟩

set_option maxHeartbeats 1600000 in
set_option maxRecDepth 1000000 in
theorem full3_4_in_high (s : ByteArray) (w : World) (hz : s.size = 3) (x0 : UInt8) (x1 : UInt8) (x2 : UInt8) (hs0 : s[0]'(by omega) = x0) (hs1 : s[1]'(by omega) = x1) (hs2 : s[2]'(by omega) = x2) (hx : Lib.firstT x0.toNat = 4) (hT : Lib.Utf8Tabs 2 3 w) (h1 : (128 : Int) ≤ x1.toNat) (h2 : (x1.toNat : Int) ≤ 191) (h3 : (128 : Int) ≤ x2.toNat) (h4 : (191 : Int) < x2.toNat) :
    Calls Tryz.prog 85 #[.string s] w fun e w' => e = .returned (.bool true) ∧ More w w' := by
  have h0 := hT.1 x0.toNat (UInt8.toNat_lt _)
  rw [hx] at h0
  have hne : s.toList.isEmpty = false := by rw [isEmpty_of]; exact decide_eq_false (by omega)
  have a0 : w.cell? ⟨3, 0, none⟩ = some (.int .u8 128) := (hT.2 0 (by decide)).1
  have a1 : w.cell? ⟨3, 1, none⟩ = some (.int .u8 191) := (hT.2 0 (by decide)).2
  have h256 : (x0.toNat : Int) < 256 := by have := UInt8.toNat_lt x0; omega
  clear hT hx
  go_enter Tryz.func85, Tryz.ntmps85
  go_wp2
  refine wp_region_quiet_lit (by kernel_rfl) (by kernel_rfl) (WpQ.out ?_)
  iterate 16 (refine WpQ.step (fun K hK => ?_); go_simp; refine hK _ ?_; clear hK K)
  refine ⟨wpQuiet_nil ?_⟩
  intro _ hw
  obtain ⟨nq, hw2⟩ := hw
  subst hw2
  go_wp2
  go_ret
  exact ⟨rfl, by repeat (first | exact More.refl _ | exact more_alloc_drewN _ _ _ | refine More.alloc ?_ _ | refine More.drew ?_)⟩

set_option maxHeartbeats 1600000 in
set_option maxRecDepth 1000000 in
theorem full3_4_in_in (s : ByteArray) (w : World) (hz : s.size = 3) (x0 : UInt8) (x1 : UInt8) (x2 : UInt8) (hs0 : s[0]'(by omega) = x0) (hs1 : s[1]'(by omega) = x1) (hs2 : s[2]'(by omega) = x2) (hx : Lib.firstT x0.toNat = 4) (hT : Lib.Utf8Tabs 2 3 w) (h1 : (128 : Int) ≤ x1.toNat) (h2 : (x1.toNat : Int) ≤ 191) (h3 : (128 : Int) ≤ x2.toNat) (h4 : (x2.toNat : Int) ≤ 191) :
    Calls Tryz.prog 85 #[.string s] w fun e w' => e = .returned (.bool false) ∧ More w w' := by
  have h0 := hT.1 x0.toNat (UInt8.toNat_lt _)
  rw [hx] at h0
  have hne : s.toList.isEmpty = false := by rw [isEmpty_of]; exact decide_eq_false (by omega)
  have a0 : w.cell? ⟨3, 0, none⟩ = some (.int .u8 128) := (hT.2 0 (by decide)).1
  have a1 : w.cell? ⟨3, 1, none⟩ = some (.int .u8 191) := (hT.2 0 (by decide)).2
  have h256 : (x0.toNat : Int) < 256 := by have := UInt8.toNat_lt x0; omega
  clear hT hx
  go_enter Tryz.func85, Tryz.ntmps85
  go_wp2
  refine wp_region_quiet_lit (by kernel_rfl) (by kernel_rfl) (WpQ.out ?_)
  iterate 16 (refine WpQ.step (fun K hK => ?_); go_simp; refine hK _ ?_; clear hK K)
  refine ⟨wpQuiet_nil ?_⟩
  intro _ hw
  obtain ⟨nq, hw2⟩ := hw
  subst hw2
  go_wp2
  go_ret
  exact ⟨rfl, by repeat (first | exact More.refl _ | exact more_alloc_drewN _ _ _ | refine More.alloc ?_ _ | refine More.drew ?_)⟩

set_option maxHeartbeats 1600000 in
set_option maxRecDepth 1000000 in
theorem full1_68 (s : ByteArray) (w : World) (hz : s.size = 1) (x0 : UInt8) (hs0 : s[0]'(by omega) = x0) (hx : Lib.firstT x0.toNat = 68) (hT : Lib.Utf8Tabs 2 3 w) :
    Calls Tryz.prog 85 #[.string s] w fun e w' => e = .returned (.bool false) ∧ More w w' := by
  have h0 := hT.1 x0.toNat (UInt8.toNat_lt _)
  rw [hx] at h0
  have hne : s.toList.isEmpty = false := by rw [isEmpty_of]; exact decide_eq_false (by omega)
  have a0 : w.cell? ⟨3, 8, none⟩ = some (.int .u8 128) := (hT.2 4 (by decide)).1
  have a1 : w.cell? ⟨3, 9, none⟩ = some (.int .u8 143) := (hT.2 4 (by decide)).2
  have h256 : (x0.toNat : Int) < 256 := by have := UInt8.toNat_lt x0; omega
  clear hT hx
  go_enter Tryz.func85, Tryz.ntmps85
  go_wp2
  refine wp_region_quiet_lit (by kernel_rfl) (by kernel_rfl) (WpQ.out ?_)
  iterate 3 (refine WpQ.step (fun K hK => ?_); go_simp; refine hK _ ?_; clear hK K)
  iterate 12 refine WpQ.skip (by kernel_rfl) ?_
  iterate 1 (refine WpQ.step (fun K hK => ?_); go_simp; refine hK _ ?_; clear hK K)
  refine ⟨wpQuiet_nil ?_⟩
  intro _ hw
  obtain ⟨nq, hw2⟩ := hw
  subst hw2
  go_wp2
  go_ret
  exact ⟨rfl, by repeat (first | exact More.refl _ | exact more_alloc_drewN _ _ _ | refine More.alloc ?_ _ | refine More.drew ?_)⟩

set_option maxHeartbeats 1600000 in
set_option maxRecDepth 1000000 in
theorem full2_68_low (s : ByteArray) (w : World) (hz : s.size = 2) (x0 : UInt8) (x1 : UInt8) (hs0 : s[0]'(by omega) = x0) (hs1 : s[1]'(by omega) = x1) (hx : Lib.firstT x0.toNat = 68) (hT : Lib.Utf8Tabs 2 3 w) (h1 : (x1.toNat : Int) < 128) :
    Calls Tryz.prog 85 #[.string s] w fun e w' => e = .returned (.bool true) ∧ More w w' := by
  have h0 := hT.1 x0.toNat (UInt8.toNat_lt _)
  rw [hx] at h0
  have hne : s.toList.isEmpty = false := by rw [isEmpty_of]; exact decide_eq_false (by omega)
  have a0 : w.cell? ⟨3, 8, none⟩ = some (.int .u8 128) := (hT.2 4 (by decide)).1
  have a1 : w.cell? ⟨3, 9, none⟩ = some (.int .u8 143) := (hT.2 4 (by decide)).2
  have h256 : (x0.toNat : Int) < 256 := by have := UInt8.toNat_lt x0; omega
  clear hT hx
  go_enter Tryz.func85, Tryz.ntmps85
  go_wp2
  refine wp_region_quiet_lit (by kernel_rfl) (by kernel_rfl) (WpQ.out ?_)
  iterate 9 (refine WpQ.step (fun K hK => ?_); go_simp; refine hK _ ?_; clear hK K)
  iterate 5 refine WpQ.skip (by kernel_rfl) ?_
  iterate 2 (refine WpQ.step (fun K hK => ?_); go_simp; refine hK _ ?_; clear hK K)
  refine ⟨wpQuiet_nil ?_⟩
  intro _ hw
  obtain ⟨nq, hw2⟩ := hw
  subst hw2
  go_wp2
  go_ret
  exact ⟨rfl, by repeat (first | exact More.refl _ | exact more_alloc_drewN _ _ _ | refine More.alloc ?_ _ | refine More.drew ?_)⟩

set_option maxHeartbeats 1600000 in
set_option maxRecDepth 1000000 in
theorem full2_68_high (s : ByteArray) (w : World) (hz : s.size = 2) (x0 : UInt8) (x1 : UInt8) (hs0 : s[0]'(by omega) = x0) (hs1 : s[1]'(by omega) = x1) (hx : Lib.firstT x0.toNat = 68) (hT : Lib.Utf8Tabs 2 3 w) (h1 : (128 : Int) ≤ x1.toNat) (h2 : (143 : Int) < x1.toNat) :
    Calls Tryz.prog 85 #[.string s] w fun e w' => e = .returned (.bool true) ∧ More w w' := by
  have h0 := hT.1 x0.toNat (UInt8.toNat_lt _)
  rw [hx] at h0
  have hne : s.toList.isEmpty = false := by rw [isEmpty_of]; exact decide_eq_false (by omega)
  have a0 : w.cell? ⟨3, 8, none⟩ = some (.int .u8 128) := (hT.2 4 (by decide)).1
  have a1 : w.cell? ⟨3, 9, none⟩ = some (.int .u8 143) := (hT.2 4 (by decide)).2
  have h256 : (x0.toNat : Int) < 256 := by have := UInt8.toNat_lt x0; omega
  clear hT hx
  go_enter Tryz.func85, Tryz.ntmps85
  go_wp2
  refine wp_region_quiet_lit (by kernel_rfl) (by kernel_rfl) (WpQ.out ?_)
  iterate 16 (refine WpQ.step (fun K hK => ?_); go_simp; refine hK _ ?_; clear hK K)
  refine ⟨wpQuiet_nil ?_⟩
  intro _ hw
  obtain ⟨nq, hw2⟩ := hw
  subst hw2
  go_wp2
  go_ret
  exact ⟨rfl, by repeat (first | exact More.refl _ | exact more_alloc_drewN _ _ _ | refine More.alloc ?_ _ | refine More.drew ?_)⟩

set_option maxHeartbeats 1600000 in
set_option maxRecDepth 1000000 in
theorem full2_68_in (s : ByteArray) (w : World) (hz : s.size = 2) (x0 : UInt8) (x1 : UInt8) (hs0 : s[0]'(by omega) = x0) (hs1 : s[1]'(by omega) = x1) (hx : Lib.firstT x0.toNat = 68) (hT : Lib.Utf8Tabs 2 3 w) (h1 : (128 : Int) ≤ x1.toNat) (h2 : (x1.toNat : Int) ≤ 143) :
    Calls Tryz.prog 85 #[.string s] w fun e w' => e = .returned (.bool false) ∧ More w w' := by
  have h0 := hT.1 x0.toNat (UInt8.toNat_lt _)
  rw [hx] at h0
  have hne : s.toList.isEmpty = false := by rw [isEmpty_of]; exact decide_eq_false (by omega)
  have a0 : w.cell? ⟨3, 8, none⟩ = some (.int .u8 128) := (hT.2 4 (by decide)).1
  have a1 : w.cell? ⟨3, 9, none⟩ = some (.int .u8 143) := (hT.2 4 (by decide)).2
  have h256 : (x0.toNat : Int) < 256 := by have := UInt8.toNat_lt x0; omega
  clear hT hx
  go_enter Tryz.func85, Tryz.ntmps85
  go_wp2
  refine wp_region_quiet_lit (by kernel_rfl) (by kernel_rfl) (WpQ.out ?_)
  iterate 16 (refine WpQ.step (fun K hK => ?_); go_simp; refine hK _ ?_; clear hK K)
  refine ⟨wpQuiet_nil ?_⟩
  intro _ hw
  obtain ⟨nq, hw2⟩ := hw
  subst hw2
  go_wp2
  go_ret
  exact ⟨rfl, by repeat (first | exact More.refl _ | exact more_alloc_drewN _ _ _ | refine More.alloc ?_ _ | refine More.drew ?_)⟩

set_option maxHeartbeats 1600000 in
set_option maxRecDepth 1000000 in
theorem full3_68_low (s : ByteArray) (w : World) (hz : s.size = 3) (x0 : UInt8) (x1 : UInt8) (x2 : UInt8) (hs0 : s[0]'(by omega) = x0) (hs1 : s[1]'(by omega) = x1) (hs2 : s[2]'(by omega) = x2) (hx : Lib.firstT x0.toNat = 68) (hT : Lib.Utf8Tabs 2 3 w) (h1 : (x1.toNat : Int) < 128) :
    Calls Tryz.prog 85 #[.string s] w fun e w' => e = .returned (.bool true) ∧ More w w' := by
  have h0 := hT.1 x0.toNat (UInt8.toNat_lt _)
  rw [hx] at h0
  have hne : s.toList.isEmpty = false := by rw [isEmpty_of]; exact decide_eq_false (by omega)
  have a0 : w.cell? ⟨3, 8, none⟩ = some (.int .u8 128) := (hT.2 4 (by decide)).1
  have a1 : w.cell? ⟨3, 9, none⟩ = some (.int .u8 143) := (hT.2 4 (by decide)).2
  have h256 : (x0.toNat : Int) < 256 := by have := UInt8.toNat_lt x0; omega
  clear hT hx
  go_enter Tryz.func85, Tryz.ntmps85
  go_wp2
  refine wp_region_quiet_lit (by kernel_rfl) (by kernel_rfl) (WpQ.out ?_)
  iterate 9 (refine WpQ.step (fun K hK => ?_); go_simp; refine hK _ ?_; clear hK K)
  iterate 5 refine WpQ.skip (by kernel_rfl) ?_
  iterate 2 (refine WpQ.step (fun K hK => ?_); go_simp; refine hK _ ?_; clear hK K)
  refine ⟨wpQuiet_nil ?_⟩
  intro _ hw
  obtain ⟨nq, hw2⟩ := hw
  subst hw2
  go_wp2
  go_ret
  exact ⟨rfl, by repeat (first | exact More.refl _ | exact more_alloc_drewN _ _ _ | refine More.alloc ?_ _ | refine More.drew ?_)⟩

set_option maxHeartbeats 1600000 in
set_option maxRecDepth 1000000 in
theorem full3_68_high (s : ByteArray) (w : World) (hz : s.size = 3) (x0 : UInt8) (x1 : UInt8) (x2 : UInt8) (hs0 : s[0]'(by omega) = x0) (hs1 : s[1]'(by omega) = x1) (hs2 : s[2]'(by omega) = x2) (hx : Lib.firstT x0.toNat = 68) (hT : Lib.Utf8Tabs 2 3 w) (h1 : (128 : Int) ≤ x1.toNat) (h2 : (143 : Int) < x1.toNat) :
    Calls Tryz.prog 85 #[.string s] w fun e w' => e = .returned (.bool true) ∧ More w w' := by
  have h0 := hT.1 x0.toNat (UInt8.toNat_lt _)
  rw [hx] at h0
  have hne : s.toList.isEmpty = false := by rw [isEmpty_of]; exact decide_eq_false (by omega)
  have a0 : w.cell? ⟨3, 8, none⟩ = some (.int .u8 128) := (hT.2 4 (by decide)).1
  have a1 : w.cell? ⟨3, 9, none⟩ = some (.int .u8 143) := (hT.2 4 (by decide)).2
  have h256 : (x0.toNat : Int) < 256 := by have := UInt8.toNat_lt x0; omega
  clear hT hx
  go_enter Tryz.func85, Tryz.ntmps85
  go_wp2
  refine wp_region_quiet_lit (by kernel_rfl) (by kernel_rfl) (WpQ.out ?_)
  iterate 16 (refine WpQ.step (fun K hK => ?_); go_simp; refine hK _ ?_; clear hK K)
  refine ⟨wpQuiet_nil ?_⟩
  intro _ hw
  obtain ⟨nq, hw2⟩ := hw
  subst hw2
  go_wp2
  go_ret
  exact ⟨rfl, by repeat (first | exact More.refl _ | exact more_alloc_drewN _ _ _ | refine More.alloc ?_ _ | refine More.drew ?_)⟩

set_option maxHeartbeats 1600000 in
set_option maxRecDepth 1000000 in
theorem full3_68_in_low (s : ByteArray) (w : World) (hz : s.size = 3) (x0 : UInt8) (x1 : UInt8) (x2 : UInt8) (hs0 : s[0]'(by omega) = x0) (hs1 : s[1]'(by omega) = x1) (hs2 : s[2]'(by omega) = x2) (hx : Lib.firstT x0.toNat = 68) (hT : Lib.Utf8Tabs 2 3 w) (h1 : (128 : Int) ≤ x1.toNat) (h2 : (x1.toNat : Int) ≤ 143) (h3 : (x2.toNat : Int) < 128) :
    Calls Tryz.prog 85 #[.string s] w fun e w' => e = .returned (.bool true) ∧ More w w' := by
  have h0 := hT.1 x0.toNat (UInt8.toNat_lt _)
  rw [hx] at h0
  have hne : s.toList.isEmpty = false := by rw [isEmpty_of]; exact decide_eq_false (by omega)
  have a0 : w.cell? ⟨3, 8, none⟩ = some (.int .u8 128) := (hT.2 4 (by decide)).1
  have a1 : w.cell? ⟨3, 9, none⟩ = some (.int .u8 143) := (hT.2 4 (by decide)).2
  have h256 : (x0.toNat : Int) < 256 := by have := UInt8.toNat_lt x0; omega
  clear hT hx
  go_enter Tryz.func85, Tryz.ntmps85
  go_wp2
  refine wp_region_quiet_lit (by kernel_rfl) (by kernel_rfl) (WpQ.out ?_)
  iterate 16 (refine WpQ.step (fun K hK => ?_); go_simp; refine hK _ ?_; clear hK K)
  refine ⟨wpQuiet_nil ?_⟩
  intro _ hw
  obtain ⟨nq, hw2⟩ := hw
  subst hw2
  go_wp2
  go_ret
  exact ⟨rfl, by repeat (first | exact More.refl _ | exact more_alloc_drewN _ _ _ | refine More.alloc ?_ _ | refine More.drew ?_)⟩

set_option maxHeartbeats 1600000 in
set_option maxRecDepth 1000000 in
theorem full3_68_in_high (s : ByteArray) (w : World) (hz : s.size = 3) (x0 : UInt8) (x1 : UInt8) (x2 : UInt8) (hs0 : s[0]'(by omega) = x0) (hs1 : s[1]'(by omega) = x1) (hs2 : s[2]'(by omega) = x2) (hx : Lib.firstT x0.toNat = 68) (hT : Lib.Utf8Tabs 2 3 w) (h1 : (128 : Int) ≤ x1.toNat) (h2 : (x1.toNat : Int) ≤ 143) (h3 : (128 : Int) ≤ x2.toNat) (h4 : (191 : Int) < x2.toNat) :
    Calls Tryz.prog 85 #[.string s] w fun e w' => e = .returned (.bool true) ∧ More w w' := by
  have h0 := hT.1 x0.toNat (UInt8.toNat_lt _)
  rw [hx] at h0
  have hne : s.toList.isEmpty = false := by rw [isEmpty_of]; exact decide_eq_false (by omega)
  have a0 : w.cell? ⟨3, 8, none⟩ = some (.int .u8 128) := (hT.2 4 (by decide)).1
  have a1 : w.cell? ⟨3, 9, none⟩ = some (.int .u8 143) := (hT.2 4 (by decide)).2
  have h256 : (x0.toNat : Int) < 256 := by have := UInt8.toNat_lt x0; omega
  clear hT hx
  go_enter Tryz.func85, Tryz.ntmps85
  go_wp2
  refine wp_region_quiet_lit (by kernel_rfl) (by kernel_rfl) (WpQ.out ?_)
  iterate 16 (refine WpQ.step (fun K hK => ?_); go_simp; refine hK _ ?_; clear hK K)
  refine ⟨wpQuiet_nil ?_⟩
  intro _ hw
  obtain ⟨nq, hw2⟩ := hw
  subst hw2
  go_wp2
  go_ret
  exact ⟨rfl, by repeat (first | exact More.refl _ | exact more_alloc_drewN _ _ _ | refine More.alloc ?_ _ | refine More.drew ?_)⟩

set_option maxHeartbeats 1600000 in
set_option maxRecDepth 1000000 in
theorem full3_68_in_in (s : ByteArray) (w : World) (hz : s.size = 3) (x0 : UInt8) (x1 : UInt8) (x2 : UInt8) (hs0 : s[0]'(by omega) = x0) (hs1 : s[1]'(by omega) = x1) (hs2 : s[2]'(by omega) = x2) (hx : Lib.firstT x0.toNat = 68) (hT : Lib.Utf8Tabs 2 3 w) (h1 : (128 : Int) ≤ x1.toNat) (h2 : (x1.toNat : Int) ≤ 143) (h3 : (128 : Int) ≤ x2.toNat) (h4 : (x2.toNat : Int) ≤ 191) :
    Calls Tryz.prog 85 #[.string s] w fun e w' => e = .returned (.bool false) ∧ More w w' := by
  have h0 := hT.1 x0.toNat (UInt8.toNat_lt _)
  rw [hx] at h0
  have hne : s.toList.isEmpty = false := by rw [isEmpty_of]; exact decide_eq_false (by omega)
  have a0 : w.cell? ⟨3, 8, none⟩ = some (.int .u8 128) := (hT.2 4 (by decide)).1
  have a1 : w.cell? ⟨3, 9, none⟩ = some (.int .u8 143) := (hT.2 4 (by decide)).2
  have h256 : (x0.toNat : Int) < 256 := by have := UInt8.toNat_lt x0; omega
  clear hT hx
  go_enter Tryz.func85, Tryz.ntmps85
  go_wp2
  refine wp_region_quiet_lit (by kernel_rfl) (by kernel_rfl) (WpQ.out ?_)
  iterate 16 (refine WpQ.step (fun K hK => ?_); go_simp; refine hK _ ?_; clear hK K)
  refine ⟨wpQuiet_nil ?_⟩
  intro _ hw
  obtain ⟨nq, hw2⟩ := hw
  subst hw2
  go_wp2
  go_ret
  exact ⟨rfl, by repeat (first | exact More.refl _ | exact more_alloc_drewN _ _ _ | refine More.alloc ?_ _ | refine More.drew ?_)⟩

end Go.Proofs.YtdfmapcnfficlaaGreatDoor

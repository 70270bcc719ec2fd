/-
  utf8.AppendRune onto a row of one's own: where the new row lies is told.
-/
import Derived.Test.YtdfmapcnfficlaaGreatDoorB01
import Derived.Lib.RuneBytes
namespace Go.Proofs.YtdfmapcnfficlaaGreatDoor
open Go Go.RowKit

theorem Tryz.infoByte : (Tryz.prog.info? 5).map (fun i => (i.zero, i.size, i.bytes)) = some (some (.int .u8 0), 1, 1) := by kernel_rfl

/-- What an append of a few cells leaves. -/
def Grew (w : World) (a : Option Addr) (n : Nat) (xs news : List Value) (e : Ending) (w' : World) : Prop :=
  ∃ a' cap' o, e = .returned (.slice (some a') (n + news.length) cap') ∧ w'.ownsRow 0 5 1 (.slice (some a') (n + news.length) cap') (n + news.length) (xs ++ news) ∧ (w.alloc o).grownBy w' (a.map (·.block)) ∧ (some a'.block = a.map (·.block) ∨ w.heap.size + 1 ≤ a'.block)

set_option maxHeartbeats 4000000 in
set_option maxRecDepth 100000 in
theorem rune_two (a : Option Addr) (n cap : Nat) (xs : List Value) (r : Int) (h0 : 128 ≤ r) (h1 : r ≤ 2047) (w : World) (hown : w.ownsRow 0 5 1 (.slice a n cap) n xs) (hlen : n + 4 ≤ 140737488355328) :
    Calls Tryz.prog 190 #[.slice a n cap, .int .i32 r] w (Grew w a n xs [.int .u8 (192 + r / 64), .int .u8 (128 + r % 64)]) := by
  obtain ⟨i0, hi, hz0, hz1, hz2⟩ := info_parts Tryz.infoByte
  go_enter Tryz.func190, Tryz.ntmps190
  go_wp2_with (at_builtin; refine wpList_append_mine _ rfl _ _ 74 rfl 5 i0 (.int .u8 0) 1 1 Tryz.underlying74 hi hz0 hz1 hz2 rfl (by decide) a n cap xs rfl (hown.alloc _) ⟨w.heap.size, 0, none⟩ 2 2 [.int .u8 (192 + r / 64), .int .u8 (128 + r % 64)] rfl rfl ?c1 ?c2 (by decide) ?c3 ?c4 ?next)
  all_goals first
    | (intro a' cap' w2 hown' hgrow hfresh; go_wp2; go_ret; exact ⟨a', cap', _, rfl, hown', hgrow, by simpa using hfresh⟩)
    | exact ⟨rfl, rfl, rfl⟩
    | (unfold maxLen; omega)
    | omega
    | (intro u hu; simp at hu; rcases hu with rfl | rfl <;> rfl)
    | (intro j u hj
       match j, hj with
       | 0, hj => simp at hj; subst hj; simp [Addr.add]
       | 1, hj => simp at hj; subst hj; simp [Addr.add]
       | (j + 2), hj => simp at hj)

set_option maxHeartbeats 4000000 in
set_option maxRecDepth 100000 in
theorem rune_threeLo (a : Option Addr) (n cap : Nat) (xs : List Value) (r : Int) (h0 : 2048 ≤ r) (h1 : r < 55296) (w : World) (hown : w.ownsRow 0 5 1 (.slice a n cap) n xs) (hlen : n + 4 ≤ 140737488355328) :
    Calls Tryz.prog 190 #[.slice a n cap, .int .i32 r] w (Grew w a n xs [.int .u8 (224 + r / 4096), .int .u8 (128 + r / 64 % 64), .int .u8 (128 + r % 64)]) := by
  obtain ⟨i0, hi, hz0, hz1, hz2⟩ := info_parts Tryz.infoByte
  go_enter Tryz.func190, Tryz.ntmps190
  go_wp2_with (at_builtin; refine wpList_append_mine _ rfl _ _ 74 rfl 5 i0 (.int .u8 0) 1 1 Tryz.underlying74 hi hz0 hz1 hz2 rfl (by decide) a n cap xs rfl (hown.alloc _) ⟨w.heap.size, 0, none⟩ 3 3 [.int .u8 (224 + r / 4096), .int .u8 (128 + r / 64 % 64), .int .u8 (128 + r % 64)] rfl rfl ?c1 ?c2 (by decide) ?c3 ?c4 ?next)
  all_goals first
    | (intro a' cap' w2 hown' hgrow hfresh; go_wp2; go_ret; exact ⟨a', cap', _, rfl, hown', hgrow, by simpa using hfresh⟩)
    | exact ⟨rfl, rfl, rfl⟩
    | (unfold maxLen; omega)
    | omega
    | (intro u hu; simp at hu; rcases hu with rfl | rfl | rfl <;> rfl)
    | (intro j u hj
       match j, hj with
       | 0, hj => simp at hj; subst hj; simp [Addr.add]
       | 1, hj => simp at hj; subst hj; simp [Addr.add]
       | 2, hj => simp at hj; subst hj; simp [Addr.add]
       | (j + 3), hj => simp at hj)

set_option maxHeartbeats 4000000 in
set_option maxRecDepth 100000 in
theorem rune_threeHi (a : Option Addr) (n cap : Nat) (xs : List Value) (r : Int) (h0 : 57343 < r) (h1 : r ≤ 65535) (w : World) (hown : w.ownsRow 0 5 1 (.slice a n cap) n xs) (hlen : n + 4 ≤ 140737488355328) :
    Calls Tryz.prog 190 #[.slice a n cap, .int .i32 r] w (Grew w a n xs [.int .u8 (224 + r / 4096), .int .u8 (128 + r / 64 % 64), .int .u8 (128 + r % 64)]) := by
  obtain ⟨i0, hi, hz0, hz1, hz2⟩ := info_parts Tryz.infoByte
  go_enter Tryz.func190, Tryz.ntmps190
  go_wp2_with (at_builtin; refine wpList_append_mine _ rfl _ _ 74 rfl 5 i0 (.int .u8 0) 1 1 Tryz.underlying74 hi hz0 hz1 hz2 rfl (by decide) a n cap xs rfl (hown.alloc _) ⟨w.heap.size, 0, none⟩ 3 3 [.int .u8 (224 + r / 4096), .int .u8 (128 + r / 64 % 64), .int .u8 (128 + r % 64)] rfl rfl ?c1 ?c2 (by decide) ?c3 ?c4 ?next)
  all_goals first
    | (intro a' cap' w2 hown' hgrow hfresh; go_wp2; go_ret; exact ⟨a', cap', _, rfl, hown', hgrow, by simpa using hfresh⟩)
    | exact ⟨rfl, rfl, rfl⟩
    | (unfold maxLen; omega)
    | omega
    | (intro u hu; simp at hu; rcases hu with rfl | rfl | rfl <;> rfl)
    | (intro j u hj
       match j, hj with
       | 0, hj => simp at hj; subst hj; simp [Addr.add]
       | 1, hj => simp at hj; subst hj; simp [Addr.add]
       | 2, hj => simp at hj; subst hj; simp [Addr.add]
       | (j + 3), hj => simp at hj)

set_option maxHeartbeats 4000000 in
set_option maxRecDepth 100000 in
theorem rune_four (a : Option Addr) (n cap : Nat) (xs : List Value) (r : Int) (h0 : 65536 ≤ r) (h1 : r ≤ 1114111) (w : World) (hown : w.ownsRow 0 5 1 (.slice a n cap) n xs) (hlen : n + 4 ≤ 140737488355328) :
    Calls Tryz.prog 190 #[.slice a n cap, .int .i32 r] w (Grew w a n xs [.int .u8 (240 + r / 262144), .int .u8 (128 + r / 4096 % 64), .int .u8 (128 + r / 64 % 64), .int .u8 (128 + r % 64)]) := by
  obtain ⟨i0, hi, hz0, hz1, hz2⟩ := info_parts Tryz.infoByte
  go_enter Tryz.func190, Tryz.ntmps190
  go_wp2_with (at_builtin; refine wpList_append_mine _ rfl _ _ 74 rfl 5 i0 (.int .u8 0) 1 1 Tryz.underlying74 hi hz0 hz1 hz2 rfl (by decide) a n cap xs rfl (hown.alloc _) ⟨w.heap.size, 0, none⟩ 4 4 [.int .u8 (240 + r / 262144), .int .u8 (128 + r / 4096 % 64), .int .u8 (128 + r / 64 % 64), .int .u8 (128 + r % 64)] rfl rfl ?c1 ?c2 (by decide) ?c3 ?c4 ?next)
  all_goals first
    | (intro a' cap' w2 hown' hgrow hfresh; go_wp2; go_ret; exact ⟨a', cap', _, rfl, hown', hgrow, by simpa using hfresh⟩)
    | exact ⟨rfl, rfl, rfl⟩
    | (unfold maxLen; omega)
    | omega
    | (intro u hu; simp at hu; rcases hu with rfl | rfl | rfl | rfl <;> rfl)
    | (intro j u hj
       match j, hj with
       | 0, hj => simp at hj; subst hj; simp [Addr.add]
       | 1, hj => simp at hj; subst hj; simp [Addr.add]
       | 2, hj => simp at hj; subst hj; simp [Addr.add]
       | 3, hj => simp at hj; subst hj; simp [Addr.add]
       | (j + 4), hj => simp at hj)

set_option maxHeartbeats 4000000 in
set_option maxRecDepth 100000 in
theorem rune_badNeg (a : Option Addr) (n cap : Nat) (xs : List Value) (r : Int) (h0 : -2147483648 ≤ r) (h1 : r < 0) (w : World) (hown : w.ownsRow 0 5 1 (.slice a n cap) n xs) (hlen : n + 4 ≤ 140737488355328) :
    Calls Tryz.prog 190 #[.slice a n cap, .int .i32 r] w (Grew w a n xs [.int .u8 239, .int .u8 191, .int .u8 189]) := by
  obtain ⟨i0, hi, hz0, hz1, hz2⟩ := info_parts Tryz.infoByte
  go_enter Tryz.func190, Tryz.ntmps190
  go_wp2_with (at_builtin; refine wpList_append_mine _ rfl _ _ 74 rfl 5 i0 (.int .u8 0) 1 1 Tryz.underlying74 hi hz0 hz1 hz2 rfl (by decide) a n cap xs rfl (hown.alloc _) ⟨w.heap.size, 0, none⟩ 3 3 [.int .u8 239, .int .u8 191, .int .u8 189] rfl rfl ?c1 ?c2 (by decide) ?c3 ?c4 ?next)
  all_goals first
    | (intro a' cap' w2 hown' hgrow hfresh; go_wp2; go_ret; exact ⟨a', cap', _, rfl, hown', hgrow, by simpa using hfresh⟩)
    | exact ⟨rfl, rfl, rfl⟩
    | (unfold maxLen; omega)
    | omega
    | (intro u hu; simp at hu; rcases hu with rfl | rfl | rfl <;> rfl)
    | (intro j u hj
       match j, hj with
       | 0, hj => simp at hj; subst hj; simp [Addr.add]
       | 1, hj => simp at hj; subst hj; simp [Addr.add]
       | 2, hj => simp at hj; subst hj; simp [Addr.add]
       | (j + 3), hj => simp at hj)

set_option maxHeartbeats 4000000 in
set_option maxRecDepth 100000 in
theorem rune_badSur (a : Option Addr) (n cap : Nat) (xs : List Value) (r : Int) (h0 : 55296 ≤ r) (h1 : r ≤ 57343) (w : World) (hown : w.ownsRow 0 5 1 (.slice a n cap) n xs) (hlen : n + 4 ≤ 140737488355328) :
    Calls Tryz.prog 190 #[.slice a n cap, .int .i32 r] w (Grew w a n xs [.int .u8 239, .int .u8 191, .int .u8 189]) := by
  obtain ⟨i0, hi, hz0, hz1, hz2⟩ := info_parts Tryz.infoByte
  go_enter Tryz.func190, Tryz.ntmps190
  go_wp2_with (at_builtin; refine wpList_append_mine _ rfl _ _ 74 rfl 5 i0 (.int .u8 0) 1 1 Tryz.underlying74 hi hz0 hz1 hz2 rfl (by decide) a n cap xs rfl (hown.alloc _) ⟨w.heap.size, 0, none⟩ 3 3 [.int .u8 239, .int .u8 191, .int .u8 189] rfl rfl ?c1 ?c2 (by decide) ?c3 ?c4 ?next)
  all_goals first
    | (intro a' cap' w2 hown' hgrow hfresh; go_wp2; go_ret; exact ⟨a', cap', _, rfl, hown', hgrow, by simpa using hfresh⟩)
    | exact ⟨rfl, rfl, rfl⟩
    | (unfold maxLen; omega)
    | omega
    | (intro u hu; simp at hu; rcases hu with rfl | rfl | rfl <;> rfl)
    | (intro j u hj
       match j, hj with
       | 0, hj => simp at hj; subst hj; simp [Addr.add]
       | 1, hj => simp at hj; subst hj; simp [Addr.add]
       | 2, hj => simp at hj; subst hj; simp [Addr.add]
       | (j + 3), hj => simp at hj)

set_option maxHeartbeats 4000000 in
set_option maxRecDepth 100000 in
theorem rune_badBig (a : Option Addr) (n cap : Nat) (xs : List Value) (r : Int) (h0 : 1114111 < r) (h1 : r ≤ 2147483647) (w : World) (hown : w.ownsRow 0 5 1 (.slice a n cap) n xs) (hlen : n + 4 ≤ 140737488355328) :
    Calls Tryz.prog 190 #[.slice a n cap, .int .i32 r] w (Grew w a n xs [.int .u8 239, .int .u8 191, .int .u8 189]) := by
  obtain ⟨i0, hi, hz0, hz1, hz2⟩ := info_parts Tryz.infoByte
  go_enter Tryz.func190, Tryz.ntmps190
  go_wp2_with (at_builtin; refine wpList_append_mine _ rfl _ _ 74 rfl 5 i0 (.int .u8 0) 1 1 Tryz.underlying74 hi hz0 hz1 hz2 rfl (by decide) a n cap xs rfl (hown.alloc _) ⟨w.heap.size, 0, none⟩ 3 3 [.int .u8 239, .int .u8 191, .int .u8 189] rfl rfl ?c1 ?c2 (by decide) ?c3 ?c4 ?next)
  all_goals first
    | (intro a' cap' w2 hown' hgrow hfresh; go_wp2; go_ret; exact ⟨a', cap', _, rfl, hown', hgrow, by simpa using hfresh⟩)
    | exact ⟨rfl, rfl, rfl⟩
    | (unfold maxLen; omega)
    | omega
    | (intro u hu; simp at hu; rcases hu with rfl | rfl | rfl <;> rfl)
    | (intro j u hj
       match j, hj with
       | 0, hj => simp at hj; subst hj; simp [Addr.add]
       | 1, hj => simp at hj; subst hj; simp [Addr.add]
       | 2, hj => simp at hj; subst hj; simp [Addr.add]
       | (j + 3), hj => simp at hj)

set_option maxHeartbeats 4000000 in
set_option maxRecDepth 100000 in
theorem rune_ascii (a : Option Addr) (n cap : Nat) (xs : List Value) (r : Int) (h0 : 0 ≤ r) (h1 : r ≤ 127) (w : World) (hown : w.ownsRow 0 5 1 (.slice a n cap) n xs) (hlen : n + 4 ≤ 140737488355328) :
    Calls Tryz.prog 126 #[.slice a n cap, .int .i32 r] w (Grew w a n xs [.int .u8 r]) := by
  obtain ⟨i0, hi, hz0, hz1, hz2⟩ := info_parts Tryz.infoByte
  go_enter Tryz.func126, Tryz.ntmps126
  go_wp2_with (at_builtin; refine wpList_append_mine _ rfl _ _ 74 rfl 5 i0 (.int .u8 0) 1 1 Tryz.underlying74 hi hz0 hz1 hz2 rfl (by decide) a n cap xs rfl (hown.alloc _) ⟨w.heap.size, 0, none⟩ 1 1 [.int .u8 r] rfl rfl ?c1 ?c2 (by decide) ?c3 ?c4 ?next)
  all_goals first
    | (intro a' cap' w2 hown' hgrow hfresh; go_wp2; go_ret; exact ⟨a', cap', _, rfl, hown', hgrow, by simpa using hfresh⟩)
    | exact ⟨rfl, rfl, rfl⟩
    | (unfold maxLen; omega)
    | omega
    | (intro u hu; simp at hu; rcases hu with rfl <;> rfl)
    | (intro j u hj
       match j, hj with
       | 0, hj => simp at hj; subst hj; simp [Addr.add]
       | (j + 1), hj => simp at hj)

theorem rune_nonAscii (a : Option Addr) (n cap : Nat) (xs : List Value) (r : Int) (hr0 : -2147483648 ≤ r) (hr1 : r ≤ 2147483647) (hna : r < 0 ∨ 128 ≤ r) (w : World) (hown : w.ownsRow 0 5 1 (.slice a n cap) n xs) (hlen : n + 4 ≤ 140737488355328) :
    Calls Tryz.prog 190 #[.slice a n cap, .int .i32 r] w (Grew w a n xs (Lib.runeCells r)) := by
  by_cases c0 : r < 0
  · rw [show Lib.runeCells r = [.int .u8 239, .int .u8 191, .int .u8 189] by simp [Lib.runeCells, Lib.encodeRuneZ_bad (Or.inl c0)]]
    exact rune_badNeg a n cap xs r hr0 c0 w hown hlen
  by_cases c1 : r ≤ 2047
  · rw [show Lib.runeCells r = [.int .u8 (192 + r / 64), .int .u8 (128 + r % 64)] by simp [Lib.runeCells, Lib.encodeRuneZ_two (by omega) c1]]
    exact rune_two a n cap xs r (by omega) c1 w hown hlen
  by_cases c2 : r < 55296
  · rw [show Lib.runeCells r = [.int .u8 (224 + r / 4096), .int .u8 (128 + r / 64 % 64), .int .u8 (128 + r % 64)] by simp [Lib.runeCells, Lib.encodeRuneZ_three (Or.inl ⟨by omega, c2⟩)]]
    exact rune_threeLo a n cap xs r (by omega) c2 w hown hlen
  by_cases c3 : r ≤ 57343
  · rw [show Lib.runeCells r = [.int .u8 239, .int .u8 191, .int .u8 189] by simp [Lib.runeCells, Lib.encodeRuneZ_bad (Or.inr (Or.inl ⟨by omega, c3⟩))]]
    exact rune_badSur a n cap xs r (by omega) c3 w hown hlen
  by_cases c4 : r ≤ 65535
  · rw [show Lib.runeCells r = [.int .u8 (224 + r / 4096), .int .u8 (128 + r / 64 % 64), .int .u8 (128 + r % 64)] by simp [Lib.runeCells, Lib.encodeRuneZ_three (Or.inr ⟨by omega, c4⟩)]]
    exact rune_threeHi a n cap xs r (by omega) c4 w hown hlen
  by_cases c5 : r ≤ 1114111
  · rw [show Lib.runeCells r = [.int .u8 (240 + r / 262144), .int .u8 (128 + r / 4096 % 64), .int .u8 (128 + r / 64 % 64), .int .u8 (128 + r % 64)] by simp [Lib.runeCells, Lib.encodeRuneZ_four (by omega) c5]]
    exact rune_four a n cap xs r (by omega) c5 w hown hlen
  · rw [show Lib.runeCells r = [.int .u8 239, .int .u8 191, .int .u8 189] by simp [Lib.runeCells, Lib.encodeRuneZ_bad (r := r) (Or.inr (Or.inr (by omega)))]]
    exact rune_badBig a n cap xs r (by omega) hr1 w hown hlen

set_option maxHeartbeats 4000000 in
theorem rune_other (a : Option Addr) (n cap : Nat) (xs : List Value) (r : Int) (hr0 : -2147483648 ≤ r) (hr1 : r ≤ 2147483647) (hna : r < 0 ∨ 128 ≤ r) (w : World) (hown : w.ownsRow 0 5 1 (.slice a n cap) n xs) (hlen : n + 4 ≤ 140737488355328) :
    Calls Tryz.prog 126 #[.slice a n cap, .int .i32 r] w (Grew w a n xs (Lib.runeCells r)) := by
  rcases hna with hna | hna
  all_goals
    go_enter Tryz.func126, Tryz.ntmps126
    go_wp2_with (go_at_call 190; refine (rune_nonAscii a n cap xs r hr0 hr1 (by omega) _ hown hlen).mono ?_)
    rintro e w1 ⟨a', cap', o, rfl, h1, h2, h3⟩
    go_wp2
    go_ret
    exact ⟨a', cap', o, rfl, h1, h2, h3⟩

/-- The bytes of a code point as it is written. -/
theorem runeCells_bytes (r : Int) : Lib.runeCells r = byteCells (Lib.encodeRune r) := by
  have e : ∀ x ∈ Lib.encodeRuneZ r, ((x.toNat.toUInt8).toNat : Int) = x := by
    intro x hx
    have hb : 0 ≤ x ∧ x < 256 := by
      unfold Lib.encodeRuneZ at hx
      split at hx
      · simp at hx; omega
      split at hx
      · simp at hx; omega
      split at hx
      · simp at hx; omega
      split at hx
      · simp at hx; omega
      · simp at hx; omega
    have : x.toNat % 256 = x.toNat := Nat.mod_eq_of_lt (by omega)
    simp only [UInt8.toNat_ofNat', Nat.toUInt8, this]
    omega
  simp only [Lib.runeCells, byteCells, Lib.encodeRune, List.map_map]
  exact List.map_congr_left fun x hx => by simp only [Function.comp]; rw [e x hx]

theorem appendRune_does (r0 : Sl) (l : Str) (r : Int) (hr0 : -2147483648 ≤ r) (hr1 : r ≤ 2147483647) (w : World) (hown : (bItem r0 l).ok w) (hlen : l.length + 4 ≤ 140737488355328) :
    Calls Tryz.prog 126 #[.slice r0.a l.length r0.cap, .int .i32 r] w fun e w' => ∃ (r' : Sl) (o : Obj), e = .returned (.slice r'.a (l ++ Lib.encodeRune r).length r'.cap) ∧ (bItem r' (l ++ Lib.encodeRune r)).ok w' ∧ (w.alloc o).grownBy w' (r0.a.map (·.block)) ∧ Fresh (w.alloc o) r0.a r'.a := by
  have h : Calls Tryz.prog 126 #[.slice r0.a l.length r0.cap, .int .i32 r] w (Grew w r0.a l.length (byteCells l) (Lib.runeCells r)) := by
    by_cases h0 : 0 ≤ r ∧ r ≤ 127
    · rw [show Lib.runeCells r = [.int .u8 r] by simp [Lib.runeCells, Lib.encodeRuneZ_one h0.1 h0.2]]
      exact rune_ascii r0.a l.length r0.cap (byteCells l) r h0.1 h0.2 w hown hlen
    · exact rune_other r0.a l.length r0.cap (byteCells l) r hr0 hr1 (by omega) w hown hlen
  refine h.mono ?_
  rintro e w' ⟨a', cap', o, rfl, h1, h2, h3⟩
  rw [runeCells_bytes] at h1 ⊢
  have e1 : (byteCells (Lib.encodeRune r)).length = (Lib.encodeRune r).length := by simp [byteCells]
  rw [e1] at h1
  rw [e1]
  refine ⟨⟨some a', cap'⟩, o, by simp, ?_, h2, ?_⟩
  · simp only [Item.ok, bItem, List.length_append, byteCells, List.map_append] at h1 ⊢
    exact h1
  · rcases h3 with h3 | h3
    · exact .inl h3
    · exact .inr ⟨a'.block, rfl, by simpa using h3⟩
end Go.Proofs.YtdfmapcnfficlaaGreatDoor

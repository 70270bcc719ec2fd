/-
  Code points out of bytes.
-/
import Derived.Test.YtdfmapcnfficlaaGreatDoorFull2
set_option linter.unusedSimpArgs false
set_option linter.unusedVariables false
namespace Go.Proofs.YtdfmapcnfficlaaGreatDoor
open Go Go.RowKit

theorem tabs_more {w w' : World} (h : Lib.Utf8Tabs 2 3 w) (hm : More w w') : Lib.Utf8Tabs 2 3 w' :=
  Utf8Tabs_below h ⟨hm.os, hm.tape, hm.output, hm.size, hm.block⟩
theorem More.trans {a b c : World} (h : More a b) (k : More b c) : More a c :=
  ⟨k.os.trans h.os, k.tape.trans h.tape, k.output.trans h.output, Nat.le_trans h.size k.size, fun i hi => (k.block i (Nat.lt_of_lt_of_le hi h.size)).trans (h.block i hi)⟩

def brokenFrom (x : Str) : Nat → Nat → Nat
  | 0, n => n
  | f + 1, n => if n < x.length ∧ fullR (x.take (n + 1)) = false then brokenFrom x f (n + 1) else n
def broken (x : Str) : Nat := brokenFrom x x.length 1
theorem brokenFrom_le (x : Str) : ∀ f n, n ≤ brokenFrom x f n ∧ (n ≤ x.length → brokenFrom x f n ≤ x.length)
  | 0, n => ⟨Nat.le_refl _, id⟩
  | f + 1, n => by
    rw [brokenFrom]
    split
    · rename_i h
      have := brokenFrom_le x f (n + 1)
      exact ⟨by omega, fun _ => this.2 (by omega)⟩
    · exact ⟨Nat.le_refl _, id⟩

set_option maxHeartbeats 1600000 in
set_option maxRecDepth 1000000 in
theorem brokenSize_does (x : Str) (w : World) (hx : x.length ≤ lim) (hT : Lib.Utf8Tabs 2 3 w) :
    Calls Tryz.prog 87 #[.string ⟨x.toArray⟩] w fun e w' => e = .returned (.int .i64 (broken x)) ∧ More w w' := by
  have HT := hide hT
  unfold lim at hx
  clear hT
  go_enter Tryz.func87, Tryz.ntmps87
  go_wp2
  go_loopg [3] x.length (fun gf s3 wx => ∃ n : Nat, s3 = .int .i64 n ∧ 1 ≤ n ∧ x.length ≤ n + gf ∧ n ≤ x.length + 1 ∧ brokenFrom x gf n = broken x ∧ More w wx)
  case atStart => exact ⟨1, rfl, by omega, by omega, by omega, rfl, More.refl _⟩
  case round =>
    obtain ⟨n, rfl, h1, h2, h3, hb, hm⟩ := hrel
    by_cases hn : n < x.length
    · obtain ⟨g', rfl⟩ : ∃ g', gk = g' + 1 := ⟨gk - 1, by omega⟩
      rw [brokenFrom] at hb
      have hnz : (n : Int) < (x.length : Int) := by omega
      have hsl : ∀ W, (Instr.slice 9 (.string ⟨x.toArray⟩) none (some (.int .i64 ((n : Int) + 1))) none).run Tryz.prog W = .ok (.string ⟨(x.take (n + 1)).toArray⟩) W := fun W => by
        rw [run_slice_string_to_if W 9 ⟨x.toArray⟩ .i64 ((n : Int) + 1) Tryz.underlying9, if_pos ⟨by omega, by simp [ByteArray.size]; omega⟩, show ((n : Int) + 1).toNat = n + 1 by omega, extract_list]
      have HC := hide (full_does (x.take (n + 1)) wr (tabs_more (unhide HT) hm))
      have HM := hide hm
      clear hm
      cases hf : fullR (x.take (n + 1))
      · rw [hf] at HC
        rw [if_pos ⟨hn, hf⟩] at hb
        have HB := hide hb
        clear hb hf
        go_wp2_with (go_at_call 85; refine (unhide HC).mono ?_; rintro e w2 ⟨rfl, hm2⟩)
        go_roundg g'
        case measure => omega
        case rel => exact ⟨n + 1, by go_num, by omega, by omega, by omega, unhide HB, (unhide HM).trans hm2⟩
      · rw [hf] at HC
        rw [if_neg (by rw [hf]; simp)] at hb
        have HB := hide hb
        clear hb hf
        go_wp2_with (go_at_call 85; refine (unhide HC).mono ?_; rintro e w2 ⟨rfl, hm2⟩)
        go_ret
        exact ⟨by rw [← unhide HB]; rfl, (unhide HM).trans hm2⟩
    · have hb' : n = broken x := by
        rw [← hb]
        cases gk with
        | zero => rfl
        | succ g => rw [brokenFrom, if_neg (fun hh => hn hh.1)]
      have hnz : (x.length : Int) ≤ (n : Int) := by omega
      have HB := hide hb'
      have HM := hide hm
      clear hb hb' hm
      go_wp2
      go_ret
      exact ⟨by rw [← unhide HB]; rfl, unhide HM⟩

def firstPt (x : Str) : Int × Nat :=
  if fullR x = false then (0, 0)
  else if ((Lib.decodeGo ⟨x.toArray⟩).1 : Int) = 65533 ∧ ((Lib.decodeGo ⟨x.toArray⟩).2 : Int) = 1 then (65533, broken x)
  else ((Lib.decodeGo ⟨x.toArray⟩).1, (Lib.decodeGo ⟨x.toArray⟩).2)

set_option maxHeartbeats 1600000 in
set_option maxRecDepth 1000000 in
theorem firstPoint_does (x : Str) (w : World) (hx : x.length ≤ lim) (hT : Lib.Utf8Tabs 2 3 w) :
    Calls Tryz.prog 55 #[.string ⟨x.toArray⟩] w fun e w' => e = .returned (.tuple #[.int .i32 (firstPt x).1, .int .i64 (firstPt x).2]) ∧ More w w' := by
  have HC := hide (full_does x w hT)
  have HD := hide (fun w' (h : More w w') => Tryz.utf8_DecodeRuneInString ⟨x.toArray⟩ w' (tabs_more hT h))
  have HB := hide (fun w' (h : More w w') => brokenSize_does x w' hx (tabs_more hT h))
  clear hT hx
  unfold firstPt
  generalize ((Lib.decodeGo ⟨x.toArray⟩).1 : Nat) = d at *
  generalize ((Lib.decodeGo ⟨x.toArray⟩).2 : Nat) = k at *
  cases hf : fullR x
  · rw [hf] at HC
    rw [if_pos rfl]
    go_enter Tryz.func55, Tryz.ntmps55
    go_wp2_with (go_at_call 85; refine (unhide HC).mono ?_; rintro e w2 ⟨rfl, hm2⟩)
    go_ret2
    exact ⟨rfl, hm2⟩
  · rw [hf] at HC
    rw [if_neg (by decide)]
    by_cases h1 : (d : Int) = 65533
    · have e1 : ((d : Int) == 65533) = true := by simp [h1]
      by_cases h2 : (k : Int) = 1
      · have e2 : ((k : Int) == 1) = true := by simp [h2]
        rw [if_pos ⟨h1, h2⟩]
        clear h2
        go_enter Tryz.func55, Tryz.ntmps55
        go_wp2_with (first
          | (go_at_call 85; refine (unhide HC).mono ?_; rintro e w2 ⟨rfl, hm2⟩)
          | (go_at_call 86; refine (unhide HD _ hm2).mono ?_; rintro e w3 ⟨rfl, hb3⟩; have hm3 := hm2.trans (More.of_below hb3))
          | (go_at_call 87; refine (unhide HB _ hm3).mono ?_; rintro e w4 ⟨rfl, hm4⟩))
        go_ret2
        exact ⟨by simp [h1], hm3.trans hm4⟩
      · have e2 : ((k : Int) == 1) = false := by simpa using h2
        rw [if_neg (fun hh => h2 hh.2)]
        clear h2 h1
        go_enter Tryz.func55, Tryz.ntmps55
        go_wp2_with (first
          | (go_at_call 85; refine (unhide HC).mono ?_; rintro e w2 ⟨rfl, hm2⟩)
          | (go_at_call 86; refine (unhide HD _ hm2).mono ?_; rintro e w3 ⟨rfl, hb3⟩; have hm3 := hm2.trans (More.of_below hb3)))
        go_ret2
        exact ⟨rfl, hm3⟩
    · have e1 : ((d : Int) == 65533) = false := by simpa using h1
      rw [if_neg (fun hh => h1 hh.1)]
      clear h1
      go_enter Tryz.func55, Tryz.ntmps55
      go_wp2_with (first
        | (go_at_call 85; refine (unhide HC).mono ?_; rintro e w2 ⟨rfl, hm2⟩)
        | (go_at_call 86; refine (unhide HD _ hm2).mono ?_; rintro e w3 ⟨rfl, hb3⟩; have hm3 := hm2.trans (More.of_below hb3)))
      go_ret2
      exact ⟨rfl, hm3⟩
end Go.Proofs.YtdfmapcnfficlaaGreatDoor

/-
  The law's 'name', 'value', 'low'.
  The law's 'attrs'.
  A slice of pieces.
-/
import Derived.Test.YtdfmapcnfficlaaGreatDoorPage4L
import Derived.Test.YtdfmapcnfficlaaGreatDoorB12
import Derived.Test.YtdfmapcnfficlaaGreatDoorB20
import Derived.Deep.LoopGhost
import Derived.Test.YtdfmapcnfficlaaGreatDoorB46
set_option linter.unusedSimpArgs false
set_option linter.unusedVariables false
namespace Go.Proofs.YtdfmapcnfficlaaGreatDoor
open Go Go.RowKit

set_option maxHeartbeats 1600000 in
set_option maxRecDepth 1000000 in
theorem name_does (c : Int) (w : World) (h1 : -9223372036854775808 ≤ c) (h2 : c ≤ 9223372036854775807) :
    Calls Tryz.prog 38 #[.int .i64 c] w fun e w' => e = .returned (.string ⟨(encs (nameP c)).toArray⟩) ∧ More w w' := by
  have hr := pickN_range c 8 (by decide)
  have HP := hide (fun W => pick_does c 8 W h1 h2 (by decide) (by decide))
  unfold nameP
  generalize pickN c 8 = k at *
  have hk : k = 0 ∨ k = 1 ∨ k = 2 ∨ k = 3 ∨ k = 4 ∨ k = 5 ∨ k = 6 ∨ k = 7 := by omega
  clear hr h1 h2
  rcases hk with rfl | rfl | rfl | rfl | rfl | rfl | rfl | rfl
  all_goals
    go_enter Tryz.func38, Tryz.ntmps38
    go_wp2_with fail
    refine (unhide HP _).mono ?_
    rintro e w1 ⟨rfl, rfl⟩
    go_wp2
    go_ret
    exact ⟨by kernel_rfl, (More.refl w).alloc _⟩

set_option maxHeartbeats 1600000 in
set_option maxRecDepth 1000000 in
theorem value_does (c : Int) (w : World) (h1 : -9223372036854775808 ≤ c) (h2 : c ≤ 9223372036854775807) :
    Calls Tryz.prog 40 #[.int .i64 c] w fun e w' => e = .returned (.string ⟨(encs (valueP c)).toArray⟩) ∧ More w w' := by
  have hr := pickN_range c 6 (by decide)
  have HP := hide (fun W => pick_does c 6 W h1 h2 (by decide) (by decide))
  unfold valueP
  generalize pickN c 6 = k at *
  have hk : k = 0 ∨ k = 1 ∨ k = 2 ∨ k = 3 ∨ k = 4 ∨ k = 5 := by omega
  clear hr h1 h2
  rcases hk with rfl | rfl | rfl | rfl | rfl | rfl
  all_goals
    go_enter Tryz.func40, Tryz.ntmps40
    go_wp2_with fail
    refine (unhide HP _).mono ?_
    rintro e w1 ⟨rfl, rfl⟩
    go_wp2
    go_ret
    exact ⟨by kernel_rfl, (More.refl w).alloc _⟩

def lowB (b : UInt8) : UInt8 := if 65 ≤ b.toNat ∧ b.toNat ≤ 90 then b + 32 else b
def lowL (s : Str) : Str := s.map lowB
theorem conv_one (w : World) (b : UInt8) (z : Int) (hz : z = (b.toNat : Int)) : (convert 74 9 (.slice (some ⟨w.heap.size, 0, none⟩) 1 1)).run Tryz.prog (w.alloc (.cells #[.int .u8 z] 5)) = .ok (.string ⟨[b].toArray⟩) (w.alloc (.cells #[.int .u8 z] 5)) := by
  subst hz
  refine run_convert_bytes_back (P := Tryz.prog) _ 74 9 5 ⟨w.heap.size, 0, none⟩ 1 [b] Tryz.underlying74 Tryz.underlying5 Tryz.underlying9 fun j hj => ?_
  have : j = 0 := by simpa using hj
  subst this
  simp [Addr.add]
theorem lowB_up {b : UInt8} (h1 : 65 ≤ b.toNat) (h2 : b.toNat ≤ 90) : (lowB b).toNat = b.toNat + 32 := by
  unfold lowB
  rw [if_pos ⟨h1, h2⟩, UInt8.toNat_add]
  have : (32 : UInt8).toNat = 32 := rfl
  omega
set_option maxHeartbeats 1600000 in
set_option maxRecDepth 1000000 in
theorem lowK_does (s : Str) (w : World) (hs : s.length ≤ 1000) :
    Calls Tryz.prog 39 #[.string ⟨s.toArray⟩] w fun e w' => e = .returned (.string ⟨(lowL s).toArray⟩) ∧ More w w' := by
  go_enter Tryz.func39, Tryz.ntmps39
  go_wp2
  go_loopw [3, 4] (fun t i wr => ∃ (k : Nat), k ≤ s.length ∧ i = .int .i64 (k : Int) ∧ t = .string ⟨(lowL (s.take k)).toArray⟩ ∧ More w wr) (fun _ i _ => s.length - (intOf i).toNat)
  case atStart => exact ⟨0, Nat.zero_le _, rfl, rfl, More.refl w⟩
  case round =>
    obtain ⟨k, hk, rfl, rfl, hm⟩ := hrel
    by_cases hlt : k < s.length
    · have hh : k < (⟨s.toArray⟩ : ByteArray).size := by simpa [ByteArray.size] using hlt
      obtain ⟨b, hb⟩ : ∃ b, (⟨s.toArray⟩ : ByteArray)[k]'hh = b := ⟨_, rfl⟩
      have HS := hide (show lowL (s.take (k + 1)) = lowL (s.take k) ++ [lowB b] by
        have e : s.take (k + 1) = s.take k ++ [b] := by
          rw [List.take_succ_eq_append_getElem hlt, ← hb]
          rfl
        rw [e, lowL, List.map_append]
        rfl)
      have hll : (lowL (s.take k)).length ≤ 1000 := by rw [lowL, List.length_map]; have := List.length_take_le k s; omega
      have hb256 := lt256 b
      have hcat := fun W => cat_run (lowL (s.take k)) [lowB b] W (by unfold lim; simp; omega)
      generalize lowL (s.take k) = t at *
      obtain ⟨t', ht'⟩ : ∃ t' : Str, t' = t ++ [lowB b] := ⟨_, rfl⟩
      rw [← ht'] at hcat HS
      clear ht' hll
      by_cases hA : 65 ≤ b.toNat
      · by_cases hZ : b.toNat ≤ 90
        · have hcv := conv_one wr (lowB b) ((b.toNat : Int) + 32) (by rw [lowB_up hA hZ]; rfl)
          have hcat' := hcat (wr.alloc (.cells #[.int .u8 ((b.toNat : Int) + 32)] 5))
          clear hcat
          go_wp2
          go_roundw
          case rel => exact ⟨k + 1, by omega, by go_num, by rw [unhide HS], hm.alloc _⟩
          case measure => simp [intOf]; omega
        · have hcv := conv_one wr (lowB b) (b.toNat : Int) (by unfold lowB; rw [if_neg (by omega)])
          have hcat' := hcat (wr.alloc (.cells #[.int .u8 (b.toNat : Int)] 5))
          clear hcat
          go_wp2
          go_roundw
          case rel => exact ⟨k + 1, by omega, by go_num, by rw [unhide HS], hm.alloc _⟩
          case measure => simp [intOf]; omega
      · have hcv := conv_one wr (lowB b) (b.toNat : Int) (by unfold lowB; rw [if_neg (by omega)])
        have hcat' := hcat (wr.alloc (.cells #[.int .u8 (b.toNat : Int)] 5))
        clear hcat
        go_wp2
        go_roundw
        case rel => exact ⟨k + 1, by omega, by go_num, by rw [unhide HS], hm.alloc _⟩
        case measure => simp [intOf]; omega
    · have HK := hide (show lowL (s.take k) = lowL s by rw [List.take_of_length_le (by omega)])
      generalize lowL (s.take k) = t at *
      go_wp2
      go_ret
      rw [unhide HK]
      exact ⟨rfl, hm⟩

theorem low_names : ∀ l ∈ names8, lowL (encs l) = encs (l.map lowC) := by decide
theorem low_names7 : ∀ l ∈ names7, lowL (encs l) = encs (l.map lowC) := by decide
theorem low_app (a b : Str) : lowL (a ++ b) = lowL a ++ lowL b := List.map_append
theorem attName_enc (i : Nat) (z : Int) : encs (attNameP i z) = encs (nameP z) ++ List.replicate i 122 := by
  unfold attNameP
  rw [encs_app, encs_z]
theorem low_attName (i : Nat) (z : Int) : lowL (encs (attNameP i z)) = attNm i z := by
  rw [attName_enc, low_app, low_names _ (name_mem z), attNm_eq, lowL, List.map_replicate]
  rfl
theorem names8_len : ∀ l ∈ names8, (encs l).length ≤ 6 := by decide
theorem values6_len : ∀ l ∈ values6, (encs l).length ≤ 9 := by decide
end Go.Proofs.YtdfmapcnfficlaaGreatDoor

set_option linter.unusedSimpArgs false
set_option linter.unusedVariables false
namespace Go.Proofs.YtdfmapcnfficlaaGreatDoor
open Go Go.RowKit

theorem tdiv_rangeP {z n : Int} (h1 : -9223372036854775808 ≤ z) (h2 : z ≤ 9223372036854775807) (hn : 0 < n) : -9223372036854775808 ≤ z.tdiv n ∧ z.tdiv n ≤ 9223372036854775807 := by
  by_cases hz : 0 ≤ z
  · rw [Int.tdiv_eq_ediv_of_nonneg hz]
    have := Int.ediv_nonneg hz (by omega : 0 ≤ n)
    have := Int.ediv_le_self n hz
    omega
  · obtain ⟨y, rfl⟩ : ∃ y, z = -y := ⟨-z, by omega⟩
    have hy : 0 ≤ y := by omega
    rw [Int.neg_tdiv, Int.tdiv_eq_ediv_of_nonneg hy]
    have := Int.ediv_nonneg hy (by omega : 0 ≤ n)
    have := Int.ediv_le_self n hy
    omega
theorem blanks3_len : ∀ l ∈ blanks3, (encs l).length ≤ 3 := by decide
theorem attVal_len (z : Int) : (encs (attValP z)).length ≤ 9 := by
  have h := values6_len _ (value_mem (z.tdiv 8))
  unfold attValP
  repeat' split
  all_goals first | exact h | decide
theorem attName_len (i : Nat) (z : Int) : (encs (attNameP i z)).length ≤ 6 + i := by
  have h := names8_len _ (name_mem z)
  rw [attName_enc, List.length_append, List.length_replicate]
  omega
theorem attP_len (i : Nat) (z : Int) : (encs (attP i z)).length ≤ 32 + i := by
  have h1 := blanks3_len _ (blank_mem (z.tdiv 48))
  have h2 := attName_len i z
  have h3 := attVal_len z
  have h4 : (encs (attRestP z)).length ≤ 5 + (encs (attValP z)).length := by
    unfold attRestP
    repeat' split
    all_goals try simp only [encs_app, List.length_append]
    · rw [show (encs [61, 34]).length = 2 from rfl, show (encs [34]).length = 1 from rfl]; omega
    · rw [show (encs [32, 61, 32, 39]).length = 4 from rfl, show (encs [39]).length = 1 from rfl]; omega
    · rw [show (encs [61]).length = 1 from rfl]; omega
    · rw [show (encs []).length = 0 from rfl]; omega
  unfold attP
  rw [encs_app, encs_app, List.length_append, List.length_append]
  omega
theorem attsP_len (l : List Int) : ∀ k, k ≤ 6 → (encs (attsP l k)).length ≤ 64 * k
  | 0, _ => by simp [attsP, encs]
  | k + 1, h => by
    have h1 := attsP_len l k (by omega)
    have h2 := attP_len k (l.getD k 0)
    rw [attsP, encs_app, List.length_append]
    omega
theorem attsT_len (l : List Int) : ∀ k, (attsT l k).length = 2 * k
  | 0 => rfl
  | k + 1 => by
    rw [attsT, List.length_append, attsT_len l k]
    rfl
theorem sum_cat {x y z : Str} (h : z = x ++ y) (hl : x.length + y.length ≤ 1000000000) (W : World) : (Op.stringOp .add ⟨x.toArray⟩ ⟨y.toArray⟩).run Tryz.prog W = .ok (.string ⟨z.toArray⟩) W := by
  rw [h]
  exact cat_run x y W (by unfold lim; omega)

theorem plainV {z : Int} (hw : wayP z = 2) : (encs (valueP (z.tdiv 8)) = [] ∧ attValP z = plainP) ∨ (encs (valueP (z.tdiv 8)) = encs twoP ∧ attValP z = plainP) ∨ ((encs (valueP (z.tdiv 8)) == []) = false ∧ (encs (valueP (z.tdiv 8)) == [116, 119, 111, 32, 119, 111, 114, 100, 115]) = false ∧ attValP z = valueP (z.tdiv 8)) := by
  have h := value_mem (z.tdiv 8)
  unfold attValP
  rw [if_neg (by omega), if_pos hw]
  generalize valueP (z.tdiv 8) = v at *
  simp only [values6, List.mem_cons, List.not_mem_nil, or_false] at h
  rcases h with rfl | rfl | rfl | rfl | rfl | rfl <;> decide
set_option maxHeartbeats 8000000 in
set_option maxRecDepth 1000000 in
theorem attrsK_does (l : List Int) (v : Value) (w : World) (h : IntsV w v l) (hl : l.length ≤ 9223372036854775807) :
    Calls Tryz.prog 41 #[v] w fun e w' => ∃ x : Sl, e = .returned (.tuple #[.string ⟨(encs (attsP l (attK l))).toArray⟩, .slice x.a (attsT l (attK l)).length x.cap]) ∧ More w w' ∧ (aItem x (attsT l (attK l))).ok w' ∧ (∀ k, x.a.map (·.block) = some k → w.heap.size ≤ k) := by
  obtain ⟨a, cap, rfl, h1, h2, h3⟩ := h
  obtain ⟨i0, hi, hz0, hz1, hz2⟩ := info_parts Tryz.infoStr
  have H1 := hide h1
  have H3 := hide h3
  clear h1 h3
  go_enter Tryz.func41, Tryz.ntmps41
  go_wp2
  go_loopw [4, 5, 6] (fun sv tv i wr => ∃ (k : Nat) (x : Sl), k ≤ l.length ∧ k ≤ 6 ∧ i = .int .i64 (k : Int) ∧ sv = .string ⟨(encs (attsP l k)).toArray⟩ ∧ tv = .slice x.a (attsT l k).length x.cap ∧ More w wr ∧ (aItem x (attsT l k)).ok wr ∧ (∀ k, x.a.map (·.block) = some k → w.heap.size ≤ k)) (fun _ _ i _ => 6 - (intOf i).toNat)
  case atStart => exact ⟨0, nilSl, Nat.zero_le _, by decide, rfl, rfl, rfl, More.refl w, aItem_nil_ok w, by simp [nilSl]⟩
  case round =>
    obtain ⟨k, x, hk, hk6, rfl, rfl, rfl, hm, hok, hnew⟩ := hrel
    by_cases hend : k < l.length ∧ k < 6
    · obtain ⟨hlt, hlt6⟩ := hend
      obtain ⟨z, hz⟩ : ∃ z, l[k]? = some z := ⟨l[k], by simp [hlt]⟩
      have hzD : l.getD k 0 = z := by rw [List.getD_eq_getElem?_getD, hz]; rfl
      have hne : l ≠ [] := fun e => by subst e; simp at hlt
      obtain ⟨g, o, rfl, hg, hcell⟩ := unhide H1 hne
      have hcz : wr.cell? ⟨g, o + k, none⟩ = some (.int .i64 z) := by rw [World.cell?_of_block (w := w) (hm.block g hg)]; exact hcell k z hz
      have hzr := unhide H3 z (List.mem_of_getElem? hz)
      have hglt : g < wr.heap.size := by have := hm.size; omega
      have HN := hide (name_does z wr hzr.1 hzr.2)
      have hd8 : -9223372036854775808 ≤ z.tdiv 8 ∧ z.tdiv 8 ≤ 9223372036854775807 := tdiv_rangeP hzr.1 hzr.2 (by decide)
      have hd48 : -9223372036854775808 ≤ z.tdiv 48 ∧ z.tdiv 48 ≤ 9223372036854775807 := tdiv_rangeP hzr.1 hzr.2 (by decide)
      have hd144 : -9223372036854775808 ≤ z.tdiv 144 ∧ z.tdiv 144 ≤ 9223372036854775807 := tdiv_rangeP hzr.1 hzr.2 (by decide)
      have HV := hide (fun W => value_does (z.tdiv 8) W hd8.1 hd8.2)
      have HP3 := hide (fun W => pick_does (z.tdiv 48) 3 W hd48.1 hd48.2 (by decide) (by decide))
      have HP4 := hide (fun W => pick_does (z.tdiv 144) 4 W hd144.1 hd144.2 (by decide) (by decide))
      have hr3 := pickN_range (z.tdiv 48) 3 (by decide)
      have hr4 := pickN_range (z.tdiv 144) 4 (by decide)
      obtain ⟨j, hj⟩ : ∃ j : Nat, pickN (z.tdiv 48) 3 = j := ⟨(pickN (z.tdiv 48) 3).toNat, by omega⟩
      have hbl := blanks3_len _ (blank_mem (z.tdiv 48))
      have hbc : (#[Value.string ⟨#[32]⟩, Value.string ⟨#[10]⟩, Value.string ⟨#[9, 32, 32]⟩] : Array Value)[j]? = some (.string ⟨(encs (blankP (z.tdiv 48))).toArray⟩) := by
        unfold blankP
        rw [hj] at hr3 ⊢
        have : j = 0 ∨ j = 1 ∨ j = 2 := by omega
        rcases this with rfl | rfl | rfl <;> rfl
      have hj3 : j < 3 := by omega
      rw [hj] at HP3
      have HBC := hide hbc
      clear hj hr3 hbc
      have hsl := attsP_len l k hk6
      have hnl := names8_len _ (name_mem z)
      have hvl := values6_len _ (value_mem (z.tdiv 8))
      have HST := hide (show encs (attsP l (k + 1)) = encs (attsP l k) ++ (encs (blankP (z.tdiv 48)) ++ (encs (attNameP k z) ++ encs (attRestP z))) by rw [attsP, encs_app, hzD, attP, encs_app, encs_app])
      have HTT := hide (show attsT l (k + 1) = attsT l k ++ [attNm k z, encs (attValP z)] by rw [attsT, hzD])
      have HLT := hide (attsT_len l k)
      have HLW := hide (low_attName k z)
      have HNE := hide (attName_enc k z)
      have hnal := attName_len k z
      obtain ⟨hd8a, hd8b⟩ := hd8
      obtain ⟨hd48a, hd48b⟩ := hd48
      obtain ⟨hd144a, hd144b⟩ := hd144
      clear hcell hz hg hzr hzD hne
      generalize encs (attsP l k) = S at *
      generalize attsT l k = TT at *
      generalize wr = wo at *
      have HWY := hide (show wayP z = pickN (z.tdiv 144) 4 from rfl)
      go_wp2_with fail
      refine (unhide HN).mono ?_
      rintro e w1 ⟨rfl, m1⟩
      have c1 : w1.cell? ⟨g, o + k, none⟩ = some (.int .i64 z) := by rw [World.cell?_of_block (w := wo) (m1.block g hglt)]; exact hcz
      clear HN hcz
      generalize encs (nameP z) = N0 at *
      go_wp2
      go_loopw [7, 8] (fun n kk wx => ∃ m : Nat, m ≤ k ∧ kk = .int .i64 (m : Int) ∧ n = .string ⟨(N0 ++ List.replicate m 122).toArray⟩ ∧ wx = w1) (fun _ kk _ => k - (intOf kk).toNat)
      case atStart => exact ⟨0, Nat.zero_le _, rfl, by simp, rfl⟩
      case round =>
        obtain ⟨m, hmk', rfl, rfl, rfl⟩ := hrel
        by_cases hmk : m < k
        · have hcat := sum_cat (x := N0 ++ List.replicate m 122) (y := [122]) (z := N0 ++ List.replicate (m + 1) 122) (by rw [List.replicate_succ', List.append_assoc]) (by simp; omega) wr
          obtain ⟨N2, hN2⟩ : ∃ N : Str, N = N0 ++ List.replicate (m + 1) 122 := ⟨_, rfl⟩
          rw [← hN2] at hcat
          have HN2 := hide hN2
          clear hN2
          generalize N0 ++ List.replicate m 122 = N1 at *
          go_wp2
          go_roundw
          case rel => exact ⟨m + 1, by omega, by go_num, by rw [unhide HN2], by first | rfl | trivial⟩
          case measure => simp [intOf]; omega
        · have hNMl : (N0 ++ List.replicate m 122).length ≤ 6 + k := by rw [List.length_append, List.length_replicate]; omega
          have HNM := hide (show N0 ++ List.replicate m 122 = encs (attNameP k z) by rw [unhide HNE, show m = k by omega])
          generalize N0 ++ List.replicate m 122 = NM at *
          go_wp2_with fail
          refine (unhide HV _).mono ?_
          rintro e w2 ⟨rfl, m2⟩
          have c2 : w2.cell? ⟨g, o + k, none⟩ = some (.int .i64 z) := by rw [World.cell?_of_block (w := wr) (m2.block g (by have := m1.size; omega))]; exact c1
          have hg2 : g < w2.heap.size := by have := m1.size; have := m2.size; omega
          clear HV c1
          go_wp2_with fail
          refine (unhide HP3 _).mono ?_
          rintro e w3 ⟨rfl, rfl⟩
          have hc3 : (w2.alloc (.cells #[.string ⟨#[32]⟩, .string ⟨#[10]⟩, .string ⟨#[9, 32, 32]⟩] 9)).cell? ⟨w2.heap.size, j, none⟩ = some (.string ⟨(encs (blankP (z.tdiv 48))).toArray⟩) := (World.cell?_alloc_at _ _ _ _ rfl).trans (unhide HBC)
          obtain ⟨Z1, hZ1⟩ : ∃ Z : Str, Z = S ++ encs (blankP (z.tdiv 48)) := ⟨_, rfl⟩
          obtain ⟨Z2, hZ2⟩ : ∃ Z : Str, Z = Z1 ++ NM := ⟨_, rfl⟩
          have q1 := sum_cat hZ1 (by omega) (w2.alloc (.cells #[.string ⟨#[32]⟩, .string ⟨#[10]⟩, .string ⟨#[9, 32, 32]⟩] 9))
          have q2 := sum_cat hZ2 (by rw [hZ1, List.length_append]; omega) (w2.alloc (.cells #[.string ⟨#[32]⟩, .string ⟨#[10]⟩, .string ⟨#[9, 32, 32]⟩] 9))
          have HZ := hide (show Z2 = S ++ (encs (blankP (z.tdiv 48)) ++ NM) by rw [hZ2, hZ1, List.append_assoc])
          have hz2l : Z2.length ≤ 64 * k + 3 + (6 + k) := by rw [hZ2, hZ1, List.length_append, List.length_append]; omega
          clear HBC hZ1 hZ2
          generalize encs (blankP (z.tdiv 48)) = BL at *
          go_wp2_with fail
          refine (unhide HP4 _).mono ?_
          rintro e w3 ⟨rfl, rfl⟩
          have M3 := hide ((m1.trans' m2).alloc (.cells #[.string ⟨#[32]⟩, .string ⟨#[10]⟩, .string ⟨#[9, 32, 32]⟩] 9))
          generalize w2.alloc (.cells #[.string ⟨#[32]⟩, .string ⟨#[10]⟩, .string ⟨#[9, 32, 32]⟩] 9) = w3 at *
          have HLow := hide (fun W => lowK_does NM W (by omega))
          rw [show lowL NM = attNm k z by rw [unhide HNM]; exact unhide HLW] at HLow
          obtain ⟨hb1, hb2⟩ : TT.length + 2 ≤ maxLen ∧ (TT.length + 2) * 16 ≤ 140737488355328 := by rw [unhide HLT]; unfold maxLen; omega
          clear c2 hc3 q1 q2 HP4 HP3 hg2 m1 m2 hglt HLW HNE hj3 hd8a hd8b hd48a hd48b hd144a hd144b
          generalize attNm k z = LN at *
          generalize pickN (z.tdiv 144) 4 = q at *
          by_cases hq0 : q = 0
          · subst hq0
            have HEV := hide (show encs (attValP z) = encs (valueP (z.tdiv 8)) by unfold attValP; rw [if_pos (.inl (unhide HWY))])
            have HER := hide (show encs (attRestP z) = [61, 34] ++ (encs (valueP (z.tdiv 8)) ++ [34]) by unfold attRestP; rw [if_pos (unhide HWY), encs_app, encs_app, unhide HEV]; rfl)
            generalize encs (valueP (z.tdiv 8)) = V0 at *
            obtain ⟨Y1, hY1⟩ : ∃ Z : Str, Z = Z2 ++ [61, 34] := ⟨_, rfl⟩
            have q10 : (Op.stringOp .add ⟨Z2.toArray⟩ ⟨#[61, 34]⟩).run Tryz.prog w3 = .ok (.string ⟨Y1.toArray⟩) w3 := sum_cat (y := [61, 34]) hY1 (by simp; omega) w3
            obtain ⟨Y2, hY2⟩ : ∃ Z : Str, Z = Y1 ++ V0 := ⟨_, rfl⟩
            have q11 : (Op.stringOp .add ⟨Y1.toArray⟩ ⟨V0.toArray⟩).run Tryz.prog w3 = .ok (.string ⟨Y2.toArray⟩) w3 := sum_cat (y := V0) hY2 (by rw [hY1, List.length_append]; simp; omega) w3
            obtain ⟨Y3, hY3⟩ : ∃ Z : Str, Z = Y2 ++ [34] := ⟨_, rfl⟩
            have q12 : (Op.stringOp .add ⟨Y2.toArray⟩ ⟨#[34]⟩).run Tryz.prog w3 = .ok (.string ⟨Y3.toArray⟩) w3 := sum_cat (y := [34]) hY3 (by rw [hY2, List.length_append]; rw [hY1, List.length_append]; simp; omega) w3
            have HZF := hide (show Y3 = encs (attsP l (k + 1)) by rw [unhide HST, unhide HER, hY3, hY2, hY1, unhide HZ, ← unhide HNM]; simp [List.append_assoc])
            clear hY1 hY2 hY3
            go_wp2_with fail
            refine (unhide HLow _).mono ?_
            rintro e w4 ⟨rfl, m4⟩
            have M4 := (unhide M3).trans' m4
            have hown4 : w4.ownsRow 0 9 1 (.slice x.a TT.length x.cap) TT.length (TT.map str) := Item.ok_kept hok fun k hk => M4.block k (Item.lt hok k hk)
            have HM4 := hide M4
            clear M4 m4 HLow
            go_wp2_with (at_builtin; refine wpList_append_mine _ rfl _ _ 23 rfl 9 i0 _ 1 16 Tryz.underlying23 hi hz0 hz1 hz2 rfl (by decide) x.a TT.length x.cap (TT.map str) rfl (by exact World.ownsRow.alloc hown4 _) ⟨w4.heap.size, 0, none⟩ 2 2 [str LN, str V0] rfl rfl ?c1 ?c2 (by decide) hb1 hb2 ?next)
            case c1 =>
              intro j u hj
              match j, hj with
              | 0, hj => simp at hj; subst hj; simp [Addr.add, str]
              | 1, hj => simp at hj; subst hj; simp [Addr.add, str]
              | (j + 2), hj => simp at hj
            case c2 => intro u hu; simp at hu; rcases hu with rfl | rfl <;> rfl
            case next =>
              intro a' cap' w' g1 g2 g3
              have HG1 := hide g1
              have HG2 := hide g2
              have HG3 := hide g3
              clear g1 g2 g3
              go_wp2
              go_roundw
              case rel =>
                refine ⟨k + 1, ⟨some a', cap'⟩, by omega, by omega, by go_num, by rw [unhide HZF], by rw [unhide HTT, List.length_append]; rfl, ?_, ?_, ?_⟩
                · exact More.grown' hm (unhide HG2) (fun k hk => hnew k hk) trivial ((unhide HM4).alloc _)
                · rw [unhide HTT]
                  have := unhide HG1
                  rw [← unhide HEV] at this
                  simpa [Item.ok, aItem] using this
                · intro q' hq'
                  have hq : a'.block = q' := by simpa using hq'
                  rcases unhide HG3 with g3 | g3
                  · exact hnew q' (by rw [← g3, hq])
                  · have := (unhide HM4).size
                    have := hm.size
                    try simp at g3
                    omega
              case measure => simp [intOf]; omega
          have e0 : (q == 0) = false := by simpa using hq0
          by_cases hq1 : q = 1
          · subst hq1
            have HEV := hide (show encs (attValP z) = encs (valueP (z.tdiv 8)) by unfold attValP; rw [if_pos (.inr (unhide HWY))])
            have HER := hide (show encs (attRestP z) = [32, 61, 32, 39] ++ (encs (valueP (z.tdiv 8)) ++ [39]) by unfold attRestP; rw [if_neg (by rw [unhide HWY]; decide), if_pos (unhide HWY), encs_app, encs_app, unhide HEV]; rfl)
            clear hq0 e0
            generalize encs (valueP (z.tdiv 8)) = V0 at *
            obtain ⟨Y1, hY1⟩ : ∃ Z : Str, Z = Z2 ++ [32, 61, 32, 39] := ⟨_, rfl⟩
            have q10 : (Op.stringOp .add ⟨Z2.toArray⟩ ⟨#[32, 61, 32, 39]⟩).run Tryz.prog w3 = .ok (.string ⟨Y1.toArray⟩) w3 := sum_cat (y := [32, 61, 32, 39]) hY1 (by simp; omega) w3
            obtain ⟨Y2, hY2⟩ : ∃ Z : Str, Z = Y1 ++ V0 := ⟨_, rfl⟩
            have q11 : (Op.stringOp .add ⟨Y1.toArray⟩ ⟨V0.toArray⟩).run Tryz.prog w3 = .ok (.string ⟨Y2.toArray⟩) w3 := sum_cat (y := V0) hY2 (by rw [hY1, List.length_append]; simp; omega) w3
            obtain ⟨Y3, hY3⟩ : ∃ Z : Str, Z = Y2 ++ [39] := ⟨_, rfl⟩
            have q12 : (Op.stringOp .add ⟨Y2.toArray⟩ ⟨#[39]⟩).run Tryz.prog w3 = .ok (.string ⟨Y3.toArray⟩) w3 := sum_cat (y := [39]) hY3 (by rw [hY2, List.length_append]; rw [hY1, List.length_append]; simp; omega) w3
            have HZF := hide (show Y3 = encs (attsP l (k + 1)) by rw [unhide HST, unhide HER, hY3, hY2, hY1, unhide HZ, ← unhide HNM]; simp [List.append_assoc])
            clear hY1 hY2 hY3
            go_wp2_with fail
            refine (unhide HLow _).mono ?_
            rintro e w4 ⟨rfl, m4⟩
            have M4 := (unhide M3).trans' m4
            have hown4 : w4.ownsRow 0 9 1 (.slice x.a TT.length x.cap) TT.length (TT.map str) := Item.ok_kept hok fun k hk => M4.block k (Item.lt hok k hk)
            have HM4 := hide M4
            clear M4 m4 HLow
            go_wp2_with (at_builtin; refine wpList_append_mine _ rfl _ _ 23 rfl 9 i0 _ 1 16 Tryz.underlying23 hi hz0 hz1 hz2 rfl (by decide) x.a TT.length x.cap (TT.map str) rfl (by exact World.ownsRow.alloc hown4 _) ⟨w4.heap.size, 0, none⟩ 2 2 [str LN, str V0] rfl rfl ?c1 ?c2 (by decide) hb1 hb2 ?next)
            case c1 =>
              intro j u hj
              match j, hj with
              | 0, hj => simp at hj; subst hj; simp [Addr.add, str]
              | 1, hj => simp at hj; subst hj; simp [Addr.add, str]
              | (j + 2), hj => simp at hj
            case c2 => intro u hu; simp at hu; rcases hu with rfl | rfl <;> rfl
            case next =>
              intro a' cap' w' g1 g2 g3
              have HG1 := hide g1
              have HG2 := hide g2
              have HG3 := hide g3
              clear g1 g2 g3
              go_wp2
              go_roundw
              case rel =>
                refine ⟨k + 1, ⟨some a', cap'⟩, by omega, by omega, by go_num, by rw [unhide HZF], by rw [unhide HTT, List.length_append]; rfl, ?_, ?_, ?_⟩
                · exact More.grown' hm (unhide HG2) (fun k hk => hnew k hk) trivial ((unhide HM4).alloc _)
                · rw [unhide HTT]
                  have := unhide HG1
                  rw [← unhide HEV] at this
                  simpa [Item.ok, aItem] using this
                · intro q' hq'
                  have hq : a'.block = q' := by simpa using hq'
                  rcases unhide HG3 with g3 | g3
                  · exact hnew q' (by rw [← g3, hq])
                  · have := (unhide HM4).size
                    have := hm.size
                    try simp at g3
                    omega
              case measure => simp [intOf]; omega
          have e1 : (q == 1) = false := by simpa using hq1
          by_cases hq2 : q = 2
          · subst hq2
            have HER := hide (show encs (attRestP z) = [61] ++ encs (attValP z) by unfold attRestP; rw [if_neg (by rw [unhide HWY]; decide), if_neg (by rw [unhide HWY]; decide), if_pos (unhide HWY), encs_app]; rfl)
            clear hq0 e0 hq1 e1
            rcases plainV (unhide HWY) with ⟨p1, p2⟩ | ⟨p1, p2⟩ | ⟨p1, p2, p3⟩
            · have HEV := hide (show encs (attValP z) = [112, 108, 97, 105, 110] by rw [p2]; rfl)
              have p1' : encs (valueP (z.tdiv 8)) = [] := p1
              rw [p1']
              clear p1 p1' p2
              obtain ⟨Y1, hY1⟩ : ∃ Z : Str, Z = Z2 ++ [61] := ⟨_, rfl⟩
              have q10 : (Op.stringOp .add ⟨Z2.toArray⟩ ⟨#[61]⟩).run Tryz.prog w3 = .ok (.string ⟨Y1.toArray⟩) w3 := sum_cat (y := [61]) hY1 (by simp; omega) w3
              obtain ⟨Y2, hY2⟩ : ∃ Z : Str, Z = Y1 ++ [112, 108, 97, 105, 110] := ⟨_, rfl⟩
              have q11 : (Op.stringOp .add ⟨Y1.toArray⟩ ⟨#[112, 108, 97, 105, 110]⟩).run Tryz.prog w3 = .ok (.string ⟨Y2.toArray⟩) w3 := sum_cat (y := [112, 108, 97, 105, 110]) hY2 (by rw [hY1, List.length_append]; simp; omega) w3
              have HZF := hide (show Y2 = encs (attsP l (k + 1)) by rw [unhide HST, unhide HER, unhide HEV, hY2, hY1, unhide HZ, ← unhide HNM]; simp [List.append_assoc])
              clear hY1 hY2
              go_wp2_with fail
              refine (unhide HLow _).mono ?_
              rintro e w4 ⟨rfl, m4⟩
              have M4 := (unhide M3).trans' m4
              have hown4 : w4.ownsRow 0 9 1 (.slice x.a TT.length x.cap) TT.length (TT.map str) := Item.ok_kept hok fun k hk => M4.block k (Item.lt hok k hk)
              have HM4 := hide M4
              clear M4 m4 HLow
              go_wp2_with (at_builtin; refine wpList_append_mine _ rfl _ _ 23 rfl 9 i0 _ 1 16 Tryz.underlying23 hi hz0 hz1 hz2 rfl (by decide) x.a TT.length x.cap (TT.map str) rfl (by exact World.ownsRow.alloc hown4 _) ⟨w4.heap.size, 0, none⟩ 2 2 [str LN, str [112, 108, 97, 105, 110]] rfl rfl ?c1 ?c2 (by decide) hb1 hb2 ?next)
              case c1 =>
                intro j u hj
                match j, hj with
                | 0, hj => simp at hj; subst hj; simp [Addr.add, str]
                | 1, hj => simp at hj; subst hj; simp [Addr.add, str]
                | (j + 2), hj => simp at hj
              case c2 => intro u hu; simp at hu; rcases hu with rfl | rfl <;> rfl
              case next =>
                intro a' cap' w' g1 g2 g3
                have HG1 := hide g1
                have HG2 := hide g2
                have HG3 := hide g3
                clear g1 g2 g3
                go_wp2
                go_roundw
                case rel =>
                  refine ⟨k + 1, ⟨some a', cap'⟩, by omega, by omega, by go_num, by rw [unhide HZF], by rw [unhide HTT, List.length_append]; rfl, ?_, ?_, ?_⟩
                  · exact More.grown' hm (unhide HG2) (fun k hk => hnew k hk) trivial ((unhide HM4).alloc _)
                  · rw [unhide HTT]
                    have := unhide HG1
                    rw [← unhide HEV] at this
                    simpa [Item.ok, aItem] using this
                  · intro q' hq'
                    have hq : a'.block = q' := by simpa using hq'
                    rcases unhide HG3 with g3 | g3
                    · exact hnew q' (by rw [← g3, hq])
                    · have := (unhide HM4).size
                      have := hm.size
                      try simp at g3
                      omega
                case measure => simp [intOf]; omega
            · have HEV := hide (show encs (attValP z) = [112, 108, 97, 105, 110] by rw [p2]; rfl)
              have p1' : encs (valueP (z.tdiv 8)) = [116, 119, 111, 32, 119, 111, 114, 100, 115] := p1
              rw [p1']
              clear p1 p1' p2
              obtain ⟨Y1, hY1⟩ : ∃ Z : Str, Z = Z2 ++ [61] := ⟨_, rfl⟩
              have q10 : (Op.stringOp .add ⟨Z2.toArray⟩ ⟨#[61]⟩).run Tryz.prog w3 = .ok (.string ⟨Y1.toArray⟩) w3 := sum_cat (y := [61]) hY1 (by simp; omega) w3
              obtain ⟨Y2, hY2⟩ : ∃ Z : Str, Z = Y1 ++ [112, 108, 97, 105, 110] := ⟨_, rfl⟩
              have q11 : (Op.stringOp .add ⟨Y1.toArray⟩ ⟨#[112, 108, 97, 105, 110]⟩).run Tryz.prog w3 = .ok (.string ⟨Y2.toArray⟩) w3 := sum_cat (y := [112, 108, 97, 105, 110]) hY2 (by rw [hY1, List.length_append]; simp; omega) w3
              have HZF := hide (show Y2 = encs (attsP l (k + 1)) by rw [unhide HST, unhide HER, unhide HEV, hY2, hY1, unhide HZ, ← unhide HNM]; simp [List.append_assoc])
              clear hY1 hY2
              go_wp2_with fail
              refine (unhide HLow _).mono ?_
              rintro e w4 ⟨rfl, m4⟩
              have M4 := (unhide M3).trans' m4
              have hown4 : w4.ownsRow 0 9 1 (.slice x.a TT.length x.cap) TT.length (TT.map str) := Item.ok_kept hok fun k hk => M4.block k (Item.lt hok k hk)
              have HM4 := hide M4
              clear M4 m4 HLow
              go_wp2_with (at_builtin; refine wpList_append_mine _ rfl _ _ 23 rfl 9 i0 _ 1 16 Tryz.underlying23 hi hz0 hz1 hz2 rfl (by decide) x.a TT.length x.cap (TT.map str) rfl (by exact World.ownsRow.alloc hown4 _) ⟨w4.heap.size, 0, none⟩ 2 2 [str LN, str [112, 108, 97, 105, 110]] rfl rfl ?c1 ?c2 (by decide) hb1 hb2 ?next)
              case c1 =>
                intro j u hj
                match j, hj with
                | 0, hj => simp at hj; subst hj; simp [Addr.add, str]
                | 1, hj => simp at hj; subst hj; simp [Addr.add, str]
                | (j + 2), hj => simp at hj
              case c2 => intro u hu; simp at hu; rcases hu with rfl | rfl <;> rfl
              case next =>
                intro a' cap' w' g1 g2 g3
                have HG1 := hide g1
                have HG2 := hide g2
                have HG3 := hide g3
                clear g1 g2 g3
                go_wp2
                go_roundw
                case rel =>
                  refine ⟨k + 1, ⟨some a', cap'⟩, by omega, by omega, by go_num, by rw [unhide HZF], by rw [unhide HTT, List.length_append]; rfl, ?_, ?_, ?_⟩
                  · exact More.grown' hm (unhide HG2) (fun k hk => hnew k hk) trivial ((unhide HM4).alloc _)
                  · rw [unhide HTT]
                    have := unhide HG1
                    rw [← unhide HEV] at this
                    simpa [Item.ok, aItem] using this
                  · intro q' hq'
                    have hq : a'.block = q' := by simpa using hq'
                    rcases unhide HG3 with g3 | g3
                    · exact hnew q' (by rw [← g3, hq])
                    · have := (unhide HM4).size
                      have := hm.size
                      try simp at g3
                      omega
                case measure => simp [intOf]; omega
            · have HEV := hide (show encs (attValP z) = encs (valueP (z.tdiv 8)) by rw [p3])
              clear p3
              generalize encs (valueP (z.tdiv 8)) = V0 at *
              obtain ⟨Y1, hY1⟩ : ∃ Z : Str, Z = Z2 ++ [61] := ⟨_, rfl⟩
              have q10 : (Op.stringOp .add ⟨Z2.toArray⟩ ⟨#[61]⟩).run Tryz.prog w3 = .ok (.string ⟨Y1.toArray⟩) w3 := sum_cat (y := [61]) hY1 (by simp; omega) w3
              obtain ⟨Y2, hY2⟩ : ∃ Z : Str, Z = Y1 ++ V0 := ⟨_, rfl⟩
              have q11 : (Op.stringOp .add ⟨Y1.toArray⟩ ⟨V0.toArray⟩).run Tryz.prog w3 = .ok (.string ⟨Y2.toArray⟩) w3 := sum_cat (y := V0) hY2 (by rw [hY1, List.length_append]; simp; omega) w3
              have HZF := hide (show Y2 = encs (attsP l (k + 1)) by rw [unhide HST, unhide HER, unhide HEV, hY2, hY1, unhide HZ, ← unhide HNM]; simp [List.append_assoc])
              clear hY1 hY2
              go_wp2_with fail
              refine (unhide HLow _).mono ?_
              rintro e w4 ⟨rfl, m4⟩
              have M4 := (unhide M3).trans' m4
              have hown4 : w4.ownsRow 0 9 1 (.slice x.a TT.length x.cap) TT.length (TT.map str) := Item.ok_kept hok fun k hk => M4.block k (Item.lt hok k hk)
              have HM4 := hide M4
              clear M4 m4 HLow
              go_wp2_with (at_builtin; refine wpList_append_mine _ rfl _ _ 23 rfl 9 i0 _ 1 16 Tryz.underlying23 hi hz0 hz1 hz2 rfl (by decide) x.a TT.length x.cap (TT.map str) rfl (by exact World.ownsRow.alloc hown4 _) ⟨w4.heap.size, 0, none⟩ 2 2 [str LN, str V0] rfl rfl ?c1 ?c2 (by decide) hb1 hb2 ?next)
              case c1 =>
                intro j u hj
                match j, hj with
                | 0, hj => simp at hj; subst hj; simp [Addr.add, str]
                | 1, hj => simp at hj; subst hj; simp [Addr.add, str]
                | (j + 2), hj => simp at hj
              case c2 => intro u hu; simp at hu; rcases hu with rfl | rfl <;> rfl
              case next =>
                intro a' cap' w' g1 g2 g3
                have HG1 := hide g1
                have HG2 := hide g2
                have HG3 := hide g3
                clear g1 g2 g3
                go_wp2
                go_roundw
                case rel =>
                  refine ⟨k + 1, ⟨some a', cap'⟩, by omega, by omega, by go_num, by rw [unhide HZF], by rw [unhide HTT, List.length_append]; rfl, ?_, ?_, ?_⟩
                  · exact More.grown' hm (unhide HG2) (fun k hk => hnew k hk) trivial ((unhide HM4).alloc _)
                  · rw [unhide HTT]
                    have := unhide HG1
                    rw [← unhide HEV] at this
                    simpa [Item.ok, aItem] using this
                  · intro q' hq'
                    have hq : a'.block = q' := by simpa using hq'
                    rcases unhide HG3 with g3 | g3
                    · exact hnew q' (by rw [← g3, hq])
                    · have := (unhide HM4).size
                      have := hm.size
                      try simp at g3
                      omega
                case measure => simp [intOf]; omega
          · have e2 : (q == 2) = false := by simpa using hq2
            have HEV := hide (show encs (attValP z) = [] by unfold attValP; rw [if_neg (by rw [unhide HWY]; omega), if_neg (by rw [unhide HWY]; exact hq2)]; rfl)
            have HER := hide (show encs (attRestP z) = [] by unfold attRestP; rw [if_neg (by rw [unhide HWY]; exact hq0), if_neg (by rw [unhide HWY]; exact hq1), if_neg (by rw [unhide HWY]; exact hq2)]; rfl)
            have HZF := hide (show Z2 = encs (attsP l (k + 1)) by rw [unhide HST, unhide HER, unhide HZ, ← unhide HNM]; simp [List.append_assoc])
            clear hq0 hq1 hq2
            go_wp2_with fail
            refine (unhide HLow _).mono ?_
            rintro e w4 ⟨rfl, m4⟩
            have M4 := (unhide M3).trans' m4
            have hown4 : w4.ownsRow 0 9 1 (.slice x.a TT.length x.cap) TT.length (TT.map str) := Item.ok_kept hok fun k hk => M4.block k (Item.lt hok k hk)
            have HM4 := hide M4
            clear M4 m4 HLow
            go_wp2_with (at_builtin; refine wpList_append_mine _ rfl _ _ 23 rfl 9 i0 _ 1 16 Tryz.underlying23 hi hz0 hz1 hz2 rfl (by decide) x.a TT.length x.cap (TT.map str) rfl (by exact World.ownsRow.alloc hown4 _) ⟨w4.heap.size, 0, none⟩ 2 2 [str LN, str []] rfl rfl ?c1 ?c2 (by decide) hb1 hb2 ?next)
            case c1 =>
              intro j u hj
              match j, hj with
              | 0, hj => simp at hj; subst hj; simp [Addr.add, str]
              | 1, hj => simp at hj; subst hj; simp [Addr.add, str]
              | (j + 2), hj => simp at hj
            case c2 => intro u hu; simp at hu; rcases hu with rfl | rfl <;> rfl
            case next =>
              intro a' cap' w' g1 g2 g3
              have HG1 := hide g1
              have HG2 := hide g2
              have HG3 := hide g3
              clear g1 g2 g3
              go_wp2
              go_roundw
              case rel =>
                refine ⟨k + 1, ⟨some a', cap'⟩, by omega, by omega, by go_num, by rw [unhide HZF], by rw [unhide HTT, List.length_append]; rfl, ?_, ?_, ?_⟩
                · exact More.grown' hm (unhide HG2) (fun k hk => hnew k hk) trivial ((unhide HM4).alloc _)
                · rw [unhide HTT]
                  have := unhide HG1
                  rw [← unhide HEV] at this
                  simpa [Item.ok, aItem] using this
                · intro q' hq'
                  have hq : a'.block = q' := by simpa using hq'
                  rcases unhide HG3 with g3 | g3
                  · exact hnew q' (by rw [← g3, hq])
                  · have := (unhide HM4).size
                    have := hm.size
                    try simp at g3
                    omega
              case measure => simp [intOf]; omega
    · have hK : attK l = k := by unfold attK; omega
      have HS' := hide (show encs (attsP l (attK l)) = encs (attsP l k) by rw [hK])
      have HT' := hide (show attsT l (attK l) = attsT l k by rw [hK])
      clear hK
      generalize encs (attsP l k) = S at *
      generalize attsT l k = TT at *
      by_cases hlt : k < l.length
      · have h6 : k = 6 := by omega
        subst h6
        go_wp2
        go_ret2
        rw [unhide HS', unhide HT']
        exact ⟨x, rfl, hm, hok, hnew⟩
      · go_wp2
        go_ret2
        rw [unhide HS', unhide HT']
        exact ⟨x, rfl, hm, hok, hnew⟩
end Go.Proofs.YtdfmapcnfficlaaGreatDoor

set_option linter.unusedSimpArgs false
set_option linter.unusedVariables false
namespace Go.Proofs.YtdfmapcnfficlaaGreatDoor
open Go Go.RowKit

/-- The slice v of pieces reads as l. -/
def PcsV (w : World) (v : Value) (l : List PieceD) : Prop := ∃ a cap, v = .slice a l.length cap ∧ (l ≠ [] → ∃ g o, a = some ⟨g, o, none⟩ ∧ g < w.heap.size ∧ ∀ (j : Nat) (p : PieceD), l[j]? = some p → ∃ va, w.cell? ⟨g, o + j * 3, none⟩ = some (.int .i64 p.kind) ∧ w.cell? ⟨g, o + j * 3 + 1, none⟩ = some (.int .i64 p.n) ∧ w.cell? ⟨g, o + j * 3 + 2, none⟩ = some va ∧ IntsV w va p.attrs) ∧ l.length ≤ cap ∧ ∀ p ∈ l, (-9223372036854775808 ≤ p.kind ∧ p.kind ≤ 9223372036854775807) ∧ (-9223372036854775808 ≤ p.n ∧ p.n ≤ 9223372036854775807) ∧ p.attrs.length ≤ 9223372036854775807
theorem PcsV.more {w w' : World} {v : Value} {l : List PieceD} (h : PcsV w v l) (hm : More w w') : PcsV w' v l := by
  obtain ⟨a, cap, rfl, h1, h2, h3⟩ := h
  refine ⟨a, cap, rfl, fun hl => ?_, h2, h3⟩
  obtain ⟨g, o, e, hg, hc⟩ := h1 hl
  refine ⟨g, o, e, by have := hm.size; omega, fun j p hp => ?_⟩
  obtain ⟨va, c0, c1, c2, hI⟩ := hc j p hp
  have hb := hm.block g hg
  exact ⟨va, by rw [World.cell?_of_block (w := w) hb]; exact c0, by rw [World.cell?_of_block (w := w) hb]; exact c1, by rw [World.cell?_of_block (w := w) hb]; exact c2, hI.more hm⟩
end Go.Proofs.YtdfmapcnfficlaaGreatDoor

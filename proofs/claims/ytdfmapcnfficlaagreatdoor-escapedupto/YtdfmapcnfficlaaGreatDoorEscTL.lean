/-
  Escape, byte by byte.
  The law's 'letters': a text of whole code points without NUL.
  A list of tokens of one's own, whose attributes lie elsewhere.
-/
import Derived.Test.YtdfmapcnfficlaaGreatDoorEsc2L
import Derived.Test.YtdfmapcnfficlaaGreatDoorB12
import Derived.Test.YtdfmapcnfficlaaGreatDoorB05
import Derived.Deep.LoopGhost
import Derived.Test.YtdfmapcnfficlaaGreatDoorB46
import Derived.Laws.Cover4
import Derived.Deep.DeepCutAuto
set_option linter.unusedSimpArgs false
set_option linter.unusedVariables false
namespace Go.Proofs.YtdfmapcnfficlaaGreatDoor
open Go Go.RowKit

/-- A row of bytes of the call's own, since w0. -/
structure Mine (w0 w : World) (r : Sl) (l : Str) : Prop where
  ok : (bItem r l).ok w
  more : More w0 w
  new : ∀ k, r.a.map (·.block) = some k → w0.heap.size ≤ k
theorem Mine.grown {w0 w w1 w' : World} {r : Sl} {l l' : Str} (h : Mine w0 w r l) (hm : More w w1) {ao : Option Addr} {cap : Nat} (hown : w'.ownsRow 0 5 1 (.slice ao (l.length + l'.length) cap) (l.length + l'.length) (byteCells l ++ byteCells l')) (hg : w1.grownBy w' (r.a.map (·.block))) (hf : ao.map (·.block) = r.a.map (·.block) ∨ (∀ k, ao.map (·.block) = some k → w1.heap.size ≤ k)) : Mine w0 w' ⟨ao, cap⟩ (l ++ l') := by
  refine ⟨?_, More.grown' h.more hg h.new trivial hm, fun k hk => ?_⟩
  · unfold Item.ok bItem
    rw [List.length_append, show byteCells (l ++ l') = byteCells l ++ byteCells l' by simp [byteCells]]
    exact hown
  · rcases hf with hf | hf
    · exact h.new k (by rw [← hf]; exact hk)
    · have := hf k hk
      have := hm.size
      have := h.more.size
      omega
theorem fresh_or {w : World} {a a' : Option Addr} (h : Fresh w a a') : a'.map (·.block) = a.map (·.block) ∨ (∀ k, a'.map (·.block) = some k → w.heap.size ≤ k) := by
  rcases h with h | ⟨g, h, hg⟩
  · exact .inl h
  · exact .inr fun k hk => by rw [h] at hk; cases hk; exact hg
set_option maxHeartbeats 3200000 in
set_option maxRecDepth 1000000 in
theorem appendEscaped_does (w0 w : World) (r : Sl) (l : Str) (b : UInt8) (h : Mine w0 w r l) (hl : l.length + 16 ≤ lim) :
    Calls Tryz.prog 44 #[.slice r.a l.length r.cap, .int .u8 (b.toNat : Int)] w fun e w' => ∃ r' : Sl, e = .returned (.slice r'.a (l ++ escB b).length r'.cap) ∧ Mine w0 w' r' (l ++ escB b) := by
  obtain ⟨i0, hi, hz0, hz1, hz2⟩ := info_parts Tryz.infoByte
  have hown := h.ok
  unfold Item.ok bItem at hown
  have HM := hide h
  have hn1 : l.length + 16 ≤ maxLen := by have := hl; unfold lim at this; unfold maxLen; omega
  have hn2 : l.length + 16 ≤ 140737488355328 := by unfold lim at hl; omega
  have hb := lt256 b
  clear h hl
  by_cases hk38 : b.toNat = 38
  · have HE := hide (show escB b = [38, 97, 109, 112, 59] by unfold escB; rw [hk38]; rfl)
    rw [hk38]
    clear hb hk38
    go_enter Tryz.func44, Tryz.ntmps44
    go_wp2_with (at_builtin; refine wpList_append_mine_str _ rfl _ _ 74 9 rfl 5 i0 Tryz.underlying74 Tryz.underlying9 hi hz0 hz1 hz2 r.a l.length r.cap (byteCells l) rfl hown ⟨#[38, 97, 109, 112, 59]⟩ rfl (by simp only [ByteArray.size, List.size_toArray, List.length_cons, List.length_nil]; omega) (by simp only [ByteArray.size, List.size_toArray, List.length_cons, List.length_nil]; omega) ?next)
    case next =>
      intro ao cap w' h1 h2 h3
      go_wp2
      go_ret
      rw [unhide HE]
      exact ⟨⟨ao, cap⟩, by simp [ByteArray.size], (unhide HM).grown (More.refl _) (l' := [38, 97, 109, 112, 59]) h1 h2 (fresh_or h3)⟩
  have e38 : ((b.toNat : Int) == 38) = false := by simp; omega
  by_cases hk60 : b.toNat = 60
  · have HE := hide (show escB b = [38, 108, 116, 59] by unfold escB; rw [hk60]; rfl)
    rw [hk60]
    clear hb hk60 e38
    go_enter Tryz.func44, Tryz.ntmps44
    go_wp2_with (at_builtin; refine wpList_append_mine_str _ rfl _ _ 74 9 rfl 5 i0 Tryz.underlying74 Tryz.underlying9 hi hz0 hz1 hz2 r.a l.length r.cap (byteCells l) rfl hown ⟨#[38, 108, 116, 59]⟩ rfl (by simp only [ByteArray.size, List.size_toArray, List.length_cons, List.length_nil]; omega) (by simp only [ByteArray.size, List.size_toArray, List.length_cons, List.length_nil]; omega) ?next)
    case next =>
      intro ao cap w' h1 h2 h3
      go_wp2
      go_ret
      rw [unhide HE]
      exact ⟨⟨ao, cap⟩, by simp [ByteArray.size], (unhide HM).grown (More.refl _) (l' := [38, 108, 116, 59]) h1 h2 (fresh_or h3)⟩
  have e60 : ((b.toNat : Int) == 60) = false := by simp; omega
  by_cases hk34 : b.toNat = 34
  · have HE := hide (show escB b = [38, 113, 117, 111, 116, 59] by unfold escB; rw [hk34]; rfl)
    rw [hk34]
    clear hb hk34 e38 e60
    go_enter Tryz.func44, Tryz.ntmps44
    go_wp2_with (at_builtin; refine wpList_append_mine_str _ rfl _ _ 74 9 rfl 5 i0 Tryz.underlying74 Tryz.underlying9 hi hz0 hz1 hz2 r.a l.length r.cap (byteCells l) rfl hown ⟨#[38, 113, 117, 111, 116, 59]⟩ rfl (by simp only [ByteArray.size, List.size_toArray, List.length_cons, List.length_nil]; omega) (by simp only [ByteArray.size, List.size_toArray, List.length_cons, List.length_nil]; omega) ?next)
    case next =>
      intro ao cap w' h1 h2 h3
      go_wp2
      go_ret
      rw [unhide HE]
      exact ⟨⟨ao, cap⟩, by simp [ByteArray.size], (unhide HM).grown (More.refl _) (l' := [38, 113, 117, 111, 116, 59]) h1 h2 (fresh_or h3)⟩
  have e34 : ((b.toNat : Int) == 34) = false := by simp; omega
  by_cases hk13 : b.toNat = 13
  · have HE := hide (show escB b = [38, 35, 49, 51, 59] by unfold escB; rw [hk13]; rfl)
    rw [hk13]
    clear hb hk13 e38 e60 e34
    go_enter Tryz.func44, Tryz.ntmps44
    go_wp2_with (at_builtin; refine wpList_append_mine_str _ rfl _ _ 74 9 rfl 5 i0 Tryz.underlying74 Tryz.underlying9 hi hz0 hz1 hz2 r.a l.length r.cap (byteCells l) rfl hown ⟨#[38, 35, 49, 51, 59]⟩ rfl (by simp only [ByteArray.size, List.size_toArray, List.length_cons, List.length_nil]; omega) (by simp only [ByteArray.size, List.size_toArray, List.length_cons, List.length_nil]; omega) ?next)
    case next =>
      intro ao cap w' h1 h2 h3
      go_wp2
      go_ret
      rw [unhide HE]
      exact ⟨⟨ao, cap⟩, by simp [ByteArray.size], (unhide HM).grown (More.refl _) (l' := [38, 35, 49, 51, 59]) h1 h2 (fresh_or h3)⟩
  have e13 : ((b.toNat : Int) == 13) = false := by simp; omega
  by_cases hk0 : b.toNat = 0
  · have HE := hide (show escB b = [38, 35, 48, 59] by unfold escB; rw [hk0]; rfl)
    rw [hk0]
    clear hb hk0 e38 e60 e34 e13
    go_enter Tryz.func44, Tryz.ntmps44
    go_wp2_with (at_builtin; refine wpList_append_mine_str _ rfl _ _ 74 9 rfl 5 i0 Tryz.underlying74 Tryz.underlying9 hi hz0 hz1 hz2 r.a l.length r.cap (byteCells l) rfl hown ⟨#[38, 35, 48, 59]⟩ rfl (by simp only [ByteArray.size, List.size_toArray, List.length_cons, List.length_nil]; omega) (by simp only [ByteArray.size, List.size_toArray, List.length_cons, List.length_nil]; omega) ?next)
    case next =>
      intro ao cap w' h1 h2 h3
      go_wp2
      go_ret
      rw [unhide HE]
      exact ⟨⟨ao, cap⟩, by simp [ByteArray.size], (unhide HM).grown (More.refl _) (l' := [38, 35, 48, 59]) h1 h2 (fresh_or h3)⟩
  have e0 : ((b.toNat : Int) == 0) = false := by simp; omega
  have HE := hide (show escB b = [b] by unfold escB; rw [if_neg hk38, if_neg hk60, if_neg hk34, if_neg hk13, if_neg hk0])
  have HB := hide hb
  clear hb hk38 hk60 hk34 hk13 hk0
  go_enter Tryz.func44, Tryz.ntmps44
  go_wp2_with (at_builtin; refine wpList_append_mine _ rfl _ _ 74 rfl 5 i0 _ 1 1 Tryz.underlying74 hi hz0 hz1 hz2 rfl (by decide) r.a l.length r.cap (byteCells l) rfl (by exact World.ownsRow.alloc hown _) ⟨w.heap.size, 0, none⟩ 1 1 [.int .u8 (b.toNat : Int)] rfl rfl ?c1 ?c2 (by decide) (by omega) (by omega) ?next)
  case c2 => rfl
  case next =>
    intro a' cap w' h1 h2 h3
    go_wp2
    go_ret
    rw [unhide HE]
    refine ⟨⟨some a', cap⟩, by simp, (unhide HM).grown (by repeat (first | exact More.refl _ | refine More.alloc ?_ _)) (l' := [b]) h1 h2 ?_⟩
    rcases h3 with h3 | h3
    · exact .inl h3
    · exact .inr fun k hk => by simp at hk; subst hk; simpa using h3

theorem escL_len (x : Str) : (x.flatMap escB).length ≤ 6 * x.length := by
  induction x with
  | nil => simp
  | cons b x ih =>
    have h : (escB b).length ≤ 6 := by
      unfold escB
      repeat' split
      all_goals simp
    rw [List.flatMap_cons, List.length_append, List.length_cons]
    omega
set_option maxHeartbeats 800000 in
set_option maxRecDepth 1000000 in
theorem escape_does (w : World) (x : Str) (hx : 6 * x.length + 16 ≤ lim) :
    Calls Tryz.prog 26 #[.string ⟨x.toArray⟩] w fun e w' => e = .returned (.string ⟨(x.flatMap escB).toArray⟩) ∧ More w w' := by
  have hl : (x.length : Int) ≤ 1099511627776 := by unfold lim at hx; omega
  go_enter Tryz.func26, Tryz.ntmps26
  go_wp2
  go_loopw [3, 7] (fun li i wr => ∃ (k : Nat) (r : Sl), k ≤ x.length ∧ i = .int .i64 (k : Int) ∧ li = .slice r.a ((x.take k).flatMap escB).length r.cap ∧ Mine w wr r ((x.take k).flatMap escB)) (fun _ i _ => x.length - (intOf i).toNat)
  case atStart => exact ⟨0, ⟨none, 0⟩, Nat.zero_le _, rfl, rfl, ⟨bItem_nil_ok w, More.refl w, by simp⟩⟩
  case round =>
    obtain ⟨k, r, hk, rfl, rfl, hM⟩ := hrel
    by_cases hlt : k < x.length
    · have hh : k < (⟨x.toArray⟩ : ByteArray).size := by simpa [ByteArray.size] using hlt
      have HS := hide (show (x.take (k + 1)).flatMap escB = (x.take k).flatMap escB ++ escB ((⟨x.toArray⟩ : ByteArray)[k]'hh) by
        have e : x.take (k + 1) = x.take k ++ [(⟨x.toArray⟩ : ByteArray)[k]'hh] := by
          rw [List.take_succ_eq_append_getElem hlt]
          rfl
        rw [e, List.flatMap_append, List.flatMap_cons, List.flatMap_nil, List.append_nil])
      have HC := hide (appendEscaped_does w wr r ((x.take k).flatMap escB) ((⟨x.toArray⟩ : ByteArray)[k]'hh) hM (by have h1 := escL_len (x.take k); have h2 : (x.take k).length ≤ x.length := List.length_take_le' _ _; omega))
      clear hM hx
      generalize (x.take k).flatMap escB = l at *
      go_wp2_with fail
      refine (unhide HC).mono ?_
      rintro e w1 ⟨r1, rfl, hM1⟩
      clear HC
      go_wp2
      go_roundw
      case rel => exact ⟨k + 1, r1, by omega, by go_num, by rw [unhide HS, List.length_append], by rw [unhide HS]; exact hM1⟩
      case measure => simp [intOf]; omega
    · have HK := hide (show (x.take k).flatMap escB = x.flatMap escB by rw [List.take_of_length_le (by omega)])
      have hcv := conv_row (w := wr) hM.ok
      generalize (x.take k).flatMap escB = l at *
      go_wp2
      go_ret
      rw [unhide HK]
      exact ⟨rfl, hM.more⟩
end Go.Proofs.YtdfmapcnfficlaaGreatDoor

set_option linter.unusedSimpArgs false
set_option linter.unusedVariables false
namespace Go.Proofs.YtdfmapcnfficlaaGreatDoor
open Go Go.RowKit

def runeCells (l : List Int) : List Value := l.map fun c => Value.int .i32 c
def rItem (r : Sl) (l : List Int) : Item := ⟨21, 1, r.a, l.length, r.cap, runeCells l⟩
theorem rItem_nil_ok (w : World) : (rItem ⟨none, 0⟩ []).ok w := World.ownsRow_nil w 0 21 1
structure MineR (w0 w : World) (r : Sl) (l : List Int) : Prop where
  ok : (rItem r l).ok w
  more : More w0 w
  new : ∀ k, r.a.map (·.block) = some k → w0.heap.size ≤ k
theorem MineR.grown {w0 w w1 w' : World} {r : Sl} {l l' : List Int} (h : MineR w0 w r l) (hm : More w w1) {ao : Option Addr} {cap : Nat} (hown : w'.ownsRow 0 21 1 (.slice ao (l.length + l'.length) cap) (l.length + l'.length) (runeCells l ++ runeCells l')) (hg : w1.grownBy w' (r.a.map (·.block))) (hf : ao.map (·.block) = r.a.map (·.block) ∨ (∀ k, ao.map (·.block) = some k → w1.heap.size ≤ k)) : MineR w0 w' ⟨ao, cap⟩ (l ++ l') := by
  refine ⟨?_, More.grown' h.more hg h.new trivial hm, fun k hk => ?_⟩
  · unfold Item.ok rItem
    rw [List.length_append, show runeCells (l ++ l') = runeCells l ++ runeCells l' by simp [runeCells]]
    exact hown
  · rcases hf with hf | hf
    · exact h.new k (by rw [← hf]; exact hk)
    · have := hf k hk
      have := hm.size
      have := h.more.size
      omega

theorem foldl_enc (l : List Int) : ∀ s : Str, l.foldl (fun r n => r ++ Utf8.encode n) (⟨s.toArray⟩ : ByteArray) = ⟨(s ++ encs l).toArray⟩ := by
  induction l with
  | nil => intro s; simp [encs]
  | cons c l ih =>
    intro s
    have e : (⟨s.toArray⟩ : ByteArray) ++ Utf8.encode c = ⟨(s ++ Lib.encodeRune c).toArray⟩ := by
      rw [enc_eq]
      apply ByteArray.ext
      simp [ByteArray.data_append]
    rw [List.foldl_cons, e, ih, encs_cons, List.append_assoc]
theorem runesBytes_encs (l : List Int) : runesBytes l = ⟨(encs l).toArray⟩ := by
  have h := foldl_enc l []
  rw [List.nil_append] at h
  exact h
theorem conv_runes {w : World} {r : Sl} {l : List Int} (h : (rItem r l).ok w) : (convert 43 9 (.slice r.a l.length r.cap)).run Tryz.prog w = .ok (.string ⟨(encs l).toArray⟩) w := by
  rcases Nat.eq_zero_or_pos l.length with e | hp
  · have el : l = [] := List.length_eq_zero_iff.1 e
    subst el
    rcases hr : r.a with _ | a
    · rw [run_convert_runes_nil w 43 9 21 _ _ Tryz.underlying43 Tryz.underlying21 Tryz.underlying9]
      rfl
    · rw [show ([] : List Int).length = 0 from rfl, run_convert_runes w 43 9 21 a 0 r.cap [] (Nat.le_refl _) Tryz.underlying43 Tryz.underlying21 Tryz.underlying9 (fun j hj => absurd hj (by simp))]
      rfl
  · obtain ⟨g, hg, _⟩ := row_at h (by show l.length ≠ 0; omega)
    have hg' : r.a = some ⟨g, 0, none⟩ := hg
    have hc := row_cells h hg
    rw [hg', run_convert_runes w 43 9 21 ⟨g, 0, none⟩ l.length r.cap l (Nat.le_refl _) Tryz.underlying43 Tryz.underlying21 Tryz.underlying9 (fun j hj => ?_), List.take_length, runesBytes_encs]
    have := hc j (.int .i32 (l.getD j 0)) (by show (runeCells l)[j]? = _; simp [runeCells, hj])
    rw [show ((⟨g, 0, none⟩ : Addr).add j) = ⟨g, j, none⟩ by unfold Addr.add; split <;> simp_all]
    exact this


theorem Tryz.infoRune : (Tryz.prog.info? 21).map (fun i => (i.zero, i.size, i.bytes)) = some (some (.int .i32 0), 1, 4) := by kernel_rfl
theorem tdiv_range {z n : Int} (h1 : -9223372036854775808 ≤ z) (h2 : z ≤ 9223372036854775807) (hn : 0 < n) : -9223372036854775808 ≤ z.tdiv n ∧ z.tdiv n ≤ 9223372036854775807 := by
  by_cases hz : 0 ≤ z
  · rw [Int.tdiv_eq_ediv_of_nonneg hz]
    have := Int.ediv_nonneg hz (by omega : 0 ≤ n)
    have := Int.ediv_le_self n hz
    omega
  · obtain ⟨y, rfl⟩ : ∃ y, z = -y := ⟨-z, by omega⟩
    have hy : 0 ≤ y := by omega
    rw [Int.neg_tdiv, Int.tdiv_eq_ediv_of_nonneg hy]
    have := Int.ediv_nonneg hy (by omega : 0 ≤ n)
    have := Int.ediv_le_self n hy
    omega
theorem u8_ok (x : UInt8) : ∃ cc : Int, Value.int .i64 (wrap64 (x.toNat : Int)) = .int .i64 cc ∧ 0 ≤ cc ∧ cc ≤ 1114111 := by
  have h := lt256 x
  rw [show wrap64 (x.toNat : Int) = x.toNat by unfold wrap64; omega]
  exact ⟨_, rfl, by omega, by omega⟩
theorem one_cell (W : World) (o : Value) (T : TypeId) : ∀ (j : Nat) u, [o][j]? = some u → (W.alloc (.cells #[o] T)).cell? ((⟨W.heap.size, 0, none⟩ : Addr).add j) = some u := by
  intro j u hj
  match j, hj with
  | 0, hj => simp at hj; subst hj; simp [Addr.add]
  | (j + 1), hj => simp at hj
theorem one_one (k : IntKind) (c : Int) : ∀ u ∈ [Value.int k c], u.oneCell' = true := by
  intro u hu
  simp at hu
  subst hu
  rfl
theorem letters_len (cs : List Int) : (encs cs).length ≤ 4 * cs.length := by
  have := runesBytes_size_le cs
  rw [runesBytes_encs] at this
  simpa [ByteArray.size] using this

set_option maxHeartbeats 3200000 in
set_option maxRecDepth 1000000 in
theorem letters_does (w : World) (l : List Int) (v : Value) (h : IntsV w v l) (hl : l.length ≤ 16777216) :
    Calls Tryz.prog 25 #[v] w fun e w' => ∃ cs : List Int, e = .returned (.string ⟨(encs cs).toArray⟩) ∧ (∀ c ∈ cs, Scalar c ∧ 0 < c) ∧ cs.length = l.length ∧ More w w' := by
  obtain ⟨a, cap, rfl, h1, h2, h3⟩ := h
  obtain ⟨i0, hi, hz0, hz1, hz2⟩ := info_parts Tryz.infoRune
  have H1 := hide h1
  have H3 := hide h3
  clear h1 h3
  go_enter Tryz.func25, Tryz.ntmps25
  go_wp2
  go_loopw [3, 4] (fun li i wr => ∃ (k : Nat) (r : Sl) (cs : List Int), k ≤ l.length ∧ i = .int .i64 (k : Int) ∧ li = .slice r.a cs.length r.cap ∧ cs.length = k ∧ (∀ c ∈ cs, Scalar c ∧ 0 < c) ∧ MineR w wr r cs) (fun _ i _ => l.length - (intOf i).toNat)
  case atStart => exact ⟨0, ⟨none, 0⟩, [], Nat.zero_le _, rfl, rfl, rfl, by simp, ⟨rItem_nil_ok w, More.refl w, by simp⟩⟩
  case round =>
    obtain ⟨k, r, cs, hk, rfl, rfl, hcl, hcs, hM⟩ := hrel
    have HCS := hide hcs
    have HCL := hide hcl
    have hn1 : cs.length + 1 ≤ maxLen := by unfold maxLen; omega
    have hn2 : (cs.length + 1) * 4 ≤ 140737488355328 := by omega
    clear hcs hcl
    by_cases hlt : k < l.length
    · obtain ⟨z, hz⟩ : ∃ z, l[k]? = some z := ⟨l[k], by simp [hlt]⟩
      have hne : l ≠ [] := fun e => by subst e; simp at hlt
      obtain ⟨g, o, rfl, hg, hcell⟩ := unhide H1 hne
      have hcz : wr.cell? ⟨g, o + k, none⟩ = some (.int .i64 z) := by rw [World.cell?_of_block (w := w) (hM.more.block g hg)]; exact hcell k z hz
      have hzr := unhide H3 z (List.mem_of_getElem? hz)
      have hpr := pickN_range z 1114112 (by decide)
      have hpr3 := pickN_range z 3 (by decide)
      have HP1 := hide (pick_does z 1114112 wr hzr.1 hzr.2 (by decide) (by decide))
      have HP3 := hide (pick_does z 3 wr hzr.1 hzr.2 (by decide) (by decide))
      have hglt : g < wr.heap.size := by have := hM.more.size; omega
      have hown := hM.ok
      unfold Item.ok rItem at hown
      have HM := hide hM
      clear hcell hz hg hM hne
      have hd1 : -9223372036854775808 ≤ z.tdiv 3 ∧ z.tdiv 3 ≤ 9223372036854775807 := tdiv_range hzr.1 hzr.2 (by decide)
      have HP17 := hide (pick_does (z.tdiv 3) 17 wr hd1.1 hd1.2 (by decide) (by decide))
      have hdr := pickN_range (z.tdiv 3) 17 (by decide)
      obtain ⟨hd1a, hd1b⟩ := hd1
      obtain ⟨j, hj⟩ : ∃ j : Nat, pickN (z.tdiv 3) 17 = j := ⟨(pickN (z.tdiv 3) 17).toNat, by omega⟩
      rw [hj] at HP17 hdr
      have hjl : j < 17 := by omega
      clear hj hdr hzr
      generalize pickN z 3 = p3 at *
      generalize pickN z 1114112 = p at *
      go_wp2_with fail
      refine (unhide HP1).mono ?_
      rintro e w1 ⟨rfl, rfl⟩
      go_wp2_with fail
      refine (unhide HP3).mono ?_
      rintro e w1 ⟨rfl, rfl⟩
      clear HP1 HP3
      generalize w1 = wr at *
      go_upto_if 22 with fail
      go_cut [5] (fun c wx => (∃ cc : Int, c = .int .i64 cc ∧ 0 ≤ cc ∧ cc ≤ 1114111) ∧ wx = wr)
      case first =>
        by_cases h30 : p3 = 0
        · subst h30
          clear hpr3
          go_wp2_with fail
          refine (unhide HP17).mono ?_
          rintro e w1 ⟨rfl, rfl⟩
          go_wp2
          go_meet
          case rel => exact ⟨u8_ok _, rfl⟩
        · have e3 : (p3 == 0) = false := by simpa using h30
          clear h30
          go_wp2
          go_meet
          case rel => exact ⟨⟨p, rfl, hpr.1, by omega⟩, rfl⟩
      case rest =>
        obtain ⟨⟨c, rfl, hc0, hc1⟩, rfl⟩ := hcut
        clear hpr hpr3 HP17 hjl hd1a hd1b
        by_cases hz0' : c = 0
        · subst hz0'
          have HSC := hide (show Scalar (122 : Int) ∧ (0 : Int) < 122 by unfold Scalar; omega)
          clear hc0 hc1
          go_wp2_with (at_builtin; refine wpList_append_mine _ rfl _ _ 43 rfl 21 i0 _ 1 4 Tryz.underlying43 hi hz0 hz1 hz2 rfl (by decide) r.a cs.length r.cap (runeCells cs) rfl (by exact World.ownsRow.alloc hown _) ⟨wc.heap.size, 0, none⟩ 1 1 [.int .i32 122] rfl rfl (by exact one_cell _ _ _) (by exact one_one _ _) (by decide) hn1 hn2 ?next)
          case next =>
            intro a' cap w' h1 h2 h3
            go_wp2
            go_roundw
            case rel =>
              have hR : ∃ (k' : Nat) (r' : Sl) (cs' : List Int), k' ≤ l.length ∧ Value.int .i64 ((k : Int) + 1) = .int .i64 (k' : Int) ∧ Value.slice (some a') (cs.length + 1) cap = .slice r'.a cs'.length r'.cap ∧ cs'.length = k' ∧ (∀ c ∈ cs', Scalar c ∧ 0 < c) ∧ MineR w w' r' cs' := by
                refine ⟨k + 1, ⟨some a', cap⟩, cs ++ [122], by omega, by go_num, by simp, by simp [unhide HCL], ?_, (unhide HM).grown (by repeat (first | exact More.refl _ | refine More.alloc ?_ _)) (l' := [122]) h1 h2 ?_⟩
                · intro d hd
                  rcases List.mem_append.1 hd with hd | hd
                  · exact unhide HCS d hd
                  · rw [List.mem_singleton.1 hd]; exact unhide HSC
                · rcases h3 with h3 | h3
                  · exact .inl h3
                  · exact .inr fun k hk => by simp at hk; subst hk; simpa using h3
              exact hR
            case measure => simp [intOf]; omega
        have ez : (c == 0) = false := by simpa using hz0'
        by_cases hs1 : 55296 ≤ c
        · by_cases hs2 : c ≤ 57343
          · have HSC := hide (show Scalar (122 : Int) ∧ (0 : Int) < 122 by unfold Scalar; omega)
            clear hz0'
            go_wp2_with (at_builtin; refine wpList_append_mine _ rfl _ _ 43 rfl 21 i0 _ 1 4 Tryz.underlying43 hi hz0 hz1 hz2 rfl (by decide) r.a cs.length r.cap (runeCells cs) rfl (by exact World.ownsRow.alloc hown _) ⟨wc.heap.size, 0, none⟩ 1 1 [.int .i32 122] rfl rfl (by exact one_cell _ _ _) (by exact one_one _ _) (by decide) hn1 hn2 ?next)
            case next =>
              intro a' cap w' h1 h2 h3
              go_wp2
              go_roundw
              case rel =>
                have hR : ∃ (k' : Nat) (r' : Sl) (cs' : List Int), k' ≤ l.length ∧ Value.int .i64 ((k : Int) + 1) = .int .i64 (k' : Int) ∧ Value.slice (some a') (cs.length + 1) cap = .slice r'.a cs'.length r'.cap ∧ cs'.length = k' ∧ (∀ c ∈ cs', Scalar c ∧ 0 < c) ∧ MineR w w' r' cs' := by
                  refine ⟨k + 1, ⟨some a', cap⟩, cs ++ [122], by omega, by go_num, by simp, by simp [unhide HCL], ?_, (unhide HM).grown (by repeat (first | exact More.refl _ | refine More.alloc ?_ _)) (l' := [122]) h1 h2 ?_⟩
                  · intro d hd
                    rcases List.mem_append.1 hd with hd | hd
                    · exact unhide HCS d hd
                    · rw [List.mem_singleton.1 hd]; exact unhide HSC
                  · rcases h3 with h3 | h3
                    · exact .inl h3
                    · exact .inr fun k hk => by simp at hk; subst hk; simpa using h3
                exact hR
              case measure => simp [intOf]; omega
          · have HSC := hide (show Scalar c ∧ 0 < c by unfold Scalar; omega)
            go_wp2_with (at_builtin; refine wpList_append_mine _ rfl _ _ 43 rfl 21 i0 _ 1 4 Tryz.underlying43 hi hz0 hz1 hz2 rfl (by decide) r.a cs.length r.cap (runeCells cs) rfl (by exact World.ownsRow.alloc hown _) ⟨wc.heap.size, 0, none⟩ 1 1 [.int .i32 c] rfl rfl (by exact one_cell _ _ _) (by exact one_one _ _) (by decide) hn1 hn2 ?next)
            case next =>
              intro a' cap w' h1 h2 h3
              go_wp2
              go_roundw
              case rel =>
                have hR : ∃ (k' : Nat) (r' : Sl) (cs' : List Int), k' ≤ l.length ∧ Value.int .i64 ((k : Int) + 1) = .int .i64 (k' : Int) ∧ Value.slice (some a') (cs.length + 1) cap = .slice r'.a cs'.length r'.cap ∧ cs'.length = k' ∧ (∀ c ∈ cs', Scalar c ∧ 0 < c) ∧ MineR w w' r' cs' := by
                  refine ⟨k + 1, ⟨some a', cap⟩, cs ++ [c], by omega, by go_num, by simp, by simp [unhide HCL], ?_, (unhide HM).grown (by repeat (first | exact More.refl _ | refine More.alloc ?_ _)) (l' := [c]) h1 h2 ?_⟩
                  · intro d hd
                    rcases List.mem_append.1 hd with hd | hd
                    · exact unhide HCS d hd
                    · rw [List.mem_singleton.1 hd]; exact unhide HSC
                  · rcases h3 with h3 | h3
                    · exact .inl h3
                    · exact .inr fun k hk => by simp at hk; subst hk; simpa using h3
                exact hR
              case measure => simp [intOf]; omega
        · have HSC := hide (show Scalar c ∧ 0 < c by unfold Scalar; omega)
          go_wp2_with (at_builtin; refine wpList_append_mine _ rfl _ _ 43 rfl 21 i0 _ 1 4 Tryz.underlying43 hi hz0 hz1 hz2 rfl (by decide) r.a cs.length r.cap (runeCells cs) rfl (by exact World.ownsRow.alloc hown _) ⟨wc.heap.size, 0, none⟩ 1 1 [.int .i32 c] rfl rfl (by exact one_cell _ _ _) (by exact one_one _ _) (by decide) hn1 hn2 ?next)
          case next =>
            intro a' cap w' h1 h2 h3
            go_wp2
            go_roundw
            case rel =>
              have hR : ∃ (k' : Nat) (r' : Sl) (cs' : List Int), k' ≤ l.length ∧ Value.int .i64 ((k : Int) + 1) = .int .i64 (k' : Int) ∧ Value.slice (some a') (cs.length + 1) cap = .slice r'.a cs'.length r'.cap ∧ cs'.length = k' ∧ (∀ c ∈ cs', Scalar c ∧ 0 < c) ∧ MineR w w' r' cs' := by
                refine ⟨k + 1, ⟨some a', cap⟩, cs ++ [c], by omega, by go_num, by simp, by simp [unhide HCL], ?_, (unhide HM).grown (by repeat (first | exact More.refl _ | refine More.alloc ?_ _)) (l' := [c]) h1 h2 ?_⟩
                · intro d hd
                  rcases List.mem_append.1 hd with hd | hd
                  · exact unhide HCS d hd
                  · rw [List.mem_singleton.1 hd]; exact unhide HSC
                · rcases h3 with h3 | h3
                  · exact .inl h3
                  · exact .inr fun k hk => by simp at hk; subst hk; simpa using h3
              exact hR
            case measure => simp [intOf]; omega
    · have hcv := conv_runes (w := wr) hM.ok
      go_wp2
      go_ret
      exact ⟨cs, rfl, unhide HCS, by have := unhide HCL; omega, hM.more⟩
end Go.Proofs.YtdfmapcnfficlaaGreatDoor

set_option linter.unusedSimpArgs false
set_option linter.unusedVariables false
namespace Go.Proofs.YtdfmapcnfficlaaGreatDoor
open Go Go.RowKit

/-- The strings l lie where x says, beside the row q. -/
def AttrAt (w : World) (q x : Sl) (l : List Str) : Prop := ∀ j y, l[j]? = some y → ∃ g, x.a = some ⟨g, 0, none⟩ ∧ g < w.heap.size ∧ q.a.map (·.block) ≠ some g ∧ w.cell? ⟨g, j, none⟩ = some (.string ⟨y.toArray⟩)
theorem AttrAt.strs {w : World} {q x : Sl} {l : List Str} (h : AttrAt w q x l) : StrsAt w x l := fun j y hy => by
  obtain ⟨g, h1, h2, _, h3⟩ := h j y hy
  exact ⟨g, h1, h2, h3⟩
theorem AttrAt.nil (w : World) (q x : Sl) : AttrAt w q x [] := fun j y h => by simp at h
theorem AttrAt.more {w w' : World} {q x : Sl} {l : List Str} (h : AttrAt w q x l) (hm : More w w') : AttrAt w' q x l := fun j y hy => by
  obtain ⟨g, h1, h2, h3, h4⟩ := h j y hy
  exact ⟨g, h1, by have := hm.size; omega, h3, by rw [World.cell?_of_block (w := w) (hm.block g h2)]; exact h4⟩
/-- Strings that were there ahead of the row. -/
theorem AttrAt.old {w0 w : World} {q x : Sl} {l : List Str} (h : StrsAt w0 x l) (hm : More w0 w) (hq : ∀ k, q.a.map (·.block) = some k → w0.heap.size ≤ k) : AttrAt w q x l := fun j y hy => by
  obtain ⟨g, h1, h2, h3⟩ := h j y hy
  exact ⟨g, h1, by have := hm.size; omega, fun e => by have := hq g e; omega, by rw [World.cell?_of_block (w := w0) (hm.block g h2)]; exact h3⟩
/-- Strings that were made since the row. -/
theorem AttrAt.late {w w1 : World} {q x : Sl} {l : List Str} (h : StrsAt w1 x l) (hx : ∀ k, x.a.map (·.block) = some k → w.heap.size ≤ k) (hq : ∀ k, q.a.map (·.block) = some k → k < w.heap.size) : AttrAt w1 q x l := fun j y hy => by
  obtain ⟨g, h1, h2, h3⟩ := h j y hy
  exact ⟨g, h1, h2, fun e => by have := hq g e; have := hx g (by rw [h1]; rfl); omega, h3⟩
theorem AttrAt.grown {w1 w' : World} {q x : Sl} {l : List Str} (h : AttrAt w1 q x l) {a' : Addr} {cap : Nat} (hg : w1.grownBy w' (q.a.map (·.block))) (hf : some a'.block = q.a.map (·.block) ∨ w1.heap.size ≤ a'.block) : AttrAt w' ⟨some a', cap⟩ x l := fun j y hy => by
  obtain ⟨g, h1, h2, h3, h4⟩ := h j y hy
  refine ⟨g, h1, by have := hg.size; omega, fun e => ?_, ?_⟩
  · have e' : a'.block = g := by simpa using e
    rcases hf with hf | hf
    · exact h3 (by rw [← hf, e'])
    · omega
  · rw [World.cell?_of_block (w := w1) (hg.block g h2 (fun e => h3 e.symm))]
    exact h4

structure MineT (w0 w : World) (q : Sl) (l : List Tok) (ta : List Sl) : Prop where
  ok : (tokItem q l ta).ok w
  more : More w0 w
  new : ∀ k, q.a.map (·.block) = some k → w0.heap.size ≤ k
  len : ta.length = l.length
  strs : ∀ (k : Nat) (t : Tok) (x : Sl), l[k]? = some t → ta[k]? = some x → AttrAt w q x t.attrs
  max : ∀ t ∈ l, t.attrs.length ≤ maxLen

theorem MineT.nil {w0 w : World} (h : More w0 w) : MineT w0 w nilSl [] [] := ⟨World.ownsRow_nil w 0 34 6, h, by simp [nilSl], rfl, by simp, by simp⟩
theorem MineT.later {w0 w w1 : World} {q : Sl} {l : List Tok} {ta : List Sl} (h : MineT w0 w q l ta) (hm : More w w1) : MineT w0 w1 q l ta :=
  ⟨Item.ok_kept h.ok fun k hk => hm.block k (Item.lt h.ok k hk), h.more.trans' hm, h.new, h.len, fun k t x hk hx => (h.strs k t x hk hx).more hm, h.max⟩
theorem MineT.lt {w0 w : World} {q : Sl} {l : List Tok} {ta : List Sl} (h : MineT w0 w q l ta) : ∀ k, q.a.map (·.block) = some k → k < w.heap.size := Item.lt h.ok
theorem MineT.toks {w0 w : World} {q : Sl} {l : List Tok} {ta : List Sl} (h : MineT w0 w q l ta) : ToksV w (.slice q.a l.length q.cap) l := by
  refine ⟨q.a, q.cap, rfl, fun hne => ?_, row_cap h.ok, h.max⟩
  obtain ⟨g, hg, hlt, _⟩ := row_at h.ok (fun e => hne (List.length_eq_zero_iff.1 e))
  refine ⟨g, hg, fun k t hk => ?_, hlt⟩
  have hk' : k < ta.length := by rw [h.len]; exact (List.getElem?_eq_some_iff.1 hk).1
  obtain ⟨x, hx⟩ : ∃ x, ta[k]? = some x := ⟨ta[k], by simp [hk']⟩
  have hc : ∀ i u, i < 6 → (tokCells t x)[i]? = some u → w.cell? ⟨g, k * 6 + i, none⟩ = some u := fun i u hi hu => row_cells h.ok hg _ _ ((toldCells_at l ta k t x hk hx i hi).trans hu)
  exact ⟨x, hc 0 _ (by decide) rfl, hc 1 _ (by decide) rfl, hc 2 _ (by decide) rfl, hc 3 _ (by decide) rfl, hc 4 _ (by decide) rfl, hc 5 _ (by decide) rfl, (h.strs k t x hk hx).strs⟩
theorem MineT.grown {w0 w w1 w' : World} {q : Sl} {l : List Tok} {ta : List Sl} (h : MineT w0 w q l ta) (l' : List Tok) (ta' : List Sl) (hm : More w w1) {a' : Addr} {cap m : Nat} (hm' : m = l'.length) (hown : w'.ownsRow 0 34 6 (.slice (some a') (l.length + m) cap) (l.length + m) (toldCells l ta ++ toldCells l' ta')) (hg : w1.grownBy w' (q.a.map (·.block))) (hf : some a'.block = q.a.map (·.block) ∨ w1.heap.size ≤ a'.block)
    (hl : ta'.length = l'.length) (hs : ∀ (k : Nat) (t : Tok) (x : Sl), l'[k]? = some t → ta'[k]? = some x → AttrAt w1 q x t.attrs) (hx : ∀ t ∈ l', t.attrs.length ≤ maxLen) : MineT w0 w' ⟨some a', cap⟩ (l ++ l') (ta ++ ta') := by
  subst hm'
  refine ⟨?_, More.grown' h.more hg h.new trivial hm, fun k hk => ?_, by rw [List.length_append, List.length_append, h.len, hl], fun k t x hk hx => ?_, fun t ht => ?_⟩
  · unfold Item.ok tokItem
    rw [toldCells_append l ta l' ta' h.len, List.length_append]
    exact hown
  · have hk' : a'.block = k := by simpa using hk
    rcases hf with hf | hf
    · exact h.new k (by rw [← hf, hk'])
    · have := hm.size
      have := h.more.size
      omega
  · by_cases hlt : k < l.length
    · rw [List.getElem?_append_left hlt] at hk
      rw [List.getElem?_append_left (by rw [h.len]; exact hlt)] at hx
      exact ((h.strs k t x hk hx).more hm).grown hg hf
    · rw [List.getElem?_append_right (by omega)] at hk
      rw [List.getElem?_append_right (by rw [h.len]; omega), h.len] at hx
      exact (hs _ t x hk hx).grown hg hf
  · rcases List.mem_append.1 ht with ht | ht
    · exact h.max t ht
    · exact hx t ht
/-- One token more. -/
theorem MineT.one {w0 w w1 w' : World} {q : Sl} {l : List Tok} {ta : List Sl} (h : MineT w0 w q l ta) (t : Tok) (x : Sl) (hm : More w w1) {a' : Addr} {cap : Nat} (hown : w'.ownsRow 0 34 6 (.slice (some a') (l.length + 1) cap) (l.length + 1) (toldCells l ta ++ tokCells t x)) (hg : w1.grownBy w' (q.a.map (·.block))) (hf : some a'.block = q.a.map (·.block) ∨ w1.heap.size ≤ a'.block)
    (hs : AttrAt w1 q x t.attrs) (hx : t.attrs.length ≤ maxLen) : MineT w0 w' ⟨some a', cap⟩ (l ++ [t]) (ta ++ [x]) := by
  refine h.grown [t] [x] hm rfl (by simpa [toldCells] using hown) hg hf rfl (fun k u y hk hy => ?_) (fun u hu => by rw [List.mem_singleton.1 hu]; exact hx)
  match k, hk, hy with
  | 0, hk, hy =>
    simp at hk hy
    subst hk hy
    exact hs
  | k + 1, hk, hy => simp at hk

theorem vis_take (l : List Tok) (k : Nat) (t : Tok) (h : l[k]? = some t) : vis (l.take (k + 1)) = vis (l.take k) ++ (if t.kind = 5 then [] else [t]) := by
  have e : l.take (k + 1) = l.take k ++ [t] := by
    obtain ⟨hk, rfl⟩ := List.getElem?_eq_some_iff.1 h
    rw [List.take_succ_eq_append_getElem hk]
  rw [e, vis_app]
  congr 1
  unfold vis
  split <;> simp_all
theorem vis_len (l : List Tok) : (vis l).length ≤ l.length := List.length_filter_le _ _
theorem lim_toks {n : Nat} (h : n + 1 ≤ lim) : n + 2 ≤ maxLen ∧ (n + 2) * 80 ≤ 140737488355328 ∧ n + 1 ≤ maxLen ∧ (n + 1) * 80 ≤ 140737488355328 := by unfold lim at h; unfold maxLen; omega
end Go.Proofs.YtdfmapcnfficlaaGreatDoor

/-
  How many code points are held.
-/
import Derived.Test.YtdfmapcnfficlaaGreatDoorCalls
import Derived.Lib.MapLaws
set_option linter.unusedSimpArgs false
set_option linter.unusedVariables false
namespace Go.Proofs.YtdfmapcnfficlaaGreatDoor
open Go Go.RowKit

theorem get_drop (x : List UInt8) (n k : Nat) : (⟨x.toArray⟩ : ByteArray).get! (n + k) = (⟨(x.drop n).toArray⟩ : ByteArray).get! k := by
  simp [ByteArray.get!, List.getElem?_drop]
theorem decode_drop (x : List UInt8) (n : Nat) : Utf8.decode ⟨x.toArray⟩ n = Lib.decodeL (x.drop n) := by
  unfold Lib.decodeL
  rw [Lib.decode_at, Lib.decode_at]
  have h0 := get_drop x n 0
  have h1 := get_drop x n 1
  have h2 := get_drop x n 2
  have h3 := get_drop x n 3
  simp only [Nat.add_zero, Nat.zero_add] at *
  rw [h0, h1, h2, h3]
  simp [ByteArray.size]

/-- How many code points a text has. -/
def cntL : Nat → Str → Nat
  | 0, _ => 0
  | f + 1, x => if x = [] then 0 else 1 + cntL f (x.drop (Lib.decodeL x).2)
def runeCount (x : Str) : Nat := cntL x.length x
theorem cntL_nil (f : Nat) : cntL f [] = 0 := by cases f <;> simp [cntL]
theorem cntL_le : ∀ f x, cntL f x ≤ f
  | 0, _ => Nat.le_refl _
  | f + 1, x => by
    rw [cntL]
    split
    · omega
    · have := cntL_le f (x.drop (Lib.decodeL x).2); omega
theorem decodeL_pos (x : Str) : 1 ≤ (Lib.decodeL x).2 := Lib.width_pos ⟨x.toArray⟩ 0
theorem cntL_fuel : ∀ (f g : Nat) (x : Str), x.length ≤ f → x.length ≤ g → cntL f x = cntL g x
  | 0, g, x, hf, _ => by
    have : x = [] := List.eq_nil_of_length_eq_zero (by omega)
    subst this
    rw [cntL_nil, cntL_nil]
  | f + 1, 0, x, _, hg => by
    have : x = [] := List.eq_nil_of_length_eq_zero (by omega)
    subst this
    rw [cntL_nil, cntL_nil]
  | f + 1, g + 1, x, hf, hg => by
    rw [cntL, cntL]
    split
    · rfl
    · have h1 := decodeL_pos x
      rw [cntL_fuel f g _ (by rw [List.length_drop]; omega) (by rw [List.length_drop]; omega)]

set_option maxHeartbeats 1600000 in
set_option maxRecDepth 1000000 in
theorem countIn_does (x : Str) (w : World) (hx : x.length ≤ lim) :
    Calls Tryz.prog 61 #[.string ⟨x.toArray⟩] w fun e w' => e = .returned (.int .i64 (runeCount x)) ∧ More w w' := by
  have hsz : (⟨x.toArray⟩ : ByteArray).size = x.length := by simp [ByteArray.size]
  have HD := hide (decode_drop x)
  unfold lim at hx
  unfold runeCount
  go_enter Tryz.func61, Tryz.ntmps61
  go_wp2
  go_loopg [2] x.length (fun gf s2 wx => ∃ (pos n : Nat), wx.heap[w.heap.size]? = some (.stringIter ⟨x.toArray⟩ pos) ∧ s2 = .int .i64 n ∧ n + cntL gf (x.drop pos) = cntL x.length x ∧ x.length ≤ pos + gf ∧ n + gf ≤ x.length ∧ More w wx)
  case atStart => exact ⟨0, 0, World.iter_heap w _ 0, rfl, by simp, by omega, by omega, (More.refl w).alloc _⟩
  case round =>
    obtain ⟨pos, n, hit, rfl, hN, hfu, hle, hm⟩ := hrel
    by_cases hps : pos < (⟨x.toArray⟩ : ByteArray).size
    · obtain ⟨g', rfl⟩ : ∃ g', gk = g' + 1 := ⟨gk - 1, by omega⟩
      have hnx : ∀ ty, (Instr.next (.pointer (some ⟨w.heap.size, 0, none⟩)) true ty).run Tryz.prog wr = _ := fun ty => Lib.run_next_any_at wr w.heap.size ⟨x.toArray⟩ pos ty hit hps
      have hne : x.drop pos ≠ [] := by
        intro e
        have := congrArg List.length e
        simp at this
        omega
      rw [cntL, if_neg hne, List.drop_drop, ← unhide HD pos] at hN
      have hwd := Lib.width_pos ⟨x.toArray⟩ pos
      generalize (Utf8.decode ⟨x.toArray⟩ pos).2 = K at *
      have hit2 := Lib.iterAt_heap wr w.heap.size ⟨x.toArray⟩ pos (pos + K) hit
      have hp := iterAt_parts wr w.heap.size ⟨x.toArray⟩ (pos + K)
      have hm2 : More w (wr.iterAt w.heap.size ⟨x.toArray⟩ (pos + K)) := ⟨hp.1.1.trans hm.os, hp.1.2.1.trans hm.tape, hp.1.2.2.1.trans hm.output, by rw [hp.1.2.2.2]; exact hm.size, fun j hj => (hp.2 j (by omega)).trans (hm.block j hj)⟩
      clear hp hm hne
      generalize wr.iterAt w.heap.size ⟨x.toArray⟩ (pos + K) = W at *
      have HG := hide (And.intro hN (And.intro hit2 hm2))
      clear hN hit2 hm2
      go_wp2
      go_roundg g'
      case measure => omega
      case rel =>
        obtain ⟨g1, g2, g3⟩ := unhide HG
        exact ⟨pos + K, n + 1, g2, by go_num, by omega, by omega, by omega, g3⟩
    · have hnx : ∀ ty, (Instr.next (.pointer (some ⟨w.heap.size, 0, none⟩)) true ty).run Tryz.prog wr = _ := fun ty => Lib.run_next_end_at wr w.heap.size ⟨x.toArray⟩ pos ty hit hps
      have hd : x.drop pos = [] := List.drop_eq_nil_of_le (by omega)
      rw [hd, cntL_nil] at hN
      have HN := hide hN
      have HM := hide hm
      clear hN hm hd
      go_wp2
      go_ret
      exact ⟨by rw [← unhide HN]; rfl, unhide HM⟩

theorem cntL_ascii (a : UInt8) (r : Str) (f : Nat) (h : a.toNat < 128) : cntL (f + 1) (a :: r) = 1 + cntL f r := by
  have hd : Lib.decodeL (a :: r) = (a.toNat, 1) := decode_ascii ⟨(a :: r).toArray⟩ 0 (by simp [ByteArray.size]) h
  rw [cntL, if_neg (by simp), hd]
  simp

theorem countFrom_ascii : ∀ (n : Nat) (x : Str), n ≤ x.length → (∀ j (hj : j < n), ∀ a, x[j]? = some a → a.toNat < 128) → runeCount x = n + runeCount (x.drop n)
  | 0, x, _, _ => by simp
  | n + 1, [], h, _ => by simp at h
  | n + 1, a :: r, h, hA => by
    have h1 := countFrom_ascii n r (by simpa using h) (fun j hj b hb => hA (j + 1) (by omega) b (by simpa using hb))
    have h2 := hA 0 (by omega) a rfl
    show runeCount (a :: r) = n + 1 + runeCount (r.drop n)
    rw [runeCount, List.length_cons, cntL_ascii a r r.length h2, ← runeCount, h1]
    omega

theorem addr_add (g o j : Nat) : (⟨g, o, none⟩ : Addr).add j = ⟨g, o + j, none⟩ := by unfold Addr.add; split <;> simp_all

set_option maxHeartbeats 800000 in
set_option maxRecDepth 1000000 in
theorem count_nil (a : Option Addr) (cap : Nat) (w : World) :
    Calls Tryz.prog 36 #[.slice a 0 cap] w fun e w' => e = .returned (.int .i64 0) ∧ More w w' := by
  go_enter Tryz.func36, Tryz.ntmps36
  go_wp2
  go_loopg [4] 0 (fun gf s4 wx => s4 = .int .i64 0 ∧ wx = w)
  case atStart => exact ⟨rfl, rfl⟩
  case round =>
    obtain ⟨rfl, rfl⟩ := hrel
    go_wp2
    go_ret
    exact ⟨rfl, More.refl _⟩

set_option maxHeartbeats 1600000 in
set_option maxRecDepth 1000000 in
theorem count_some (g cap : Nat) (x : Str) (w : World) (hr : (bItem ⟨some ⟨g, 0, none⟩, cap⟩ x).ok w) (hx : x.length ≤ lim) :
    Calls Tryz.prog 36 #[.slice (some ⟨g, 0, none⟩) x.length cap] w fun e w' => e = .returned (.int .i64 (runeCount x)) ∧ More w w' := by
  have hcap : x.length ≤ cap := by
    rcases hr.2 with ⟨hv, hn⟩ | ⟨g', cap', cur, hv, hb, hg, hc, _⟩
    · cases hv
    · injection hv with e1 e2 e3
      subst e3
      exact hc
  have hx' : x.length ≤ 1099511627776 := hx
  have hcells : ∀ (j : Nat) (c : UInt8), x[j]? = some c → w.cell? ⟨g, j, none⟩ = some (.int .u8 c.toNat) := fun j c hc => by
    have := World.ownsRow.cells hr (g := g) rfl j (.int .u8 c.toNat) (by simp [bItem, byteCells, hc])
    rw [addr_add, Nat.zero_add] at this
    exact this
  have HCE := hide hcells
  clear hcells hr
  go_enter Tryz.func36, Tryz.ntmps36
  go_wp2
  go_loopg [4] x.length (fun gf s4 wx => ∃ n : Nat, s4 = .int .i64 n ∧ n + gf = x.length ∧ (∀ j (hj : j < n), ∀ a, x[j]? = some a → a.toNat < 128) ∧ wx = w)
  case atStart => exact ⟨0, rfl, by omega, fun j hj => by omega, rfl⟩
  case round =>
    obtain ⟨n, rfl, hg, hA, rfl⟩ := hrel
    cases gk with
    | zero =>
      have hn : n = x.length := by omega
      have HF := hide (countFrom_ascii n x (by omega) hA)
      subst hn
      clear hA
      go_wp2
      go_ret
      exact ⟨by rw [unhide HF]; simp [runeCount, cntL], More.refl _⟩
    | succ g' =>
      obtain ⟨a, ha⟩ : ∃ a, x[n]? = some a := ⟨_, List.getElem?_eq_getElem (by omega)⟩
      have hca := (unhide HCE) n a ha
      have hnz : (n : Int) < (x.length : Int) := by omega
      by_cases h128 : a.toNat < 128
      · have hz : (a.toNat : Int) < 128 := by omega
        have hA2 : ∀ j (hj : j < n + 1), ∀ b, x[j]? = some b → b.toNat < 128 := fun j hj b hb => by
          by_cases hjn : j < n
          · exact hA j hjn b hb
          · have : j = n := by omega
            subst this
            rw [ha] at hb
            cases hb
            exact h128
        have HA := hide hA2
        clear hA hA2 ha
        go_wp2
        go_roundg g'
        case measure => omega
        case rel => exact ⟨n + 1, by go_num, by omega, unhide HA, rfl⟩
      · have hz : (128 : Int) ≤ (a.toNat : Int) := by omega
        have HF := hide (countFrom_ascii n x (by omega) hA)
        have hdl : (x.drop n).length = x.length - n := by simp
        have HC := hide (fun w => countIn_does (x.drop n) w (by omega))
        have hcl := cntL_le (x.drop n).length (x.drop n)
        have hcv : ∀ c, (convert 74 9 (.slice (some ⟨g, n, none⟩) (x.length - n) c)).run Tryz.prog wr = .ok (.string ⟨(x.drop n).toArray⟩) wr := fun c => by
          rw [← hdl]
          refine run_convert_bytes_back (P := Tryz.prog) wr 74 9 5 ⟨g, n, none⟩ _ (x.drop n) Tryz.underlying74 Tryz.underlying5 Tryz.underlying9 fun j hj => ?_
          have := (unhide HCE) (n + j) ((x.drop n)[j]) (by rw [← List.getElem?_drop]; exact List.getElem?_eq_getElem hj)
          rw [addr_add]
          exact this
        rw [show cntL (x.drop n).length (x.drop n) = runeCount (x.drop n) from rfl] at hcl
        generalize runeCount (x.drop n) = m at *
        clear hA ha
        go_wp2_with fail
        refine (unhide HC _).mono ?_
        rintro e w2 ⟨rfl, hm⟩
        go_wp2
        go_ret
        exact ⟨by rw [unhide HF]; go_num, hm⟩

theorem count_does (r : Sl) (x : Str) (w : World) (hr : (bItem r x).ok w) (hx : x.length ≤ lim) :
    Calls Tryz.prog 36 #[.slice r.a x.length r.cap] w fun e w' => e = .returned (.int .i64 (runeCount x)) ∧ More w w' := by
  by_cases hx0 : x = []
  · subst hx0
    exact count_nil r.a r.cap w
  · rcases hr.2 with ⟨hv, hn⟩ | ⟨g, cap', cur, hv, hb, hg, hc, _⟩
    · exact absurd (List.eq_nil_of_length_eq_zero hn) hx0
    · have hra : r = ⟨some ⟨g, 0, none⟩, r.cap⟩ := by
        injection hv with e1 e2 e3
        cases r
        simp only [bItem] at e1
        subst e1
        rfl
      rw [hra] at hr ⊢
      exact count_some g r.cap x w hr hx

section
variable {w0 : World} {own0 : Nat → Prop} {b : Nat} {s : TS} {ex : List Item} {w : World} {R : Regs}
set_option maxHeartbeats 800000 in
set_option maxRecDepth 1000000 in
theorem held_does (h : Tk w0 own0 b s ex w) (hs : sz s ≤ lim) :
    Calls Tryz.prog 19 #[.pointer (some ⟨b, 0, none⟩)] w fun e w' => e = .returned (.int .i64 (runeCount s.text)) ∧ Tk w0 own0 b s ex w' := by
  obtain ⟨R, hR⟩ := h.reg
  have c1 := text_cell hR
  have HC := hide (count_does R.text s.text w (text_row hR) (by have := text_sz s; omega))
  have HT := hide h
  clear h hR
  go_enter Tryz.func19, Tryz.ntmps19
  go_wp2_with (go_at_call 36; refine (unhide HC).mono ?_; rintro e w1 ⟨rfl, hm⟩)
  go_ret
  exact ⟨rfl, (unhide HT).more hm⟩
end
end Go.Proofs.YtdfmapcnfficlaaGreatDoor

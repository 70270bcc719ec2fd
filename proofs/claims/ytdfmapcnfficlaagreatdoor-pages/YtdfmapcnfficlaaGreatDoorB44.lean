/-
  The law's 'apart': the tokens of a text.
  How many code points are held.
-/
import Derived.Test.YtdfmapcnfficlaaGreatDoorB42
import Derived.Test.YtdfmapcnfficlaaGreatDoorB43
import Derived.Test.YtdfmapcnfficlaaGreatDoorB39
import Derived.Lib.MapLaws
set_option linter.unusedSimpArgs false
set_option linter.unusedVariables false
namespace Go.Proofs.YtdfmapcnfficlaaGreatDoor
open Go Go.RowKit

def tokItem' (r : Sl) (l : List Tok) (ta : List Sl) : Item := ⟨34, 6, r.a, l.length, r.cap, toldCells l ta⟩

theorem row_cells {w : World} {it : Item} (h : it.ok w) {g : Nat} (hg : it.a = some ⟨g, 0, none⟩) : ∀ j u, it.xs[j]? = some u → w.cell? ⟨g, j, none⟩ = some u := by
  intro j u hu
  have := World.ownsRow.cells h (g := g) (by rw [hg]; rfl) j u hu
  rw [show ((⟨g, 0, none⟩ : Addr).add j) = ⟨g, j, none⟩ by unfold Addr.add; split <;> simp_all] at this
  exact this
theorem row_at {w : World} {it : Item} (h : it.ok w) (hn : it.n ≠ 0) : ∃ g, it.a = some ⟨g, 0, none⟩ ∧ g < w.heap.size ∧ it.n ≤ it.cap := by
  rcases h.2 with ⟨_, h0⟩ | ⟨g, cap, cur, hv, _, hgg, hc, _⟩
  · exact absurd h0 hn
  · injection hv with h1 h2 h3
    exact ⟨g, h1, (Array.getElem?_eq_some_iff.1 hgg).1, by rw [h3]; exact hc⟩
theorem row_cap {w : World} {it : Item} (h : it.ok w) : it.n ≤ it.cap := by
  rcases h.2 with ⟨_, h0⟩ | ⟨g, cap, cur, hv, _, hgg, hc, _⟩
  · omega
  · injection hv with h1 h2 h3
    rw [h3]; exact hc

theorem row_max {w : World} {it : Item} (h : it.ok w) : it.n ≤ maxLen := by
  rcases h.2 with ⟨_, h0⟩ | ⟨g, cap, cur, hv, _, hgg, hc, hm, _⟩
  · omega
  · exact Nat.le_trans hc hm

theorem toldCells_at : ∀ (l : List Tok) (ta : List Sl) (k : Nat) (t : Tok) (x : Sl), l[k]? = some t → ta[k]? = some x → ∀ i, i < 6 → (toldCells l ta)[k * 6 + i]? = (tokCells t x)[i]?
  | [], _, k, t, x, h, _, _, _ => by simp at h
  | _ :: _, [], k, t, x, _, h, _, _ => by simp at h
  | a :: l, y :: ta, 0, t, x, h, h', i, hi => by
    have e1 : a = t := by simpa using h
    have e2 : y = x := by simpa using h'
    subst e1 e2
    rw [toldCells, List.getElem?_append_left (by simpa [tokCells] using hi)]
    simp
  | a :: l, y :: ta, k + 1, t, x, h, h', i, hi => by
    rw [toldCells, List.getElem?_append_right (by simp [tokCells]; omega)]
    have := toldCells_at l ta k t x (by simpa using h) (by simpa using h') i hi
    rw [← this]
    congr 1
    simp [tokCells]
    omega

theorem toldItems_at : ∀ (l : List Tok) (ta : List Sl) (k : Nat) (t : Tok) (x : Sl), l[k]? = some t → ta[k]? = some x → aItem x t.attrs ∈ toldItems l ta
  | [], _, k, t, x, h, _ => by simp at h
  | _ :: _, [], k, t, x, _, h => by simp at h
  | a :: l, y :: ta, 0, t, x, h, h' => by
    have e1 : a = t := by simpa using h
    have e2 : y = x := by simpa using h'
    subst e1 e2
    simp [toldItems]
  | a :: l, y :: ta, k + 1, t, x, h, h' => by
    have := toldItems_at l ta k t x (by simpa using h) (by simpa using h')
    simp [toldItems, this]

theorem strsAt_of {w : World} {x : Sl} {l : List Str} (h : (aItem x l).ok w) : StrsAt w x l := by
  intro j y hy
  have hl : l.length ≠ 0 := fun e => by have := List.length_eq_zero_iff.1 e; subst this; simp at hy
  obtain ⟨g, hg, hlt, _⟩ := row_at h hl
  exact ⟨g, hg, hlt, row_cells h hg j _ (by simp [aItem, str, hy])⟩

theorem toksV_of {w : World} {r : Sl} {l : List Tok} {ta : List Sl} (h : (tokItem r l ta).ok w) (h2 : ∀ it ∈ toldItems l ta, it.ok w) (hl : ta.length = l.length) : ToksV w (.slice r.a l.length r.cap) l := by
  refine ⟨r.a, r.cap, rfl, fun hne => ?_, row_cap h, fun t ht => ?_⟩
  rotate_left
  · obtain ⟨k, hk, rfl⟩ := List.mem_iff_getElem.1 ht
    have hk' : k < ta.length := by rw [hl]; exact hk
    exact row_max (h2 _ (toldItems_at l ta k l[k] ta[k] (by simp [hk]) (by simp [hk'])))
  obtain ⟨g, hg, hlt, _⟩ := row_at h (fun e => hne (List.length_eq_zero_iff.1 e))
  refine ⟨g, hg, fun k t hk => ?_, hlt⟩
  have hk' : k < ta.length := by rw [hl]; exact (List.getElem?_eq_some_iff.1 hk).1
  obtain ⟨x, hx⟩ : ∃ x, ta[k]? = some x := ⟨ta[k], by simp [hk']⟩
  have hc : ∀ i u, i < 6 → (tokCells t x)[i]? = some u → w.cell? ⟨g, k * 6 + i, none⟩ = some u := fun i u hi hu => row_cells h hg _ _ ((toldCells_at l ta k t x hk hx i hi).trans hu)
  exact ⟨x, hc 0 _ (by decide) rfl, hc 1 _ (by decide) rfl, hc 2 _ (by decide) rfl, hc 3 _ (by decide) rfl, hc 4 _ (by decide) rfl, hc 5 _ (by decide) rfl, strsAt_of (h2 _ (toldItems_at l ta k t x hk hx))⟩

/-- The tokens of a text. -/
def toks (x : Str) : List Tok := (closeT (put { limit := x.length } x)).told

theorem kept_more {w w' : World} (h : Kept (fun _ => False) w w') : More w w' := ⟨h.os, h.tape, h.output, h.size, fun k hk => h.block k hk id⟩

section
variable {w0 : World} {own0 : Nat → Prop} {b : Nat} {s : TS} {ex : List Item} {w : World}
/-- What Take has given away. -/
theorem taken_toks {r : Sl} {l : List Tok} {ta : List Sl} (h : Tk w0 own0 b s (tokItem r l ta :: (toldItems l ta ++ ex)) w) (hl : ta.length = l.length) : ToksV w (.slice r.a l.length r.cap) l := by
  obtain ⟨⟨R, hR⟩, _⟩ := h
  exact toksV_of (hR.rows.ok _ (by simp)) (fun it hi => hR.rows.ok it (by simp [hi])) hl
end

set_option maxHeartbeats 1600000 in
set_option maxRecDepth 1000000 in
theorem apart_does (x : Str) (w : World) (hx : x.length ≤ 1073741824) (B : Base w (fun _ => False)) :
    Calls Tryz.prog 15 #[.string ⟨x.toArray⟩] w fun e w' => ∃ v, e = .returned (.tuple #[v, .bool true]) ∧ ToksV w' v (toks x) ∧ More w w' := by
  have HN := hide (new_does (x.length : Int) w (fun _ => False))
  rw [show max (x.length : Int) 0 = x.length by omega] at HN
  have ho := Open.new (x.length : Int)
  have H1 := hide (fun W hW => write_ok (w0 := w) (own0 := fun _ => False) (b := w.heap.size) (ex := []) (w := W) ho x (by omega) (by simp) (by show (x.length : Int) ≤ _; omega) B hW)
  obtain ⟨_, ho2, _⟩ := open_put (w0 := w) (own0 := fun _ => False) ho x (by omega)
  have H2 := hide (fun W hW => close_ok (w0 := w) (own0 := fun _ => False) (b := w.heap.size) (ex := []) (w := W) ho2 (by omega) B hW)
  have H3 := hide (fun W hW => take_does (w0 := w) (own0 := fun _ => False) (b := w.heap.size) (s := closeT (put { limit := x.length } x)) (ex := []) (w := W) hW)
  have hxl : (x.length : Int) ≤ 1073741824 := by omega
  clear ho ho2 B
  unfold toks
  generalize put { limit := x.length } x = s1 at *
  generalize closeT s1 = s2 at *
  go_enter Tryz.func15, Tryz.ntmps15
  go_wp2_with fail
  refine (unhide HN).mono ?_
  rintro e w1 ⟨rfl, h1⟩
  go_wp2_with fail
  refine (unhide H1 _ h1).mono ?_
  rintro e w2 ⟨rfl, h2⟩
  go_wp2_with fail
  refine (unhide H2 _ h2).mono ?_
  rintro e w3 ⟨rfl, h3⟩
  go_wp2_with fail
  refine (unhide H3 _ h3).mono ?_
  rintro e w4 ⟨r, ta, hl, rfl, h4⟩
  have HV := hide (taken_toks h4 hl)
  have HM := hide (kept_more h4.2)
  go_wp2_with fail
  go_quiet (fail)
  go_wp2
  go_ret2
  have hq : More w4 (w4.drewN nq) := ⟨rfl, rfl, rfl, Nat.le_refl _, fun _ _ => rfl⟩
  exact ⟨.slice r.a s2.told.length r.cap, rfl, (unhide HV).more hq, (unhide HM).trans' hq⟩
end Go.Proofs.YtdfmapcnfficlaaGreatDoor

set_option linter.unusedSimpArgs false
set_option linter.unusedVariables false
namespace Go.Proofs.YtdfmapcnfficlaaGreatDoor
open Go Go.RowKit

theorem get_drop (x : List UInt8) (n k : Nat) : (⟨x.toArray⟩ : ByteArray).get! (n + k) = (⟨(x.drop n).toArray⟩ : ByteArray).get! k := by
  simp [ByteArray.get!, List.getElem?_drop]
theorem decode_drop (x : List UInt8) (n : Nat) : Utf8.decode ⟨x.toArray⟩ n = Lib.decodeL (x.drop n) := by
  unfold Lib.decodeL
  rw [Lib.decode_at, Lib.decode_at]
  have h0 := get_drop x n 0
  have h1 := get_drop x n 1
  have h2 := get_drop x n 2
  have h3 := get_drop x n 3
  simp only [Nat.add_zero, Nat.zero_add] at *
  rw [h0, h1, h2, h3]
  simp [ByteArray.size]

/-- How many code points a text has. -/
def cntL : Nat → Str → Nat
  | 0, _ => 0
  | f + 1, x => if x = [] then 0 else 1 + cntL f (x.drop (Lib.decodeL x).2)
def runeCount (x : Str) : Nat := cntL x.length x
theorem cntL_nil (f : Nat) : cntL f [] = 0 := by cases f <;> simp [cntL]
theorem cntL_le : ∀ f x, cntL f x ≤ f
  | 0, _ => Nat.le_refl _
  | f + 1, x => by
    rw [cntL]
    split
    · omega
    · have := cntL_le f (x.drop (Lib.decodeL x).2); omega
theorem decodeL_pos (x : Str) : 1 ≤ (Lib.decodeL x).2 := Lib.width_pos ⟨x.toArray⟩ 0
theorem cntL_fuel : ∀ (f g : Nat) (x : Str), x.length ≤ f → x.length ≤ g → cntL f x = cntL g x
  | 0, g, x, hf, _ => by
    have : x = [] := List.eq_nil_of_length_eq_zero (by omega)
    subst this
    rw [cntL_nil, cntL_nil]
  | f + 1, 0, x, _, hg => by
    have : x = [] := List.eq_nil_of_length_eq_zero (by omega)
    subst this
    rw [cntL_nil, cntL_nil]
  | f + 1, g + 1, x, hf, hg => by
    rw [cntL, cntL]
    split
    · rfl
    · have h1 := decodeL_pos x
      rw [cntL_fuel f g _ (by rw [List.length_drop]; omega) (by rw [List.length_drop]; omega)]

set_option maxHeartbeats 1600000 in
set_option maxRecDepth 1000000 in
theorem countIn_does (x : Str) (w : World) (hx : x.length ≤ lim) :
    Calls Tryz.prog 61 #[.string ⟨x.toArray⟩] w fun e w' => e = .returned (.int .i64 (runeCount x)) ∧ More w w' := by
  have hsz : (⟨x.toArray⟩ : ByteArray).size = x.length := by simp [ByteArray.size]
  have HD := hide (decode_drop x)
  unfold lim at hx
  unfold runeCount
  go_enter Tryz.func61, Tryz.ntmps61
  go_wp2
  go_loopg [2] x.length (fun gf s2 wx => ∃ (pos n : Nat), wx.heap[w.heap.size]? = some (.stringIter ⟨x.toArray⟩ pos) ∧ s2 = .int .i64 n ∧ n + cntL gf (x.drop pos) = cntL x.length x ∧ x.length ≤ pos + gf ∧ n + gf ≤ x.length ∧ More w wx)
  case atStart => exact ⟨0, 0, World.iter_heap w _ 0, rfl, by simp, by omega, by omega, (More.refl w).alloc _⟩
  case round =>
    obtain ⟨pos, n, hit, rfl, hN, hfu, hle, hm⟩ := hrel
    by_cases hps : pos < (⟨x.toArray⟩ : ByteArray).size
    · obtain ⟨g', rfl⟩ : ∃ g', gk = g' + 1 := ⟨gk - 1, by omega⟩
      have hnx : ∀ ty, (Instr.next (.pointer (some ⟨w.heap.size, 0, none⟩)) true ty).run Tryz.prog wr = _ := fun ty => Lib.run_next_any_at wr w.heap.size ⟨x.toArray⟩ pos ty hit hps
      have hne : x.drop pos ≠ [] := by
        intro e
        have := congrArg List.length e
        simp at this
        omega
      rw [cntL, if_neg hne, List.drop_drop, ← unhide HD pos] at hN
      have hwd := Lib.width_pos ⟨x.toArray⟩ pos
      generalize (Utf8.decode ⟨x.toArray⟩ pos).2 = K at *
      have hit2 := Lib.iterAt_heap wr w.heap.size ⟨x.toArray⟩ pos (pos + K) hit
      have hp := iterAt_parts wr w.heap.size ⟨x.toArray⟩ (pos + K)
      have hm2 : More w (wr.iterAt w.heap.size ⟨x.toArray⟩ (pos + K)) := ⟨hp.1.1.trans hm.os, hp.1.2.1.trans hm.tape, hp.1.2.2.1.trans hm.output, by rw [hp.1.2.2.2]; exact hm.size, fun j hj => (hp.2 j (by omega)).trans (hm.block j hj)⟩
      clear hp hm hne
      generalize wr.iterAt w.heap.size ⟨x.toArray⟩ (pos + K) = W at *
      have HG := hide (And.intro hN (And.intro hit2 hm2))
      clear hN hit2 hm2
      go_wp2
      go_roundg g'
      case measure => omega
      case rel =>
        obtain ⟨g1, g2, g3⟩ := unhide HG
        exact ⟨pos + K, n + 1, g2, by go_num, by omega, by omega, by omega, g3⟩
    · have hnx : ∀ ty, (Instr.next (.pointer (some ⟨w.heap.size, 0, none⟩)) true ty).run Tryz.prog wr = _ := fun ty => Lib.run_next_end_at wr w.heap.size ⟨x.toArray⟩ pos ty hit hps
      have hd : x.drop pos = [] := List.drop_eq_nil_of_le (by omega)
      rw [hd, cntL_nil] at hN
      have HN := hide hN
      have HM := hide hm
      clear hN hm hd
      go_wp2
      go_ret
      exact ⟨by rw [← unhide HN]; rfl, unhide HM⟩

theorem cntL_ascii (a : UInt8) (r : Str) (f : Nat) (h : a.toNat < 128) : cntL (f + 1) (a :: r) = 1 + cntL f r := by
  have hd : Lib.decodeL (a :: r) = (a.toNat, 1) := decode_ascii ⟨(a :: r).toArray⟩ 0 (by simp [ByteArray.size]) h
  rw [cntL, if_neg (by simp), hd]
  simp

theorem countFrom_ascii : ∀ (n : Nat) (x : Str), n ≤ x.length → (∀ j (hj : j < n), ∀ a, x[j]? = some a → a.toNat < 128) → runeCount x = n + runeCount (x.drop n)
  | 0, x, _, _ => by simp
  | n + 1, [], h, _ => by simp at h
  | n + 1, a :: r, h, hA => by
    have h1 := countFrom_ascii n r (by simpa using h) (fun j hj b hb => hA (j + 1) (by omega) b (by simpa using hb))
    have h2 := hA 0 (by omega) a rfl
    show runeCount (a :: r) = n + 1 + runeCount (r.drop n)
    rw [runeCount, List.length_cons, cntL_ascii a r r.length h2, ← runeCount, h1]
    omega

theorem addr_add (g o j : Nat) : (⟨g, o, none⟩ : Addr).add j = ⟨g, o + j, none⟩ := by unfold Addr.add; split <;> simp_all

set_option maxHeartbeats 800000 in
set_option maxRecDepth 1000000 in
theorem count_nil (a : Option Addr) (cap : Nat) (w : World) :
    Calls Tryz.prog 36 #[.slice a 0 cap] w fun e w' => e = .returned (.int .i64 0) ∧ More w w' := by
  go_enter Tryz.func36, Tryz.ntmps36
  go_wp2
  go_loopg [4] 0 (fun gf s4 wx => s4 = .int .i64 0 ∧ wx = w)
  case atStart => exact ⟨rfl, rfl⟩
  case round =>
    obtain ⟨rfl, rfl⟩ := hrel
    go_wp2
    go_ret
    exact ⟨rfl, More.refl _⟩

set_option maxHeartbeats 1600000 in
set_option maxRecDepth 1000000 in
theorem count_some (g cap : Nat) (x : Str) (w : World) (hr : (bItem ⟨some ⟨g, 0, none⟩, cap⟩ x).ok w) (hx : x.length ≤ lim) :
    Calls Tryz.prog 36 #[.slice (some ⟨g, 0, none⟩) x.length cap] w fun e w' => e = .returned (.int .i64 (runeCount x)) ∧ More w w' := by
  have hcap : x.length ≤ cap := by
    rcases hr.2 with ⟨hv, hn⟩ | ⟨g', cap', cur, hv, hb, hg, hc, _⟩
    · cases hv
    · injection hv with e1 e2 e3
      subst e3
      exact hc
  have hx' : x.length ≤ 1099511627776 := hx
  have hcells : ∀ (j : Nat) (c : UInt8), x[j]? = some c → w.cell? ⟨g, j, none⟩ = some (.int .u8 c.toNat) := fun j c hc => by
    have := World.ownsRow.cells hr (g := g) rfl j (.int .u8 c.toNat) (by simp [bItem, byteCells, hc])
    rw [addr_add, Nat.zero_add] at this
    exact this
  have HCE := hide hcells
  clear hcells hr
  go_enter Tryz.func36, Tryz.ntmps36
  go_wp2
  go_loopg [4] x.length (fun gf s4 wx => ∃ n : Nat, s4 = .int .i64 n ∧ n + gf = x.length ∧ (∀ j (hj : j < n), ∀ a, x[j]? = some a → a.toNat < 128) ∧ wx = w)
  case atStart => exact ⟨0, rfl, by omega, fun j hj => by omega, rfl⟩
  case round =>
    obtain ⟨n, rfl, hg, hA, rfl⟩ := hrel
    cases gk with
    | zero =>
      have hn : n = x.length := by omega
      have HF := hide (countFrom_ascii n x (by omega) hA)
      subst hn
      clear hA
      go_wp2
      go_ret
      exact ⟨by rw [unhide HF]; simp [runeCount, cntL], More.refl _⟩
    | succ g' =>
      obtain ⟨a, ha⟩ : ∃ a, x[n]? = some a := ⟨_, List.getElem?_eq_getElem (by omega)⟩
      have hca := (unhide HCE) n a ha
      have hnz : (n : Int) < (x.length : Int) := by omega
      by_cases h128 : a.toNat < 128
      · have hz : (a.toNat : Int) < 128 := by omega
        have hA2 : ∀ j (hj : j < n + 1), ∀ b, x[j]? = some b → b.toNat < 128 := fun j hj b hb => by
          by_cases hjn : j < n
          · exact hA j hjn b hb
          · have : j = n := by omega
            subst this
            rw [ha] at hb
            cases hb
            exact h128
        have HA := hide hA2
        clear hA hA2 ha
        go_wp2
        go_roundg g'
        case measure => omega
        case rel => exact ⟨n + 1, by go_num, by omega, unhide HA, rfl⟩
      · have hz : (128 : Int) ≤ (a.toNat : Int) := by omega
        have HF := hide (countFrom_ascii n x (by omega) hA)
        have hdl : (x.drop n).length = x.length - n := by simp
        have HC := hide (fun w => countIn_does (x.drop n) w (by omega))
        have hcl := cntL_le (x.drop n).length (x.drop n)
        have hcv : ∀ c, (convert 74 9 (.slice (some ⟨g, n, none⟩) (x.length - n) c)).run Tryz.prog wr = .ok (.string ⟨(x.drop n).toArray⟩) wr := fun c => by
          rw [← hdl]
          refine run_convert_bytes_back (P := Tryz.prog) wr 74 9 5 ⟨g, n, none⟩ _ (x.drop n) Tryz.underlying74 Tryz.underlying5 Tryz.underlying9 fun j hj => ?_
          have := (unhide HCE) (n + j) ((x.drop n)[j]) (by rw [← List.getElem?_drop]; exact List.getElem?_eq_getElem hj)
          rw [addr_add]
          exact this
        rw [show cntL (x.drop n).length (x.drop n) = runeCount (x.drop n) from rfl] at hcl
        generalize runeCount (x.drop n) = m at *
        clear hA ha
        go_wp2_with fail
        refine (unhide HC _).mono ?_
        rintro e w2 ⟨rfl, hm⟩
        go_wp2
        go_ret
        exact ⟨by rw [unhide HF]; go_num, hm⟩

theorem count_does (r : Sl) (x : Str) (w : World) (hr : (bItem r x).ok w) (hx : x.length ≤ lim) :
    Calls Tryz.prog 36 #[.slice r.a x.length r.cap] w fun e w' => e = .returned (.int .i64 (runeCount x)) ∧ More w w' := by
  by_cases hx0 : x = []
  · subst hx0
    exact count_nil r.a r.cap w
  · rcases hr.2 with ⟨hv, hn⟩ | ⟨g, cap', cur, hv, hb, hg, hc, _⟩
    · exact absurd (List.eq_nil_of_length_eq_zero hn) hx0
    · have hra : r = ⟨some ⟨g, 0, none⟩, r.cap⟩ := by
        injection hv with e1 e2 e3
        cases r
        simp only [bItem] at e1
        subst e1
        rfl
      rw [hra] at hr ⊢
      exact count_some g r.cap x w hr hx

section
variable {w0 : World} {own0 : Nat → Prop} {b : Nat} {s : TS} {ex : List Item} {w : World} {R : Regs}
set_option maxHeartbeats 800000 in
set_option maxRecDepth 1000000 in
theorem held_does (h : Tk w0 own0 b s ex w) (hs : sz s ≤ lim) :
    Calls Tryz.prog 19 #[.pointer (some ⟨b, 0, none⟩)] w fun e w' => e = .returned (.int .i64 (runeCount s.text)) ∧ Tk w0 own0 b s ex w' := by
  obtain ⟨R, hR⟩ := h.reg
  have c1 := text_cell hR
  have HC := hide (count_does R.text s.text w (text_row hR) (by have := text_sz s; omega))
  have HT := hide h
  clear h hR
  go_enter Tryz.func19, Tryz.ntmps19
  go_wp2_with (go_at_call 36; refine (unhide HC).mono ?_; rintro e w1 ⟨rfl, hm⟩)
  go_ret
  exact ⟨rfl, (unhide HT).more hm⟩
end
end Go.Proofs.YtdfmapcnfficlaaGreatDoor

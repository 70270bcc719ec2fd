/-
  Code points: all that are whole.
  The end of the points; Take; what is closed.
-/
import Derived.Test.YtdfmapcnfficlaaGreatDoorB38
import Derived.Lib.QuoteLoop
set_option linter.unusedSimpArgs false
set_option linter.unusedVariables false
namespace Go.Proofs.YtdfmapcnfficlaaGreatDoor
open Go Go.RowKit
section
variable {w0 : World} {own0 : Nat → Prop} {b : Nat} {s : TS} {ex : List Item} {w : World} {R : Regs}

set_option maxHeartbeats 800000 in
set_option maxRecDepth 1000000 in
theorem clone_does (x : Str) (w : World) (hx : x.length ≤ lim) : Calls Tryz.prog 57 #[.string ⟨x.toArray⟩] w fun e w' => e = .returned (.string ⟨x.toArray⟩) ∧ More w w' := by
  have H := hide (Tryz.stringslite_Clone ⟨x.toArray⟩ w (by unfold lim at hx; simp [ByteArray.size]; omega))
  clear hx
  go_enter Tryz.func57, Tryz.ntmps57
  go_wp2_with (go_at_call 88; refine (unhide H).mono ?_; rintro e w1 ⟨rfl, hb⟩)
  go_ret
  exact ⟨rfl, More.of_below hb⟩

def readN (n : Nat) : Nat → TS → Str → TS × Str
  | 0, s, r => (s, r)
  | f + 1, s, r => if (firstPt r).2 = 0 then (s, r) else readN n f (pass n s (firstPt r).1) (r.drop (firstPt r).2)
def read (n f : Nat) (s : TS) (chunk : Str) : TS := { (readN n f s (s.begun ++ chunk)).1 with begun := (readN n f s (s.begun ++ chunk)).2 }

/-- Each code point may be looked at, and there are at most so many. -/
def Reads (w0 : World) (own0 : Nat → Prop) (n : Nat) : Nat → TS → Str → Prop
  | 0, _, r => (firstPt r).2 = 0
  | f + 1, s, r => (firstPt r).2 = 0 ∨ ((firstPt r).2 ≠ 0 ∧ (¬ ((firstPt r).1 = 10 ∧ s.behind = true) → May w0 own0 n (setBehind s (firstPt r).1) (if (firstPt r).1 = 13 then 10 else (firstPt r).1)) ∧ Reads w0 own0 n f (pass n s (firstPt r).1) (r.drop (firstPt r).2))

theorem firstPt_le (x : Str) : (firstPt x).2 ≤ x.length := by
  unfold firstPt
  cases hx : x with
  | nil => simp [fullR]
  | cons a r =>
    rw [← hx]
    have hl : 1 ≤ x.length := by rw [hx]; simp
    have hs : (⟨x.toArray⟩ : ByteArray).size = x.length := by simp [ByteArray.size]
    split
    · simp
    · split
      · exact (brokenFrom_le x x.length 1).2 hl
      · unfold Lib.decodeGo
        rw [if_neg (by omega)]
        have := Lib.width_le ⟨x.toArray⟩ (by omega)
        omega

set_option maxHeartbeats 1600000 in
set_option maxRecDepth 1000000 in
theorem read_does (n f : Nat) (chunk : Str) (B : Base w0 own0) (hc : s.begun.length + chunk.length ≤ lim) (hr : Reads w0 own0 n f s (s.begun ++ chunk)) (h : Tk w0 own0 b s ex w) :
    Calls Tryz.prog 33 #[.pointer (some ⟨b, 0, none⟩), .string ⟨chunk.toArray⟩, lookV b] w fun e w' => e = .returned (.tuple #[]) ∧ Tk w0 own0 b (read n f s chunk) ex w' := by
  have hcat := cat_run s.begun chunk w hc
  have c1 := begun_cell h
  have HT := hide h
  have HR := hide hr
  have HB := hide B
  have hl : (s.begun ++ chunk).length ≤ lim := by simpa using hc
  unfold lookV read
  clear h hr B
  generalize hx0 : s.begun ++ chunk = x0 at *
  go_enter Tryz.func33, Tryz.ntmps33
  go_wp2
  go_loopg [6] f (fun gf s6 wx => ∃ (s1 : TS) (r : Str), s6 = .string ⟨r.toArray⟩ ∧ r.length ≤ lim ∧ Reads w0 own0 n gf s1 r ∧ readN n gf s1 r = readN n f s x0 ∧ Tk w0 own0 b s1 ex wx)
  case atStart => exact ⟨s, x0, rfl, hl, unhide HR, rfl, unhide HT⟩
  case round =>
    obtain ⟨s1, r, rfl, hrl, hR, hN, hT⟩ := hrel
    have HC := hide (firstPoint_does r wr hrl ((unhide HB).at hT.2).tabs)
    have hle := firstPt_le r
    cases gk with
    | zero =>
      have hz : (firstPt r).2 = 0 := hR
      rw [readN] at hN
      rw [hz] at HC
      have HN := hide hN
      have hzi : (((firstPt r).2 : Int) == 0) = true := by simp [hz]
      have HCl := hide (fun w' => clone_does r w' hrl)
      have HTT := hide hT
      clear hN hT hR
      generalize (firstPt r).1 = c at *
      go_wp2_with fail
      refine (unhide HC).mono ?_
      rintro e w2 ⟨rfl, hm2⟩
      go_wp2_with fail
      refine (unhide HCl _).mono ?_
      rintro e w3 ⟨rfl, hm3⟩
      have T3 := (unhide HTT).more (hm2.trans hm3)
      have d3 := begun_cell T3
      have f3 := T3.frozen
      have H4 := hide (tk_begun T3 r)
      clear T3
      go_wp2
      go_end0
      exact ⟨rfl, by rw [← unhide HN]; exact unhide H4⟩
    | succ g' =>
      rw [readN] at hN
      rcases hR with hz | ⟨hz, hmay, hrest⟩
      · rw [if_pos hz] at hN
        rw [hz] at HC
        have hR := True.intro
        have HN := hide hN
        have hzi : (((firstPt r).2 : Int) == 0) = true := by simp [hz]
        have HCl := hide (fun w' => clone_does r w' hrl)
        have HTT := hide hT
        clear hN hT hR
        generalize (firstPt r).1 = c at *
        go_wp2_with fail
        refine (unhide HC).mono ?_
        rintro e w2 ⟨rfl, hm2⟩
        go_wp2_with fail
        refine (unhide HCl _).mono ?_
        rintro e w3 ⟨rfl, hm3⟩
        have T3 := (unhide HTT).more (hm2.trans hm3)
        have d3 := begun_cell T3
        have f3 := T3.frozen
        have H4 := hide (tk_begun T3 r)
        clear T3
        go_wp2
        go_end0
        exact ⟨rfl, by rw [← unhide HN]; exact unhide H4⟩
      · rw [if_neg hz] at hN
        have HN := hide hN
        have HRest := hide hrest
        have HP := hide (fun w' (hw : More wr w') => pass_does n (firstPt r).1 hmay (hT.more hw))
        have hzi : (((firstPt r).2 : Int) == 0) = false := by simpa using hz
        have hsl : ∀ W, (Instr.slice 9 (.string ⟨r.toArray⟩) (some (.int .i64 ((firstPt r).2 : Int))) none none).run Tryz.prog W = .ok (.string ⟨(r.drop (firstPt r).2).toArray⟩) W := fun W => by
          rw [run_slice_string_from_if W 9 ⟨r.toArray⟩ .i64 (firstPt r).2 Tryz.underlying9, if_pos ⟨by omega, by simp [ByteArray.size]; omega⟩, Int.toNat_natCast, extract_drop]
        unfold lookV at HP
        clear hN hrest hmay hT hz
        generalize (firstPt r).1 = c at *
        generalize (firstPt r).2 = k at *
        go_wp2_with (first
          | (go_at_call 55; refine (unhide HC).mono ?_; rintro e w2 ⟨rfl, hm2⟩)
          | (go_at_call 56; refine (unhide HP _ hm2).mono ?_; rintro e w3 ⟨rfl, h3⟩))
        go_roundg g'
        case measure => omega
        case rel => exact ⟨_, _, rfl, by simp; omega, unhide HRest, unhide HN, h3⟩
end
end Go.Proofs.YtdfmapcnfficlaaGreatDoor

set_option linter.unusedSimpArgs false
set_option linter.unusedVariables false
namespace Go.Proofs.YtdfmapcnfficlaaGreatDoor
open Go Go.RowKit
section
variable {w0 : World} {own0 : Nat → Prop} {b : Nat} {s : TS} {ex : List Item} {w : World} {R : Regs}

def endPoints (n : Nat) (s : TS) : TS := if s.begun = [] then s else pass n { s with begun := [] } 65533

set_option maxHeartbeats 800000 in
set_option maxRecDepth 1000000 in
theorem end_does (n : Nat) (hm : s.begun ≠ [] → May w0 own0 n (setBehind { s with begun := [] } 65533) 65533) (h : Tk w0 own0 b s ex w) :
    Calls Tryz.prog 59 #[.pointer (some ⟨b, 0, none⟩), lookV b] w fun e w' => e = .returned (.tuple #[]) ∧ Tk w0 own0 b (endPoints n s) ex w' := by
  have c1 := begun_cell h
  have f1 := h.frozen
  have HT := hide h
  have H2 := hide (fun hh => pass_does (s := { s with begun := [] }) n 65533 (fun _ => hm hh) (tk_begun h []))
  clear h hm
  unfold endPoints
  by_cases hb : s.begun = []
  · rw [if_pos hb]
    have e1 : (s.begun == []) = true := by simp [hb]
    clear hb
    unfold lookV
    go_enter Tryz.func59, Tryz.ntmps59
    go_wp2
    try simp only [Exit.inBlock, Exit.then]
    refine bodyPost_ret (results_none rfl _ _ _) rfl ?_
    exact ⟨rfl, unhide HT⟩
  · rw [if_neg hb]
    have e1 : (s.begun == []) = false := by simpa using hb
    have H3 := hide (unhide H2 hb)
    clear hb H2
    unfold lookV at *
    go_enter Tryz.func59, Tryz.ntmps59
    go_wp2_with (go_at_call 56; refine (unhide H3).mono ?_; rintro e w1 ⟨rfl, h1⟩)
    go_end0
    exact ⟨rfl, h1⟩

set_option maxHeartbeats 800000 in
set_option maxRecDepth 1000000 in
theorem isClosed_does (h : Tk w0 own0 b s ex w) :
    Calls Tryz.prog 31 #[.pointer (some ⟨b, 0, none⟩)] w fun e w' => e = .returned (.bool s.closed) ∧ w' = w := by
  obtain ⟨R, hR⟩ := h.reg
  have c1 : w.cell? ⟨b, 4, none⟩ = some (.bool s.closed) := hR.1.cell 4
  clear h hR
  go_enter Tryz.func31, Tryz.ntmps31
  go_wp2
  go_ret
  exact ⟨rfl, rfl⟩

def tokItem (r : Sl) (l : List Tok) (ta : List Sl) : Item := ⟨34, 6, r.a, l.length, r.cap, toldCells l ta⟩

theorem perm_take (P A B E : List Item) (N T : Item) : (P ++ N :: (A ++ T :: (B ++ E))).Perm (P ++ T :: ((A ++ (B ++ E)) ++ [N])) := by
  refine List.Perm.append_left P ?_
  refine (List.Perm.cons N (List.perm_middle)).trans ?_
  refine (List.Perm.swap T N _).trans (List.Perm.cons T ?_)
  exact List.perm_append_comm (l₁ := [N])

/-- The tokens are given away. -/
theorem tk_take (h : TkR w0 own0 b s R ex w) : Tk w0 own0 b { s with told := [] } (tokItem R.told s.told R.tattrs :: (toldItems s.told R.tattrs ++ ex)) (w.setCell ⟨b, 25, none⟩ (.slice none 0 0)) := by
  obtain ⟨hR, hk⟩ := h
  refine ⟨⟨{ R with told := ⟨none, 0⟩, tattrs := [] }, ?_⟩, hk.setCell _ _ hR.ownB⟩
  have hself : (w.setCell ⟨b, 25, none⟩ (.slice none 0 0)).heap[b]? = some (.cells (cellsOf { s with told := [] } { R with told := ⟨none, 0⟩, tattrs := [] }) 84 (0, 0)) := by rw [set_self hR.self]; rfl
  have hI : Items w (fun k => own0 k ∨ w0.heap.size ≤ k) (itemsOf s R ++ ex) := ⟨hR.rows.ok, hR.rows.nodup, fun k hk => (hR.rows.own k hk).1⟩
  refine hR.anew hself (fun k hk => set_other _ hk) (itemsOf s R ++ ex) [] [⟨34, 6, none, 0, 0, []⟩] (by simp) ?_ ?_ (.inl ⟨rfl, rfl⟩) hR.la hR.lv rfl
  · intro it hi
    rw [List.mem_singleton.1 hi]
    exact ⟨World.ownsRow_nil w 0 34 6, rfl⟩
  · have := perm_take [bItem R.text s.text, bItem R.tname s.tag.name, bItem R.buffer s.tag.buffer, ⟨210, 3, R.atts.a, s.tag.atts.length, R.atts.cap, attsCells s.tag.atts R.anames R.avalues⟩, bItem R.comment s.comment, bItem R.dname s.dname] (attItems s.tag.atts R.anames R.avalues) (toldItems s.told R.tattrs) ex ⟨34, 6, none, 0, 0, []⟩ (tokItem R.told s.told R.tattrs)
    simpa [itemsOf, tokItem, toldItems, toldCells, List.append_assoc] using this

def take (s : TS) : TS := { s with told := [] }

set_option maxHeartbeats 800000 in
set_option maxRecDepth 1000000 in
theorem take_does (h : Tk w0 own0 b s ex w) :
    Calls Tryz.prog 18 #[.pointer (some ⟨b, 0, none⟩)] w fun e w' => ∃ (r : Sl) (ta : List Sl), ta.length = s.told.length ∧ e = .returned (.slice r.a s.told.length r.cap) ∧ Tk w0 own0 b (take s) (tokItem r s.told ta :: (toldItems s.told ta ++ ex)) w' := by
  obtain ⟨R, hR⟩ := h.reg
  have c1 : w.cell? ⟨b, 25, none⟩ = some (.slice R.told.a s.told.length R.told.cap) := hR.1.cell 25
  have f1 := h.frozen
  have H1 := hide (tk_take hR)
  have HL := hide hR.1.lt
  clear h hR
  go_enter Tryz.func18, Tryz.ntmps18
  go_wp2
  go_ret
  exact ⟨R.told, R.tattrs, unhide HL, rfl, unhide H1⟩

end
end Go.Proofs.YtdfmapcnfficlaaGreatDoor

/-
  The tokenizer is made, is ended, is closed; pieces are written.
-/
import Derived.Test.YtdfmapcnfficlaaGreatDoorRuns
import Derived.Test.YtdfmapcnfficlaaGreatDoorUtf
set_option linter.unusedSimpArgs false
set_option linter.unusedVariables false
namespace Go.Proofs.YtdfmapcnfficlaaGreatDoor
open Go Go.RowKit
section
variable {w0 : World} {own0 : Nat → Prop} {b : Nat} {s : TS} {ex : List Item} {w : World} {R : Regs} {c : Int}

theorem tk_closed (h : Tk w0 own0 b s ex w) (v : Bool) : Tk w0 own0 b { s with closed := v } ex (w.setCell ⟨b, 4, none⟩ (.bool v)) := by
  obtain ⟨⟨R, hR⟩, hk⟩ := h
  exact ⟨⟨R, hR.setCell 4 _ rfl rfl rfl rfl rfl⟩, hk.setCell _ _ hR.ownB⟩
theorem tk_bytes (h : Tk w0 own0 b s ex w) (v : Int) : Tk w0 own0 b { s with bytes := v } ex (w.setCell ⟨b, 3, none⟩ (.int .i64 v)) := by
  obtain ⟨⟨R, hR⟩, hk⟩ := h
  exact ⟨⟨R, hR.setCell 3 _ rfl rfl rfl rfl rfl⟩, hk.setCell _ _ hR.ownB⟩
theorem bytes_cell (h : Tk w0 own0 b s ex w) : w.cell? ⟨b, 3, none⟩ = some (.int .i64 s.bytes) := by
  obtain ⟨R, hR⟩ := h.reg
  have := hR.1.cell 3
  exact this
theorem limit_cell (h : Tk w0 own0 b s ex w) : w.cell? ⟨b, 2, none⟩ = some (.int .i64 s.limit) := by
  obtain ⟨R, hR⟩ := h.reg
  have := hR.1.cell 2
  exact this
theorem closed_cell (h : Tk w0 own0 b s ex w) : w.cell? ⟨b, 4, none⟩ = some (.bool s.closed) := by
  obtain ⟨R, hR⟩ := h.reg
  have := hR.1.cell 4
  exact this

/-- The tokenizer is ended, without a Finish. -/
def endAll (s : TS) : TS := flush (lookN 4 (endPoints 4 { s with closed := true }) (-1))

theorem endPoints_fine (hf : Fine s) (h1 : s.place + 1 ≤ 1099511627776) (hs : sz s + 512 ≤ lim) :
    (s.begun ≠ [] → Base w0 own0 → May w0 own0 4 (setBehind { s with begun := [] } 65533) 65533) ∧ Fine (endPoints 4 s) ∧ sz (endPoints 4 s) ≤ sz s + 512 ∧ (endPoints 4 s).place ≤ s.place + 1 ∧ (endPoints 4 s).bytes = s.bytes ∧ (endPoints 4 s).limit = s.limit ∧ (endPoints 4 s).closed = s.closed := by
  have hz : sz { s with begun := [] } ≤ sz s := by simp [sz]
  have hf' : Fine { s with begun := [] } := hf.head rfl rfl rfl rfl rfl rfl rfl rfl
  obtain ⟨i1, i2, i3, i4, i5, i6, i7, i8⟩ := pass_fine (w0 := w0) (own0 := own0) (c := 65533) hf' (by decide) (by decide) (show s.place ≤ 1099511627776 by omega) (by omega)
  refine ⟨fun _ => i1 (by simp), ?_⟩
  unfold endPoints
  split
  · exact ⟨hf, by omega, by omega, rfl, rfl, rfl⟩
  · exact ⟨i3, by omega, i4, i6, i7, i8⟩

set_option maxHeartbeats 1600000 in
set_option maxRecDepth 1000000 in
theorem endAll_does (B : Base w0 own0) (hf : Fine s) (h1 : s.place + 1 ≤ 1099511627776) (hs : sz s + 2048 ≤ lim) (h : Tk w0 own0 b s ex w) :
    Calls Tryz.prog 35 #[.pointer (some ⟨b, 0, none⟩)] w fun e w' => e = .returned (.tuple #[]) ∧ Tk w0 own0 b (endAll s) ex w' := by
  have hz : sz { s with closed := true } = sz s := rfl
  have hf' : Fine { s with closed := true } := hf.head rfl rfl rfl rfl rfl rfl rfl rfl
  obtain ⟨i1, i2, i3, i4, _⟩ := endPoints_fine (w0 := w0) (own0 := own0) hf' h1 (by omega)
  obtain ⟨j1, j2, j3, _⟩ := look4 (w0 := w0) (own0 := own0) i2 (c := -1) ⟨by decide, by decide⟩ (by have : ({ s with closed := true } : TS).place = s.place := rfl; omega) (by omega)
  have c1 := closed_cell h
  have f1 := h.frozen
  have H1 := hide (fun W (hW : Tk w0 own0 b { s with closed := true } ex W) => end_does (s := { s with closed := true }) 4 (fun hh => i1 hh B) hW)
  have H2 := hide (fun W (hW : Tk w0 own0 b (endPoints 4 { s with closed := true }) ex W) => look_does (-1) 4 (j1 B).runs hW)
  have H3 := hide (fun W (hW : Tk w0 own0 b (lookN 4 (endPoints 4 { s with closed := true }) (-1)) ex W) => tellText_does hW (by unfold sz at j2 i3 hz hs; omega))
  have HT := hide (tk_closed h true)
  unfold endAll
  unfold lookV at H1
  clear h B hf hf' i1 i2 i3 i4 j1 j2 j3 hz hs
  generalize endPoints 4 { s with closed := true } = s1 at *
  generalize lookN 4 s1 (-1) = s2 at *
  go_enter Tryz.func35, Tryz.ntmps35
  go_wp2_with fail
  refine (unhide H1 _ (unhide HT)).mono ?_
  rintro e w1 ⟨rfl, h1⟩
  go_wp2_with fail
  refine (unhide H2 _ h1).mono ?_
  rintro e w2 ⟨rfl, h2⟩
  go_wp2_with fail
  refine (unhide H3 _ h2).mono ?_
  rintro e w3 ⟨rfl, h3⟩
  go_wp2
  go_end0
  exact ⟨rfl, h3⟩

/-- What a piece makes of the tokenizer, if the limit leaves room for all of it. -/
def put (s : TS) (chunk : Str) : TS := read 4 (s.begun ++ chunk).length { s with bytes := s.bytes + chunk.length } chunk

/-- The tokenizer is open, and has taken n bytes. -/
structure Open (s : TS) (n : Nat) : Prop where
  fine : Fine s
  cl : s.closed = false
  by' : s.bytes = n
  wait : (firstPt s.begun).2 = 0
  place : s.place + s.begun.length ≤ n
  size : sz { s with begun := [] } + 512 * s.begun.length ≤ 512 * n

theorem Open.short {s : TS} {n : Nat} (h : Open s n) : s.begun.length ≤ 3 := firstPt_wait h.wait
theorem Open.small {s : TS} {n : Nat} (h : Open s n) : sz s ≤ 512 * n + 3 := by
  have := h.size
  have := h.short
  have e : sz s = sz { s with begun := [] } + s.begun.length := by simp [sz]; omega
  omega
theorem sz_begun (s : TS) (l : Str) : sz { s with begun := l } = sz { s with begun := [] } + l.length := by simp [sz]; omega
theorem sz_begun' (s : TS) : sz s = sz { s with begun := [] } + s.begun.length := by simp [sz]; omega

theorem open_put {n : Nat} (h : Open s n) (x : Str) (hn : n + x.length ≤ 1073741824) :
    (Base w0 own0 → Reads w0 own0 4 (s.begun ++ x).length { s with bytes := s.bytes + x.length } (s.begun ++ x)) ∧ Open (put s x) (n + x.length) ∧ (put s x).limit = s.limit := by
  have h3 := h.short
  have hf : Fine { s with bytes := s.bytes + x.length } := h.fine.head rfl rfl rfl rfl rfl rfl rfl rfl
  have hl : (s.begun ++ x).length = s.begun.length + x.length := List.length_append
  have hz : sz ({ s with bytes := s.bytes + x.length } : TS) = sz s := rfl
  have hp : ({ s with bytes := s.bytes + x.length } : TS).place = s.place := rfl
  have hpl := h.place
  have hsz := h.small
  have hs1 := h.size
  have hs2 := sz_begun' s
  obtain ⟨j1, j2, j3, j4, j5, j6, j7, j8, j9, j10⟩ := reads_of (w0 := w0) (own0 := own0) (s.begun ++ x).length { s with bytes := s.bytes + x.length } (s.begun ++ x) (Nat.le_refl _) hf (by omega) (by unfold lim; omega)
  refine ⟨j1, ?_, ?_⟩
  · unfold put read
    generalize hr : readN 4 (s.begun ++ x).length { s with bytes := s.bytes + x.length } (s.begun ++ x) = r at *
    obtain ⟨r1, r2⟩ := r
    dsimp only at *
    have hs3 := sz_begun' r1
    have j5' : r1.begun = s.begun := j5
    refine ⟨j3.head rfl rfl rfl rfl rfl rfl rfl rfl, j8.trans h.cl, ?_, j10, ?_, ?_⟩
    · show r1.bytes = _
      rw [j6]
      show s.bytes + (x.length : Int) = _
      rw [h.by']
      omega
    · show r1.place + r2.length ≤ _
      omega
    · show sz { r1 with begun := [] } + 512 * r2.length ≤ _
      rw [j5'] at hs3
      omega
  · exact j7

theorem open_take {n : Nat} (h : Open s n) : Open (take s) n := by
  refine ⟨h.fine.head rfl rfl rfl rfl rfl rfl rfl rfl, h.cl, h.by', h.wait, h.place, ?_⟩
  have := h.size
  have e : sz { take s with begun := [] } ≤ sz { s with begun := [] } := by simp [sz, take]
  show sz { take s with begun := [] } + 512 * s.begun.length ≤ _
  omega

theorem endAll_small (w0 : World) {n : Nat} (h : Open s n) (hn : n ≤ 1073741824) : (endAll s).told.length ≤ 512 * n + 1028 := by
  have hz : sz { s with closed := true } = sz s := rfl
  have hf' : Fine { s with closed := true } := h.fine.head rfl rfl rfl rfl rfl rfl rfl rfl
  have hsz := h.small
  have hpl := h.place
  obtain ⟨i1, i2, i3, i4, _⟩ := endPoints_fine (w0 := w0) (own0 := fun _ => False) hf' (by show s.place + 1 ≤ _; omega) (by unfold lim; omega)
  have hp : ({ s with closed := true } : TS).place = s.place := rfl
  obtain ⟨j1, j2, j3, _⟩ := look4 (w0 := w0) (own0 := fun _ => False) i2 (c := -1) ⟨by decide, by decide⟩ (by omega) (by unfold lim; omega)
  have k1 := sz_flush (lookN 4 (endPoints 4 { s with closed := true }) (-1))
  have k2 : (endAll s).told.length ≤ sz (endAll s) := by unfold sz; omega
  unfold endAll at *
  omega
theorem tk_bare (h : Tk w0 own0 b s ex w) : Tk w0 own0 b s (aItem ⟨none, 0⟩ [] :: ex) w := by
  obtain ⟨⟨R, hR⟩, hk⟩ := h
  exact ⟨⟨R, hR.bare⟩, hk⟩
theorem good_new (l c : Int) : Good { limit := l } c := by
  refine ⟨?_, ?_, .inl rfl, ?_, (fun h => by cases h), (fun h => by cases h), (fun h => by cases h), (fun h => by cases h), (fun h => by cases h), (fun h => by cases h), (fun h => by cases h)⟩
  · show (0 : Int) ≤ 0
    decide
  · show (0 : Int) ≤ 35
    decide
  · show ([] : Str).length ≤ 8
    decide
theorem Open.new (l : Int) : Open { limit := l } 0 := by
  refine ⟨⟨good_new l, by simp⟩, rfl, rfl, ?_, by simp, by simp [sz, attsz]⟩
  have := firstPt_le []
  simpa using this

def emptyRegs : Regs := ⟨⟨none, 0⟩, ⟨none, 0⟩, ⟨none, 0⟩, ⟨none, 0⟩, none, ⟨none, 0⟩, ⟨none, 0⟩, ⟨none, 0⟩, [], [], []⟩
theorem tk_new (w : World) (own0 : Nat → Prop) (l : Int) : Tk w own0 w.heap.size { limit := l } [] (w.alloc (.cells (cellsOf { limit := l } emptyRegs) 84)) := by
  refine ⟨⟨emptyRegs, heap_alloc_new w _, .inr (Nat.le_refl _), ⟨?_, ?_, ?_⟩, trivial, ?_, rfl, rfl, rfl⟩, ?_⟩
  · intro it hi
    simp only [itemsOf, emptyRegs, attItems, toldItems, attsCells, toldCells, bItem, byteCells, List.append_nil, List.map_nil, List.mem_cons, List.not_mem_nil, or_false] at hi
    rcases hi with rfl | rfl | rfl | rfl | rfl | rfl | rfl <;> exact World.ownsRow_nil _ _ _ _
  · exact (List.nodup_nil : ([] : List Nat).Nodup)
  · intro k hk
    cases (show k ∈ ([] : List Nat) from hk)
  · intro g hg
    cases hg
  · have hm := (More.refl w).alloc (.cells (cellsOf { limit := l } emptyRegs) 84)
    exact ⟨hm.os, hm.tape, hm.output, hm.size, fun k hk _ => hm.block k hk⟩

set_option maxHeartbeats 800000 in
set_option maxRecDepth 1000000 in
theorem new_does (l : Int) (w : World) (own0 : Nat → Prop) :
    Calls Tryz.prog 16 #[.int .i64 l] w fun e w' => e = .returned (.pointer (some ⟨w.heap.size, 0, none⟩)) ∧ Tk w own0 w.heap.size { limit := max l 0 } [] w' := by
  have H := hide (tk_new w own0 (max l 0))
  simp only [cellsOf, emptyRegs] at H
  go_enter Tryz.func16, Tryz.ntmps16
  go_wp2
  go_ret
  exact ⟨rfl, unhide H⟩
end
end Go.Proofs.YtdfmapcnfficlaaGreatDoor

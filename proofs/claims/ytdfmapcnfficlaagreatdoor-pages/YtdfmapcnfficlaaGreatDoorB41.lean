/-
  The tokenizer is made, is ended, is closed; pieces are written.
  What was told ahead, and what Write and Close alone look at, is nothing to a look.
-/
import Derived.Test.YtdfmapcnfficlaaGreatDoorB40
set_option linter.unusedSimpArgs false
set_option linter.unusedVariables false
namespace Go.Proofs.YtdfmapcnfficlaaGreatDoor
open Go Go.RowKit
section
variable {w0 : World} {own0 : Nat → Prop} {b : Nat} {s : TS} {ex : List Item} {w : World} {R : Regs} {c : Int}

theorem tk_closed (h : Tk w0 own0 b s ex w) (v : Bool) : Tk w0 own0 b { s with closed := v } ex (w.setCell ⟨b, 4, none⟩ (.bool v)) := by
  obtain ⟨⟨R, hR⟩, hk⟩ := h
  exact ⟨⟨R, hR.setCell 4 _ rfl rfl rfl rfl rfl⟩, hk.setCell _ _ hR.ownB⟩
theorem tk_bytes (h : Tk w0 own0 b s ex w) (v : Int) : Tk w0 own0 b { s with bytes := v } ex (w.setCell ⟨b, 3, none⟩ (.int .i64 v)) := by
  obtain ⟨⟨R, hR⟩, hk⟩ := h
  exact ⟨⟨R, hR.setCell 3 _ rfl rfl rfl rfl rfl⟩, hk.setCell _ _ hR.ownB⟩
theorem bytes_cell (h : Tk w0 own0 b s ex w) : w.cell? ⟨b, 3, none⟩ = some (.int .i64 s.bytes) := by
  obtain ⟨R, hR⟩ := h.reg
  have := hR.1.cell 3
  exact this
theorem limit_cell (h : Tk w0 own0 b s ex w) : w.cell? ⟨b, 2, none⟩ = some (.int .i64 s.limit) := by
  obtain ⟨R, hR⟩ := h.reg
  have := hR.1.cell 2
  exact this
theorem closed_cell (h : Tk w0 own0 b s ex w) : w.cell? ⟨b, 4, none⟩ = some (.bool s.closed) := by
  obtain ⟨R, hR⟩ := h.reg
  have := hR.1.cell 4
  exact this

/-- The tokenizer is ended, without a Finish. -/
def endAll (s : TS) : TS := flush (lookN 4 (endPoints 4 { s with closed := true }) (-1))

theorem endPoints_fine (hf : Fine s) (h1 : s.place + 1 ≤ 1099511627776) (hs : sz s + 512 ≤ lim) :
    (s.begun ≠ [] → Base w0 own0 → May w0 own0 4 (setBehind { s with begun := [] } 65533) 65533) ∧ Fine (endPoints 4 s) ∧ sz (endPoints 4 s) ≤ sz s + 512 ∧ (endPoints 4 s).place ≤ s.place + 1 ∧ (endPoints 4 s).bytes = s.bytes ∧ (endPoints 4 s).limit = s.limit ∧ (endPoints 4 s).closed = s.closed := by
  have hz : sz { s with begun := [] } ≤ sz s := by simp [sz]
  have hf' : Fine { s with begun := [] } := hf.head rfl rfl rfl rfl rfl rfl rfl rfl
  obtain ⟨i1, i2, i3, i4, i5, i6, i7, i8⟩ := pass_fine (w0 := w0) (own0 := own0) (c := 65533) hf' (by decide) (by decide) (show s.place ≤ 1099511627776 by omega) (by omega)
  refine ⟨fun _ => i1 (by simp), ?_⟩
  unfold endPoints
  split
  · exact ⟨hf, by omega, by omega, rfl, rfl, rfl⟩
  · exact ⟨i3, by omega, i4, i6, i7, i8⟩

set_option maxHeartbeats 1600000 in
set_option maxRecDepth 1000000 in
theorem endAll_does (B : Base w0 own0) (hf : Fine s) (h1 : s.place + 1 ≤ 1099511627776) (hs : sz s + 2048 ≤ lim) (h : Tk w0 own0 b s ex w) :
    Calls Tryz.prog 35 #[.pointer (some ⟨b, 0, none⟩)] w fun e w' => e = .returned (.tuple #[]) ∧ Tk w0 own0 b (endAll s) ex w' := by
  have hz : sz { s with closed := true } = sz s := rfl
  have hf' : Fine { s with closed := true } := hf.head rfl rfl rfl rfl rfl rfl rfl rfl
  obtain ⟨i1, i2, i3, i4, _⟩ := endPoints_fine (w0 := w0) (own0 := own0) hf' h1 (by omega)
  obtain ⟨j1, j2, j3, _⟩ := look4 (w0 := w0) (own0 := own0) i2 (c := -1) ⟨by decide, by decide⟩ (by have : ({ s with closed := true } : TS).place = s.place := rfl; omega) (by omega)
  have c1 := closed_cell h
  have f1 := h.frozen
  have H1 := hide (fun W (hW : Tk w0 own0 b { s with closed := true } ex W) => end_does (s := { s with closed := true }) 4 (fun hh => i1 hh B) hW)
  have H2 := hide (fun W (hW : Tk w0 own0 b (endPoints 4 { s with closed := true }) ex W) => look_does (-1) 4 (j1 B).runs hW)
  have H3 := hide (fun W (hW : Tk w0 own0 b (lookN 4 (endPoints 4 { s with closed := true }) (-1)) ex W) => tellText_does hW (by unfold sz at j2 i3 hz hs; omega))
  have HT := hide (tk_closed h true)
  unfold endAll
  unfold lookV at H1
  clear h B hf hf' i1 i2 i3 i4 j1 j2 j3 hz hs
  generalize endPoints 4 { s with closed := true } = s1 at *
  generalize lookN 4 s1 (-1) = s2 at *
  go_enter Tryz.func35, Tryz.ntmps35
  go_wp2_with fail
  refine (unhide H1 _ (unhide HT)).mono ?_
  rintro e w1 ⟨rfl, h1⟩
  go_wp2_with fail
  refine (unhide H2 _ h1).mono ?_
  rintro e w2 ⟨rfl, h2⟩
  go_wp2_with fail
  refine (unhide H3 _ h2).mono ?_
  rintro e w3 ⟨rfl, h3⟩
  go_wp2
  go_end0
  exact ⟨rfl, h3⟩

/-- What a piece makes of the tokenizer, if the limit leaves room for all of it. -/
def put (s : TS) (chunk : Str) : TS := read 4 (s.begun ++ chunk).length { s with bytes := s.bytes + chunk.length } chunk

/-- The tokenizer is open, and has taken n bytes. -/
structure Open (s : TS) (n : Nat) : Prop where
  fine : Fine s
  cl : s.closed = false
  by' : s.bytes = n
  wait : (firstPt s.begun).2 = 0
  place : s.place + s.begun.length ≤ n
  size : sz { s with begun := [] } + 512 * s.begun.length ≤ 512 * n

theorem Open.short {s : TS} {n : Nat} (h : Open s n) : s.begun.length ≤ 3 := firstPt_wait h.wait
theorem Open.small {s : TS} {n : Nat} (h : Open s n) : sz s ≤ 512 * n + 3 := by
  have := h.size
  have := h.short
  have e : sz s = sz { s with begun := [] } + s.begun.length := by simp [sz]; omega
  omega
theorem sz_begun (s : TS) (l : Str) : sz { s with begun := l } = sz { s with begun := [] } + l.length := by simp [sz]; omega
theorem sz_begun' (s : TS) : sz s = sz { s with begun := [] } + s.begun.length := by simp [sz]; omega

theorem open_put {n : Nat} (h : Open s n) (x : Str) (hn : n + x.length ≤ 1073741824) :
    (Base w0 own0 → Reads w0 own0 4 (s.begun ++ x).length { s with bytes := s.bytes + x.length } (s.begun ++ x)) ∧ Open (put s x) (n + x.length) ∧ (put s x).limit = s.limit := by
  have h3 := h.short
  have hf : Fine { s with bytes := s.bytes + x.length } := h.fine.head rfl rfl rfl rfl rfl rfl rfl rfl
  have hl : (s.begun ++ x).length = s.begun.length + x.length := List.length_append
  have hz : sz ({ s with bytes := s.bytes + x.length } : TS) = sz s := rfl
  have hp : ({ s with bytes := s.bytes + x.length } : TS).place = s.place := rfl
  have hpl := h.place
  have hsz := h.small
  have hs1 := h.size
  have hs2 := sz_begun' s
  obtain ⟨j1, j2, j3, j4, j5, j6, j7, j8, j9, j10⟩ := reads_of (w0 := w0) (own0 := own0) (s.begun ++ x).length { s with bytes := s.bytes + x.length } (s.begun ++ x) (Nat.le_refl _) hf (by omega) (by unfold lim; omega)
  refine ⟨j1, ?_, ?_⟩
  · unfold put read
    generalize hr : readN 4 (s.begun ++ x).length { s with bytes := s.bytes + x.length } (s.begun ++ x) = r at *
    obtain ⟨r1, r2⟩ := r
    dsimp only at *
    have hs3 := sz_begun' r1
    have j5' : r1.begun = s.begun := j5
    refine ⟨j3.head rfl rfl rfl rfl rfl rfl rfl rfl, j8.trans h.cl, ?_, j10, ?_, ?_⟩
    · show r1.bytes = _
      rw [j6]
      show s.bytes + (x.length : Int) = _
      rw [h.by']
      omega
    · show r1.place + r2.length ≤ _
      omega
    · show sz { r1 with begun := [] } + 512 * r2.length ≤ _
      rw [j5'] at hs3
      omega
  · exact j7

theorem open_take {n : Nat} (h : Open s n) : Open (take s) n := by
  refine ⟨h.fine.head rfl rfl rfl rfl rfl rfl rfl rfl, h.cl, h.by', h.wait, h.place, ?_⟩
  have := h.size
  have e : sz { take s with begun := [] } ≤ sz { s with begun := [] } := by simp [sz, take]
  show sz { take s with begun := [] } + 512 * s.begun.length ≤ _
  omega

theorem endAll_small (w0 : World) {n : Nat} (h : Open s n) (hn : n ≤ 1073741824) : (endAll s).told.length ≤ 512 * n + 1028 := by
  have hz : sz { s with closed := true } = sz s := rfl
  have hf' : Fine { s with closed := true } := h.fine.head rfl rfl rfl rfl rfl rfl rfl rfl
  have hsz := h.small
  have hpl := h.place
  obtain ⟨i1, i2, i3, i4, _⟩ := endPoints_fine (w0 := w0) (own0 := fun _ => False) hf' (by show s.place + 1 ≤ _; omega) (by unfold lim; omega)
  have hp : ({ s with closed := true } : TS).place = s.place := rfl
  obtain ⟨j1, j2, j3, _⟩ := look4 (w0 := w0) (own0 := fun _ => False) i2 (c := -1) ⟨by decide, by decide⟩ (by omega) (by unfold lim; omega)
  have k1 := sz_flush (lookN 4 (endPoints 4 { s with closed := true }) (-1))
  have k2 : (endAll s).told.length ≤ sz (endAll s) := by unfold sz; omega
  unfold endAll at *
  omega
theorem tk_bare (h : Tk w0 own0 b s ex w) : Tk w0 own0 b s (aItem ⟨none, 0⟩ [] :: ex) w := by
  obtain ⟨⟨R, hR⟩, hk⟩ := h
  exact ⟨⟨R, hR.bare⟩, hk⟩
theorem good_new (l c : Int) : Good { limit := l } c := by
  refine ⟨?_, ?_, .inl rfl, ?_, (fun h => by cases h), (fun h => by cases h), (fun h => by cases h), (fun h => by cases h), (fun h => by cases h), (fun h => by cases h), (fun h => by cases h)⟩
  · show (0 : Int) ≤ 0
    decide
  · show (0 : Int) ≤ 35
    decide
  · show ([] : Str).length ≤ 8
    decide
theorem Open.new (l : Int) : Open { limit := l } 0 := by
  refine ⟨⟨good_new l, by simp⟩, rfl, rfl, ?_, by simp, by simp [sz, attsz]⟩
  have := firstPt_le []
  simpa using this

def emptyRegs : Regs := ⟨⟨none, 0⟩, ⟨none, 0⟩, ⟨none, 0⟩, ⟨none, 0⟩, none, ⟨none, 0⟩, ⟨none, 0⟩, ⟨none, 0⟩, [], [], []⟩
theorem tk_new (w : World) (own0 : Nat → Prop) (l : Int) : Tk w own0 w.heap.size { limit := l } [] (w.alloc (.cells (cellsOf { limit := l } emptyRegs) 84)) := by
  refine ⟨⟨emptyRegs, heap_alloc_new w _, .inr (Nat.le_refl _), ⟨?_, ?_, ?_⟩, trivial, ?_, rfl, rfl, rfl⟩, ?_⟩
  · intro it hi
    simp only [itemsOf, emptyRegs, attItems, toldItems, attsCells, toldCells, bItem, byteCells, List.append_nil, List.map_nil, List.mem_cons, List.not_mem_nil, or_false] at hi
    rcases hi with rfl | rfl | rfl | rfl | rfl | rfl | rfl <;> exact World.ownsRow_nil _ _ _ _
  · exact (List.nodup_nil : ([] : List Nat).Nodup)
  · intro k hk
    cases (show k ∈ ([] : List Nat) from hk)
  · intro g hg
    cases hg
  · have hm := (More.refl w).alloc (.cells (cellsOf { limit := l } emptyRegs) 84)
    exact ⟨hm.os, hm.tape, hm.output, hm.size, fun k hk _ => hm.block k hk⟩

set_option maxHeartbeats 800000 in
set_option maxRecDepth 1000000 in
theorem new_does (l : Int) (w : World) (own0 : Nat → Prop) :
    Calls Tryz.prog 16 #[.int .i64 l] w fun e w' => e = .returned (.pointer (some ⟨w.heap.size, 0, none⟩)) ∧ Tk w own0 w.heap.size { limit := max l 0 } [] w' := by
  have H := hide (tk_new w own0 (max l 0))
  simp only [cellsOf, emptyRegs] at H
  go_enter Tryz.func16, Tryz.ntmps16
  go_wp2
  go_ret
  exact ⟨rfl, unhide H⟩
end
end Go.Proofs.YtdfmapcnfficlaaGreatDoor

set_option linter.unusedSimpArgs false
set_option linter.unusedVariables false
namespace Go.Proofs.YtdfmapcnfficlaaGreatDoor
open Go Go.RowKit

/-- s, with another head, and with p told ahead of all. -/
def over (h : TS) (p : List Tok) (s : TS) : TS := { s with begun := h.begun, limit := h.limit, bytes := h.bytes, closed := h.closed, told := p ++ s.told }
section
variable {s : TS} {c : Int} (h : TS) (p : List Tok)
theorem ov_behind (s : TS) : (over h p s).behind = s.behind := rfl
theorem ov_state (s : TS) : (over h p s).state = s.state := rfl
theorem ov_base (s : TS) : (over h p s).base = s.base := rfl
theorem ov_place (s : TS) : (over h p s).place = s.place := rfl
theorem ov_text (s : TS) : (over h p s).text = s.text := rfl
theorem ov_tag (s : TS) : (over h p s).tag = s.tag := rfl
theorem ov_lastStart (s : TS) : (over h p s).lastStart = s.lastStart := rfl
theorem ov_declared (s : TS) : (over h p s).declared = s.declared := rfl
theorem ov_comment (s : TS) : (over h p s).comment = s.comment := rfl
theorem ov_dname (s : TS) : (over h p s).dname = s.dname := rfl
theorem ov_odd (s : TS) : (over h p s).odd = s.odd := rfl
theorem ov_rback (s : TS) : (over h p s).rback = s.rback := rfl
theorem ov_rcome (s : TS) : (over h p s).rcome = s.rcome := rfl
theorem ov_rsix (s : TS) : (over h p s).rsix = s.rsix := rfl
theorem ov_rdig (s : TS) : (over h p s).rdig = s.rdig := rfl
theorem ov_rnum (s : TS) : (over h p s).rnum = s.rnum := rfl
theorem over_st (s : TS) (q : Int) : { over h p s with state := q } = over h p { s with state := q } := rfl
theorem over_tellTok (s : TS) (t : Tok) : tellTok (over h p s) t = over h p (tellTok s t) := by simp [over, tellTok]
theorem over_wrongAt (s : TS) (n : Str) (q : Int) : wrongAt (over h p s) n q = over h p (wrongAt s n q) := over_tellTok h p s _
theorem over_wrong (s : TS) (n : Str) : wrong (over h p s) n = over h p (wrong s n) := over_tellTok h p s _
theorem over_flush (s : TS) : flush (over h p s) = over h p (flush s) := by
  unfold flush
  rw [ov_text]
  split
  · rfl
  · rw [over_tellTok]; rfl
theorem over_tell (s : TS) (t : Tok) : tell (over h p s) t = over h p (tell s t) := by unfold tell; rw [over_flush, over_tellTok]
theorem over_withoutNul (s : TS) (c : Int) : withoutNul (over h p s) c = over h p (withoutNul s c) := by
  unfold withoutNul
  split
  · exact over_wrong h p s _
  · rfl
theorem over_addText (s : TS) (l : Str) : addText (over h p s) l = over h p (addText s l) := rfl
theorem over_addToComment (s : TS) (l : Str) : addToComment (over h p s) l = over h p (addToComment s l) := rfl
theorem over_tellComment (s : TS) : tellComment (over h p s) = over h p (tellComment s) := by unfold tellComment; rw [over_tell]; rfl
theorem over_cutComment (s : TS) : cutComment (over h p s) = over h p (cutComment s) := by unfold cutComment; rw [over_wrong, over_tellComment]
theorem over_endComment (s : TS) : endComment (over h p s) = over h p (endComment s) := by unfold endComment; rw [over_tellComment]; rfl
theorem over_tellDoctype (s : TS) : tellDoctype (over h p s) = over h p (tellDoctype s) := by unfold tellDoctype; rw [over_tell]; rfl
theorem over_odd (s : TS) : { over h p s with odd := true } = over h p { s with odd := true } := rfl
theorem over_cutDoctype (s : TS) : cutDoctype (over h p s) = over h p (cutDoctype s) := by unfold cutDoctype; rw [over_wrong, over_odd, over_tellDoctype]
theorem over_endDoctype (s : TS) : endDoctype (over h p s) = over h p (endDoctype s) := by unfold endDoctype; rw [over_tellDoctype]; rfl
theorem over_addToKind (s : TS) (c : Int) : addToKind (over h p s) c = over h p (addToKind s c) := by unfold addToKind; rw [over_withoutNul]; rfl
theorem over_putComment (s : TS) (c : Int) : putComment (over h p s) c = over h p (putComment s c) := by unfold putComment; rw [over_withoutNul, over_addToComment]
theorem over_putText (s : TS) (c : Int) : putText (over h p s) c = over h p (putText s c) := by unfold putText; rw [over_withoutNul]; rfl
theorem over_putTag (s : TS) (c : Int) : putTag (over h p s) c = over h p (putTag s c) := by unfold putTag; rw [over_withoutNul]; rfl
theorem over_addToName (s : TS) (c : Int) : addToName (over h p s) c = over h p (addToName s c) := rfl
theorem over_addToValue (s : TS) (c : Int) : addToValue (over h p s) c = over h p (addToValue s c) := rfl
theorem over_newAtt (s : TS) : newAtt (over h p s) = over h p (newAtt s) := rfl
theorem over_lessName (s : TS) (c : Int) : lessName (over h p s) c = over h p (lessName s c) := rfl
theorem over_endName (s : TS) : endName (over h p s) = over h p (endName s) := by
  unfold endName nameIsNew
  rw [show lastName (over h p s) = lastName s from rfl, ov_tag]
  split
  · rw [over_wrong]; rfl
  · rfl
theorem over_dropTag (s : TS) : dropTag (over h p s) = over h p (dropTag s) := by unfold dropTag; rw [over_wrong]; rfl
theorem over_addRunes (t : ByteArray) : ∀ (f pos : Nat) (s : TS), addRunes t f pos (over h p s) = over h p (addRunes t f pos s)
  | 0, _, s => rfl
  | f + 1, pos, s => by
    rw [addRunes, addRunes]
    split
    · rw [over_addToValue, over_addRunes t f]
    · rfl
theorem over_addToTarget (s : TS) (l : Str) : addToTarget (over h p s) l = over h p (addToTarget s l) := by
  unfold addToTarget
  rw [ov_rback]
  split
  · exact over_addRunes h p _ _ _ _
  · rfl
theorem over_endNumber (s : TS) (q : Int) : endNumber (over h p s) q = over h p (endNumber s q) := by
  unfold endNumber
  rw [ov_rnum]
  split
  · exact over_addToTarget h p _ _
  · rw [over_wrongAt, over_addToTarget]
theorem over_openName (s : TS) (n : Str × Str) (x : Str) (nx : Int) : openName (over h p s) n x nx = over h p (openName s n x nx) := by
  unfold openName
  rw [show goesOn (over h p s) nx = goesOn s nx from rfl, ov_place]
  split
  · exact over_addToTarget h p _ _
  · rw [over_wrongAt, over_addToTarget]
theorem over_leaveAsItIs (s : TS) : leaveAsItIs (over h p s) = over h p (leaveAsItIs s) := by unfold leaveAsItIs; rw [ov_rcome, ov_rback, over_addToTarget]; rfl
theorem over_endOpenName (s : TS) (n : Str × Str) (c : Int) : endOpenName (over h p s) n c = over h p (endOpenName s n c) := by unfold endOpenName; rw [ov_rcome, ov_rback, over_openName, over_addToTarget]; rfl
theorem over_tagS (s : TS) : tagS (over h p s) = over h p (tagS s) := rfl
theorem over_startTag (s : TS) : startTag (over h p s) = over h p (startTag s) := by unfold startTag; rw [over_tagS, over_tell]; rfl
theorem over_endTag (s : TS) : endTag (over h p s) = over h p (endTag s) := by
  unfold endTag
  rw [ov_tag, over_tagS]
  dsimp only
  by_cases h1 : s.tag.atts = []
  · rw [if_pos h1, if_pos h1]
    by_cases h2 : s.tag.closes = true
    · rw [if_pos h2, if_pos h2, over_wrong, over_tell]; rfl
    · rw [if_neg h2, if_neg h2, over_tell]; rfl
  · rw [if_neg h1, if_neg h1, over_wrong]
    by_cases h2 : s.tag.closes = true
    · rw [if_pos h2, if_pos h2, over_wrong, over_tell]; rfl
    · rw [if_neg h2, if_neg h2, over_tell]; rfl
theorem over_tellTag (s : TS) : tellTag (over h p s) = over h p (tellTag s) := by
  unfold tellTag
  rw [ov_tag]
  split
  · exact over_startTag h p s
  · exact over_endTag h p s
theorem over_noDecl (s : TS) : noDecl (over h p s) = over h p (noDecl s) := rfl
theorem over_setCome (s : TS) (l : Str) : setCome (over h p s) l = over h p (setCome s l) := rfl
theorem over_addDigit (s : TS) (c : Int) : addDigit (over h p s) c = over h p (addDigit s c) := rfl
theorem over_toReference (s : TS) : toReference (over h p s) = over h p (toReference s) := rfl
theorem over_newTag (s : TS) (g : TagS) : { over h p s with tag := g } = over h p { s with tag := g } := rfl

theorem over_inData : lookInData (over h p s) c = ((lookInData s c).1, over h p (lookInData s c).2) := by
  unfold lookInData
  simp only [over_st, over_wrong, over_addText, over_odd, over_toReference, over_newTag, ov_behind, ov_state, ov_base, ov_place, ov_text, ov_tag, ov_lastStart, ov_declared, ov_comment, ov_dname, ov_odd, ov_rback, ov_rcome, ov_rsix, ov_rdig, ov_rnum]
  repeat' split
  all_goals first | rfl | (simp only [over_st, over_wrong, over_addText, over_odd, over_toReference, over_newTag]; done) | (simp only [over_st, over_wrong, over_addText, over_odd, over_toReference, over_newTag]; rfl)
theorem over_inTitle : lookInTitle (over h p s) c = ((lookInTitle s c).1, over h p (lookInTitle s c).2) := by
  unfold lookInTitle
  simp only [over_st, over_odd, over_putText, over_toReference, over_newTag, ov_behind, ov_state, ov_base, ov_place, ov_text, ov_tag, ov_lastStart, ov_declared, ov_comment, ov_dname, ov_odd, ov_rback, ov_rcome, ov_rsix, ov_rdig, ov_rnum]
  repeat' split
  all_goals first | rfl | (simp only [over_st, over_odd, over_putText, over_toReference, over_newTag]; done) | (simp only [over_st, over_odd, over_putText, over_toReference, over_newTag]; rfl)
theorem over_inRaw : lookInRaw (over h p s) c = ((lookInRaw s c).1, over h p (lookInRaw s c).2) := by
  unfold lookInRaw
  simp only [over_st, over_odd, over_putText, over_newTag, ov_behind, ov_state, ov_base, ov_place, ov_text, ov_tag, ov_lastStart, ov_declared, ov_comment, ov_dname, ov_odd, ov_rback, ov_rcome, ov_rsix, ov_rdig, ov_rnum]
  repeat' split
  all_goals first | rfl | (simp only [over_st, over_odd, over_putText, over_newTag]; done) | (simp only [over_st, over_odd, over_putText, over_newTag]; rfl)
theorem over_inOpen : lookInOpen (over h p s) c = ((lookInOpen s c).1, over h p (lookInOpen s c).2) := by
  unfold lookInOpen
  simp only [over_st, over_wrong, over_addText, over_odd, over_newTag, ov_behind, ov_state, ov_base, ov_place, ov_text, ov_tag, ov_lastStart, ov_declared, ov_comment, ov_dname, ov_odd, ov_rback, ov_rcome, ov_rsix, ov_rdig, ov_rnum]
  repeat' split
  all_goals first | rfl | (simp only [over_st, over_wrong, over_addText, over_odd, over_newTag]; done) | (simp only [over_st, over_wrong, over_addText, over_odd, over_newTag]; rfl)
theorem over_inClose : lookInClose (over h p s) c = ((lookInClose s c).1, over h p (lookInClose s c).2) := by
  unfold lookInClose
  simp only [over_st, over_wrong, over_addText, over_odd, over_newTag, ov_behind, ov_state, ov_base, ov_place, ov_text, ov_tag, ov_lastStart, ov_declared, ov_comment, ov_dname, ov_odd, ov_rback, ov_rcome, ov_rsix, ov_rdig, ov_rnum]
  repeat' split
  all_goals first | rfl | (simp only [over_st, over_wrong, over_addText, over_odd, over_newTag]; done) | (simp only [over_st, over_wrong, over_addText, over_odd, over_newTag]; rfl)
theorem over_inLess : lookInLess (over h p s) c = ((lookInLess s c).1, over h p (lookInLess s c).2) := by
  unfold lookInLess backToBase
  simp only [over_st, over_addText, over_odd, over_newTag, ov_behind, ov_state, ov_base, ov_place, ov_text, ov_tag, ov_lastStart, ov_declared, ov_comment, ov_dname, ov_odd, ov_rback, ov_rcome, ov_rsix, ov_rdig, ov_rnum]
  repeat' split
  all_goals first | rfl | (simp only [over_st, over_addText, over_odd, over_newTag]; done) | (simp only [over_st, over_addText, over_odd, over_newTag]; rfl)
theorem over_inLessClose : lookInLessClose (over h p s) c = ((lookInLessClose s c).1, over h p (lookInLessClose s c).2) := by
  unfold lookInLessClose backToBase
  simp only [over_st, over_addText, over_odd, over_newTag, ov_behind, ov_state, ov_base, ov_place, ov_text, ov_tag, ov_lastStart, ov_declared, ov_comment, ov_dname, ov_odd, ov_rback, ov_rcome, ov_rsix, ov_rdig, ov_rnum]
  repeat' split
  all_goals first | rfl | (simp only [over_st, over_addText, over_odd, over_newTag]; done) | (simp only [over_st, over_addText, over_odd, over_newTag]; rfl)
theorem over_inLessName : lookInLessName (over h p s) c = ((lookInLessName s c).1, over h p (lookInLessName s c).2) := by
  unfold lookInLessName backToBase
  rw [ov_tag, ov_lastStart]
  by_cases h1 : isLetterC c = true
  · rw [if_pos h1, if_pos h1]; rfl
  · rw [if_neg h1, if_neg h1]
    by_cases h2 : (isBlankC c = true ∨ c = 47 ∨ c = 62) ∧ s.tag.name = s.lastStart
    · rw [if_pos h2, if_pos h2]; rfl
    · rw [if_neg h2, if_neg h2]; rfl
theorem over_inTag : lookInTag (over h p s) c = ((lookInTag s c).1, over h p (lookInTag s c).2) := by
  unfold lookInTag
  simp only [over_st, over_odd, over_putTag, over_dropTag, over_tellTag, over_newTag, ov_behind, ov_state, ov_base, ov_place, ov_text, ov_tag, ov_lastStart, ov_declared, ov_comment, ov_dname, ov_odd, ov_rback, ov_rcome, ov_rsix, ov_rdig, ov_rnum]
  repeat' split
  all_goals first | rfl | (simp only [over_st, over_odd, over_putTag, over_dropTag, over_tellTag, over_newTag]; done) | (simp only [over_st, over_odd, over_putTag, over_dropTag, over_tellTag, over_newTag]; rfl)
theorem over_inAttr : lookInAttr (over h p s) c = ((lookInAttr s c).1, over h p (lookInAttr s c).2) := by
  unfold lookInAttr
  simp only [over_st, over_wrong, over_odd, over_addToName, over_newAtt, over_newTag, ov_behind, ov_state, ov_base, ov_place, ov_text, ov_tag, ov_lastStart, ov_declared, ov_comment, ov_dname, ov_odd, ov_rback, ov_rcome, ov_rsix, ov_rdig, ov_rnum]
  repeat' split
  all_goals first | rfl | (simp only [over_st, over_wrong, over_odd, over_addToName, over_newAtt, over_newTag]; done) | (simp only [over_st, over_wrong, over_odd, over_addToName, over_newAtt, over_newTag]; rfl)
theorem over_inName : lookInName (over h p s) c = ((lookInName s c).1, over h p (lookInName s c).2) := by
  unfold lookInName
  simp only [over_st, over_wrong, over_withoutNul, over_odd, over_addToName, over_endName, over_newTag, ov_behind, ov_state, ov_base, ov_place, ov_text, ov_tag, ov_lastStart, ov_declared, ov_comment, ov_dname, ov_odd, ov_rback, ov_rcome, ov_rsix, ov_rdig, ov_rnum]
  repeat' split
  all_goals first | rfl | (simp only [over_st, over_wrong, over_withoutNul, over_odd, over_addToName, over_endName, over_newTag]; done) | (simp only [over_st, over_wrong, over_withoutNul, over_odd, over_addToName, over_endName, over_newTag]; rfl)
theorem over_inAfter : lookInAfter (over h p s) c = ((lookInAfter s c).1, over h p (lookInAfter s c).2) := by
  unfold lookInAfter
  simp only [over_st, over_odd, over_newAtt, over_dropTag, over_tellTag, over_newTag, ov_behind, ov_state, ov_base, ov_place, ov_text, ov_tag, ov_lastStart, ov_declared, ov_comment, ov_dname, ov_odd, ov_rback, ov_rcome, ov_rsix, ov_rdig, ov_rnum]
  repeat' split
  all_goals first | rfl | (simp only [over_st, over_odd, over_newAtt, over_dropTag, over_tellTag, over_newTag]; done) | (simp only [over_st, over_odd, over_newAtt, over_dropTag, over_tellTag, over_newTag]; rfl)
theorem over_inEquals : lookInEquals (over h p s) c = ((lookInEquals s c).1, over h p (lookInEquals s c).2) := by
  unfold lookInEquals
  simp only [over_st, over_wrong, over_odd, over_tellTag, over_newTag, ov_behind, ov_state, ov_base, ov_place, ov_text, ov_tag, ov_lastStart, ov_declared, ov_comment, ov_dname, ov_odd, ov_rback, ov_rcome, ov_rsix, ov_rdig, ov_rnum]
  repeat' split
  all_goals first | rfl | (simp only [over_st, over_wrong, over_odd, over_tellTag, over_newTag]; done) | (simp only [over_st, over_wrong, over_odd, over_tellTag, over_newTag]; rfl)
theorem over_inDouble : lookInDouble (over h p s) c = ((lookInDouble s c).1, over h p (lookInDouble s c).2) := by
  unfold lookInDouble
  simp only [over_st, over_withoutNul, over_odd, over_addToValue, over_dropTag, over_toReference, over_newTag, ov_behind, ov_state, ov_base, ov_place, ov_text, ov_tag, ov_lastStart, ov_declared, ov_comment, ov_dname, ov_odd, ov_rback, ov_rcome, ov_rsix, ov_rdig, ov_rnum]
  repeat' split
  all_goals first | rfl | (simp only [over_st, over_withoutNul, over_odd, over_addToValue, over_dropTag, over_toReference, over_newTag]; done) | (simp only [over_st, over_withoutNul, over_odd, over_addToValue, over_dropTag, over_toReference, over_newTag]; rfl)
theorem over_inSingle : lookInSingle (over h p s) c = ((lookInSingle s c).1, over h p (lookInSingle s c).2) := by
  unfold lookInSingle
  simp only [over_st, over_withoutNul, over_odd, over_addToValue, over_dropTag, over_toReference, over_newTag, ov_behind, ov_state, ov_base, ov_place, ov_text, ov_tag, ov_lastStart, ov_declared, ov_comment, ov_dname, ov_odd, ov_rback, ov_rcome, ov_rsix, ov_rdig, ov_rnum]
  repeat' split
  all_goals first | rfl | (simp only [over_st, over_withoutNul, over_odd, over_addToValue, over_dropTag, over_toReference, over_newTag]; done) | (simp only [over_st, over_withoutNul, over_odd, over_addToValue, over_dropTag, over_toReference, over_newTag]; rfl)
theorem over_inPlain : lookInPlain (over h p s) c = ((lookInPlain s c).1, over h p (lookInPlain s c).2) := by
  unfold lookInPlain
  simp only [over_st, over_wrong, over_withoutNul, over_odd, over_addToValue, over_dropTag, over_tellTag, over_toReference, over_newTag, ov_behind, ov_state, ov_base, ov_place, ov_text, ov_tag, ov_lastStart, ov_declared, ov_comment, ov_dname, ov_odd, ov_rback, ov_rcome, ov_rsix, ov_rdig, ov_rnum]
  repeat' split
  all_goals first | rfl | (simp only [over_st, over_wrong, over_withoutNul, over_odd, over_addToValue, over_dropTag, over_tellTag, over_toReference, over_newTag]; done) | (simp only [over_st, over_wrong, over_withoutNul, over_odd, over_addToValue, over_dropTag, over_tellTag, over_toReference, over_newTag]; rfl)
theorem over_inValue : lookInValue (over h p s) c = ((lookInValue s c).1, over h p (lookInValue s c).2) := by
  unfold lookInValue
  simp only [over_st, over_wrong, over_odd, over_dropTag, over_tellTag, over_newTag, ov_behind, ov_state, ov_base, ov_place, ov_text, ov_tag, ov_lastStart, ov_declared, ov_comment, ov_dname, ov_odd, ov_rback, ov_rcome, ov_rsix, ov_rdig, ov_rnum]
  repeat' split
  all_goals first | rfl | (simp only [over_st, over_wrong, over_odd, over_dropTag, over_tellTag, over_newTag]; done) | (simp only [over_st, over_wrong, over_odd, over_dropTag, over_tellTag, over_newTag]; rfl)
theorem over_inSelf : lookInSelf (over h p s) c = ((lookInSelf s c).1, over h p (lookInSelf s c).2) := by
  unfold lookInSelf
  by_cases h1 : c = 62
  · rw [if_pos h1, if_pos h1]
    show (0, tellTag (over h p { s with tag := { s.tag with closes := true } })) = _
    rw [over_tellTag]
  · rw [if_neg h1, if_neg h1]
    by_cases h2 : c = -1
    · rw [if_pos h2, if_pos h2, over_dropTag]
    · rw [if_neg h2, if_neg h2, over_wrong]; rfl
theorem over_inDecl : lookInDecl (over h p s) c = ((lookInDecl s c).1, over h p (lookInDecl s c).2) := by
  unfold lookInDecl
  simp only [over_st, over_wrongAt, over_addToComment, over_odd, over_noDecl, over_newTag, ov_behind, ov_state, ov_base, ov_place, ov_text, ov_tag, ov_lastStart, ov_declared, ov_comment, ov_dname, ov_odd, ov_rback, ov_rcome, ov_rsix, ov_rdig, ov_rnum]
  repeat' split
  all_goals first | rfl | (simp only [over_st, over_wrongAt, over_addToComment, over_odd, over_noDecl, over_newTag]; done) | (simp only [over_st, over_wrongAt, over_addToComment, over_odd, over_noDecl, over_newTag]; rfl)
theorem over_inBogus : lookInBogus (over h p s) c = ((lookInBogus s c).1, over h p (lookInBogus s c).2) := by
  unfold lookInBogus
  simp only [over_st, over_tellComment, over_endComment, over_odd, over_putComment, over_newTag, ov_behind, ov_state, ov_base, ov_place, ov_text, ov_tag, ov_lastStart, ov_declared, ov_comment, ov_dname, ov_odd, ov_rback, ov_rcome, ov_rsix, ov_rdig, ov_rnum]
  repeat' split
  all_goals first | rfl | (simp only [over_st, over_tellComment, over_endComment, over_odd, over_putComment, over_newTag]; done) | (simp only [over_st, over_tellComment, over_endComment, over_odd, over_putComment, over_newTag]; rfl)
theorem over_inBegin : lookInBegin (over h p s) c = ((lookInBegin s c).1, over h p (lookInBegin s c).2) := by
  unfold lookInBegin
  simp only [over_st, over_wrong, over_endComment, over_odd, over_newTag, ov_behind, ov_state, ov_base, ov_place, ov_text, ov_tag, ov_lastStart, ov_declared, ov_comment, ov_dname, ov_odd, ov_rback, ov_rcome, ov_rsix, ov_rdig, ov_rnum]
  repeat' split
  all_goals first | rfl | (simp only [over_st, over_wrong, over_endComment, over_odd, over_newTag]; done) | (simp only [over_st, over_wrong, over_endComment, over_odd, over_newTag]; rfl)
theorem over_inBeginDash : lookInBeginDash (over h p s) c = ((lookInBeginDash s c).1, over h p (lookInBeginDash s c).2) := by
  unfold lookInBeginDash lookInDash
  simp only [over_st, over_wrong, over_addToComment, over_cutComment, over_endComment, over_odd, over_newTag, ov_behind, ov_state, ov_base, ov_place, ov_text, ov_tag, ov_lastStart, ov_declared, ov_comment, ov_dname, ov_odd, ov_rback, ov_rcome, ov_rsix, ov_rdig, ov_rnum]
  repeat' split
  all_goals first | rfl | (simp only [over_st, over_wrong, over_addToComment, over_cutComment, over_endComment, over_odd, over_newTag]; done) | (simp only [over_st, over_wrong, over_addToComment, over_cutComment, over_endComment, over_odd, over_newTag]; rfl)
theorem over_inComment : lookInComment (over h p s) c = ((lookInComment s c).1, over h p (lookInComment s c).2) := by
  unfold lookInComment
  simp only [over_st, over_cutComment, over_odd, over_putComment, over_newTag, ov_behind, ov_state, ov_base, ov_place, ov_text, ov_tag, ov_lastStart, ov_declared, ov_comment, ov_dname, ov_odd, ov_rback, ov_rcome, ov_rsix, ov_rdig, ov_rnum]
  repeat' split
  all_goals first | rfl | (simp only [over_st, over_cutComment, over_odd, over_putComment, over_newTag]; done) | (simp only [over_st, over_cutComment, over_odd, over_putComment, over_newTag]; rfl)
theorem over_inDash : lookInDash (over h p s) c = ((lookInDash s c).1, over h p (lookInDash s c).2) := by
  unfold lookInDash
  simp only [over_st, over_addToComment, over_cutComment, over_odd, over_newTag, ov_behind, ov_state, ov_base, ov_place, ov_text, ov_tag, ov_lastStart, ov_declared, ov_comment, ov_dname, ov_odd, ov_rback, ov_rcome, ov_rsix, ov_rdig, ov_rnum]
  repeat' split
  all_goals first | rfl | (simp only [over_st, over_addToComment, over_cutComment, over_odd, over_newTag]; done) | (simp only [over_st, over_addToComment, over_cutComment, over_odd, over_newTag]; rfl)
theorem over_inDashes : lookInDashes (over h p s) c = ((lookInDashes s c).1, over h p (lookInDashes s c).2) := by
  unfold lookInDashes
  simp only [over_st, over_addToComment, over_cutComment, over_endComment, over_odd, over_newTag, ov_behind, ov_state, ov_base, ov_place, ov_text, ov_tag, ov_lastStart, ov_declared, ov_comment, ov_dname, ov_odd, ov_rback, ov_rcome, ov_rsix, ov_rdig, ov_rnum]
  repeat' split
  all_goals first | rfl | (simp only [over_st, over_addToComment, over_cutComment, over_endComment, over_odd, over_newTag]; done) | (simp only [over_st, over_addToComment, over_cutComment, over_endComment, over_odd, over_newTag]; rfl)
theorem over_inBang : lookInBang (over h p s) c = ((lookInBang s c).1, over h p (lookInBang s c).2) := by
  unfold lookInBang
  simp only [over_st, over_wrong, over_addToComment, over_cutComment, over_endComment, over_odd, over_newTag, ov_behind, ov_state, ov_base, ov_place, ov_text, ov_tag, ov_lastStart, ov_declared, ov_comment, ov_dname, ov_odd, ov_rback, ov_rcome, ov_rsix, ov_rdig, ov_rnum]
  repeat' split
  all_goals first | rfl | (simp only [over_st, over_wrong, over_addToComment, over_cutComment, over_endComment, over_odd, over_newTag]; done) | (simp only [over_st, over_wrong, over_addToComment, over_cutComment, over_endComment, over_odd, over_newTag]; rfl)
theorem over_inDoctype : lookInDoctype (over h p s) c = ((lookInDoctype s c).1, over h p (lookInDoctype s c).2) := by
  unfold lookInDoctype
  simp only [over_st, over_wrong, over_odd, over_cutDoctype, over_newTag, ov_behind, ov_state, ov_base, ov_place, ov_text, ov_tag, ov_lastStart, ov_declared, ov_comment, ov_dname, ov_odd, ov_rback, ov_rcome, ov_rsix, ov_rdig, ov_rnum]
  repeat' split
  all_goals first | rfl | (simp only [over_st, over_wrong, over_odd, over_cutDoctype, over_newTag]; done) | (simp only [over_st, over_wrong, over_odd, over_cutDoctype, over_newTag]; rfl)
theorem over_inKind : lookInKind (over h p s) c = ((lookInKind s c).1, over h p (lookInKind s c).2) := by
  unfold lookInKind
  by_cases h1 : isBlankC c = true
  · rw [if_pos h1, if_pos h1]
  · rw [if_neg h1, if_neg h1]
    by_cases h2 : c = 62
    · rw [if_pos h2, if_pos h2, over_wrong, over_odd, over_endDoctype]
    · rw [if_neg h2, if_neg h2]
      by_cases h3 : c = -1
      · rw [if_pos h3, if_pos h3, over_cutDoctype]
      · rw [if_neg h3, if_neg h3, over_addToKind]; rfl
theorem over_inKindName : lookInKindName (over h p s) c = ((lookInKindName s c).1, over h p (lookInKindName s c).2) := by
  unfold lookInKindName
  simp only [over_st, over_odd, over_cutDoctype, over_endDoctype, over_addToKind, over_newTag, ov_behind, ov_state, ov_base, ov_place, ov_text, ov_tag, ov_lastStart, ov_declared, ov_comment, ov_dname, ov_odd, ov_rback, ov_rcome, ov_rsix, ov_rdig, ov_rnum]
  repeat' split
  all_goals first | rfl | (simp only [over_st, over_odd, over_cutDoctype, over_endDoctype, over_addToKind, over_newTag]; done) | (simp only [over_st, over_odd, over_cutDoctype, over_endDoctype, over_addToKind, over_newTag]; rfl)
theorem over_inKindEnd : lookInKindEnd (over h p s) c = ((lookInKindEnd s c).1, over h p (lookInKindEnd s c).2) := by
  unfold lookInKindEnd
  simp only [over_st, over_wrong, over_odd, over_cutDoctype, over_endDoctype, over_newTag, ov_behind, ov_state, ov_base, ov_place, ov_text, ov_tag, ov_lastStart, ov_declared, ov_comment, ov_dname, ov_odd, ov_rback, ov_rcome, ov_rsix, ov_rdig, ov_rnum]
  repeat' split
  all_goals first | rfl | (simp only [over_st, over_wrong, over_odd, over_cutDoctype, over_endDoctype, over_newTag]; done) | (simp only [over_st, over_wrong, over_odd, over_cutDoctype, over_endDoctype, over_newTag]; rfl)
theorem over_inKindRest : lookInKindRest (over h p s) c = ((lookInKindRest s c).1, over h p (lookInKindRest s c).2) := by
  unfold lookInKindRest
  simp only [over_st, over_wrong, over_tellDoctype, over_odd, over_endDoctype, over_newTag, ov_behind, ov_state, ov_base, ov_place, ov_text, ov_tag, ov_lastStart, ov_declared, ov_comment, ov_dname, ov_odd, ov_rback, ov_rcome, ov_rsix, ov_rdig, ov_rnum]
  repeat' split
  all_goals first | rfl | (simp only [over_st, over_wrong, over_tellDoctype, over_odd, over_endDoctype, over_newTag]; done) | (simp only [over_st, over_wrong, over_tellDoctype, over_odd, over_endDoctype, over_newTag]; rfl)
theorem over_inRef : lookInRef (over h p s) c = ((lookInRef s c).1, over h p (lookInRef s c).2) := by
  unfold lookInRef
  simp only [over_st, over_odd, over_leaveAsItIs, over_setCome, over_newTag, ov_behind, ov_state, ov_base, ov_place, ov_text, ov_tag, ov_lastStart, ov_declared, ov_comment, ov_dname, ov_odd, ov_rback, ov_rcome, ov_rsix, ov_rdig, ov_rnum]
  repeat' split
  all_goals first | rfl | (simp only [over_st, over_odd, over_leaveAsItIs, over_setCome, over_newTag]; done) | (simp only [over_st, over_odd, over_leaveAsItIs, over_setCome, over_newTag]; rfl)
theorem over_inRefName : lookInRefName (over h p s) c = ((lookInRefName s c).1, over h p (lookInRefName s c).2) := by
  unfold lookInRefName
  simp only [over_st, over_odd, over_addToTarget, over_endOpenName, over_setCome, over_newTag, ov_behind, ov_state, ov_base, ov_place, ov_text, ov_tag, ov_lastStart, ov_declared, ov_comment, ov_dname, ov_odd, ov_rback, ov_rcome, ov_rsix, ov_rdig, ov_rnum]
  repeat' split
  all_goals first | rfl | (simp only [over_st, over_odd, over_addToTarget, over_endOpenName, over_setCome, over_newTag]; done) | (simp only [over_st, over_odd, over_addToTarget, over_endOpenName, over_setCome, over_newTag]; rfl)
theorem over_inRefUnknown : lookInRefUnknown (over h p s) c = ((lookInRefUnknown s c).1, over h p (lookInRefUnknown s c).2) := by
  unfold lookInRefUnknown
  simp only [over_st, over_wrong, over_odd, over_addToTarget, over_newTag, ov_behind, ov_state, ov_base, ov_place, ov_text, ov_tag, ov_lastStart, ov_declared, ov_comment, ov_dname, ov_odd, ov_rback, ov_rcome, ov_rsix, ov_rdig, ov_rnum]
  repeat' split
  all_goals first | rfl | (simp only [over_st, over_wrong, over_odd, over_addToTarget, over_newTag]; done) | (simp only [over_st, over_wrong, over_odd, over_addToTarget, over_newTag]; rfl)
theorem over_inRefHash : lookInRefHash (over h p s) c = ((lookInRefHash s c).1, over h p (lookInRefHash s c).2) := by
  unfold lookInRefHash
  simp only [over_st, over_odd, over_setCome, over_newTag, ov_behind, ov_state, ov_base, ov_place, ov_text, ov_tag, ov_lastStart, ov_declared, ov_comment, ov_dname, ov_odd, ov_rback, ov_rcome, ov_rsix, ov_rdig, ov_rnum]
  repeat' split
  all_goals first | rfl | (simp only [over_st, over_odd, over_setCome, over_newTag]; done) | (simp only [over_st, over_odd, over_setCome, over_newTag]; rfl)
theorem over_inRefNumber : lookInRefNumber (over h p s) c = ((lookInRefNumber s c).1, over h p (lookInRefNumber s c).2) := by
  unfold lookInRefNumber
  simp only [over_st, over_wrong, over_odd, over_endNumber, over_leaveAsItIs, over_addDigit, over_newTag, ov_behind, ov_state, ov_base, ov_place, ov_text, ov_tag, ov_lastStart, ov_declared, ov_comment, ov_dname, ov_odd, ov_rback, ov_rcome, ov_rsix, ov_rdig, ov_rnum]
  repeat' split
  all_goals first | rfl | (simp only [over_st, over_wrong, over_odd, over_endNumber, over_leaveAsItIs, over_addDigit, over_newTag]; done) | (simp only [over_st, over_wrong, over_odd, over_endNumber, over_leaveAsItIs, over_addDigit, over_newTag]; rfl)
theorem over_lookOnce : lookOnce (over h p s) c = ((lookOnce s c).1, over h p (lookOnce s c).2) := by
  by_cases e_inTitle : s.state = 1
  · have hf : lookOnce s c = lookInTitle s c := by simp [lookOnce, e_inTitle]
    have hg : lookOnce (over h p s) c = lookInTitle (over h p s) c := by simp [lookOnce, e_inTitle, ov_state]
    rw [hf, hg]
    exact over_inTitle h p
  by_cases e_inRaw : s.state = 2
  · have hf : lookOnce s c = lookInRaw s c := by simp [lookOnce, e_inRaw]
    have hg : lookOnce (over h p s) c = lookInRaw (over h p s) c := by simp [lookOnce, e_inRaw, ov_state]
    rw [hf, hg]
    exact over_inRaw h p
  by_cases e_inOpen : s.state = 3
  · have hf : lookOnce s c = lookInOpen s c := by simp [lookOnce, e_inOpen]
    have hg : lookOnce (over h p s) c = lookInOpen (over h p s) c := by simp [lookOnce, e_inOpen, ov_state]
    rw [hf, hg]
    exact over_inOpen h p
  by_cases e_inClose : s.state = 4
  · have hf : lookOnce s c = lookInClose s c := by simp [lookOnce, e_inClose]
    have hg : lookOnce (over h p s) c = lookInClose (over h p s) c := by simp [lookOnce, e_inClose, ov_state]
    rw [hf, hg]
    exact over_inClose h p
  by_cases e_inLess : s.state = 5
  · have hf : lookOnce s c = lookInLess s c := by simp [lookOnce, e_inLess]
    have hg : lookOnce (over h p s) c = lookInLess (over h p s) c := by simp [lookOnce, e_inLess, ov_state]
    rw [hf, hg]
    exact over_inLess h p
  by_cases e_inLessClose : s.state = 6
  · have hf : lookOnce s c = lookInLessClose s c := by simp [lookOnce, e_inLessClose]
    have hg : lookOnce (over h p s) c = lookInLessClose (over h p s) c := by simp [lookOnce, e_inLessClose, ov_state]
    rw [hf, hg]
    exact over_inLessClose h p
  by_cases e_inLessName : s.state = 7
  · have hf : lookOnce s c = lookInLessName s c := by simp [lookOnce, e_inLessName]
    have hg : lookOnce (over h p s) c = lookInLessName (over h p s) c := by simp [lookOnce, e_inLessName, ov_state]
    rw [hf, hg]
    exact over_inLessName h p
  by_cases e_inTag : s.state = 8
  · have hf : lookOnce s c = lookInTag s c := by simp [lookOnce, e_inTag]
    have hg : lookOnce (over h p s) c = lookInTag (over h p s) c := by simp [lookOnce, e_inTag, ov_state]
    rw [hf, hg]
    exact over_inTag h p
  by_cases e_inAttr : s.state = 9
  · have hf : lookOnce s c = lookInAttr s c := by simp [lookOnce, e_inAttr]
    have hg : lookOnce (over h p s) c = lookInAttr (over h p s) c := by simp [lookOnce, e_inAttr, ov_state]
    rw [hf, hg]
    exact over_inAttr h p
  by_cases e_inName : s.state = 10
  · have hf : lookOnce s c = lookInName s c := by simp [lookOnce, e_inName]
    have hg : lookOnce (over h p s) c = lookInName (over h p s) c := by simp [lookOnce, e_inName, ov_state]
    rw [hf, hg]
    exact over_inName h p
  by_cases e_inAfter : s.state = 11
  · have hf : lookOnce s c = lookInAfter s c := by simp [lookOnce, e_inAfter]
    have hg : lookOnce (over h p s) c = lookInAfter (over h p s) c := by simp [lookOnce, e_inAfter, ov_state]
    rw [hf, hg]
    exact over_inAfter h p
  by_cases e_inEquals : s.state = 12
  · have hf : lookOnce s c = lookInEquals s c := by simp [lookOnce, e_inEquals]
    have hg : lookOnce (over h p s) c = lookInEquals (over h p s) c := by simp [lookOnce, e_inEquals, ov_state]
    rw [hf, hg]
    exact over_inEquals h p
  by_cases e_inDouble : s.state = 13
  · have hf : lookOnce s c = lookInDouble s c := by simp [lookOnce, e_inDouble]
    have hg : lookOnce (over h p s) c = lookInDouble (over h p s) c := by simp [lookOnce, e_inDouble, ov_state]
    rw [hf, hg]
    exact over_inDouble h p
  by_cases e_inSingle : s.state = 14
  · have hf : lookOnce s c = lookInSingle s c := by simp [lookOnce, e_inSingle]
    have hg : lookOnce (over h p s) c = lookInSingle (over h p s) c := by simp [lookOnce, e_inSingle, ov_state]
    rw [hf, hg]
    exact over_inSingle h p
  by_cases e_inPlain : s.state = 15
  · have hf : lookOnce s c = lookInPlain s c := by simp [lookOnce, e_inPlain]
    have hg : lookOnce (over h p s) c = lookInPlain (over h p s) c := by simp [lookOnce, e_inPlain, ov_state]
    rw [hf, hg]
    exact over_inPlain h p
  by_cases e_inValue : s.state = 16
  · have hf : lookOnce s c = lookInValue s c := by simp [lookOnce, e_inValue]
    have hg : lookOnce (over h p s) c = lookInValue (over h p s) c := by simp [lookOnce, e_inValue, ov_state]
    rw [hf, hg]
    exact over_inValue h p
  by_cases e_inSelf : s.state = 17
  · have hf : lookOnce s c = lookInSelf s c := by simp [lookOnce, e_inSelf]
    have hg : lookOnce (over h p s) c = lookInSelf (over h p s) c := by simp [lookOnce, e_inSelf, ov_state]
    rw [hf, hg]
    exact over_inSelf h p
  by_cases e_inDecl : s.state = 18
  · have hf : lookOnce s c = lookInDecl s c := by simp [lookOnce, e_inDecl]
    have hg : lookOnce (over h p s) c = lookInDecl (over h p s) c := by simp [lookOnce, e_inDecl, ov_state]
    rw [hf, hg]
    exact over_inDecl h p
  by_cases e_inBogus : s.state = 19
  · have hf : lookOnce s c = lookInBogus s c := by simp [lookOnce, e_inBogus]
    have hg : lookOnce (over h p s) c = lookInBogus (over h p s) c := by simp [lookOnce, e_inBogus, ov_state]
    rw [hf, hg]
    exact over_inBogus h p
  by_cases e_inBegin : s.state = 20
  · have hf : lookOnce s c = lookInBegin s c := by simp [lookOnce, e_inBegin]
    have hg : lookOnce (over h p s) c = lookInBegin (over h p s) c := by simp [lookOnce, e_inBegin, ov_state]
    rw [hf, hg]
    exact over_inBegin h p
  by_cases e_inBeginDash : s.state = 21
  · have hf : lookOnce s c = lookInBeginDash s c := by simp [lookOnce, e_inBeginDash]
    have hg : lookOnce (over h p s) c = lookInBeginDash (over h p s) c := by simp [lookOnce, e_inBeginDash, ov_state]
    rw [hf, hg]
    exact over_inBeginDash h p
  by_cases e_inComment : s.state = 22
  · have hf : lookOnce s c = lookInComment s c := by simp [lookOnce, e_inComment]
    have hg : lookOnce (over h p s) c = lookInComment (over h p s) c := by simp [lookOnce, e_inComment, ov_state]
    rw [hf, hg]
    exact over_inComment h p
  by_cases e_inDash : s.state = 23
  · have hf : lookOnce s c = lookInDash s c := by simp [lookOnce, e_inDash]
    have hg : lookOnce (over h p s) c = lookInDash (over h p s) c := by simp [lookOnce, e_inDash, ov_state]
    rw [hf, hg]
    exact over_inDash h p
  by_cases e_inDashes : s.state = 24
  · have hf : lookOnce s c = lookInDashes s c := by simp [lookOnce, e_inDashes]
    have hg : lookOnce (over h p s) c = lookInDashes (over h p s) c := by simp [lookOnce, e_inDashes, ov_state]
    rw [hf, hg]
    exact over_inDashes h p
  by_cases e_inBang : s.state = 25
  · have hf : lookOnce s c = lookInBang s c := by simp [lookOnce, e_inBang]
    have hg : lookOnce (over h p s) c = lookInBang (over h p s) c := by simp [lookOnce, e_inBang, ov_state]
    rw [hf, hg]
    exact over_inBang h p
  by_cases e_inDoctype : s.state = 26
  · have hf : lookOnce s c = lookInDoctype s c := by simp [lookOnce, e_inDoctype]
    have hg : lookOnce (over h p s) c = lookInDoctype (over h p s) c := by simp [lookOnce, e_inDoctype, ov_state]
    rw [hf, hg]
    exact over_inDoctype h p
  by_cases e_inKind : s.state = 27
  · have hf : lookOnce s c = lookInKind s c := by simp [lookOnce, e_inKind]
    have hg : lookOnce (over h p s) c = lookInKind (over h p s) c := by simp [lookOnce, e_inKind, ov_state]
    rw [hf, hg]
    exact over_inKind h p
  by_cases e_inKindName : s.state = 28
  · have hf : lookOnce s c = lookInKindName s c := by simp [lookOnce, e_inKindName]
    have hg : lookOnce (over h p s) c = lookInKindName (over h p s) c := by simp [lookOnce, e_inKindName, ov_state]
    rw [hf, hg]
    exact over_inKindName h p
  by_cases e_inKindEnd : s.state = 29
  · have hf : lookOnce s c = lookInKindEnd s c := by simp [lookOnce, e_inKindEnd]
    have hg : lookOnce (over h p s) c = lookInKindEnd (over h p s) c := by simp [lookOnce, e_inKindEnd, ov_state]
    rw [hf, hg]
    exact over_inKindEnd h p
  by_cases e_inKindRest : s.state = 30
  · have hf : lookOnce s c = lookInKindRest s c := by simp [lookOnce, e_inKindRest]
    have hg : lookOnce (over h p s) c = lookInKindRest (over h p s) c := by simp [lookOnce, e_inKindRest, ov_state]
    rw [hf, hg]
    exact over_inKindRest h p
  by_cases e_inRef : s.state = 31
  · have hf : lookOnce s c = lookInRef s c := by simp [lookOnce, e_inRef]
    have hg : lookOnce (over h p s) c = lookInRef (over h p s) c := by simp [lookOnce, e_inRef, ov_state]
    rw [hf, hg]
    exact over_inRef h p
  by_cases e_inRefName : s.state = 32
  · have hf : lookOnce s c = lookInRefName s c := by simp [lookOnce, e_inRefName]
    have hg : lookOnce (over h p s) c = lookInRefName (over h p s) c := by simp [lookOnce, e_inRefName, ov_state]
    rw [hf, hg]
    exact over_inRefName h p
  by_cases e_inRefUnknown : s.state = 33
  · have hf : lookOnce s c = lookInRefUnknown s c := by simp [lookOnce, e_inRefUnknown]
    have hg : lookOnce (over h p s) c = lookInRefUnknown (over h p s) c := by simp [lookOnce, e_inRefUnknown, ov_state]
    rw [hf, hg]
    exact over_inRefUnknown h p
  by_cases e_inRefHash : s.state = 34
  · have hf : lookOnce s c = lookInRefHash s c := by simp [lookOnce, e_inRefHash]
    have hg : lookOnce (over h p s) c = lookInRefHash (over h p s) c := by simp [lookOnce, e_inRefHash, ov_state]
    rw [hf, hg]
    exact over_inRefHash h p
  by_cases e_inRefNumber : s.state = 35
  · have hf : lookOnce s c = lookInRefNumber s c := by simp [lookOnce, e_inRefNumber]
    have hg : lookOnce (over h p s) c = lookInRefNumber (over h p s) c := by simp [lookOnce, e_inRefNumber, ov_state]
    rw [hf, hg]
    exact over_inRefNumber h p
  have hf : lookOnce s c = lookInData s c := by simp [lookOnce, e_inTitle, e_inRaw, e_inOpen, e_inClose, e_inLess, e_inLessClose, e_inLessName, e_inTag, e_inAttr, e_inName, e_inAfter, e_inEquals, e_inDouble, e_inSingle, e_inPlain, e_inValue, e_inSelf, e_inDecl, e_inBogus, e_inBegin, e_inBeginDash, e_inComment, e_inDash, e_inDashes, e_inBang, e_inDoctype, e_inKind, e_inKindName, e_inKindEnd, e_inKindRest, e_inRef, e_inRefName, e_inRefUnknown, e_inRefHash, e_inRefNumber]
  have hg : lookOnce (over h p s) c = lookInData (over h p s) c := by simp [lookOnce, ov_state, e_inTitle, e_inRaw, e_inOpen, e_inClose, e_inLess, e_inLessClose, e_inLessName, e_inTag, e_inAttr, e_inName, e_inAfter, e_inEquals, e_inDouble, e_inSingle, e_inPlain, e_inValue, e_inSelf, e_inDecl, e_inBogus, e_inBegin, e_inBeginDash, e_inComment, e_inDash, e_inDashes, e_inBang, e_inDoctype, e_inKind, e_inKindName, e_inKindEnd, e_inKindRest, e_inRef, e_inRefName, e_inRefUnknown, e_inRefHash, e_inRefNumber]
  rw [hf, hg]
  exact over_inData h p
theorem over_lookN : ∀ (n : Nat) (s : TS), lookN n (over h p s) c = over h p (lookN n s c)
  | 0, s => rfl
  | n + 1, s => by
    rw [lookN, lookN, over_lookOnce]
    dsimp only
    split
    · rfl
    · exact over_lookN n _
theorem over_lookAtNext (n : Nat) (s : TS) (c : Int) : lookAtNext n (over h p s) c = over h p (lookAtNext n s c) := by unfold lookAtNext; rw [over_lookN]; rfl
theorem over_setBehind (s : TS) (c : Int) : setBehind (over h p s) c = over h p (setBehind s c) := rfl
theorem over_pass (n : Nat) (s : TS) (c : Int) : pass n (over h p s) c = over h p (pass n s c) := by
  unfold pass
  rw [ov_behind, over_setBehind]
  split
  · rfl
  · split
    · exact over_lookAtNext h p _ _ _
    · exact over_lookAtNext h p _ _ _
theorem over_readN (n : Nat) : ∀ (f : Nat) (s : TS) (r : Str), readN n f (over h p s) r = (over h p (readN n f s r).1, (readN n f s r).2)
  | 0, s, r => rfl
  | f + 1, s, r => by
    rw [readN, readN]
    split
    · rfl
    · rw [over_pass]
      exact over_readN n f _ _
end
end Go.Proofs.YtdfmapcnfficlaaGreatDoor

/-
  What each small step leaves as it was.
-/
import Derived.Test.YtdfmapcnfficlaaGreatDoorB31
set_option linter.unusedSimpArgs false
set_option linter.unusedVariables false
namespace Go.Proofs.YtdfmapcnfficlaaGreatDoor
open Go Go.RowKit

theorem fr_addRunes_begun (t : ByteArray) : ∀ (f pos : Nat) (s : TS), (addRunes t f pos s).begun = s.begun
  | 0, _, s => rfl
  | f + 1, pos, s => by
    rw [addRunes]
    split
    · rw [fr_addRunes_begun t f]; rfl
    · rfl
theorem fr_addRunes_behind (t : ByteArray) : ∀ (f pos : Nat) (s : TS), (addRunes t f pos s).behind = s.behind
  | 0, _, s => rfl
  | f + 1, pos, s => by
    rw [addRunes]
    split
    · rw [fr_addRunes_behind t f]; rfl
    · rfl
theorem fr_addRunes_limit (t : ByteArray) : ∀ (f pos : Nat) (s : TS), (addRunes t f pos s).limit = s.limit
  | 0, _, s => rfl
  | f + 1, pos, s => by
    rw [addRunes]
    split
    · rw [fr_addRunes_limit t f]; rfl
    · rfl
theorem fr_addRunes_bytes (t : ByteArray) : ∀ (f pos : Nat) (s : TS), (addRunes t f pos s).bytes = s.bytes
  | 0, _, s => rfl
  | f + 1, pos, s => by
    rw [addRunes]
    split
    · rw [fr_addRunes_bytes t f]; rfl
    · rfl
theorem fr_addRunes_closed (t : ByteArray) : ∀ (f pos : Nat) (s : TS), (addRunes t f pos s).closed = s.closed
  | 0, _, s => rfl
  | f + 1, pos, s => by
    rw [addRunes]
    split
    · rw [fr_addRunes_closed t f]; rfl
    · rfl
theorem fr_addRunes_place (t : ByteArray) : ∀ (f pos : Nat) (s : TS), (addRunes t f pos s).place = s.place
  | 0, _, s => rfl
  | f + 1, pos, s => by
    rw [addRunes]
    split
    · rw [fr_addRunes_place t f]; rfl
    · rfl
theorem fr_addRunes_base (t : ByteArray) : ∀ (f pos : Nat) (s : TS), (addRunes t f pos s).base = s.base
  | 0, _, s => rfl
  | f + 1, pos, s => by
    rw [addRunes]
    split
    · rw [fr_addRunes_base t f]; rfl
    · rfl
theorem fr_addRunes_declared (t : ByteArray) : ∀ (f pos : Nat) (s : TS), (addRunes t f pos s).declared = s.declared
  | 0, _, s => rfl
  | f + 1, pos, s => by
    rw [addRunes]
    split
    · rw [fr_addRunes_declared t f]; rfl
    · rfl
theorem fr_addRunes_state (t : ByteArray) : ∀ (f pos : Nat) (s : TS), (addRunes t f pos s).state = s.state
  | 0, _, s => rfl
  | f + 1, pos, s => by
    rw [addRunes]
    split
    · rw [fr_addRunes_state t f]; rfl
    · rfl
theorem fr_addRunes_rback (t : ByteArray) : ∀ (f pos : Nat) (s : TS), (addRunes t f pos s).rback = s.rback
  | 0, _, s => rfl
  | f + 1, pos, s => by
    rw [addRunes]
    split
    · rw [fr_addRunes_rback t f]; rfl
    · rfl
theorem fr_addRunes_rcome (t : ByteArray) : ∀ (f pos : Nat) (s : TS), (addRunes t f pos s).rcome = s.rcome
  | 0, _, s => rfl
  | f + 1, pos, s => by
    rw [addRunes]
    split
    · rw [fr_addRunes_rcome t f]; rfl
    · rfl
theorem fr_addRunes_rsix (t : ByteArray) : ∀ (f pos : Nat) (s : TS), (addRunes t f pos s).rsix = s.rsix
  | 0, _, s => rfl
  | f + 1, pos, s => by
    rw [addRunes]
    split
    · rw [fr_addRunes_rsix t f]; rfl
    · rfl
theorem fr_addRunes_rdig (t : ByteArray) : ∀ (f pos : Nat) (s : TS), (addRunes t f pos s).rdig = s.rdig
  | 0, _, s => rfl
  | f + 1, pos, s => by
    rw [addRunes]
    split
    · rw [fr_addRunes_rdig t f]; rfl
    · rfl
theorem fr_addRunes_rnum (t : ByteArray) : ∀ (f pos : Nat) (s : TS), (addRunes t f pos s).rnum = s.rnum
  | 0, _, s => rfl
  | f + 1, pos, s => by
    rw [addRunes]
    split
    · rw [fr_addRunes_rnum t f]; rfl
    · rfl
theorem fr_tellTok_begun (s : TS) (t : Tok) : (tellTok s t).begun = s.begun := by
  first
  | rfl
  | (unfold tellTok; first | rfl | (simp only []; done) | (split <;> first | rfl | (simp only []; done)) | (simp only []; split <;> rfl))
theorem fr_tellTok_behind (s : TS) (t : Tok) : (tellTok s t).behind = s.behind := by
  first
  | rfl
  | (unfold tellTok; first | rfl | (simp only []; done) | (split <;> first | rfl | (simp only []; done)) | (simp only []; split <;> rfl))
theorem fr_tellTok_limit (s : TS) (t : Tok) : (tellTok s t).limit = s.limit := by
  first
  | rfl
  | (unfold tellTok; first | rfl | (simp only []; done) | (split <;> first | rfl | (simp only []; done)) | (simp only []; split <;> rfl))
theorem fr_tellTok_bytes (s : TS) (t : Tok) : (tellTok s t).bytes = s.bytes := by
  first
  | rfl
  | (unfold tellTok; first | rfl | (simp only []; done) | (split <;> first | rfl | (simp only []; done)) | (simp only []; split <;> rfl))
theorem fr_tellTok_closed (s : TS) (t : Tok) : (tellTok s t).closed = s.closed := by
  first
  | rfl
  | (unfold tellTok; first | rfl | (simp only []; done) | (split <;> first | rfl | (simp only []; done)) | (simp only []; split <;> rfl))
theorem fr_tellTok_place (s : TS) (t : Tok) : (tellTok s t).place = s.place := by
  first
  | rfl
  | (unfold tellTok; first | rfl | (simp only []; done) | (split <;> first | rfl | (simp only []; done)) | (simp only []; split <;> rfl))
theorem fr_tellTok_base (s : TS) (t : Tok) : (tellTok s t).base = s.base := by
  first
  | rfl
  | (unfold tellTok; first | rfl | (simp only []; done) | (split <;> first | rfl | (simp only []; done)) | (simp only []; split <;> rfl))
theorem fr_tellTok_declared (s : TS) (t : Tok) : (tellTok s t).declared = s.declared := by
  first
  | rfl
  | (unfold tellTok; first | rfl | (simp only []; done) | (split <;> first | rfl | (simp only []; done)) | (simp only []; split <;> rfl))
theorem fr_tellTok_state (s : TS) (t : Tok) : (tellTok s t).state = s.state := by
  first
  | rfl
  | (unfold tellTok; first | rfl | (simp only []; done) | (split <;> first | rfl | (simp only []; done)) | (simp only []; split <;> rfl))
theorem fr_tellTok_rback (s : TS) (t : Tok) : (tellTok s t).rback = s.rback := by
  first
  | rfl
  | (unfold tellTok; first | rfl | (simp only []; done) | (split <;> first | rfl | (simp only []; done)) | (simp only []; split <;> rfl))
theorem fr_tellTok_rcome (s : TS) (t : Tok) : (tellTok s t).rcome = s.rcome := by
  first
  | rfl
  | (unfold tellTok; first | rfl | (simp only []; done) | (split <;> first | rfl | (simp only []; done)) | (simp only []; split <;> rfl))
theorem fr_tellTok_rsix (s : TS) (t : Tok) : (tellTok s t).rsix = s.rsix := by
  first
  | rfl
  | (unfold tellTok; first | rfl | (simp only []; done) | (split <;> first | rfl | (simp only []; done)) | (simp only []; split <;> rfl))
theorem fr_tellTok_rdig (s : TS) (t : Tok) : (tellTok s t).rdig = s.rdig := by
  first
  | rfl
  | (unfold tellTok; first | rfl | (simp only []; done) | (split <;> first | rfl | (simp only []; done)) | (simp only []; split <;> rfl))
theorem fr_tellTok_rnum (s : TS) (t : Tok) : (tellTok s t).rnum = s.rnum := by
  first
  | rfl
  | (unfold tellTok; first | rfl | (simp only []; done) | (split <;> first | rfl | (simp only []; done)) | (simp only []; split <;> rfl))
theorem fr_tellTok_tag (s : TS) (t : Tok) : (tellTok s t).tag = s.tag := by
  first
  | rfl
  | (unfold tellTok; first | rfl | (simp only []; done) | (split <;> first | rfl | (simp only []; done)) | (simp only []; split <;> rfl))
theorem fr_wrongAt_begun (s : TS) (n : Str) (p : Int) : (wrongAt s n p).begun = s.begun := by
  first
  | rfl
  | (unfold wrongAt; first | rfl | (simp only []; done) | (split <;> first | rfl | (simp only []; done)) | (simp only []; split <;> rfl))
theorem fr_wrongAt_behind (s : TS) (n : Str) (p : Int) : (wrongAt s n p).behind = s.behind := by
  first
  | rfl
  | (unfold wrongAt; first | rfl | (simp only []; done) | (split <;> first | rfl | (simp only []; done)) | (simp only []; split <;> rfl))
theorem fr_wrongAt_limit (s : TS) (n : Str) (p : Int) : (wrongAt s n p).limit = s.limit := by
  first
  | rfl
  | (unfold wrongAt; first | rfl | (simp only []; done) | (split <;> first | rfl | (simp only []; done)) | (simp only []; split <;> rfl))
theorem fr_wrongAt_bytes (s : TS) (n : Str) (p : Int) : (wrongAt s n p).bytes = s.bytes := by
  first
  | rfl
  | (unfold wrongAt; first | rfl | (simp only []; done) | (split <;> first | rfl | (simp only []; done)) | (simp only []; split <;> rfl))
theorem fr_wrongAt_closed (s : TS) (n : Str) (p : Int) : (wrongAt s n p).closed = s.closed := by
  first
  | rfl
  | (unfold wrongAt; first | rfl | (simp only []; done) | (split <;> first | rfl | (simp only []; done)) | (simp only []; split <;> rfl))
theorem fr_wrongAt_place (s : TS) (n : Str) (p : Int) : (wrongAt s n p).place = s.place := by
  first
  | rfl
  | (unfold wrongAt; first | rfl | (simp only []; done) | (split <;> first | rfl | (simp only []; done)) | (simp only []; split <;> rfl))
theorem fr_wrongAt_base (s : TS) (n : Str) (p : Int) : (wrongAt s n p).base = s.base := by
  first
  | rfl
  | (unfold wrongAt; first | rfl | (simp only []; done) | (split <;> first | rfl | (simp only []; done)) | (simp only []; split <;> rfl))
theorem fr_wrongAt_declared (s : TS) (n : Str) (p : Int) : (wrongAt s n p).declared = s.declared := by
  first
  | rfl
  | (unfold wrongAt; first | rfl | (simp only []; done) | (split <;> first | rfl | (simp only []; done)) | (simp only []; split <;> rfl))
theorem fr_wrongAt_state (s : TS) (n : Str) (p : Int) : (wrongAt s n p).state = s.state := by
  first
  | rfl
  | (unfold wrongAt; first | rfl | (simp only []; done) | (split <;> first | rfl | (simp only []; done)) | (simp only []; split <;> rfl))
theorem fr_wrongAt_rback (s : TS) (n : Str) (p : Int) : (wrongAt s n p).rback = s.rback := by
  first
  | rfl
  | (unfold wrongAt; first | rfl | (simp only []; done) | (split <;> first | rfl | (simp only []; done)) | (simp only []; split <;> rfl))
theorem fr_wrongAt_rcome (s : TS) (n : Str) (p : Int) : (wrongAt s n p).rcome = s.rcome := by
  first
  | rfl
  | (unfold wrongAt; first | rfl | (simp only []; done) | (split <;> first | rfl | (simp only []; done)) | (simp only []; split <;> rfl))
theorem fr_wrongAt_rsix (s : TS) (n : Str) (p : Int) : (wrongAt s n p).rsix = s.rsix := by
  first
  | rfl
  | (unfold wrongAt; first | rfl | (simp only []; done) | (split <;> first | rfl | (simp only []; done)) | (simp only []; split <;> rfl))
theorem fr_wrongAt_rdig (s : TS) (n : Str) (p : Int) : (wrongAt s n p).rdig = s.rdig := by
  first
  | rfl
  | (unfold wrongAt; first | rfl | (simp only []; done) | (split <;> first | rfl | (simp only []; done)) | (simp only []; split <;> rfl))
theorem fr_wrongAt_rnum (s : TS) (n : Str) (p : Int) : (wrongAt s n p).rnum = s.rnum := by
  first
  | rfl
  | (unfold wrongAt; first | rfl | (simp only []; done) | (split <;> first | rfl | (simp only []; done)) | (simp only []; split <;> rfl))
theorem fr_wrongAt_tag (s : TS) (n : Str) (p : Int) : (wrongAt s n p).tag = s.tag := by
  first
  | rfl
  | (unfold wrongAt; first | rfl | (simp only []; done) | (split <;> first | rfl | (simp only []; done)) | (simp only []; split <;> rfl))
theorem fr_wrong_begun (s : TS) (n : Str) : (wrong s n).begun = s.begun := by
  first
  | rfl
  | (unfold wrong; first | rfl | (simp only []; done) | (split <;> first | rfl | (simp only []; done)) | (simp only []; split <;> rfl))
theorem fr_wrong_behind (s : TS) (n : Str) : (wrong s n).behind = s.behind := by
  first
  | rfl
  | (unfold wrong; first | rfl | (simp only []; done) | (split <;> first | rfl | (simp only []; done)) | (simp only []; split <;> rfl))
theorem fr_wrong_limit (s : TS) (n : Str) : (wrong s n).limit = s.limit := by
  first
  | rfl
  | (unfold wrong; first | rfl | (simp only []; done) | (split <;> first | rfl | (simp only []; done)) | (simp only []; split <;> rfl))
theorem fr_wrong_bytes (s : TS) (n : Str) : (wrong s n).bytes = s.bytes := by
  first
  | rfl
  | (unfold wrong; first | rfl | (simp only []; done) | (split <;> first | rfl | (simp only []; done)) | (simp only []; split <;> rfl))
theorem fr_wrong_closed (s : TS) (n : Str) : (wrong s n).closed = s.closed := by
  first
  | rfl
  | (unfold wrong; first | rfl | (simp only []; done) | (split <;> first | rfl | (simp only []; done)) | (simp only []; split <;> rfl))
theorem fr_wrong_place (s : TS) (n : Str) : (wrong s n).place = s.place := by
  first
  | rfl
  | (unfold wrong; first | rfl | (simp only []; done) | (split <;> first | rfl | (simp only []; done)) | (simp only []; split <;> rfl))
theorem fr_wrong_base (s : TS) (n : Str) : (wrong s n).base = s.base := by
  first
  | rfl
  | (unfold wrong; first | rfl | (simp only []; done) | (split <;> first | rfl | (simp only []; done)) | (simp only []; split <;> rfl))
theorem fr_wrong_declared (s : TS) (n : Str) : (wrong s n).declared = s.declared := by
  first
  | rfl
  | (unfold wrong; first | rfl | (simp only []; done) | (split <;> first | rfl | (simp only []; done)) | (simp only []; split <;> rfl))
theorem fr_wrong_state (s : TS) (n : Str) : (wrong s n).state = s.state := by
  first
  | rfl
  | (unfold wrong; first | rfl | (simp only []; done) | (split <;> first | rfl | (simp only []; done)) | (simp only []; split <;> rfl))
theorem fr_wrong_rback (s : TS) (n : Str) : (wrong s n).rback = s.rback := by
  first
  | rfl
  | (unfold wrong; first | rfl | (simp only []; done) | (split <;> first | rfl | (simp only []; done)) | (simp only []; split <;> rfl))
theorem fr_wrong_rcome (s : TS) (n : Str) : (wrong s n).rcome = s.rcome := by
  first
  | rfl
  | (unfold wrong; first | rfl | (simp only []; done) | (split <;> first | rfl | (simp only []; done)) | (simp only []; split <;> rfl))
theorem fr_wrong_rsix (s : TS) (n : Str) : (wrong s n).rsix = s.rsix := by
  first
  | rfl
  | (unfold wrong; first | rfl | (simp only []; done) | (split <;> first | rfl | (simp only []; done)) | (simp only []; split <;> rfl))
theorem fr_wrong_rdig (s : TS) (n : Str) : (wrong s n).rdig = s.rdig := by
  first
  | rfl
  | (unfold wrong; first | rfl | (simp only []; done) | (split <;> first | rfl | (simp only []; done)) | (simp only []; split <;> rfl))
theorem fr_wrong_rnum (s : TS) (n : Str) : (wrong s n).rnum = s.rnum := by
  first
  | rfl
  | (unfold wrong; first | rfl | (simp only []; done) | (split <;> first | rfl | (simp only []; done)) | (simp only []; split <;> rfl))
theorem fr_wrong_tag (s : TS) (n : Str) : (wrong s n).tag = s.tag := by
  first
  | rfl
  | (unfold wrong; first | rfl | (simp only []; done) | (split <;> first | rfl | (simp only []; done)) | (simp only []; split <;> rfl))
theorem fr_flush_begun (s : TS) : (flush s).begun = s.begun := by
  first
  | rfl
  | (unfold flush; first | rfl | (simp only []; done) | (split <;> first | rfl | (simp only []; done)) | (simp only []; split <;> rfl))
theorem fr_flush_behind (s : TS) : (flush s).behind = s.behind := by
  first
  | rfl
  | (unfold flush; first | rfl | (simp only []; done) | (split <;> first | rfl | (simp only []; done)) | (simp only []; split <;> rfl))
theorem fr_flush_limit (s : TS) : (flush s).limit = s.limit := by
  first
  | rfl
  | (unfold flush; first | rfl | (simp only []; done) | (split <;> first | rfl | (simp only []; done)) | (simp only []; split <;> rfl))
theorem fr_flush_bytes (s : TS) : (flush s).bytes = s.bytes := by
  first
  | rfl
  | (unfold flush; first | rfl | (simp only []; done) | (split <;> first | rfl | (simp only []; done)) | (simp only []; split <;> rfl))
theorem fr_flush_closed (s : TS) : (flush s).closed = s.closed := by
  first
  | rfl
  | (unfold flush; first | rfl | (simp only []; done) | (split <;> first | rfl | (simp only []; done)) | (simp only []; split <;> rfl))
theorem fr_flush_place (s : TS) : (flush s).place = s.place := by
  first
  | rfl
  | (unfold flush; first | rfl | (simp only []; done) | (split <;> first | rfl | (simp only []; done)) | (simp only []; split <;> rfl))
theorem fr_flush_base (s : TS) : (flush s).base = s.base := by
  first
  | rfl
  | (unfold flush; first | rfl | (simp only []; done) | (split <;> first | rfl | (simp only []; done)) | (simp only []; split <;> rfl))
theorem fr_flush_declared (s : TS) : (flush s).declared = s.declared := by
  first
  | rfl
  | (unfold flush; first | rfl | (simp only []; done) | (split <;> first | rfl | (simp only []; done)) | (simp only []; split <;> rfl))
theorem fr_flush_state (s : TS) : (flush s).state = s.state := by
  first
  | rfl
  | (unfold flush; first | rfl | (simp only []; done) | (split <;> first | rfl | (simp only []; done)) | (simp only []; split <;> rfl))
theorem fr_flush_rback (s : TS) : (flush s).rback = s.rback := by
  first
  | rfl
  | (unfold flush; first | rfl | (simp only []; done) | (split <;> first | rfl | (simp only []; done)) | (simp only []; split <;> rfl))
theorem fr_flush_rcome (s : TS) : (flush s).rcome = s.rcome := by
  first
  | rfl
  | (unfold flush; first | rfl | (simp only []; done) | (split <;> first | rfl | (simp only []; done)) | (simp only []; split <;> rfl))
theorem fr_flush_rsix (s : TS) : (flush s).rsix = s.rsix := by
  first
  | rfl
  | (unfold flush; first | rfl | (simp only []; done) | (split <;> first | rfl | (simp only []; done)) | (simp only []; split <;> rfl))
theorem fr_flush_rdig (s : TS) : (flush s).rdig = s.rdig := by
  first
  | rfl
  | (unfold flush; first | rfl | (simp only []; done) | (split <;> first | rfl | (simp only []; done)) | (simp only []; split <;> rfl))
theorem fr_flush_rnum (s : TS) : (flush s).rnum = s.rnum := by
  first
  | rfl
  | (unfold flush; first | rfl | (simp only []; done) | (split <;> first | rfl | (simp only []; done)) | (simp only []; split <;> rfl))
theorem fr_flush_tag (s : TS) : (flush s).tag = s.tag := by
  first
  | rfl
  | (unfold flush; first | rfl | (simp only []; done) | (split <;> first | rfl | (simp only []; done)) | (simp only []; split <;> rfl))
theorem fr_tell_begun (s : TS) (t : Tok) : (tell s t).begun = s.begun := by
  first
  | rfl
  | (unfold tell; first | rfl | (simp only [fr_tellTok_begun, fr_flush_begun]; done) | (split <;> first | rfl | (simp only [fr_tellTok_begun, fr_flush_begun]; done)) | (simp only [fr_tellTok_begun, fr_flush_begun]; split <;> rfl))
theorem fr_tell_behind (s : TS) (t : Tok) : (tell s t).behind = s.behind := by
  first
  | rfl
  | (unfold tell; first | rfl | (simp only [fr_tellTok_behind, fr_flush_behind]; done) | (split <;> first | rfl | (simp only [fr_tellTok_behind, fr_flush_behind]; done)) | (simp only [fr_tellTok_behind, fr_flush_behind]; split <;> rfl))
theorem fr_tell_limit (s : TS) (t : Tok) : (tell s t).limit = s.limit := by
  first
  | rfl
  | (unfold tell; first | rfl | (simp only [fr_tellTok_limit, fr_flush_limit]; done) | (split <;> first | rfl | (simp only [fr_tellTok_limit, fr_flush_limit]; done)) | (simp only [fr_tellTok_limit, fr_flush_limit]; split <;> rfl))
theorem fr_tell_bytes (s : TS) (t : Tok) : (tell s t).bytes = s.bytes := by
  first
  | rfl
  | (unfold tell; first | rfl | (simp only [fr_tellTok_bytes, fr_flush_bytes]; done) | (split <;> first | rfl | (simp only [fr_tellTok_bytes, fr_flush_bytes]; done)) | (simp only [fr_tellTok_bytes, fr_flush_bytes]; split <;> rfl))
theorem fr_tell_closed (s : TS) (t : Tok) : (tell s t).closed = s.closed := by
  first
  | rfl
  | (unfold tell; first | rfl | (simp only [fr_tellTok_closed, fr_flush_closed]; done) | (split <;> first | rfl | (simp only [fr_tellTok_closed, fr_flush_closed]; done)) | (simp only [fr_tellTok_closed, fr_flush_closed]; split <;> rfl))
theorem fr_tell_place (s : TS) (t : Tok) : (tell s t).place = s.place := by
  first
  | rfl
  | (unfold tell; first | rfl | (simp only [fr_tellTok_place, fr_flush_place]; done) | (split <;> first | rfl | (simp only [fr_tellTok_place, fr_flush_place]; done)) | (simp only [fr_tellTok_place, fr_flush_place]; split <;> rfl))
theorem fr_tell_base (s : TS) (t : Tok) : (tell s t).base = s.base := by
  first
  | rfl
  | (unfold tell; first | rfl | (simp only [fr_tellTok_base, fr_flush_base]; done) | (split <;> first | rfl | (simp only [fr_tellTok_base, fr_flush_base]; done)) | (simp only [fr_tellTok_base, fr_flush_base]; split <;> rfl))
theorem fr_tell_declared (s : TS) (t : Tok) : (tell s t).declared = s.declared := by
  first
  | rfl
  | (unfold tell; first | rfl | (simp only [fr_tellTok_declared, fr_flush_declared]; done) | (split <;> first | rfl | (simp only [fr_tellTok_declared, fr_flush_declared]; done)) | (simp only [fr_tellTok_declared, fr_flush_declared]; split <;> rfl))
theorem fr_tell_state (s : TS) (t : Tok) : (tell s t).state = s.state := by
  first
  | rfl
  | (unfold tell; first | rfl | (simp only [fr_tellTok_state, fr_flush_state]; done) | (split <;> first | rfl | (simp only [fr_tellTok_state, fr_flush_state]; done)) | (simp only [fr_tellTok_state, fr_flush_state]; split <;> rfl))
theorem fr_tell_rback (s : TS) (t : Tok) : (tell s t).rback = s.rback := by
  first
  | rfl
  | (unfold tell; first | rfl | (simp only [fr_tellTok_rback, fr_flush_rback]; done) | (split <;> first | rfl | (simp only [fr_tellTok_rback, fr_flush_rback]; done)) | (simp only [fr_tellTok_rback, fr_flush_rback]; split <;> rfl))
theorem fr_tell_rcome (s : TS) (t : Tok) : (tell s t).rcome = s.rcome := by
  first
  | rfl
  | (unfold tell; first | rfl | (simp only [fr_tellTok_rcome, fr_flush_rcome]; done) | (split <;> first | rfl | (simp only [fr_tellTok_rcome, fr_flush_rcome]; done)) | (simp only [fr_tellTok_rcome, fr_flush_rcome]; split <;> rfl))
theorem fr_tell_rsix (s : TS) (t : Tok) : (tell s t).rsix = s.rsix := by
  first
  | rfl
  | (unfold tell; first | rfl | (simp only [fr_tellTok_rsix, fr_flush_rsix]; done) | (split <;> first | rfl | (simp only [fr_tellTok_rsix, fr_flush_rsix]; done)) | (simp only [fr_tellTok_rsix, fr_flush_rsix]; split <;> rfl))
theorem fr_tell_rdig (s : TS) (t : Tok) : (tell s t).rdig = s.rdig := by
  first
  | rfl
  | (unfold tell; first | rfl | (simp only [fr_tellTok_rdig, fr_flush_rdig]; done) | (split <;> first | rfl | (simp only [fr_tellTok_rdig, fr_flush_rdig]; done)) | (simp only [fr_tellTok_rdig, fr_flush_rdig]; split <;> rfl))
theorem fr_tell_rnum (s : TS) (t : Tok) : (tell s t).rnum = s.rnum := by
  first
  | rfl
  | (unfold tell; first | rfl | (simp only [fr_tellTok_rnum, fr_flush_rnum]; done) | (split <;> first | rfl | (simp only [fr_tellTok_rnum, fr_flush_rnum]; done)) | (simp only [fr_tellTok_rnum, fr_flush_rnum]; split <;> rfl))
theorem fr_tell_tag (s : TS) (t : Tok) : (tell s t).tag = s.tag := by
  first
  | rfl
  | (unfold tell; first | rfl | (simp only [fr_tellTok_tag, fr_flush_tag]; done) | (split <;> first | rfl | (simp only [fr_tellTok_tag, fr_flush_tag]; done)) | (simp only [fr_tellTok_tag, fr_flush_tag]; split <;> rfl))
theorem fr_withoutNul_begun (s : TS) (c : Int) : (withoutNul s c).begun = s.begun := by
  first
  | rfl
  | (unfold withoutNul; first | rfl | (simp only []; done) | (split <;> first | rfl | (simp only []; done)) | (simp only []; split <;> rfl))
theorem fr_withoutNul_behind (s : TS) (c : Int) : (withoutNul s c).behind = s.behind := by
  first
  | rfl
  | (unfold withoutNul; first | rfl | (simp only []; done) | (split <;> first | rfl | (simp only []; done)) | (simp only []; split <;> rfl))
theorem fr_withoutNul_limit (s : TS) (c : Int) : (withoutNul s c).limit = s.limit := by
  first
  | rfl
  | (unfold withoutNul; first | rfl | (simp only []; done) | (split <;> first | rfl | (simp only []; done)) | (simp only []; split <;> rfl))
theorem fr_withoutNul_bytes (s : TS) (c : Int) : (withoutNul s c).bytes = s.bytes := by
  first
  | rfl
  | (unfold withoutNul; first | rfl | (simp only []; done) | (split <;> first | rfl | (simp only []; done)) | (simp only []; split <;> rfl))
theorem fr_withoutNul_closed (s : TS) (c : Int) : (withoutNul s c).closed = s.closed := by
  first
  | rfl
  | (unfold withoutNul; first | rfl | (simp only []; done) | (split <;> first | rfl | (simp only []; done)) | (simp only []; split <;> rfl))
theorem fr_withoutNul_place (s : TS) (c : Int) : (withoutNul s c).place = s.place := by
  first
  | rfl
  | (unfold withoutNul; first | rfl | (simp only []; done) | (split <;> first | rfl | (simp only []; done)) | (simp only []; split <;> rfl))
theorem fr_withoutNul_base (s : TS) (c : Int) : (withoutNul s c).base = s.base := by
  first
  | rfl
  | (unfold withoutNul; first | rfl | (simp only []; done) | (split <;> first | rfl | (simp only []; done)) | (simp only []; split <;> rfl))
theorem fr_withoutNul_declared (s : TS) (c : Int) : (withoutNul s c).declared = s.declared := by
  first
  | rfl
  | (unfold withoutNul; first | rfl | (simp only []; done) | (split <;> first | rfl | (simp only []; done)) | (simp only []; split <;> rfl))
theorem fr_withoutNul_state (s : TS) (c : Int) : (withoutNul s c).state = s.state := by
  first
  | rfl
  | (unfold withoutNul; first | rfl | (simp only []; done) | (split <;> first | rfl | (simp only []; done)) | (simp only []; split <;> rfl))
theorem fr_withoutNul_rback (s : TS) (c : Int) : (withoutNul s c).rback = s.rback := by
  first
  | rfl
  | (unfold withoutNul; first | rfl | (simp only []; done) | (split <;> first | rfl | (simp only []; done)) | (simp only []; split <;> rfl))
theorem fr_withoutNul_rcome (s : TS) (c : Int) : (withoutNul s c).rcome = s.rcome := by
  first
  | rfl
  | (unfold withoutNul; first | rfl | (simp only []; done) | (split <;> first | rfl | (simp only []; done)) | (simp only []; split <;> rfl))
theorem fr_withoutNul_rsix (s : TS) (c : Int) : (withoutNul s c).rsix = s.rsix := by
  first
  | rfl
  | (unfold withoutNul; first | rfl | (simp only []; done) | (split <;> first | rfl | (simp only []; done)) | (simp only []; split <;> rfl))
theorem fr_withoutNul_rdig (s : TS) (c : Int) : (withoutNul s c).rdig = s.rdig := by
  first
  | rfl
  | (unfold withoutNul; first | rfl | (simp only []; done) | (split <;> first | rfl | (simp only []; done)) | (simp only []; split <;> rfl))
theorem fr_withoutNul_rnum (s : TS) (c : Int) : (withoutNul s c).rnum = s.rnum := by
  first
  | rfl
  | (unfold withoutNul; first | rfl | (simp only []; done) | (split <;> first | rfl | (simp only []; done)) | (simp only []; split <;> rfl))
theorem fr_withoutNul_tag (s : TS) (c : Int) : (withoutNul s c).tag = s.tag := by
  first
  | rfl
  | (unfold withoutNul; first | rfl | (simp only []; done) | (split <;> first | rfl | (simp only []; done)) | (simp only []; split <;> rfl))
theorem fr_addText_begun (s : TS) (l : Str) : (addText s l).begun = s.begun := by
  first
  | rfl
  | (unfold addText; first | rfl | (simp only []; done) | (split <;> first | rfl | (simp only []; done)) | (simp only []; split <;> rfl))
theorem fr_addText_behind (s : TS) (l : Str) : (addText s l).behind = s.behind := by
  first
  | rfl
  | (unfold addText; first | rfl | (simp only []; done) | (split <;> first | rfl | (simp only []; done)) | (simp only []; split <;> rfl))
theorem fr_addText_limit (s : TS) (l : Str) : (addText s l).limit = s.limit := by
  first
  | rfl
  | (unfold addText; first | rfl | (simp only []; done) | (split <;> first | rfl | (simp only []; done)) | (simp only []; split <;> rfl))
theorem fr_addText_bytes (s : TS) (l : Str) : (addText s l).bytes = s.bytes := by
  first
  | rfl
  | (unfold addText; first | rfl | (simp only []; done) | (split <;> first | rfl | (simp only []; done)) | (simp only []; split <;> rfl))
theorem fr_addText_closed (s : TS) (l : Str) : (addText s l).closed = s.closed := by
  first
  | rfl
  | (unfold addText; first | rfl | (simp only []; done) | (split <;> first | rfl | (simp only []; done)) | (simp only []; split <;> rfl))
theorem fr_addText_place (s : TS) (l : Str) : (addText s l).place = s.place := by
  first
  | rfl
  | (unfold addText; first | rfl | (simp only []; done) | (split <;> first | rfl | (simp only []; done)) | (simp only []; split <;> rfl))
theorem fr_addText_base (s : TS) (l : Str) : (addText s l).base = s.base := by
  first
  | rfl
  | (unfold addText; first | rfl | (simp only []; done) | (split <;> first | rfl | (simp only []; done)) | (simp only []; split <;> rfl))
theorem fr_addText_declared (s : TS) (l : Str) : (addText s l).declared = s.declared := by
  first
  | rfl
  | (unfold addText; first | rfl | (simp only []; done) | (split <;> first | rfl | (simp only []; done)) | (simp only []; split <;> rfl))
theorem fr_addText_state (s : TS) (l : Str) : (addText s l).state = s.state := by
  first
  | rfl
  | (unfold addText; first | rfl | (simp only []; done) | (split <;> first | rfl | (simp only []; done)) | (simp only []; split <;> rfl))
theorem fr_addText_rback (s : TS) (l : Str) : (addText s l).rback = s.rback := by
  first
  | rfl
  | (unfold addText; first | rfl | (simp only []; done) | (split <;> first | rfl | (simp only []; done)) | (simp only []; split <;> rfl))
theorem fr_addText_rcome (s : TS) (l : Str) : (addText s l).rcome = s.rcome := by
  first
  | rfl
  | (unfold addText; first | rfl | (simp only []; done) | (split <;> first | rfl | (simp only []; done)) | (simp only []; split <;> rfl))
theorem fr_addText_rsix (s : TS) (l : Str) : (addText s l).rsix = s.rsix := by
  first
  | rfl
  | (unfold addText; first | rfl | (simp only []; done) | (split <;> first | rfl | (simp only []; done)) | (simp only []; split <;> rfl))
theorem fr_addText_rdig (s : TS) (l : Str) : (addText s l).rdig = s.rdig := by
  first
  | rfl
  | (unfold addText; first | rfl | (simp only []; done) | (split <;> first | rfl | (simp only []; done)) | (simp only []; split <;> rfl))
theorem fr_addText_rnum (s : TS) (l : Str) : (addText s l).rnum = s.rnum := by
  first
  | rfl
  | (unfold addText; first | rfl | (simp only []; done) | (split <;> first | rfl | (simp only []; done)) | (simp only []; split <;> rfl))
theorem fr_addText_tag (s : TS) (l : Str) : (addText s l).tag = s.tag := by
  first
  | rfl
  | (unfold addText; first | rfl | (simp only []; done) | (split <;> first | rfl | (simp only []; done)) | (simp only []; split <;> rfl))
theorem fr_addToComment_begun (s : TS) (l : Str) : (addToComment s l).begun = s.begun := by
  first
  | rfl
  | (unfold addToComment; first | rfl | (simp only []; done) | (split <;> first | rfl | (simp only []; done)) | (simp only []; split <;> rfl))
theorem fr_addToComment_behind (s : TS) (l : Str) : (addToComment s l).behind = s.behind := by
  first
  | rfl
  | (unfold addToComment; first | rfl | (simp only []; done) | (split <;> first | rfl | (simp only []; done)) | (simp only []; split <;> rfl))
theorem fr_addToComment_limit (s : TS) (l : Str) : (addToComment s l).limit = s.limit := by
  first
  | rfl
  | (unfold addToComment; first | rfl | (simp only []; done) | (split <;> first | rfl | (simp only []; done)) | (simp only []; split <;> rfl))
theorem fr_addToComment_bytes (s : TS) (l : Str) : (addToComment s l).bytes = s.bytes := by
  first
  | rfl
  | (unfold addToComment; first | rfl | (simp only []; done) | (split <;> first | rfl | (simp only []; done)) | (simp only []; split <;> rfl))
theorem fr_addToComment_closed (s : TS) (l : Str) : (addToComment s l).closed = s.closed := by
  first
  | rfl
  | (unfold addToComment; first | rfl | (simp only []; done) | (split <;> first | rfl | (simp only []; done)) | (simp only []; split <;> rfl))
theorem fr_addToComment_place (s : TS) (l : Str) : (addToComment s l).place = s.place := by
  first
  | rfl
  | (unfold addToComment; first | rfl | (simp only []; done) | (split <;> first | rfl | (simp only []; done)) | (simp only []; split <;> rfl))
theorem fr_addToComment_base (s : TS) (l : Str) : (addToComment s l).base = s.base := by
  first
  | rfl
  | (unfold addToComment; first | rfl | (simp only []; done) | (split <;> first | rfl | (simp only []; done)) | (simp only []; split <;> rfl))
theorem fr_addToComment_declared (s : TS) (l : Str) : (addToComment s l).declared = s.declared := by
  first
  | rfl
  | (unfold addToComment; first | rfl | (simp only []; done) | (split <;> first | rfl | (simp only []; done)) | (simp only []; split <;> rfl))
theorem fr_addToComment_state (s : TS) (l : Str) : (addToComment s l).state = s.state := by
  first
  | rfl
  | (unfold addToComment; first | rfl | (simp only []; done) | (split <;> first | rfl | (simp only []; done)) | (simp only []; split <;> rfl))
theorem fr_addToComment_rback (s : TS) (l : Str) : (addToComment s l).rback = s.rback := by
  first
  | rfl
  | (unfold addToComment; first | rfl | (simp only []; done) | (split <;> first | rfl | (simp only []; done)) | (simp only []; split <;> rfl))
theorem fr_addToComment_rcome (s : TS) (l : Str) : (addToComment s l).rcome = s.rcome := by
  first
  | rfl
  | (unfold addToComment; first | rfl | (simp only []; done) | (split <;> first | rfl | (simp only []; done)) | (simp only []; split <;> rfl))
theorem fr_addToComment_rsix (s : TS) (l : Str) : (addToComment s l).rsix = s.rsix := by
  first
  | rfl
  | (unfold addToComment; first | rfl | (simp only []; done) | (split <;> first | rfl | (simp only []; done)) | (simp only []; split <;> rfl))
theorem fr_addToComment_rdig (s : TS) (l : Str) : (addToComment s l).rdig = s.rdig := by
  first
  | rfl
  | (unfold addToComment; first | rfl | (simp only []; done) | (split <;> first | rfl | (simp only []; done)) | (simp only []; split <;> rfl))
theorem fr_addToComment_rnum (s : TS) (l : Str) : (addToComment s l).rnum = s.rnum := by
  first
  | rfl
  | (unfold addToComment; first | rfl | (simp only []; done) | (split <;> first | rfl | (simp only []; done)) | (simp only []; split <;> rfl))
theorem fr_addToComment_tag (s : TS) (l : Str) : (addToComment s l).tag = s.tag := by
  first
  | rfl
  | (unfold addToComment; first | rfl | (simp only []; done) | (split <;> first | rfl | (simp only []; done)) | (simp only []; split <;> rfl))
theorem fr_tellComment_begun (s : TS) : (tellComment s).begun = s.begun := by
  first
  | rfl
  | (unfold tellComment; first | rfl | (simp only [fr_tell_begun]; done) | (split <;> first | rfl | (simp only [fr_tell_begun]; done)) | (simp only [fr_tell_begun]; split <;> rfl))
theorem fr_tellComment_behind (s : TS) : (tellComment s).behind = s.behind := by
  first
  | rfl
  | (unfold tellComment; first | rfl | (simp only [fr_tell_behind]; done) | (split <;> first | rfl | (simp only [fr_tell_behind]; done)) | (simp only [fr_tell_behind]; split <;> rfl))
theorem fr_tellComment_limit (s : TS) : (tellComment s).limit = s.limit := by
  first
  | rfl
  | (unfold tellComment; first | rfl | (simp only [fr_tell_limit]; done) | (split <;> first | rfl | (simp only [fr_tell_limit]; done)) | (simp only [fr_tell_limit]; split <;> rfl))
theorem fr_tellComment_bytes (s : TS) : (tellComment s).bytes = s.bytes := by
  first
  | rfl
  | (unfold tellComment; first | rfl | (simp only [fr_tell_bytes]; done) | (split <;> first | rfl | (simp only [fr_tell_bytes]; done)) | (simp only [fr_tell_bytes]; split <;> rfl))
theorem fr_tellComment_closed (s : TS) : (tellComment s).closed = s.closed := by
  first
  | rfl
  | (unfold tellComment; first | rfl | (simp only [fr_tell_closed]; done) | (split <;> first | rfl | (simp only [fr_tell_closed]; done)) | (simp only [fr_tell_closed]; split <;> rfl))
theorem fr_tellComment_place (s : TS) : (tellComment s).place = s.place := by
  first
  | rfl
  | (unfold tellComment; first | rfl | (simp only [fr_tell_place]; done) | (split <;> first | rfl | (simp only [fr_tell_place]; done)) | (simp only [fr_tell_place]; split <;> rfl))
theorem fr_tellComment_base (s : TS) : (tellComment s).base = s.base := by
  first
  | rfl
  | (unfold tellComment; first | rfl | (simp only [fr_tell_base]; done) | (split <;> first | rfl | (simp only [fr_tell_base]; done)) | (simp only [fr_tell_base]; split <;> rfl))
theorem fr_tellComment_declared (s : TS) : (tellComment s).declared = s.declared := by
  first
  | rfl
  | (unfold tellComment; first | rfl | (simp only [fr_tell_declared]; done) | (split <;> first | rfl | (simp only [fr_tell_declared]; done)) | (simp only [fr_tell_declared]; split <;> rfl))
theorem fr_tellComment_state (s : TS) : (tellComment s).state = s.state := by
  first
  | rfl
  | (unfold tellComment; first | rfl | (simp only [fr_tell_state]; done) | (split <;> first | rfl | (simp only [fr_tell_state]; done)) | (simp only [fr_tell_state]; split <;> rfl))
theorem fr_tellComment_rback (s : TS) : (tellComment s).rback = s.rback := by
  first
  | rfl
  | (unfold tellComment; first | rfl | (simp only [fr_tell_rback]; done) | (split <;> first | rfl | (simp only [fr_tell_rback]; done)) | (simp only [fr_tell_rback]; split <;> rfl))
theorem fr_tellComment_rcome (s : TS) : (tellComment s).rcome = s.rcome := by
  first
  | rfl
  | (unfold tellComment; first | rfl | (simp only [fr_tell_rcome]; done) | (split <;> first | rfl | (simp only [fr_tell_rcome]; done)) | (simp only [fr_tell_rcome]; split <;> rfl))
theorem fr_tellComment_rsix (s : TS) : (tellComment s).rsix = s.rsix := by
  first
  | rfl
  | (unfold tellComment; first | rfl | (simp only [fr_tell_rsix]; done) | (split <;> first | rfl | (simp only [fr_tell_rsix]; done)) | (simp only [fr_tell_rsix]; split <;> rfl))
theorem fr_tellComment_rdig (s : TS) : (tellComment s).rdig = s.rdig := by
  first
  | rfl
  | (unfold tellComment; first | rfl | (simp only [fr_tell_rdig]; done) | (split <;> first | rfl | (simp only [fr_tell_rdig]; done)) | (simp only [fr_tell_rdig]; split <;> rfl))
theorem fr_tellComment_rnum (s : TS) : (tellComment s).rnum = s.rnum := by
  first
  | rfl
  | (unfold tellComment; first | rfl | (simp only [fr_tell_rnum]; done) | (split <;> first | rfl | (simp only [fr_tell_rnum]; done)) | (simp only [fr_tell_rnum]; split <;> rfl))
theorem fr_tellComment_tag (s : TS) : (tellComment s).tag = s.tag := by
  first
  | rfl
  | (unfold tellComment; first | rfl | (simp only [fr_tell_tag]; done) | (split <;> first | rfl | (simp only [fr_tell_tag]; done)) | (simp only [fr_tell_tag]; split <;> rfl))
theorem fr_cutComment_begun (s : TS) : (cutComment s).begun = s.begun := by
  first
  | rfl
  | (unfold cutComment; first | rfl | (simp only [fr_tellComment_begun, fr_wrong_begun]; done) | (split <;> first | rfl | (simp only [fr_tellComment_begun, fr_wrong_begun]; done)) | (simp only [fr_tellComment_begun, fr_wrong_begun]; split <;> rfl))
theorem fr_cutComment_behind (s : TS) : (cutComment s).behind = s.behind := by
  first
  | rfl
  | (unfold cutComment; first | rfl | (simp only [fr_tellComment_behind, fr_wrong_behind]; done) | (split <;> first | rfl | (simp only [fr_tellComment_behind, fr_wrong_behind]; done)) | (simp only [fr_tellComment_behind, fr_wrong_behind]; split <;> rfl))
theorem fr_cutComment_limit (s : TS) : (cutComment s).limit = s.limit := by
  first
  | rfl
  | (unfold cutComment; first | rfl | (simp only [fr_tellComment_limit, fr_wrong_limit]; done) | (split <;> first | rfl | (simp only [fr_tellComment_limit, fr_wrong_limit]; done)) | (simp only [fr_tellComment_limit, fr_wrong_limit]; split <;> rfl))
theorem fr_cutComment_bytes (s : TS) : (cutComment s).bytes = s.bytes := by
  first
  | rfl
  | (unfold cutComment; first | rfl | (simp only [fr_tellComment_bytes, fr_wrong_bytes]; done) | (split <;> first | rfl | (simp only [fr_tellComment_bytes, fr_wrong_bytes]; done)) | (simp only [fr_tellComment_bytes, fr_wrong_bytes]; split <;> rfl))
theorem fr_cutComment_closed (s : TS) : (cutComment s).closed = s.closed := by
  first
  | rfl
  | (unfold cutComment; first | rfl | (simp only [fr_tellComment_closed, fr_wrong_closed]; done) | (split <;> first | rfl | (simp only [fr_tellComment_closed, fr_wrong_closed]; done)) | (simp only [fr_tellComment_closed, fr_wrong_closed]; split <;> rfl))
theorem fr_cutComment_place (s : TS) : (cutComment s).place = s.place := by
  first
  | rfl
  | (unfold cutComment; first | rfl | (simp only [fr_tellComment_place, fr_wrong_place]; done) | (split <;> first | rfl | (simp only [fr_tellComment_place, fr_wrong_place]; done)) | (simp only [fr_tellComment_place, fr_wrong_place]; split <;> rfl))
theorem fr_cutComment_base (s : TS) : (cutComment s).base = s.base := by
  first
  | rfl
  | (unfold cutComment; first | rfl | (simp only [fr_tellComment_base, fr_wrong_base]; done) | (split <;> first | rfl | (simp only [fr_tellComment_base, fr_wrong_base]; done)) | (simp only [fr_tellComment_base, fr_wrong_base]; split <;> rfl))
theorem fr_cutComment_declared (s : TS) : (cutComment s).declared = s.declared := by
  first
  | rfl
  | (unfold cutComment; first | rfl | (simp only [fr_tellComment_declared, fr_wrong_declared]; done) | (split <;> first | rfl | (simp only [fr_tellComment_declared, fr_wrong_declared]; done)) | (simp only [fr_tellComment_declared, fr_wrong_declared]; split <;> rfl))
theorem fr_cutComment_state (s : TS) : (cutComment s).state = s.state := by
  first
  | rfl
  | (unfold cutComment; first | rfl | (simp only [fr_tellComment_state, fr_wrong_state]; done) | (split <;> first | rfl | (simp only [fr_tellComment_state, fr_wrong_state]; done)) | (simp only [fr_tellComment_state, fr_wrong_state]; split <;> rfl))
theorem fr_cutComment_rback (s : TS) : (cutComment s).rback = s.rback := by
  first
  | rfl
  | (unfold cutComment; first | rfl | (simp only [fr_tellComment_rback, fr_wrong_rback]; done) | (split <;> first | rfl | (simp only [fr_tellComment_rback, fr_wrong_rback]; done)) | (simp only [fr_tellComment_rback, fr_wrong_rback]; split <;> rfl))
theorem fr_cutComment_rcome (s : TS) : (cutComment s).rcome = s.rcome := by
  first
  | rfl
  | (unfold cutComment; first | rfl | (simp only [fr_tellComment_rcome, fr_wrong_rcome]; done) | (split <;> first | rfl | (simp only [fr_tellComment_rcome, fr_wrong_rcome]; done)) | (simp only [fr_tellComment_rcome, fr_wrong_rcome]; split <;> rfl))
theorem fr_cutComment_rsix (s : TS) : (cutComment s).rsix = s.rsix := by
  first
  | rfl
  | (unfold cutComment; first | rfl | (simp only [fr_tellComment_rsix, fr_wrong_rsix]; done) | (split <;> first | rfl | (simp only [fr_tellComment_rsix, fr_wrong_rsix]; done)) | (simp only [fr_tellComment_rsix, fr_wrong_rsix]; split <;> rfl))
theorem fr_cutComment_rdig (s : TS) : (cutComment s).rdig = s.rdig := by
  first
  | rfl
  | (unfold cutComment; first | rfl | (simp only [fr_tellComment_rdig, fr_wrong_rdig]; done) | (split <;> first | rfl | (simp only [fr_tellComment_rdig, fr_wrong_rdig]; done)) | (simp only [fr_tellComment_rdig, fr_wrong_rdig]; split <;> rfl))
theorem fr_cutComment_rnum (s : TS) : (cutComment s).rnum = s.rnum := by
  first
  | rfl
  | (unfold cutComment; first | rfl | (simp only [fr_tellComment_rnum, fr_wrong_rnum]; done) | (split <;> first | rfl | (simp only [fr_tellComment_rnum, fr_wrong_rnum]; done)) | (simp only [fr_tellComment_rnum, fr_wrong_rnum]; split <;> rfl))
theorem fr_cutComment_tag (s : TS) : (cutComment s).tag = s.tag := by
  first
  | rfl
  | (unfold cutComment; first | rfl | (simp only [fr_tellComment_tag, fr_wrong_tag]; done) | (split <;> first | rfl | (simp only [fr_tellComment_tag, fr_wrong_tag]; done)) | (simp only [fr_tellComment_tag, fr_wrong_tag]; split <;> rfl))
theorem fr_endComment_begun (s : TS) : (endComment s).begun = s.begun := by
  first
  | rfl
  | (unfold endComment; first | rfl | (simp only [fr_tellComment_begun]; done) | (split <;> first | rfl | (simp only [fr_tellComment_begun]; done)) | (simp only [fr_tellComment_begun]; split <;> rfl))
theorem fr_endComment_behind (s : TS) : (endComment s).behind = s.behind := by
  first
  | rfl
  | (unfold endComment; first | rfl | (simp only [fr_tellComment_behind]; done) | (split <;> first | rfl | (simp only [fr_tellComment_behind]; done)) | (simp only [fr_tellComment_behind]; split <;> rfl))
theorem fr_endComment_limit (s : TS) : (endComment s).limit = s.limit := by
  first
  | rfl
  | (unfold endComment; first | rfl | (simp only [fr_tellComment_limit]; done) | (split <;> first | rfl | (simp only [fr_tellComment_limit]; done)) | (simp only [fr_tellComment_limit]; split <;> rfl))
theorem fr_endComment_bytes (s : TS) : (endComment s).bytes = s.bytes := by
  first
  | rfl
  | (unfold endComment; first | rfl | (simp only [fr_tellComment_bytes]; done) | (split <;> first | rfl | (simp only [fr_tellComment_bytes]; done)) | (simp only [fr_tellComment_bytes]; split <;> rfl))
theorem fr_endComment_closed (s : TS) : (endComment s).closed = s.closed := by
  first
  | rfl
  | (unfold endComment; first | rfl | (simp only [fr_tellComment_closed]; done) | (split <;> first | rfl | (simp only [fr_tellComment_closed]; done)) | (simp only [fr_tellComment_closed]; split <;> rfl))
theorem fr_endComment_place (s : TS) : (endComment s).place = s.place := by
  first
  | rfl
  | (unfold endComment; first | rfl | (simp only [fr_tellComment_place]; done) | (split <;> first | rfl | (simp only [fr_tellComment_place]; done)) | (simp only [fr_tellComment_place]; split <;> rfl))
theorem fr_endComment_base (s : TS) : (endComment s).base = s.base := by
  first
  | rfl
  | (unfold endComment; first | rfl | (simp only [fr_tellComment_base]; done) | (split <;> first | rfl | (simp only [fr_tellComment_base]; done)) | (simp only [fr_tellComment_base]; split <;> rfl))
theorem fr_endComment_declared (s : TS) : (endComment s).declared = s.declared := by
  first
  | rfl
  | (unfold endComment; first | rfl | (simp only [fr_tellComment_declared]; done) | (split <;> first | rfl | (simp only [fr_tellComment_declared]; done)) | (simp only [fr_tellComment_declared]; split <;> rfl))
theorem fr_endComment_rback (s : TS) : (endComment s).rback = s.rback := by
  first
  | rfl
  | (unfold endComment; first | rfl | (simp only [fr_tellComment_rback]; done) | (split <;> first | rfl | (simp only [fr_tellComment_rback]; done)) | (simp only [fr_tellComment_rback]; split <;> rfl))
theorem fr_endComment_rcome (s : TS) : (endComment s).rcome = s.rcome := by
  first
  | rfl
  | (unfold endComment; first | rfl | (simp only [fr_tellComment_rcome]; done) | (split <;> first | rfl | (simp only [fr_tellComment_rcome]; done)) | (simp only [fr_tellComment_rcome]; split <;> rfl))
theorem fr_endComment_rsix (s : TS) : (endComment s).rsix = s.rsix := by
  first
  | rfl
  | (unfold endComment; first | rfl | (simp only [fr_tellComment_rsix]; done) | (split <;> first | rfl | (simp only [fr_tellComment_rsix]; done)) | (simp only [fr_tellComment_rsix]; split <;> rfl))
theorem fr_endComment_rdig (s : TS) : (endComment s).rdig = s.rdig := by
  first
  | rfl
  | (unfold endComment; first | rfl | (simp only [fr_tellComment_rdig]; done) | (split <;> first | rfl | (simp only [fr_tellComment_rdig]; done)) | (simp only [fr_tellComment_rdig]; split <;> rfl))
theorem fr_endComment_rnum (s : TS) : (endComment s).rnum = s.rnum := by
  first
  | rfl
  | (unfold endComment; first | rfl | (simp only [fr_tellComment_rnum]; done) | (split <;> first | rfl | (simp only [fr_tellComment_rnum]; done)) | (simp only [fr_tellComment_rnum]; split <;> rfl))
theorem fr_endComment_tag (s : TS) : (endComment s).tag = s.tag := by
  first
  | rfl
  | (unfold endComment; first | rfl | (simp only [fr_tellComment_tag]; done) | (split <;> first | rfl | (simp only [fr_tellComment_tag]; done)) | (simp only [fr_tellComment_tag]; split <;> rfl))
theorem fr_tellDoctype_begun (s : TS) : (tellDoctype s).begun = s.begun := by
  first
  | rfl
  | (unfold tellDoctype; first | rfl | (simp only [fr_tell_begun]; done) | (split <;> first | rfl | (simp only [fr_tell_begun]; done)) | (simp only [fr_tell_begun]; split <;> rfl))
theorem fr_tellDoctype_behind (s : TS) : (tellDoctype s).behind = s.behind := by
  first
  | rfl
  | (unfold tellDoctype; first | rfl | (simp only [fr_tell_behind]; done) | (split <;> first | rfl | (simp only [fr_tell_behind]; done)) | (simp only [fr_tell_behind]; split <;> rfl))
theorem fr_tellDoctype_limit (s : TS) : (tellDoctype s).limit = s.limit := by
  first
  | rfl
  | (unfold tellDoctype; first | rfl | (simp only [fr_tell_limit]; done) | (split <;> first | rfl | (simp only [fr_tell_limit]; done)) | (simp only [fr_tell_limit]; split <;> rfl))
theorem fr_tellDoctype_bytes (s : TS) : (tellDoctype s).bytes = s.bytes := by
  first
  | rfl
  | (unfold tellDoctype; first | rfl | (simp only [fr_tell_bytes]; done) | (split <;> first | rfl | (simp only [fr_tell_bytes]; done)) | (simp only [fr_tell_bytes]; split <;> rfl))
theorem fr_tellDoctype_closed (s : TS) : (tellDoctype s).closed = s.closed := by
  first
  | rfl
  | (unfold tellDoctype; first | rfl | (simp only [fr_tell_closed]; done) | (split <;> first | rfl | (simp only [fr_tell_closed]; done)) | (simp only [fr_tell_closed]; split <;> rfl))
theorem fr_tellDoctype_place (s : TS) : (tellDoctype s).place = s.place := by
  first
  | rfl
  | (unfold tellDoctype; first | rfl | (simp only [fr_tell_place]; done) | (split <;> first | rfl | (simp only [fr_tell_place]; done)) | (simp only [fr_tell_place]; split <;> rfl))
theorem fr_tellDoctype_base (s : TS) : (tellDoctype s).base = s.base := by
  first
  | rfl
  | (unfold tellDoctype; first | rfl | (simp only [fr_tell_base]; done) | (split <;> first | rfl | (simp only [fr_tell_base]; done)) | (simp only [fr_tell_base]; split <;> rfl))
theorem fr_tellDoctype_declared (s : TS) : (tellDoctype s).declared = s.declared := by
  first
  | rfl
  | (unfold tellDoctype; first | rfl | (simp only [fr_tell_declared]; done) | (split <;> first | rfl | (simp only [fr_tell_declared]; done)) | (simp only [fr_tell_declared]; split <;> rfl))
theorem fr_tellDoctype_state (s : TS) : (tellDoctype s).state = s.state := by
  first
  | rfl
  | (unfold tellDoctype; first | rfl | (simp only [fr_tell_state]; done) | (split <;> first | rfl | (simp only [fr_tell_state]; done)) | (simp only [fr_tell_state]; split <;> rfl))
theorem fr_tellDoctype_rback (s : TS) : (tellDoctype s).rback = s.rback := by
  first
  | rfl
  | (unfold tellDoctype; first | rfl | (simp only [fr_tell_rback]; done) | (split <;> first | rfl | (simp only [fr_tell_rback]; done)) | (simp only [fr_tell_rback]; split <;> rfl))
theorem fr_tellDoctype_rcome (s : TS) : (tellDoctype s).rcome = s.rcome := by
  first
  | rfl
  | (unfold tellDoctype; first | rfl | (simp only [fr_tell_rcome]; done) | (split <;> first | rfl | (simp only [fr_tell_rcome]; done)) | (simp only [fr_tell_rcome]; split <;> rfl))
theorem fr_tellDoctype_rsix (s : TS) : (tellDoctype s).rsix = s.rsix := by
  first
  | rfl
  | (unfold tellDoctype; first | rfl | (simp only [fr_tell_rsix]; done) | (split <;> first | rfl | (simp only [fr_tell_rsix]; done)) | (simp only [fr_tell_rsix]; split <;> rfl))
theorem fr_tellDoctype_rdig (s : TS) : (tellDoctype s).rdig = s.rdig := by
  first
  | rfl
  | (unfold tellDoctype; first | rfl | (simp only [fr_tell_rdig]; done) | (split <;> first | rfl | (simp only [fr_tell_rdig]; done)) | (simp only [fr_tell_rdig]; split <;> rfl))
theorem fr_tellDoctype_rnum (s : TS) : (tellDoctype s).rnum = s.rnum := by
  first
  | rfl
  | (unfold tellDoctype; first | rfl | (simp only [fr_tell_rnum]; done) | (split <;> first | rfl | (simp only [fr_tell_rnum]; done)) | (simp only [fr_tell_rnum]; split <;> rfl))
theorem fr_tellDoctype_tag (s : TS) : (tellDoctype s).tag = s.tag := by
  first
  | rfl
  | (unfold tellDoctype; first | rfl | (simp only [fr_tell_tag]; done) | (split <;> first | rfl | (simp only [fr_tell_tag]; done)) | (simp only [fr_tell_tag]; split <;> rfl))
theorem fr_cutDoctype_begun (s : TS) : (cutDoctype s).begun = s.begun := by
  first
  | rfl
  | (unfold cutDoctype; first | rfl | (simp only [fr_tellDoctype_begun, fr_wrong_begun]; done) | (split <;> first | rfl | (simp only [fr_tellDoctype_begun, fr_wrong_begun]; done)) | (simp only [fr_tellDoctype_begun, fr_wrong_begun]; split <;> rfl))
theorem fr_cutDoctype_behind (s : TS) : (cutDoctype s).behind = s.behind := by
  first
  | rfl
  | (unfold cutDoctype; first | rfl | (simp only [fr_tellDoctype_behind, fr_wrong_behind]; done) | (split <;> first | rfl | (simp only [fr_tellDoctype_behind, fr_wrong_behind]; done)) | (simp only [fr_tellDoctype_behind, fr_wrong_behind]; split <;> rfl))
theorem fr_cutDoctype_limit (s : TS) : (cutDoctype s).limit = s.limit := by
  first
  | rfl
  | (unfold cutDoctype; first | rfl | (simp only [fr_tellDoctype_limit, fr_wrong_limit]; done) | (split <;> first | rfl | (simp only [fr_tellDoctype_limit, fr_wrong_limit]; done)) | (simp only [fr_tellDoctype_limit, fr_wrong_limit]; split <;> rfl))
theorem fr_cutDoctype_bytes (s : TS) : (cutDoctype s).bytes = s.bytes := by
  first
  | rfl
  | (unfold cutDoctype; first | rfl | (simp only [fr_tellDoctype_bytes, fr_wrong_bytes]; done) | (split <;> first | rfl | (simp only [fr_tellDoctype_bytes, fr_wrong_bytes]; done)) | (simp only [fr_tellDoctype_bytes, fr_wrong_bytes]; split <;> rfl))
theorem fr_cutDoctype_closed (s : TS) : (cutDoctype s).closed = s.closed := by
  first
  | rfl
  | (unfold cutDoctype; first | rfl | (simp only [fr_tellDoctype_closed, fr_wrong_closed]; done) | (split <;> first | rfl | (simp only [fr_tellDoctype_closed, fr_wrong_closed]; done)) | (simp only [fr_tellDoctype_closed, fr_wrong_closed]; split <;> rfl))
theorem fr_cutDoctype_place (s : TS) : (cutDoctype s).place = s.place := by
  first
  | rfl
  | (unfold cutDoctype; first | rfl | (simp only [fr_tellDoctype_place, fr_wrong_place]; done) | (split <;> first | rfl | (simp only [fr_tellDoctype_place, fr_wrong_place]; done)) | (simp only [fr_tellDoctype_place, fr_wrong_place]; split <;> rfl))
theorem fr_cutDoctype_base (s : TS) : (cutDoctype s).base = s.base := by
  first
  | rfl
  | (unfold cutDoctype; first | rfl | (simp only [fr_tellDoctype_base, fr_wrong_base]; done) | (split <;> first | rfl | (simp only [fr_tellDoctype_base, fr_wrong_base]; done)) | (simp only [fr_tellDoctype_base, fr_wrong_base]; split <;> rfl))
theorem fr_cutDoctype_declared (s : TS) : (cutDoctype s).declared = s.declared := by
  first
  | rfl
  | (unfold cutDoctype; first | rfl | (simp only [fr_tellDoctype_declared, fr_wrong_declared]; done) | (split <;> first | rfl | (simp only [fr_tellDoctype_declared, fr_wrong_declared]; done)) | (simp only [fr_tellDoctype_declared, fr_wrong_declared]; split <;> rfl))
theorem fr_cutDoctype_state (s : TS) : (cutDoctype s).state = s.state := by
  first
  | rfl
  | (unfold cutDoctype; first | rfl | (simp only [fr_tellDoctype_state, fr_wrong_state]; done) | (split <;> first | rfl | (simp only [fr_tellDoctype_state, fr_wrong_state]; done)) | (simp only [fr_tellDoctype_state, fr_wrong_state]; split <;> rfl))
theorem fr_cutDoctype_rback (s : TS) : (cutDoctype s).rback = s.rback := by
  first
  | rfl
  | (unfold cutDoctype; first | rfl | (simp only [fr_tellDoctype_rback, fr_wrong_rback]; done) | (split <;> first | rfl | (simp only [fr_tellDoctype_rback, fr_wrong_rback]; done)) | (simp only [fr_tellDoctype_rback, fr_wrong_rback]; split <;> rfl))
theorem fr_cutDoctype_rcome (s : TS) : (cutDoctype s).rcome = s.rcome := by
  first
  | rfl
  | (unfold cutDoctype; first | rfl | (simp only [fr_tellDoctype_rcome, fr_wrong_rcome]; done) | (split <;> first | rfl | (simp only [fr_tellDoctype_rcome, fr_wrong_rcome]; done)) | (simp only [fr_tellDoctype_rcome, fr_wrong_rcome]; split <;> rfl))
theorem fr_cutDoctype_rsix (s : TS) : (cutDoctype s).rsix = s.rsix := by
  first
  | rfl
  | (unfold cutDoctype; first | rfl | (simp only [fr_tellDoctype_rsix, fr_wrong_rsix]; done) | (split <;> first | rfl | (simp only [fr_tellDoctype_rsix, fr_wrong_rsix]; done)) | (simp only [fr_tellDoctype_rsix, fr_wrong_rsix]; split <;> rfl))
theorem fr_cutDoctype_rdig (s : TS) : (cutDoctype s).rdig = s.rdig := by
  first
  | rfl
  | (unfold cutDoctype; first | rfl | (simp only [fr_tellDoctype_rdig, fr_wrong_rdig]; done) | (split <;> first | rfl | (simp only [fr_tellDoctype_rdig, fr_wrong_rdig]; done)) | (simp only [fr_tellDoctype_rdig, fr_wrong_rdig]; split <;> rfl))
theorem fr_cutDoctype_rnum (s : TS) : (cutDoctype s).rnum = s.rnum := by
  first
  | rfl
  | (unfold cutDoctype; first | rfl | (simp only [fr_tellDoctype_rnum, fr_wrong_rnum]; done) | (split <;> first | rfl | (simp only [fr_tellDoctype_rnum, fr_wrong_rnum]; done)) | (simp only [fr_tellDoctype_rnum, fr_wrong_rnum]; split <;> rfl))
theorem fr_cutDoctype_tag (s : TS) : (cutDoctype s).tag = s.tag := by
  first
  | rfl
  | (unfold cutDoctype; first | rfl | (simp only [fr_tellDoctype_tag, fr_wrong_tag]; done) | (split <;> first | rfl | (simp only [fr_tellDoctype_tag, fr_wrong_tag]; done)) | (simp only [fr_tellDoctype_tag, fr_wrong_tag]; split <;> rfl))
theorem fr_endDoctype_begun (s : TS) : (endDoctype s).begun = s.begun := by
  first
  | rfl
  | (unfold endDoctype; first | rfl | (simp only [fr_tellDoctype_begun]; done) | (split <;> first | rfl | (simp only [fr_tellDoctype_begun]; done)) | (simp only [fr_tellDoctype_begun]; split <;> rfl))
theorem fr_endDoctype_behind (s : TS) : (endDoctype s).behind = s.behind := by
  first
  | rfl
  | (unfold endDoctype; first | rfl | (simp only [fr_tellDoctype_behind]; done) | (split <;> first | rfl | (simp only [fr_tellDoctype_behind]; done)) | (simp only [fr_tellDoctype_behind]; split <;> rfl))
theorem fr_endDoctype_limit (s : TS) : (endDoctype s).limit = s.limit := by
  first
  | rfl
  | (unfold endDoctype; first | rfl | (simp only [fr_tellDoctype_limit]; done) | (split <;> first | rfl | (simp only [fr_tellDoctype_limit]; done)) | (simp only [fr_tellDoctype_limit]; split <;> rfl))
theorem fr_endDoctype_bytes (s : TS) : (endDoctype s).bytes = s.bytes := by
  first
  | rfl
  | (unfold endDoctype; first | rfl | (simp only [fr_tellDoctype_bytes]; done) | (split <;> first | rfl | (simp only [fr_tellDoctype_bytes]; done)) | (simp only [fr_tellDoctype_bytes]; split <;> rfl))
theorem fr_endDoctype_closed (s : TS) : (endDoctype s).closed = s.closed := by
  first
  | rfl
  | (unfold endDoctype; first | rfl | (simp only [fr_tellDoctype_closed]; done) | (split <;> first | rfl | (simp only [fr_tellDoctype_closed]; done)) | (simp only [fr_tellDoctype_closed]; split <;> rfl))
theorem fr_endDoctype_place (s : TS) : (endDoctype s).place = s.place := by
  first
  | rfl
  | (unfold endDoctype; first | rfl | (simp only [fr_tellDoctype_place]; done) | (split <;> first | rfl | (simp only [fr_tellDoctype_place]; done)) | (simp only [fr_tellDoctype_place]; split <;> rfl))
theorem fr_endDoctype_base (s : TS) : (endDoctype s).base = s.base := by
  first
  | rfl
  | (unfold endDoctype; first | rfl | (simp only [fr_tellDoctype_base]; done) | (split <;> first | rfl | (simp only [fr_tellDoctype_base]; done)) | (simp only [fr_tellDoctype_base]; split <;> rfl))
theorem fr_endDoctype_declared (s : TS) : (endDoctype s).declared = s.declared := by
  first
  | rfl
  | (unfold endDoctype; first | rfl | (simp only [fr_tellDoctype_declared]; done) | (split <;> first | rfl | (simp only [fr_tellDoctype_declared]; done)) | (simp only [fr_tellDoctype_declared]; split <;> rfl))
theorem fr_endDoctype_rback (s : TS) : (endDoctype s).rback = s.rback := by
  first
  | rfl
  | (unfold endDoctype; first | rfl | (simp only [fr_tellDoctype_rback]; done) | (split <;> first | rfl | (simp only [fr_tellDoctype_rback]; done)) | (simp only [fr_tellDoctype_rback]; split <;> rfl))
theorem fr_endDoctype_rcome (s : TS) : (endDoctype s).rcome = s.rcome := by
  first
  | rfl
  | (unfold endDoctype; first | rfl | (simp only [fr_tellDoctype_rcome]; done) | (split <;> first | rfl | (simp only [fr_tellDoctype_rcome]; done)) | (simp only [fr_tellDoctype_rcome]; split <;> rfl))
theorem fr_endDoctype_rsix (s : TS) : (endDoctype s).rsix = s.rsix := by
  first
  | rfl
  | (unfold endDoctype; first | rfl | (simp only [fr_tellDoctype_rsix]; done) | (split <;> first | rfl | (simp only [fr_tellDoctype_rsix]; done)) | (simp only [fr_tellDoctype_rsix]; split <;> rfl))
theorem fr_endDoctype_rdig (s : TS) : (endDoctype s).rdig = s.rdig := by
  first
  | rfl
  | (unfold endDoctype; first | rfl | (simp only [fr_tellDoctype_rdig]; done) | (split <;> first | rfl | (simp only [fr_tellDoctype_rdig]; done)) | (simp only [fr_tellDoctype_rdig]; split <;> rfl))
theorem fr_endDoctype_rnum (s : TS) : (endDoctype s).rnum = s.rnum := by
  first
  | rfl
  | (unfold endDoctype; first | rfl | (simp only [fr_tellDoctype_rnum]; done) | (split <;> first | rfl | (simp only [fr_tellDoctype_rnum]; done)) | (simp only [fr_tellDoctype_rnum]; split <;> rfl))
theorem fr_endDoctype_tag (s : TS) : (endDoctype s).tag = s.tag := by
  first
  | rfl
  | (unfold endDoctype; first | rfl | (simp only [fr_tellDoctype_tag]; done) | (split <;> first | rfl | (simp only [fr_tellDoctype_tag]; done)) | (simp only [fr_tellDoctype_tag]; split <;> rfl))
theorem fr_addToKind_begun (s : TS) (c : Int) : (addToKind s c).begun = s.begun := by
  first
  | rfl
  | (unfold addToKind; first | rfl | (simp only [fr_withoutNul_begun]; done) | (split <;> first | rfl | (simp only [fr_withoutNul_begun]; done)) | (simp only [fr_withoutNul_begun]; split <;> rfl))
theorem fr_addToKind_behind (s : TS) (c : Int) : (addToKind s c).behind = s.behind := by
  first
  | rfl
  | (unfold addToKind; first | rfl | (simp only [fr_withoutNul_behind]; done) | (split <;> first | rfl | (simp only [fr_withoutNul_behind]; done)) | (simp only [fr_withoutNul_behind]; split <;> rfl))
theorem fr_addToKind_limit (s : TS) (c : Int) : (addToKind s c).limit = s.limit := by
  first
  | rfl
  | (unfold addToKind; first | rfl | (simp only [fr_withoutNul_limit]; done) | (split <;> first | rfl | (simp only [fr_withoutNul_limit]; done)) | (simp only [fr_withoutNul_limit]; split <;> rfl))
theorem fr_addToKind_bytes (s : TS) (c : Int) : (addToKind s c).bytes = s.bytes := by
  first
  | rfl
  | (unfold addToKind; first | rfl | (simp only [fr_withoutNul_bytes]; done) | (split <;> first | rfl | (simp only [fr_withoutNul_bytes]; done)) | (simp only [fr_withoutNul_bytes]; split <;> rfl))
theorem fr_addToKind_closed (s : TS) (c : Int) : (addToKind s c).closed = s.closed := by
  first
  | rfl
  | (unfold addToKind; first | rfl | (simp only [fr_withoutNul_closed]; done) | (split <;> first | rfl | (simp only [fr_withoutNul_closed]; done)) | (simp only [fr_withoutNul_closed]; split <;> rfl))
theorem fr_addToKind_place (s : TS) (c : Int) : (addToKind s c).place = s.place := by
  first
  | rfl
  | (unfold addToKind; first | rfl | (simp only [fr_withoutNul_place]; done) | (split <;> first | rfl | (simp only [fr_withoutNul_place]; done)) | (simp only [fr_withoutNul_place]; split <;> rfl))
theorem fr_addToKind_base (s : TS) (c : Int) : (addToKind s c).base = s.base := by
  first
  | rfl
  | (unfold addToKind; first | rfl | (simp only [fr_withoutNul_base]; done) | (split <;> first | rfl | (simp only [fr_withoutNul_base]; done)) | (simp only [fr_withoutNul_base]; split <;> rfl))
theorem fr_addToKind_declared (s : TS) (c : Int) : (addToKind s c).declared = s.declared := by
  first
  | rfl
  | (unfold addToKind; first | rfl | (simp only [fr_withoutNul_declared]; done) | (split <;> first | rfl | (simp only [fr_withoutNul_declared]; done)) | (simp only [fr_withoutNul_declared]; split <;> rfl))
theorem fr_addToKind_state (s : TS) (c : Int) : (addToKind s c).state = s.state := by
  first
  | rfl
  | (unfold addToKind; first | rfl | (simp only [fr_withoutNul_state]; done) | (split <;> first | rfl | (simp only [fr_withoutNul_state]; done)) | (simp only [fr_withoutNul_state]; split <;> rfl))
theorem fr_addToKind_rback (s : TS) (c : Int) : (addToKind s c).rback = s.rback := by
  first
  | rfl
  | (unfold addToKind; first | rfl | (simp only [fr_withoutNul_rback]; done) | (split <;> first | rfl | (simp only [fr_withoutNul_rback]; done)) | (simp only [fr_withoutNul_rback]; split <;> rfl))
theorem fr_addToKind_rcome (s : TS) (c : Int) : (addToKind s c).rcome = s.rcome := by
  first
  | rfl
  | (unfold addToKind; first | rfl | (simp only [fr_withoutNul_rcome]; done) | (split <;> first | rfl | (simp only [fr_withoutNul_rcome]; done)) | (simp only [fr_withoutNul_rcome]; split <;> rfl))
theorem fr_addToKind_rsix (s : TS) (c : Int) : (addToKind s c).rsix = s.rsix := by
  first
  | rfl
  | (unfold addToKind; first | rfl | (simp only [fr_withoutNul_rsix]; done) | (split <;> first | rfl | (simp only [fr_withoutNul_rsix]; done)) | (simp only [fr_withoutNul_rsix]; split <;> rfl))
theorem fr_addToKind_rdig (s : TS) (c : Int) : (addToKind s c).rdig = s.rdig := by
  first
  | rfl
  | (unfold addToKind; first | rfl | (simp only [fr_withoutNul_rdig]; done) | (split <;> first | rfl | (simp only [fr_withoutNul_rdig]; done)) | (simp only [fr_withoutNul_rdig]; split <;> rfl))
theorem fr_addToKind_rnum (s : TS) (c : Int) : (addToKind s c).rnum = s.rnum := by
  first
  | rfl
  | (unfold addToKind; first | rfl | (simp only [fr_withoutNul_rnum]; done) | (split <;> first | rfl | (simp only [fr_withoutNul_rnum]; done)) | (simp only [fr_withoutNul_rnum]; split <;> rfl))
theorem fr_addToKind_tag (s : TS) (c : Int) : (addToKind s c).tag = s.tag := by
  first
  | rfl
  | (unfold addToKind; first | rfl | (simp only [fr_withoutNul_tag]; done) | (split <;> first | rfl | (simp only [fr_withoutNul_tag]; done)) | (simp only [fr_withoutNul_tag]; split <;> rfl))
theorem fr_putComment_begun (s : TS) (c : Int) : (putComment s c).begun = s.begun := by
  first
  | rfl
  | (unfold putComment; first | rfl | (simp only [fr_withoutNul_begun, fr_addToComment_begun]; done) | (split <;> first | rfl | (simp only [fr_withoutNul_begun, fr_addToComment_begun]; done)) | (simp only [fr_withoutNul_begun, fr_addToComment_begun]; split <;> rfl))
theorem fr_putComment_behind (s : TS) (c : Int) : (putComment s c).behind = s.behind := by
  first
  | rfl
  | (unfold putComment; first | rfl | (simp only [fr_withoutNul_behind, fr_addToComment_behind]; done) | (split <;> first | rfl | (simp only [fr_withoutNul_behind, fr_addToComment_behind]; done)) | (simp only [fr_withoutNul_behind, fr_addToComment_behind]; split <;> rfl))
theorem fr_putComment_limit (s : TS) (c : Int) : (putComment s c).limit = s.limit := by
  first
  | rfl
  | (unfold putComment; first | rfl | (simp only [fr_withoutNul_limit, fr_addToComment_limit]; done) | (split <;> first | rfl | (simp only [fr_withoutNul_limit, fr_addToComment_limit]; done)) | (simp only [fr_withoutNul_limit, fr_addToComment_limit]; split <;> rfl))
theorem fr_putComment_bytes (s : TS) (c : Int) : (putComment s c).bytes = s.bytes := by
  first
  | rfl
  | (unfold putComment; first | rfl | (simp only [fr_withoutNul_bytes, fr_addToComment_bytes]; done) | (split <;> first | rfl | (simp only [fr_withoutNul_bytes, fr_addToComment_bytes]; done)) | (simp only [fr_withoutNul_bytes, fr_addToComment_bytes]; split <;> rfl))
theorem fr_putComment_closed (s : TS) (c : Int) : (putComment s c).closed = s.closed := by
  first
  | rfl
  | (unfold putComment; first | rfl | (simp only [fr_withoutNul_closed, fr_addToComment_closed]; done) | (split <;> first | rfl | (simp only [fr_withoutNul_closed, fr_addToComment_closed]; done)) | (simp only [fr_withoutNul_closed, fr_addToComment_closed]; split <;> rfl))
theorem fr_putComment_place (s : TS) (c : Int) : (putComment s c).place = s.place := by
  first
  | rfl
  | (unfold putComment; first | rfl | (simp only [fr_withoutNul_place, fr_addToComment_place]; done) | (split <;> first | rfl | (simp only [fr_withoutNul_place, fr_addToComment_place]; done)) | (simp only [fr_withoutNul_place, fr_addToComment_place]; split <;> rfl))
theorem fr_putComment_base (s : TS) (c : Int) : (putComment s c).base = s.base := by
  first
  | rfl
  | (unfold putComment; first | rfl | (simp only [fr_withoutNul_base, fr_addToComment_base]; done) | (split <;> first | rfl | (simp only [fr_withoutNul_base, fr_addToComment_base]; done)) | (simp only [fr_withoutNul_base, fr_addToComment_base]; split <;> rfl))
theorem fr_putComment_declared (s : TS) (c : Int) : (putComment s c).declared = s.declared := by
  first
  | rfl
  | (unfold putComment; first | rfl | (simp only [fr_withoutNul_declared, fr_addToComment_declared]; done) | (split <;> first | rfl | (simp only [fr_withoutNul_declared, fr_addToComment_declared]; done)) | (simp only [fr_withoutNul_declared, fr_addToComment_declared]; split <;> rfl))
theorem fr_putComment_state (s : TS) (c : Int) : (putComment s c).state = s.state := by
  first
  | rfl
  | (unfold putComment; first | rfl | (simp only [fr_withoutNul_state, fr_addToComment_state]; done) | (split <;> first | rfl | (simp only [fr_withoutNul_state, fr_addToComment_state]; done)) | (simp only [fr_withoutNul_state, fr_addToComment_state]; split <;> rfl))
theorem fr_putComment_rback (s : TS) (c : Int) : (putComment s c).rback = s.rback := by
  first
  | rfl
  | (unfold putComment; first | rfl | (simp only [fr_withoutNul_rback, fr_addToComment_rback]; done) | (split <;> first | rfl | (simp only [fr_withoutNul_rback, fr_addToComment_rback]; done)) | (simp only [fr_withoutNul_rback, fr_addToComment_rback]; split <;> rfl))
theorem fr_putComment_rcome (s : TS) (c : Int) : (putComment s c).rcome = s.rcome := by
  first
  | rfl
  | (unfold putComment; first | rfl | (simp only [fr_withoutNul_rcome, fr_addToComment_rcome]; done) | (split <;> first | rfl | (simp only [fr_withoutNul_rcome, fr_addToComment_rcome]; done)) | (simp only [fr_withoutNul_rcome, fr_addToComment_rcome]; split <;> rfl))
theorem fr_putComment_rsix (s : TS) (c : Int) : (putComment s c).rsix = s.rsix := by
  first
  | rfl
  | (unfold putComment; first | rfl | (simp only [fr_withoutNul_rsix, fr_addToComment_rsix]; done) | (split <;> first | rfl | (simp only [fr_withoutNul_rsix, fr_addToComment_rsix]; done)) | (simp only [fr_withoutNul_rsix, fr_addToComment_rsix]; split <;> rfl))
theorem fr_putComment_rdig (s : TS) (c : Int) : (putComment s c).rdig = s.rdig := by
  first
  | rfl
  | (unfold putComment; first | rfl | (simp only [fr_withoutNul_rdig, fr_addToComment_rdig]; done) | (split <;> first | rfl | (simp only [fr_withoutNul_rdig, fr_addToComment_rdig]; done)) | (simp only [fr_withoutNul_rdig, fr_addToComment_rdig]; split <;> rfl))
theorem fr_putComment_rnum (s : TS) (c : Int) : (putComment s c).rnum = s.rnum := by
  first
  | rfl
  | (unfold putComment; first | rfl | (simp only [fr_withoutNul_rnum, fr_addToComment_rnum]; done) | (split <;> first | rfl | (simp only [fr_withoutNul_rnum, fr_addToComment_rnum]; done)) | (simp only [fr_withoutNul_rnum, fr_addToComment_rnum]; split <;> rfl))
theorem fr_putComment_tag (s : TS) (c : Int) : (putComment s c).tag = s.tag := by
  first
  | rfl
  | (unfold putComment; first | rfl | (simp only [fr_withoutNul_tag, fr_addToComment_tag]; done) | (split <;> first | rfl | (simp only [fr_withoutNul_tag, fr_addToComment_tag]; done)) | (simp only [fr_withoutNul_tag, fr_addToComment_tag]; split <;> rfl))
theorem fr_putText_begun (s : TS) (c : Int) : (putText s c).begun = s.begun := by
  first
  | rfl
  | (unfold putText; first | rfl | (simp only [fr_withoutNul_begun]; done) | (split <;> first | rfl | (simp only [fr_withoutNul_begun]; done)) | (simp only [fr_withoutNul_begun]; split <;> rfl))
theorem fr_putText_behind (s : TS) (c : Int) : (putText s c).behind = s.behind := by
  first
  | rfl
  | (unfold putText; first | rfl | (simp only [fr_withoutNul_behind]; done) | (split <;> first | rfl | (simp only [fr_withoutNul_behind]; done)) | (simp only [fr_withoutNul_behind]; split <;> rfl))
theorem fr_putText_limit (s : TS) (c : Int) : (putText s c).limit = s.limit := by
  first
  | rfl
  | (unfold putText; first | rfl | (simp only [fr_withoutNul_limit]; done) | (split <;> first | rfl | (simp only [fr_withoutNul_limit]; done)) | (simp only [fr_withoutNul_limit]; split <;> rfl))
theorem fr_putText_bytes (s : TS) (c : Int) : (putText s c).bytes = s.bytes := by
  first
  | rfl
  | (unfold putText; first | rfl | (simp only [fr_withoutNul_bytes]; done) | (split <;> first | rfl | (simp only [fr_withoutNul_bytes]; done)) | (simp only [fr_withoutNul_bytes]; split <;> rfl))
theorem fr_putText_closed (s : TS) (c : Int) : (putText s c).closed = s.closed := by
  first
  | rfl
  | (unfold putText; first | rfl | (simp only [fr_withoutNul_closed]; done) | (split <;> first | rfl | (simp only [fr_withoutNul_closed]; done)) | (simp only [fr_withoutNul_closed]; split <;> rfl))
theorem fr_putText_place (s : TS) (c : Int) : (putText s c).place = s.place := by
  first
  | rfl
  | (unfold putText; first | rfl | (simp only [fr_withoutNul_place]; done) | (split <;> first | rfl | (simp only [fr_withoutNul_place]; done)) | (simp only [fr_withoutNul_place]; split <;> rfl))
theorem fr_putText_base (s : TS) (c : Int) : (putText s c).base = s.base := by
  first
  | rfl
  | (unfold putText; first | rfl | (simp only [fr_withoutNul_base]; done) | (split <;> first | rfl | (simp only [fr_withoutNul_base]; done)) | (simp only [fr_withoutNul_base]; split <;> rfl))
theorem fr_putText_declared (s : TS) (c : Int) : (putText s c).declared = s.declared := by
  first
  | rfl
  | (unfold putText; first | rfl | (simp only [fr_withoutNul_declared]; done) | (split <;> first | rfl | (simp only [fr_withoutNul_declared]; done)) | (simp only [fr_withoutNul_declared]; split <;> rfl))
theorem fr_putText_state (s : TS) (c : Int) : (putText s c).state = s.state := by
  first
  | rfl
  | (unfold putText; first | rfl | (simp only [fr_withoutNul_state]; done) | (split <;> first | rfl | (simp only [fr_withoutNul_state]; done)) | (simp only [fr_withoutNul_state]; split <;> rfl))
theorem fr_putText_rback (s : TS) (c : Int) : (putText s c).rback = s.rback := by
  first
  | rfl
  | (unfold putText; first | rfl | (simp only [fr_withoutNul_rback]; done) | (split <;> first | rfl | (simp only [fr_withoutNul_rback]; done)) | (simp only [fr_withoutNul_rback]; split <;> rfl))
theorem fr_putText_rcome (s : TS) (c : Int) : (putText s c).rcome = s.rcome := by
  first
  | rfl
  | (unfold putText; first | rfl | (simp only [fr_withoutNul_rcome]; done) | (split <;> first | rfl | (simp only [fr_withoutNul_rcome]; done)) | (simp only [fr_withoutNul_rcome]; split <;> rfl))
theorem fr_putText_rsix (s : TS) (c : Int) : (putText s c).rsix = s.rsix := by
  first
  | rfl
  | (unfold putText; first | rfl | (simp only [fr_withoutNul_rsix]; done) | (split <;> first | rfl | (simp only [fr_withoutNul_rsix]; done)) | (simp only [fr_withoutNul_rsix]; split <;> rfl))
theorem fr_putText_rdig (s : TS) (c : Int) : (putText s c).rdig = s.rdig := by
  first
  | rfl
  | (unfold putText; first | rfl | (simp only [fr_withoutNul_rdig]; done) | (split <;> first | rfl | (simp only [fr_withoutNul_rdig]; done)) | (simp only [fr_withoutNul_rdig]; split <;> rfl))
theorem fr_putText_rnum (s : TS) (c : Int) : (putText s c).rnum = s.rnum := by
  first
  | rfl
  | (unfold putText; first | rfl | (simp only [fr_withoutNul_rnum]; done) | (split <;> first | rfl | (simp only [fr_withoutNul_rnum]; done)) | (simp only [fr_withoutNul_rnum]; split <;> rfl))
theorem fr_putText_tag (s : TS) (c : Int) : (putText s c).tag = s.tag := by
  first
  | rfl
  | (unfold putText; first | rfl | (simp only [fr_withoutNul_tag]; done) | (split <;> first | rfl | (simp only [fr_withoutNul_tag]; done)) | (simp only [fr_withoutNul_tag]; split <;> rfl))
theorem fr_putTag_begun (s : TS) (c : Int) : (putTag s c).begun = s.begun := by
  first
  | rfl
  | (unfold putTag; first | rfl | (simp only [fr_withoutNul_begun]; done) | (split <;> first | rfl | (simp only [fr_withoutNul_begun]; done)) | (simp only [fr_withoutNul_begun]; split <;> rfl))
theorem fr_putTag_behind (s : TS) (c : Int) : (putTag s c).behind = s.behind := by
  first
  | rfl
  | (unfold putTag; first | rfl | (simp only [fr_withoutNul_behind]; done) | (split <;> first | rfl | (simp only [fr_withoutNul_behind]; done)) | (simp only [fr_withoutNul_behind]; split <;> rfl))
theorem fr_putTag_limit (s : TS) (c : Int) : (putTag s c).limit = s.limit := by
  first
  | rfl
  | (unfold putTag; first | rfl | (simp only [fr_withoutNul_limit]; done) | (split <;> first | rfl | (simp only [fr_withoutNul_limit]; done)) | (simp only [fr_withoutNul_limit]; split <;> rfl))
theorem fr_putTag_bytes (s : TS) (c : Int) : (putTag s c).bytes = s.bytes := by
  first
  | rfl
  | (unfold putTag; first | rfl | (simp only [fr_withoutNul_bytes]; done) | (split <;> first | rfl | (simp only [fr_withoutNul_bytes]; done)) | (simp only [fr_withoutNul_bytes]; split <;> rfl))
theorem fr_putTag_closed (s : TS) (c : Int) : (putTag s c).closed = s.closed := by
  first
  | rfl
  | (unfold putTag; first | rfl | (simp only [fr_withoutNul_closed]; done) | (split <;> first | rfl | (simp only [fr_withoutNul_closed]; done)) | (simp only [fr_withoutNul_closed]; split <;> rfl))
theorem fr_putTag_place (s : TS) (c : Int) : (putTag s c).place = s.place := by
  first
  | rfl
  | (unfold putTag; first | rfl | (simp only [fr_withoutNul_place]; done) | (split <;> first | rfl | (simp only [fr_withoutNul_place]; done)) | (simp only [fr_withoutNul_place]; split <;> rfl))
theorem fr_putTag_base (s : TS) (c : Int) : (putTag s c).base = s.base := by
  first
  | rfl
  | (unfold putTag; first | rfl | (simp only [fr_withoutNul_base]; done) | (split <;> first | rfl | (simp only [fr_withoutNul_base]; done)) | (simp only [fr_withoutNul_base]; split <;> rfl))
theorem fr_putTag_declared (s : TS) (c : Int) : (putTag s c).declared = s.declared := by
  first
  | rfl
  | (unfold putTag; first | rfl | (simp only [fr_withoutNul_declared]; done) | (split <;> first | rfl | (simp only [fr_withoutNul_declared]; done)) | (simp only [fr_withoutNul_declared]; split <;> rfl))
theorem fr_putTag_state (s : TS) (c : Int) : (putTag s c).state = s.state := by
  first
  | rfl
  | (unfold putTag; first | rfl | (simp only [fr_withoutNul_state]; done) | (split <;> first | rfl | (simp only [fr_withoutNul_state]; done)) | (simp only [fr_withoutNul_state]; split <;> rfl))
theorem fr_putTag_rback (s : TS) (c : Int) : (putTag s c).rback = s.rback := by
  first
  | rfl
  | (unfold putTag; first | rfl | (simp only [fr_withoutNul_rback]; done) | (split <;> first | rfl | (simp only [fr_withoutNul_rback]; done)) | (simp only [fr_withoutNul_rback]; split <;> rfl))
theorem fr_putTag_rcome (s : TS) (c : Int) : (putTag s c).rcome = s.rcome := by
  first
  | rfl
  | (unfold putTag; first | rfl | (simp only [fr_withoutNul_rcome]; done) | (split <;> first | rfl | (simp only [fr_withoutNul_rcome]; done)) | (simp only [fr_withoutNul_rcome]; split <;> rfl))
theorem fr_putTag_rsix (s : TS) (c : Int) : (putTag s c).rsix = s.rsix := by
  first
  | rfl
  | (unfold putTag; first | rfl | (simp only [fr_withoutNul_rsix]; done) | (split <;> first | rfl | (simp only [fr_withoutNul_rsix]; done)) | (simp only [fr_withoutNul_rsix]; split <;> rfl))
theorem fr_putTag_rdig (s : TS) (c : Int) : (putTag s c).rdig = s.rdig := by
  first
  | rfl
  | (unfold putTag; first | rfl | (simp only [fr_withoutNul_rdig]; done) | (split <;> first | rfl | (simp only [fr_withoutNul_rdig]; done)) | (simp only [fr_withoutNul_rdig]; split <;> rfl))
theorem fr_putTag_rnum (s : TS) (c : Int) : (putTag s c).rnum = s.rnum := by
  first
  | rfl
  | (unfold putTag; first | rfl | (simp only [fr_withoutNul_rnum]; done) | (split <;> first | rfl | (simp only [fr_withoutNul_rnum]; done)) | (simp only [fr_withoutNul_rnum]; split <;> rfl))
theorem fr_addToName_begun (s : TS) (c : Int) : (addToName s c).begun = s.begun := by
  first
  | rfl
  | (unfold addToName; first | rfl | (simp only []; done) | (split <;> first | rfl | (simp only []; done)) | (simp only []; split <;> rfl))
theorem fr_addToName_behind (s : TS) (c : Int) : (addToName s c).behind = s.behind := by
  first
  | rfl
  | (unfold addToName; first | rfl | (simp only []; done) | (split <;> first | rfl | (simp only []; done)) | (simp only []; split <;> rfl))
theorem fr_addToName_limit (s : TS) (c : Int) : (addToName s c).limit = s.limit := by
  first
  | rfl
  | (unfold addToName; first | rfl | (simp only []; done) | (split <;> first | rfl | (simp only []; done)) | (simp only []; split <;> rfl))
theorem fr_addToName_bytes (s : TS) (c : Int) : (addToName s c).bytes = s.bytes := by
  first
  | rfl
  | (unfold addToName; first | rfl | (simp only []; done) | (split <;> first | rfl | (simp only []; done)) | (simp only []; split <;> rfl))
theorem fr_addToName_closed (s : TS) (c : Int) : (addToName s c).closed = s.closed := by
  first
  | rfl
  | (unfold addToName; first | rfl | (simp only []; done) | (split <;> first | rfl | (simp only []; done)) | (simp only []; split <;> rfl))
theorem fr_addToName_place (s : TS) (c : Int) : (addToName s c).place = s.place := by
  first
  | rfl
  | (unfold addToName; first | rfl | (simp only []; done) | (split <;> first | rfl | (simp only []; done)) | (simp only []; split <;> rfl))
theorem fr_addToName_base (s : TS) (c : Int) : (addToName s c).base = s.base := by
  first
  | rfl
  | (unfold addToName; first | rfl | (simp only []; done) | (split <;> first | rfl | (simp only []; done)) | (simp only []; split <;> rfl))
theorem fr_addToName_declared (s : TS) (c : Int) : (addToName s c).declared = s.declared := by
  first
  | rfl
  | (unfold addToName; first | rfl | (simp only []; done) | (split <;> first | rfl | (simp only []; done)) | (simp only []; split <;> rfl))
theorem fr_addToName_state (s : TS) (c : Int) : (addToName s c).state = s.state := by
  first
  | rfl
  | (unfold addToName; first | rfl | (simp only []; done) | (split <;> first | rfl | (simp only []; done)) | (simp only []; split <;> rfl))
theorem fr_addToName_rback (s : TS) (c : Int) : (addToName s c).rback = s.rback := by
  first
  | rfl
  | (unfold addToName; first | rfl | (simp only []; done) | (split <;> first | rfl | (simp only []; done)) | (simp only []; split <;> rfl))
theorem fr_addToName_rcome (s : TS) (c : Int) : (addToName s c).rcome = s.rcome := by
  first
  | rfl
  | (unfold addToName; first | rfl | (simp only []; done) | (split <;> first | rfl | (simp only []; done)) | (simp only []; split <;> rfl))
theorem fr_addToName_rsix (s : TS) (c : Int) : (addToName s c).rsix = s.rsix := by
  first
  | rfl
  | (unfold addToName; first | rfl | (simp only []; done) | (split <;> first | rfl | (simp only []; done)) | (simp only []; split <;> rfl))
theorem fr_addToName_rdig (s : TS) (c : Int) : (addToName s c).rdig = s.rdig := by
  first
  | rfl
  | (unfold addToName; first | rfl | (simp only []; done) | (split <;> first | rfl | (simp only []; done)) | (simp only []; split <;> rfl))
theorem fr_addToName_rnum (s : TS) (c : Int) : (addToName s c).rnum = s.rnum := by
  first
  | rfl
  | (unfold addToName; first | rfl | (simp only []; done) | (split <;> first | rfl | (simp only []; done)) | (simp only []; split <;> rfl))
theorem fr_addToValue_begun (s : TS) (c : Int) : (addToValue s c).begun = s.begun := by
  first
  | rfl
  | (unfold addToValue; first | rfl | (simp only []; done) | (split <;> first | rfl | (simp only []; done)) | (simp only []; split <;> rfl))
theorem fr_addToValue_behind (s : TS) (c : Int) : (addToValue s c).behind = s.behind := by
  first
  | rfl
  | (unfold addToValue; first | rfl | (simp only []; done) | (split <;> first | rfl | (simp only []; done)) | (simp only []; split <;> rfl))
theorem fr_addToValue_limit (s : TS) (c : Int) : (addToValue s c).limit = s.limit := by
  first
  | rfl
  | (unfold addToValue; first | rfl | (simp only []; done) | (split <;> first | rfl | (simp only []; done)) | (simp only []; split <;> rfl))
theorem fr_addToValue_bytes (s : TS) (c : Int) : (addToValue s c).bytes = s.bytes := by
  first
  | rfl
  | (unfold addToValue; first | rfl | (simp only []; done) | (split <;> first | rfl | (simp only []; done)) | (simp only []; split <;> rfl))
theorem fr_addToValue_closed (s : TS) (c : Int) : (addToValue s c).closed = s.closed := by
  first
  | rfl
  | (unfold addToValue; first | rfl | (simp only []; done) | (split <;> first | rfl | (simp only []; done)) | (simp only []; split <;> rfl))
theorem fr_addToValue_place (s : TS) (c : Int) : (addToValue s c).place = s.place := by
  first
  | rfl
  | (unfold addToValue; first | rfl | (simp only []; done) | (split <;> first | rfl | (simp only []; done)) | (simp only []; split <;> rfl))
theorem fr_addToValue_base (s : TS) (c : Int) : (addToValue s c).base = s.base := by
  first
  | rfl
  | (unfold addToValue; first | rfl | (simp only []; done) | (split <;> first | rfl | (simp only []; done)) | (simp only []; split <;> rfl))
theorem fr_addToValue_declared (s : TS) (c : Int) : (addToValue s c).declared = s.declared := by
  first
  | rfl
  | (unfold addToValue; first | rfl | (simp only []; done) | (split <;> first | rfl | (simp only []; done)) | (simp only []; split <;> rfl))
theorem fr_addToValue_state (s : TS) (c : Int) : (addToValue s c).state = s.state := by
  first
  | rfl
  | (unfold addToValue; first | rfl | (simp only []; done) | (split <;> first | rfl | (simp only []; done)) | (simp only []; split <;> rfl))
theorem fr_addToValue_rback (s : TS) (c : Int) : (addToValue s c).rback = s.rback := by
  first
  | rfl
  | (unfold addToValue; first | rfl | (simp only []; done) | (split <;> first | rfl | (simp only []; done)) | (simp only []; split <;> rfl))
theorem fr_addToValue_rcome (s : TS) (c : Int) : (addToValue s c).rcome = s.rcome := by
  first
  | rfl
  | (unfold addToValue; first | rfl | (simp only []; done) | (split <;> first | rfl | (simp only []; done)) | (simp only []; split <;> rfl))
theorem fr_addToValue_rsix (s : TS) (c : Int) : (addToValue s c).rsix = s.rsix := by
  first
  | rfl
  | (unfold addToValue; first | rfl | (simp only []; done) | (split <;> first | rfl | (simp only []; done)) | (simp only []; split <;> rfl))
theorem fr_addToValue_rdig (s : TS) (c : Int) : (addToValue s c).rdig = s.rdig := by
  first
  | rfl
  | (unfold addToValue; first | rfl | (simp only []; done) | (split <;> first | rfl | (simp only []; done)) | (simp only []; split <;> rfl))
theorem fr_addToValue_rnum (s : TS) (c : Int) : (addToValue s c).rnum = s.rnum := by
  first
  | rfl
  | (unfold addToValue; first | rfl | (simp only []; done) | (split <;> first | rfl | (simp only []; done)) | (simp only []; split <;> rfl))
theorem fr_newAtt_begun (s : TS) : (newAtt s).begun = s.begun := by
  first
  | rfl
  | (unfold newAtt; first | rfl | (simp only []; done) | (split <;> first | rfl | (simp only []; done)) | (simp only []; split <;> rfl))
theorem fr_newAtt_behind (s : TS) : (newAtt s).behind = s.behind := by
  first
  | rfl
  | (unfold newAtt; first | rfl | (simp only []; done) | (split <;> first | rfl | (simp only []; done)) | (simp only []; split <;> rfl))
theorem fr_newAtt_limit (s : TS) : (newAtt s).limit = s.limit := by
  first
  | rfl
  | (unfold newAtt; first | rfl | (simp only []; done) | (split <;> first | rfl | (simp only []; done)) | (simp only []; split <;> rfl))
theorem fr_newAtt_bytes (s : TS) : (newAtt s).bytes = s.bytes := by
  first
  | rfl
  | (unfold newAtt; first | rfl | (simp only []; done) | (split <;> first | rfl | (simp only []; done)) | (simp only []; split <;> rfl))
theorem fr_newAtt_closed (s : TS) : (newAtt s).closed = s.closed := by
  first
  | rfl
  | (unfold newAtt; first | rfl | (simp only []; done) | (split <;> first | rfl | (simp only []; done)) | (simp only []; split <;> rfl))
theorem fr_newAtt_place (s : TS) : (newAtt s).place = s.place := by
  first
  | rfl
  | (unfold newAtt; first | rfl | (simp only []; done) | (split <;> first | rfl | (simp only []; done)) | (simp only []; split <;> rfl))
theorem fr_newAtt_base (s : TS) : (newAtt s).base = s.base := by
  first
  | rfl
  | (unfold newAtt; first | rfl | (simp only []; done) | (split <;> first | rfl | (simp only []; done)) | (simp only []; split <;> rfl))
theorem fr_newAtt_declared (s : TS) : (newAtt s).declared = s.declared := by
  first
  | rfl
  | (unfold newAtt; first | rfl | (simp only []; done) | (split <;> first | rfl | (simp only []; done)) | (simp only []; split <;> rfl))
theorem fr_newAtt_state (s : TS) : (newAtt s).state = s.state := by
  first
  | rfl
  | (unfold newAtt; first | rfl | (simp only []; done) | (split <;> first | rfl | (simp only []; done)) | (simp only []; split <;> rfl))
theorem fr_newAtt_rback (s : TS) : (newAtt s).rback = s.rback := by
  first
  | rfl
  | (unfold newAtt; first | rfl | (simp only []; done) | (split <;> first | rfl | (simp only []; done)) | (simp only []; split <;> rfl))
theorem fr_newAtt_rcome (s : TS) : (newAtt s).rcome = s.rcome := by
  first
  | rfl
  | (unfold newAtt; first | rfl | (simp only []; done) | (split <;> first | rfl | (simp only []; done)) | (simp only []; split <;> rfl))
theorem fr_newAtt_rsix (s : TS) : (newAtt s).rsix = s.rsix := by
  first
  | rfl
  | (unfold newAtt; first | rfl | (simp only []; done) | (split <;> first | rfl | (simp only []; done)) | (simp only []; split <;> rfl))
theorem fr_newAtt_rdig (s : TS) : (newAtt s).rdig = s.rdig := by
  first
  | rfl
  | (unfold newAtt; first | rfl | (simp only []; done) | (split <;> first | rfl | (simp only []; done)) | (simp only []; split <;> rfl))
theorem fr_newAtt_rnum (s : TS) : (newAtt s).rnum = s.rnum := by
  first
  | rfl
  | (unfold newAtt; first | rfl | (simp only []; done) | (split <;> first | rfl | (simp only []; done)) | (simp only []; split <;> rfl))
theorem fr_lessName_begun (s : TS) (c : Int) : (lessName s c).begun = s.begun := by
  first
  | rfl
  | (unfold lessName; first | rfl | (simp only []; done) | (split <;> first | rfl | (simp only []; done)) | (simp only []; split <;> rfl))
theorem fr_lessName_behind (s : TS) (c : Int) : (lessName s c).behind = s.behind := by
  first
  | rfl
  | (unfold lessName; first | rfl | (simp only []; done) | (split <;> first | rfl | (simp only []; done)) | (simp only []; split <;> rfl))
theorem fr_lessName_limit (s : TS) (c : Int) : (lessName s c).limit = s.limit := by
  first
  | rfl
  | (unfold lessName; first | rfl | (simp only []; done) | (split <;> first | rfl | (simp only []; done)) | (simp only []; split <;> rfl))
theorem fr_lessName_bytes (s : TS) (c : Int) : (lessName s c).bytes = s.bytes := by
  first
  | rfl
  | (unfold lessName; first | rfl | (simp only []; done) | (split <;> first | rfl | (simp only []; done)) | (simp only []; split <;> rfl))
theorem fr_lessName_closed (s : TS) (c : Int) : (lessName s c).closed = s.closed := by
  first
  | rfl
  | (unfold lessName; first | rfl | (simp only []; done) | (split <;> first | rfl | (simp only []; done)) | (simp only []; split <;> rfl))
theorem fr_lessName_place (s : TS) (c : Int) : (lessName s c).place = s.place := by
  first
  | rfl
  | (unfold lessName; first | rfl | (simp only []; done) | (split <;> first | rfl | (simp only []; done)) | (simp only []; split <;> rfl))
theorem fr_lessName_base (s : TS) (c : Int) : (lessName s c).base = s.base := by
  first
  | rfl
  | (unfold lessName; first | rfl | (simp only []; done) | (split <;> first | rfl | (simp only []; done)) | (simp only []; split <;> rfl))
theorem fr_lessName_declared (s : TS) (c : Int) : (lessName s c).declared = s.declared := by
  first
  | rfl
  | (unfold lessName; first | rfl | (simp only []; done) | (split <;> first | rfl | (simp only []; done)) | (simp only []; split <;> rfl))
theorem fr_lessName_state (s : TS) (c : Int) : (lessName s c).state = s.state := by
  first
  | rfl
  | (unfold lessName; first | rfl | (simp only []; done) | (split <;> first | rfl | (simp only []; done)) | (simp only []; split <;> rfl))
theorem fr_lessName_rback (s : TS) (c : Int) : (lessName s c).rback = s.rback := by
  first
  | rfl
  | (unfold lessName; first | rfl | (simp only []; done) | (split <;> first | rfl | (simp only []; done)) | (simp only []; split <;> rfl))
theorem fr_lessName_rcome (s : TS) (c : Int) : (lessName s c).rcome = s.rcome := by
  first
  | rfl
  | (unfold lessName; first | rfl | (simp only []; done) | (split <;> first | rfl | (simp only []; done)) | (simp only []; split <;> rfl))
theorem fr_lessName_rsix (s : TS) (c : Int) : (lessName s c).rsix = s.rsix := by
  first
  | rfl
  | (unfold lessName; first | rfl | (simp only []; done) | (split <;> first | rfl | (simp only []; done)) | (simp only []; split <;> rfl))
theorem fr_lessName_rdig (s : TS) (c : Int) : (lessName s c).rdig = s.rdig := by
  first
  | rfl
  | (unfold lessName; first | rfl | (simp only []; done) | (split <;> first | rfl | (simp only []; done)) | (simp only []; split <;> rfl))
theorem fr_lessName_rnum (s : TS) (c : Int) : (lessName s c).rnum = s.rnum := by
  first
  | rfl
  | (unfold lessName; first | rfl | (simp only []; done) | (split <;> first | rfl | (simp only []; done)) | (simp only []; split <;> rfl))
theorem fr_endName_begun (s : TS) : (endName s).begun = s.begun := by
  unfold endName nameIsNew
  (repeat' split) <;> rfl
theorem fr_endName_behind (s : TS) : (endName s).behind = s.behind := by
  unfold endName nameIsNew
  (repeat' split) <;> rfl
theorem fr_endName_limit (s : TS) : (endName s).limit = s.limit := by
  unfold endName nameIsNew
  (repeat' split) <;> rfl
theorem fr_endName_bytes (s : TS) : (endName s).bytes = s.bytes := by
  unfold endName nameIsNew
  (repeat' split) <;> rfl
theorem fr_endName_closed (s : TS) : (endName s).closed = s.closed := by
  unfold endName nameIsNew
  (repeat' split) <;> rfl
theorem fr_endName_place (s : TS) : (endName s).place = s.place := by
  unfold endName nameIsNew
  (repeat' split) <;> rfl
theorem fr_endName_base (s : TS) : (endName s).base = s.base := by
  unfold endName nameIsNew
  (repeat' split) <;> rfl
theorem fr_endName_declared (s : TS) : (endName s).declared = s.declared := by
  unfold endName nameIsNew
  (repeat' split) <;> rfl
theorem fr_endName_state (s : TS) : (endName s).state = s.state := by
  unfold endName nameIsNew
  (repeat' split) <;> rfl
theorem fr_endName_rback (s : TS) : (endName s).rback = s.rback := by
  unfold endName nameIsNew
  (repeat' split) <;> rfl
theorem fr_endName_rcome (s : TS) : (endName s).rcome = s.rcome := by
  unfold endName nameIsNew
  (repeat' split) <;> rfl
theorem fr_endName_rsix (s : TS) : (endName s).rsix = s.rsix := by
  unfold endName nameIsNew
  (repeat' split) <;> rfl
theorem fr_endName_rdig (s : TS) : (endName s).rdig = s.rdig := by
  unfold endName nameIsNew
  (repeat' split) <;> rfl
theorem fr_endName_rnum (s : TS) : (endName s).rnum = s.rnum := by
  unfold endName nameIsNew
  (repeat' split) <;> rfl
theorem fr_dropTag_begun (s : TS) : (dropTag s).begun = s.begun := by
  first
  | rfl
  | (unfold dropTag; first | rfl | (simp only [fr_wrong_begun]; done) | (split <;> first | rfl | (simp only [fr_wrong_begun]; done)) | (simp only [fr_wrong_begun]; split <;> rfl))
theorem fr_dropTag_behind (s : TS) : (dropTag s).behind = s.behind := by
  first
  | rfl
  | (unfold dropTag; first | rfl | (simp only [fr_wrong_behind]; done) | (split <;> first | rfl | (simp only [fr_wrong_behind]; done)) | (simp only [fr_wrong_behind]; split <;> rfl))
theorem fr_dropTag_limit (s : TS) : (dropTag s).limit = s.limit := by
  first
  | rfl
  | (unfold dropTag; first | rfl | (simp only [fr_wrong_limit]; done) | (split <;> first | rfl | (simp only [fr_wrong_limit]; done)) | (simp only [fr_wrong_limit]; split <;> rfl))
theorem fr_dropTag_bytes (s : TS) : (dropTag s).bytes = s.bytes := by
  first
  | rfl
  | (unfold dropTag; first | rfl | (simp only [fr_wrong_bytes]; done) | (split <;> first | rfl | (simp only [fr_wrong_bytes]; done)) | (simp only [fr_wrong_bytes]; split <;> rfl))
theorem fr_dropTag_closed (s : TS) : (dropTag s).closed = s.closed := by
  first
  | rfl
  | (unfold dropTag; first | rfl | (simp only [fr_wrong_closed]; done) | (split <;> first | rfl | (simp only [fr_wrong_closed]; done)) | (simp only [fr_wrong_closed]; split <;> rfl))
theorem fr_dropTag_place (s : TS) : (dropTag s).place = s.place := by
  first
  | rfl
  | (unfold dropTag; first | rfl | (simp only [fr_wrong_place]; done) | (split <;> first | rfl | (simp only [fr_wrong_place]; done)) | (simp only [fr_wrong_place]; split <;> rfl))
theorem fr_dropTag_base (s : TS) : (dropTag s).base = s.base := by
  first
  | rfl
  | (unfold dropTag; first | rfl | (simp only [fr_wrong_base]; done) | (split <;> first | rfl | (simp only [fr_wrong_base]; done)) | (simp only [fr_wrong_base]; split <;> rfl))
theorem fr_dropTag_declared (s : TS) : (dropTag s).declared = s.declared := by
  first
  | rfl
  | (unfold dropTag; first | rfl | (simp only [fr_wrong_declared]; done) | (split <;> first | rfl | (simp only [fr_wrong_declared]; done)) | (simp only [fr_wrong_declared]; split <;> rfl))
theorem fr_dropTag_state (s : TS) : (dropTag s).state = s.state := by
  first
  | rfl
  | (unfold dropTag; first | rfl | (simp only [fr_wrong_state]; done) | (split <;> first | rfl | (simp only [fr_wrong_state]; done)) | (simp only [fr_wrong_state]; split <;> rfl))
theorem fr_dropTag_rback (s : TS) : (dropTag s).rback = s.rback := by
  first
  | rfl
  | (unfold dropTag; first | rfl | (simp only [fr_wrong_rback]; done) | (split <;> first | rfl | (simp only [fr_wrong_rback]; done)) | (simp only [fr_wrong_rback]; split <;> rfl))
theorem fr_dropTag_rcome (s : TS) : (dropTag s).rcome = s.rcome := by
  first
  | rfl
  | (unfold dropTag; first | rfl | (simp only [fr_wrong_rcome]; done) | (split <;> first | rfl | (simp only [fr_wrong_rcome]; done)) | (simp only [fr_wrong_rcome]; split <;> rfl))
theorem fr_dropTag_rsix (s : TS) : (dropTag s).rsix = s.rsix := by
  first
  | rfl
  | (unfold dropTag; first | rfl | (simp only [fr_wrong_rsix]; done) | (split <;> first | rfl | (simp only [fr_wrong_rsix]; done)) | (simp only [fr_wrong_rsix]; split <;> rfl))
theorem fr_dropTag_rdig (s : TS) : (dropTag s).rdig = s.rdig := by
  first
  | rfl
  | (unfold dropTag; first | rfl | (simp only [fr_wrong_rdig]; done) | (split <;> first | rfl | (simp only [fr_wrong_rdig]; done)) | (simp only [fr_wrong_rdig]; split <;> rfl))
theorem fr_dropTag_rnum (s : TS) : (dropTag s).rnum = s.rnum := by
  first
  | rfl
  | (unfold dropTag; first | rfl | (simp only [fr_wrong_rnum]; done) | (split <;> first | rfl | (simp only [fr_wrong_rnum]; done)) | (simp only [fr_wrong_rnum]; split <;> rfl))
theorem fr_addToTarget_begun (s : TS) (l : Str) : (addToTarget s l).begun = s.begun := by
  first
  | rfl
  | (unfold addToTarget; first | rfl | (simp only [fr_addRunes_begun, fr_addText_begun]; done) | (split <;> first | rfl | (simp only [fr_addRunes_begun, fr_addText_begun]; done)) | (simp only [fr_addRunes_begun, fr_addText_begun]; split <;> rfl))
theorem fr_addToTarget_behind (s : TS) (l : Str) : (addToTarget s l).behind = s.behind := by
  first
  | rfl
  | (unfold addToTarget; first | rfl | (simp only [fr_addRunes_behind, fr_addText_behind]; done) | (split <;> first | rfl | (simp only [fr_addRunes_behind, fr_addText_behind]; done)) | (simp only [fr_addRunes_behind, fr_addText_behind]; split <;> rfl))
theorem fr_addToTarget_limit (s : TS) (l : Str) : (addToTarget s l).limit = s.limit := by
  first
  | rfl
  | (unfold addToTarget; first | rfl | (simp only [fr_addRunes_limit, fr_addText_limit]; done) | (split <;> first | rfl | (simp only [fr_addRunes_limit, fr_addText_limit]; done)) | (simp only [fr_addRunes_limit, fr_addText_limit]; split <;> rfl))
theorem fr_addToTarget_bytes (s : TS) (l : Str) : (addToTarget s l).bytes = s.bytes := by
  first
  | rfl
  | (unfold addToTarget; first | rfl | (simp only [fr_addRunes_bytes, fr_addText_bytes]; done) | (split <;> first | rfl | (simp only [fr_addRunes_bytes, fr_addText_bytes]; done)) | (simp only [fr_addRunes_bytes, fr_addText_bytes]; split <;> rfl))
theorem fr_addToTarget_closed (s : TS) (l : Str) : (addToTarget s l).closed = s.closed := by
  first
  | rfl
  | (unfold addToTarget; first | rfl | (simp only [fr_addRunes_closed, fr_addText_closed]; done) | (split <;> first | rfl | (simp only [fr_addRunes_closed, fr_addText_closed]; done)) | (simp only [fr_addRunes_closed, fr_addText_closed]; split <;> rfl))
theorem fr_addToTarget_place (s : TS) (l : Str) : (addToTarget s l).place = s.place := by
  first
  | rfl
  | (unfold addToTarget; first | rfl | (simp only [fr_addRunes_place, fr_addText_place]; done) | (split <;> first | rfl | (simp only [fr_addRunes_place, fr_addText_place]; done)) | (simp only [fr_addRunes_place, fr_addText_place]; split <;> rfl))
theorem fr_addToTarget_base (s : TS) (l : Str) : (addToTarget s l).base = s.base := by
  first
  | rfl
  | (unfold addToTarget; first | rfl | (simp only [fr_addRunes_base, fr_addText_base]; done) | (split <;> first | rfl | (simp only [fr_addRunes_base, fr_addText_base]; done)) | (simp only [fr_addRunes_base, fr_addText_base]; split <;> rfl))
theorem fr_addToTarget_declared (s : TS) (l : Str) : (addToTarget s l).declared = s.declared := by
  first
  | rfl
  | (unfold addToTarget; first | rfl | (simp only [fr_addRunes_declared, fr_addText_declared]; done) | (split <;> first | rfl | (simp only [fr_addRunes_declared, fr_addText_declared]; done)) | (simp only [fr_addRunes_declared, fr_addText_declared]; split <;> rfl))
theorem fr_addToTarget_state (s : TS) (l : Str) : (addToTarget s l).state = s.state := by
  first
  | rfl
  | (unfold addToTarget; first | rfl | (simp only [fr_addRunes_state, fr_addText_state]; done) | (split <;> first | rfl | (simp only [fr_addRunes_state, fr_addText_state]; done)) | (simp only [fr_addRunes_state, fr_addText_state]; split <;> rfl))
theorem fr_addToTarget_rback (s : TS) (l : Str) : (addToTarget s l).rback = s.rback := by
  first
  | rfl
  | (unfold addToTarget; first | rfl | (simp only [fr_addRunes_rback, fr_addText_rback]; done) | (split <;> first | rfl | (simp only [fr_addRunes_rback, fr_addText_rback]; done)) | (simp only [fr_addRunes_rback, fr_addText_rback]; split <;> rfl))
theorem fr_addToTarget_rcome (s : TS) (l : Str) : (addToTarget s l).rcome = s.rcome := by
  first
  | rfl
  | (unfold addToTarget; first | rfl | (simp only [fr_addRunes_rcome, fr_addText_rcome]; done) | (split <;> first | rfl | (simp only [fr_addRunes_rcome, fr_addText_rcome]; done)) | (simp only [fr_addRunes_rcome, fr_addText_rcome]; split <;> rfl))
theorem fr_addToTarget_rsix (s : TS) (l : Str) : (addToTarget s l).rsix = s.rsix := by
  first
  | rfl
  | (unfold addToTarget; first | rfl | (simp only [fr_addRunes_rsix, fr_addText_rsix]; done) | (split <;> first | rfl | (simp only [fr_addRunes_rsix, fr_addText_rsix]; done)) | (simp only [fr_addRunes_rsix, fr_addText_rsix]; split <;> rfl))
theorem fr_addToTarget_rdig (s : TS) (l : Str) : (addToTarget s l).rdig = s.rdig := by
  first
  | rfl
  | (unfold addToTarget; first | rfl | (simp only [fr_addRunes_rdig, fr_addText_rdig]; done) | (split <;> first | rfl | (simp only [fr_addRunes_rdig, fr_addText_rdig]; done)) | (simp only [fr_addRunes_rdig, fr_addText_rdig]; split <;> rfl))
theorem fr_addToTarget_rnum (s : TS) (l : Str) : (addToTarget s l).rnum = s.rnum := by
  first
  | rfl
  | (unfold addToTarget; first | rfl | (simp only [fr_addRunes_rnum, fr_addText_rnum]; done) | (split <;> first | rfl | (simp only [fr_addRunes_rnum, fr_addText_rnum]; done)) | (simp only [fr_addRunes_rnum, fr_addText_rnum]; split <;> rfl))
theorem fr_endNumber_begun (s : TS) (p : Int) : (endNumber s p).begun = s.begun := by
  first
  | rfl
  | (unfold endNumber; first | rfl | (simp only [fr_addToTarget_begun, fr_wrongAt_begun]; done) | (split <;> first | rfl | (simp only [fr_addToTarget_begun, fr_wrongAt_begun]; done)) | (simp only [fr_addToTarget_begun, fr_wrongAt_begun]; split <;> rfl))
theorem fr_endNumber_behind (s : TS) (p : Int) : (endNumber s p).behind = s.behind := by
  first
  | rfl
  | (unfold endNumber; first | rfl | (simp only [fr_addToTarget_behind, fr_wrongAt_behind]; done) | (split <;> first | rfl | (simp only [fr_addToTarget_behind, fr_wrongAt_behind]; done)) | (simp only [fr_addToTarget_behind, fr_wrongAt_behind]; split <;> rfl))
theorem fr_endNumber_limit (s : TS) (p : Int) : (endNumber s p).limit = s.limit := by
  first
  | rfl
  | (unfold endNumber; first | rfl | (simp only [fr_addToTarget_limit, fr_wrongAt_limit]; done) | (split <;> first | rfl | (simp only [fr_addToTarget_limit, fr_wrongAt_limit]; done)) | (simp only [fr_addToTarget_limit, fr_wrongAt_limit]; split <;> rfl))
theorem fr_endNumber_bytes (s : TS) (p : Int) : (endNumber s p).bytes = s.bytes := by
  first
  | rfl
  | (unfold endNumber; first | rfl | (simp only [fr_addToTarget_bytes, fr_wrongAt_bytes]; done) | (split <;> first | rfl | (simp only [fr_addToTarget_bytes, fr_wrongAt_bytes]; done)) | (simp only [fr_addToTarget_bytes, fr_wrongAt_bytes]; split <;> rfl))
theorem fr_endNumber_closed (s : TS) (p : Int) : (endNumber s p).closed = s.closed := by
  first
  | rfl
  | (unfold endNumber; first | rfl | (simp only [fr_addToTarget_closed, fr_wrongAt_closed]; done) | (split <;> first | rfl | (simp only [fr_addToTarget_closed, fr_wrongAt_closed]; done)) | (simp only [fr_addToTarget_closed, fr_wrongAt_closed]; split <;> rfl))
theorem fr_endNumber_place (s : TS) (p : Int) : (endNumber s p).place = s.place := by
  first
  | rfl
  | (unfold endNumber; first | rfl | (simp only [fr_addToTarget_place, fr_wrongAt_place]; done) | (split <;> first | rfl | (simp only [fr_addToTarget_place, fr_wrongAt_place]; done)) | (simp only [fr_addToTarget_place, fr_wrongAt_place]; split <;> rfl))
theorem fr_endNumber_base (s : TS) (p : Int) : (endNumber s p).base = s.base := by
  first
  | rfl
  | (unfold endNumber; first | rfl | (simp only [fr_addToTarget_base, fr_wrongAt_base]; done) | (split <;> first | rfl | (simp only [fr_addToTarget_base, fr_wrongAt_base]; done)) | (simp only [fr_addToTarget_base, fr_wrongAt_base]; split <;> rfl))
theorem fr_endNumber_declared (s : TS) (p : Int) : (endNumber s p).declared = s.declared := by
  first
  | rfl
  | (unfold endNumber; first | rfl | (simp only [fr_addToTarget_declared, fr_wrongAt_declared]; done) | (split <;> first | rfl | (simp only [fr_addToTarget_declared, fr_wrongAt_declared]; done)) | (simp only [fr_addToTarget_declared, fr_wrongAt_declared]; split <;> rfl))
theorem fr_endNumber_state (s : TS) (p : Int) : (endNumber s p).state = s.state := by
  first
  | rfl
  | (unfold endNumber; first | rfl | (simp only [fr_addToTarget_state, fr_wrongAt_state]; done) | (split <;> first | rfl | (simp only [fr_addToTarget_state, fr_wrongAt_state]; done)) | (simp only [fr_addToTarget_state, fr_wrongAt_state]; split <;> rfl))
theorem fr_endNumber_rback (s : TS) (p : Int) : (endNumber s p).rback = s.rback := by
  first
  | rfl
  | (unfold endNumber; first | rfl | (simp only [fr_addToTarget_rback, fr_wrongAt_rback]; done) | (split <;> first | rfl | (simp only [fr_addToTarget_rback, fr_wrongAt_rback]; done)) | (simp only [fr_addToTarget_rback, fr_wrongAt_rback]; split <;> rfl))
theorem fr_endNumber_rcome (s : TS) (p : Int) : (endNumber s p).rcome = s.rcome := by
  first
  | rfl
  | (unfold endNumber; first | rfl | (simp only [fr_addToTarget_rcome, fr_wrongAt_rcome]; done) | (split <;> first | rfl | (simp only [fr_addToTarget_rcome, fr_wrongAt_rcome]; done)) | (simp only [fr_addToTarget_rcome, fr_wrongAt_rcome]; split <;> rfl))
theorem fr_endNumber_rsix (s : TS) (p : Int) : (endNumber s p).rsix = s.rsix := by
  first
  | rfl
  | (unfold endNumber; first | rfl | (simp only [fr_addToTarget_rsix, fr_wrongAt_rsix]; done) | (split <;> first | rfl | (simp only [fr_addToTarget_rsix, fr_wrongAt_rsix]; done)) | (simp only [fr_addToTarget_rsix, fr_wrongAt_rsix]; split <;> rfl))
theorem fr_endNumber_rdig (s : TS) (p : Int) : (endNumber s p).rdig = s.rdig := by
  first
  | rfl
  | (unfold endNumber; first | rfl | (simp only [fr_addToTarget_rdig, fr_wrongAt_rdig]; done) | (split <;> first | rfl | (simp only [fr_addToTarget_rdig, fr_wrongAt_rdig]; done)) | (simp only [fr_addToTarget_rdig, fr_wrongAt_rdig]; split <;> rfl))
theorem fr_endNumber_rnum (s : TS) (p : Int) : (endNumber s p).rnum = s.rnum := by
  first
  | rfl
  | (unfold endNumber; first | rfl | (simp only [fr_addToTarget_rnum, fr_wrongAt_rnum]; done) | (split <;> first | rfl | (simp only [fr_addToTarget_rnum, fr_wrongAt_rnum]; done)) | (simp only [fr_addToTarget_rnum, fr_wrongAt_rnum]; split <;> rfl))
theorem fr_openName_begun (s : TS) (n : Str × Str) (x : Str) (nx : Int) : (openName s n x nx).begun = s.begun := by
  first
  | rfl
  | (unfold openName; first | rfl | (simp only [fr_addToTarget_begun, fr_wrongAt_begun]; done) | (split <;> first | rfl | (simp only [fr_addToTarget_begun, fr_wrongAt_begun]; done)) | (simp only [fr_addToTarget_begun, fr_wrongAt_begun]; split <;> rfl))
theorem fr_openName_behind (s : TS) (n : Str × Str) (x : Str) (nx : Int) : (openName s n x nx).behind = s.behind := by
  first
  | rfl
  | (unfold openName; first | rfl | (simp only [fr_addToTarget_behind, fr_wrongAt_behind]; done) | (split <;> first | rfl | (simp only [fr_addToTarget_behind, fr_wrongAt_behind]; done)) | (simp only [fr_addToTarget_behind, fr_wrongAt_behind]; split <;> rfl))
theorem fr_openName_limit (s : TS) (n : Str × Str) (x : Str) (nx : Int) : (openName s n x nx).limit = s.limit := by
  first
  | rfl
  | (unfold openName; first | rfl | (simp only [fr_addToTarget_limit, fr_wrongAt_limit]; done) | (split <;> first | rfl | (simp only [fr_addToTarget_limit, fr_wrongAt_limit]; done)) | (simp only [fr_addToTarget_limit, fr_wrongAt_limit]; split <;> rfl))
theorem fr_openName_bytes (s : TS) (n : Str × Str) (x : Str) (nx : Int) : (openName s n x nx).bytes = s.bytes := by
  first
  | rfl
  | (unfold openName; first | rfl | (simp only [fr_addToTarget_bytes, fr_wrongAt_bytes]; done) | (split <;> first | rfl | (simp only [fr_addToTarget_bytes, fr_wrongAt_bytes]; done)) | (simp only [fr_addToTarget_bytes, fr_wrongAt_bytes]; split <;> rfl))
theorem fr_openName_closed (s : TS) (n : Str × Str) (x : Str) (nx : Int) : (openName s n x nx).closed = s.closed := by
  first
  | rfl
  | (unfold openName; first | rfl | (simp only [fr_addToTarget_closed, fr_wrongAt_closed]; done) | (split <;> first | rfl | (simp only [fr_addToTarget_closed, fr_wrongAt_closed]; done)) | (simp only [fr_addToTarget_closed, fr_wrongAt_closed]; split <;> rfl))
theorem fr_openName_place (s : TS) (n : Str × Str) (x : Str) (nx : Int) : (openName s n x nx).place = s.place := by
  first
  | rfl
  | (unfold openName; first | rfl | (simp only [fr_addToTarget_place, fr_wrongAt_place]; done) | (split <;> first | rfl | (simp only [fr_addToTarget_place, fr_wrongAt_place]; done)) | (simp only [fr_addToTarget_place, fr_wrongAt_place]; split <;> rfl))
theorem fr_openName_base (s : TS) (n : Str × Str) (x : Str) (nx : Int) : (openName s n x nx).base = s.base := by
  first
  | rfl
  | (unfold openName; first | rfl | (simp only [fr_addToTarget_base, fr_wrongAt_base]; done) | (split <;> first | rfl | (simp only [fr_addToTarget_base, fr_wrongAt_base]; done)) | (simp only [fr_addToTarget_base, fr_wrongAt_base]; split <;> rfl))
theorem fr_openName_declared (s : TS) (n : Str × Str) (x : Str) (nx : Int) : (openName s n x nx).declared = s.declared := by
  first
  | rfl
  | (unfold openName; first | rfl | (simp only [fr_addToTarget_declared, fr_wrongAt_declared]; done) | (split <;> first | rfl | (simp only [fr_addToTarget_declared, fr_wrongAt_declared]; done)) | (simp only [fr_addToTarget_declared, fr_wrongAt_declared]; split <;> rfl))
theorem fr_openName_state (s : TS) (n : Str × Str) (x : Str) (nx : Int) : (openName s n x nx).state = s.state := by
  first
  | rfl
  | (unfold openName; first | rfl | (simp only [fr_addToTarget_state, fr_wrongAt_state]; done) | (split <;> first | rfl | (simp only [fr_addToTarget_state, fr_wrongAt_state]; done)) | (simp only [fr_addToTarget_state, fr_wrongAt_state]; split <;> rfl))
theorem fr_openName_rback (s : TS) (n : Str × Str) (x : Str) (nx : Int) : (openName s n x nx).rback = s.rback := by
  first
  | rfl
  | (unfold openName; first | rfl | (simp only [fr_addToTarget_rback, fr_wrongAt_rback]; done) | (split <;> first | rfl | (simp only [fr_addToTarget_rback, fr_wrongAt_rback]; done)) | (simp only [fr_addToTarget_rback, fr_wrongAt_rback]; split <;> rfl))
theorem fr_openName_rcome (s : TS) (n : Str × Str) (x : Str) (nx : Int) : (openName s n x nx).rcome = s.rcome := by
  first
  | rfl
  | (unfold openName; first | rfl | (simp only [fr_addToTarget_rcome, fr_wrongAt_rcome]; done) | (split <;> first | rfl | (simp only [fr_addToTarget_rcome, fr_wrongAt_rcome]; done)) | (simp only [fr_addToTarget_rcome, fr_wrongAt_rcome]; split <;> rfl))
theorem fr_openName_rsix (s : TS) (n : Str × Str) (x : Str) (nx : Int) : (openName s n x nx).rsix = s.rsix := by
  first
  | rfl
  | (unfold openName; first | rfl | (simp only [fr_addToTarget_rsix, fr_wrongAt_rsix]; done) | (split <;> first | rfl | (simp only [fr_addToTarget_rsix, fr_wrongAt_rsix]; done)) | (simp only [fr_addToTarget_rsix, fr_wrongAt_rsix]; split <;> rfl))
theorem fr_openName_rdig (s : TS) (n : Str × Str) (x : Str) (nx : Int) : (openName s n x nx).rdig = s.rdig := by
  first
  | rfl
  | (unfold openName; first | rfl | (simp only [fr_addToTarget_rdig, fr_wrongAt_rdig]; done) | (split <;> first | rfl | (simp only [fr_addToTarget_rdig, fr_wrongAt_rdig]; done)) | (simp only [fr_addToTarget_rdig, fr_wrongAt_rdig]; split <;> rfl))
theorem fr_openName_rnum (s : TS) (n : Str × Str) (x : Str) (nx : Int) : (openName s n x nx).rnum = s.rnum := by
  first
  | rfl
  | (unfold openName; first | rfl | (simp only [fr_addToTarget_rnum, fr_wrongAt_rnum]; done) | (split <;> first | rfl | (simp only [fr_addToTarget_rnum, fr_wrongAt_rnum]; done)) | (simp only [fr_addToTarget_rnum, fr_wrongAt_rnum]; split <;> rfl))
theorem fr_leaveAsItIs_begun (s : TS) : (leaveAsItIs s).begun = s.begun := by
  first
  | rfl
  | (unfold leaveAsItIs; first | rfl | (simp only [fr_addToTarget_begun]; done) | (split <;> first | rfl | (simp only [fr_addToTarget_begun]; done)) | (simp only [fr_addToTarget_begun]; split <;> rfl))
theorem fr_leaveAsItIs_behind (s : TS) : (leaveAsItIs s).behind = s.behind := by
  first
  | rfl
  | (unfold leaveAsItIs; first | rfl | (simp only [fr_addToTarget_behind]; done) | (split <;> first | rfl | (simp only [fr_addToTarget_behind]; done)) | (simp only [fr_addToTarget_behind]; split <;> rfl))
theorem fr_leaveAsItIs_limit (s : TS) : (leaveAsItIs s).limit = s.limit := by
  first
  | rfl
  | (unfold leaveAsItIs; first | rfl | (simp only [fr_addToTarget_limit]; done) | (split <;> first | rfl | (simp only [fr_addToTarget_limit]; done)) | (simp only [fr_addToTarget_limit]; split <;> rfl))
theorem fr_leaveAsItIs_bytes (s : TS) : (leaveAsItIs s).bytes = s.bytes := by
  first
  | rfl
  | (unfold leaveAsItIs; first | rfl | (simp only [fr_addToTarget_bytes]; done) | (split <;> first | rfl | (simp only [fr_addToTarget_bytes]; done)) | (simp only [fr_addToTarget_bytes]; split <;> rfl))
theorem fr_leaveAsItIs_closed (s : TS) : (leaveAsItIs s).closed = s.closed := by
  first
  | rfl
  | (unfold leaveAsItIs; first | rfl | (simp only [fr_addToTarget_closed]; done) | (split <;> first | rfl | (simp only [fr_addToTarget_closed]; done)) | (simp only [fr_addToTarget_closed]; split <;> rfl))
theorem fr_leaveAsItIs_place (s : TS) : (leaveAsItIs s).place = s.place := by
  first
  | rfl
  | (unfold leaveAsItIs; first | rfl | (simp only [fr_addToTarget_place]; done) | (split <;> first | rfl | (simp only [fr_addToTarget_place]; done)) | (simp only [fr_addToTarget_place]; split <;> rfl))
theorem fr_leaveAsItIs_base (s : TS) : (leaveAsItIs s).base = s.base := by
  first
  | rfl
  | (unfold leaveAsItIs; first | rfl | (simp only [fr_addToTarget_base]; done) | (split <;> first | rfl | (simp only [fr_addToTarget_base]; done)) | (simp only [fr_addToTarget_base]; split <;> rfl))
theorem fr_leaveAsItIs_declared (s : TS) : (leaveAsItIs s).declared = s.declared := by
  first
  | rfl
  | (unfold leaveAsItIs; first | rfl | (simp only [fr_addToTarget_declared]; done) | (split <;> first | rfl | (simp only [fr_addToTarget_declared]; done)) | (simp only [fr_addToTarget_declared]; split <;> rfl))
theorem fr_leaveAsItIs_rback (s : TS) : (leaveAsItIs s).rback = s.rback := by
  first
  | rfl
  | (unfold leaveAsItIs; first | rfl | (simp only [fr_addToTarget_rback]; done) | (split <;> first | rfl | (simp only [fr_addToTarget_rback]; done)) | (simp only [fr_addToTarget_rback]; split <;> rfl))
theorem fr_leaveAsItIs_rcome (s : TS) : (leaveAsItIs s).rcome = s.rcome := by
  first
  | rfl
  | (unfold leaveAsItIs; first | rfl | (simp only [fr_addToTarget_rcome]; done) | (split <;> first | rfl | (simp only [fr_addToTarget_rcome]; done)) | (simp only [fr_addToTarget_rcome]; split <;> rfl))
theorem fr_leaveAsItIs_rsix (s : TS) : (leaveAsItIs s).rsix = s.rsix := by
  first
  | rfl
  | (unfold leaveAsItIs; first | rfl | (simp only [fr_addToTarget_rsix]; done) | (split <;> first | rfl | (simp only [fr_addToTarget_rsix]; done)) | (simp only [fr_addToTarget_rsix]; split <;> rfl))
theorem fr_leaveAsItIs_rdig (s : TS) : (leaveAsItIs s).rdig = s.rdig := by
  first
  | rfl
  | (unfold leaveAsItIs; first | rfl | (simp only [fr_addToTarget_rdig]; done) | (split <;> first | rfl | (simp only [fr_addToTarget_rdig]; done)) | (simp only [fr_addToTarget_rdig]; split <;> rfl))
theorem fr_leaveAsItIs_rnum (s : TS) : (leaveAsItIs s).rnum = s.rnum := by
  first
  | rfl
  | (unfold leaveAsItIs; first | rfl | (simp only [fr_addToTarget_rnum]; done) | (split <;> first | rfl | (simp only [fr_addToTarget_rnum]; done)) | (simp only [fr_addToTarget_rnum]; split <;> rfl))
theorem fr_endOpenName_begun (s : TS) (n : Str × Str) (c : Int) : (endOpenName s n c).begun = s.begun := by
  first
  | rfl
  | (unfold endOpenName; first | rfl | (simp only [fr_addToTarget_begun, fr_openName_begun]; done) | (split <;> first | rfl | (simp only [fr_addToTarget_begun, fr_openName_begun]; done)) | (simp only [fr_addToTarget_begun, fr_openName_begun]; split <;> rfl))
theorem fr_endOpenName_behind (s : TS) (n : Str × Str) (c : Int) : (endOpenName s n c).behind = s.behind := by
  first
  | rfl
  | (unfold endOpenName; first | rfl | (simp only [fr_addToTarget_behind, fr_openName_behind]; done) | (split <;> first | rfl | (simp only [fr_addToTarget_behind, fr_openName_behind]; done)) | (simp only [fr_addToTarget_behind, fr_openName_behind]; split <;> rfl))
theorem fr_endOpenName_limit (s : TS) (n : Str × Str) (c : Int) : (endOpenName s n c).limit = s.limit := by
  first
  | rfl
  | (unfold endOpenName; first | rfl | (simp only [fr_addToTarget_limit, fr_openName_limit]; done) | (split <;> first | rfl | (simp only [fr_addToTarget_limit, fr_openName_limit]; done)) | (simp only [fr_addToTarget_limit, fr_openName_limit]; split <;> rfl))
theorem fr_endOpenName_bytes (s : TS) (n : Str × Str) (c : Int) : (endOpenName s n c).bytes = s.bytes := by
  first
  | rfl
  | (unfold endOpenName; first | rfl | (simp only [fr_addToTarget_bytes, fr_openName_bytes]; done) | (split <;> first | rfl | (simp only [fr_addToTarget_bytes, fr_openName_bytes]; done)) | (simp only [fr_addToTarget_bytes, fr_openName_bytes]; split <;> rfl))
theorem fr_endOpenName_closed (s : TS) (n : Str × Str) (c : Int) : (endOpenName s n c).closed = s.closed := by
  first
  | rfl
  | (unfold endOpenName; first | rfl | (simp only [fr_addToTarget_closed, fr_openName_closed]; done) | (split <;> first | rfl | (simp only [fr_addToTarget_closed, fr_openName_closed]; done)) | (simp only [fr_addToTarget_closed, fr_openName_closed]; split <;> rfl))
theorem fr_endOpenName_place (s : TS) (n : Str × Str) (c : Int) : (endOpenName s n c).place = s.place := by
  first
  | rfl
  | (unfold endOpenName; first | rfl | (simp only [fr_addToTarget_place, fr_openName_place]; done) | (split <;> first | rfl | (simp only [fr_addToTarget_place, fr_openName_place]; done)) | (simp only [fr_addToTarget_place, fr_openName_place]; split <;> rfl))
theorem fr_endOpenName_base (s : TS) (n : Str × Str) (c : Int) : (endOpenName s n c).base = s.base := by
  first
  | rfl
  | (unfold endOpenName; first | rfl | (simp only [fr_addToTarget_base, fr_openName_base]; done) | (split <;> first | rfl | (simp only [fr_addToTarget_base, fr_openName_base]; done)) | (simp only [fr_addToTarget_base, fr_openName_base]; split <;> rfl))
theorem fr_endOpenName_declared (s : TS) (n : Str × Str) (c : Int) : (endOpenName s n c).declared = s.declared := by
  first
  | rfl
  | (unfold endOpenName; first | rfl | (simp only [fr_addToTarget_declared, fr_openName_declared]; done) | (split <;> first | rfl | (simp only [fr_addToTarget_declared, fr_openName_declared]; done)) | (simp only [fr_addToTarget_declared, fr_openName_declared]; split <;> rfl))
theorem fr_endOpenName_rback (s : TS) (n : Str × Str) (c : Int) : (endOpenName s n c).rback = s.rback := by
  first
  | rfl
  | (unfold endOpenName; first | rfl | (simp only [fr_addToTarget_rback, fr_openName_rback]; done) | (split <;> first | rfl | (simp only [fr_addToTarget_rback, fr_openName_rback]; done)) | (simp only [fr_addToTarget_rback, fr_openName_rback]; split <;> rfl))
theorem fr_endOpenName_rcome (s : TS) (n : Str × Str) (c : Int) : (endOpenName s n c).rcome = s.rcome := by
  first
  | rfl
  | (unfold endOpenName; first | rfl | (simp only [fr_addToTarget_rcome, fr_openName_rcome]; done) | (split <;> first | rfl | (simp only [fr_addToTarget_rcome, fr_openName_rcome]; done)) | (simp only [fr_addToTarget_rcome, fr_openName_rcome]; split <;> rfl))
theorem fr_endOpenName_rsix (s : TS) (n : Str × Str) (c : Int) : (endOpenName s n c).rsix = s.rsix := by
  first
  | rfl
  | (unfold endOpenName; first | rfl | (simp only [fr_addToTarget_rsix, fr_openName_rsix]; done) | (split <;> first | rfl | (simp only [fr_addToTarget_rsix, fr_openName_rsix]; done)) | (simp only [fr_addToTarget_rsix, fr_openName_rsix]; split <;> rfl))
theorem fr_endOpenName_rdig (s : TS) (n : Str × Str) (c : Int) : (endOpenName s n c).rdig = s.rdig := by
  first
  | rfl
  | (unfold endOpenName; first | rfl | (simp only [fr_addToTarget_rdig, fr_openName_rdig]; done) | (split <;> first | rfl | (simp only [fr_addToTarget_rdig, fr_openName_rdig]; done)) | (simp only [fr_addToTarget_rdig, fr_openName_rdig]; split <;> rfl))
theorem fr_endOpenName_rnum (s : TS) (n : Str × Str) (c : Int) : (endOpenName s n c).rnum = s.rnum := by
  first
  | rfl
  | (unfold endOpenName; first | rfl | (simp only [fr_addToTarget_rnum, fr_openName_rnum]; done) | (split <;> first | rfl | (simp only [fr_addToTarget_rnum, fr_openName_rnum]; done)) | (simp only [fr_addToTarget_rnum, fr_openName_rnum]; split <;> rfl))
theorem fr_tagS_begun (s : TS) : (tagS s).begun = s.begun := by
  first
  | rfl
  | (unfold tagS; first | rfl | (simp only []; done) | (split <;> first | rfl | (simp only []; done)) | (simp only []; split <;> rfl))
theorem fr_tagS_behind (s : TS) : (tagS s).behind = s.behind := by
  first
  | rfl
  | (unfold tagS; first | rfl | (simp only []; done) | (split <;> first | rfl | (simp only []; done)) | (simp only []; split <;> rfl))
theorem fr_tagS_limit (s : TS) : (tagS s).limit = s.limit := by
  first
  | rfl
  | (unfold tagS; first | rfl | (simp only []; done) | (split <;> first | rfl | (simp only []; done)) | (simp only []; split <;> rfl))
theorem fr_tagS_bytes (s : TS) : (tagS s).bytes = s.bytes := by
  first
  | rfl
  | (unfold tagS; first | rfl | (simp only []; done) | (split <;> first | rfl | (simp only []; done)) | (simp only []; split <;> rfl))
theorem fr_tagS_closed (s : TS) : (tagS s).closed = s.closed := by
  first
  | rfl
  | (unfold tagS; first | rfl | (simp only []; done) | (split <;> first | rfl | (simp only []; done)) | (simp only []; split <;> rfl))
theorem fr_tagS_place (s : TS) : (tagS s).place = s.place := by
  first
  | rfl
  | (unfold tagS; first | rfl | (simp only []; done) | (split <;> first | rfl | (simp only []; done)) | (simp only []; split <;> rfl))
theorem fr_tagS_base (s : TS) : (tagS s).base = s.base := by
  first
  | rfl
  | (unfold tagS; first | rfl | (simp only []; done) | (split <;> first | rfl | (simp only []; done)) | (simp only []; split <;> rfl))
theorem fr_tagS_declared (s : TS) : (tagS s).declared = s.declared := by
  first
  | rfl
  | (unfold tagS; first | rfl | (simp only []; done) | (split <;> first | rfl | (simp only []; done)) | (simp only []; split <;> rfl))
theorem fr_tagS_state (s : TS) : (tagS s).state = s.state := by
  first
  | rfl
  | (unfold tagS; first | rfl | (simp only []; done) | (split <;> first | rfl | (simp only []; done)) | (simp only []; split <;> rfl))
theorem fr_tagS_rback (s : TS) : (tagS s).rback = s.rback := by
  first
  | rfl
  | (unfold tagS; first | rfl | (simp only []; done) | (split <;> first | rfl | (simp only []; done)) | (simp only []; split <;> rfl))
theorem fr_tagS_rcome (s : TS) : (tagS s).rcome = s.rcome := by
  first
  | rfl
  | (unfold tagS; first | rfl | (simp only []; done) | (split <;> first | rfl | (simp only []; done)) | (simp only []; split <;> rfl))
theorem fr_tagS_rsix (s : TS) : (tagS s).rsix = s.rsix := by
  first
  | rfl
  | (unfold tagS; first | rfl | (simp only []; done) | (split <;> first | rfl | (simp only []; done)) | (simp only []; split <;> rfl))
theorem fr_tagS_rdig (s : TS) : (tagS s).rdig = s.rdig := by
  first
  | rfl
  | (unfold tagS; first | rfl | (simp only []; done) | (split <;> first | rfl | (simp only []; done)) | (simp only []; split <;> rfl))
theorem fr_tagS_rnum (s : TS) : (tagS s).rnum = s.rnum := by
  first
  | rfl
  | (unfold tagS; first | rfl | (simp only []; done) | (split <;> first | rfl | (simp only []; done)) | (simp only []; split <;> rfl))
theorem fr_tellTag_begun (s : TS) : (tellTag s).begun = s.begun := by
  unfold tellTag startTag endTag
  simp only []
  (repeat' split) <;> simp only [fr_tell_begun, fr_wrong_begun, fr_tagS_begun]
theorem fr_tellTag_behind (s : TS) : (tellTag s).behind = s.behind := by
  unfold tellTag startTag endTag
  simp only []
  (repeat' split) <;> simp only [fr_tell_behind, fr_wrong_behind, fr_tagS_behind]
theorem fr_tellTag_limit (s : TS) : (tellTag s).limit = s.limit := by
  unfold tellTag startTag endTag
  simp only []
  (repeat' split) <;> simp only [fr_tell_limit, fr_wrong_limit, fr_tagS_limit]
theorem fr_tellTag_bytes (s : TS) : (tellTag s).bytes = s.bytes := by
  unfold tellTag startTag endTag
  simp only []
  (repeat' split) <;> simp only [fr_tell_bytes, fr_wrong_bytes, fr_tagS_bytes]
theorem fr_tellTag_closed (s : TS) : (tellTag s).closed = s.closed := by
  unfold tellTag startTag endTag
  simp only []
  (repeat' split) <;> simp only [fr_tell_closed, fr_wrong_closed, fr_tagS_closed]
theorem fr_tellTag_place (s : TS) : (tellTag s).place = s.place := by
  unfold tellTag startTag endTag
  simp only []
  (repeat' split) <;> simp only [fr_tell_place, fr_wrong_place, fr_tagS_place]
theorem fr_tellTag_declared (s : TS) : (tellTag s).declared = s.declared := by
  unfold tellTag startTag endTag
  simp only []
  (repeat' split) <;> simp only [fr_tell_declared, fr_wrong_declared, fr_tagS_declared]
theorem fr_tellTag_rback (s : TS) : (tellTag s).rback = s.rback := by
  unfold tellTag startTag endTag
  simp only []
  (repeat' split) <;> simp only [fr_tell_rback, fr_wrong_rback, fr_tagS_rback]
theorem fr_tellTag_rcome (s : TS) : (tellTag s).rcome = s.rcome := by
  unfold tellTag startTag endTag
  simp only []
  (repeat' split) <;> simp only [fr_tell_rcome, fr_wrong_rcome, fr_tagS_rcome]
theorem fr_tellTag_rsix (s : TS) : (tellTag s).rsix = s.rsix := by
  unfold tellTag startTag endTag
  simp only []
  (repeat' split) <;> simp only [fr_tell_rsix, fr_wrong_rsix, fr_tagS_rsix]
theorem fr_tellTag_rdig (s : TS) : (tellTag s).rdig = s.rdig := by
  unfold tellTag startTag endTag
  simp only []
  (repeat' split) <;> simp only [fr_tell_rdig, fr_wrong_rdig, fr_tagS_rdig]
theorem fr_tellTag_rnum (s : TS) : (tellTag s).rnum = s.rnum := by
  unfold tellTag startTag endTag
  simp only []
  (repeat' split) <;> simp only [fr_tell_rnum, fr_wrong_rnum, fr_tagS_rnum]
theorem fr_noDecl_begun (s : TS) : (noDecl s).begun = s.begun := by
  first
  | rfl
  | (unfold noDecl; first | rfl | (simp only []; done) | (split <;> first | rfl | (simp only []; done)) | (simp only []; split <;> rfl))
theorem fr_noDecl_behind (s : TS) : (noDecl s).behind = s.behind := by
  first
  | rfl
  | (unfold noDecl; first | rfl | (simp only []; done) | (split <;> first | rfl | (simp only []; done)) | (simp only []; split <;> rfl))
theorem fr_noDecl_limit (s : TS) : (noDecl s).limit = s.limit := by
  first
  | rfl
  | (unfold noDecl; first | rfl | (simp only []; done) | (split <;> first | rfl | (simp only []; done)) | (simp only []; split <;> rfl))
theorem fr_noDecl_bytes (s : TS) : (noDecl s).bytes = s.bytes := by
  first
  | rfl
  | (unfold noDecl; first | rfl | (simp only []; done) | (split <;> first | rfl | (simp only []; done)) | (simp only []; split <;> rfl))
theorem fr_noDecl_closed (s : TS) : (noDecl s).closed = s.closed := by
  first
  | rfl
  | (unfold noDecl; first | rfl | (simp only []; done) | (split <;> first | rfl | (simp only []; done)) | (simp only []; split <;> rfl))
theorem fr_noDecl_place (s : TS) : (noDecl s).place = s.place := by
  first
  | rfl
  | (unfold noDecl; first | rfl | (simp only []; done) | (split <;> first | rfl | (simp only []; done)) | (simp only []; split <;> rfl))
theorem fr_noDecl_base (s : TS) : (noDecl s).base = s.base := by
  first
  | rfl
  | (unfold noDecl; first | rfl | (simp only []; done) | (split <;> first | rfl | (simp only []; done)) | (simp only []; split <;> rfl))
theorem fr_noDecl_state (s : TS) : (noDecl s).state = s.state := by
  first
  | rfl
  | (unfold noDecl; first | rfl | (simp only []; done) | (split <;> first | rfl | (simp only []; done)) | (simp only []; split <;> rfl))
theorem fr_noDecl_rback (s : TS) : (noDecl s).rback = s.rback := by
  first
  | rfl
  | (unfold noDecl; first | rfl | (simp only []; done) | (split <;> first | rfl | (simp only []; done)) | (simp only []; split <;> rfl))
theorem fr_noDecl_rcome (s : TS) : (noDecl s).rcome = s.rcome := by
  first
  | rfl
  | (unfold noDecl; first | rfl | (simp only []; done) | (split <;> first | rfl | (simp only []; done)) | (simp only []; split <;> rfl))
theorem fr_noDecl_rsix (s : TS) : (noDecl s).rsix = s.rsix := by
  first
  | rfl
  | (unfold noDecl; first | rfl | (simp only []; done) | (split <;> first | rfl | (simp only []; done)) | (simp only []; split <;> rfl))
theorem fr_noDecl_rdig (s : TS) : (noDecl s).rdig = s.rdig := by
  first
  | rfl
  | (unfold noDecl; first | rfl | (simp only []; done) | (split <;> first | rfl | (simp only []; done)) | (simp only []; split <;> rfl))
theorem fr_noDecl_rnum (s : TS) : (noDecl s).rnum = s.rnum := by
  first
  | rfl
  | (unfold noDecl; first | rfl | (simp only []; done) | (split <;> first | rfl | (simp only []; done)) | (simp only []; split <;> rfl))
theorem fr_noDecl_tag (s : TS) : (noDecl s).tag = s.tag := by
  first
  | rfl
  | (unfold noDecl; first | rfl | (simp only []; done) | (split <;> first | rfl | (simp only []; done)) | (simp only []; split <;> rfl))
theorem fr_setCome_begun (s : TS) (l : Str) : (setCome s l).begun = s.begun := by
  first
  | rfl
  | (unfold setCome; first | rfl | (simp only []; done) | (split <;> first | rfl | (simp only []; done)) | (simp only []; split <;> rfl))
theorem fr_setCome_behind (s : TS) (l : Str) : (setCome s l).behind = s.behind := by
  first
  | rfl
  | (unfold setCome; first | rfl | (simp only []; done) | (split <;> first | rfl | (simp only []; done)) | (simp only []; split <;> rfl))
theorem fr_setCome_limit (s : TS) (l : Str) : (setCome s l).limit = s.limit := by
  first
  | rfl
  | (unfold setCome; first | rfl | (simp only []; done) | (split <;> first | rfl | (simp only []; done)) | (simp only []; split <;> rfl))
theorem fr_setCome_bytes (s : TS) (l : Str) : (setCome s l).bytes = s.bytes := by
  first
  | rfl
  | (unfold setCome; first | rfl | (simp only []; done) | (split <;> first | rfl | (simp only []; done)) | (simp only []; split <;> rfl))
theorem fr_setCome_closed (s : TS) (l : Str) : (setCome s l).closed = s.closed := by
  first
  | rfl
  | (unfold setCome; first | rfl | (simp only []; done) | (split <;> first | rfl | (simp only []; done)) | (simp only []; split <;> rfl))
theorem fr_setCome_place (s : TS) (l : Str) : (setCome s l).place = s.place := by
  first
  | rfl
  | (unfold setCome; first | rfl | (simp only []; done) | (split <;> first | rfl | (simp only []; done)) | (simp only []; split <;> rfl))
theorem fr_setCome_base (s : TS) (l : Str) : (setCome s l).base = s.base := by
  first
  | rfl
  | (unfold setCome; first | rfl | (simp only []; done) | (split <;> first | rfl | (simp only []; done)) | (simp only []; split <;> rfl))
theorem fr_setCome_declared (s : TS) (l : Str) : (setCome s l).declared = s.declared := by
  first
  | rfl
  | (unfold setCome; first | rfl | (simp only []; done) | (split <;> first | rfl | (simp only []; done)) | (simp only []; split <;> rfl))
theorem fr_setCome_state (s : TS) (l : Str) : (setCome s l).state = s.state := by
  first
  | rfl
  | (unfold setCome; first | rfl | (simp only []; done) | (split <;> first | rfl | (simp only []; done)) | (simp only []; split <;> rfl))
theorem fr_setCome_rback (s : TS) (l : Str) : (setCome s l).rback = s.rback := by
  first
  | rfl
  | (unfold setCome; first | rfl | (simp only []; done) | (split <;> first | rfl | (simp only []; done)) | (simp only []; split <;> rfl))
theorem fr_setCome_rsix (s : TS) (l : Str) : (setCome s l).rsix = s.rsix := by
  first
  | rfl
  | (unfold setCome; first | rfl | (simp only []; done) | (split <;> first | rfl | (simp only []; done)) | (simp only []; split <;> rfl))
theorem fr_setCome_rdig (s : TS) (l : Str) : (setCome s l).rdig = s.rdig := by
  first
  | rfl
  | (unfold setCome; first | rfl | (simp only []; done) | (split <;> first | rfl | (simp only []; done)) | (simp only []; split <;> rfl))
theorem fr_setCome_rnum (s : TS) (l : Str) : (setCome s l).rnum = s.rnum := by
  first
  | rfl
  | (unfold setCome; first | rfl | (simp only []; done) | (split <;> first | rfl | (simp only []; done)) | (simp only []; split <;> rfl))
theorem fr_setCome_tag (s : TS) (l : Str) : (setCome s l).tag = s.tag := by
  first
  | rfl
  | (unfold setCome; first | rfl | (simp only []; done) | (split <;> first | rfl | (simp only []; done)) | (simp only []; split <;> rfl))
theorem fr_addDigit_begun (s : TS) (c : Int) : (addDigit s c).begun = s.begun := by
  first
  | rfl
  | (unfold addDigit; first | rfl | (simp only []; done) | (split <;> first | rfl | (simp only []; done)) | (simp only []; split <;> rfl))
theorem fr_addDigit_behind (s : TS) (c : Int) : (addDigit s c).behind = s.behind := by
  first
  | rfl
  | (unfold addDigit; first | rfl | (simp only []; done) | (split <;> first | rfl | (simp only []; done)) | (simp only []; split <;> rfl))
theorem fr_addDigit_limit (s : TS) (c : Int) : (addDigit s c).limit = s.limit := by
  first
  | rfl
  | (unfold addDigit; first | rfl | (simp only []; done) | (split <;> first | rfl | (simp only []; done)) | (simp only []; split <;> rfl))
theorem fr_addDigit_bytes (s : TS) (c : Int) : (addDigit s c).bytes = s.bytes := by
  first
  | rfl
  | (unfold addDigit; first | rfl | (simp only []; done) | (split <;> first | rfl | (simp only []; done)) | (simp only []; split <;> rfl))
theorem fr_addDigit_closed (s : TS) (c : Int) : (addDigit s c).closed = s.closed := by
  first
  | rfl
  | (unfold addDigit; first | rfl | (simp only []; done) | (split <;> first | rfl | (simp only []; done)) | (simp only []; split <;> rfl))
theorem fr_addDigit_place (s : TS) (c : Int) : (addDigit s c).place = s.place := by
  first
  | rfl
  | (unfold addDigit; first | rfl | (simp only []; done) | (split <;> first | rfl | (simp only []; done)) | (simp only []; split <;> rfl))
theorem fr_addDigit_base (s : TS) (c : Int) : (addDigit s c).base = s.base := by
  first
  | rfl
  | (unfold addDigit; first | rfl | (simp only []; done) | (split <;> first | rfl | (simp only []; done)) | (simp only []; split <;> rfl))
theorem fr_addDigit_declared (s : TS) (c : Int) : (addDigit s c).declared = s.declared := by
  first
  | rfl
  | (unfold addDigit; first | rfl | (simp only []; done) | (split <;> first | rfl | (simp only []; done)) | (simp only []; split <;> rfl))
theorem fr_addDigit_state (s : TS) (c : Int) : (addDigit s c).state = s.state := by
  first
  | rfl
  | (unfold addDigit; first | rfl | (simp only []; done) | (split <;> first | rfl | (simp only []; done)) | (simp only []; split <;> rfl))
theorem fr_addDigit_rback (s : TS) (c : Int) : (addDigit s c).rback = s.rback := by
  first
  | rfl
  | (unfold addDigit; first | rfl | (simp only []; done) | (split <;> first | rfl | (simp only []; done)) | (simp only []; split <;> rfl))
theorem fr_addDigit_rcome (s : TS) (c : Int) : (addDigit s c).rcome = s.rcome := by
  first
  | rfl
  | (unfold addDigit; first | rfl | (simp only []; done) | (split <;> first | rfl | (simp only []; done)) | (simp only []; split <;> rfl))
theorem fr_addDigit_rsix (s : TS) (c : Int) : (addDigit s c).rsix = s.rsix := by
  first
  | rfl
  | (unfold addDigit; first | rfl | (simp only []; done) | (split <;> first | rfl | (simp only []; done)) | (simp only []; split <;> rfl))
theorem fr_addDigit_tag (s : TS) (c : Int) : (addDigit s c).tag = s.tag := by
  first
  | rfl
  | (unfold addDigit; first | rfl | (simp only []; done) | (split <;> first | rfl | (simp only []; done)) | (simp only []; split <;> rfl))
end Go.Proofs.YtdfmapcnfficlaaGreatDoor

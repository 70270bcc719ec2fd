/-
  Write and Close of a tokenizer that is open.
-/
import Derived.Test.YtdfmapcnfficlaaGreatDoorEnds
import Derived.Test.YtdfmapcnfficlaaGreatDoorCut
import Derived.Deep.QuietTactic
import Derived.BigQuiet
set_option linter.unusedSimpArgs false
set_option linter.unusedVariables false
namespace Go.Proofs.YtdfmapcnfficlaaGreatDoor
open Go Go.RowKit
section
variable {w0 : World} {own0 : Nat → Prop} {b : Nat} {s : TS} {ex : List Item} {w : World} {R : Regs} {c : Int}

theorem Tk.drewN (h : Tk w0 own0 b s ex w) (n : Nat) : Tk w0 own0 b s ex (w.drewN n) := h.more ⟨rfl, rfl, rfl, Nat.le_refl _, fun _ _ => rfl⟩

theorem extract_all (x : Str) : (⟨x.toArray⟩ : ByteArray).extract 0 x.length = ⟨x.toArray⟩ := by
  apply ByteArray.ext
  simp

set_option maxHeartbeats 1600000 in
set_option maxRecDepth 1000000 in
theorem write_ok {n : Nat} (ho : Open s n) (x : Str) (hn : n + x.length ≤ 1073741824) (hl : (n + x.length : Int) ≤ s.limit) (hl2 : s.limit ≤ 9223372036854775807) (B : Base w0 own0) (h : Tk w0 own0 b s ex w) :
    Calls Tryz.prog 17 #[.pointer (some ⟨b, 0, none⟩), .string ⟨x.toArray⟩] w fun e w' => e = .returned .nilIface ∧ Tk w0 own0 b (put s x) ex w' := by
  obtain ⟨hr, _, _⟩ := open_put (w0 := w0) (own0 := own0) ho x hn
  have hby := ho.by'
  have c1 := limit_cell h
  have c2 := bytes_cell h
  have f1 := h.frozen
  have HI := hide (isClosed_does h)
  rw [ho.cl] at HI
  have hsh := ho.short
  have H1 := hide (fun W (hW : Tk w0 own0 b { s with bytes := s.bytes + x.length } ex W) => read_does (s := { s with bytes := s.bytes + x.length }) 4 (s.begun ++ x).length x B (by show s.begun.length + x.length ≤ lim; unfold lim; omega) (hr B) hW)
  have HT := hide (fun nq => tk_bytes (h.drewN nq) (s.bytes + x.length))
  have hmin : min (x.length : Int) (s.limit - s.bytes) = x.length := by omega
  have hsl : ∀ W, (Instr.slice 9 (.string ⟨x.toArray⟩) none (some (.int .i64 (x.length : Int))) none).run Tryz.prog W = .ok (.string ⟨x.toArray⟩) W := fun W => by
    rw [run_slice_string_to_if W 9 ⟨x.toArray⟩ .i64 x.length Tryz.underlying9, if_pos ⟨by omega, by simp [ByteArray.size]⟩, Int.toNat_natCast, extract_all]
  have hle : (x.length : Int) ≤ s.limit - s.bytes := by omega
  unfold put
  unfold lookV at H1
  clear ho hr B h
  simp only [hby] at H1 HT c2 hmin hle ⊢
  clear hby
  go_enter Tryz.func17, Tryz.ntmps17
  go_wp2_with fail
  refine (unhide HI).mono ?_
  rintro e w1 ⟨rfl, rfl⟩
  go_wp2_with fail
  go_quiet (fail)
  go_wp2_with fail
  have HT1 := hide (unhide HT nq)
  clear HT HI c1 c2
  try simp only [hmin]
  generalize (w1.drewN nq).setCell ⟨b, 3, none⟩ (.int .i64 ((n : Int) + (x.length : Int))) = W at *
  have HT2 := hide (unhide HT1).drew
  clear f1
  go_region_with (go_at_call 33; refine (unhide H1 _ (by first | exact unhide HT1 | exact unhide HT2)).mono ?_; rintro e w2 ⟨rfl, h2⟩)
  all_goals
    go_wp2
    go_ret
    exact ⟨rfl, h2⟩

set_option maxHeartbeats 1600000 in
set_option maxRecDepth 1000000 in
theorem close_ok {n : Nat} (ho : Open s n) (hn : n ≤ 1073741824) (B : Base w0 own0) (h : Tk w0 own0 b s ex w) :
    Calls Tryz.prog 22 #[.pointer (some ⟨b, 0, none⟩)] w fun e w' => e = .returned .nilIface ∧ Tk w0 own0 b (closeT s) ex w' := by
  have HI := hide (isClosed_does h)
  rw [ho.cl] at HI
  have hsz := ho.small
  have hpl := ho.place
  have H1 := hide (endAll_does B ho.fine (by omega) (by unfold lim; omega) h)
  have hez := endAll_small w0 ho hn
  have H2 := hide (fun W (hW : Tk w0 own0 b (endAll s) ex W) => tell_does { kind := 6 } ⟨none, 0⟩ (tk_bare hW) (by unfold lim; omega : (endAll s).told.length + 1 ≤ lim))
  simp only [tokCells] at H2
  unfold closeT
  clear ho B h
  go_enter Tryz.func22, Tryz.ntmps22
  go_wp2_with fail
  refine (unhide HI).mono ?_
  rintro e w1 ⟨rfl, rfl⟩
  go_wp2_with fail
  refine (unhide H1).mono ?_
  rintro e w2 ⟨rfl, h2⟩
  go_wp2_with fail
  refine (unhide H2 _ h2).mono ?_
  rintro e w3 ⟨rfl, h3⟩
  go_wp2
  go_ret
  exact ⟨rfl, h3⟩
end
end Go.Proofs.YtdfmapcnfficlaaGreatDoor

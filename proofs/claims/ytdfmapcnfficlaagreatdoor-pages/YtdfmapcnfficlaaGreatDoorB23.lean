/-
  The longest name.
  The library's contracts at this dump.
-/
import Derived.Test.YtdfmapcnfficlaaGreatDoorB22
import Derived.Shelf.Strings.Builder1
import Derived.Shelf.Strings.Builder2
import Derived.Shelf.Small.Utf8
import Derived.Shelf.Strings.BuilderF
import Derived.Shelf.Strings.BuilderK
import Derived.Shelf.Strings.BuilderRune
import Derived.Shelf.Strconv.Itoa0
import Derived.Shelf.Strconv.Itoa1
import Derived.Shelf.LaysM
import Derived.Shelf.Strconv.Itoa2
import Derived.Shelf.Strconv.Itoa3
import Derived.Shelf.Strconv.Clone
import Derived.Shelf.Unicode.DecodeSlow
import Derived.Shelf.Unicode.DecodeAny
import Derived.Shelf.Strings.MapAny
import Derived.Test.YtdfmapcnfficlaaGreatDoorProg
set_option linter.unusedSimpArgs false
set_option linter.unusedVariables false
namespace Go.Proofs.YtdfmapcnfficlaaGreatDoor
open Go Go.RowKit

def findFrom (come : Str) : List (Str × Str) → Str × Str → (Str × Str) × Bool
  | [], l => (l, false)
  | n :: r, l => if partOf come n.1 = true then (l, true) else if hasPre come n.1 = false ∨ n.1.length < l.1.length then findFrom come r l else findFrom come r n
def findName (come : Str) : (Str × Str) × Bool := findFrom come namesT ([], [])
def namedV (n : Str × Str) : Value := .agg #[.string ⟨n.1.toArray⟩, .string ⟨n.2.toArray⟩]

theorem pairs_at : ∀ (l : List (Str × Str)) (j : Nat) (n : Str × Str), l[j]? = some n → ((l.flatMap fun n => [Value.string ⟨n.1.toArray⟩, Value.string ⟨n.2.toArray⟩]).drop (j * 2)).take 2 = [Value.string ⟨n.1.toArray⟩, Value.string ⟨n.2.toArray⟩]
  | [], j, n, h => by simp at h
  | a :: r, 0, n, h => by
    have : a = n := by simpa using h
    subst this
    simp [List.flatMap_cons]
  | a :: r, j + 1, n, h => by
    have h1 := pairs_at r j n (by simpa using h)
    rw [show (j + 1) * 2 = j * 2 + 1 + 1 by omega]
    simpa only [List.flatMap_cons, List.cons_append, List.nil_append, List.drop_succ_cons] using h1

theorem names_ix : ∀ (j : Nat) (n : Str × Str), namesT[j]? = some n → ∀ W, (Instr.index 223 (.agg namesCells) (.int .i64 j)).run Tryz.prog W = .ok (namedV n) W := by
  intro j n h W
  have hj : j < 21 := (List.getElem?_eq_some_iff.1 h).1
  have hs : (sizeOf 198).run Tryz.prog W = .ok 2 W := by kernel_rfl
  have hg : (isAgg 198).run Tryz.prog W = .ok true W := by kernel_rfl
  have hx : namesCells.extract (j * 2) (j * 2 + 2) = #[Value.string ⟨n.1.toArray⟩, Value.string ⟨n.2.toArray⟩] := by
    rw [namesCells, List.extract_toArray, List.extract_eq_drop_take', List.drop_take, show j * 2 + 2 - j * 2 = 2 by omega, pairs_at namesT j n h]
  simp [Instr.index, asIntOf, run_underlying Tryz.underlying223, hs, hj, part, hg, hx, namedV]

theorem More.set {w w1 : World} (h : More w w1) {b : Nat} (hb : w.heap.size ≤ b) (o : Nat) (v : Value) : More w (w1.setCell ⟨b, o, none⟩ v) :=
  ⟨h.os, h.tape, h.output, by simpa [World.setCell] using h.size, fun k hk => (set_other v (by omega)).trans (h.block k hk)⟩

theorem results_cell_tmp {P : Program} {fn : Func} {p q : Tmp} {ty : TypeId} (h : fn.results = #[.cell p ty, .tmp q]) (tmps : Array Value) (w : World) (g : Nat) (t : TypeId) (cs : Array Value) (fr : Nat × Nat) (d : TypeDesc)
    (hp : tmps.getD p undef = .pointer (some ⟨g, 0, none⟩)) (hg : w.heap[g]? = some (.cells cs t fr))
    (hu : P.underlying ty = some d) (hd : (match d with | .struct _ | .array _ _ => true | _ => false) = true) (hi : (P.info? ty).map (·.size) = some cs.size) :
    (results fn tmps).run P w = .ok (.tuple #[.agg cs, tmps.getD q undef]) w := by
  have hp' : tmps[p]?.getD undef = .pointer (some ⟨g, 0, none⟩) := by simpa using hp
  simp [results, h, hp', asAddr, run_loadVar_row w g t ty cs fr d hg hu hd hi]

theorem names_len : ∀ n ∈ namesT, n.1.length ≤ 7 := by decide

set_option maxHeartbeats 4000000 in
set_option maxRecDepth 1000000 in
theorem findName_does (come : Str) (w : World) (L : Laid w) (hc : come.length ≤ 64) : Calls Tryz.prog 213 #[.string ⟨come.toArray⟩] w fun e w' => e = .returned (.tuple #[namedV (findName come).1, .bool (findName come).2]) ∧ More w w' := by
  obtain ⟨t, fr, hnm⟩ := L.names
  have hsz : (Tryz.prog.info? 223).map (·.size) = some namesCells.size := by kernel_rfl
  have hm0 := (More.refl w).alloc (.cells #[.string ⟨#[]⟩, .string ⟨#[]⟩] 198)
  have hblk0 := (hm0.block _ (Array.getElem?_eq_some_iff.1 hnm).1).trans hnm
  have hIX := hide names_ix
  generalize namesCells = A at *
  clear hnm L
  go_enter Tryz.func213, Tryz.ntmps213
  go_wp2
  go_step3
  go_wp2
  go_step3
  go_wp2_with (refine wpList_load_row rfl 223 (.global 5) rfl 5 rfl t A fr _ hblk0 Tryz.underlying223 rfl hsz ?_)
  clear hblk0 hsz
  go_loopg [3, 7] 21 (fun gf s3 s7 wx => ∃ (k : Nat) (l : Str × Str), k + gf = 21 ∧ s3 = .bool false ∧ s7 = .int .i64 k ∧ wx.heap[w.heap.size]? = some (.cells #[.string ⟨l.1.toArray⟩, .string ⟨l.2.toArray⟩] 198 (0, 0)) ∧ More w wx ∧ findFrom come (namesT.drop k) l = findName come)
  case atStart => exact ⟨0, ([], []), by omega, rfl, rfl, heap_alloc_new _ _, hm0, rfl⟩
  case round =>
    obtain ⟨k, l, hkg, rfl, rfl, hblk, hM, hfin⟩ := hrel
    have c0 : wr.cell? ⟨w.heap.size, 0, none⟩ = some (.string ⟨l.1.toArray⟩) := cell_of_self hblk 0
    have c1 : wr.cell? ⟨w.heap.size, 1, none⟩ = some (.string ⟨l.2.toArray⟩) := cell_of_self hblk 1
    have f1 := frozen_of_self hblk
    have hlt : w.heap.size < wr.heap.size := (Array.getElem?_eq_some_iff.1 hblk).1
    by_cases hk : k < 21
    · obtain ⟨n, hn⟩ : ∃ n, namesT[k]? = some n := ⟨_, List.getElem?_eq_getElem hk⟩
      have hix := (unhide hIX) k n hn
      have hdrop : namesT.drop k = n :: namesT.drop (k + 1) := by
        have := List.drop_eq_getElem_cons (l := namesT) (i := k) hk
        rw [this]
        congr 1
        exact Option.some.inj ((List.getElem?_eq_getElem hk).symm.trans hn)
      rw [hdrop, findFrom] at hfin
      clear hdrop
      unfold namedV at hix
      have hkz : (k : Int) < 21 := by omega
      obtain ⟨g', rfl⟩ : ∃ g', gk = g' + 1 := ⟨gk - 1, by omega⟩
      have hnl : n.1.length ≤ 7 := names_len n (List.mem_of_getElem? hn)
      have HP := hide (fun W => isPartOf_does come n.1 W (by unfold lim; omega) (by unfold lim; omega))
      have HH := hide (fun W => hasPrefix_does come n.1 W (by unfold lim; omega) (by unfold lim; omega))
      have HM := hide hM
      have HB := hide hblk
      clear hM hblk hn hm0
      cases hp : partOf come n.1
      · rw [hp] at HP
        rw [if_neg (by rw [hp]; decide)] at hfin
        cases hh : hasPre come n.1
        · rw [hh] at HH
          rw [if_pos (.inl hh)] at hfin
          have HF := hide hfin
          clear hfin
          go_wp2_with (first
            | (go_at_call 241; refine (unhide HP _).mono ?_; rintro e w1 ⟨rfl, rfl⟩)
            | (go_at_call 249; refine (unhide HH _).mono ?_; rintro e w1 ⟨rfl, rfl⟩))
          go_roundg g'
          case measure => omega
          case rel => exact ⟨k + 1, l, by omega, rfl, by go_num, ((More.refl wr).alloc _).block _ hlt |>.trans (unhide HB), (unhide HM).alloc _, unhide HF⟩
        · rw [hh] at HH
          by_cases hl : n.1.length < l.1.length
          · rw [if_pos (.inr hl)] at hfin
            have HF := hide hfin
            clear hfin
            go_wp2_with (first
              | (go_at_call 241; refine (unhide HP _).mono ?_; rintro e w1 ⟨rfl, rfl⟩)
              | (go_at_call 249; refine (unhide HH _).mono ?_; rintro e w1 ⟨rfl, rfl⟩))
            go_roundg g'
            case measure => omega
            case rel => exact ⟨k + 1, l, by omega, rfl, by go_num, ((More.refl wr).alloc _).block _ hlt |>.trans (unhide HB), (unhide HM).alloc _, unhide HF⟩
          · rw [if_neg (by rw [hh]; simpa using hl)] at hfin
            have hl' : l.1.length ≤ n.1.length := by omega
            have HF := hide hfin
            clear hfin
            go_wp2_with (first
              | (go_at_call 241; refine (unhide HP _).mono ?_; rintro e w1 ⟨rfl, rfl⟩)
              | (go_at_call 249; refine (unhide HH _).mono ?_; rintro e w1 ⟨rfl, rfl⟩))
            go_roundg g'
            case measure => omega
            case rel => exact ⟨k + 1, n, by omega, rfl, by go_num, (by rw [Below.heap_alloc _ _ _ (by simpa [World.setCell] using hlt), set_self (set_self (unhide HB) 0 _) 1 _]; rfl), (((unhide HM).set (Nat.le_refl _) _ _).set (Nat.le_refl _) _ _).alloc _, unhide HF⟩
      · rw [if_pos hp] at hfin
        rw [hp] at HP
        have HF := hide hfin
        clear hfin
        go_wp2_with (go_at_call 241; refine (unhide HP _).mono ?_; rintro e w1 ⟨rfl, rfl⟩)
        rw [Exit.noGoto_ret]
        refine bodyPost_ret (results_cell_tmp rfl _ _ w.heap.size 198 #[.string ⟨l.1.toArray⟩, .string ⟨l.2.toArray⟩] (0, 0) _ rfl ?_ Tryz.underlying198 rfl (by kernel_rfl)) rfl ?_
        · rw [Below.heap_alloc _ _ _ (by simpa [World.setCell] using hlt), set_self (set_self (unhide HB) 0 _) 1 _]
          rfl
        · exact ⟨by rw [← unhide HF]; rfl, ((((unhide HM).set (Nat.le_refl _) _ _).set (Nat.le_refl _) _ _).alloc _)⟩
    · have hk' : k = 21 := by omega
      subst hk'
      have HF := hide hfin
      have HM := hide hM
      have HB := hide hblk
      clear hfin hM hblk hm0
      go_wp2
      rw [Exit.noGoto_ret]
      refine bodyPost_ret (results_cell_tmp rfl _ _ w.heap.size 198 #[.string ⟨l.1.toArray⟩, .string ⟨l.2.toArray⟩] (0, 0) _ rfl ?_ Tryz.underlying198 rfl (by kernel_rfl)) rfl ?_
      · rw [set_self (set_self (unhide HB) 0 _) 1 _]
        rfl
      · exact ⟨by rw [← unhide HF]; rfl, (((unhide HM).set (Nat.le_refl _) _ _).set (Nat.le_refl _) _ _)⟩
end Go.Proofs.YtdfmapcnfficlaaGreatDoor

namespace Go.Proofs
open Go.Shelf
def Tryz.laysM316_ren : Go.Shelf.Ren := ⟨fun | 316 => 88 | n => n, fun | 9 => 9 | 3 => 3 | 4 => 4 | 37 => 74 | 0 => 0 | 127 => 166 | 5 => 5 | n => n, fun | n => n⟩
theorem Tryz.laysM316 : Go.Proofs.LaysM.n316 Tryz.prog Tryz.laysM316_ren := {
  mixed := by kernel_rfl
  f316 := Tryz.func88.trans (congrArg some (by kernel_rfl))
  t0 := Tryz.underlying0
  a0 := Tryz.isAgg0
  z0 := Tryz.sizeOf0
  v0 := Tryz.zeroValue0
  t3 := Tryz.underlying3
  a3 := Tryz.isAgg3
  z3 := Tryz.sizeOf3
  v3 := Tryz.zeroValue3
  t4 := Tryz.underlying4
  a4 := Tryz.isAgg4
  z4 := Tryz.sizeOf4
  v4 := Tryz.zeroValue4
  t9 := Tryz.underlying9
  a9 := Tryz.isAgg9
  z9 := Tryz.sizeOf9
  v9 := Tryz.zeroValue9
  t37 := Tryz.underlying74
  a37 := Tryz.isAgg74
  z37 := Tryz.sizeOf74
  v37 := Tryz.zeroValue74
  t127 := Tryz.underlying166
  a127 := Tryz.isAgg166
  z127 := Tryz.sizeOf166
  v127 := Tryz.zeroValue166
  t5 := Tryz.underlying5
  a5 := Tryz.isAgg5
  z5 := Tryz.sizeOf5
  v5 := Tryz.zeroValue5
  i0 := by kernel_rfl
  i3 := by kernel_rfl
  i4 := by kernel_rfl
  i5 := by kernel_rfl
  i9 := by kernel_rfl
  i37 := by kernel_rfl
  i127 := by kernel_rfl }
open Go.RowKit in
/-- internal/stringslite.Clone (what strings.Clone calls): "Clone returns a fresh copy of s.": THE SAME BYTES. Of what was there nothing has turned (a new row is laid, and frozen, where s is not empty). (LAID: no walk: one application.) -/
theorem Tryz.stringslite_Clone (s : ByteArray) (w : World) (hlim : s.size ≤ 281474976710656) :
    Calls Tryz.prog 88 #[.string s] w fun e w' => e = .returned (.string s) ∧ Below w.heap.size w w' := Any.stringslite_Clone Tryz.laysM316 s w hlim
def Tryz.lays260_ren : Go.Shelf.Ren := ⟨fun | 260 => 105 | n => n, fun | 9 => 9 | 21 => 21 | 3 => 3 | 4 => 4 | 5 => 5 | 119 => 162 | 0 => 0 | 46 => 126 | 139 => 165 | 138 => 164 | n => n, fun | 3 => 2 | 4 => 3 | n => n⟩
theorem Tryz.lays260 : Go.Proofs.Lays.n260 Tryz.prog Tryz.lays260_ren := {
  mixed := by kernel_rfl
  f260 := Tryz.func105.trans (congrArg some (by kernel_rfl))
  t0 := Tryz.underlying0
  a0 := Tryz.isAgg0
  z0 := Tryz.sizeOf0
  v0 := Tryz.zeroValue0
  t3 := Tryz.underlying3
  a3 := Tryz.isAgg3
  z3 := Tryz.sizeOf3
  v3 := Tryz.zeroValue3
  t4 := Tryz.underlying4
  a4 := Tryz.isAgg4
  z4 := Tryz.sizeOf4
  v4 := Tryz.zeroValue4
  t5 := Tryz.underlying5
  a5 := Tryz.isAgg5
  z5 := Tryz.sizeOf5
  v5 := Tryz.zeroValue5
  t9 := Tryz.underlying9
  a9 := Tryz.isAgg9
  z9 := Tryz.sizeOf9
  v9 := Tryz.zeroValue9
  t21 := Tryz.underlying21
  a21 := Tryz.isAgg21
  z21 := Tryz.sizeOf21
  v21 := Tryz.zeroValue21
  t46 := Tryz.underlying126
  a46 := Tryz.isAgg126
  z46 := Tryz.sizeOf126
  v46 := Tryz.zeroValue126
  t119 := Tryz.underlying162
  a119 := Tryz.isAgg162
  z119 := Tryz.sizeOf162
  t138 := Tryz.underlying164
  a138 := Tryz.isAgg164
  z138 := Tryz.sizeOf164
  v138 := Tryz.zeroValue164
  t139 := Tryz.underlying165
  a139 := Tryz.isAgg165
  z139 := Tryz.sizeOf165
  v139 := Tryz.zeroValue165
  g3 := by kernel_rfl
  g4 := by kernel_rfl }
open Go.RowKit Go.Lib in
theorem Tryz.utf8_decodeRuneInStringSlow (s : ByteArray) (w : World) (hT : Lib.Utf8Tabs 2 3 w) :
    Calls Tryz.prog 105 #[.string s] w fun e w' => e = .returned (.tuple #[.int .i32 (Lib.decodeGo s).1, .int .i64 (Lib.decodeGo s).2]) ∧ Below w.heap.size w w' := Any.utf8_decodeRuneInStringSlow Tryz.lays260 s w hT
def Tryz.lays197_ren : Go.Shelf.Ren := ⟨fun | 197 => 86 | 260 => 105 | n => n, fun | 9 => 9 | 21 => 21 | 3 => 3 | 4 => 4 | 5 => 5 | 105 => 118 | 119 => 162 | 0 => 0 | 46 => 126 | 139 => 165 | 138 => 164 | n => n, fun | 3 => 2 | 4 => 3 | n => n⟩
theorem Tryz.lays197 : Go.Proofs.Lays.n197 Tryz.prog Tryz.lays197_ren := {
  mixed := by kernel_rfl
  f197 := Tryz.func86.trans (congrArg some (by kernel_rfl))
  f260 := Tryz.func105.trans (congrArg some (by kernel_rfl))
  t0 := Tryz.underlying0
  a0 := Tryz.isAgg0
  z0 := Tryz.sizeOf0
  v0 := Tryz.zeroValue0
  t3 := Tryz.underlying3
  a3 := Tryz.isAgg3
  z3 := Tryz.sizeOf3
  v3 := Tryz.zeroValue3
  t4 := Tryz.underlying4
  a4 := Tryz.isAgg4
  z4 := Tryz.sizeOf4
  v4 := Tryz.zeroValue4
  t5 := Tryz.underlying5
  a5 := Tryz.isAgg5
  z5 := Tryz.sizeOf5
  v5 := Tryz.zeroValue5
  t9 := Tryz.underlying9
  a9 := Tryz.isAgg9
  z9 := Tryz.sizeOf9
  v9 := Tryz.zeroValue9
  t21 := Tryz.underlying21
  a21 := Tryz.isAgg21
  z21 := Tryz.sizeOf21
  v21 := Tryz.zeroValue21
  t46 := Tryz.underlying126
  a46 := Tryz.isAgg126
  z46 := Tryz.sizeOf126
  v46 := Tryz.zeroValue126
  t105 := Tryz.underlying118
  a105 := Tryz.isAgg118
  z105 := Tryz.sizeOf118
  v105 := Tryz.zeroValue118
  t119 := Tryz.underlying162
  a119 := Tryz.isAgg162
  z119 := Tryz.sizeOf162
  t138 := Tryz.underlying164
  a138 := Tryz.isAgg164
  z138 := Tryz.sizeOf164
  v138 := Tryz.zeroValue164
  t139 := Tryz.underlying165
  a139 := Tryz.isAgg165
  z139 := Tryz.sizeOf165
  v139 := Tryz.zeroValue165
  g3 := by kernel_rfl
  g4 := by kernel_rfl }
open Go.RowKit Go.Lib in
/-- **unicode/utf8.DecodeRuneInString AT EVERY STRING.** (LAID: no walk: one application.) -/
theorem Tryz.utf8_DecodeRuneInString (s : ByteArray) (w : World) (hT : Lib.Utf8Tabs 2 3 w) :
    Calls Tryz.prog 86 #[.string s] w fun e w' => e = .returned (.tuple #[.int .i32 (Lib.decodeGo s).1, .int .i64 (Lib.decodeGo s).2]) ∧ Below w.heap.size w w' := Any.utf8_DecodeRuneInString Tryz.lays197 s w hT
def Tryz.lays230_ren : Go.Shelf.Ren := ⟨fun | 230 => 203 | 197 => 86 | 118 => 242 | 165 => 243 | 166 => 244 | 168 => 245 | 270 => 246 | 167 => 247 | 169 => 248 | 260 => 105 | 240 => 256 | 241 => 257 | 242 => 126 | 276 => 263 | 277 => 264 | 278 => 190 | n => n, fun | 107 => 176 | 9 => 9 | 72 => 217 | 0 => 0 | 4 => 4 | 3 => 3 | 21 => 21 | 105 => 118 | 76 => 219 | 5 => 5 | 75 => 38 | 70 => 215 | 20 => 20 | 37 => 74 | 127 => 166 | 119 => 162 | 46 => 126 | 139 => 165 | 138 => 164 | 164 => 128 | 51 => 107 | 80 => 97 | n => n, fun | 3 => 2 | 4 => 3 | n => n⟩
theorem Tryz.lays230 : Go.Proofs.Lays.n230 Tryz.prog Tryz.lays230_ren := {
  mixed := by kernel_rfl
  f118 := Tryz.func242.trans (congrArg some (by kernel_rfl))
  f165 := Tryz.func243.trans (congrArg some (by kernel_rfl))
  f166 := Tryz.func244.trans (congrArg some (by kernel_rfl))
  f167 := Tryz.func247.trans (congrArg some (by kernel_rfl))
  f168 := Tryz.func245.trans (congrArg some (by kernel_rfl))
  f169 := Tryz.func248.trans (congrArg some (by kernel_rfl))
  f197 := Tryz.func86.trans (congrArg some (by kernel_rfl))
  f230 := Tryz.func203.trans (congrArg some (by kernel_rfl))
  f240 := Tryz.func256.trans (congrArg some (by kernel_rfl))
  f241 := Tryz.func257.trans (congrArg some (by kernel_rfl))
  f242 := Tryz.func126.trans (congrArg some (by kernel_rfl))
  f260 := Tryz.func105.trans (congrArg some (by kernel_rfl))
  f270 := Tryz.func246.trans (congrArg some (by kernel_rfl))
  f276 := Tryz.func263.trans (congrArg some (by kernel_rfl))
  f277 := Tryz.func264.trans (congrArg some (by kernel_rfl))
  f278 := Tryz.func190.trans (congrArg some (by kernel_rfl))
  t0 := Tryz.underlying0
  a0 := Tryz.isAgg0
  z0 := Tryz.sizeOf0
  v0 := Tryz.zeroValue0
  t3 := Tryz.underlying3
  a3 := Tryz.isAgg3
  z3 := Tryz.sizeOf3
  v3 := Tryz.zeroValue3
  t4 := Tryz.underlying4
  a4 := Tryz.isAgg4
  z4 := Tryz.sizeOf4
  v4 := Tryz.zeroValue4
  t5 := Tryz.underlying5
  a5 := Tryz.isAgg5
  z5 := Tryz.sizeOf5
  v5 := Tryz.zeroValue5
  t9 := Tryz.underlying9
  a9 := Tryz.isAgg9
  z9 := Tryz.sizeOf9
  v9 := Tryz.zeroValue9
  t20 := Tryz.underlying20
  a20 := Tryz.isAgg20
  z20 := Tryz.sizeOf20
  v20 := Tryz.zeroValue20
  t21 := Tryz.underlying21
  a21 := Tryz.isAgg21
  z21 := Tryz.sizeOf21
  v21 := Tryz.zeroValue21
  t37 := Tryz.underlying74
  a37 := Tryz.isAgg74
  z37 := Tryz.sizeOf74
  v37 := Tryz.zeroValue74
  t46 := Tryz.underlying126
  a46 := Tryz.isAgg126
  z46 := Tryz.sizeOf126
  v46 := Tryz.zeroValue126
  t51 := Tryz.underlying107
  a51 := Tryz.isAgg107
  z51 := Tryz.sizeOf107
  v51 := Tryz.zeroValue107
  t70 := Tryz.underlying215
  a70 := Tryz.isAgg215
  z70 := Tryz.sizeOf215
  v70 := Tryz.zeroValue215
  t72 := Tryz.underlying217
  a72 := Tryz.isAgg217
  z72 := Tryz.sizeOf217
  v72 := Tryz.zeroValue217
  t75 := Tryz.underlying38
  a75 := Tryz.isAgg38
  z75 := Tryz.sizeOf38
  v75 := Tryz.zeroValue38
  t76 := Tryz.underlying219
  a76 := Tryz.isAgg219
  z76 := Tryz.sizeOf219
  v76 := Tryz.zeroValue219
  t105 := Tryz.underlying118
  a105 := Tryz.isAgg118
  z105 := Tryz.sizeOf118
  v105 := Tryz.zeroValue118
  t107 := Tryz.underlying176
  a107 := Tryz.isAgg176
  z107 := Tryz.sizeOf176
  v107 := Tryz.zeroValue176
  t119 := Tryz.underlying162
  a119 := Tryz.isAgg162
  z119 := Tryz.sizeOf162
  t127 := Tryz.underlying166
  a127 := Tryz.isAgg166
  z127 := Tryz.sizeOf166
  v127 := Tryz.zeroValue166
  t138 := Tryz.underlying164
  a138 := Tryz.isAgg164
  z138 := Tryz.sizeOf164
  v138 := Tryz.zeroValue164
  t139 := Tryz.underlying165
  a139 := Tryz.isAgg165
  z139 := Tryz.sizeOf165
  v139 := Tryz.zeroValue165
  t164 := Tryz.underlying128
  a164 := Tryz.isAgg128
  z164 := Tryz.sizeOf128
  v164 := Tryz.zeroValue128
  g3 := by kernel_rfl
  g4 := by kernel_rfl }
theorem Tryz.Builder_Extra_230 : Builder.Extra Tryz.prog Tryz.lays230_ren := {
  sizeBuilder := by kernel_rfl
  liesBuilder := by kernel_rfl
  t5 := Tryz.underlying5
  a5 := Tryz.isAgg5
  z5 := Tryz.sizeOf5
  v5 := Tryz.zeroValue5
  infoByte := by kernel_rfl
  cellsByte := by kernel_rfl
  sizeByte := by kernel_rfl
  neB5 := by decide }
open Go.RowKit Go.Lib in
theorem Tryz.strings_Map_runes (g : Nat) (lb : Array Value) (eg : ∀ args w, (callFunc g args).run Tryz.prog w = .ok (.enter g args) w) (f : Int → Int) (s : ByteArray) (w : World) (hs : s.size < 35184372088832) (hf : MapAtRunes Tryz.prog g lb f w) (hnn : ∀ x : Nat, x ≤ 1114111 → 0 ≤ f x ∧ f x ≤ 2147483647) (hT : Lib.Utf8Tabs 2 3 w) :
    Calls Tryz.prog 203 #[.func (.func g) #[] lb, .string s] w fun e w' => e = .returned (.string ⟨(Lib.mapD f s.data.toList).toArray⟩) ∧ Below w.heap.size w w' := Any.strings_Map_runes Tryz.lays230 Tryz.Builder_Extra_230 g lb eg f s w hs hf hnn hT
end Go.Proofs

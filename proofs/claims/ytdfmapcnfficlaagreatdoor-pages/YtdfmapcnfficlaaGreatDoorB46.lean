/-
  append of a list of tokens onto a list of one's own that is held beside the tokenizer.
  The law's 'pick'.
  A list of tokens of one's own; slices of integers.
-/
import Derived.Test.YtdfmapcnfficlaaGreatDoorB03
import Derived.Laws.OwnMore
import Derived.Test.YtdfmapcnfficlaaGreatDoorB04
import Derived.Test.YtdfmapcnfficlaaGreatDoorB45
set_option linter.unusedSimpArgs false
set_option linter.unusedVariables false
namespace Go.Proofs.YtdfmapcnfficlaaGreatDoor
open Go Go.RowKit

theorem run_append_zero {P : Program} (w : World) (t ty e : TypeId) (i : TypeInfo) (size : Nat) (ht : P.underlying t = some (.slice e)) (hi : P.info? e = some i)
    (ao : Option Addr) (n cap : Nat) (xs : List Value) (hown : w.ownsRow 0 e size (.slice ao n cap) n xs) (ax : Option Addr) (c : Nat) :
    (Builtin.append_ #[t, t] ty #[.slice ao n cap, .slice ax 0 c]).run P w = .ok (.slice ao n cap) w := by
  cases ax with
  | none =>
    rcases hown.2 with ⟨hv, hn⟩ | ⟨g, cap', cur, hv, _, _, hnc, _⟩
    · injection hv with h1 h2 h3
      subst h1 h2 h3
      simp [Builtin.append_, run_underlying ht, sizeOf, typeInfo, hi, Builtin.lenOf, Builtin.firstCells]
    · injection hv with h1 h2 h3
      subst h1 h3
      simp [Builtin.append_, run_underlying ht, sizeOf, typeInfo, hi, Builtin.lenOf, Builtin.firstCells, hnc, storeCells]
  | some a =>
    rcases hown.2 with ⟨hv, hn⟩ | ⟨g, cap', cur, hv, _, _, hnc, _⟩
    · injection hv with h1 h2 h3
      subst h1 h2 h3
      simp [Builtin.append_, run_underlying ht, sizeOf, typeInfo, hi, Builtin.lenOf, Builtin.firstCells, loadCells, loadCellsFrom]
    · injection hv with h1 h2 h3
      subst h1 h3
      simp [Builtin.append_, run_underlying ht, sizeOf, typeInfo, hi, Builtin.lenOf, Builtin.firstCells, loadCells, loadCellsFrom, hnc, storeCells]

/-- 'append' of a row, empty ones too, onto a row of one's own. -/
theorem wpList_append_any {P : Program} (w : World) {ops : Array Oper} {rest : List Oper} {o : Oper} {a : Act} {Q : Exit → Act → World → Prop} (hgd : o.guard = none) (s x : Operand) (t : TypeId)
    (ho : o.op = .call { callee := .builtin .append, args := #[s, x], argTypes := #[t, t] })
    (e : TypeId) (i : TypeInfo) (z : Value) (size bytes : Nat) (ht : P.underlying t = some (.slice e)) (hi : P.info? e = some i) (hz : i.zero = some z)
    (hsize : i.size = size) (hby : i.bytes = bytes) (hzs : z.cells.size = size) (hsz : 0 < size)
    (ao : Option Addr) (n cap : Nat) (xs : List Value) (hs : a.eval s = .slice ao n cap) (hown : w.ownsRow 0 e size (.slice ao n cap) n xs)
    (ax : Option Addr) (m c : Nat) (news : List Value) (hx : a.eval x = .slice ax m c) (hl : news.length = m * size) (hnews : 0 < m → ∃ ad, ax = some ad ∧ ∀ j u, news[j]? = some u → w.cell? (ad.add j) = some u) (h1 : ∀ u ∈ news, u.oneCell' = true)
    (h63 : n + m ≤ maxLen) (hbytes : (n + m) * bytes ≤ 140737488355328)
    (h : ∀ ao' cap' w', w'.ownsRow 0 e size (.slice ao' (n + m) cap') (n + m) (xs ++ news) → w.grownBy w' (ao.map (·.block)) → Fresh w ao ao' → wpList P ops Q rest (a.put o.dst (.slice ao' (n + m) cap')) w') : wpList P ops Q (o :: rest) a w := by
  by_cases hm : m = 0
  · subst hm
    have hn : news = [] := List.length_eq_zero_iff.1 (by simpa using hl)
    subst hn
    refine wpList_plain hgd fun K hK => ?_
    have hr := run_append_zero (P := P) w t o.type e i size ht hi ao n cap xs hown ax c
    unfold Oper.wp execOp
    simp only [ho, resolve, invoke, builtin, Sem.run_bind, Sem.run_pure, Result.andThen_ok, List.map_toArray, List.map_cons, List.map_nil, hs, hx, hr]
    exact hK _ _ (h ao cap w (by simpa using hown) ⟨rfl, rfl, rfl, Nat.le_refl _, fun _ _ _ => rfl⟩ (.inl rfl))
  · obtain ⟨ad, rfl, hc⟩ := hnews (by omega)
    refine wpList_append_mine w hgd s x t ho e i z size bytes ht hi hz hsize hby hzs hsz ao n cap xs hs hown ad m c news hx hl hc h1 (by omega) h63 hbytes ?_
    intro a' cap' w' h2 h3 h4
    refine h (some a') cap' w' h2 h3 ?_
    rcases h4 with h4 | h4
    · exact .inl (by simpa using h4)
    · exact .inr ⟨a'.block, rfl, h4⟩

section
variable {w0 : World} {own0 : Nat → Prop} {b : Nat} {s : TS} {ex : List Item} {w : World}
/-- A row that is held beside the tokenizer has grown. -/
theorem Tk.ex_grow {w' : World} {l1 l2 : List Item} {it it' : Item} (h : Tk w0 own0 b s (l1 ++ it :: l2) w) (hg : w.grownBy w' it.blk) (h' : it'.ok w') (hf : Fresh w it.a it'.a) : Tk w0 own0 b s (l1 ++ it' :: l2) w' := by
  obtain ⟨⟨R, hR⟩, hk⟩ := h
  have hit : it ∈ itemsOf s R ++ (l1 ++ it :: l2) := by simp
  have hown := fun k (hb : it.blk = some k) => hR.rows.own k (List.mem_filterMap.2 ⟨it, hit, hb⟩)
  have hself : w'.heap[b]? = w.heap[b]? := hg.block b hR.lt_b (fun e => (hown b e.symm).2.1 rfl)
  refine ⟨⟨R, by rw [hself]; exact hR.self, hR.ownB, ?_, mapOf_kept hR.map fun g hgn => hg.block g (hR.map_lt g hgn) (fun e => (hown g e.symm).2.2 hgn.symm), hR.mapB, hR.la, hR.lv, hR.lt⟩, ?_⟩
  · have hI : Items w (fun k => (own0 k ∨ w0.heap.size ≤ k) ∧ k ≠ b ∧ some k ≠ R.names) ((itemsOf s R ++ l1) ++ it :: l2) := by rw [List.append_assoc]; exact hR.rows
    have hf' : it'.blk = it.blk ∨ ∃ g, it'.blk = some g ∧ w.heap.size ≤ g := hf
    have := hI.step hg h' hf' (fun k hk' => ⟨.inr (Nat.le_trans hk.size hk'), fun e => by have := hR.lt_b; omega, fun e => by have := hR.map_lt k e.symm; omega⟩)
    rw [List.append_assoc] at this
    exact this
  · exact ⟨hg.os.trans hk.os, hg.tape.trans hk.tape, hg.output.trans hk.output, Nat.le_trans hk.size hg.size, fun k hk' hn => by
      rw [hg.block k (by have := hk.size; omega) (fun e => by
        rcases (hown k e.symm).1 with h1 | h1
        · exact hn h1
        · omega)]
      exact hk.block k hk' hn⟩

/-- Rows that are held beside may be let go, and be put in another order. -/
theorem Tk.ex_less {l1 l2 ex' : List Item} (h : Tk w0 own0 b s ex w) (hp : ex.Perm (l1 ++ l2)) (hp' : ex'.Perm l1) : Tk w0 own0 b s ex' w := by
  obtain ⟨⟨R, hR⟩, hk⟩ := h
  refine ⟨⟨R, hR.self, hR.ownB, ?_, hR.map, hR.mapB, hR.la, hR.lv, hR.lt⟩, hk⟩
  have p1 : (itemsOf s R ++ ex).Perm ((itemsOf s R ++ l1) ++ l2) := by rw [List.append_assoc]; exact List.Perm.append_left _ hp
  have p2 : (itemsOf s R ++ ex').Perm ((itemsOf s R ++ l1) ++ []) := by rw [List.append_nil]; exact List.Perm.append_left _ hp'
  exact hR.rows.less (itemsOf s R ++ l1) l2 [] p1 (fun it hi => by cases hi) p2
end
end Go.Proofs.YtdfmapcnfficlaaGreatDoor

set_option linter.unusedSimpArgs false
set_option linter.unusedVariables false
namespace Go.Proofs.YtdfmapcnfficlaaGreatDoor
open Go Go.RowKit

def pickN (c : Int) (n : Int) : Int := Int.tmod (if c < 0 then -(c + 1) else c) n
theorem pickN_range (c n : Int) (hn : 0 < n) : 0 ≤ pickN c n ∧ pickN c n < n := by
  unfold pickN
  have h0 : 0 ≤ (if c < 0 then -(c + 1) else c) := by split <;> omega
  rw [Int.tmod_eq_emod_of_nonneg h0]
  exact ⟨Int.emod_nonneg _ (by omega), Int.emod_lt_of_pos _ hn⟩

set_option maxHeartbeats 800000 in
set_option maxRecDepth 1000000 in
theorem pick_does (c n : Int) (w : World) (h1 : -9223372036854775808 ≤ c) (h2 : c ≤ 9223372036854775807) (hn : 0 < n) (hn2 : n ≤ 9223372036854775807) :
    Calls Tryz.prog 21 #[.int .i64 c, .int .i64 n] w fun e w' => e = .returned (.int .i64 (pickN c n)) ∧ w' = w := by
  have hr := pickN_range c n hn
  unfold pickN at *
  by_cases hc : c < 0
  · rw [if_pos hc] at *
    go_enter Tryz.func21, Tryz.ntmps21
    go_wp2
    go_ret
    exact ⟨by rw [Int.neg_tmod]; rfl, rfl⟩
  · rw [if_neg hc] at *
    go_enter Tryz.func21, Tryz.ntmps21
    go_wp2
    go_ret
    exact ⟨by rw [Int.tmod_eq_emod_of_nonneg (by omega)]; rfl, rfl⟩
end Go.Proofs.YtdfmapcnfficlaaGreatDoor

set_option linter.unusedSimpArgs false
set_option linter.unusedVariables false
namespace Go.Proofs.YtdfmapcnfficlaaGreatDoor
open Go Go.RowKit

/-- The slice v of integers reads as l. -/
def IntsV (w : World) (v : Value) (l : List Int) : Prop := ∃ a cap, v = .slice a l.length cap ∧ (l ≠ [] → ∃ g o, a = some ⟨g, o, none⟩ ∧ g < w.heap.size ∧ ∀ (j : Nat) (z : Int), l[j]? = some z → w.cell? ⟨g, o + j, none⟩ = some (.int .i64 z)) ∧ l.length ≤ cap ∧ ∀ z ∈ l, -9223372036854775808 ≤ z ∧ z ≤ 9223372036854775807
theorem IntsV.more {w w' : World} {v : Value} {l : List Int} (h : IntsV w v l) (hm : More w w') : IntsV w' v l := by
  obtain ⟨a, cap, rfl, h1, h2, h3⟩ := h
  refine ⟨a, cap, rfl, fun hl => ?_, h2, h3⟩
  obtain ⟨g, o, e, hg, hc⟩ := h1 hl
  exact ⟨g, o, e, by have := hm.size; omega, fun j z hz => by rw [World.cell?_of_block (w := w) (hm.block g hg)]; exact hc j z hz⟩

theorem take_snoc_int (l : List Int) (k : Nat) (z : Int) (h : l[k]? = some z) : z ∈ l := List.mem_of_getElem? h

theorem toldCells_append : ∀ (l : List Tok) (ta : List Sl) (l' : List Tok) (ta' : List Sl), ta.length = l.length → toldCells (l ++ l') (ta ++ ta') = toldCells l ta ++ toldCells l' ta'
  | [], [], l', ta', _ => by simp [toldCells]
  | _ :: l, _ :: ta, l', ta', h => by simp [toldCells, toldCells_append l ta l' ta' (by simpa using h)]
theorem toldItems_append : ∀ (l : List Tok) (ta : List Sl) (l' : List Tok) (ta' : List Sl), ta.length = l.length → toldItems (l ++ l') (ta ++ ta') = toldItems l ta ++ toldItems l' ta'
  | [], [], l', ta', _ => by simp [toldItems]
  | _ :: l, _ :: ta, l', ta', h => by simp [toldItems, toldItems_append l ta l' ta' (by simpa using h)]
theorem toldCells_length : ∀ (l : List Tok) (ta : List Sl), ta.length = l.length → (toldCells l ta).length = l.length * 6
  | [], [], _ => rfl
  | _ :: l, _ :: ta, h => by
    rw [toldCells, List.length_append, toldCells_length l ta (by simpa using h)]
    simp [tokCells]
    omega
theorem toldCells_one : ∀ (l : List Tok) (ta : List Sl), ∀ u ∈ toldCells l ta, u.oneCell' = true
  | [], _, u, h => by simp [toldCells] at h
  | _ :: _, [], u, h => by simp [toldCells] at h
  | t :: l, x :: ta, u, h => by
    rw [toldCells, List.mem_append] at h
    rcases h with h | h
    · exact tokCells_one t x u h
    · exact toldCells_one l ta u h

section
variable {w0 : World} {own0 : Nat → Prop} {b : Nat} {s : TS} {ex : List Item} {w : World}
/-- A list of tokens of one's own, held beside the tokenizer. -/
def Out (q : Sl) (l : List Tok) (ta : List Sl) : List Item := tokItem q l ta :: toldItems l ta

theorem tk_out_nil (h : Tk w0 own0 b s [] w) : Tk w0 own0 b s (Out nilSl [] []) w := by
  obtain ⟨⟨R, hR⟩, hk⟩ := h
  refine ⟨⟨R, hR.self, hR.ownB, ?_, hR.map, hR.mapB, hR.la, hR.lv, hR.lt⟩, hk⟩
  exact (hR.rows.bare (it := tokItem nilSl [] []) (World.ownsRow_nil _ 0 34 6) rfl).perm (by rw [List.append_nil]; exact List.Perm.refl _)

/-- What was taken is put behind what was there. -/
theorem out_grow {w' : World} {q r : Sl} {l l' : List Tok} {ta ta' : List Sl} {ao : Option Addr} {cap : Nat} (h : Tk w0 own0 b s (tokItem r l' ta' :: (toldItems l' ta' ++ Out q l ta)) w) (hl : ta.length = l.length)
    (hown : w'.ownsRow 0 34 6 (.slice ao (l.length + l'.length) cap) (l.length + l'.length) (toldCells l ta ++ toldCells l' ta')) (hg : w.grownBy w' (q.a.map (·.block))) (hf : Fresh w q.a ao) :
    Tk w0 own0 b s (Out ⟨ao, cap⟩ (l ++ l') (ta ++ ta')) w' := by
  have h1 : Tk w0 own0 b s ((tokItem r l' ta' :: toldItems l' ta') ++ tokItem q l ta :: toldItems l ta) w := h
  have hok : (tokItem ⟨ao, cap⟩ (l ++ l') (ta ++ ta')).ok w' := by
    unfold Item.ok tokItem
    rw [toldCells_append l ta l' ta' hl, List.length_append]
    exact hown
  have h2 := h1.ex_grow (it' := tokItem ⟨ao, cap⟩ (l ++ l') (ta ++ ta')) hg hok hf
  refine h2.ex_less (l1 := tokItem ⟨ao, cap⟩ (l ++ l') (ta ++ ta') :: (toldItems l ta ++ toldItems l' ta')) (l2 := [tokItem r l' ta']) ?_ ?_
  · refine List.Perm.trans (List.perm_middle) ?_
    refine List.Perm.trans (List.Perm.cons _ ?_) (by rw [List.cons_append])
    rw [List.cons_append]
    refine List.Perm.trans (List.perm_append_comm (l₁ := [_])) ?_
    exact List.Perm.append_right _ (List.perm_append_comm)
  · unfold Out
    rw [toldItems_append l ta l' ta' hl]

theorem out_own {q : Sl} {l : List Tok} {ta : List Sl} {l1 : List Item} (h : Tk w0 own0 b s (l1 ++ Out q l ta) w) : w.ownsRow 0 34 6 (.slice q.a l.length q.cap) l.length (toldCells l ta) := by
  obtain ⟨⟨R, hR⟩, _⟩ := h
  exact hR.rows.ok (tokItem q l ta) (by simp [Out])
theorem out_toks {q : Sl} {l : List Tok} {ta : List Sl} (h : Tk w0 own0 b s (Out q l ta) w) (hl : ta.length = l.length) : ToksV w (.slice q.a l.length q.cap) l :=
  taken_toks (ex := []) (by rw [List.append_nil]; exact h) hl
theorem taken_cells {r : Sl} {l : List Tok} {ta : List Sl} (h : Tk w0 own0 b s (tokItem r l ta :: ex) w) (hp : 0 < l.length) : ∃ ad, r.a = some ad ∧ ∀ j u, (toldCells l ta)[j]? = some u → w.cell? (ad.add j) = some u := by
  obtain ⟨⟨R, hR⟩, _⟩ := h
  have hok : (tokItem r l ta).ok w := hR.rows.ok _ (by simp)
  obtain ⟨g, hg, _⟩ := row_at hok (by show l.length ≠ 0; omega)
  exact ⟨⟨g, 0, none⟩, hg, fun j u hu => World.ownsRow.cells hok (g := g) (by show (Value.slice r.a _ _).ownBlock = _; rw [show r.a = some ⟨g, 0, none⟩ from hg]; rfl) j u hu⟩
end
end Go.Proofs.YtdfmapcnfficlaaGreatDoor

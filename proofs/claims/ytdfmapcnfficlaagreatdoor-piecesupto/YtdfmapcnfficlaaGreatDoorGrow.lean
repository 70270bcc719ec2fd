/-
  append of a list of tokens onto a list of one's own that is held beside the tokenizer.
-/
import Derived.Test.YtdfmapcnfficlaaGreatDoorFresh
import Derived.Laws.OwnMore
set_option linter.unusedSimpArgs false
set_option linter.unusedVariables false
namespace Go.Proofs.YtdfmapcnfficlaaGreatDoor
open Go Go.RowKit

theorem run_append_zero {P : Program} (w : World) (t ty e : TypeId) (i : TypeInfo) (size : Nat) (ht : P.underlying t = some (.slice e)) (hi : P.info? e = some i)
    (ao : Option Addr) (n cap : Nat) (xs : List Value) (hown : w.ownsRow 0 e size (.slice ao n cap) n xs) (ax : Option Addr) (c : Nat) :
    (Builtin.append_ #[t, t] ty #[.slice ao n cap, .slice ax 0 c]).run P w = .ok (.slice ao n cap) w := by
  cases ax with
  | none =>
    rcases hown.2 with ⟨hv, hn⟩ | ⟨g, cap', cur, hv, _, _, hnc, _⟩
    · injection hv with h1 h2 h3
      subst h1 h2 h3
      simp [Builtin.append_, run_underlying ht, sizeOf, typeInfo, hi, Builtin.lenOf, Builtin.firstCells]
    · injection hv with h1 h2 h3
      subst h1 h3
      simp [Builtin.append_, run_underlying ht, sizeOf, typeInfo, hi, Builtin.lenOf, Builtin.firstCells, hnc, storeCells]
  | some a =>
    rcases hown.2 with ⟨hv, hn⟩ | ⟨g, cap', cur, hv, _, _, hnc, _⟩
    · injection hv with h1 h2 h3
      subst h1 h2 h3
      simp [Builtin.append_, run_underlying ht, sizeOf, typeInfo, hi, Builtin.lenOf, Builtin.firstCells, loadCells, loadCellsFrom]
    · injection hv with h1 h2 h3
      subst h1 h3
      simp [Builtin.append_, run_underlying ht, sizeOf, typeInfo, hi, Builtin.lenOf, Builtin.firstCells, loadCells, loadCellsFrom, hnc, storeCells]

/-- 'append' of a row, empty ones too, onto a row of one's own. -/
theorem wpList_append_any {P : Program} (w : World) {ops : Array Oper} {rest : List Oper} {o : Oper} {a : Act} {Q : Exit → Act → World → Prop} (hgd : o.guard = none) (s x : Operand) (t : TypeId)
    (ho : o.op = .call { callee := .builtin .append, args := #[s, x], argTypes := #[t, t] })
    (e : TypeId) (i : TypeInfo) (z : Value) (size bytes : Nat) (ht : P.underlying t = some (.slice e)) (hi : P.info? e = some i) (hz : i.zero = some z)
    (hsize : i.size = size) (hby : i.bytes = bytes) (hzs : z.cells.size = size) (hsz : 0 < size)
    (ao : Option Addr) (n cap : Nat) (xs : List Value) (hs : a.eval s = .slice ao n cap) (hown : w.ownsRow 0 e size (.slice ao n cap) n xs)
    (ax : Option Addr) (m c : Nat) (news : List Value) (hx : a.eval x = .slice ax m c) (hl : news.length = m * size) (hnews : 0 < m → ∃ ad, ax = some ad ∧ ∀ j u, news[j]? = some u → w.cell? (ad.add j) = some u) (h1 : ∀ u ∈ news, u.oneCell' = true)
    (h63 : n + m ≤ maxLen) (hbytes : (n + m) * bytes ≤ 140737488355328)
    (h : ∀ ao' cap' w', w'.ownsRow 0 e size (.slice ao' (n + m) cap') (n + m) (xs ++ news) → w.grownBy w' (ao.map (·.block)) → Fresh w ao ao' → wpList P ops Q rest (a.put o.dst (.slice ao' (n + m) cap')) w') : wpList P ops Q (o :: rest) a w := by
  by_cases hm : m = 0
  · subst hm
    have hn : news = [] := List.length_eq_zero_iff.1 (by simpa using hl)
    subst hn
    refine wpList_plain hgd fun K hK => ?_
    have hr := run_append_zero (P := P) w t o.type e i size ht hi ao n cap xs hown ax c
    unfold Oper.wp execOp
    simp only [ho, resolve, invoke, builtin, Sem.run_bind, Sem.run_pure, Result.andThen_ok, List.map_toArray, List.map_cons, List.map_nil, hs, hx, hr]
    exact hK _ _ (h ao cap w (by simpa using hown) ⟨rfl, rfl, rfl, Nat.le_refl _, fun _ _ _ => rfl⟩ (.inl rfl))
  · obtain ⟨ad, rfl, hc⟩ := hnews (by omega)
    refine wpList_append_mine w hgd s x t ho e i z size bytes ht hi hz hsize hby hzs hsz ao n cap xs hs hown ad m c news hx hl hc h1 (by omega) h63 hbytes ?_
    intro a' cap' w' h2 h3 h4
    refine h (some a') cap' w' h2 h3 ?_
    rcases h4 with h4 | h4
    · exact .inl (by simpa using h4)
    · exact .inr ⟨a'.block, rfl, h4⟩

section
variable {w0 : World} {own0 : Nat → Prop} {b : Nat} {s : TS} {ex : List Item} {w : World}
/-- A row that is held beside the tokenizer has grown. -/
theorem Tk.ex_grow {w' : World} {l1 l2 : List Item} {it it' : Item} (h : Tk w0 own0 b s (l1 ++ it :: l2) w) (hg : w.grownBy w' it.blk) (h' : it'.ok w') (hf : Fresh w it.a it'.a) : Tk w0 own0 b s (l1 ++ it' :: l2) w' := by
  obtain ⟨⟨R, hR⟩, hk⟩ := h
  have hit : it ∈ itemsOf s R ++ (l1 ++ it :: l2) := by simp
  have hown := fun k (hb : it.blk = some k) => hR.rows.own k (List.mem_filterMap.2 ⟨it, hit, hb⟩)
  have hself : w'.heap[b]? = w.heap[b]? := hg.block b hR.lt_b (fun e => (hown b e.symm).2.1 rfl)
  refine ⟨⟨R, by rw [hself]; exact hR.self, hR.ownB, ?_, mapOf_kept hR.map fun g hgn => hg.block g (hR.map_lt g hgn) (fun e => (hown g e.symm).2.2 hgn.symm), hR.mapB, hR.la, hR.lv, hR.lt⟩, ?_⟩
  · have hI : Items w (fun k => (own0 k ∨ w0.heap.size ≤ k) ∧ k ≠ b ∧ some k ≠ R.names) ((itemsOf s R ++ l1) ++ it :: l2) := by rw [List.append_assoc]; exact hR.rows
    have hf' : it'.blk = it.blk ∨ ∃ g, it'.blk = some g ∧ w.heap.size ≤ g := hf
    have := hI.step hg h' hf' (fun k hk' => ⟨.inr (Nat.le_trans hk.size hk'), fun e => by have := hR.lt_b; omega, fun e => by have := hR.map_lt k e.symm; omega⟩)
    rw [List.append_assoc] at this
    exact this
  · exact ⟨hg.os.trans hk.os, hg.tape.trans hk.tape, hg.output.trans hk.output, Nat.le_trans hk.size hg.size, fun k hk' hn => by
      rw [hg.block k (by have := hk.size; omega) (fun e => by
        rcases (hown k e.symm).1 with h1 | h1
        · exact hn h1
        · omega)]
      exact hk.block k hk' hn⟩

/-- Rows that are held beside may be let go, and be put in another order. -/
theorem Tk.ex_less {l1 l2 ex' : List Item} (h : Tk w0 own0 b s ex w) (hp : ex.Perm (l1 ++ l2)) (hp' : ex'.Perm l1) : Tk w0 own0 b s ex' w := by
  obtain ⟨⟨R, hR⟩, hk⟩ := h
  refine ⟨⟨R, hR.self, hR.ownB, ?_, hR.map, hR.mapB, hR.la, hR.lv, hR.lt⟩, hk⟩
  have p1 : (itemsOf s R ++ ex).Perm ((itemsOf s R ++ l1) ++ l2) := by rw [List.append_assoc]; exact List.Perm.append_left _ hp
  have p2 : (itemsOf s R ++ ex').Perm ((itemsOf s R ++ l1) ++ []) := by rw [List.append_nil]; exact List.Perm.append_left _ hp'
  exact hR.rows.less (itemsOf s R ++ l1) l2 [] p1 (fun it hi => by cases hi) p2
end
end Go.Proofs.YtdfmapcnfficlaaGreatDoor

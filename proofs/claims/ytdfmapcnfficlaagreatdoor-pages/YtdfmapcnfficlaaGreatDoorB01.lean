/-
  Rows of one's own: append with the new row's place told; a list of such rows that lie apart.
  The tokenizer in memory.
-/
import Derived.Laws.AppendOwn
import Derived.Below
import Derived.Lib.AppendStr
import Derived.Test.YtdfmapcnfficlaaGreatDoorRows
import Derived.Tactics
import Derived.Tactics2
import Derived.StillTactics
import Derived.WalkKit
import Derived.Laws.Pointers
import Derived.Laws.Alloc2
import Derived.Laws.Build
import Derived.Laws.ByValue
import Derived.Laws.Cells
import Derived.Laws.Entries
import Derived.Laws.NewBlocks
import Derived.Laws.NewDeep
import Derived.Laws.NewFold
import Derived.Laws.Small
import Derived.Laws.Sem
import Derived.Laws.StructEq
import Derived.Laws.World
import Derived.RegionTactic
import Derived.LoopTactic
import Derived.ChangeAlike
import Derived.RowKitTokens
import Derived.Maps.OwnSet
namespace Go.Proofs.YtdfmapcnfficlaaGreatDoor
open Go Go.RowKit

/-- The world has only grown, but for the blocks that are one's own. -/
structure Kept (own : Nat → Prop) (w w' : World) : Prop where
  os : w'.os = w.os
  tape : w'.tape = w.tape
  output : w'.output = w.output
  size : w.heap.size ≤ w'.heap.size
  block : ∀ k, k < w.heap.size → ¬ own k → w'.heap[k]? = w.heap[k]?

theorem Kept.refl (own : Nat → Prop) (w : World) : Kept own w w := ⟨rfl, rfl, rfl, Nat.le_refl _, fun _ _ _ => rfl⟩

theorem Kept.trans {own own' : Nat → Prop} {a b c : World} (h : Kept own a b) (k : Kept own' b c) (ho : ∀ x, x < a.heap.size → own' x → own x) : Kept own a c :=
  ⟨k.os.trans h.os, k.tape.trans h.tape, k.output.trans h.output, Nat.le_trans h.size k.size,
   fun x hx hn => (k.block x (Nat.lt_of_lt_of_le hx h.size) (fun hh => hn (ho x hx hh))).trans (h.block x hx hn)⟩

/-- A row of one's own: a slice from its block's first cell on. -/
structure Item where
  e : TypeId
  size : Nat
  a : Option Addr
  n : Nat
  cap : Nat
  xs : List Value

def Item.v (it : Item) : Value := .slice it.a it.n it.cap
def Item.ok (w : World) (it : Item) : Prop := w.ownsRow 0 it.e it.size (.slice it.a it.n it.cap) it.n it.xs
def Item.blk (it : Item) : Option Nat := it.a.map (·.block)

theorem ownBlock_slice (a : Option Addr) (n c : Nat) : (Value.slice a n c).ownBlock = a.map (·.block) := by
  cases a <;> rfl

theorem Item.ok_kept {w w' : World} {it : Item} (h : it.ok w) (hk : ∀ k, it.blk = some k → w'.heap[k]? = w.heap[k]?) : it.ok w' := by
  refine ⟨h.1, ?_⟩
  rcases h.2 with hn | ⟨g, cap, cur, hv, hb, hgg, rest⟩
  · exact .inl hn
  · refine .inr ⟨g, cap, cur, hv, hb, ?_, rest⟩
    rw [hk g (by
      have : it.a = some ⟨g, 0, none⟩ := by injection hv
      simp [Item.blk, this])]
    exact hgg

theorem Item.lt {w : World} {it : Item} (h : it.ok w) : ∀ k, it.blk = some k → k < w.heap.size := by
  intro k hk
  exact (World.ownsRow.lt h k (by rw [ownBlock_slice]; exact hk)).2

/-- Rows that lie apart, all of them within 'own'. -/
structure Items (w : World) (own : Nat → Prop) (l : List Item) : Prop where
  ok : ∀ it ∈ l, it.ok w
  nodup : (l.filterMap Item.blk).Nodup
  own : ∀ k ∈ l.filterMap Item.blk, own k

theorem Items.kept {w w' : World} {own : Nat → Prop} {l : List Item} (h : Items w own l) (hk : ∀ k, k < w.heap.size → own k → w'.heap[k]? = w.heap[k]?) : Items w' own l :=
  ⟨fun it hi => Item.ok_kept (h.ok it hi) fun k hb => hk k (Item.lt (h.ok it hi) k hb) (h.own k (List.mem_filterMap.2 ⟨it, hi, hb⟩)), h.nodup, h.own⟩

/-- One row is turned into another: it lies where it lay, or in new memory. -/
theorem Items.step {w w' : World} {own : Nat → Prop} {l1 l2 : List Item} {it it' : Item} (h : Items w own (l1 ++ it :: l2)) (hg : w.grownBy w' it.blk) (h' : it'.ok w')
    (hf : it'.blk = it.blk ∨ ∃ g, it'.blk = some g ∧ w.heap.size ≤ g) (ho : ∀ k, w.heap.size ≤ k → own k) : Items w' own (l1 ++ it' :: l2) := by
  have hnd := h.nodup
  have hlt : ∀ x ∈ l1 ++ it :: l2, ∀ k, x.blk = some k → k < w.heap.size := fun x hx => Item.lt (h.ok x hx)
  have hne : ∀ x ∈ l1 ++ l2, ∀ k, x.blk = some k → it.blk ≠ some k := by
    intro x hx k hk he
    simp only [List.filterMap_append, List.filterMap_cons, he] at hnd
    have hnd' := List.nodup_append.1 hnd
    rcases List.mem_append.1 hx with hx | hx
    · exact hnd'.2.2 k (List.mem_filterMap.2 ⟨x, hx, hk⟩) k (by simp) rfl
    · exact (List.nodup_cons.1 hnd'.2.1).1 (List.mem_filterMap.2 ⟨x, hx, hk⟩)
  refine ⟨?_, ?_, ?_⟩
  · intro x hx
    have hx' : x ∈ l1 ++ l2 ∨ x = it' := by
      simp only [List.mem_append, List.mem_cons] at hx ⊢
      rcases hx with h | h | h
      · exact .inl (.inl h)
      · exact .inr h
      · exact .inl (.inr h)
    rcases hx' with hm | rfl
    · have hm' : x ∈ l1 ++ it :: l2 := by
        simp only [List.mem_append, List.mem_cons] at hm ⊢
        rcases hm with h | h
        · exact .inl h
        · exact .inr (.inr h)
      refine Item.ok_kept (h.ok x hm') fun k hk => ?_
      exact hg.block k (hlt x hm' k hk) (fun e => hne x hm k hk e.symm)
    · exact h'
  · have hout : ∀ g, it'.blk = some g → g ∉ (l1 ++ l2).filterMap Item.blk := by
      intro g hg' hm
      obtain ⟨x, hx, hk⟩ := List.mem_filterMap.1 hm
      rcases hf with e | ⟨g', e, hge⟩
      · exact hne x hx g hk (e ▸ hg')
      · have : g' = g := by rw [e] at hg'; exact Option.some.inj hg'
        subst this
        have hm' : x ∈ l1 ++ it :: l2 := by
          simp only [List.mem_append, List.mem_cons] at hx ⊢
          rcases hx with h | h
          · exact .inl h
          · exact .inr (.inr h)
        have := hlt x hm' g' hk
        omega
    have hbase : ((l1 ++ l2).filterMap Item.blk).Nodup := by
      simp only [List.filterMap_append] at hnd ⊢
      refine hnd.sublist (List.Sublist.append (List.Sublist.refl _) ?_)
      simp only [List.filterMap_cons]
      split
      · exact List.Sublist.refl _
      · exact List.sublist_cons_self _ _
    simp only [List.filterMap_append, List.filterMap_cons] at hbase ⊢
    cases hb : it'.blk with
    | none => exact hbase
    | some g =>
      have hg' := hout g hb
      simp only [List.filterMap_append, List.mem_append, not_or] at hg'
      have hb' := List.nodup_append.1 hbase
      refine List.nodup_append.2 ⟨hb'.1, List.nodup_cons.2 ⟨hg'.2, hb'.2.1⟩, ?_⟩
      intro a ha b hbm
      rcases List.mem_cons.1 hbm with rfl | hbm
      · intro e; subst e; exact hg'.1 ha
      · exact hb'.2.2 a ha b hbm
  · intro k hk
    obtain ⟨x, hx, hb⟩ := List.mem_filterMap.1 hk
    simp only [List.mem_append, List.mem_cons] at hx
    rcases hx with hx | rfl | hx
    · exact h.own k (List.mem_filterMap.2 ⟨x, by simp [hx], hb⟩)
    · rcases hf with e | ⟨g', e, hge⟩
      · exact h.own k (List.mem_filterMap.2 ⟨it, by simp, by rw [← e]; exact hb⟩)
      · rw [e] at hb
        have := Option.some.inj hb
        subst this
        exact ho _ hge
    · exact h.own k (List.mem_filterMap.2 ⟨x, by simp [hx], hb⟩)

/-- 'append' onto a row of one's own: where the new row lies is told. -/
theorem run_append_mine {P : Program} (w : World) (t ty e : TypeId) (i : TypeInfo) (z : Value) (size bytes : Nat) (ht : P.underlying t = some (.slice e)) (hi : P.info? e = some i) (hz : i.zero = some z)
    (hsize : i.size = size) (hby : i.bytes = bytes) (hzs : z.cells.size = size) (hsz : 0 < size)
    (ao : Option Addr) (n cap : Nat) (xs : List Value) (hown : w.ownsRow 0 e size (.slice ao n cap) n xs)
    (a : Addr) (m c : Nat) (news : List Value) (hl : news.length = m * size) (hnews : ∀ j u, news[j]? = some u → w.cell? (a.add j) = some u) (h1 : ∀ u ∈ news, u.oneCell' = true) (hm : 0 < m)
    (h63 : n + m ≤ maxLen) (hbytes : (n + m) * bytes ≤ 140737488355328) :
    ∃ a' cap' w', (Builtin.append_ #[t, t] ty #[.slice ao n cap, .slice (some a) m c]).run P w = .ok (.slice (some a') (n + m) cap') w' ∧ w'.ownsRow 0 e size (.slice (some a') (n + m) cap') (n + m) (xs ++ news) ∧
      w.grownBy w' (ao.map (·.block)) ∧ (some a'.block = ao.map (·.block) ∨ w.heap.size ≤ a'.block) := by
  obtain ⟨v', w', hr, h2, h3, h4⟩ := run_append_own (P := P) w 0 t ty e i z size bytes ht hi hz hsize hby hzs hsz (.slice ao n cap) n xs hown a m c news hl hnews h1 h63 hbytes (Nat.zero_le _)
  rw [ownBlock_slice] at h3
  obtain ⟨g', cap', cur', rfl, _⟩ : ∃ g cap' cur, v' = .slice (some ⟨g, 0, none⟩) (n + m) cap' ∧ cur = cur ∧ True := by
    rcases h2.2 with ⟨_, h⟩ | ⟨g, cap', cur, h, _⟩
    · omega
    · exact ⟨g, cap', cur, h, rfl, trivial⟩
  refine ⟨⟨g', 0, none⟩, cap', w', hr, h2, h3, ?_⟩
  subst hsize
  subst hby
  have h63' : ((n + m : Nat) : Int) ≤ 9223372036854775807 := by simp only [maxLen] at h63; omega
  rcases hown.2 with ⟨hv, hn⟩ | ⟨g, cap0, cur, hv, hbg, hg, hnc, hcm, hcs, htake⟩
  · -- nil
    injection hv with e1 e2 e3
    subst e1; subst e2; subst e3
    have hr' := run_append_nil (P := P) w t ty e i z ht hi hz a m c news hl hnews hm (by omega) (by have hb := hbytes; simp only [Nat.zero_add] at hb; omega)
    rw [hr'] at hr
    injection hr with e1 _
    injection e1 with e1 _ _
    injection e1 with e1
    injection e1 with e1 _ _
    exact .inr (by show w.heap.size ≤ g'; omega)
  · injection hv with e1 e2 e3
    subst e1; subst e3
    by_cases hroom : n + m ≤ cap
    · have hfit : n * i.size + news.length ≤ cur.size := by rw [hl, hcs, ← Nat.add_mul]; exact Nat.mul_le_mul_right _ hroom
      have hr' := run_append_room (P := P) w t ty e i ht hi g n cap cur hg a m c news hl hnews h1 hroom hfit
      rw [hr'] at hr
      injection hr with e1 _
      injection e1 with e1 _ _
      injection e1 with e1
      injection e1 with e1 _ _
      exact .inl (by simp [e1])
    · have holds : ∀ j u, xs[j]? = some u → w.cell? ((⟨g, 0, none⟩ : Addr).add j) = some u := hown.cells (g := g) rfl
      have hr' := run_append_grow (P := P) w t ty e i z ht hi hz ⟨g, 0, none⟩ n cap xs hown.1 holds a m c news hl hnews (by omega) (by omega) (growslice_fits (by omega) hbytes)
      rw [hr'] at hr
      injection hr with e1 _
      injection e1 with e1 _ _
      injection e1 with e1
      injection e1 with e1 _ _
      exact .inr (by show w.heap.size ≤ g'; omega)

theorem wpList_append_mine {P : Program} (w : World) {ops : Array Oper} {rest : List Oper} {o : Oper} {a : Act} {Q : Exit → Act → World → Prop} (hgd : o.guard = none) (s x : Operand) (t : TypeId)
    (ho : o.op = .call { callee := .builtin .append, args := #[s, x], argTypes := #[t, t] })
    (e : TypeId) (i : TypeInfo) (z : Value) (size bytes : Nat) (ht : P.underlying t = some (.slice e)) (hi : P.info? e = some i) (hz : i.zero = some z)
    (hsize : i.size = size) (hby : i.bytes = bytes) (hzs : z.cells.size = size) (hsz : 0 < size)
    (ao : Option Addr) (n cap : Nat) (xs : List Value) (hs : a.eval s = .slice ao n cap) (hown : w.ownsRow 0 e size (.slice ao n cap) n xs)
    (ad : Addr) (m c : Nat) (news : List Value) (hx : a.eval x = .slice (some ad) m c) (hl : news.length = m * size) (hnews : ∀ j u, news[j]? = some u → w.cell? (ad.add j) = some u) (h1 : ∀ u ∈ news, u.oneCell' = true) (hm : 0 < m)
    (h63 : n + m ≤ maxLen) (hbytes : (n + m) * bytes ≤ 140737488355328)
    (h : ∀ a' cap' w', w'.ownsRow 0 e size (.slice (some a') (n + m) cap') (n + m) (xs ++ news) → w.grownBy w' (ao.map (·.block)) → (some a'.block = ao.map (·.block) ∨ w.heap.size ≤ a'.block) → wpList P ops Q rest (a.put o.dst (.slice (some a') (n + m) cap')) w') : wpList P ops Q (o :: rest) a w := by
  refine wpList_plain hgd fun _ hK => ?_
  obtain ⟨a', cap', w', hr, h2, h3, h4⟩ := run_append_mine (P := P) w t o.type e i z size bytes ht hi hz hsize hby hzs hsz ao n cap xs hown ad m c news hl hnews h1 hm h63 hbytes
  unfold Oper.wp execOp
  simp only [ho, resolve, invoke, builtin, Sem.run_bind, Sem.run_pure, Result.andThen_ok, List.map_toArray, List.map_cons, List.map_nil, hs, hx, hr]
  exact hK _ _ (h a' cap' w' h2 h3 h4)

/-- The new row lies where the old one lay, or in new memory. -/
def Fresh (w : World) (a a' : Option Addr) : Prop := a'.map (·.block) = a.map (·.block) ∨ ∃ g, a'.map (·.block) = some g ∧ w.heap.size ≤ g

/-- 'append(b, s...)' of a string's bytes onto a row of one's own. -/
theorem run_append_mine_str {P : Program} (w : World) (t u ty e : TypeId) (i : TypeInfo) (ht : P.underlying t = some (.slice e)) (hu : P.underlying u = some .string) (hi : P.info? e = some i) (hz : i.zero = some (.int .u8 0))
    (hsize : i.size = 1) (hby : i.bytes = 1) (ao : Option Addr) (n cap : Nat) (xs : List Value) (hown : w.ownsRow 0 e 1 (.slice ao n cap) n xs) (s : ByteArray)
    (h63 : n + s.size ≤ maxLen) (hbytes : n + s.size ≤ 140737488355328) :
    ∃ ao' cap' w', (Builtin.append_ #[t, u] ty #[.slice ao n cap, .string s]).run P w = .ok (.slice ao' (n + s.size) cap') w' ∧ w'.ownsRow 0 e 1 (.slice ao' (n + s.size) cap') (n + s.size) (xs ++ Lib.strCells s) ∧
      w.grownBy w' (ao.map (·.block)) ∧ Fresh w ao ao' := by
  obtain ⟨v', w', hr, h2, h3, h4⟩ := Lib.run_append_own_string (P := P) w 0 t u ty e i ht hu hi hz hsize hby (.slice ao n cap) n xs hown s h63 hbytes (Nat.zero_le _)
  rw [ownBlock_slice] at h3
  have hxl : xs.length = n := by simpa using hown.1
  have h63' : ((n + s.size : Nat) : Int) ≤ 9223372036854775807 := by simp only [maxLen] at h63; omega
  rcases hown.2 with ⟨hv, hn⟩ | ⟨g, cap0, cur, hv, hbg, hg, hnc, hcm, hcs, htake⟩
  · injection hv with e1 e2 e3
    subst e1; subst e2; subst e3
    by_cases hm : s.size = 0
    · have hv' : v' = .slice none 0 0 := h4.2 ⟨rfl, hm⟩
      subst hv'
      refine ⟨none, 0, w', ?_, ?_, h3, .inl rfl⟩
      · rw [hr]; simp [hm]
      · simpa [hm] using h2
    · obtain ⟨v2, w2, hr2, h22, _, _⟩ := Lib.run_append_own_string (P := P) w w.heap.size t u ty e i ht hu hi hz hsize hby (.slice none 0 0) 0 xs ⟨hown.1, .inl ⟨rfl, rfl⟩⟩ s h63 hbytes (Nat.le_refl _)
      rw [hr] at hr2
      injection hr2 with e1 e2
      subst e1; subst e2
      rcases h22.2 with ⟨_, h⟩ | ⟨g, cap', cur, h, hge, _⟩
      · omega
      · subst h
        exact ⟨_, cap', w', hr, h2, h3, .inr ⟨g, rfl, hge⟩⟩
  · injection hv with e1 e2 e3
    subst e1; subst e3
    by_cases hroom : n + s.size ≤ cap
    · have hr' := Lib.run_append_room_string (P := P) w t u ty e i ht hu hi hsize g n cap cur hg s hroom (by simp at hcs; omega)
      rw [hr'] at hr
      injection hr with e1 e2
      subst e1; subst e2
      exact ⟨_, cap, _, hr', h2, h3, .inl rfl⟩
    · have holds : ∀ j u, xs[j]? = some u → w.cell? ((⟨g, 0, none⟩ : Addr).add j) = some u := hown.cells (g := g) rfl
      have hr' := Lib.run_append_grow_string (P := P) w t u ty e i (.int .u8 0) ht hu hi hz ⟨g, 0, none⟩ n cap xs (by rw [hsize]; simpa using hxl) holds s (by omega) (by omega) (by rw [hby]; exact growslice_fits (by omega) (by omega))
      rw [hr'] at hr
      injection hr with e1 e2
      subst e1; subst e2
      exact ⟨_, _, _, hr', h2, h3, .inr ⟨w.heap.size, rfl, Nat.le_refl _⟩⟩

theorem wpList_append_mine_str {P : Program} (w : World) {ops : Array Oper} {rest : List Oper} {o : Oper} {a : Act} {Q : Exit → Act → World → Prop} (hgd : o.guard = none) (sl x : Operand) (t u : TypeId)
    (ho : o.op = .call { callee := .builtin .append, args := #[sl, x], argTypes := #[t, u] })
    (e : TypeId) (i : TypeInfo) (ht : P.underlying t = some (.slice e)) (hu : P.underlying u = some .string) (hi : P.info? e = some i) (hz : i.zero = some (.int .u8 0))
    (hsize : i.size = 1) (hby : i.bytes = 1)
    (ao : Option Addr) (n cap : Nat) (xs : List Value) (hs : a.eval sl = .slice ao n cap) (hown : w.ownsRow 0 e 1 (.slice ao n cap) n xs) (s : ByteArray) (hx : a.eval x = .string s)
    (h63 : n + s.size ≤ maxLen) (hbytes : n + s.size ≤ 140737488355328)
    (h : ∀ ao' cap' w', w'.ownsRow 0 e 1 (.slice ao' (n + s.size) cap') (n + s.size) (xs ++ Lib.strCells s) → w.grownBy w' (ao.map (·.block)) → Fresh w ao ao' → wpList P ops Q rest (a.put o.dst (.slice ao' (n + s.size) cap')) w') : wpList P ops Q (o :: rest) a w := by
  refine wpList_plain hgd fun K hK => ?_
  obtain ⟨ao', cap', w', hr, h2, h3, h4⟩ := run_append_mine_str (P := P) w t u o.type e i ht hu hi hz hsize hby ao n cap xs hown s h63 hbytes
  unfold Oper.wp execOp
  simp only [ho, resolve, invoke, builtin, Sem.run_bind, Sem.run_pure, Result.andThen_ok, List.map_toArray, List.map_cons, List.map_nil, hs, hx, hr]
  exact hK _ _ (h ao' cap' w' h2 h3 h4)
end Go.Proofs.YtdfmapcnfficlaaGreatDoor

namespace Go.Proofs.YtdfmapcnfficlaaGreatDoor
open Go Go.RowKit

abbrev Str := List UInt8

structure Att where
  name : Str := []
  value : Str := []
  twice : Bool := false

structure TagS where
  kind : Int := 0
  name : Str := []
  buffer : Str := []
  atts : List Att := []
  names : Option (List Str) := none
  closes : Bool := false

structure Tok where
  kind : Int
  name : Str := []
  attrs : List Str := []
  text : Str := []
  flag : Bool := false
  place : Int := 0

structure TS where
  begun : Str := []
  behind : Bool := false
  limit : Int := 0
  bytes : Int := 0
  closed : Bool := false
  state : Int := 0
  base : Int := 0
  place : Int := 0
  text : Str := []
  tag : TagS := {}
  lastStart : Str := []
  declared : Str := []
  comment : Str := []
  dname : Str := []
  odd : Bool := false
  rback : Int := 0
  rcome : Str := []
  rsix : Bool := false
  rdig : Bool := false
  rnum : Int := 0
  told : List Tok := []

def attsz : List Att → Nat
  | [] => 0
  | a :: r => a.name.length + a.value.length + attsz r

/-- How much the tokenizer holds. -/
def sz (s : TS) : Nat := s.told.length + s.text.length + s.tag.name.length + s.tag.buffer.length + s.tag.atts.length + attsz s.tag.atts + s.comment.length + s.dname.length + s.begun.length + s.declared.length + s.rcome.length + (s.tag.names.getD []).length

structure Sl where
  a : Option Addr
  cap : Nat

structure Regs where
  text : Sl
  tname : Sl
  buffer : Sl
  atts : Sl
  names : Option Nat
  comment : Sl
  dname : Sl
  told : Sl
  anames : List Sl
  avalues : List Sl
  tattrs : List Sl

def str (l : Str) : Value := .string ⟨l.toArray⟩
def byteCells (l : Str) : List Value := l.map fun c => Value.int .u8 c.toNat
def tokCells (t : Tok) (a : Sl) : List Value := [.int .i64 t.kind, .string ⟨t.name.toArray⟩, .slice a.a t.attrs.length a.cap, .string ⟨t.text.toArray⟩, .bool t.flag, .int .i64 t.place]
def attCells (t : Att) (a b : Sl) : List Value := [.slice a.a t.name.length a.cap, .slice b.a t.value.length b.cap, .bool t.twice]

def toldCells : List Tok → List Sl → List Value
  | t :: ts, a :: rs => tokCells t a ++ toldCells ts rs
  | _, _ => []
def attsCells : List Att → List Sl → List Sl → List Value
  | t :: ts, a :: rs, b :: bs => attCells t a b ++ attsCells ts rs bs
  | _, _, _ => []

def cellsOf (s : TS) (R : Regs) : Array Value :=
  #[.string ⟨s.begun.toArray⟩, .bool s.behind, .int .i64 s.limit, .int .i64 s.bytes, .bool s.closed, .int .i64 s.state, .int .i64 s.base, .int .i64 s.place,
    .slice R.text.a s.text.length R.text.cap,
    .int .i64 s.tag.kind, .slice R.tname.a s.tag.name.length R.tname.cap, .slice R.buffer.a s.tag.buffer.length R.buffer.cap, .slice R.atts.a s.tag.atts.length R.atts.cap, .map R.names, .bool s.tag.closes,
    .string ⟨s.lastStart.toArray⟩, .string ⟨s.declared.toArray⟩, .slice R.comment.a s.comment.length R.comment.cap,
    .slice R.dname.a s.dname.length R.dname.cap, .bool s.odd,
    .int .i64 s.rback, .string ⟨s.rcome.toArray⟩, .bool s.rsix, .bool s.rdig, .int .i32 s.rnum,
    .slice R.told.a s.told.length R.told.cap]

def bItem (r : Sl) (l : Str) : Item := ⟨5, 1, r.a, l.length, r.cap, byteCells l⟩
def aItem (r : Sl) (l : List Str) : Item := ⟨9, 1, r.a, l.length, r.cap, l.map str⟩

def attItems : List Att → List Sl → List Sl → List Item
  | t :: ts, a :: rs, b :: bs => bItem a t.name :: bItem b t.value :: attItems ts rs bs
  | _, _, _ => []
def toldItems : List Tok → List Sl → List Item
  | t :: ts, a :: rs => aItem a t.attrs :: toldItems ts rs
  | _, _ => []

/-- The rows of the tokenizer: the text, the tag's name and buffer, its attributes, the comment, the doctype's name, the tokens; then the rows that attributes and tokens point to. -/
def itemsOf (s : TS) (R : Regs) : List Item :=
  [bItem R.text s.text, bItem R.tname s.tag.name, bItem R.buffer s.tag.buffer, ⟨210, 3, R.atts.a, s.tag.atts.length, R.atts.cap, attsCells s.tag.atts R.anames R.avalues⟩, bItem R.comment s.comment, bItem R.dname s.dname,
   ⟨34, 6, R.told.a, s.told.length, R.told.cap, toldCells s.told R.tattrs⟩] ++ (attItems s.tag.atts R.anames R.avalues ++ toldItems s.told R.tattrs)

def mapOf (w : World) (b : Option Nat) (l : Option (List Str)) : Prop :=
  match b, l with
  | none, none => True
  | some g, some ks => w.ownsMap Tryz.prog 9 (unitElem (H := Unit)) g ks.length (Maps.setOf (.agg []) (ks.map Lit.string))
  | _, _ => False

/-- The tokenizer at block b; 'ex': rows that are its owner's too, and are held beside it. -/
structure RepAt (w : World) (own : Nat → Prop) (b : Nat) (s : TS) (R : Regs) (ex : List Item) : Prop where
  self : w.heap[b]? = some (.cells (cellsOf s R) 84 (0, 0))
  ownB : own b
  rows : Items w (fun k => own k ∧ k ≠ b ∧ some k ≠ R.names) (itemsOf s R ++ ex)
  map : mapOf w R.names s.tag.names
  mapB : ∀ g, R.names = some g → own g ∧ g ≠ b
  la : R.anames.length = s.tag.atts.length
  lv : R.avalues.length = s.tag.atts.length
  lt : R.tattrs.length = s.told.length

/-- The tokenizer at block b is in the state s; of the memory that was there in w0 nothing has turned but what is its own. -/
def Tk (w0 : World) (own0 : Nat → Prop) (b : Nat) (s : TS) (ex : List Item) (w : World) : Prop :=
  (∃ R, RepAt w (fun k => own0 k ∨ w0.heap.size ≤ k) b s R ex) ∧ Kept own0 w0 w

theorem cell_of_self {w : World} {b : Nat} {cs : Array Value} {t : TypeId} (h : w.heap[b]? = some (.cells cs t (0, 0))) (o : Nat) : w.cell? ⟨b, o, none⟩ = cs[o]? := by
  simp [World.cell?, h]
theorem frozen_of_self {w : World} {b : Nat} {cs : Array Value} {t : TypeId} (h : w.heap[b]? = some (.cells cs t (0, 0))) (o : Nat) : w.frozen? ⟨b, o, none⟩ = false := by
  simp [World.frozen?, h]

theorem set_self {w : World} {b : Nat} {cs : Array Value} {t : TypeId} (h : w.heap[b]? = some (.cells cs t (0, 0))) (o : Nat) (v : Value) : (w.setCell ⟨b, o, none⟩ v).heap[b]? = some (.cells (cs.setIfInBounds o v) t (0, 0)) := by
  simp [World.setCell, Array.getElem?_modify, h]

theorem set_other {w : World} {b k o : Nat} (v : Value) (hk : k ≠ b) : (w.setCell ⟨b, o, none⟩ v).heap[k]? = w.heap[k]? := Below.heap_setCell _ _ _ _ hk

theorem mapOf_kept {w w' : World} {b : Option Nat} {l : Option (List Str)} (h : mapOf w b l) (hk : ∀ g, b = some g → w'.heap[g]? = w.heap[g]?) : mapOf w' b l := by
  cases b <;> cases l <;> simp only [mapOf] at h ⊢
  obtain ⟨es, c, he, hr⟩ := h
  exact ⟨es, c, (hk _ rfl).trans he, hr⟩

/-- A store into the tokenizer's own cells that leaves the rows. -/
theorem RepAt.setCell {w : World} {own : Nat → Prop} {b : Nat} {s s' : TS} {R : Regs} {ex : List Item} (h : RepAt w own b s R ex) (o : Nat) (v : Value) (hc : (cellsOf s R).setIfInBounds o v = cellsOf s' R) (hi : itemsOf s' R = itemsOf s R)
    (ht : s'.tag.names = s.tag.names) (ha : s'.tag.atts.length = s.tag.atts.length) (hl : s'.told.length = s.told.length) : RepAt (w.setCell ⟨b, o, none⟩ v) own b s' R ex where
  self := by rw [set_self h.self, hc]
  ownB := h.ownB
  rows := by rw [hi]; exact h.rows.kept fun k _ hk => set_other v hk.2.1
  map := by rw [ht]; exact mapOf_kept h.map fun g hg => set_other v (h.mapB g hg).2
  mapB := h.mapB
  la := h.la.trans ha.symm
  lv := h.lv.trans ha.symm
  lt := h.lt.trans hl.symm

theorem Kept.setCell {own : Nat → Prop} {w0 w : World} (h : Kept own w0 w) {b : Nat} (o : Nat) (v : Value) (hb : own b ∨ w0.heap.size ≤ b) : Kept own w0 (w.setCell ⟨b, o, none⟩ v) :=
  ⟨h.os, h.tape, h.output, by simpa [World.setCell] using h.size, fun k hk hn => by
    rw [set_other v (fun e => by subst e; rcases hb with hb | hb; exact hn hb; omega)]; exact h.block k hk hn⟩

theorem RepAt.lt_b {w : World} {own : Nat → Prop} {b : Nat} {s : TS} {R : Regs} {ex : List Item} (h : RepAt w own b s R ex) : b < w.heap.size := (Array.getElem?_eq_some_iff.1 h.self).1

/-- What the walk wants: each cell. -/
theorem RepAt.cell {w : World} {own : Nat → Prop} {b : Nat} {s : TS} {R : Regs} {ex : List Item} (h : RepAt w own b s R ex) (o : Nat) : w.cell? ⟨b, o, none⟩ = (cellsOf s R)[o]? := cell_of_self h.self o
theorem RepAt.frozen {w : World} {own : Nat → Prop} {b : Nat} {s : TS} {R : Regs} {ex : List Item} (h : RepAt w own b s R ex) (o : Nat) : w.frozen? ⟨b, o, none⟩ = false := frozen_of_self h.self o

set_option maxHeartbeats 400000 in
theorem to_does {w0 : World} {own0 : Nat → Prop} {b : Nat} {s : TS} {ex : List Item} {w : World} (q : Int) (h : Tk w0 own0 b s ex w) :
    Calls Tryz.prog 125 #[.pointer (some ⟨b, 0, none⟩), .int .i64 q] w fun e w' => e = .returned (.int .i64 0) ∧ Tk w0 own0 b { s with state := q } ex w' := by
  obtain ⟨⟨R, hR⟩, hk⟩ := h
  have c4 : w.cell? ⟨b, 5, none⟩ = some (.int .i64 s.state) := hR.cell 5
  have hf := hR.frozen
  go_enter Tryz.func125, Tryz.ntmps125
  go_wp2
  go_ret
  exact ⟨rfl, ⟨R, hR.setCell 5 _ rfl rfl rfl rfl rfl⟩, hk.setCell 5 _ hR.ownB⟩
end Go.Proofs.YtdfmapcnfficlaaGreatDoor

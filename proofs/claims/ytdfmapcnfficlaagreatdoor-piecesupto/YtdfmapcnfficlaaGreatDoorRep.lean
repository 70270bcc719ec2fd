/-
  The tokenizer in memory.
-/
import Derived.Test.YtdfmapcnfficlaaGreatDoorOwn
import Derived.Test.YtdfmapcnfficlaaGreatDoorRows
import Derived.Tactics
import Derived.Tactics2
import Derived.StillTactics
import Derived.WalkKit
import Derived.Laws.Pointers
import Derived.Laws.Alloc2
import Derived.Laws.Build
import Derived.Laws.ByValue
import Derived.Laws.Cells
import Derived.Laws.Entries
import Derived.Laws.NewBlocks
import Derived.Laws.NewDeep
import Derived.Laws.NewFold
import Derived.Laws.Small
import Derived.Laws.Sem
import Derived.Laws.StructEq
import Derived.Laws.World
import Derived.RegionTactic
import Derived.LoopTactic
import Derived.ChangeAlike
import Derived.RowKitTokens
import Derived.Maps.OwnSet
namespace Go.Proofs.YtdfmapcnfficlaaGreatDoor
open Go Go.RowKit

abbrev Str := List UInt8

structure Att where
  name : Str := []
  value : Str := []
  twice : Bool := false

structure TagS where
  kind : Int := 0
  name : Str := []
  buffer : Str := []
  atts : List Att := []
  names : Option (List Str) := none
  closes : Bool := false

structure Tok where
  kind : Int
  name : Str := []
  attrs : List Str := []
  text : Str := []
  flag : Bool := false
  place : Int := 0

structure TS where
  begun : Str := []
  behind : Bool := false
  limit : Int := 0
  bytes : Int := 0
  closed : Bool := false
  state : Int := 0
  base : Int := 0
  place : Int := 0
  text : Str := []
  tag : TagS := {}
  lastStart : Str := []
  declared : Str := []
  comment : Str := []
  dname : Str := []
  odd : Bool := false
  rback : Int := 0
  rcome : Str := []
  rsix : Bool := false
  rdig : Bool := false
  rnum : Int := 0
  told : List Tok := []

def attsz : List Att → Nat
  | [] => 0
  | a :: r => a.name.length + a.value.length + attsz r

/-- How much the tokenizer holds. -/
def sz (s : TS) : Nat := s.told.length + s.text.length + s.tag.name.length + s.tag.buffer.length + s.tag.atts.length + attsz s.tag.atts + s.comment.length + s.dname.length + s.begun.length + s.declared.length + s.rcome.length + (s.tag.names.getD []).length

structure Sl where
  a : Option Addr
  cap : Nat

structure Regs where
  text : Sl
  tname : Sl
  buffer : Sl
  atts : Sl
  names : Option Nat
  comment : Sl
  dname : Sl
  told : Sl
  anames : List Sl
  avalues : List Sl
  tattrs : List Sl

def str (l : Str) : Value := .string ⟨l.toArray⟩
def byteCells (l : Str) : List Value := l.map fun c => Value.int .u8 c.toNat
def tokCells (t : Tok) (a : Sl) : List Value := [.int .i64 t.kind, .string ⟨t.name.toArray⟩, .slice a.a t.attrs.length a.cap, .string ⟨t.text.toArray⟩, .bool t.flag, .int .i64 t.place]
def attCells (t : Att) (a b : Sl) : List Value := [.slice a.a t.name.length a.cap, .slice b.a t.value.length b.cap, .bool t.twice]

def toldCells : List Tok → List Sl → List Value
  | t :: ts, a :: rs => tokCells t a ++ toldCells ts rs
  | _, _ => []
def attsCells : List Att → List Sl → List Sl → List Value
  | t :: ts, a :: rs, b :: bs => attCells t a b ++ attsCells ts rs bs
  | _, _, _ => []

def cellsOf (s : TS) (R : Regs) : Array Value :=
  #[.string ⟨s.begun.toArray⟩, .bool s.behind, .int .i64 s.limit, .int .i64 s.bytes, .bool s.closed, .int .i64 s.state, .int .i64 s.base, .int .i64 s.place,
    .slice R.text.a s.text.length R.text.cap,
    .int .i64 s.tag.kind, .slice R.tname.a s.tag.name.length R.tname.cap, .slice R.buffer.a s.tag.buffer.length R.buffer.cap, .slice R.atts.a s.tag.atts.length R.atts.cap, .map R.names, .bool s.tag.closes,
    .string ⟨s.lastStart.toArray⟩, .string ⟨s.declared.toArray⟩, .slice R.comment.a s.comment.length R.comment.cap,
    .slice R.dname.a s.dname.length R.dname.cap, .bool s.odd,
    .int .i64 s.rback, .string ⟨s.rcome.toArray⟩, .bool s.rsix, .bool s.rdig, .int .i32 s.rnum,
    .slice R.told.a s.told.length R.told.cap]

def bItem (r : Sl) (l : Str) : Item := ⟨5, 1, r.a, l.length, r.cap, byteCells l⟩
def aItem (r : Sl) (l : List Str) : Item := ⟨9, 1, r.a, l.length, r.cap, l.map str⟩

def attItems : List Att → List Sl → List Sl → List Item
  | t :: ts, a :: rs, b :: bs => bItem a t.name :: bItem b t.value :: attItems ts rs bs
  | _, _, _ => []
def toldItems : List Tok → List Sl → List Item
  | t :: ts, a :: rs => aItem a t.attrs :: toldItems ts rs
  | _, _ => []

/-- The rows of the tokenizer: the text, the tag's name and buffer, its attributes, the comment, the doctype's name, the tokens; then the rows that attributes and tokens point to. -/
def itemsOf (s : TS) (R : Regs) : List Item :=
  [bItem R.text s.text, bItem R.tname s.tag.name, bItem R.buffer s.tag.buffer, ⟨210, 3, R.atts.a, s.tag.atts.length, R.atts.cap, attsCells s.tag.atts R.anames R.avalues⟩, bItem R.comment s.comment, bItem R.dname s.dname,
   ⟨34, 6, R.told.a, s.told.length, R.told.cap, toldCells s.told R.tattrs⟩] ++ (attItems s.tag.atts R.anames R.avalues ++ toldItems s.told R.tattrs)

def mapOf (w : World) (b : Option Nat) (l : Option (List Str)) : Prop :=
  match b, l with
  | none, none => True
  | some g, some ks => w.ownsMap Tryz.prog 9 (unitElem (H := Unit)) g ks.length (Maps.setOf (.agg []) (ks.map Lit.string))
  | _, _ => False

/-- The tokenizer at block b; 'ex': rows that are its owner's too, and are held beside it. -/
structure RepAt (w : World) (own : Nat → Prop) (b : Nat) (s : TS) (R : Regs) (ex : List Item) : Prop where
  self : w.heap[b]? = some (.cells (cellsOf s R) 84 (0, 0))
  ownB : own b
  rows : Items w (fun k => own k ∧ k ≠ b ∧ some k ≠ R.names) (itemsOf s R ++ ex)
  map : mapOf w R.names s.tag.names
  mapB : ∀ g, R.names = some g → own g ∧ g ≠ b
  la : R.anames.length = s.tag.atts.length
  lv : R.avalues.length = s.tag.atts.length
  lt : R.tattrs.length = s.told.length

/-- The tokenizer at block b is in the state s; of the memory that was there in w0 nothing has turned but what is its own. -/
def Tk (w0 : World) (own0 : Nat → Prop) (b : Nat) (s : TS) (ex : List Item) (w : World) : Prop :=
  (∃ R, RepAt w (fun k => own0 k ∨ w0.heap.size ≤ k) b s R ex) ∧ Kept own0 w0 w

theorem cell_of_self {w : World} {b : Nat} {cs : Array Value} {t : TypeId} (h : w.heap[b]? = some (.cells cs t (0, 0))) (o : Nat) : w.cell? ⟨b, o, none⟩ = cs[o]? := by
  simp [World.cell?, h]
theorem frozen_of_self {w : World} {b : Nat} {cs : Array Value} {t : TypeId} (h : w.heap[b]? = some (.cells cs t (0, 0))) (o : Nat) : w.frozen? ⟨b, o, none⟩ = false := by
  simp [World.frozen?, h]

theorem set_self {w : World} {b : Nat} {cs : Array Value} {t : TypeId} (h : w.heap[b]? = some (.cells cs t (0, 0))) (o : Nat) (v : Value) : (w.setCell ⟨b, o, none⟩ v).heap[b]? = some (.cells (cs.setIfInBounds o v) t (0, 0)) := by
  simp [World.setCell, Array.getElem?_modify, h]

theorem set_other {w : World} {b k o : Nat} (v : Value) (hk : k ≠ b) : (w.setCell ⟨b, o, none⟩ v).heap[k]? = w.heap[k]? := Below.heap_setCell _ _ _ _ hk

theorem mapOf_kept {w w' : World} {b : Option Nat} {l : Option (List Str)} (h : mapOf w b l) (hk : ∀ g, b = some g → w'.heap[g]? = w.heap[g]?) : mapOf w' b l := by
  cases b <;> cases l <;> simp only [mapOf] at h ⊢
  obtain ⟨es, c, he, hr⟩ := h
  exact ⟨es, c, (hk _ rfl).trans he, hr⟩

/-- A store into the tokenizer's own cells that leaves the rows. -/
theorem RepAt.setCell {w : World} {own : Nat → Prop} {b : Nat} {s s' : TS} {R : Regs} {ex : List Item} (h : RepAt w own b s R ex) (o : Nat) (v : Value) (hc : (cellsOf s R).setIfInBounds o v = cellsOf s' R) (hi : itemsOf s' R = itemsOf s R)
    (ht : s'.tag.names = s.tag.names) (ha : s'.tag.atts.length = s.tag.atts.length) (hl : s'.told.length = s.told.length) : RepAt (w.setCell ⟨b, o, none⟩ v) own b s' R ex where
  self := by rw [set_self h.self, hc]
  ownB := h.ownB
  rows := by rw [hi]; exact h.rows.kept fun k _ hk => set_other v hk.2.1
  map := by rw [ht]; exact mapOf_kept h.map fun g hg => set_other v (h.mapB g hg).2
  mapB := h.mapB
  la := h.la.trans ha.symm
  lv := h.lv.trans ha.symm
  lt := h.lt.trans hl.symm

theorem Kept.setCell {own : Nat → Prop} {w0 w : World} (h : Kept own w0 w) {b : Nat} (o : Nat) (v : Value) (hb : own b ∨ w0.heap.size ≤ b) : Kept own w0 (w.setCell ⟨b, o, none⟩ v) :=
  ⟨h.os, h.tape, h.output, by simpa [World.setCell] using h.size, fun k hk hn => by
    rw [set_other v (fun e => by subst e; rcases hb with hb | hb; exact hn hb; omega)]; exact h.block k hk hn⟩

theorem RepAt.lt_b {w : World} {own : Nat → Prop} {b : Nat} {s : TS} {R : Regs} {ex : List Item} (h : RepAt w own b s R ex) : b < w.heap.size := (Array.getElem?_eq_some_iff.1 h.self).1

/-- What the walk wants: each cell. -/
theorem RepAt.cell {w : World} {own : Nat → Prop} {b : Nat} {s : TS} {R : Regs} {ex : List Item} (h : RepAt w own b s R ex) (o : Nat) : w.cell? ⟨b, o, none⟩ = (cellsOf s R)[o]? := cell_of_self h.self o
theorem RepAt.frozen {w : World} {own : Nat → Prop} {b : Nat} {s : TS} {R : Regs} {ex : List Item} (h : RepAt w own b s R ex) (o : Nat) : w.frozen? ⟨b, o, none⟩ = false := frozen_of_self h.self o

set_option maxHeartbeats 400000 in
theorem to_does {w0 : World} {own0 : Nat → Prop} {b : Nat} {s : TS} {ex : List Item} {w : World} (q : Int) (h : Tk w0 own0 b s ex w) :
    Calls Tryz.prog 125 #[.pointer (some ⟨b, 0, none⟩), .int .i64 q] w fun e w' => e = .returned (.int .i64 0) ∧ Tk w0 own0 b { s with state := q } ex w' := by
  obtain ⟨⟨R, hR⟩, hk⟩ := h
  have c4 : w.cell? ⟨b, 5, none⟩ = some (.int .i64 s.state) := hR.cell 5
  have hf := hR.frozen
  go_enter Tryz.func125, Tryz.ntmps125
  go_wp2
  go_ret
  exact ⟨rfl, ⟨R, hR.setCell 5 _ rfl rfl rfl rfl rfl⟩, hk.setCell 5 _ hR.ownB⟩
end Go.Proofs.YtdfmapcnfficlaaGreatDoor

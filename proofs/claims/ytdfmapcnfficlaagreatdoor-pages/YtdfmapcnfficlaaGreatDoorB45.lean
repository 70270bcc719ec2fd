/-
  The law's 'awake': the document's examples.
  The law's 'awake' answers true.
-/
import Derived.Test.YtdfmapcnfficlaaGreatDoorB44
set_option linter.unusedSimpArgs false
set_option linter.unusedVariables false
namespace Go.Proofs.YtdfmapcnfficlaaGreatDoor
open Go Go.RowKit

def ex1 : List Tok := [{ kind := 1, name := [112], attrs := [[99, 108, 97, 115, 115], [97], [98], [99]] }, { kind := 5, name := [115, 101, 109, 105, 99, 111, 108, 111, 110], place := 22 }, { kind := 0, text := [120, 32, 60, 32, 121] }, { kind := 2, name := [112] }, { kind := 6 }]
def ex2 : List Tok := [{ kind := 1, name := [116, 105, 116, 108, 101] }, { kind := 0, text := [60, 98, 62, 38] }, { kind := 2, name := [116, 105, 116, 108, 101] }, { kind := 6 }]
def ex3 : List Tok := [{ kind := 4, name := [104, 116, 109, 108] }, { kind := 3, text := [97, 45, 45, 98] }, { kind := 6 }]
def ex4 : List Tok := [{ kind := 5, name := [97, 98, 114, 117, 112, 116], place := 4 }, { kind := 3 }, { kind := 6 }]
def ex5 : List Tok := [{ kind := 5, name := [101, 110, 100, 45, 105, 110, 45, 116, 97, 103], place := 2 }, { kind := 0, text := [97, 60] }, { kind := 6 }]
def in1 : Str := [60, 80, 32, 67, 108, 97, 115, 115, 61, 97, 32, 98, 61, 39, 99, 39, 62, 120, 32, 38, 108, 116, 32, 121, 60, 47, 112, 62]
def in2 : Str := [60, 116, 105, 116, 108, 101, 62, 60, 98, 62, 38, 97, 109, 112, 59, 60, 47, 84, 73, 84, 76, 69, 32, 62]
def in3 : Str := [60, 33, 100, 111, 99, 116, 121, 112, 101, 32, 72, 84, 77, 76, 62, 60, 33, 45, 45, 97, 45, 45, 98, 45, 45, 62]
def in4 : Str := [60, 33, 45, 45, 62]
def in5 : Str := [97, 60]

theorem toks4 : toks in4 = ex4 := by kernel_rfl
theorem toks3 : toks in3 = ex3 := by kernel_rfl
theorem toks2 : toks in2 = ex2 := by kernel_rfl
theorem toks1 : toks in1 = ex1 := by kernel_rfl
theorem toks5 : (closeT (take (put { limit := 10 } in5))).told = ex5 := by kernel_rfl
theorem toks5a : (put { limit := 10 } in5).told = [] := by kernel_rfl
theorem toks5b : (put { limit := 10 } in5).text = [97] := by kernel_rfl
theorem toks5c : runeCount [97] = 1 := by kernel_rfl
end Go.Proofs.YtdfmapcnfficlaaGreatDoor

set_option linter.unusedSimpArgs false
set_option linter.unusedVariables false
namespace Go.Proofs.YtdfmapcnfficlaaGreatDoor
open Go Go.RowKit

theorem more_kept {w w' : World} (h : More w w') : Kept (fun _ => False) w w' := ⟨h.os, h.tape, h.output, h.size, fun k hk _ => h.block k hk⟩
theorem Base.more {w w' : World} (B : Base w (fun _ => False)) (h : More w w') : Base w' (fun _ => False) :=
  ⟨B.at (more_kept h), fun g hg => ⟨id, Nat.lt_of_lt_of_le (B.out g hg).2 h.size⟩⟩

theorem toksV_lit {W : World} {g n : Nat} {cs : Array Value} {T : TypeId} {fz : Nat × Nat} (l : List Tok) (ta : List Sl) (hg : W.heap[g]? = some (.cells cs T fz)) (hl : ta.length = l.length) (hc : cs.toList = toldCells l ta)
    (hs : ∀ (k : Nat) (t : Tok) (x : Sl), l[k]? = some t → ta[k]? = some x → StrsAt W x t.attrs) (hn : n = l.length) (hb : ∀ t : Tok, t ∈ l → t.attrs.length ≤ maxLen) : ToksV W (.slice (some ⟨g, 0, none⟩) n n) l := by
  subst hn
  refine ⟨_, _, rfl, fun _ => ⟨g, rfl, fun k t hk => ?_, (Array.getElem?_eq_some_iff.1 hg).1⟩, Nat.le_refl _, hb⟩
  have hk' : k < ta.length := by rw [hl]; exact (List.getElem?_eq_some_iff.1 hk).1
  obtain ⟨x, hx⟩ : ∃ x, ta[k]? = some x := ⟨ta[k], by simp [hk']⟩
  have hcc : ∀ i u, i < 6 → (tokCells t x)[i]? = some u → W.cell? ⟨g, k * 6 + i, none⟩ = some u := fun i u hi hu => by
    have h1 := (toldCells_at l ta k t x hk hx i hi).trans hu
    rw [← hc] at h1
    rw [show W.cell? ⟨g, k * 6 + i, none⟩ = cs[k * 6 + i]? by simp [World.cell?, hg]]
    simpa using h1
  exact ⟨x, hcc 0 _ (by decide) rfl, hcc 1 _ (by decide) rfl, hcc 2 _ (by decide) rfl, hcc 3 _ (by decide) rfl, hcc 4 _ (by decide) rfl, hcc 5 _ (by decide) rfl, hs k t x hk hx⟩

theorem strsAt_nil (W : World) (x : Sl) : StrsAt W x [] := fun j y h => by simp at h

def nilSl : Sl := ⟨none, 0⟩
theorem heap_last (w : World) (o : Obj) (n : Nat) (h : n = w.heap.size) : (w.alloc o).heap[n]? = some o := by subst h; exact heap_alloc_new w o

theorem lit1 (w : World) (g : Nat) (hg : g = w.heap.size + 1) : ToksV ((w.alloc (.cells #[.string ⟨#[99, 108, 97, 115, 115]⟩, .string ⟨#[97]⟩, .string ⟨#[98]⟩, .string ⟨#[99]⟩] 9)).alloc (.cells (toldCells ex1 [⟨some ⟨w.heap.size, 0, none⟩, 4⟩, nilSl, nilSl, nilSl, nilSl]).toArray 34)) (.slice (some ⟨g, 0, none⟩) 5 5) ex1 := by
  refine toksV_lit ex1 [⟨some ⟨w.heap.size, 0, none⟩, 4⟩, nilSl, nilSl, nilSl, nilSl] (heap_last _ _ _ (by simp [hg])) rfl rfl ?_ rfl ?_
  · intro k t x hk hx
    match k, hk, hx with
    | 0, hk, hx =>
      simp [ex1] at hk hx
      subst hk hx
      intro j y hy
      refine ⟨w.heap.size, rfl, by simp; omega, ?_⟩
      match j, hy with
      | 0, hy => simp at hy; subst hy; simp
      | 1, hy => simp at hy; subst hy; simp
      | 2, hy => simp at hy; subst hy; simp
      | 3, hy => simp at hy; subst hy; simp
      | j + 4, hy => simp at hy
    | 1, hk, hx => simp [ex1] at hk; subst hk; exact strsAt_nil _ _
    | 2, hk, hx => simp [ex1] at hk; subst hk; exact strsAt_nil _ _
    | 3, hk, hx => simp [ex1] at hk; subst hk; exact strsAt_nil _ _
    | 4, hk, hx => simp [ex1] at hk; subst hk; exact strsAt_nil _ _
    | k + 5, hk, hx => simp [ex1] at hk
  · intro t ht
    simp [ex1] at ht
    rcases ht with rfl | rfl | rfl | rfl | rfl <;> simp [maxLen]

theorem litN (w : World) (l : List Tok) (g n : Nat) (hg : g = w.heap.size) (hn : n = l.length) (ha : ∀ t ∈ l, t.attrs = []) : ToksV (w.alloc (.cells (toldCells l (List.replicate l.length nilSl)).toArray 34)) (.slice (some ⟨g, 0, none⟩) n n) l := by
  refine toksV_lit l (List.replicate l.length nilSl) (heap_last _ _ _ hg) (by simp) rfl ?_ hn ?_
  · intro k t x hk hx
    rw [ha t (List.mem_of_getElem? hk)]
    exact strsAt_nil _ _
  · intro t ht
    rw [ha t ht]
    simp

theorem toks_small {x : Str} (l : List Tok) (h : toks x = l) {w : World} {v : Value} (hv : ToksV w v (toks x)) : ToksV w v l := by rw [← h]; exact hv

set_option maxHeartbeats 4000000 in
set_option maxRecDepth 1000000 in
theorem awake_does (w : World) (B : Base w (fun _ => False)) :
    Calls Tryz.prog 14 #[] w fun e w' => e = .returned (.bool true) ∧ More w w' := by
  have HA := hide (fun (x : Str) (W : World) (hm : More w W) (hx : x.length ≤ 1073741824) => apart_does x W hx (B.more hm))
  have HB := hide (fun (W : World) (hm : More w W) => B.more hm)
  clear B
  go_enter Tryz.func14, Tryz.ntmps14
  go_wp2_with fail
  refine (unhide HA in1 _ (More.refl w) (by decide)).mono ?_
  rintro e w1 ⟨v1, rfl, t1, m1⟩
  go_wp2_with fail
  refine (unhide HA in2 _ m1 (by decide)).mono ?_
  rintro e w2 ⟨v2, rfl, t2, m2'⟩
  have m2 := m1.trans' m2'
  go_wp2_with fail
  refine (unhide HA in3 _ m2 (by decide)).mono ?_
  rintro e w3 ⟨v3, rfl, t3, m3'⟩
  have m3 := m2.trans' m3'
  go_wp2_with fail
  refine (unhide HA in4 _ m3 (by decide)).mono ?_
  rintro e w4 ⟨v4, rfl, t4, m4'⟩
  have m4 := m3.trans' m4'
  have T1 := hide (toks_small ex1 toks1 (((t1.more m2').more m3').more m4'))
  have T2 := hide (toks_small ex2 toks2 ((t2.more m3').more m4'))
  have T3 := hide (toks_small ex3 toks3 (t3.more m4'))
  have T4 := hide (toks_small ex4 toks4 t4)
  have M4 := hide m4
  clear t1 t2 t3 t4 m1 m2 m3 m4 m2' m3' m4' HA
  have hl1 : ex1.length ≤ lim := by decide
  have hl2 : ex2.length ≤ lim := by decide
  have hl3 : ex3.length ≤ lim := by decide
  have hl4 : ex4.length ≤ lim := by decide
  have hl5 : ex5.length ≤ lim := by decide
  go_wp2_with fail
  refine (same_true ex1 _ _ _ ((unhide T1).more (((More.refl w4).alloc _).alloc _)) (lit1 w4 _ rfl) hl1).mono ?_
  rintro e w5 ⟨rfl, m5'⟩
  have m5 := (((More.refl w4).alloc _).alloc _).trans' m5'
  have T2 := hide ((unhide T2).more m5)
  have T3 := hide ((unhide T3).more m5)
  have T4 := hide ((unhide T4).more m5)
  have M5 := hide ((unhide M4).trans' m5)
  clear T1 M4 m5 m5'
  go_wp2_with fail
  refine (same_true ex2 _ _ _ ((unhide T2).more ((More.refl w5).alloc _)) (litN w5 ex2 _ _ rfl rfl (by decide)) hl2).mono ?_
  rintro e w6 ⟨rfl, m6'⟩
  have m6 := ((More.refl w5).alloc _).trans' m6'
  have T3 := hide ((unhide T3).more m6)
  have T4 := hide ((unhide T4).more m6)
  have M6 := hide ((unhide M5).trans' m6)
  clear T2 M5 m6 m6'
  go_wp2_with fail
  refine (same_true ex3 _ _ _ ((unhide T3).more ((More.refl w6).alloc _)) (litN w6 ex3 _ _ rfl rfl (by decide)) hl3).mono ?_
  rintro e w7 ⟨rfl, m7'⟩
  have m7 := ((More.refl w6).alloc _).trans' m7'
  have T4 := hide ((unhide T4).more m7)
  have M7 := hide ((unhide M6).trans' m7)
  clear T3 M6 m7 m7'
  go_wp2_with fail
  refine (same_true ex4 _ _ _ ((unhide T4).more ((More.refl w7).alloc _)) (litN w7 ex4 _ _ rfl rfl (by decide)) hl4).mono ?_
  rintro e w8 ⟨rfl, m8'⟩
  have m8 := ((More.refl w7).alloc _).trans' m8'
  have M8 := hide ((unhide M7).trans' m8)
  clear T4 M7 m8 m8'
  have HB8 := hide (unhide HB w8 (unhide M8))
  go_wp2_with fail
  refine (new_does 10 w8 (fun _ => False)).mono ?_
  rintro e w9 ⟨rfl, h9⟩
  rw [show max (10 : Int) 0 = 10 from rfl] at h9
  go_wp2_with fail
  refine (write_ok (n := 0) (Open.new 10) in5 (by decide) (by decide) (by decide) (unhide HB8) h9).mono ?_
  rintro e w10 ⟨rfl, h10⟩
  have o10 := (open_put (w0 := w8) (own0 := fun _ => False) (Open.new 10) in5 (by decide)).2.1
  go_wp2_with fail
  refine (held_does h10 (by have := o10.small; have e5 : in5.length = 2 := rfl; unfold lim; omega)).mono ?_
  rintro e w11 ⟨rfl, h11⟩
  rw [toks5b, toks5c]
  go_wp2_with fail
  refine (take_does h11).mono ?_
  rintro e w12 ⟨r12, ta12, l12, rfl, h12⟩
  rw [toks5a]
  go_wp2_with fail
  refine (close_ok (open_take o10) (by decide) (unhide HB8) h12).mono ?_
  rintro e w13 ⟨rfl, h13⟩
  go_wp2_with fail
  refine (take_does h13).mono ?_
  rintro e w14 ⟨r14, ta14, l14, rfl, h14⟩
  have T5 := hide (show ToksV w14 (.slice r14.a (closeT (take (put { limit := 10 } in5))).told.length r14.cap) ex5 by rw [← toks5]; exact taken_toks h14 l14)
  have M14 := hide ((unhide M8).trans' (kept_more h14.2))
  clear h9 h10 h11 h12 h13 h14 l12 l14 o10
  generalize Value.slice r14.a (closeT (take (put { limit := 10 } in5))).told.length r14.cap = v14 at *
  go_wp2_with fail
  refine (same_true ex5 _ _ _ ((unhide T5).more ((More.refl w14).alloc _)) (litN w14 ex5 _ _ rfl rfl (by decide)) hl5).mono ?_
  rintro e w15 ⟨rfl, m15'⟩
  have M15 := hide ((unhide M14).trans' (((More.refl w14).alloc _).trans' m15'))
  clear m15' M14 T5
  go_wp2
  go_ret
  exact ⟨rfl, unhide M15⟩
end Go.Proofs.YtdfmapcnfficlaaGreatDoor

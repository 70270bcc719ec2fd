/-
  Names: the walk of the law's body, the two sentinels' cells as hypotheses.
-/
import Derived.Test.YtdfmapcnfficlaaDoorRows
import Derived.Tactics
import Derived.Tactics2
import Derived.StillTactics
import Derived.Laws.Pointers
import Derived.Laws.Alloc2
import Derived.Laws.Build
import Derived.Laws.ByValue
import Derived.Laws.Cells
import Derived.Laws.Entries
import Derived.Laws.NewBlocks
import Derived.Laws.NewDeep
import Derived.Laws.NewFold
import Derived.Laws.Small
import Derived.Laws.Sem
import Derived.Laws.StructEq
import Derived.Laws.World
import Derived.RegionTactic
import Derived.LoopTactic
import Derived.ChangeAlike
import Derived.RowKitTokens
import Derived.LaidEql
namespace Go.Proofs.YtdfmapcnfficlaaDoor
open Go Go.RowKit

theorem Tryd.comp25 : (Tryd.prog.info? 25).map (·.comparable) = some true := by kernel_rfl
theorem Tryd.size43 : (Tryd.prog.info? 43).map (·.size) = some 1 := by kernel_rfl

theorem run_neq_other (w : World) {ti tp te : TypeId} {ms : Array (String × TypeId)} {i j : TypeInfo} {a b : Addr} {ca cb : Array Value} {ta tb : TypeId}
    (hi : Tryd.prog.underlying ti = some (.interface ms)) (hp : Tryd.prog.underlying tp = some (.pointer te)) (hinfo : Tryd.prog.info? tp = some i) (hcomp : i.comparable = true) (hte : Tryd.prog.info? te = some j) (hsz : j.size ≠ 0)
    (hne : a ≠ b) (ha : w.heap[a.block]? = some (.cells ca ta (0, 0))) (hb : w.heap[b.block]? = some (.cells cb tb (0, 0))) :
    (binOp .neq ti (.iface tp (.pointer (some a))) (.iface tp (.pointer (some b)))).run Tryd.prog w = .ok (.bool true) w := by
  simp only [binOp]
  simp [Op.equal, Op.maxDepth, run_equalIn_iface_ptr_other w 9998 hi hp hinfo hcomp hte hsz hne ha hb]

theorem names_walk (a0 a1 : Addr) (c0 c1 : Array Value) (t0 t1 : TypeId) (w : World)
    (hc0 : w.cell? ⟨0, 0, none⟩ = some (.iface 25 (.pointer (some a0)))) (hc1 : w.cell? ⟨1, 0, none⟩ = some (.iface 25 (.pointer (some a1))))
    (hne : a0 ≠ a1) (hb0 : w.heap[a0.block]? = some (.cells c0 t0 (0, 0))) (hb1 : w.heap[a1.block]? = some (.cells c1 t1 (0, 0))) :
    Calls Tryd.prog 3 #[] w fun e w' => e = .returned (.bool true) ∧ w' = w := by
  obtain ⟨i, hi, hcmp⟩ := Option.map_eq_some_iff.1 Tryd.comp25
  obtain ⟨j, hj, hjs⟩ := Option.map_eq_some_iff.1 Tryd.size43
  go_enter Tryd.func3, Tryd.ntmps3
  go_wp2
  rw [run_neq_other w Tryd.underlying23 Tryd.underlying25 hi hcmp hj (by rw [hjs]; decide) hne hb0 hb1]
  go_wp2
  go_ret
  exact ⟨rfl, rfl⟩
end Go.Proofs.YtdfmapcnfficlaaDoor

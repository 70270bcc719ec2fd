import Derived.Test.YtdfmapcnfficlaaGreatDoorP48
set_option linter.all false
set_option maxHeartbeats 4000000
set_option maxRecDepth 1000000
namespace Go.Proofs.YtdfmapcnfficlaaGreatDoor.M
open Go.Proofs.Tryz
open Go Go.RowKit Go.Proofs.YtdfmapcnfficlaaGreatDoor
theorem Fy.more{w w':World}{ac al:Addr}(T:Fy w ac al)(hm:More w w'):Fy w' ac al:=by
 have hk:Kept (fun _=>False) w w':=⟨hm.os,hm.tape,hm.output,hm.size,fun k hk _=>hm.block k hk⟩
 refine⟨⟨T.base.at hk,fun g hg=> ?_⟩,T.errs.more hm,T.pow.more hm⟩
 have:=T.base.out g hg
 exact⟨this.1,ei this.2 hm.size⟩
theorem zcv(x:Str)(w:World){ac al:Addr}(hx:x.length≤4000000)(T:Fy w ac al):
  Calls prog 3 #[.string ⟨x.toArray⟩] w fun e w'=>e= .returned (.bool true)∧More w w':=by
 have HT:=hide T
 clear T
 go_enter func3,ntmps3
 go_wp2_with fail
 have hm:=(More.refl w).alloc (.cells #[.int .i64 2,.int .i64 1,.int .i64 0,.string ⟨x.toArray⟩,.slice none 0 0,.int .i64 5,.int .i64 1,.int .i64 0,.string ⟨#[]⟩,.slice none 0 0,.int .i64 4,.int .i64 1,.int .i64 0,.string ⟨#[]⟩,.slice none 0 0] 25)
 have hq:(w.alloc (.cells #[.int .i64 2,.int .i64 1,.int .i64 0,.string ⟨x.toArray⟩,.slice none 0 0,.int .i64 5,.int .i64 1,.int .i64 0,.string ⟨#[]⟩,.slice none 0 0,.int .i64 4,.int .i64 1,.int .i64 0,.string ⟨#[]⟩,.slice none 0 0] 25)).heap[w.heap.size]? =some (.cells #[.int .i64 2,.int .i64 1,.int .i64 0,.string ⟨x.toArray⟩,.slice none 0 0,.int .i64 5,.int .i64 1,.int .i64 0,.string ⟨#[]⟩,.slice none 0 0,.int .i64 4,.int .i64 1,.int .i64 0,.string ⟨#[]⟩,.slice none 0 0] 25 (0,0)):=heap_alloc_new w _
 generalize w.alloc (.cells #[.int .i64 2,.int .i64 1,.int .i64 0,.string ⟨x.toArray⟩,.slice none 0 0,.int .i64 5,.int .i64 1,.int .i64 0,.string ⟨#[]⟩,.slice none 0 0,.int .i64 4,.int .i64 1,.int .i64 0,.string ⟨#[]⟩,.slice none 0 0] 25)=wq at*
 have hl:w.heap.size<wq.heap.size:=(co.1 hq).1
 have hs:Scr wq (some ⟨w.heap.size,0,none⟩) [⟨2,1,0,x,.slice none 0 0⟩,⟨5,1,0,[],.slice none 0 0⟩,⟨4,1,0,[],.slice none 0 0⟩]:=by
  refine⟨fun i q hi=>⟨w.heap.size,0,rfl,hl,?_⟩,fun q hi=> ?_,by simp,by simp[Ww];omega⟩
  ·rcases(show i=0∨i=1∨i=2∨3≤i by omega)with rfl|rfl|rfl|h3
   ·simp at hi;subst hi
    refine⟨?_,?_,?_,?_,?_⟩<;>rw[bg hq]<;>rfl
   ·simp at hi;subst hi
    refine⟨?_,?_,?_,?_,?_⟩<;>rw[bg hq]<;>rfl
   ·simp at hi;subst hi
    refine⟨?_,?_,?_,?_,?_⟩<;>rw[bg hq]<;>rfl
   ·have:=(cd.1 hi).1
    simp at this;omega
  ·simp at hi
   rcases hi with rfl|rfl|rfl<;>simp
 have HC:=hide (Qj ((ae HT).more hm) _ _ 3 hs (x.length:Int) (by omega))
 have HM:=hide hm
 clear hm hq hl hs
 refine(ae HC).mono ?_
 rintro e w2⟨rfl,hm2⟩
 have HF:=hide ((ae HM).tr hm2)
 clear HC hm2 HM
 go_wp2
 go_ret
 exact⟨rfl,ae HF⟩
end Go.Proofs.YtdfmapcnfficlaaGreatDoor.M

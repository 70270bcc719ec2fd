import Derived.Test.YtdfmapcnfficlaaGreatDoorRows
import Derived.Laws.AppendOwn
import Derived.Below
import Derived.Lib.AppendStr
import Derived.Tactics
import Derived.Tactics2
import Derived.StillTactics
import Derived.WalkKit
import Derived.Laws.Pointers
import Derived.Laws.Alloc2
import Derived.Laws.Build
import Derived.Laws.ByValue
import Derived.Laws.Cells
import Derived.Laws.Entries
import Derived.Laws.NewBlocks
import Derived.Laws.NewDeep
import Derived.Laws.NewFold
import Derived.Laws.Small
import Derived.Laws.Sem
import Derived.Laws.StructEq
import Derived.Laws.World
import Derived.RegionTactic
import Derived.LoopTactic
import Derived.ChangeAlike
import Derived.RowKitTokens
import Derived.Maps.OwnSet
import Derived.Lib.RuneBytes
set_option linter.all false
set_option maxHeartbeats 4000000
set_option maxRecDepth 100000
namespace Go.Proofs.YtdfmapcnfficlaaGreatDoor
open Go Go.RowKit
theorem af:type_of% @beq_eq_false_iff_ne:=@beq_eq_false_iff_ne
theorem ai:type_of% @List.length_cons:=@List.length_cons
theorem ag:type_of% @if_neg:=@if_neg
theorem ak:type_of% @List.length_nil:=@List.length_nil
theorem am:type_of% @List.setIfInBounds_toArray:=@List.setIfInBounds_toArray
theorem ap:type_of% @bodyPost_ret:=@bodyPost_ret
theorem aq:type_of% @List.length_append:=@List.length_append
theorem av:type_of% @results_none:=@results_none
theorem au:type_of% @if_pos:=@if_pos
theorem aw:type_of% @List.set_cons_zero:=@List.set_cons_zero
theorem ay:type_of% @List.set_cons_succ:=@List.set_cons_succ
theorem az:type_of% @Bool.eq_false_iff:=@Bool.eq_false_iff
theorem bj:type_of% @UInt8.toNat_lt:=@UInt8.toNat_lt
theorem bu:type_of% @List.getD_eq_getElem?_getD:=@List.getD_eq_getElem?_getD
theorem b8:type_of% @Bool.false_eq_true:=@Bool.false_eq_true
theorem cb:type_of% @Nat.zero_lt_succ:=@Nat.zero_lt_succ
theorem cd:type_of% @List.getElem?_eq_some_iff:=@List.getElem?_eq_some_iff
theorem ch:type_of% @decide_eq_false:=@decide_eq_false
theorem co:type_of% @Array.getElem?_eq_some_iff:=@Array.getElem?_eq_some_iff
theorem cv:type_of% @List.getElem?_cons_succ:=@List.getElem?_cons_succ
theorem cx:type_of% @Nat.le_refl:=@Nat.le_refl
theorem dd:type_of% @List.getElem?_cons_zero:=@List.getElem?_cons_zero
theorem de:type_of% @List.mem_singleton:=@List.mem_singleton
theorem da:type_of% @Nat.zero_le:=@Nat.zero_le
theorem ei:type_of% @Nat.lt_of_lt_of_le:=@Nat.lt_of_lt_of_le
theorem ez:type_of% @List.mem_filterMap:=@List.mem_filterMap
theorem fb:type_of% @Option.getD_some:=@Option.getD_some
theorem fj:type_of% @List.length_drop:=@List.length_drop
theorem fk:type_of% @World.cell?_of_block:=@World.cell?_of_block
theorem fm:type_of% @List.append_assoc:=@List.append_assoc
theorem fz:type_of% @Nat.le_trans:=@Nat.le_trans
theorem gy:type_of% @decide_eq_true:=@decide_eq_true
theorem gq:type_of% @List.append_nil:=@List.append_nil
theorem ia:type_of% @Nat.succ_lt_succ:=@Nat.succ_lt_succ
theorem ib:type_of% @Nat.lt_succ_self:=@Nat.lt_succ_self
theorem ig:type_of% @List.getElem?_eq_getElem:=@List.getElem?_eq_getElem
theorem ij:type_of% @List.filterMap_append:=@List.filterMap_append
theorem ja:type_of% @Nat.zero_add:=@Nat.zero_add
theorem bh:type_of% @World.ownsRow.alloc:=@World.ownsRow.alloc
structure Kept(own:Nat→Prop)(w w':World):Prop where
 os:w'.os=w.os
 tape:w'.tape=w.tape
 output:w'.output=w.output
 size:w.heap.size≤w'.heap.size
 block:∀k,k<w.heap.size→¬own k→w'.heap[k]? =w.heap[k]?
theorem Kept.refl(own:Nat→Prop)(w:World):Kept own w w:=⟨rfl,rfl,rfl,cx _,fun _ _ _=>rfl⟩
theorem Kept.trans{own own':Nat→Prop}{a b c:World}(h:Kept own a b)(k:Kept own' b c)(ho:∀x,x<a.heap.size→own' x→own x):Kept own a c:=
 ⟨k.os.trans h.os,k.tape.trans h.tape,k.output.trans h.output,fz h.size k.size,
  fun x hx hn=>(k.block x (ei hx h.size) (fun hh=>hn (ho x hx hh))).trans (h.block x hx hn)⟩
structure Item where
 e:TypeId
 size:Nat
 a:Option Addr
 n:Nat
 cap:Nat
 xs:List Value
def Item.v(it:Item):Value:= .slice it.a it.n it.cap
def Item.ok(w:World)(it:Item):Prop:=w.ownsRow 0 it.e it.size (.slice it.a it.n it.cap) it.n it.xs
def Item.blk(it:Item):Option Nat:=it.a.map (·.block)
theorem xo(a:Option Addr)(n c:Nat):(Value.slice a n c).ownBlock=a.map (·.block):=by
 cases a<;>rfl
theorem Item.Bh{w w':World}{it:Item}(h:it.ok w)(hk:∀k,it.blk=some k→w'.heap[k]? =w.heap[k]?):it.ok w':=by
 refine⟨h.1,?_⟩
 rcases h.2 with hn|⟨g,cap,cur,hv,hb,hgg,rest⟩
 ·exact .inl hn
 ·refine .inr ⟨g,cap,cur,hv,hb,?_,rest⟩
  rw[hk g (by
   have:it.a=some ⟨g,0,none⟩:=by injection hv
   simp[Item.blk,this])]
  exact hgg
theorem Item.lt{w:World}{it:Item}(h:it.ok w):∀k,it.blk=some k→k<w.heap.size:=by
 intro k hk
 exact(World.ownsRow.lt h k (by rw[xo];exact hk)).2
structure Items(w:World)(own:Nat→Prop)(l:List Item):Prop where
 ok:∀it∈l,it.ok w
 nodup:(l.filterMap Item.blk).Nodup
 own:∀k∈l.filterMap Item.blk,own k
theorem Items.kept{w w':World}{own:Nat→Prop}{l:List Item}(h:Items w own l)(hk:∀k,k<w.heap.size→own k→w'.heap[k]? =w.heap[k]?):Items w' own l:=
 ⟨fun it hi=>Item.Bh (h.ok it hi) fun k hb=>hk k (Item.lt (h.ok it hi) k hb) (h.own k (ez.2 ⟨it,hi,hb⟩)),h.nodup,h.own⟩
theorem Items.step{w w':World}{own:Nat→Prop}{l1 l2:List Item}{it it':Item}(h:Items w own (l1++it::l2))(hg:w.grownBy w' it.blk)(h':it'.ok w')
  (hf:it'.blk=it.blk∨∃g,it'.blk=some g∧w.heap.size≤g) (ho:∀k,w.heap.size≤k→own k):Items w' own (l1++it'::l2):=by
 have hnd:=h.nodup
 have hlt:∀x∈l1++it::l2,∀k,x.blk=some k→k<w.heap.size:=fun x hx=>Item.lt (h.ok x hx)
 have hne:∀x∈l1++l2,∀k,x.blk=some k→it.blk≠some k:=by
  intro x hx k hk he
  simp only[ij,List.filterMap_cons,he]at hnd
  have hnd':=List.nodup_append.1 hnd
  rcases List.mem_append.1 hx with hx|hx
  ·exact hnd'.2.2 k (ez.2 ⟨x,hx,hk⟩) k (by simp) rfl
  ·exact(List.nodup_cons.1 hnd'.2.1).1 (ez.2 ⟨x,hx,hk⟩)
 refine⟨?_,?_,?_⟩
 ·intro x hx
  have hx':x∈l1++l2∨x=it':=by
   simp only[List.mem_append,List.mem_cons]at hx⊢
   rcases hx with h|h|h
   ·exact .inl (.inl h)
   ·exact .inr h
   ·exact .inl (.inr h)
  rcases hx' with hm|rfl
  ·have hm':x∈l1++it::l2:=by
    simp only[List.mem_append,List.mem_cons]at hm⊢
    rcases hm with h|h
    ·exact .inl h
    ·exact .inr (.inr h)
   refine Item.Bh (h.ok x hm') fun k hk=> ?_
   exact hg.block k (hlt x hm' k hk) (fun e=>hne x hm k hk e.symm)
  ·exact h'
 ·have hout:∀g,it'.blk=some g→g∉(l1++l2).filterMap Item.blk:=by
   intro g hg' hm
   obtain⟨x,hx,hk⟩:=ez.1 hm
   rcases hf with e|⟨g',e,hge⟩
   ·exact hne x hx g hk (e▸hg')
   ·have:g'=g:=by rw[e]at hg';exact Option.some.inj hg'
    subst this
    have hm':x∈l1++it::l2:=by
     simp only[List.mem_append,List.mem_cons]at hx⊢
     rcases hx with h|h
     ·exact .inl h
     ·exact .inr (.inr h)
    have:=hlt x hm' g' hk
    omega
  have hbase:((l1++l2).filterMap Item.blk).Nodup:=by
   simp only[ij]at hnd⊢
   refine hnd.sublist (List.Sublist.append (List.Sublist.refl _) ?_)
   simp only[List.filterMap_cons]
   split
   ·exact List.Sublist.refl _
   ·exact List.sublist_cons_self _ _
  simp only[ij,List.filterMap_cons]at hbase⊢
  cases hb:it'.blk with
  |none=>exact hbase
  |some g=>
   have hg':=hout g hb
   simp only[ij,List.mem_append,not_or]at hg'
   have hb':=List.nodup_append.1 hbase
   refine List.nodup_append.2 ⟨hb'.1,List.nodup_cons.2 ⟨hg'.2,hb'.2.1⟩,?_⟩
   intro a ha b hbm
   rcases List.mem_cons.1 hbm with rfl|hbm
   ·intro e;subst e;exact hg'.1 ha
   ·exact hb'.2.2 a ha b hbm
 ·intro k hk
  obtain⟨x,hx,hb⟩:=ez.1 hk
  simp only[List.mem_append,List.mem_cons]at hx
  rcases hx with hx|rfl|hx
  ·exact h.own k (ez.2 ⟨x,by simp[hx],hb⟩)
  ·rcases hf with e|⟨g',e,hge⟩
   ·exact h.own k (ez.2 ⟨it,by simp,by rw[←e];exact hb⟩)
   ·rw[e]at hb
    have:=Option.some.inj hb
    subst this
    exact ho _ hge
  ·exact h.own k (ez.2 ⟨x,by simp[hx],hb⟩)
theorem Dt{P:Program}(w:World)(t ty e:TypeId)(i:TypeInfo)(z:Value)(size bytes:Nat)(ht:P.underlying t=some (.slice e))(hi:P.info? e=some i)(hz:i.zero=some z)
  (hsize:i.size=size) (hby:i.bytes=bytes) (hzs:z.cells.size=size) (hsz:0<size)
  (ao:Option Addr) (n cap:Nat) (xs:List Value) (hown:w.ownsRow 0 e size (.slice ao n cap) n xs)
  (a:Addr) (m c:Nat) (news:List Value) (hl:news.length=m*size) (hnews:∀j u,news[j]? =some u→w.cell? (a.add j)=some u) (h1:∀u∈news,u.oneCell'=true) (hm:0<m)
  (h63:n+m≤maxLen) (hbytes:(n+m)*bytes≤140737488355328):
  ∃a' cap' w',(Builtin.append_ #[t,t] ty #[.slice ao n cap,.slice (some a) m c]).run P w= .ok (.slice (some a') (n+m) cap') w'∧w'.ownsRow 0 e size (.slice (some a') (n+m) cap') (n+m) (xs++news)∧
   w.grownBy w' (ao.map (·.block))∧(some a'.block=ao.map (·.block)∨w.heap.size≤a'.block):=by
 obtain⟨v',w',hr,h2,h3,h4⟩:=run_append_own (P:=P) w 0 t ty e i z size bytes ht hi hz hsize hby hzs hsz (.slice ao n cap) n xs hown a m c news hl hnews h1 h63 hbytes (da _)
 rw[xo]at h3
 obtain⟨g',cap',cur',rfl,_⟩:∃g cap' cur,v'= .slice (some ⟨g,0,none⟩) (n+m) cap'∧cur=cur∧True:=by
  rcases h2.2 with⟨_,h⟩|⟨g,cap',cur,h,_⟩
  ·omega
  ·exact⟨g,cap',cur,h,rfl,trivial⟩
 refine⟨⟨g',0,none⟩,cap',w',hr,h2,h3,?_⟩
 subst hsize
 subst hby
 have h63':((n+m:Nat):Int)≤9223372036854775807:=by simp only[maxLen]at h63;omega
 rcases hown.2 with⟨hv,hn⟩|⟨g,cap0,cur,hv,hbg,hg,hnc,hcm,hcs,htake⟩
 ·
  injection hv with e1 e2 e3
  subst e1;subst e2;subst e3
  have hr':=run_append_nil (P:=P) w t ty e i z ht hi hz a m c news hl hnews hm (by omega) (by have hb:=hbytes;simp only[ja]at hb;omega)
  rw[hr']at hr
  injection hr with e1 _
  injection e1 with e1 _ _
  injection e1 with e1
  injection e1 with e1 _ _
  exact .inr (by show w.heap.size≤g';omega)
 ·injection hv with e1 e2 e3
  subst e1;subst e3
  by_cases hroom:n+m≤cap
  ·have hfit:n*i.size+news.length≤cur.size:=by rw[hl,hcs,←Nat.add_mul];exact Nat.mul_le_mul_right _ hroom
   have hr':=run_append_room (P:=P) w t ty e i ht hi g n cap cur hg a m c news hl hnews h1 hroom hfit
   rw[hr']at hr
   injection hr with e1 _
   injection e1 with e1 _ _
   injection e1 with e1
   injection e1 with e1 _ _
   exact .inl (by simp[e1])
  ·have holds:∀j u,xs[j]? =some u→w.cell? ((⟨g,0,none⟩:Addr).add j)=some u:=hown.cells (g:=g) rfl
   have hr':=run_append_grow (P:=P) w t ty e i z ht hi hz ⟨g,0,none⟩ n cap xs hown.1 holds a m c news hl hnews (by omega) (by omega) (growslice_fits (by omega) hbytes)
   rw[hr']at hr
   injection hr with e1 _
   injection e1 with e1 _ _
   injection e1 with e1
   injection e1 with e1 _ _
   exact .inr (by show w.heap.size≤g';omega)
theorem dh{P:Program}(w:World){ops:Array Oper}{rest:List Oper}{o:Oper}{a:Act}{Q:Exit→Act→World→Prop}(hgd:o.guard=none)(s x:Operand)(t:TypeId)
  (ho:o.op= .call {callee:= .builtin .append,args:=#[s,x],argTypes:=#[t,t]})
  (e:TypeId) (i:TypeInfo) (z:Value) (size bytes:Nat) (ht:P.underlying t=some (.slice e)) (hi:P.info? e=some i) (hz:i.zero=some z)
  (hsize:i.size=size) (hby:i.bytes=bytes) (hzs:z.cells.size=size) (hsz:0<size)
  (ao:Option Addr) (n cap:Nat) (xs:List Value) (hs:a.eval s= .slice ao n cap) (hown:w.ownsRow 0 e size (.slice ao n cap) n xs)
  (ad:Addr) (m c:Nat) (news:List Value) (hx:a.eval x= .slice (some ad) m c) (hl:news.length=m*size) (hnews:∀j u,news[j]? =some u→w.cell? (ad.add j)=some u) (h1:∀u∈news,u.oneCell'=true) (hm:0<m)
  (h63:n+m≤maxLen) (hbytes:(n+m)*bytes≤140737488355328)
  (h:∀a' cap' w',w'.ownsRow 0 e size (.slice (some a') (n+m) cap') (n+m) (xs++news)→w.grownBy w' (ao.map (·.block))→(some a'.block=ao.map (·.block)∨w.heap.size≤a'.block)→wpList P ops Q rest (a.put o.dst (.slice (some a') (n+m) cap')) w'):wpList P ops Q (o::rest) a w:=by
 refine wpList_plain hgd fun _ hK=> ?_
 obtain⟨a',cap',w',hr,h2,h3,h4⟩:=Dt (P:=P) w t o.type e i z size bytes ht hi hz hsize hby hzs hsz ao n cap xs hown ad m c news hl hnews h1 hm h63 hbytes
 unfold Oper.wp execOp
 simp only[ho,resolve,invoke,builtin,Sem.run_bind,Sem.run_pure,Result.andThen_ok,List.map_toArray,List.map_cons,List.map_nil,hs,hx,hr]
 exact hK _ _ (h a' cap' w' h2 h3 h4)
def o0(w:World)(a a':Option Addr):Prop:=a'.map (·.block)=a.map (·.block)∨∃g,a'.map (·.block)=some g∧w.heap.size≤g
theorem Ge{P:Program}(w:World)(t u ty e:TypeId)(i:TypeInfo)(ht:P.underlying t=some (.slice e))(hu:P.underlying u=some .string)(hi:P.info? e=some i)(hz:i.zero=some (.int .u8 0))
  (hsize:i.size=1) (hby:i.bytes=1) (ao:Option Addr) (n cap:Nat) (xs:List Value) (hown:w.ownsRow 0 e 1 (.slice ao n cap) n xs) (s:ByteArray)
  (h63:n+s.size≤maxLen) (hbytes:n+s.size≤140737488355328):
  ∃Hv cap' w',(Builtin.append_ #[t,u] ty #[.slice ao n cap,.string s]).run P w= .ok (.slice Hv (n+s.size) cap') w'∧w'.ownsRow 0 e 1 (.slice Hv (n+s.size) cap') (n+s.size) (xs++Lib.strCells s)∧
   w.grownBy w' (ao.map (·.block))∧o0 w ao Hv:=by
 obtain⟨v',w',hr,h2,h3,h4⟩:=Lib.run_append_own_string (P:=P) w 0 t u ty e i ht hu hi hz hsize hby (.slice ao n cap) n xs hown s h63 hbytes (da _)
 rw[xo]at h3
 have hxl:xs.length=n:=by simpa using hown.1
 have h63':((n+s.size:Nat):Int)≤9223372036854775807:=by simp only[maxLen]at h63;omega
 rcases hown.2 with⟨hv,hn⟩|⟨g,cap0,cur,hv,hbg,hg,hnc,hcm,hcs,htake⟩
 ·injection hv with e1 e2 e3
  subst e1;subst e2;subst e3
  by_cases hm:s.size=0
  ·have hv':v'= .slice none 0 0:=h4.2 ⟨rfl,hm⟩
   subst hv'
   refine⟨none,0,w',?_,?_,h3,.inl rfl⟩
   ·rw[hr];simp[hm]
   ·simpa[hm]using h2
  ·obtain⟨v2,w2,hr2,h22,_,_⟩:=Lib.run_append_own_string (P:=P) w w.heap.size t u ty e i ht hu hi hz hsize hby (.slice none 0 0) 0 xs ⟨hown.1,.inl ⟨rfl,rfl⟩⟩ s h63 hbytes (cx _)
   rw[hr]at hr2
   injection hr2 with e1 e2
   subst e1;subst e2
   rcases h22.2 with⟨_,h⟩|⟨g,cap',cur,h,hge,_⟩
   ·omega
   ·subst h
    exact⟨_,cap',w',hr,h2,h3,.inr ⟨g,rfl,hge⟩⟩
 ·injection hv with e1 e2 e3
  subst e1;subst e3
  by_cases hroom:n+s.size≤cap
  ·have hr':=Lib.run_append_room_string (P:=P) w t u ty e i ht hu hi hsize g n cap cur hg s hroom (by simp at hcs;omega)
   rw[hr']at hr
   injection hr with e1 e2
   subst e1;subst e2
   exact⟨_,cap,_,hr',h2,h3,.inl rfl⟩
  ·have holds:∀j u,xs[j]? =some u→w.cell? ((⟨g,0,none⟩:Addr).add j)=some u:=hown.cells (g:=g) rfl
   have hr':=Lib.run_append_grow_string (P:=P) w t u ty e i (.int .u8 0) ht hu hi hz ⟨g,0,none⟩ n cap xs (by rw[hsize];simpa using hxl) holds s (by omega) (by omega) (by rw[hby];exact growslice_fits (by omega) (by omega))
   rw[hr']at hr
   injection hr with e1 e2
   subst e1;subst e2
   exact⟨_,_,_,hr',h2,h3,.inr ⟨w.heap.size,rfl,cx _⟩⟩
theorem pd{P:Program}(w:World){ops:Array Oper}{rest:List Oper}{o:Oper}{a:Act}{Q:Exit→Act→World→Prop}(hgd:o.guard=none)(sl x:Operand)(t u:TypeId)
  (ho:o.op= .call {callee:= .builtin .append,args:=#[sl,x],argTypes:=#[t,u]})
  (e:TypeId) (i:TypeInfo) (ht:P.underlying t=some (.slice e)) (hu:P.underlying u=some .string) (hi:P.info? e=some i) (hz:i.zero=some (.int .u8 0))
  (hsize:i.size=1) (hby:i.bytes=1)
  (ao:Option Addr) (n cap:Nat) (xs:List Value) (hs:a.eval sl= .slice ao n cap) (hown:w.ownsRow 0 e 1 (.slice ao n cap) n xs) (s:ByteArray) (hx:a.eval x= .string s)
  (h63:n+s.size≤maxLen) (hbytes:n+s.size≤140737488355328)
  (h:∀Hv cap' w',w'.ownsRow 0 e 1 (.slice Hv (n+s.size) cap') (n+s.size) (xs++Lib.strCells s)→w.grownBy w' (ao.map (·.block))→o0 w ao Hv→wpList P ops Q rest (a.put o.dst (.slice Hv (n+s.size) cap')) w'):wpList P ops Q (o::rest) a w:=by
 refine wpList_plain hgd fun K hK=> ?_
 obtain⟨Hv,cap',w',hr,h2,h3,h4⟩:=Ge (P:=P) w t u o.type e i ht hu hi hz hsize hby ao n cap xs hown s h63 hbytes
 unfold Oper.wp execOp
 simp only[ho,resolve,invoke,builtin,Sem.run_bind,Sem.run_pure,Result.andThen_ok,List.map_toArray,List.map_cons,List.map_nil,hs,hx,hr]
 exact hK _ _ (h Hv cap' w' h2 h3 h4)
end Go.Proofs.YtdfmapcnfficlaaGreatDoor
namespace Go.Proofs.YtdfmapcnfficlaaGreatDoor
open Go.Proofs.Tryz
open Go Go.RowKit
abbrev Str:=List UInt8
structure xp where
 name:Str:=[]
 value:Str:=[]
 twice:Bool:=false
structure zd0 where
 kind:Int:=0
 name:Str:=[]
 buffer:Str:=[]
 cy:List xp:=[]
 names:Option (List Str):=none
 closes:Bool:=false
structure Tok where
 kind:Int
 name:Str:=[]
 attrs:List Str:=[]
 text:Str:=[]
 flag:Bool:=false
 place:Int:=0
structure TS where
 begun:Str:=[]
 behind:Bool:=false
 limit:Int:=0
 bytes:Int:=0
 closed:Bool:=false
 state:Int:=0
 base:Int:=0
 place:Int:=0
 text:Str:=[]
 tag:zd0:={}
 lastStart:Str:=[]
 declared:Str:=[]
 comment:Str:=[]
 jw:Str:=[]
 odd:Bool:=false
 ev:Int:=0
 di:Str:=[]
 l9:Bool:=false
 nb:Bool:=false
 jx:Int:=0
 told:List Tok:=[]
def tp:List xp→Nat
 |[]=>0
 |a::r=>a.name.length+a.value.length+tp r
def sz(s:TS):Nat:=s.told.length+s.text.length+s.tag.name.length+s.tag.buffer.length+s.tag.cy.length+tp s.tag.cy+s.comment.length+s.jw.length+s.begun.length+s.declared.length+s.di.length+(s.tag.names.getD []).length
structure Sl where
 a:Option Addr
 cap:Nat
structure n9 where
 text:Sl
 fi:Sl
 buffer:Sl
 cy:Sl
 names:Option Nat
 comment:Sl
 jw:Sl
 told:Sl
 kg:List Sl
 jb:List Sl
 cz:List Sl
def str(l:Str):Value:= .string ⟨l.toArray⟩
def byteCells(l:Str):List Value:=l.map fun c=>Value.int .u8 c.toNat
def fq(t:Tok)(a:Sl):List Value:=[.int .i64 t.kind,.string ⟨t.name.toArray⟩,.slice a.a t.attrs.length a.cap,.string ⟨t.text.toArray⟩,.bool t.flag,.int .i64 t.place]
def qi(t:xp)(a b:Sl):List Value:=[.slice a.a t.name.length a.cap,.slice b.a t.value.length b.cap,.bool t.twice]
def eh:List Tok→List Sl→List Value
 |t::ts,a::rs=>fq t a++eh ts rs
 |_,_=>[]
def jl:List xp→List Sl→List Sl→List Value
 |t::ts,a::rs,b::bs=>qi t a b++jl ts rs bs
 |_,_,_=>[]
def cellsOf(s:TS)(R:n9):Array Value:=
 #[.string ⟨s.begun.toArray⟩,.bool s.behind,.int .i64 s.limit,.int .i64 s.bytes,.bool s.closed,.int .i64 s.state,.int .i64 s.base,.int .i64 s.place,
  .slice R.text.a s.text.length R.text.cap,
  .int .i64 s.tag.kind,.slice R.fi.a s.tag.name.length R.fi.cap,.slice R.buffer.a s.tag.buffer.length R.buffer.cap,.slice R.cy.a s.tag.cy.length R.cy.cap,.map R.names,.bool s.tag.closes,
  .string ⟨s.lastStart.toArray⟩,.string ⟨s.declared.toArray⟩,.slice R.comment.a s.comment.length R.comment.cap,
  .slice R.jw.a s.jw.length R.jw.cap,.bool s.odd,
  .int .i64 s.ev,.string ⟨s.di.toArray⟩,.bool s.l9,.bool s.nb,.int .i32 s.jx,
  .slice R.told.a s.told.length R.told.cap]
def cq(r:Sl)(l:Str):Item:=⟨5,1,r.a,l.length,r.cap,byteCells l⟩
def lr(r:Sl)(l:List Str):Item:=⟨9,1,r.a,l.length,r.cap,l.map str⟩
def ma:List xp→List Sl→List Sl→List Item
 |t::ts,a::rs,b::bs=>cq a t.name::cq b t.value::ma ts rs bs
 |_,_,_=>[]
def cw:List Tok→List Sl→List Item
 |t::ts,a::rs=>lr a t.attrs::cw ts rs
 |_,_=>[]
def fe(s:TS)(R:n9):List Item:=
 [cq R.text s.text,cq R.fi s.tag.name,cq R.buffer s.tag.buffer,⟨210,3,R.cy.a,s.tag.cy.length,R.cy.cap,jl s.tag.cy R.kg R.jb⟩,cq R.comment s.comment,cq R.jw s.jw,
  ⟨34,6,R.told.a,s.told.length,R.told.cap,eh s.told R.cz⟩]++(ma s.tag.cy R.kg R.jb++cw s.told R.cz)
def mapOf(w:World)(b:Option Nat)(l:Option (List Str)):Prop:=
 match b,l with
 |none,none=>True
 |some g,some ks=>w.ownsMap prog 9 (unitElem (H:=Unit)) g ks.length (Maps.setOf (.agg []) (ks.map Lit.string))
 |_,_=>False
structure ld(w:World)(own:Nat→Prop)(b:Nat)(s:TS)(R:n9)(ex:List Item):Prop where
 self:w.heap[b]? =some (.cells (cellsOf s R) 84 (0,0))
 ownB:own b
 rows:Items w (fun k=>own k∧k≠b∧some k≠R.names) (fe s R++ex)
 map:mapOf w R.names s.tag.names
 sj:∀g,R.names=some g→own g∧g≠b
 la:R.kg.length=s.tag.cy.length
 lv:R.jb.length=s.tag.cy.length
 lt:R.cz.length=s.told.length
def Tk(w0:World)(aj:Nat→Prop)(b:Nat)(s:TS)(ex:List Item)(w:World):Prop:=
 (∃R,ld w (fun k=>aj k∨w0.heap.size≤k) b s R ex)∧Kept aj w0 w
theorem bg{w:World}{b:Nat}{cs:Array Value}{t:TypeId}(h:w.heap[b]? =some (.cells cs t (0,0)))(o:Nat):w.cell? ⟨b,o,none⟩=cs[o]? :=by
 simp[World.cell?,h]
theorem bn{w:World}{b:Nat}{cs:Array Value}{t:TypeId}(h:w.heap[b]? =some (.cells cs t (0,0)))(o:Nat):w.frozen? ⟨b,o,none⟩=false:=by
 simp[World.frozen?,h]
theorem set_self{w:World}{b:Nat}{cs:Array Value}{t:TypeId}(h:w.heap[b]? =some (.cells cs t (0,0)))(o:Nat)(v:Value):(w.setCell ⟨b,o,none⟩ v).heap[b]? =some (.cells (cs.setIfInBounds o v) t (0,0)):=by
 simp[World.setCell,Array.getElem?_modify,h]
theorem kj{w:World}{b k o:Nat}(v:Value)(hk:k≠b):(w.setCell ⟨b,o,none⟩ v).heap[k]? =w.heap[k]? :=Below.heap_setCell _ _ _ _ hk
theorem qj{w w':World}{b:Option Nat}{l:Option (List Str)}(h:mapOf w b l)(hk:∀g,b=some g→w'.heap[g]? =w.heap[g]?):mapOf w' b l:=by
 cases b<;>cases l<;>simp only[mapOf]at h⊢
 obtain⟨es,c,he,hr⟩:=h
 exact⟨es,c,(hk _ rfl).trans he,hr⟩
theorem ld.setCell{w:World}{own:Nat→Prop}{b:Nat}{s s':TS}{R:n9}{ex:List Item}(h:ld w own b s R ex)(o:Nat)(v:Value)(hc:(cellsOf s R).setIfInBounds o v=cellsOf s' R)(hi:fe s' R=fe s R)
  (ht:s'.tag.names=s.tag.names) (ha:s'.tag.cy.length=s.tag.cy.length) (hl:s'.told.length=s.told.length):ld (w.setCell ⟨b,o,none⟩ v) own b s' R ex where
 self:=by rw[set_self h.self,hc]
 ownB:=h.ownB
 rows:=by rw[hi];exact h.rows.kept fun k _ hk=>kj v hk.2.1
 map:=by rw[ht];exact qj h.map fun g hg=>kj v (h.sj g hg).2
 sj:=h.sj
 la:=h.la.trans ha.symm
 lv:=h.lv.trans ha.symm
 lt:=h.lt.trans hl.symm
theorem Kept.setCell{own:Nat→Prop}{w0 w:World}(h:Kept own w0 w){b:Nat}(o:Nat)(v:Value)(hb:own b∨w0.heap.size≤b):Kept own w0 (w.setCell ⟨b,o,none⟩ v):=
 ⟨h.os,h.tape,h.output,by simpa[World.setCell]using h.size,fun k hk hn=>by
  rw[kj v (fun e=>by subst e;rcases hb with hb|hb;exact hn hb;omega)];exact h.block k hk hn⟩
theorem ld.yh{w:World}{own:Nat→Prop}{b:Nat}{s:TS}{R:n9}{ex:List Item}(h:ld w own b s R ex):b<w.heap.size:=(co.1 h.self).1
theorem ld.cell{w:World}{own:Nat→Prop}{b:Nat}{s:TS}{R:n9}{ex:List Item}(h:ld w own b s R ex)(o:Nat):w.cell? ⟨b,o,none⟩=(cellsOf s R)[o]? :=bg h.self o
theorem ld.frozen{w:World}{own:Nat→Prop}{b:Nat}{s:TS}{R:n9}{ex:List Item}(h:ld w own b s R ex)(o:Nat):w.frozen? ⟨b,o,none⟩=false:=bn h.self o
theorem mr{w0:World}{aj:Nat→Prop}{b:Nat}{s:TS}{ex:List Item}{w:World}(q:Int)(h:Tk w0 aj b s ex w):
  Calls prog 125 #[.pointer (some ⟨b,0,none⟩),.int .i64 q] w fun e w'=>e= .returned (.int .i64 0)∧Tk w0 aj b {s with state:=q} ex w':=by
 obtain⟨⟨R,hR⟩,hk⟩:=h
 have c4:w.cell? ⟨b,5,none⟩=some (.int .i64 s.state):=hR.cell 5
 have hf:=hR.frozen
 go_enter func125,ntmps125
 go_wp2
 go_ret
 exact⟨rfl,⟨R,hR.setCell 5 _ rfl rfl rfl rfl rfl⟩,hk.setCell 5 _ hR.ownB⟩
theorem Tryz.infoByte:(prog.info? 5).map (fun i=>(i.zero,i.size,i.bytes))=some (some (.int .u8 0),1,1):=by kernel_rfl
def M7(w:World)(a:Option Addr)(n:Nat)(xs news:List Value)(e:Ending)(w':World):Prop:=
 ∃a' cap' o,e= .returned (.slice (some a') (n+news.length) cap')∧w'.ownsRow 0 5 1 (.slice (some a') (n+news.length) cap') (n+news.length) (xs++news)∧(w.alloc o).grownBy w' (a.map (·.block))∧(some a'.block=a.map (·.block)∨w.heap.size+1≤a'.block)
theorem zgf(a:Option Addr)(n cap:Nat)(xs:List Value)(r:Int)(h0:128≤r)(h1:r≤2047)(w:World)(hown:w.ownsRow 0 5 1 (.slice a n cap) n xs)(hlen:n+4≤140737488355328):
  Calls prog 190 #[.slice a n cap,.int .i32 r] w (M7 w a n xs [.int .u8 (192+r / 64),.int .u8 (128+r%64)]):=by
 obtain⟨i0,hi,hz0,hz1,hz2⟩:=info_parts Tryz.infoByte
 go_enter func190,ntmps190
 go_wp2_with(at_builtin;refine dh _ rfl _ _ 74 rfl 5 i0 (.int .u8 0) 1 1 underlying74 hi hz0 hz1 hz2 rfl (by decide) a n cap xs rfl (hown.alloc _) ⟨w.heap.size,0,none⟩ 2 2 [.int .u8 (192+r / 64),.int .u8 (128+r%64)] rfl rfl ?c1 ?c2 (by decide) ?c3 ?c4 ?next)
 all_goals first
  |(intro a' cap' w2 hown' hgrow hfresh;go_wp2;go_ret;exact⟨a',cap',_,rfl,hown',hgrow,by simpa using hfresh⟩)
  |exact⟨rfl,rfl,rfl⟩
  |(unfold maxLen;omega)
  |omega
  |(intro u hu;simp at hu;rcases hu with rfl|rfl<;>rfl)
  |(intro j u hj
    match j,hj with
    |0,hj=>simp at hj;subst hj;simp[Addr.add]
    |1,hj=>simp at hj;subst hj;simp[Addr.add]
    |(j+2),hj=>simp at hj)
theorem T9(a:Option Addr)(n cap:Nat)(xs:List Value)(r:Int)(h0:2048≤r)(h1:r<55296)(w:World)(hown:w.ownsRow 0 5 1 (.slice a n cap) n xs)(hlen:n+4≤140737488355328):
  Calls prog 190 #[.slice a n cap,.int .i32 r] w (M7 w a n xs [.int .u8 (224+r / 4096),.int .u8 (128+r / 64%64),.int .u8 (128+r%64)]):=by
 obtain⟨i0,hi,hz0,hz1,hz2⟩:=info_parts Tryz.infoByte
 go_enter func190,ntmps190
 go_wp2_with(at_builtin;refine dh _ rfl _ _ 74 rfl 5 i0 (.int .u8 0) 1 1 underlying74 hi hz0 hz1 hz2 rfl (by decide) a n cap xs rfl (hown.alloc _) ⟨w.heap.size,0,none⟩ 3 3 [.int .u8 (224+r / 4096),.int .u8 (128+r / 64%64),.int .u8 (128+r%64)] rfl rfl ?c1 ?c2 (by decide) ?c3 ?c4 ?next)
 all_goals first
  |(intro a' cap' w2 hown' hgrow hfresh;go_wp2;go_ret;exact⟨a',cap',_,rfl,hown',hgrow,by simpa using hfresh⟩)
  |exact⟨rfl,rfl,rfl⟩
  |(unfold maxLen;omega)
  |omega
  |(intro u hu;simp at hu;rcases hu with rfl|rfl|rfl<;>rfl)
  |(intro j u hj
    match j,hj with
    |0,hj=>simp at hj;subst hj;simp[Addr.add]
    |1,hj=>simp at hj;subst hj;simp[Addr.add]
    |2,hj=>simp at hj;subst hj;simp[Addr.add]
    |(j+3),hj=>simp at hj)
theorem Ua(a:Option Addr)(n cap:Nat)(xs:List Value)(r:Int)(h0:57343<r)(h1:r≤65535)(w:World)(hown:w.ownsRow 0 5 1 (.slice a n cap) n xs)(hlen:n+4≤140737488355328):
  Calls prog 190 #[.slice a n cap,.int .i32 r] w (M7 w a n xs [.int .u8 (224+r / 4096),.int .u8 (128+r / 64%64),.int .u8 (128+r%64)]):=by
 obtain⟨i0,hi,hz0,hz1,hz2⟩:=info_parts Tryz.infoByte
 go_enter func190,ntmps190
 go_wp2_with(at_builtin;refine dh _ rfl _ _ 74 rfl 5 i0 (.int .u8 0) 1 1 underlying74 hi hz0 hz1 hz2 rfl (by decide) a n cap xs rfl (hown.alloc _) ⟨w.heap.size,0,none⟩ 3 3 [.int .u8 (224+r / 4096),.int .u8 (128+r / 64%64),.int .u8 (128+r%64)] rfl rfl ?c1 ?c2 (by decide) ?c3 ?c4 ?next)
 all_goals first
  |(intro a' cap' w2 hown' hgrow hfresh;go_wp2;go_ret;exact⟨a',cap',_,rfl,hown',hgrow,by simpa using hfresh⟩)
  |exact⟨rfl,rfl,rfl⟩
  |(unfold maxLen;omega)
  |omega
  |(intro u hu;simp at hu;rcases hu with rfl|rfl|rfl<;>rfl)
  |(intro j u hj
    match j,hj with
    |0,hj=>simp at hj;subst hj;simp[Addr.add]
    |1,hj=>simp at hj;subst hj;simp[Addr.add]
    |2,hj=>simp at hj;subst hj;simp[Addr.add]
    |(j+3),hj=>simp at hj)
theorem zd1(a:Option Addr)(n cap:Nat)(xs:List Value)(r:Int)(h0:65536≤r)(h1:r≤1114111)(w:World)(hown:w.ownsRow 0 5 1 (.slice a n cap) n xs)(hlen:n+4≤140737488355328):
  Calls prog 190 #[.slice a n cap,.int .i32 r] w (M7 w a n xs [.int .u8 (240+r / 262144),.int .u8 (128+r / 4096%64),.int .u8 (128+r / 64%64),.int .u8 (128+r%64)]):=by
 obtain⟨i0,hi,hz0,hz1,hz2⟩:=info_parts Tryz.infoByte
 go_enter func190,ntmps190
 go_wp2_with(at_builtin;refine dh _ rfl _ _ 74 rfl 5 i0 (.int .u8 0) 1 1 underlying74 hi hz0 hz1 hz2 rfl (by decide) a n cap xs rfl (hown.alloc _) ⟨w.heap.size,0,none⟩ 4 4 [.int .u8 (240+r / 262144),.int .u8 (128+r / 4096%64),.int .u8 (128+r / 64%64),.int .u8 (128+r%64)] rfl rfl ?c1 ?c2 (by decide) ?c3 ?c4 ?next)
 all_goals first
  |(intro a' cap' w2 hown' hgrow hfresh;go_wp2;go_ret;exact⟨a',cap',_,rfl,hown',hgrow,by simpa using hfresh⟩)
  |exact⟨rfl,rfl,rfl⟩
  |(unfold maxLen;omega)
  |omega
  |(intro u hu;simp at hu;rcases hu with rfl|rfl|rfl|rfl<;>rfl)
  |(intro j u hj
    match j,hj with
    |0,hj=>simp at hj;subst hj;simp[Addr.add]
    |1,hj=>simp at hj;subst hj;simp[Addr.add]
    |2,hj=>simp at hj;subst hj;simp[Addr.add]
    |3,hj=>simp at hj;subst hj;simp[Addr.add]
    |(j+4),hj=>simp at hj)
theorem Wx(a:Option Addr)(n cap:Nat)(xs:List Value)(r:Int)(h0: -2147483648≤r)(h1:r<0)(w:World)(hown:w.ownsRow 0 5 1 (.slice a n cap) n xs)(hlen:n+4≤140737488355328):
  Calls prog 190 #[.slice a n cap,.int .i32 r] w (M7 w a n xs [.int .u8 239,.int .u8 191,.int .u8 189]):=by
 obtain⟨i0,hi,hz0,hz1,hz2⟩:=info_parts Tryz.infoByte
 go_enter func190,ntmps190
 go_wp2_with(at_builtin;refine dh _ rfl _ _ 74 rfl 5 i0 (.int .u8 0) 1 1 underlying74 hi hz0 hz1 hz2 rfl (by decide) a n cap xs rfl (hown.alloc _) ⟨w.heap.size,0,none⟩ 3 3 [.int .u8 239,.int .u8 191,.int .u8 189] rfl rfl ?c1 ?c2 (by decide) ?c3 ?c4 ?next)
 all_goals first
  |(intro a' cap' w2 hown' hgrow hfresh;go_wp2;go_ret;exact⟨a',cap',_,rfl,hown',hgrow,by simpa using hfresh⟩)
  |exact⟨rfl,rfl,rfl⟩
  |(unfold maxLen;omega)
  |omega
  |(intro u hu;simp at hu;rcases hu with rfl|rfl|rfl<;>rfl)
  |(intro j u hj
    match j,hj with
    |0,hj=>simp at hj;subst hj;simp[Addr.add]
    |1,hj=>simp at hj;subst hj;simp[Addr.add]
    |2,hj=>simp at hj;subst hj;simp[Addr.add]
    |(j+3),hj=>simp at hj)
theorem Wy(a:Option Addr)(n cap:Nat)(xs:List Value)(r:Int)(h0:55296≤r)(h1:r≤57343)(w:World)(hown:w.ownsRow 0 5 1 (.slice a n cap) n xs)(hlen:n+4≤140737488355328):
  Calls prog 190 #[.slice a n cap,.int .i32 r] w (M7 w a n xs [.int .u8 239,.int .u8 191,.int .u8 189]):=by
 obtain⟨i0,hi,hz0,hz1,hz2⟩:=info_parts Tryz.infoByte
 go_enter func190,ntmps190
 go_wp2_with(at_builtin;refine dh _ rfl _ _ 74 rfl 5 i0 (.int .u8 0) 1 1 underlying74 hi hz0 hz1 hz2 rfl (by decide) a n cap xs rfl (hown.alloc _) ⟨w.heap.size,0,none⟩ 3 3 [.int .u8 239,.int .u8 191,.int .u8 189] rfl rfl ?c1 ?c2 (by decide) ?c3 ?c4 ?next)
 all_goals first
  |(intro a' cap' w2 hown' hgrow hfresh;go_wp2;go_ret;exact⟨a',cap',_,rfl,hown',hgrow,by simpa using hfresh⟩)
  |exact⟨rfl,rfl,rfl⟩
  |(unfold maxLen;omega)
  |omega
  |(intro u hu;simp at hu;rcases hu with rfl|rfl|rfl<;>rfl)
  |(intro j u hj
    match j,hj with
    |0,hj=>simp at hj;subst hj;simp[Addr.add]
    |1,hj=>simp at hj;subst hj;simp[Addr.add]
    |2,hj=>simp at hj;subst hj;simp[Addr.add]
    |(j+3),hj=>simp at hj)
theorem Wz(a:Option Addr)(n cap:Nat)(xs:List Value)(r:Int)(h0:1114111<r)(h1:r≤2147483647)(w:World)(hown:w.ownsRow 0 5 1 (.slice a n cap) n xs)(hlen:n+4≤140737488355328):
  Calls prog 190 #[.slice a n cap,.int .i32 r] w (M7 w a n xs [.int .u8 239,.int .u8 191,.int .u8 189]):=by
 obtain⟨i0,hi,hz0,hz1,hz2⟩:=info_parts Tryz.infoByte
 go_enter func190,ntmps190
 go_wp2_with(at_builtin;refine dh _ rfl _ _ 74 rfl 5 i0 (.int .u8 0) 1 1 underlying74 hi hz0 hz1 hz2 rfl (by decide) a n cap xs rfl (hown.alloc _) ⟨w.heap.size,0,none⟩ 3 3 [.int .u8 239,.int .u8 191,.int .u8 189] rfl rfl ?c1 ?c2 (by decide) ?c3 ?c4 ?next)
 all_goals first
  |(intro a' cap' w2 hown' hgrow hfresh;go_wp2;go_ret;exact⟨a',cap',_,rfl,hown',hgrow,by simpa using hfresh⟩)
  |exact⟨rfl,rfl,rfl⟩
  |(unfold maxLen;omega)
  |omega
  |(intro u hu;simp at hu;rcases hu with rfl|rfl|rfl<;>rfl)
  |(intro j u hj
    match j,hj with
    |0,hj=>simp at hj;subst hj;simp[Addr.add]
    |1,hj=>simp at hj;subst hj;simp[Addr.add]
    |2,hj=>simp at hj;subst hj;simp[Addr.add]
    |(j+3),hj=>simp at hj)
theorem zai(a:Option Addr)(n cap:Nat)(xs:List Value)(r:Int)(h0:0≤r)(h1:r≤127)(w:World)(hown:w.ownsRow 0 5 1 (.slice a n cap) n xs)(hlen:n+4≤140737488355328):
  Calls prog 126 #[.slice a n cap,.int .i32 r] w (M7 w a n xs [.int .u8 r]):=by
 obtain⟨i0,hi,hz0,hz1,hz2⟩:=info_parts Tryz.infoByte
 go_enter func126,ntmps126
 go_wp2_with(at_builtin;refine dh _ rfl _ _ 74 rfl 5 i0 (.int .u8 0) 1 1 underlying74 hi hz0 hz1 hz2 rfl (by decide) a n cap xs rfl (hown.alloc _) ⟨w.heap.size,0,none⟩ 1 1 [.int .u8 r] rfl rfl ?c1 ?c2 (by decide) ?c3 ?c4 ?next)
 all_goals first
  |(intro a' cap' w2 hown' hgrow hfresh;go_wp2;go_ret;exact⟨a',cap',_,rfl,hown',hgrow,by simpa using hfresh⟩)
  |exact⟨rfl,rfl,rfl⟩
  |(unfold maxLen;omega)
  |omega
  |(intro u hu;simp at hu;rcases hu with rfl<;>rfl)
  |(intro j u hj
    match j,hj with
    |0,hj=>simp at hj;subst hj;simp[Addr.add]
    |(j+1),hj=>simp at hj)
theorem Qr(a:Option Addr)(n cap:Nat)(xs:List Value)(r:Int)(hr0: -2147483648≤r)(hr1:r≤2147483647)(hna:r<0∨128≤r)(w:World)(hown:w.ownsRow 0 5 1 (.slice a n cap) n xs)(hlen:n+4≤140737488355328):
  Calls prog 190 #[.slice a n cap,.int .i32 r] w (M7 w a n xs (Lib.runeCells r)):=by
 by_cases c0:r<0
 ·rw[show Lib.runeCells r=[.int .u8 239,.int .u8 191,.int .u8 189] by simp[Lib.runeCells,Lib.encodeRuneZ_bad (Or.inl c0)]]
  exact Wx a n cap xs r hr0 c0 w hown hlen
 by_cases c1:r≤2047
 ·rw[show Lib.runeCells r=[.int .u8 (192+r / 64),.int .u8 (128+r%64)] by simp[Lib.runeCells,Lib.encodeRuneZ_two (by omega) c1]]
  exact zgf a n cap xs r (by omega) c1 w hown hlen
 by_cases c2:r<55296
 ·rw[show Lib.runeCells r=[.int .u8 (224+r / 4096),.int .u8 (128+r / 64%64),.int .u8 (128+r%64)] by simp[Lib.runeCells,Lib.encodeRuneZ_three (Or.inl ⟨by omega,c2⟩)]]
  exact T9 a n cap xs r (by omega) c2 w hown hlen
 by_cases c3:r≤57343
 ·rw[show Lib.runeCells r=[.int .u8 239,.int .u8 191,.int .u8 189] by simp[Lib.runeCells,Lib.encodeRuneZ_bad (Or.inr (Or.inl ⟨by omega,c3⟩))]]
  exact Wy a n cap xs r (by omega) c3 w hown hlen
 by_cases c4:r≤65535
 ·rw[show Lib.runeCells r=[.int .u8 (224+r / 4096),.int .u8 (128+r / 64%64),.int .u8 (128+r%64)] by simp[Lib.runeCells,Lib.encodeRuneZ_three (Or.inr ⟨by omega,c4⟩)]]
  exact Ua a n cap xs r (by omega) c4 w hown hlen
 by_cases c5:r≤1114111
 ·rw[show Lib.runeCells r=[.int .u8 (240+r / 262144),.int .u8 (128+r / 4096%64),.int .u8 (128+r / 64%64),.int .u8 (128+r%64)] by simp[Lib.runeCells,Lib.encodeRuneZ_four (by omega) c5]]
  exact zd1 a n cap xs r (by omega) c5 w hown hlen
 ·rw[show Lib.runeCells r=[.int .u8 239,.int .u8 191,.int .u8 189] by simp[Lib.runeCells,Lib.encodeRuneZ_bad (r:=r) (Or.inr (Or.inr (by omega)))]]
  exact Wz a n cap xs r (by omega) hr1 w hown hlen
theorem zaj(a:Option Addr)(n cap:Nat)(xs:List Value)(r:Int)(hr0: -2147483648≤r)(hr1:r≤2147483647)(hna:r<0∨128≤r)(w:World)(hown:w.ownsRow 0 5 1 (.slice a n cap) n xs)(hlen:n+4≤140737488355328):
  Calls prog 126 #[.slice a n cap,.int .i32 r] w (M7 w a n xs (Lib.runeCells r)):=by
 rcases hna with hna|hna
 all_goals
  go_enter func126,ntmps126
  go_wp2_with(go_at_call 190;refine(Qr a n cap xs r hr0 hr1 (by omega) _ hown hlen).mono ?_)
  rintro e w1⟨a',cap',o,rfl,h1,h2,h3⟩
  go_wp2
  go_ret
  exact⟨a',cap',o,rfl,h1,h2,h3⟩
theorem Ll(r:Int):Lib.runeCells r=byteCells (Lib.encodeRune r):=by
 have e:∀x∈Lib.encodeRuneZ r,((x.toNat.toUInt8).toNat:Int)=x:=by
  intro x hx
  have hb:0≤x∧x<256:=by
   unfold Lib.encodeRuneZ at hx
   split at hx
   ·simp at hx;omega
   split at hx
   ·simp at hx;omega
   split at hx
   ·simp at hx;omega
   split at hx
   ·simp at hx;omega
   ·simp at hx;omega
  have:x.toNat%256=x.toNat:=Nat.mod_eq_of_lt (by omega)
  simp only[UInt8.toNat_ofNat',Nat.toUInt8,this]
  omega
 simp only[Lib.runeCells,byteCells,Lib.encodeRune,List.map_map]
 exact List.map_congr_left fun x hx=>by simp only[Function.comp];rw[e x hx]
theorem nj(r0:Sl)(l:Str)(r:Int)(hr0: -2147483648≤r)(hr1:r≤2147483647)(w:World)(hown:(cq r0 l).ok w)(hlen:l.length+4≤140737488355328):
  Calls prog 126 #[.slice r0.a l.length r0.cap,.int .i32 r] w fun e w'=>∃(r':Sl)(o:Obj),e= .returned (.slice r'.a (l++Lib.encodeRune r).length r'.cap)∧(cq r' (l++Lib.encodeRune r)).ok w'∧(w.alloc o).grownBy w' (r0.a.map (·.block))∧o0 (w.alloc o) r0.a r'.a:=by
 have h:Calls prog 126 #[.slice r0.a l.length r0.cap,.int .i32 r] w (M7 w r0.a l.length (byteCells l) (Lib.runeCells r)):=by
  by_cases h0:0≤r∧r≤127
  ·rw[show Lib.runeCells r=[.int .u8 r] by simp[Lib.runeCells,Lib.encodeRuneZ_one h0.1 h0.2]]
   exact zai r0.a l.length r0.cap (byteCells l) r h0.1 h0.2 w hown hlen
  ·exact zaj r0.a l.length r0.cap (byteCells l) r hr0 hr1 (by omega) w hown hlen
 refine h.mono ?_
 rintro e w'⟨a',cap',o,rfl,h1,h2,h3⟩
 rw[Ll]at h1⊢
 have e1:(byteCells (Lib.encodeRune r)).length=(Lib.encodeRune r).length:=by simp[byteCells]
 rw[e1]at h1
 rw[e1]
 refine⟨⟨some a',cap'⟩,o,by simp,?_,h2,?_⟩
 ·simp only[Item.ok,cq,aq,byteCells,List.map_append]at h1⊢
  exact h1
 ·rcases h3 with h3|h3
  ·exact .inl h3
  ·exact .inr ⟨a'.block,rfl,by simpa using h3⟩
end Go.Proofs.YtdfmapcnfficlaaGreatDoor

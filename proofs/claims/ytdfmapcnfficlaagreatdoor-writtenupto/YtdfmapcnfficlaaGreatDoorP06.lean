import Derived.Test.YtdfmapcnfficlaaGreatDoorP02
import Derived.Lib.OthersKept
import Derived.Laws.OwnMore
import Derived.Deep.LoopGhost
import Derived.Deep.QuietTactic
import Derived.BigQuiet
set_option linter.all false
namespace Go.Proofs.YtdfmapcnfficlaaGreatDoor
open Go Go.RowKit
section
variable{w0:World}{aj:Nat→Prop}{b:Nat}{s:TS}{ex:List Item}{w:World}
theorem Item.cells{it:Item}(h:it.ok w):∀k,it.blk=some k→∃c t z,w.heap[k]? =some (.cells c t z):=by
 intro k hk
 rcases h.2 with⟨hv,_⟩|⟨g,cap,cur,hv,hb,hgg,rest⟩
 ·have:it.a=none:=by injection hv
  simp[Item.blk,this]at hk
 ·have:it.a=some ⟨g,0,none⟩:=by injection hv
  simp[Item.blk,this]at hk
  subst hk
  exact⟨_,_,_,hgg⟩
def N0(w0:World)(aj:Nat→Prop)(it:Nat):Nat→Prop:=fun k=>(aj k∨w0.heap.size≤k)∧k≠it
theorem Tk.zhc(h:Tk w0 aj b s ex w){it:Nat}{q:ByteArray}{p:Nat}(hit:w.heap[it]? =some (.stringIter q p)):Tk w (N0 w0 aj it) b s ex w:=by
 obtain⟨⟨R,hR⟩,hk⟩:=h
 refine⟨⟨R,hR.self,.inl ⟨hR.ownB,?_⟩,⟨hR.rows.ok,hR.rows.nodup,fun k hk'=> ?_⟩,hR.map,fun g hg=>⟨.inl ⟨(hR.sj g hg).1,?_⟩,(hR.sj g hg).2⟩,hR.la,hR.lv,hR.lt⟩,Kept.refl _ _⟩
 ·rintro rfl
  rw[hR.self]at hit
  cases hit
 ·obtain⟨x,hx,hb⟩:=ez.1 hk'
  refine⟨.inl ⟨(hR.rows.own k hk').1,?_⟩,(hR.rows.own k hk').2⟩
  rintro rfl
  obtain⟨c,t,z,hc⟩:=Item.cells (hR.rows.ok x hx) k hb
  rw[hc]at hit
  cases hit
 ·rintro rfl
  have hm:=hR.map
  rw[hg]at hm
  cases hn:s.tag.names with
  |none=>simp[mapOf,hn]at hm
  |some ks=>
   simp only[mapOf,hn]at hm
   obtain⟨es,c,he,_⟩:=hm
   rw[he]at hit
   cases hit
theorem Tk.zmc{w1:World}{it:Nat}(h:Tk w1 (N0 w0 aj it) b s ex w)(hk:Kept aj w0 w1):Tk w0 aj b s ex w:=by
 obtain⟨⟨R,hR⟩,hk1⟩:=h
 have hup:∀k,(N0 w0 aj it k∨w1.heap.size≤k)→(aj k∨w0.heap.size≤k):=fun k hh=>hh.elim (fun h=>h.1) (fun h=> .inr (fz hk.size h))
 refine⟨⟨R,hR.self,hup _ hR.ownB,⟨hR.rows.ok,hR.rows.nodup,fun k hk'=>⟨hup _ (hR.rows.own k hk').1,(hR.rows.own k hk').2⟩⟩,hR.map,fun g hg=>⟨hup _ (hR.sj g hg).1,(hR.sj g hg).2⟩,hR.la,hR.lv,hR.lt⟩,?_⟩
 exact hk.trans hk1 fun x hx hh=>hh.1.elim id (fun h=>by omega)
theorem Tk.other{w':World}(h:Tk w0 aj b s ex w){it:Nat}{q:ByteArray}{p:Nat}(hit:w.heap[it]? =some (.stringIter q p))(hge:w0.heap.size≤it)(hos:w'.os=w.os∧w'.tape=w.tape∧w'.output=w.output∧w'.heap.size=w.heap.size)(ho:∀k,k≠it→w'.heap[k]? =w.heap[k]?):Tk w0 aj b s ex w':=by
 have h1:=h.zhc hit
 obtain⟨⟨R,hR⟩,hk⟩:=h
 obtain⟨⟨R1,uu⟩,hk1⟩:=h1
 have hup:∀k,(N0 w0 aj it k∨w.heap.size≤k)→(aj k∨w0.heap.size≤k):=fun k hh=>hh.elim (fun h=>h.1) (fun h=> .inr (fz hk.size h))
 have hlt:it<w.heap.size:=(co.1 hit).1
 have hne:∀k,k<w.heap.size→(N0 w0 aj it k∨w.heap.size≤k)→k≠it:=fun k hk hh=>hh.elim (fun h=>h.2) (fun h=>by omega)
 have hbn:b≠it:=hne b uu.yh uu.ownB
 refine⟨⟨R1,by rw[ho b hbn];exact uu.self,hup _ uu.ownB,⟨?_,uu.rows.nodup,fun k hk'=>⟨hup _ (uu.rows.own k hk').1,(uu.rows.own k hk').2⟩⟩,?_,fun g hg=>⟨hup _ (uu.sj g hg).1,(uu.sj g hg).2⟩,uu.la,uu.lv,uu.lt⟩,?_⟩
 ·exact(uu.rows.kept (w':=w') fun k hk' hh=>ho k (hne k hk' hh.1)).ok
 ·exact qj uu.map fun g hg=>ho g (hne g (uu.map_lt g hg) (uu.sj g hg).1)
 ·exact⟨hos.1.trans hk.os,hos.2.1.trans hk.tape,hos.2.2.1.trans hk.output,by rw[hos.2.2.2];exact hk.size,fun k hk' hn=>by rw[ho k (by omega)];exact hk.block k hk' hn⟩
theorem C8(w:World)(k:Nat)(q:ByteArray)(p:Nat):((w.iterAt k q p).os=w.os∧(w.iterAt k q p).tape=w.tape∧(w.iterAt k q p).output=w.output∧(w.iterAt k q p).heap.size=w.heap.size)∧∀j,j≠k→(w.iterAt k q p).heap[j]? =w.heap[j]? :=by
 refine⟨⟨rfl,rfl,rfl,by simp[World.iterAt]⟩,fun j hj=> ?_⟩
 simp[World.iterAt,Ne.symm hj]
end
theorem Lw{P:Program}(w:World)(t ty e:TypeId)(i:TypeInfo)(size:Nat)(ht:P.underlying t=some (.slice e))(hi:P.info? e=some i)
  (ao:Option Addr) (n cap:Nat) (xs:List Value) (hown:w.ownsRow 0 e size (.slice ao n cap) n xs) (ax:Option Addr) (c:Nat):
  (Builtin.append_ #[t,t] ty #[.slice ao n cap,.slice ax 0 c]).run P w= .ok (.slice ao n cap) w:=by
 cases ax with
 |none=>
  rcases hown.2 with⟨hv,hn⟩|⟨g,cap',cur,hv,_,_,hnc,_⟩
  ·injection hv with h1 h2 h3
   subst h1 h2 h3
   simp[Builtin.append_,run_underlying ht,sizeOf,typeInfo,hi,Builtin.lenOf,Builtin.firstCells]
  ·injection hv with h1 h2 h3
   subst h1 h3
   simp[Builtin.append_,run_underlying ht,sizeOf,typeInfo,hi,Builtin.lenOf,Builtin.firstCells,hnc,storeCells]
 |some a=>
  rcases hown.2 with⟨hv,hn⟩|⟨g,cap',cur,hv,_,_,hnc,_⟩
  ·injection hv with h1 h2 h3
   subst h1 h2 h3
   simp[Builtin.append_,run_underlying ht,sizeOf,typeInfo,hi,Builtin.lenOf,Builtin.firstCells,loadCells,loadCellsFrom]
  ·injection hv with h1 h2 h3
   subst h1 h3
   simp[Builtin.append_,run_underlying ht,sizeOf,typeInfo,hi,Builtin.lenOf,Builtin.firstCells,loadCells,loadCellsFrom,hnc,storeCells]
section
variable{w0:World}{aj:Nat→Prop}{b:Nat}{s:TS}{ex:List Item}{w:World}
end
def Ko(w:World)(x:Sl)(l:List Str):Prop:=∀j y,l[j]? =some y→∃g,x.a=some ⟨g,0,none⟩∧g<w.heap.size∧w.cell? ⟨g,j,none⟩=some (.string ⟨y.toArray⟩)
structure Hq(w:World)(g:Nat)(l:List Tok):Prop where
 cells:∀k t,l[k]? =some t→∃x:Sl,w.cell? ⟨g,k*6,none⟩=some (.int .i64 t.kind)∧w.cell? ⟨g,k*6+1,none⟩=some (.string ⟨t.name.toArray⟩)∧w.cell? ⟨g,k*6+2,none⟩=some (.slice x.a t.attrs.length x.cap)∧w.cell? ⟨g,k*6+3,none⟩=some (.string ⟨t.text.toArray⟩)∧w.cell? ⟨g,k*6+4,none⟩=some (.bool t.flag)∧w.cell? ⟨g,k*6+5,none⟩=some (.int .i64 t.place)∧Ko w x t.attrs
 lt:g<w.heap.size
def Z3(w:World)(v:Value)(l:List Tok):Prop:=∃a cap,v= .slice a l.length cap∧(l≠[]→∃g,a=some ⟨g,0,none⟩∧Hq w g l)∧l.length≤cap∧∀t∈l,t.attrs.length≤maxLen
theorem Ko.more{w w':World}{x:Sl}{l:List Str}(h:Ko w x l)(hm:More w w'):Ko w' x l:=by
 intro j y hy
 obtain⟨g,h1,h2,h3⟩:=h j y hy
 exact⟨g,h1,by have:=hm.size;omega,by rw[fk (w:=w) (hm.block g h2)];exact h3⟩
theorem Hq.more{w w':World}{g:Nat}{l:List Tok}(h:Hq w g l)(hm:More w w'):Hq w' g l:=by
 have hg:=hm.block g h.lt
 refine⟨fun k t hk=> ?_,by have:=h.lt;have:=hm.size;omega⟩
 obtain⟨x,h1,h2,h3,h4,h5,h6,h7⟩:=h.cells k t hk
 exact⟨x,by rw[fk (w:=w) hg];exact h1,by rw[fk (w:=w) hg];exact h2,by rw[fk (w:=w) hg];exact h3,by rw[fk (w:=w) hg];exact h4,by rw[fk (w:=w) hg];exact h5,by rw[fk (w:=w) hg];exact h6,h7.more hm⟩
theorem Z3.more{w w':World}{v:Value}{l:List Tok}(h:Z3 w v l)(hm:More w w'):Z3 w' v l:=by
 obtain⟨a,cap,rfl,h1,h2⟩:=h
 exact⟨a,cap,rfl,fun hl=>by obtain⟨g,e,ht⟩:=h1 hl;exact⟨g,e,ht.more hm⟩,h2⟩
theorem Hq.take{w:World}{g:Nat}{l:List Tok}(h:Hq w g l)(n:Nat):Hq w g (l.take n):=by
 refine⟨fun k t hk=>h.cells k t ?_,h.lt⟩
 rw[List.getElem?_take]at hk
 split at hk
 ·exact hk
 ·cases hk
theorem More.trans'{a b c:World}(h:More a b)(k:More b c):More a c:=
 ⟨k.os.trans h.os,k.tape.trans h.tape,k.output.trans h.output,fz h.size k.size,fun x hx=>(k.block x (ei hx h.size)).trans (h.block x hx)⟩
def Qb(c:Int)(n:Int):Int:=Int.tmod (if c<0 then-(c+1)else c) n
theorem Lf(c n:Int)(hn:0<n):0≤Qb c n∧Qb c n<n:=by
 unfold Qb
 have h0:0≤(if c<0 then-(c+1)else c):=by split<;>omega
 rw[Int.tmod_eq_emod_of_nonneg h0]
 exact⟨Int.emod_nonneg _ (by omega),Int.emod_lt_of_pos _ hn⟩
theorem Qc{P:Program}(w:World)(t ty e:TypeId)(i:TypeInfo)(z:Value)(size bytes:Nat)(ht:P.underlying t=some (.slice e))(hi:P.info? e=some i)(hz:i.zero=some z)
  (hsize:i.size=size) (hby:i.bytes=bytes) (hzs:z.cells.size=size) (hsz:0<size)
  (ao:Option Addr) (n cap:Nat) (xs:List Value) (hown:w.ownsRow 0 e size (.slice ao n cap) n xs)
  (a:Addr) (m c:Nat) (news:List Value) (hl:news.length=m*size) (hnews:∀j u,news[j]? =some u→w.cell? (a.add j)=some u) (h1:∀u∈news,u.oneCell'=true) (hm:0<m)
  (h63:n+m≤maxLen) (hbytes:(n+m)*bytes≤140737488355328):
  ∃a' cap' w',(Builtin.append_ #[t,t] ty #[.slice ao n cap,.slice (some a) m c]).run P w= .ok (.slice (some a') (n+m) cap') w'∧w'.ownsRow 0 e size (.slice (some a') (n+m) cap') (n+m) (xs++news)∧
   w.grownBy w' (ao.map (·.block))∧(some a'.block=ao.map (·.block)∨(w.heap.size≤a'.block∧More w w')):=by
 obtain⟨v',w',hr,h2,h3,h4⟩:=run_append_own (P:=P) w 0 t ty e i z size bytes ht hi hz hsize hby hzs hsz (.slice ao n cap) n xs hown a m c news hl hnews h1 h63 hbytes (da _)
 rw[xo]at h3
 obtain⟨g',cap',cur',rfl,_⟩:∃g cap' cur,v'= .slice (some ⟨g,0,none⟩) (n+m) cap'∧cur=cur∧True:=by
  rcases h2.2 with⟨_,h⟩|⟨g,cap',cur,h,_⟩
  ·omega
  ·exact⟨g,cap',cur,h,rfl,trivial⟩
 refine⟨⟨g',0,none⟩,cap',w',hr,h2,h3,?_⟩
 subst hsize
 subst hby
 have h63':((n+m:Nat):Int)≤9223372036854775807:=by simp only[maxLen]at h63;omega
 rcases hown.2 with⟨hv,hn⟩|⟨g,cap0,cur,hv,hbg,hg,hnc,hcm,hcs,htake⟩
 ·
  injection hv with e1 e2 e3
  subst e1;subst e2;subst e3
  have hr':=run_append_nil (P:=P) w t ty e i z ht hi hz a m c news hl hnews hm (by omega) (by have hb:=hbytes;simp only[ja]at hb;omega)
  rw[hr']at hr
  injection hr with e1 e2
  injection e1 with e1 _ _
  injection e1 with e1
  injection e1 with e1 _ _
  exact .inr ⟨by show w.heap.size≤g';omega,by rw[←e2];exact((More.refl w).drew).alloc _⟩
 ·injection hv with e1 e2 e3
  subst e1;subst e3
  by_cases hroom:n+m≤cap
  ·have hfit:n*i.size+news.length≤cur.size:=by rw[hl,hcs,←Nat.add_mul];exact Nat.mul_le_mul_right _ hroom
   have hr':=run_append_room (P:=P) w t ty e i ht hi g n cap cur hg a m c news hl hnews h1 hroom hfit
   rw[hr']at hr
   injection hr with e1 _
   injection e1 with e1 _ _
   injection e1 with e1
   injection e1 with e1 _ _
   exact .inl (by simp[e1])
  ·have holds:∀j u,xs[j]? =some u→w.cell? ((⟨g,0,none⟩:Addr).add j)=some u:=hown.cells (g:=g) rfl
   have hr':=run_append_grow (P:=P) w t ty e i z ht hi hz ⟨g,0,none⟩ n cap xs hown.1 holds a m c news hl hnews (by omega) (by omega) (growslice_fits (by omega) hbytes)
   rw[hr']at hr
   injection hr with e1 e2
   injection e1 with e1 _ _
   injection e1 with e1
   injection e1 with e1 _ _
   exact .inr ⟨by show w.heap.size≤g';omega,by rw[←e2];exact((More.refl w).drew).alloc _⟩
theorem Bs{P:Program}(w:World){ops:Array Oper}{rest:List Oper}{o:Oper}{a:Act}{Q:Exit→Act→World→Prop}(hgd:o.guard=none)(s x:Operand)(t:TypeId)
  (ho:o.op= .call {callee:= .builtin .append,args:=#[s,x],argTypes:=#[t,t]})
  (e:TypeId) (i:TypeInfo) (z:Value) (size bytes:Nat) (ht:P.underlying t=some (.slice e)) (hi:P.info? e=some i) (hz:i.zero=some z)
  (hsize:i.size=size) (hby:i.bytes=bytes) (hzs:z.cells.size=size) (hsz:0<size)
  (ao:Option Addr) (n cap:Nat) (xs:List Value) (hs:a.eval s= .slice ao n cap) (hown:w.ownsRow 0 e size (.slice ao n cap) n xs)
  (ad:Addr) (m c:Nat) (news:List Value) (hx:a.eval x= .slice (some ad) m c) (hl:news.length=m*size) (hnews:∀j u,news[j]? =some u→w.cell? (ad.add j)=some u) (h1:∀u∈news,u.oneCell'=true) (hm:0<m)
  (h63:n+m≤maxLen) (hbytes:(n+m)*bytes≤140737488355328)
  (h:∀a' cap' w',w'.ownsRow 0 e size (.slice (some a') (n+m) cap') (n+m) (xs++news)→w.grownBy w' (ao.map (·.block))→(some a'.block=ao.map (·.block)∨(w.heap.size≤a'.block∧More w w'))→wpList P ops Q rest (a.put o.dst (.slice (some a') (n+m) cap')) w'):wpList P ops Q (o::rest) a w:=by
 refine wpList_plain hgd fun _ hK=> ?_
 obtain⟨a',cap',w',hr,h2,h3,h4⟩:=Qc (P:=P) w t o.type e i z size bytes ht hi hz hsize hby hzs hsz ao n cap xs hown ad m c news hl hnews h1 hm h63 hbytes
 unfold Oper.wp execOp
 simp only[ho,resolve,invoke,builtin,Sem.run_bind,Sem.run_pure,Result.andThen_ok,List.map_toArray,List.map_cons,List.map_nil,hs,hx,hr]
 exact hK _ _ (h a' cap' w' h2 h3 h4)
structure pj(P:Program)(ops:Array Oper)(C:World→Prop)(Q:Act→Prop)(l:List Oper)(a:Act):Prop where
 out:wpQuiet P ops C Q l a
theorem pj.step{P:Program}{ops:Array Oper}{C:World→Prop}{Q:Act→Prop}{a:Act}{o:Oper}{rest:List Oper}
  (h:∀K:Act→Prop,(∀a,pj P ops C Q rest a→K a)→if Region.wanted o (yielded ops a.tmps)then o.quiet P a C K else K (a.put o.dst undef)):pj P ops C Q (o::rest) a:=
 ⟨h _ (fun _ h=>h.out)⟩
theorem pj.skip{P:Program}{ops:Array Oper}{C:World→Prop}{Q:Act→Prop}{a:Act}{o:Oper}{rest:List Oper}(hw:Region.wanted o (yielded ops a.tmps)=false)(h:pj P ops C Q rest (a.put o.dst undef)):pj P ops C Q (o::rest) a:=
 ⟨by unfold wpQuiet;rw[ag (by rw[hw];decide)];exact h.out⟩
end Go.Proofs.YtdfmapcnfficlaaGreatDoor

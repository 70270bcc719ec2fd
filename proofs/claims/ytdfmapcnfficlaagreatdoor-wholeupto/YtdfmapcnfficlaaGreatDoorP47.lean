import Derived.Test.YtdfmapcnfficlaaGreatDoorP45
set_option linter.all false
set_option maxHeartbeats 4000000
set_option maxRecDepth 1000000
namespace Go.Proofs.YtdfmapcnfficlaaGreatDoor.M
open Go Go.RowKit Go.Proofs.YtdfmapcnfficlaaGreatDoor
section
variable{wB w w' W W1 W':World}{o:Nat→Nat}{b j:Nat}{S:WS}{R:z5}{E:List Item}
def to1(o:Nat→Nat)(E:List Item):Nat→Nat:=fun k=>if k∈E.filterMap Item.blk then 1 else o k
theorem zn2{k:Nat}(h:k∈E.filterMap Item.blk):to1 o E k=1:=au h
theorem zdt{k:Nat}(h:k∉E.filterMap Item.blk):to1 o E k=o k:=ag h
theorem GE.handed(h:GE wB o b S R [] none none w){i:Nat}{p:Pr}(hp:S.ps[i]? =some p){s':TS}(ht:Tk w (fun k=>o k=3+2*i) p.bx s' E w'):
  GE wB (to1 (up o w (3+2*i)) E) b {S with ps:=S.ps.set i {p with s:=s'}} R E none none w':=by
 have hs:=Kept.stands ht.2
 have hR:=h.obj
 have hpc:=Lg (p':={p with s:=s'}) hp rfl rfl
 have hA:=zdo ht
 obtain⟨⟨RR,hRR⟩,_⟩:=hA
 have hEo:∀k∈E.filterMap Item.blk,up o w (3+2*i) k=3+2*i:=fun k hk=>by
  have h1:=hRR.rows.own k (by rw[ij];exact List.mem_append_right _ hk)
  obtain⟨x,hx,hb⟩:=ez.1 hk
  have hl:=Item.lt (hRR.rows.ok x (List.mem_append_right _ hx)) k hb
  exact h1.1.elim id (fun z=>by omega)
 have hne:∀k,up o w (3+2*i) k≠3+2*i→to1 (up o w (3+2*i)) E k=up o w (3+2*i) k:=fun k hk=>zdt (fun z=>hk (hEo k z))
 have zcl:=Bb hR hs (by omega)
 refine⟨hs.more h.base (by omega) h.more,fun k hk=> ?_,?_,fun k q hq=> ?_,fun k q hq=> ?_,h.Wu,fun k v m h1 h2=> ?_,h.Wv,fun k v t h1 h2=> ?_⟩
 ·have e:up o w (3+2*i) k=0:=(uj (ei hk h.more.size)).trans (h.base k hk)
  rw[hne k (by rw[e];omega)];exact e
 ·have hw:jj {S with ps:=S.ps.set i {p with s:=s'}} R=jj S R:=by unfold jj zp;simp only[hpc,List.length_set]
  have hc:p4 {S with ps:=S.ps.set i {p with s:=s'}} R=p4 S R:=by unfold p4;simp only[List.length_set]
  rw[hw,hc]
  rw[gq]at zcl
  have hob:=zcl.ownB
  refine⟨zcl.self,?_,⟨?_,?_,fun k hk=> ?_⟩⟩
  ·show to1 _ E b=1
   rw[hne b (by rw[hob];omega)];exact hob
  ·intro x hx
   rcases List.mem_append.1 hx with z|z
   ·exact zcl.rows.ok x z
   ·exact hRR.rows.ok x (List.mem_append_right _ z)
  ·rw[ij]
   refine List.nodup_append.2 ⟨zcl.rows.nodup,?_,fun a ha c hc e=> ?_⟩
   ·have:=hRR.rows.nodup
    rw[ij]at this
    exact(List.nodup_append.1 this).2.1
   ·have h1:=(zcl.rows.own a ha).1
    have h2:=hEo c hc
    rw[e]at h1
    rw[h1]at h2;omega
  ·rw[ij]at hk
   rcases List.mem_append.1 hk with z|z
   ·have h1:=zcl.rows.own k z
    exact⟨by show to1 _ E k=1;rw[hne k (by rw[h1.1];omega)];exact h1.1,h1.2⟩
   ·refine⟨zn2 z,fun e=> ?_⟩
    have h1:=hEo k z
    rw[e,hob]at h1;omega
 ·rcases Jd hp hq with⟨rfl,rfl⟩|⟨hne2,hq⟩
  ·have hnd:=hRR.rows.nodup
   rw[ij]at hnd
   have zsh:=(List.nodup_append.1 hnd).2.2
   have lt:∀k',(up o w (3+2*k) k'=3+2*k∨w'.heap.size≤k')→k'∉E.filterMap Item.blk→(to1 (up o w (3+2*k)) E k'=3+2*k∨w'.heap.size≤k'):=fun k' h1 h2=>h1.imp (fun z=>by rw[zdt h2];exact z) id
   have hbE:p.bx∉E.filterMap Item.blk:=fun z=>(hRR.rows.own p.bx (by rw[ij];exact List.mem_append_right _ z)).2.1 rfl
   refine⟨⟨RR,hRR.self,lt _ hRR.ownB hbE,⟨fun x hx=>hRR.rows.ok x (by rw[gq]at hx;exact List.mem_append_left _ hx),?_,fun k' hk'=> ?_⟩,hRR.map,fun g hg=>⟨lt g (hRR.sj g hg).1 (fun z=> ?_),(hRR.sj g hg).2⟩,hRR.la,hRR.lv,hRR.lt⟩,Kept.refl _ _⟩
   ·rw[gq];exact(List.nodup_append.1 hnd).1
   ·rw[gq]at hk'
    have h1:=hRR.rows.own k' (by rw[ij];exact List.mem_append_left _ hk')
    exact⟨lt k' h1.1 (fun z=>zsh k' hk' k' z rfl),h1.2⟩
   ·exact(hRR.rows.own g (by rw[ij];exact List.mem_append_right _ z)).2.2 hg.symm
  ·have h1:=xm (h.x k q hq) hs (show 3+2*k≠3+2*i by omega)
   exact zci h1 (fun k' hk'=>by rw[hne k' (by rw[hk'];omega)];exact hk')
 ·have key:∀q:Pr,S.ps[k]? =some q→w'.heap[q.bY]? =some (.cells (Ba q.y) 135 (0,0))∧to1 (up o w (3+2*i)) E q.bY=4+2*k:=by
   intro q hq
   obtain⟨h1,h2⟩:=h.y k q hq
   have hl:q.bY<w.heap.size:=(co.1 h1).1
   have e:up o w (3+2*i) q.bY=4+2*k:=(uj hl).trans h2
   exact⟨(hs.block q.bY hl (by omega)).trans h1,by rw[hne q.bY (by rw[e];omega)];exact e⟩
  rcases Jd hp hq with⟨rfl,rfl⟩|⟨hne2,hq⟩
  ·exact key p hp
  ·exact key q hq
 ·obtain⟨a,n,cap,e,hx,z⟩:=xb ((h.ls k v m h1 h2).resolve_right (fun z=>Aj z)) hs (show 3+2*i≠2 by omega)
  refine .inl ⟨a,n,cap,e,hx,fun hn=> ?_⟩
  obtain⟨g,e1,e2,e3,e4⟩:=z hn
  exact⟨g,e1,e2,by rw[hne g (by rw[e3];omega)];exact e3,e4⟩
 ·obtain⟨a,n,cap,e,hx,z⟩:=xc ((h.ry k v t h1 h2).resolve_right (fun z=>Ai z)) hs (show 3+2*i≠2 by omega)
  refine .inl ⟨a,n,cap,e,hx,fun hn=> ?_⟩
  obtain⟨g,e1,e2,e3,e4⟩:=z hn
  exact⟨g,e1,e2,by rw[hne g (by rw[e3];omega)];exact e3,e4⟩
theorem GE.zdu{pa:Option (Sl×Nat×Str)}{pl:Option (Sl×Nat×Int)}(h:GE wB o b S R E none none w){i:Nat}{p:Pr}(hp:S.ps[i]? =some p){y':YS}(ht:Yk w p.bY y' w'):
  GE wB (up o w (4+2*i)) b {S with ps:=S.ps.set i {p with y:=y'}} R E none none w':=by
 have hyo:=(h.y i p hp).2
 have hyl:p.bY<w.heap.size:=(co.1 (h.y i p hp).1).1
 have hs:yg o (4+2*i) w w':=⟨ht.kept.os,ht.kept.tape,ht.kept.output,ht.kept.size,fun k hk hn=>ht.kept.block k hk (fun e=>hn (by rw[e];exact hyo))⟩
 have hpc:=Lg (p':={p with y:=y'}) hp rfl rfl
 refine⟨hs.more h.base (by omega) h.more,fun k hk=>(uj (ei hk h.more.size)).trans (h.base k hk),?_,fun k q hq=> ?_,fun k q hq=> ?_,h.Wu,fun k v m h1 h2=> .inl (xb ((h.ls k v m h1 h2).resolve_right (fun z=>Aj z)) hs (by omega)),h.Wv,fun k v t h1 h2=> .inl (xc ((h.ry k v t h1 h2).resolve_right (fun z=>Ai z)) hs (by omega))⟩
 ·have:=Bb h.obj hs (by omega)
  unfold p4 jj zp at*
  simp only[hpc,List.length_set]
  exact this
 ·rcases Jd hp hq with⟨rfl,rfl⟩|⟨hne,hq⟩
  ·exact xm (h.x k p hp) hs (by omega)
  ·exact xm (h.x k q hq) hs (by omega)
 ·rcases Jd hp hq with⟨rfl,rfl⟩|⟨hne,hq⟩
  ·exact⟨ht.self,by rw[uj hyl];exact hyo⟩
  ·obtain⟨h1,h2⟩:=h.y k q hq
   have hl:q.bY<w.heap.size:=(co.1 h1).1
   exact⟨(hs.block q.bY hl (by omega)).trans h1,by rw[uj hl];exact h2⟩
theorem GE.Fz(h:GE wB o b S R E none none w)(hm:More w w'):GE wB (up o w 0) b S R E none none w':=by
 have hs0:∀j,yg o j w w':=fun j=>⟨hm.os,hm.tape,hm.output,hm.size,fun k hk _=>hm.block k hk⟩
 refine⟨h.more.tr hm,fun k hk=>(uj (ei hk h.more.size)).trans (h.base k hk),Bb h.obj (hs0 0) (by omega),fun k q hq=>xm (h.x k q hq) (hs0 0) (by omega),fun k q hq=> ?_,h.Wu,fun k v m h1 h2=> .inl (xb ((h.ls k v m h1 h2).resolve_right (fun z=>Aj z)) (hs0 0) (by omega)),h.Wv,fun k v t h1 h2=> .inl (xc ((h.ry k v t h1 h2).resolve_right (fun z=>Ai z)) (hs0 0) (by omega))⟩
 obtain⟨h1,h2⟩:=h.y k q hq
 have hl:q.bY<w.heap.size:=(co.1 h1).1
 exact⟨(hm.block q.bY hl).trans h1,by rw[uj hl];exact h2⟩
end
end Go.Proofs.YtdfmapcnfficlaaGreatDoor.M
namespace Go.Proofs.YtdfmapcnfficlaaGreatDoor.M
open Go.Proofs.Tryz
open Go Go.RowKit Go.Proofs.YtdfmapcnfficlaaGreatDoor
structure Nxt(S S':WS)(i:Nat)(p p':Pr)(n:Nat):Prop where
 ps:S'.ps=S.ps.set i p'
 bx:p'.bx=p.bx
 bY:p'.bY=p.bY
 ok:rz p'.s p'.y
 lim:p'.y.limit=p.y.limit
 txt:p'.y.text.length≤p.y.text.length+n
 giv:p.y.given≤p'.y.given
 ls:S'.ls.length≤S.ls.length+5
 last:S'.last≤S.last+1
 ry:S'.ry.length+5*p.y.given≤S.ry.length+5*p'.y.given
section
variable{wB w w' W W1 W':World}{o:Nat→Nat}{b j:Nat}{S:WS}{R:z5}{E:List Item}{ac al:Addr}
theorem Ar{g:Nat}{x:Obj}(hs:yg o j w w')(h:w.heap[g]? =some x)(hg:o g≠j):w'.heap[g]? =some x:=(hs.block g (ww h) hg).trans h
theorem Wo(y:YS)(x:Str):(sh y x).limit=y.limit∧(sh y x).text.length≤y.text.length+x.length∧(sh y x).given=y.given:=by
 unfold sh
 split
 ·exact⟨rfl,by omega,rfl⟩
 ·split
  ·exact⟨rfl,by simp,rfl⟩
  ·refine⟨rfl,?_,rfl⟩
   simp;omega
theorem Wp{w0:World}{y:YS}(h:Yk w0 b y w):Calls prog 79 #[.pointer (some ⟨b,0,none⟩)] w fun e w'=>e= .returned (.tuple #[.int .i64 (Bc y).1,.int .i64 (Bc y).2])∧Yk w0 b {y with closed:=true} w':=Z1 h
theorem Wq{ps:List Pr}{i:Nat}{p q:Pr}(h:ps[i]? =some p):(ps.set i q)[i]? =some q:=by
 have:=(cd.1 h).1
 simp[this]
theorem zcm(T:Fy wB ac al)(h:GE wB o b S R [] none none w){i:Nat}{p:Pr}(hp:S.ps[i]? =some p)(hpk:rz p.s p.y)(hl:p.y.limit≤9223372036854775807)(wv nv:Int)(x:Str)(lv:Value)(hx:p.y.text.length+x.length≤268435456):
  Calls prog 51 #[.pointer (some ⟨b,0,none⟩),.agg #[.pointer (some ⟨p.bx,0,none⟩),.pointer (some ⟨p.bY,0,none⟩)],.agg #[.int .i64 2,.int .i64 wv,.int .i64 nv,.string ⟨x.toArray⟩,lv]] w fun e w'=>e= .returned (.bool true)∧∃o' R' S' p',GE wB o' b S' R' [] none none w'∧Nxt S S' i p p' x.length:=by
 have HH:=hide h
 have Z9:=hide hpk
 have HP:=hide hp
 have HT:=hide T
 clear h hpk hp T
 go_enter func51,ntmps51
 go_wp2_with fail
 have q1:((w.alloc (.cells #[.pointer (some ⟨p.bx,0,none⟩),.pointer (some ⟨p.bY,0,none⟩)] 115)).alloc (.cells #[.int .i64 2,.int .i64 wv,.int .i64 nv,.string ⟨x.toArray⟩,lv] 25)).heap[w.heap.size]? =some (.cells #[.pointer (some ⟨p.bx,0,none⟩),.pointer (some ⟨p.bY,0,none⟩)] 115 (0,0)):=by
  rw[Below.heap_alloc _ _ _ (by simp)];exact heap_alloc_new w _
 have q2:((w.alloc (.cells #[.pointer (some ⟨p.bx,0,none⟩),.pointer (some ⟨p.bY,0,none⟩)] 115)).alloc (.cells #[.int .i64 2,.int .i64 wv,.int .i64 nv,.string ⟨x.toArray⟩,lv] 25)).heap[w.heap.size+1]? =some (.cells #[.int .i64 2,.int .i64 wv,.int .i64 nv,.string ⟨x.toArray⟩,lv] 25 (0,0)):=xa _ _ _ (by simp)
 have h2:=(ae HH).Fz (((More.refl w).alloc (.cells #[.pointer (some ⟨p.bx,0,none⟩),.pointer (some ⟨p.bY,0,none⟩)] 115)).alloc (.cells #[.int .i64 2,.int .i64 wv,.int .i64 nv,.string ⟨x.toArray⟩,lv] 25))
 have o1:up o w 0 w.heap.size=0:=Cu (cx _)
 have o2:up o w 0 (w.heap.size+1)=0:=Cu (by omega)
 generalize(w.alloc (.cells #[.pointer (some ⟨p.bx,0,none⟩),.pointer (some ⟨p.bY,0,none⟩)] 115)).alloc (.cells #[.int .i64 2,.int .i64 wv,.int .i64 nv,.string ⟨x.toArray⟩,lv] 25)=w2 at*
 generalize up o w 0=oo at*
 refine(zn0 (ae HT) h2.more h2.base (by omega) (h2.x i p (ae HP)) (ae Z9) hl x hx).mono ?_
 rintro e w3⟨v,s',rfl,ht,hpk',hwv⟩
 have hs3:=Kept.stands ht.2
 have h3:=h2.handed (ae HP) ht
 have q13:=Ar hs3 q1 (by rw[o1];omega)
 have q23:=Ar hs3 q2 (by rw[o2];omega)
 have HWA:=hide (Z7 ((ae HT).errs.more h3.more) ((ae HT).pow.more h3.more) hwv)
 have H3:=hide h3
 have zn4:=hide hpk'
 clear h2 ht hs3 h3 hwv q1 q2 hpk'
 go_wp2_with fail
 refine(ae HWA).mono ?_
 rintro e w4⟨rfl,m4⟩
 have h4:=(ae H3).Fz m4
 have q14:w4.heap[w.heap.size]? =some (.cells #[.pointer (some ⟨p.bx,0,none⟩),.pointer (some ⟨p.bY,0,none⟩)] 115 (0,0)):=(m4.block _ (ww q13)).trans q13
 have q24:w4.heap[w.heap.size+1]? =some (.cells #[.int .i64 2,.int .i64 wv,.int .i64 nv,.string ⟨x.toArray⟩,lv] 25 (0,0)):=(m4.block _ (ww q23)).trans q23
 have d1:w4.cell? ⟨w.heap.size,1,none⟩=some (.pointer (some ⟨p.bY,0,none⟩)):=bg q14 1
 have d2:w4.cell? ⟨w.heap.size+1,3,none⟩=some (.string ⟨x.toArray⟩):=bg q24 3
 have hp4:=Wq (q:={p with s:=s'}) (ae HP)
 have hyk:Yk w4 p.bY p.y w4:=⟨(h4.y i _ hp4).1,Kept.refl _ _⟩
 have HYW:=hide (Z0 x hyk (ae Z9).le hl (by have:=(ae Z9).sm;omega) (by omega))
 have H4:=hide h4
 clear h4 q14 q24 q13 q23 HWA H3 hyk m4
 go_wp2_with fail
 refine(ae HYW).mono ?_
 rintro e w5⟨rfl,hy⟩
 have h5:=(ae H4).zdu (pa:=none) (pl:=none) hp4 hy
 have H5:=hide h5
 clear h5 hy HYW H4 d1 d2
 have k1:((tm p.y x).1==(tm p.y x).1)=true:=by simp
 have k2:((tm p.y x).2==(tm p.y x).2)=true:=by simp
 go_wp2
 go_ret
 obtain⟨f1,f2,f3⟩:=Wo p.y x
 refine⟨rfl,_,_,_,{p with s:=s',y:=sh p.y x},ae H5,⟨?_,rfl,rfl,ae zn4,f1,f2,by show _≤(sh p.y x).given;rw[f3];exact cx _,by simp,by simp,by show _+_≤_+5*(sh p.y x).given;rw[f3];exact cx _⟩⟩
 simp
theorem zcn(T:Fy wB ac al)(h:GE wB o b S R [] none none w){i:Nat}{p:Pr}(hp:S.ps[i]? =some p)(hpk:rz p.s p.y)(wv nv:Int)(x:Str)(lv:Value):
  Calls prog 51 #[.pointer (some ⟨b,0,none⟩),.agg #[.pointer (some ⟨p.bx,0,none⟩),.pointer (some ⟨p.bY,0,none⟩)],.agg #[.int .i64 3,.int .i64 wv,.int .i64 nv,.string ⟨x.toArray⟩,lv]] w fun e w'=>e= .returned (.bool true)∧∃o' R' S' p',GE wB o' b S' R' [] none none w'∧Nxt S S' i p p' x.length:=by
 have HH:=hide h
 have Z9:=hide hpk
 have HP:=hide hp
 have HT:=hide T
 clear h hpk hp T
 go_enter func51,ntmps51
 go_wp2_with fail
 have q1:((w.alloc (.cells #[.pointer (some ⟨p.bx,0,none⟩),.pointer (some ⟨p.bY,0,none⟩)] 115)).alloc (.cells #[.int .i64 3,.int .i64 wv,.int .i64 nv,.string ⟨x.toArray⟩,lv] 25)).heap[w.heap.size]? =some (.cells #[.pointer (some ⟨p.bx,0,none⟩),.pointer (some ⟨p.bY,0,none⟩)] 115 (0,0)):=by
  rw[Below.heap_alloc _ _ _ (by simp)];exact heap_alloc_new w _
 have q2:((w.alloc (.cells #[.pointer (some ⟨p.bx,0,none⟩),.pointer (some ⟨p.bY,0,none⟩)] 115)).alloc (.cells #[.int .i64 3,.int .i64 wv,.int .i64 nv,.string ⟨x.toArray⟩,lv] 25)).heap[w.heap.size+1]? =some (.cells #[.int .i64 3,.int .i64 wv,.int .i64 nv,.string ⟨x.toArray⟩,lv] 25 (0,0)):=xa _ _ _ (by simp)
 have h2:=(ae HH).Fz (((More.refl w).alloc (.cells #[.pointer (some ⟨p.bx,0,none⟩),.pointer (some ⟨p.bY,0,none⟩)] 115)).alloc (.cells #[.int .i64 3,.int .i64 wv,.int .i64 nv,.string ⟨x.toArray⟩,lv] 25))
 have o1:up o w 0 w.heap.size=0:=Cu (cx _)
 have o2:up o w 0 (w.heap.size+1)=0:=Cu (by omega)
 generalize(w.alloc (.cells #[.pointer (some ⟨p.bx,0,none⟩),.pointer (some ⟨p.bY,0,none⟩)] 115)).alloc (.cells #[.int .i64 3,.int .i64 wv,.int .i64 nv,.string ⟨x.toArray⟩,lv] 25)=w2 at*
 generalize up o w 0=oo at*
 refine(zn1 (ae HT) h2.more h2.base (by omega) (h2.x i p (ae HP)) (ae Z9)).mono ?_
 rintro e w3⟨v,s',rfl,ht,hpk',hwv⟩
 have hs3:=Kept.stands ht.2
 have h3:=h2.handed (ae HP) ht
 have q13:=Ar hs3 q1 (by rw[o1];omega)
 have q23:=Ar hs3 q2 (by rw[o2];omega)
 have HWA:=hide (Z7 ((ae HT).errs.more h3.more) ((ae HT).pow.more h3.more) hwv)
 have H3:=hide h3
 have zn4:=hide hpk'
 clear h2 ht hs3 h3 hwv q1 q2 hpk'
 go_wp2_with fail
 refine(ae HWA).mono ?_
 rintro e w4⟨rfl,m4⟩
 have h4:=(ae H3).Fz m4
 have q14:w4.heap[w.heap.size]? =some (.cells #[.pointer (some ⟨p.bx,0,none⟩),.pointer (some ⟨p.bY,0,none⟩)] 115 (0,0)):=(m4.block _ (ww q13)).trans q13
 have q24:w4.heap[w.heap.size+1]? =some (.cells #[.int .i64 3,.int .i64 wv,.int .i64 nv,.string ⟨x.toArray⟩,lv] 25 (0,0)):=(m4.block _ (ww q23)).trans q23
 have d1:w4.cell? ⟨w.heap.size,1,none⟩=some (.pointer (some ⟨p.bY,0,none⟩)):=bg q14 1
 have d2:w4.cell? ⟨w.heap.size+1,3,none⟩=some (.string ⟨x.toArray⟩):=bg q24 3
 have hp4:=Wq (q:={p with s:=s'}) (ae HP)
 have hyk:Yk w4 p.bY p.y w4:=⟨(h4.y i _ hp4).1,Kept.refl _ _⟩
 have HYW:=hide (Wp hyk)
 have H4:=hide h4
 clear h4 q14 q24 q13 q23 HWA H3 hyk m4
 go_wp2_with fail
 refine(ae HYW).mono ?_
 rintro e w5⟨rfl,hy⟩
 have h5:=(ae H4).zdu (pa:=none) (pl:=none) hp4 hy
 have H5:=hide h5
 clear h5 hy HYW H4 d1 d2
 have k1:((Bc p.y).1==(Bc p.y).1)=true:=by simp
 have k2:((Bc p.y).2==(Bc p.y).2)=true:=by simp
 go_wp2
 go_ret
 refine⟨rfl,_,_,_,{p with s:=s',y:={p.y with closed:=true}},ae H5,⟨?_,rfl,rfl,ae zn4,rfl,by simp,cx _,by simp,by simp,cx _⟩⟩
 simp
theorem zco{w0:World}{aj:Nat→Prop}{s:TS}{ex:List Item}(h:Tk w0 aj b s ex w)(hs:s.text.length≤Go.Proofs.YtdfmapcnfficlaaGreatDoor.lim):
  Calls prog 19 #[.pointer (some ⟨b,0,none⟩)] w fun e w'=>e= .returned (.int .i64 (runeCount s.text))∧Tk w0 aj b s ex w':=by
 obtain⟨R,hR⟩:=h.reg
 have c1:=xg hR
 have HC:=hide (zby R.text s.text w (px hR) hs)
 have HT:=hide h
 clear h hR
 go_enter func19,ntmps19
 go_wp2_with(go_at_call 36;refine(ae HC).mono ?_;rintro e w1⟨rfl,hm⟩)
 go_ret
 exact⟨rfl,(ae HT).more hm⟩
theorem zf3(T:Fy wB ac al)(h:GE wB o b S R [] none none w){i:Nat}{p:Pr}(hp:S.ps[i]? =some p)(hpk:rz p.s p.y)(wv nv:Int)(x:Str)(lv:Value):
  Calls prog 51 #[.pointer (some ⟨b,0,none⟩),.agg #[.pointer (some ⟨p.bx,0,none⟩),.pointer (some ⟨p.bY,0,none⟩)],.agg #[.int .i64 5,.int .i64 wv,.int .i64 nv,.string ⟨x.toArray⟩,lv]] w fun e w'=>e= .returned (.bool true)∧∃o' R' S' p',GE wB o' b S' R' [] none none w'∧Nxt S S' i p p' x.length:=by
 have HH:=hide h
 have Z9:=hide hpk
 have HP:=hide hp
 have HT:=hide T
 clear h hpk hp T
 go_enter func51,ntmps51
 go_wp2_with fail
 have q1:((w.alloc (.cells #[.pointer (some ⟨p.bx,0,none⟩),.pointer (some ⟨p.bY,0,none⟩)] 115)).alloc (.cells #[.int .i64 5,.int .i64 wv,.int .i64 nv,.string ⟨x.toArray⟩,lv] 25)).heap[w.heap.size]? =some (.cells #[.pointer (some ⟨p.bx,0,none⟩),.pointer (some ⟨p.bY,0,none⟩)] 115 (0,0)):=by
  rw[Below.heap_alloc _ _ _ (by simp)];exact heap_alloc_new w _
 have q2:((w.alloc (.cells #[.pointer (some ⟨p.bx,0,none⟩),.pointer (some ⟨p.bY,0,none⟩)] 115)).alloc (.cells #[.int .i64 5,.int .i64 wv,.int .i64 nv,.string ⟨x.toArray⟩,lv] 25)).heap[w.heap.size+1]? =some (.cells #[.int .i64 5,.int .i64 wv,.int .i64 nv,.string ⟨x.toArray⟩,lv] 25 (0,0)):=xa _ _ _ (by simp)
 have h2:=(ae HH).Fz (((More.refl w).alloc (.cells #[.pointer (some ⟨p.bx,0,none⟩),.pointer (some ⟨p.bY,0,none⟩)] 115)).alloc (.cells #[.int .i64 5,.int .i64 wv,.int .i64 nv,.string ⟨x.toArray⟩,lv] 25))
 have o1:up o w 0 w.heap.size=0:=Cu (cx _)
 have o2:up o w 0 (w.heap.size+1)=0:=Cu (by omega)
 generalize(w.alloc (.cells #[.pointer (some ⟨p.bx,0,none⟩),.pointer (some ⟨p.bY,0,none⟩)] 115)).alloc (.cells #[.int .i64 5,.int .i64 wv,.int .i64 nv,.string ⟨x.toArray⟩,lv] 25)=w2 at*
 generalize up o w 0=oo at*
 refine(zco (h2.x i p (ae HP)) (ae Z9).txt).mono ?_
 rintro e w3⟨rfl,ht⟩
 have hs3:=Kept.stands ht.2
 have h3:=h2.handed (ae HP) ht
 have q13:=Ar hs3 q1 (by rw[o1];omega)
 have d1:w3.cell? ⟨w.heap.size,1,none⟩=some (.pointer (some ⟨p.bY,0,none⟩)):=bg q13 1
 have hp4:=Wq (q:={p with s:=p.s}) (ae HP)
 have hyk:Yk w3 p.bY p.y w3:=⟨(h3.y i _ hp4).1,Kept.refl _ _⟩
 have HYW:=hide (zcc hyk (ae Z9).sm)
 have H4:=hide h3
 clear h2 ht hs3 h3 q1 q2 q13 hyk
 go_wp2_with fail
 refine(ae HYW).mono ?_
 rintro e w5⟨rfl,hy⟩
 have h5:=(ae H4).zdu (pa:=none) (pl:=none) hp4 hy
 have H5:=hide h5
 have hhe:=(ae Z9).held
 clear h5 hy HYW H4 d1
 have k1:(((runeCount p.s.text:Nat):Int)==((P8 p.y.limit p.y.text p.y.closed:Nat):Int))=true:=by rw[hhe];simp
 clear hhe
 go_wp2
 go_ret
 refine⟨rfl,_,_,_,p,ae H5,⟨?_,rfl,rfl,ae Z9,rfl,by simp,cx _,by simp,by simp,cx _⟩⟩
 simp
end
section
variable{wB w w' W W1 W':World}{o:Nat→Nat}{b j:Nat}{S:WS}{R:z5}
theorem GE.beside(h:GE wB o b S R [] none none w)(hs:yg o j w w')(hj:j=3+2*S.ps.length):GE wB (up o w j) b S R [] none none w':=by
 refine⟨hs.more h.base (by omega) h.more,fun k hk=>(uj (ei hk h.more.size)).trans (h.base k hk),Bb h.obj hs (by omega),fun k q hq=> ?_,fun k q hq=> ?_,h.Wu,fun k v m h1 h2=> .inl (xb ((h.ls k v m h1 h2).resolve_right (fun z=>Aj z)) hs (by omega)),h.Wv,fun k v t h1 h2=> .inl (xc ((h.ry k v t h1 h2).resolve_right (fun z=>Ai z)) hs (by omega))⟩
 ·have hk:=(cd.1 hq).1
  exact xm (h.x k q hq) hs (by omega)
 ·have hk:=(cd.1 hq).1
  obtain⟨h1,h2⟩:=h.y k q hq
  have hl:q.bY<w.heap.size:=(co.1 h1).1
  exact⟨(hs.block q.bY hl (by omega)).trans h1,(uj hl).trans h2⟩
def atY(o:Nat→Nat)(g n:Nat):Nat→Nat:=fun k=>if k=g then n else o k
theorem Kr{g n k:Nat}(h:k≠g):atY o g n k=o k:=ag h
theorem GE.zk1(h:GE wB o b S R [] none none w){p:Pr}{R':z5}(hk:K1 o w b (p4 {S with ps:=S.ps++[p]} R') (jj {S with ps:=S.ps++[p]} R'++[]) W)
  (hx:Tk w (fun k=>o k=3+2*S.ps.length) p.bx p.s [] w) (hy:W.heap[p.bY]? =some (.cells (Ba p.y) 135 (0,0))) (hg:w.heap.size≤p.bY) (hb:∀it∈jj {S with ps:=S.ps++[p]} R',it.blk≠some p.bY):
  GE wB (atY (up o w 1) p.bY (4+2*S.ps.length)) b {S with ps:=S.ps++[p]} R' [] none none W:=by
 have hs:=hk.st
 have hbl:=h.obj.lt
 have lt:∀k,k<w.heap.size→atY (up o w 1) p.bY (4+2*S.ps.length) k=o k:=fun k hk=>(Kr (by omega)).trans (uj hk)
 refine⟨hs.more h.base (by omega) h.more,fun k hk=>(lt k (ei hk h.more.size)).trans (h.base k hk),⟨hk.obj.self,?_,⟨hk.obj.rows.ok,hk.obj.rows.nodup,fun k hk2=> ?_⟩⟩,fun k q hq=> ?_,fun k q hq=> ?_,h.Wu,fun k v m h1 h2=> ?_,h.Wv,fun k v t h1 h2=> ?_⟩
 ·show atY _ _ _ b=1
  rw[Kr (by omega)];exact hk.obj.ownB
 ·obtain⟨it,hi,hb2⟩:=ez.1 hk2
  rw[gq]at hi
  have h1:=hk.obj.rows.own k hk2
  exact⟨(Kr (fun e=>hb it hi (by rw[hb2,e]))).trans h1.1,h1.2⟩
 ·have key:∀i s bx,Tk w (fun k=>o k=3+2*i) bx s [] w→Tk W (fun k=>atY (up o w 1) p.bY (4+2*S.ps.length) k=3+2*i) bx s [] W:=fun i s bx ht=>
   zci (xm ht hs (by omega)) (fun k hk=>by rw[Kr (fun e=>by rw[e,Cu hg]at hk;omega)];exact hk)
  by_cases hkl:k<S.ps.length
  ·rw[List.getElem?_append_left hkl]at hq
   exact key k q.s q.bx (h.x k q hq)
  ·rw[List.getElem?_append_right (by omega)]at hq
   have hke:k=S.ps.length:=by
    have:=(cd.1 hq).1
    simp at this;omega
   subst hke
   simp at hq
   subst hq
   exact key _ p.s p.bx hx
 ·by_cases hkl:k<S.ps.length
  ·rw[List.getElem?_append_left hkl]at hq
   obtain⟨h1,h2⟩:=h.y k q hq
   have hl:q.bY<w.heap.size:=(co.1 h1).1
   exact⟨(hs.block q.bY hl (by omega)).trans h1,(lt _ hl).trans h2⟩
  ·rw[List.getElem?_append_right (by omega)]at hq
   have hke:k=S.ps.length:=by
    have:=(cd.1 hq).1
    simp at this;omega
   subst hke
   simp at hq
   subst hq
   exact⟨hy,au rfl⟩
 ·obtain⟨a,n,cap,e,hx2,z⟩:=xb ((h.ls k v m h1 h2).resolve_right (fun z=>Aj z)) hs (by omega)
  refine .inl ⟨a,n,cap,e,hx2,fun hn=> ?_⟩
  obtain⟨g,e1,e2,e3,e4⟩:=z hn
  exact⟨g,e1,e2,(Kr (fun e=>by rw[e,Cu hg]at e3;omega)).trans e3,e4⟩
 ·obtain⟨a,n,cap,e,hx2,z⟩:=xc ((h.ry k v t h1 h2).resolve_right (fun z=>Ai z)) hs (by omega)
  refine .inl ⟨a,n,cap,e,hx2,fun hn=> ?_⟩
  obtain⟨g,e1,e2,e3,e4⟩:=z hn
  exact⟨g,e1,e2,(Kr (fun e=>by rw[e,Cu hg]at e3;omega)).trans e3,e4⟩
theorem zaa(ps:List Pr)(p:Pr):ru (ps++[p])=ru ps++[.pointer (some ⟨p.bx,0,none⟩),.pointer (some ⟨p.bY,0,none⟩)]:=by simp[ru]
theorem K1.pairs{ex:List Item}(h:K1 o w b (p4 S R) (jj S R++ex) W)(hm:More W W1)(p:Pr)(a':Addr)(cap':Nat)
  (hown:W'.ownsRow 0 115 2 (.slice (some a') (S.ps.length+1) cap') (S.ps.length+1) (ru S.ps++[.pointer (some ⟨p.bx,0,none⟩),.pointer (some ⟨p.bY,0,none⟩)])) (hg:W1.grownBy W' (R.all.a.map (·.block))) (hf:some a'.block=R.all.a.map (·.block)∨W1.heap.size≤a'.block):
  W'.heap[b]? =some (.cells (p4 S R) 68 (0,0))∧K1 o w b (p4 {S with ps:=S.ps++[p]} {R with all:=⟨some a',cap'⟩}) (jj {S with ps:=S.ps++[p]} {R with all:=⟨some a',cap'⟩}++ex) (W'.setCell ⟨b,0,none⟩ (.slice (some a') (S.ps.length+1) cap')):=by
 refine h.grow hm [] ([vu 30 R.lists S.ls,ck R.marks S.ms,vu 23 R.attrs S.ry,lr R.notes S.ns]++ex) (zp R.all S.ps) ⟨115,2,some a',S.ps.length+1,cap',ru S.ps++[Value.pointer (some ⟨p.bx,0,none⟩),Value.pointer (some ⟨p.bY,0,none⟩)]⟩ (by simp[jj]) (by simp[jj,zp,zaa]) hown hg (Cv hf _ _ _ _ _ _ _ _) 0 _ (by simp[p4])
theorem zct(l:Int)(hm:More w W)(hs:W.heap.size=w.heap.size):
  Calls prog 50 #[.int .i64 l] W fun e w'=>e= .returned (.pointer (some ⟨w.heap.size,0,none⟩))∧More w w'∧w'.heap.size=w.heap.size+1∧w'.heap[w.heap.size]? =some (.cells (Ba {limit:=max l 0}) 135 (0,0)):=by
 refine(zfv l W).mono ?_
 rintro e w'⟨rfl,rfl⟩
 exact⟨by rw[hs],hm.alloc _,by simp[hs],xa _ _ _ hs.symm⟩
theorem zja:(prog.info? 115).map (fun i=>(i.zero,i.size,i.bytes))=some (some (.agg #[.pointer none,.pointer none]),2,16):=by kernel_rfl
theorem T6(h:GE wB o b S R [] none none w)(l:Int)(hn:S.ps.length≤1000):
  Calls prog 28 #[.pointer (some ⟨b,0,none⟩),.int .i64 l] w fun e w'=>e= .returned (.bool true)∧∃o' R' bx bY,GE wB o' b {S with ps:=S.ps++[⟨bx,bY,{limit:=max l 0},{limit:=max l 0}⟩]} R' [] none none w':=by
 have HH:=hide h
 obtain⟨i0,hi,hz0,hz1,hz2⟩:=info_parts zja
 clear h
 go_enter func28,ntmps28
 go_wp2_with fail
 refine(zhy l w (fun k=>o k=3+2*S.ps.length)).mono ?_
 rintro e w1⟨rfl,ht⟩
 have h1:=(ae HH).beside (Kept.stands ht.2) rfl
 have hx:=zdo ht
 have c0:w1.cell? ⟨b,0,none⟩=some (.slice R.all.a S.ps.length R.all.cap):=h1.obj.cell 0
 have hf:=h1.obj.frozen
 have hb:=h1.obj.lt
 have hrow:w1.ownsRow 0 115 2 (.slice R.all.a S.ps.length R.all.cap) S.ps.length (ru S.ps):=h1.obj.ok (it:=zp R.all S.ps) (by simp[jj])
 have H1:=hide h1
 have HX:=hide hx
 generalize up o w (3+2*S.ps.length)=o1 at*
 generalize w.heap.size=bx at*
 clear HH h1 hx ht
 go_wp2_with fail
 have HY:=hide (fun(W:World)(hm:More w1 W)(hs:W.heap.size=w1.heap.size)=>zct l hm hs)
 go_region_law(first
  |(refine fx rfl (.tmp 14) (.tmp 19) 64 rfl 115 i0 _ 2 16 underlying64 hi hz0 hz1 hz2 rfl (by decide) R.all.a S.ps.length R.all.cap (ru S.ps) (by simp[Act.eval]) (bh (Item.more (it:=zp R.all S.ps) hrow hm2) _) ⟨w2.heap.size,0,none⟩ 1 1 [.pointer (some ⟨bx,0,none⟩),.pointer (some ⟨w1.heap.size,0,none⟩)] (by simp[Act.eval]) rfl (ii _ _ _ _ (by rfl)) (by intro u hu;simp at hu;rcases hu with hu|hu<;>rw[hu]<;>rfl) (by decide) (by unfold maxLen;omega) (by omega) ?_;intro a' cap' w3 hown hgrow hfresh;obtain⟨hself,hK⟩:=K1.pairs (ae H1).k1 (hm2.alloc _) ⟨bx,w1.heap.size,{limit:=max l 0},{limit:=max l 0}⟩ a' cap' hown hgrow (by simpa using hfresh);have e0:w3.cell? ⟨b,0,none⟩=some (.slice R.all.a S.ps.length R.all.cap):=bg hself 0;have ef:=bn hself)
  |(go_simp;go_at_call 50;refine(ae HY _ ?_ ?_).mono ?_;(first|exact More.refl _|exact(More.refl w1).drew);(rfl);rintro e w2⟨rfl,hm2,hsz2,hy2⟩;have d0:=(hm2.cell (o:=0) hb).trans c0;have l2:b<w2.heap.size:=ei hb hm2.size))
 all_goals
  have hlt:∀it∈jj S R,∀k,it.blk=some k→k<w1.heap.size:=fun it hi k hk=>Item.lt ((ae H1).obj.ok (by simp[hi])) k hk
  have hrb:∀k,R.all.a.map (·.block)=some k→k<w1.heap.size:=fun k hk=>hlt (zp R.all S.ps) (by simp[jj]) k (by simpa[zp,Item.blk]using hk)
  have hyW:(w3.setCell ⟨b,0,none⟩ (.slice (some a') (S.ps.length+1) cap')).heap[w1.heap.size]? =some (.cells (Ba {limit:=max l 0}) 135 (0,0)):=by
   rw[kj _ (show w1.heap.size≠b by omega),hgrow.block _ (by simp;omega) (fun e=>by have:=hrb _ e.symm;omega),Below.heap_alloc _ _ _ (by omega)]
   exact hy2
  have hbk:∀it∈jj {S with ps:=S.ps++[⟨bx,w1.heap.size,{limit:=max l 0},{limit:=max l 0}⟩]} {R with all:=⟨some a',cap'⟩},it.blk≠some w1.heap.size:=by
   intro it hit e
   have hit2:it=zp ⟨some a',cap'⟩ (S.ps++[⟨bx,w1.heap.size,{limit:=max l 0},{limit:=max l 0}⟩])∨it∈jj S R:=by
    simp only[jj,List.mem_cons,List.not_mem_nil,or_false]at hit⊢
    rcases hit with z|z|z|z|z
    ·exact .inl z
    ·exact .inr (.inr (.inl z))
    ·exact .inr (.inr (.inr (.inl z)))
    ·exact .inr (.inr (.inr (.inr (.inl z))))
    ·exact .inr (.inr (.inr (.inr (.inr z))))
   rcases hit2 with z|z
   ·rw[z]at e
    have e2:a'.block=w1.heap.size:=by simpa[zp,Item.blk]using e
    rcases hfresh with y|y
    ·have:=hrb _ y.symm;omega
    ·simp at y;omega
   ·have:=hlt it z _ e;omega
  have HF:=hide ((ae H1).zk1 (p:=⟨bx,w1.heap.size,{limit:=max l 0},{limit:=max l 0}⟩) hK (ae HX) hyW (cx _) hbk)
  clear hK hyW hbk hlt hrb hown hgrow hfresh hself e0 ef d0 H1 HX HY
  go_wp2
  go_ret
  exact⟨rfl,_,_,_,_,ae HF⟩
end
section
variable{wB w w' W W1 W':World}{o:Nat→Nat}{b:Nat}{S:WS}{R:z5}
theorem zk2{it:Item}(h:it.ok w)(hs:it.size=1){i:Nat}{u:Value}(hu:it.xs[i]? =some u):∃g,it.a=some ⟨g,0,none⟩∧w.cell? ⟨g,i,none⟩=some u:=by
 obtain⟨g,h1,_,h2⟩:=F4 h hu hs
 exact⟨g,h1,h2⟩
theorem zf9(h:GE wB o b S R [] none none w)(hl:S.ls.length≤1099511627776)(ha:S.ry.length≤1099511627776):
  Calls prog 30 #[.pointer (some ⟨b,0,none⟩)] w fun e w'=>e= .returned (.bool true)∧∃q,w'=w.drewN q:=by
 have c1:w.cell? ⟨b,1,none⟩=some (.slice R.lists.a S.ls.length R.lists.cap):=h.obj.cell 1
 have c2:w.cell? ⟨b,2,none⟩=some (.slice R.marks.a S.ms.length R.marks.cap):=h.obj.cell 2
 have c3:w.cell? ⟨b,3,none⟩=some (.slice R.attrs.a S.ry.length R.attrs.cap):=h.obj.cell 3
 have c4:w.cell? ⟨b,4,none⟩=some (.slice R.notes.a S.ns.length R.notes.cap):=h.obj.cell 4
 have c5:w.cell? ⟨b,5,none⟩=some (.slice none 0 0):=h.obj.cell 5
 have HH:=hide h
 have hb:=h.obj.lt
 clear h
 go_enter func30,ntmps30
 go_wp2_with fail
 go_loopw [3] (fun i wx=>∃(k q:Nat),k≤S.ls.length∧i= .int .i64 k∧wx=w.drewN q) (fun i _=>S.ls.length-(intOf i).toNat)
 case atStart=>exact⟨0,0,da _,rfl,rfl⟩
 case round=>
  obtain⟨k,q,hk,rfl,hwr⟩:=hrel
  rw[hwr]
  clear hwr
  by_cases hlt:k<S.ls.length
  ·obtain⟨v,hv⟩:∃v,S.ls[k]? =some v:=⟨S.ls[k],by simp[hlt]⟩
   have zn9:k<S.ms.length:=by have h1:S.ls.length=S.ms.length:=(ae HH).Wu;omega
   obtain⟨m,hm⟩:∃m,S.ms[k]? =some m:=⟨S.ms[k],by simp[zn9]⟩
   have hmk:=((ae HH).ls k v m hv hm).resolve_right (fun z=>Aj z)
   obtain⟨a,n,cap,rfl,hnb,hmk⟩:=hmk
   simp only[maxLen]at hnb
   obtain⟨gl,hgl,cl⟩:=zk2 ((ae HH).obj.ok (it:=vu 30 R.lists S.ls) (by simp[jj])) rfl (i:=k) (u:= .slice a n cap) hv
   obtain⟨gm,hgm,cm⟩:=zk2 ((ae HH).obj.ok (it:=ck R.marks S.ms) (by simp[jj])) rfl (i:=k) (u:= .int .i64 m) (by simp[ck,hm])
   have zjb:R.lists.a=some ⟨gl,0,none⟩:=hgl
   have zjc:R.marks.a=some ⟨gm,0,none⟩:=hgm
   have d1:w.cell? ⟨b,1,none⟩=some (.slice (some ⟨gl,0,none⟩) S.ls.length R.lists.cap):=by rw[←zjb];exact c1
   have d2:w.cell? ⟨b,2,none⟩=some (.slice (some ⟨gm,0,none⟩) S.ms.length R.marks.cap):=by rw[←zjc];exact c2
   have hem:(m==m)=true:=by simp
   clear hv hm hgl hgm zjb zjc c1 c2
   go_wp2_with fail
   go_loopw [4] (fun i wx=>∃(j q2:Nat),j≤n∧i= .int .i64 j∧wx=w.drewN q2) (fun i _=>n-(intOf i).toNat)
   case atStart=>exact⟨0,q,da _,rfl,rfl⟩
   case round=>
    obtain⟨j,q2,hj,rfl,hwr⟩:=hrel
    rw[hwr]
    clear hwr
    by_cases hjn:j<n
    ·obtain⟨g,rfl,hg,_,hc⟩:=hmk (by omega)
     have ce:=hc j hjn
     clear hc
     go_wp2_with fail
     go_quiet (fail)
     go_wp2
     go_roundw
     case rel=>exact⟨j+1,_,by omega,by go_num,rfl⟩
     case measure=>simp[intOf];omega
    ·go_wp2
     go_roundw
     case rel=>exact⟨k+1,q2,by omega,by go_num,rfl⟩
     case measure=>simp[intOf];omega
  ·go_wp2_with fail
   go_loopw [5] (fun i wx=>i= .int .i64 0∧wx=w.drewN q) (fun _ _=>0)
   case atStart=>exact⟨rfl,rfl⟩
   case round=>
    obtain⟨rfl,hwr⟩:=hrel
    rw[hwr]
    clear hwr
    go_wp2_with fail
    go_loopw [7] (fun i wx=>∃(k q:Nat),k≤S.ry.length∧i= .int .i64 k∧wx=w.drewN q) (fun i _=>S.ry.length-(intOf i).toNat)
    case atStart=>exact⟨0,q,da _,rfl,rfl⟩
    case round=>
     obtain⟨k,q,hk,rfl,hwr⟩:=hrel
     rw[hwr]
     clear hwr
     by_cases hlt:k<S.ry.length
     ·obtain⟨v,hv⟩:∃v,S.ry[k]? =some v:=⟨S.ry[k],by simp[hlt]⟩
      have zn9:k<S.ns.length:=by have h1:S.ry.length=S.ns.length:=(ae HH).Wv;omega
      obtain⟨m,hm⟩:∃m,S.ns[k]? =some m:=⟨S.ns[k],by simp[zn9]⟩
      have hmk:=((ae HH).ry k v m hv hm).resolve_right (fun z=>Ai z)
      obtain⟨a,n,cap,rfl,hnb,hmk⟩:=hmk
      simp only[maxLen]at hnb
      obtain⟨gl,hgl,cl⟩:=zk2 ((ae HH).obj.ok (it:=vu 23 R.attrs S.ry) (by simp[jj])) rfl (i:=k) (u:= .slice a n cap) hv
      obtain⟨gm,hgm,cm⟩:=zk2 ((ae HH).obj.ok (it:=lr R.notes S.ns) (by simp[jj])) rfl (i:=k) (u:= .string ⟨m.toArray⟩) (by simp[lr,hm,str])
      have zjb:R.attrs.a=some ⟨gl,0,none⟩:=hgl
      have zjc:R.notes.a=some ⟨gm,0,none⟩:=hgm
      have d1:w.cell? ⟨b,3,none⟩=some (.slice (some ⟨gl,0,none⟩) S.ry.length R.attrs.cap):=by rw[←zjb];exact c3
      have d2:w.cell? ⟨b,4,none⟩=some (.slice (some ⟨gm,0,none⟩) S.ns.length R.notes.cap):=by rw[←zjc];exact c4
      have hem:(m==m)=true:=by simp
      clear hv hm hgl hgm zjb zjc c3 c4
      go_wp2_with fail
      go_loopw [8] (fun i wx=>∃(j q2:Nat),j≤n∧i= .int .i64 j∧wx=w.drewN q2) (fun i _=>n-(intOf i).toNat)
      case atStart=>exact⟨0,q,da _,rfl,rfl⟩
      case round=>
       obtain⟨j,q2,hj,rfl,hwr⟩:=hrel
       rw[hwr]
       clear hwr
       by_cases hjn:j<n
       ·obtain⟨g,rfl,hg,_,hc⟩:=hmk (by omega)
        have ce:=hc j hjn
        clear hc
        go_wp2_with fail
        go_quiet (fail)
        go_wp2
        go_roundw
        case rel=>exact⟨j+1,_,by omega,by go_num,rfl⟩
        case measure=>simp[intOf];omega
       ·go_wp2
        go_roundw
        case rel=>exact⟨k+1,q2,by omega,by go_num,rfl⟩
        case measure=>simp[intOf];omega
     ·go_wp2
      go_ret
      exact⟨rfl,q,rfl⟩
end
end Go.Proofs.YtdfmapcnfficlaaGreatDoor.M

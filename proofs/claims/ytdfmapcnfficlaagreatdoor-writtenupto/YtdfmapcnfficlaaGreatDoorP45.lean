import Derived.Test.YtdfmapcnfficlaaGreatDoorP43
set_option linter.all false
namespace Go.Proofs.YtdfmapcnfficlaaGreatDoor.M
open Go Go.RowKit Go.Proofs.YtdfmapcnfficlaaGreatDoor
structure Pr where
 bx:Nat
 bY:Nat
 s:TS
 y:YS
structure WS where
 ps:List Pr
 ls:List Value
 ms:List Int
 ry:List Value
 ns:List Str
 last:Nat
structure z5 where
 all:Sl
 lists:Sl
 marks:Sl
 attrs:Sl
 notes:Sl
def p4(S:WS)(R:z5):Array Value:=#[.slice R.all.a S.ps.length R.all.cap,.slice R.lists.a S.ls.length R.lists.cap,.slice R.marks.a S.ms.length R.marks.cap,.slice R.attrs.a S.ry.length R.attrs.cap,.slice R.notes.a S.ns.length R.notes.cap,.slice none 0 0,.int .i64 S.last]
def ru(ps:List Pr):List Value:=ps.flatMap fun p=>[.pointer (some ⟨p.bx,0,none⟩),.pointer (some ⟨p.bY,0,none⟩)]
def zp(r:Sl)(ps:List Pr):Item:=⟨115,2,r.a,ps.length,r.cap,ru ps⟩
def vu(T:TypeId)(r:Sl)(l:List Value):Item:=⟨T,1,r.a,l.length,r.cap,l⟩
def jj(S:WS)(R:z5):List Item:=[zp R.all S.ps,vu 30 R.lists S.ls,ck R.marks S.ms,vu 23 R.attrs S.ry,lr R.notes S.ns]
def up(o:Nat→Nat)(w:World)(j:Nat):Nat→Nat:=fun k=>if k<w.heap.size then o k else j
def MkT(o:Nat→Nat)(w:World)(v:Value)(m:Int):Prop:=∃a n cap,v= .slice a n cap∧n≤maxLen∧(0<n→∃g,a=some ⟨g,0,none⟩∧g<w.heap.size∧o g=2∧∀k,k<n→w.cell? ⟨g,k*6,none⟩=some (.int .i64 m))
def MkS(o:Nat→Nat)(w:World)(v:Value)(t:Str):Prop:=∃a n cap,v= .slice a n cap∧n≤maxLen∧(0<n→∃g,a=some ⟨g,0,none⟩∧g<w.heap.size∧o g=2∧∀k,k<n→w.cell? ⟨g,k,none⟩=some (.string ⟨t.toArray⟩))
def PA(pa:Option (Sl×Nat×Str))(v:Value)(t:Str):Prop:=∃x N,pa=some (x,N,t)∧∃m cap,v= .slice x.a m cap∧m≤N
def PL(pl:Option (Sl×Nat×Int))(v:Value)(t:Int):Prop:=∃x N,pl=some (x,N,t)∧∃m cap,v= .slice x.a m cap∧m≤N
structure GE(wB:World)(o:Nat→Nat)(b:Nat)(S:WS)(R:z5)(ex:List Item)(pa:Option (Sl×Nat×Str))(pl:Option (Sl×Nat×Int))(w:World):Prop where
 more:More wB w
 base:∀k,k<wB.heap.size→o k=0
 obj:pm w (fun k=>o k=1) b 68 (p4 S R) (jj S R++ex)
 x:∀i p,S.ps[i]? =some p→Tk w (fun k=>o k=3+2*i) p.bx p.s [] w
 y:∀i p,S.ps[i]? =some p→w.heap[p.bY]? =some (.cells (Ba p.y) 135 (0,0))∧o p.bY=4+2*i
 Wu:S.ls.length=S.ms.length
 ls:∀(i:Nat)v m,S.ls[i]? =some v→S.ms[i]? =some m→MkT o w v m∨PL pl v m
 Wv:S.ry.length=S.ns.length
 ry:∀(i:Nat)v t,S.ry[i]? =some v→S.ns[i]? =some t→MkS o w v t∨PA pa v t
def G(wB:World)(o:Nat→Nat)(b:Nat)(S:WS)(w:World):Prop:=∃R,GE wB o b S R [] none none w
theorem Ai{v:Value}{t:Str}(h:PA none v t):False:=by obtain⟨x,N,e,_⟩:=h;cases e
theorem Aj{v:Value}{t:Int}(h:PL none v t):False:=by obtain⟨x,N,e,_⟩:=h;cases e
section
variable{wB w w':World}{o:Nat→Nat}{b j:Nat}{S:WS}
structure yg(o:Nat→Nat)(j:Nat)(w w':World):Prop where
 os:w'.os=w.os
 tape:w'.tape=w.tape
 output:w'.output=w.output
 size:w.heap.size≤w'.heap.size
 block:∀k,k<w.heap.size→o k≠j→w'.heap[k]? =w.heap[k]?
theorem Kept.stands(h:Kept (fun k=>o k=j) w w'):yg o j w w':=⟨h.os,h.tape,h.output,h.size,fun k hk hn=>h.block k hk hn⟩
theorem uj{k:Nat}(h:k<w.heap.size):up o w j k=o k:=au h
theorem yg.more(h:yg o j w w')(hb:∀k,k<wB.heap.size→o k=0)(hj:j≠0)(hm:More wB w):More wB w':=
 ⟨h.os.trans hm.os,h.tape.trans hm.tape,h.output.trans hm.output,fz hm.size h.size,fun k hk=>(h.block k (ei hk hm.size) (by rw[hb k hk];exact fun e=>hj e.symm)).trans (hm.block k hk)⟩
theorem xm{i:Nat}{bx:Nat}{s:TS}{ex:List Item}(h:Tk w (fun k=>o k=i) bx s ex w)(hs:yg o j w w')(hij:i≠j):Tk w' (fun k=>up o w j k=i) bx s ex w':=by
 obtain⟨⟨R,hR⟩,_⟩:=h
 have lt:∀k,k<w.heap.size→(o k=i∨w.heap.size≤k)→o k=i:=fun k hk h=>h.elim id (fun h=>by omega)
 have blk:∀k,k<w.heap.size→(o k=i∨w.heap.size≤k)→w'.heap[k]? =w.heap[k]? :=fun k hk h=>hs.block k hk (by rw[lt k hk h];exact hij)
 refine⟨⟨R,?_,.inl ((uj hR.yh).trans (lt _ hR.yh hR.ownB)),⟨?_,hR.rows.nodup,fun k hk=> ?_⟩,qj hR.map fun g hg=>blk g (hR.map_lt g hg) (hR.sj g hg).1,fun g hg=>⟨.inl ((uj (hR.map_lt g hg)).trans (lt _ (hR.map_lt g hg) (hR.sj g hg).1)),(hR.sj g hg).2⟩,hR.la,hR.lv,hR.lt⟩,Kept.refl _ _⟩
 ·rw[blk bx hR.yh hR.ownB];exact hR.self
 ·exact(hR.rows.kept (w':=w') fun k hk hh=>blk k hk hh.1).ok
 ·obtain⟨x,hx,hb⟩:=ez.1 hk
  have hl:=Item.lt (hR.rows.ok x hx) k hb
  exact⟨.inl ((uj hl).trans (lt k hl (hR.rows.own k hk).1)),(hR.rows.own k hk).2⟩
theorem zdo{i:Nat}{bx:Nat}{s:TS}{ex:List Item}(h:Tk w (fun k=>o k=i) bx s ex w'):Tk w' (fun k=>up o w i k=i) bx s ex w':=by
 obtain⟨⟨R,hR⟩,hk⟩:=h
 have ow:∀k,(o k=i∨w.heap.size≤k)→up o w i k=i:=fun k h=>by
  unfold up
  split
  ·next z=>exact h.elim id (fun h=>by omega)
  ·rfl
 exact⟨⟨R,hR.self,.inl (ow _ hR.ownB),⟨hR.rows.ok,hR.rows.nodup,fun k hk=>⟨.inl (ow k (hR.rows.own k hk).1),(hR.rows.own k hk).2⟩⟩,hR.map,fun g hg=>⟨.inl (ow g (hR.sj g hg).1),(hR.sj g hg).2⟩,hR.la,hR.lv,hR.lt⟩,Kept.refl _ _⟩
theorem Bb{i:Nat}{T:TypeId}{cs:Array Value}{l:List Item}(h:pm w (fun k=>o k=i) b T cs l)(hs:yg o j w w')(hij:i≠j):pm w' (fun k=>up o w j k=i) b T cs l:=by
 have blk:∀k,k<w.heap.size→o k=i→w'.heap[k]? =w.heap[k]? :=fun k hk h=>hs.block k hk (by rw[h];exact hij)
 refine⟨by rw[blk b h.lt h.ownB];exact h.self,by show up o w j b=i;rw[uj h.lt];exact h.ownB,⟨(h.rows.kept (w':=w') fun k hk hh=>blk k hk hh.1).ok,h.rows.nodup,fun k hk=> ?_⟩⟩
 obtain⟨x,hx,hb⟩:=ez.1 hk
 have hl:=Item.lt (h.rows.ok x hx) k hb
 exact⟨by show up o w j k=i;rw[uj hl];exact(h.rows.own k hk).1,(h.rows.own k hk).2⟩
theorem xb{v:Value}{m:Int}(h:MkT o w v m)(hs:yg o j w w')(hj:j≠2):MkT (up o w j) w' v m:=by
 obtain⟨a,n,cap,rfl,hx,h1⟩:=h
 refine⟨a,n,cap,rfl,hx,fun hn=> ?_⟩
 obtain⟨g,e,hg,ho,hc⟩:=h1 hn
 have hb:=hs.block g hg (by rw[ho];exact fun e=>hj e.symm)
 exact⟨g,e,by have:=hs.size;omega,by rw[uj hg];exact ho,fun k hk=>by rw[fk (w:=w) hb];exact hc k hk⟩
theorem xc{v:Value}{t:Str}(h:MkS o w v t)(hs:yg o j w w')(hj:j≠2):MkS (up o w j) w' v t:=by
 obtain⟨a,n,cap,rfl,hx,h1⟩:=h
 refine⟨a,n,cap,rfl,hx,fun hn=> ?_⟩
 obtain⟨g,e,hg,ho,hc⟩:=h1 hn
 have hb:=hs.block g hg (by rw[ho];exact fun e=>hj e.symm)
 exact⟨g,e,by have:=hs.size;omega,by rw[uj hg];exact ho,fun k hk=>by rw[fk (w:=w) hb];exact hc k hk⟩
theorem Lg{ps:List Pr}{i:Nat}{p p':Pr}(h:ps[i]? =some p)(h1:p'.bx=p.bx)(h2:p'.bY=p.bY):ru (ps.set i p')=ru ps:=by
 unfold ru
 have e:(ps.set i p').map (fun p=>[Value.pointer (some ⟨p.bx,0,none⟩),.pointer (some ⟨p.bY,0,none⟩)])=ps.map (fun p=>[Value.pointer (some ⟨p.bx,0,none⟩),.pointer (some ⟨p.bY,0,none⟩)]):=by
  apply List.ext_getElem?
  intro k
  rw[List.getElem?_map,List.getElem?_map,List.getElem?_set]
  split
  ·next e=>subst e;rw[h];split<;>simp_all
  ·rfl
 rw[List.flatMap_def,e,←List.flatMap_def]
theorem Jd{ps:List Pr}{i k:Nat}{p p' q:Pr}(h:ps[i]? =some p)(hk:(ps.set i p')[k]? =some q):(k=i∧q=p')∨(k≠i∧ps[k]? =some q):=by
 rw[List.getElem?_set]at hk
 split at hk
 ·next e=>
   subst e;split at hk
   ·simp at hk;exact .inl ⟨rfl,hk.symm⟩
   ·cases hk
 ·next e=>exact .inr ⟨fun z=>e z.symm,hk⟩
theorem G.later(h:G wB o b S w)(hm:More w w'):G wB (up o w 0) b S w':=by
 have hs:∀j,yg (up o w 0) j w w':=fun j=>⟨hm.os,hm.tape,hm.output,hm.size,fun k hk _=>hm.block k hk⟩
 have hs0:∀j,yg o j w w':=fun j=>⟨hm.os,hm.tape,hm.output,hm.size,fun k hk _=>hm.block k hk⟩
 obtain⟨R,h⟩:=h
 have hR:=h.obj
 refine⟨R,h.more.tr hm,fun k hk=> ?_,Bb hR (hs0 0) (by omega),fun k q hq=>xm (h.x k q hq) (hs0 0) (by omega),fun k q hq=> ?_,h.Wu,fun k v m h1 h2=> .inl (xb ((h.ls k v m h1 h2).resolve_right (fun z=>Aj z)) (hs0 0) (by omega)),h.Wv,fun k v t h1 h2=> .inl (xc ((h.ry k v t h1 h2).resolve_right (fun z=>Ai z)) (hs0 0) (by omega))⟩
 ·rw[uj (ei hk h.more.size)];exact h.base k hk
 ·obtain⟨h1,h2⟩:=h.y k q hq
  have hl:q.bY<w.heap.size:=(co.1 h1).1
  exact⟨(hm.block q.bY hl).trans h1,by rw[uj hl];exact h2⟩
end
structure rz(s:TS)(y:YS):Prop where
 told:∃pre:List Tok,pre.length=y.given∧pre++s.told=uk y
 held:runeCount s.text=P8 y.limit y.text y.closed
 txt:s.text.length≤lim
 cl:s.closed=y.closed
 bys:s.bytes=y.text.length
 lim:s.limit=y.limit
 le:(y.text.length:Int)≤y.limit
 sm:y.text.length≤268435456
 opn:y.closed=false→y.over=false∧Open s y.text.length∧∃pre:List Tok,Go.Proofs.YtdfmapcnfficlaaGreatDoor.ahead pre s=put {limit:=y.limit} y.text∧pre.length=y.given
theorem Lh(s:TS):(qh s).closed=true∧(qh s).bytes=s.bytes∧(qh s).limit=s.limit:=by
 obtain⟨h',e,h1,h2,h3⟩:=K8 s [] s rfl
 have e0:over s [] s=s:=by cases s;simp[over]
 rw[e0]at e
 rw[e]
 exact⟨h3,h2,h1⟩
theorem Z5(s:TS):(zy s).closed=true∧(zy s).bytes=s.bytes∧(zy s).limit=s.limit∧(zy s).text=[]:=by
 obtain⟨h1,h2,h3⟩:=Lh s
 unfold zy Go.Proofs.YtdfmapcnfficlaaGreatDoor.tell
 rw[Tg (Bq s)]
 exact⟨h1,h2,h3,Bq s⟩
theorem Qd:runeCount []=0:=rfl
theorem Z6(l:Int):rz {limit:=max l 0} {limit:=max l 0}:=by
 have e:put {limit:=max l 0} []={limit:=max l 0}:=zki _ (show(fv []).2=0 by decide)
 refine⟨⟨[],rfl,?_⟩,?_,by simp[lim],rfl,rfl,rfl,?_,by simp,fun _=>⟨rfl,Open.new _,[],?_,rfl⟩⟩
 ·show[]=uk _
  simp[uk,resT,e]
 ·show runeCount []=runeCount (put {limit:=max l 0} []).text
  rw[e]
 ·show(0:Int)≤max l 0
  omega
 ·show _=put {limit:=max l 0} []
  rw[e];rfl
theorem ziw{s:TS}{n:Nat}(h:Open s n)(hn:n≤268435456):s.text.length≤Go.Proofs.YtdfmapcnfficlaaGreatDoor.lim:=by
 have:=h.small
 have h2:s.text.length≤sz s:=by unfold sz;omega
 unfold Go.Proofs.YtdfmapcnfficlaaGreatDoor.lim;omega
theorem Tz{s:TS}{y:YS}(hc:y.closed=false)(pre:List Tok)(e:Go.Proofs.YtdfmapcnfficlaaGreatDoor.ahead pre s=put {limit:=y.limit} y.text):pre++s.told=uk y∧runeCount s.text=P8 y.limit y.text y.closed:=by
 have e1:(Go.Proofs.YtdfmapcnfficlaaGreatDoor.ahead pre s).told=pre++s.told:=rfl
 have e2:(Go.Proofs.YtdfmapcnfficlaaGreatDoor.ahead pre s).text=s.text:=rfl
 unfold uk resT P8
 rw[hc,←e1,←e2,e]
 simp
variable{s:TS}{y:YS}
theorem zix(w0:World)(h:rz s y)(hc:y.closed=false)(x:Str)(hx:(x.length:Int)≤y.limit-y.text.length)(hn:y.text.length+x.length≤268435456):rz (put s x) {y with text:=y.text++x}:=by
 obtain⟨ho,hO,pre,e,hg⟩:=h.opn hc
 obtain⟨_,hO2,hlm⟩:=Fh (w0:=w0) (aj:=fun _=>False) hO x (by omega)
 have e2:Go.Proofs.YtdfmapcnfficlaaGreatDoor.ahead pre (put s x)=put {limit:=y.limit} (y.text++x):=by rw[←Ti,e,zde]
 obtain⟨t1,t2⟩:=Tz (s:=put s x) (y:={y with text:=y.text++x}) hc pre e2
 have hO3:Open (put s x) (y.text++x).length:=by rw[aq];exact hO2
 refine⟨⟨pre,hg,t1⟩,t2,ziw hO2 hn,?_,?_,?_,?_,?_,fun _=>⟨ho,hO3,pre,e2,hg⟩⟩
 ·rw[hO2.cl];exact hc.symm
 ·exact hO3.by'
 ·rw[hlm];exact h.lim
 ·show((y.text++x).length:Int)≤y.limit
  rw[aq];omega
 ·show(y.text++x).length≤_
  rw[aq];exact hn
theorem zf0(w0:World)(h:rz s y)(hc:y.closed=false)(x:Str)(k:Nat)(hk:(y.text.length:Int)+k=y.limit)(hx:k<x.length)(hn:y.text.length+k≤268435456):rz (qh (put s (x.take k))) {y with text:=y.text++x.take k,closed:=true,over:=true}:=by
 obtain⟨ho,hO,pre,e,hg⟩:=h.opn hc
 have hl:(x.take k).length=k:=by rw[List.length_take];omega
 obtain⟨_,hO2,hlm⟩:=Fh (w0:=w0) (aj:=fun _=>False) hO (x.take k) (by omega)
 have e2:Go.Proofs.YtdfmapcnfficlaaGreatDoor.ahead pre (put s (x.take k))=put {limit:=y.limit} (y.text++x.take k):=by rw[←Ti,e,zde]
 obtain⟨c1,c2,c3⟩:=Lh (put s (x.take k))
 have ct:=Bq (put s (x.take k))
 refine⟨⟨pre,hg,?_⟩,?_,by rw[ct];simp,c1,?_,?_,?_,?_,fun z=>by cases z⟩
 ·rw[←I2,e2];simp[uk,resT]
 ·rw[ct];simp[P8,Qd]
 ·rw[c2,hO2.by'];simp
 ·rw[c3,hlm];exact h.lim
 ·show((y.text++x.take k).length:Int)≤y.limit
  rw[aq,hl];omega
 ·show(y.text++x.take k).length≤_
  rw[aq,hl];exact hn
theorem zch(h:rz s y)(hc:y.closed=false):rz (zy s) {y with closed:=true}:=by
 obtain⟨ho,hO,pre,e,hg⟩:=h.opn hc
 obtain⟨c1,c2,c3,ct⟩:=Z5 s
 refine⟨⟨pre,hg,?_⟩,?_,by rw[ct];simp,c1,?_,?_,h.le,h.sm,fun z=>by cases z⟩
 ·rw[←V4,e,Fi];simp[uk,resT,ho]
 ·rw[ct];simp[P8,Qd]
 ·rw[c2,hO.by']
 ·rw[c3];exact h.lim
theorem zf1(h:rz s y):rz (take s) {y with given:=(uk y).length}:=by
 obtain⟨pre,hg,e⟩:=h.told
 refine⟨⟨uk y,rfl,by simp[take];rfl⟩,h.held,h.txt,h.cl,h.bys,h.lim,h.le,h.sm,fun hc=> ?_⟩
 obtain⟨ho,hO,znz,e2,hg2⟩:=h.opn hc
 have e3:=(Tz hc znz e2).1
 refine⟨ho,ze9 hO,znz++s.told,?_,?_⟩
 ·show _=put {limit:=y.limit} y.text
  rw[←e2];simp[Go.Proofs.YtdfmapcnfficlaaGreatDoor.ahead,take]
 ·show(znz++s.told).length=(uk y).length
  rw[e3];rfl
theorem T0(h:rz s y):y.given≤(uk y).length∧(uk y).drop y.given=s.told:=by
 obtain⟨pre,hg,e⟩:=h.told
 rw[←e,←hg]
 simp
theorem Hr(w0:World)(h:rz s y):(uk y).length≤512*y.text.length+1029:=by
 have:=P9 w0 y.limit y.text y.closed h.sm
 unfold uk
 rw[aq]
 split<;>simp<;>omega
end Go.Proofs.YtdfmapcnfficlaaGreatDoor.M
namespace Go.Proofs.YtdfmapcnfficlaaGreatDoor.M
open Go.Proofs.Tryz
open Go Go.RowKit Go.Proofs.YtdfmapcnfficlaaGreatDoor
structure Fy(wB:World)(ac al:Addr):Prop where
 base:Base wB (fun _=>False)
 errs:Ee wB ac al
 pow:Pow wB
section
variable{wB w w':World}{o:Nat→Nat}{b j:Nat}{S:WS}{ac al:Addr}{s:TS}{y:YS}{bx:Nat}
theorem zdp(T:Fy wB ac al)(hm:More wB w)(hb:∀k,k<wB.heap.size→o k=0)(hj:j≠0):Base w (fun k=>o k=j):=by
 have hk:Kept (fun _=>False) wB w:=⟨hm.os,hm.tape,hm.output,hm.size,fun k hk _=>hm.block k hk⟩
 refine⟨T.base.at hk,fun g hg=> ?_⟩
 have:=T.base.out g hg
 exact⟨fun e=>hj (by rw[←e];exact hb g this.2),ei this.2 hm.size⟩
theorem zky(T:Fy wB ac al)(hm:More wB w)(hb:∀k,k<wB.heap.size→o k=0)(hj:j≠0)(W:World)(hk:Kept (fun k=>o k=j) w W):Ee W ac al:=
 T.errs.more ((Kept.stands hk).more hb hj hm)
def ziy(W:World)(ac al:Addr)(v:Value)(k:Int×Int):Prop:=(k=(0,0)∧v= .nilIface)∨(∃p,k=(1,p)∧AtV W v p ac∧0≤p∧p≤2147483648)∨(∃p,k=(2,p)∧AtV W v p al∧0≤p∧p≤2147483648)
theorem Z7{v:Value}{k:Int×Int}(E:Ee w ac al)(T:Pow w)(h:ziy w ac al v k):
  Calls prog 77 #[v] w fun e w'=>e= .returned (.tuple #[.int .i64 k.1,.int .i64 k.2])∧More w w':=by
 rcases h with⟨rfl,rfl⟩|⟨p,rfl,h,h0,h1⟩|⟨p,rfl,h,h0,h1⟩
 ·refine(zfz w).mono ?_
  rintro e w2⟨rfl,rfl⟩
  exact⟨rfl,More.refl _⟩
 ·exact Wn E h h0 h1 T
 ·exact Z4 E h h0 h1 T
theorem zn0(T:Fy wB ac al)(hm:More wB w)(hb:∀k,k<wB.heap.size→o k=0)(hj:j≠0)(h:Tk w (fun k=>o k=j) bx s [] w)(hp:rz s y)(hl:y.limit≤9223372036854775807)(x:Str)(hx:y.text.length+x.length≤268435456):
  Calls prog 17 #[.pointer (some ⟨bx,0,none⟩),.string ⟨x.toArray⟩] w fun e w'=>∃v s',e= .returned v∧Tk w (fun k=>o k=j) bx s' [] w'∧rz s' (sh y x)∧ziy w' ac al v (tm y x):=by
 have B:=zdp (j:=j) T hm hb hj
 cases hc:y.closed with
 |true=>
  have E:=T.errs.more hm
  refine(Wl E x (by rw[hp.cl];exact hc) h).mono ?_
  rintro e w2⟨v,rfl,hA,hm2⟩
  have e1:sh y x=y:=by unfold sh;rw[au hc]
  have e2:tm y x=(1,((y.text.length:Nat):Int)):=by unfold tm;rw[au hc]
  rw[e1,e2]
  rw[hp.bys]at hA
  exact⟨v,s,rfl,h.more hm2,hp,.inr (.inl ⟨_,rfl,hA,by omega,by have:=hp.sm;omega⟩)⟩
 |false=>
  obtain⟨ho,hO,pre,e,hg⟩:=hp.opn hc
  by_cases hf:(x.length:Int)≤y.limit-y.text.length
  ·have e1:sh y x={y with text:=y.text++x}:=by unfold sh;rw[ag (by rw[hc];simp),au hf]
   have e2:tm y x=(0,0):=by unfold tm;rw[ag (by rw[hc];simp),au hf]
   rw[e1,e2]
   refine(ziq hO x (by omega) (by rw[hp.lim];omega) (by rw[hp.lim];exact hl) B h).mono ?_
   rintro e w2⟨rfl,h2⟩
   exact⟨_,_,rfl,h2,zix w hp hc x hf hx,.inl ⟨rfl,rfl⟩⟩
  ·have hle:=hp.le
   obtain⟨k,hk⟩:∃k:Nat,y.limit-(y.text.length:Int)=k:=⟨(y.limit-(y.text.length:Int)).toNat,by omega⟩
   have e1:sh y x={y with text:=y.text++x.take k,closed:=true,over:=true}:=by unfold sh;rw[ag (by rw[hc];simp),ag hf,hk,Int.toNat_natCast]
   have e2:tm y x=(2,y.limit):=by unfold tm;rw[ag (by rw[hc];simp),ag hf]
   rw[e1,e2]
   refine(zce (fun W hk=>zky T hm hb hj W hk) hO x (k:=k) (by rw[hp.lim];omega) (by omega) (by omega) (by omega) B h).mono ?_
   rintro e w2⟨v,rfl,hA,h2⟩
   rw[hp.lim]at hA
   exact⟨v,_,rfl,h2,zf0 w hp hc x k (by omega) (by omega) (by omega),.inr (.inr ⟨_,rfl,hA,by omega,by omega⟩)⟩
def Bc(y:YS):Int×Int:=(if y.closed=true then 1 else 0,if y.closed=true then y.text.length else 0)
theorem zn1(T:Fy wB ac al)(hm:More wB w)(hb:∀k,k<wB.heap.size→o k=0)(hj:j≠0)(h:Tk w (fun k=>o k=j) bx s [] w)(hp:rz s y):
  Calls prog 22 #[.pointer (some ⟨bx,0,none⟩)] w fun e w'=>∃v s',e= .returned v∧Tk w (fun k=>o k=j) bx s' [] w'∧rz s' {y with closed:=true}∧ziy w' ac al v (Bc y):=by
 have B:=zdp (j:=j) T hm hb hj
 cases hc:y.closed with
 |true=>
  have E:=T.errs.more hm
  refine(Wm E (by rw[hp.cl];exact hc) h).mono ?_
  rintro e w2⟨v,rfl,hA,hm2⟩
  have e1:{y with closed:=true}=y:=by cases y;simp at hc;simp[hc]
  have e2:Bc y=(1,((y.text.length:Nat):Int)):=by unfold Bc;rw[au hc,au hc]
  rw[e1,e2]
  rw[hp.bys]at hA
  exact⟨v,s,rfl,h.more hm2,hp,.inr (.inl ⟨_,rfl,hA,by omega,by have:=hp.sm;omega⟩)⟩
 |false=>
  obtain⟨ho,hO,pre,e,hg⟩:=hp.opn hc
  have e2:Bc y=(0,0):=by unfold Bc;rw[ag (by rw[hc];simp),ag (by rw[hc];simp)]
  rw[e2]
  refine(zir hO (by have:=hp.sm;omega) B h).mono ?_
  rintro e w2⟨rfl,h2⟩
  exact⟨_,_,rfl,h2,zch hp hc,.inl ⟨rfl,rfl⟩⟩
end
end Go.Proofs.YtdfmapcnfficlaaGreatDoor.M
namespace Go.Proofs.YtdfmapcnfficlaaGreatDoor.M
open Go Go.RowKit Go.Proofs.YtdfmapcnfficlaaGreatDoor
structure K1(o:Nat→Nat)(w:World)(b:Nat)(cs:Array Value)(l:List Item)(W:World):Prop where
 obj:pm W (fun k=>up o w 1 k=1) b 68 cs l
 st:yg o 1 w W
section
variable{wB w w' W W1 W':World}{o:Nat→Nat}{b:Nat}{S:WS}{R:z5}{ex:List Item}{pa:Option (Sl×Nat×Str)}{pl:Option (Sl×Nat×Int)}{cs cs':Array Value}{l l':List Item}
theorem Cu{k j:Nat}(h:w.heap.size≤k):up o w j k=j:=ag (by omega)
theorem GE.k1(h:GE wB o b S R ex pa pl w):K1 o w b (p4 S R) (jj S R++ex) w:=by
 refine⟨?_,⟨rfl,rfl,rfl,cx _,fun _ _ _=>rfl⟩⟩
 have hR:=h.obj
 refine⟨hR.self,(uj hR.lt).trans hR.ownB,⟨hR.rows.ok,hR.rows.nodup,fun k hk=> ?_⟩⟩
 obtain⟨x,hx,hb⟩:=ez.1 hk
 exact⟨(uj (Item.lt (hR.rows.ok x hx) k hb)).trans (hR.rows.own k hk).1,(hR.rows.own k hk).2⟩
theorem K1.more(h:K1 o w b cs l W)(hm:More W W1):K1 o w b cs l W1:=
 ⟨h.obj.more hm,⟨hm.os.trans h.st.os,hm.tape.trans h.st.tape,hm.output.trans h.st.output,fz h.st.size hm.size,fun k hk hn=>(hm.block k (ei hk h.st.size)).trans (h.st.block k hk hn)⟩⟩
theorem K1.hup(h:K1 o w b cs l W):∀k,W.heap.size≤k→up o w 1 k=1:=fun k hk=>Cu (fz h.st.size hk)
theorem Je{k:Nat}(hk:k<w.heap.size)(h:up o w 1 k=1):o k=1:=(uj hk).symm.trans h
theorem K1.set(h:K1 o w b cs l W)(i:Nat)(v:Value)(hc:cs.setIfInBounds i v=cs'):K1 o w b cs' l (W.setCell ⟨b,i,none⟩ v):=
 ⟨h.obj.set i v hc,⟨h.st.os,h.st.tape,h.st.output,by simpa[World.setCell]using h.st.size,fun k hk hn=>(kj v (show k≠b from fun e=>hn (Je hk (by rw[e];exact h.obj.ownB)))).trans (h.st.block k hk hn)⟩⟩
theorem K1.grow(h:K1 o w b cs l W)(hm:More W W1)(l1 l2:List Item)(it it':Item)(e:l.Perm (l1++it::l2))(e':l'.Perm (l1++it'::l2))(hok:it'.ok W')
  (hg:W1.grownBy W' it.blk) (hf:it'.blk=it.blk∨∃g,it'.blk=some g∧W1.heap.size≤g) (i:Nat) (v:Value) (hc:cs.setIfInBounds i v=cs'):
  W'.heap[b]? =some (.cells cs 68 (0,0))∧K1 o w b cs' l' (W'.setCell ⟨b,i,none⟩ v):=by
 have hit:it∈l:=e.mem_iff.2 (by simp)
 refine⟨h.obj.mid hm hit hg,h.obj.grow hm h.hup l1 l2 it it' e e' hok hg hf i v hc,⟨hg.os.trans (hm.os.trans h.st.os),hg.tape.trans (hm.tape.trans h.st.tape),hg.output.trans (hm.output.trans h.st.output),?_,fun k hk hn=> ?_⟩⟩
 ·have:=h.st.size;have:=hm.size;have:=hg.size;simp[World.setCell];omega
 ·have hkW:k<W.heap.size:=ei hk h.st.size
  rw[kj v (show k≠b from fun e=>hn (Je hk (by rw[e];exact h.obj.ownB))),hg.block k (ei hkW hm.size) (fun e=>hn (Je hk (h.obj.qm hit k e.symm).1)),hm.block k hkW]
  exact h.st.block k hk hn
theorem K1.zdq(h:K1 o w b cs l W)(hm:More W W1)(l1 l2:List Item)(it it':Item)(e:l.Perm (l1++it::l2))(e':l'.Perm (l1++it'::l2))(hok:it'.ok W')
  (hg:W1.grownBy W' it.blk) (hf:it'.blk=it.blk∨∃g,it'.blk=some g∧W1.heap.size≤g):K1 o w b cs l' W':=by
 have hit:it∈l:=e.mem_iff.2 (by simp)
 have hself:=h.obj.mid hm hit hg
 have hI:Items W1 (fun k=>up o w 1 k=1∧k≠b) (l1++it::l2):=(h.obj.rows.perm e).kept fun k hk _=>hm.block k hk
 have hI':=hI.step hg hok hf (fun k hk=>⟨h.hup k (fz hm.size hk),fun e=>by have:=h.obj.lt;have:=hm.size;omega⟩)
 refine⟨⟨hself,h.obj.ownB,hI'.perm e'.symm⟩,⟨hg.os.trans (hm.os.trans h.st.os),hg.tape.trans (hm.tape.trans h.st.tape),hg.output.trans (hm.output.trans h.st.output),?_,fun k hk hn=> ?_⟩⟩
 ·have:=h.st.size;have:=hm.size;have:=hg.size;omega
 ·have hkW:k<W.heap.size:=ei hk h.st.size
  rw[hg.block k (ei hkW hm.size) (fun e=>hn (Je hk (h.obj.qm hit k e.symm).1)),hm.block k hkW]
  exact h.st.block k hk hn
theorem K1.Hs(h:K1 o w b cs l W)(l1 l2:List Item)(it:Item)(e:l.Perm (l1++it::l2)){g i:Nat}(ha:it.a=some ⟨g,0,none⟩)(hi:i<it.xs.length)(v:Value)(e':l'.Perm (l1++{it with xs:=it.xs.set i v}::l2)):
  K1 o w b cs l' (W.setCell ⟨g,i,none⟩ v):=by
 have hit:it∈l:=e.mem_iff.2 (by simp)
 have hgb:up o w 1 g=1∧g≠b:=h.obj.qm hit g (by simp[Item.blk,ha])
 have hI:=(h.obj.rows.perm e).set ha hi v
 refine⟨⟨(kj v (fun e=>hgb.2 e.symm)).trans h.obj.self,h.obj.ownB,hI.perm e'.symm⟩,⟨h.st.os,h.st.tape,h.st.output,by simpa[World.setCell]using h.st.size,fun k hk hn=>(kj v (show k≠g from fun e=>hn (Je hk (by rw[e];exact hgb.1)))).trans (h.st.block k hk hn)⟩⟩
theorem GE.back(h:GE wB o b S R ex pa pl w){S':WS}{R':z5}{ex':List Item}{pa':Option (Sl×Nat×Str)}{Sh:Option (Sl×Nat×Int)}(hk:K1 o w b (p4 S' R') (jj S' R'++ex') W)(hps:S'.ps=S.ps)
  (nl:List Value) (nm:List Int) (e1:S'.ls=S.ls++nl) (e2:S'.ms=S.ms++nm) (e3:nl.length=nm.length) (e4:∀(i:Nat)v m,nl[i]? =some v→nm[i]? =some m→PL Sh v m) (e5:∀v m,PL pl v m→PL Sh v m)
  (na:List Value) (nn:List Str) (f1:S'.ry=S.ry++na) (f2:S'.ns=S.ns++nn) (f3:na.length=nn.length) (f4:∀(i:Nat)v t,na[i]? =some v→nn[i]? =some t→PA pa' v t) (f5:∀v t,PA pa v t→PA pa' v t):
  GE wB (up o w 1) b S' R' ex' pa' Sh W:=by
 have hs:=hk.st
 refine⟨hs.more h.base (by omega) h.more,fun k hk=>(uj (ei hk h.more.size)).trans (h.base k hk),hk.obj,fun i p hp=> ?_,fun i p hp=> ?_,by rw[e1,e2,aq,aq,h.Wu,e3],fun i v m h1 h2=> ?_,by rw[f1,f2,aq,aq,h.Wv,f3],fun i v t h1 h2=> ?_⟩
 ·rw[hps]at hp;exact xm (h.x i p hp) hs (by omega)
 ·rw[hps]at hp
  obtain⟨h1,h2⟩:=h.y i p hp
  have hl:p.bY<w.heap.size:=(co.1 h1).1
  exact⟨(hs.block p.bY hl (by omega)).trans h1,(uj hl).trans h2⟩
 ·rw[e1]at h1
  rw[e2]at h2
  by_cases hi:i<S.ls.length
  ·rw[List.getElem?_append_left hi]at h1
   rw[List.getElem?_append_left (by rw[←h.Wu];exact hi)]at h2
   rcases h.ls i v m h1 h2 with z|z
   ·exact .inl (xb z hs (by omega))
   ·exact .inr (e5 v m z)
  ·rw[List.getElem?_append_right (by omega)]at h1
   rw[List.getElem?_append_right (by rw[←h.Wu];omega),←h.Wu]at h2
   exact .inr (e4 _ v m h1 h2)
 ·rw[f1]at h1
  rw[f2]at h2
  by_cases hi:i<S.ry.length
  ·rw[List.getElem?_append_left hi]at h1
   rw[List.getElem?_append_left (by rw[←h.Wv];exact hi)]at h2
   rcases h.ry i v t h1 h2 with z|z
   ·exact .inl (xc z hs (by omega))
   ·exact .inr (f5 v t z)
  ·rw[List.getElem?_append_right (by omega)]at h1
   rw[List.getElem?_append_right (by rw[←h.Wv];omega),←h.Wv]at h2
   exact .inr (f4 _ v t h1 h2)
end
section
variable{wB w w' W W1 W':World}{o:Nat→Nat}{b:Nat}{S:WS}{R:z5}{ex:List Item}{pa:Option (Sl×Nat×Str)}{pl:Option (Sl×Nat×Int)}
theorem Cv{a':Addr}{r:Sl}(hf:some a'.block=r.a.map (·.block)∨W1.heap.size≤a'.block)(T:TypeId)(z n cap:Nat)(xs ys:List Value)(c2:Nat)(n2:Nat):(Item.mk T z (some a') n cap xs).blk=(Item.mk T z r.a n2 c2 ys).blk∨∃g,(Item.mk T z (some a') n cap xs).blk=some g∧W1.heap.size≤g:=by
 rcases hf with hf|hf
 ·exact .inl (by simpa[Item.blk]using hf)
 ·exact .inr ⟨a'.block,rfl,hf⟩
theorem K1.attrs(h:K1 o w b (p4 S R) (jj S R++ex) W)(hm:More W W1)(v:Value)(a':Addr)(cap':Nat)
  (hown:W'.ownsRow 0 23 1 (.slice (some a') (S.ry.length+1) cap') (S.ry.length+1) (S.ry++[v])) (hg:W1.grownBy W' (R.attrs.a.map (·.block))) (hf:some a'.block=R.attrs.a.map (·.block)∨W1.heap.size≤a'.block):
  W'.heap[b]? =some (.cells (p4 S R) 68 (0,0))∧K1 o w b (p4 {S with ry:=S.ry++[v]} {R with attrs:=⟨some a',cap'⟩}) (jj {S with ry:=S.ry++[v]} {R with attrs:=⟨some a',cap'⟩}++ex) (W'.setCell ⟨b,3,none⟩ (.slice (some a') (S.ry.length+1) cap')):=by
 refine h.grow hm [zp R.all S.ps,vu 30 R.lists S.ls,ck R.marks S.ms] (lr R.notes S.ns::ex) (vu 23 R.attrs S.ry) ⟨23,1,some a',S.ry.length+1,cap',S.ry++[v]⟩ (by simp[jj]) (by simp[jj,vu]) hown hg (Cv hf _ _ _ _ _ _ _ _) 3 _ (by simp[p4])
theorem K1.notes(h:K1 o w b (p4 S R) (jj S R++ex) W)(hm:More W W1)(t:Str)(a':Addr)(cap':Nat)
  (hown:W'.ownsRow 0 9 1 (.slice (some a') (S.ns.length+1) cap') (S.ns.length+1) (S.ns.map str++[str t])) (hg:W1.grownBy W' (R.notes.a.map (·.block))) (hf:some a'.block=R.notes.a.map (·.block)∨W1.heap.size≤a'.block):
  W'.heap[b]? =some (.cells (p4 S R) 68 (0,0))∧K1 o w b (p4 {S with ns:=S.ns++[t]} {R with notes:=⟨some a',cap'⟩}) (jj {S with ns:=S.ns++[t]} {R with notes:=⟨some a',cap'⟩}++ex) (W'.setCell ⟨b,4,none⟩ (.slice (some a') (S.ns.length+1) cap')):=by
 refine h.grow hm [zp R.all S.ps,vu 30 R.lists S.ls,ck R.marks S.ms,vu 23 R.attrs S.ry] ex (lr R.notes S.ns) ⟨9,1,some a',S.ns.length+1,cap',S.ns.map str++[str t]⟩ (by simp[jj]) (by simp[jj,lr]) hown hg (Cv hf _ _ _ _ _ _ _ _) 4 _ (by simp[p4])
theorem K1.lists(h:K1 o w b (p4 S R) (jj S R++ex) W)(hm:More W W1)(v:Value)(a':Addr)(cap':Nat)
  (hown:W'.ownsRow 0 30 1 (.slice (some a') (S.ls.length+1) cap') (S.ls.length+1) (S.ls++[v])) (hg:W1.grownBy W' (R.lists.a.map (·.block))) (hf:some a'.block=R.lists.a.map (·.block)∨W1.heap.size≤a'.block):
  W'.heap[b]? =some (.cells (p4 S R) 68 (0,0))∧K1 o w b (p4 {S with ls:=S.ls++[v]} {R with lists:=⟨some a',cap'⟩}) (jj {S with ls:=S.ls++[v]} {R with lists:=⟨some a',cap'⟩}++ex) (W'.setCell ⟨b,1,none⟩ (.slice (some a') (S.ls.length+1) cap')):=by
 refine h.grow hm [zp R.all S.ps] (ck R.marks S.ms::vu 23 R.attrs S.ry::lr R.notes S.ns::ex) (vu 30 R.lists S.ls) ⟨30,1,some a',S.ls.length+1,cap',S.ls++[v]⟩ (by simp[jj]) (by simp[jj,vu]) hown hg (Cv hf _ _ _ _ _ _ _ _) 1 _ (by simp[p4])
theorem K1.marks(h:K1 o w b (p4 S R) (jj S R++ex) W)(hm:More W W1)(m:Int)(a':Addr)(cap':Nat)
  (hown:W'.ownsRow 0 3 1 (.slice (some a') (S.ms.length+1) cap') (S.ms.length+1) (S.ms.map (Value.int .i64)++[.int .i64 m])) (hg:W1.grownBy W' (R.marks.a.map (·.block))) (hf:some a'.block=R.marks.a.map (·.block)∨W1.heap.size≤a'.block):
  W'.heap[b]? =some (.cells (p4 S R) 68 (0,0))∧K1 o w b (p4 {S with ms:=S.ms++[m]} {R with marks:=⟨some a',cap'⟩}) (jj {S with ms:=S.ms++[m]} {R with marks:=⟨some a',cap'⟩}++ex) (W'.setCell ⟨b,2,none⟩ (.slice (some a') (S.ms.length+1) cap')):=by
 refine h.grow hm [zp R.all S.ps,vu 30 R.lists S.ls] (vu 23 R.attrs S.ry::lr R.notes S.ns::ex) (ck R.marks S.ms) ⟨3,1,some a',S.ms.length+1,cap',S.ms.map (Value.int .i64)++[Value.int .i64 m]⟩ (by simp[jj]) (by simp[jj,ck]) hown hg (Cv hf _ _ _ _ _ _ _ _) 2 _ (by simp[p4])
theorem zci{o':Nat→Nat}{i bx:Nat}{s:TS}(h:Tk w (fun k=>o k=i) bx s [] w)(ho:∀k,o k=i→o' k=i):Tk w (fun k=>o' k=i) bx s [] w:=by
 obtain⟨⟨R,hR⟩,hk⟩:=h
 have f:∀k,(o k=i∨w.heap.size≤k)→(o' k=i∨w.heap.size≤k):=fun k h=>h.elim (fun z=> .inl (ho k z)) .inr
 exact⟨⟨R,hR.self,f _ hR.ownB,⟨hR.rows.ok,hR.rows.nodup,fun k hk=>⟨f k (hR.rows.own k hk).1,(hR.rows.own k hk).2⟩⟩,hR.map,fun g hg=>⟨f g (hR.sj g hg).1,(hR.sj g hg).2⟩,hR.la,hR.lv,hR.lt⟩,Kept.refl _ _⟩
def to2(o:Nat→Nat)(g:Nat):Nat→Nat:=fun k=>if k=g then 2 else o k
theorem Ht{g k:Nat}(h:k≠g):to2 o g k=o k:=ag h
theorem Z8(g:Nat):to2 o g g=2:=au rfl
theorem GE.zlq{it:Item}(h:GE wB o b S R (it::ex) pa pl w){g:Nat}(ha:it.blk=some g){pa':Option (Sl×Nat×Str)}{Sh:Option (Sl×Nat×Int)}
  (h1:∀v m,PL pl v m→MkT (to2 o g) w v m∨PL Sh v m) (h2:∀v t,PA pa v t→MkS (to2 o g) w v t∨PA pa' v t):GE wB (to2 o g) b S R ex pa' Sh w:=by
 have hR:=h.obj
 have hP:(jj S R++it::ex).Perm (it::(jj S R++ex)):=List.perm_middle
 have hI:=hR.rows.perm hP
 have hog:o g=1∧g≠b:=hI.own g (by simp[ha])
 have hne:∀k,o k≠1→k≠g:=fun k hk e=>hk (by rw[e];exact hog.1)
 have hrest:∀k∈(jj S R++ex).filterMap Item.blk,k≠g:=by
  intro k hk e
  have hnd:=hI.nodup
  rw[List.filterMap_cons,ha]at hnd
  exact(List.nodup_cons.1 hnd).1 (e▸hk)
 refine⟨h.more,fun k hk=> ?_,⟨hR.self,?_,⟨fun x hx=>hI.ok x (by simp[hx]),?_,fun k hk=> ?_⟩⟩,fun i p hp=>zci (h.x i p hp) (fun k hk=> ?_),fun i p hp=> ?_,h.Wu,fun i v m k1 k2=> ?_,h.Wv,fun i v t k1 k2=> ?_⟩
 ·rw[Ht (hne k (by rw[h.base k hk];omega))];exact h.base k hk
 ·show to2 o g b=1
  rw[Ht (fun e=>hog.2 e.symm)];exact hR.ownB
 ·have hnd:=hI.nodup
  rw[List.filterMap_cons,ha]at hnd
  exact(List.nodup_cons.1 hnd).2
 ·have hk2:=hI.own k (by
   rw[List.filterMap_cons,ha]
   exact List.mem_cons_of_mem _ hk)
  exact⟨by show to2 o g k=1;rw[Ht (hrest k hk)];exact hk2.1,hk2.2⟩
 ·rw[Ht (hne k (by omega))];exact hk
 ·obtain⟨k1,k2⟩:=h.y i p hp
  exact⟨k1,by rw[Ht (hne p.bY (by omega))];exact k2⟩
 ·rcases h.ls i v m k1 k2 with z|z
  ·obtain⟨a,n,cap,e,hx,z⟩:=z
   exact .inl ⟨a,n,cap,e,hx,fun hn=>by
    obtain⟨g',e1,e2,e3,e4⟩:=z hn
    exact⟨g',e1,e2,by rw[Ht (hne g' (by omega))];exact e3,e4⟩⟩
  ·exact h1 v m z
 ·rcases h.ry i v t k1 k2 with z|z
  ·obtain⟨a,n,cap,e,hx,z⟩:=z
   exact .inl ⟨a,n,cap,e,hx,fun hn=>by
    obtain⟨g',e1,e2,e3,e4⟩:=z hn
    exact⟨g',e1,e2,by rw[Ht (hne g' (by omega))];exact e3,e4⟩⟩
  ·exact h2 v t z
theorem GE.drop{it:Item}(h:GE wB o b S R (it::ex) pa pl w){pa':Option (Sl×Nat×Str)}{Sh:Option (Sl×Nat×Int)}
  (h1:∀v m,PL pl v m→MkT o w v m∨PL Sh v m) (h2:∀v t,PA pa v t→MkS o w v t∨PA pa' v t):GE wB o b S R ex pa' Sh w:=by
 have hR:=h.obj
 have hP:(jj S R++it::ex).Perm ((jj S R++ex)++[it]):=by
  refine List.perm_middle.trans ?_
  exact(List.perm_append_singleton it (jj S R++ex)).symm
 refine⟨h.more,h.base,⟨hR.self,hR.ownB,hR.rows.less _ _ [] hP (by intro it hit;cases hit) (by rw[gq])⟩,h.x,h.y,h.Wu,fun i v m k1 k2=> ?_,h.Wv,fun i v t k1 k2=> ?_⟩
 ·rcases h.ls i v m k1 k2 with z|z
  ·exact .inl z
  ·exact h1 v m z
 ·rcases h.ry i v t k1 k2 with z|z
  ·exact .inl z
  ·exact h2 v t z
theorem GE.zdr{x:Sl}{N:Nat}{t:Str}(h:GE wB o b S R (lr x (List.replicate N t)::ex) (some (x,N,t)) pl w):∃o',GE wB o' b S R ex none pl w:=by
 have hok:(lr x (List.replicate N t)).ok w:=h.obj.ok (by simp)
 have hNm:N≤maxLen:=by have:=Wj hok;simpa[lr]using this
 by_cases hN:N=0
 ·refine⟨o,h.drop (fun v m z=> .inr z) (fun v u z=> ?_)⟩
  obtain⟨x',N',e,m,cap,rfl,hm⟩:=z
  injection e with e
  injection e with e1 e2
  injection e2 with e2 e3
  exact .inl ⟨_,m,cap,rfl,by unfold maxLen;omega,fun hpos=>by omega⟩
 ·obtain⟨g,hg,hgl,_⟩:=Fx hok (show(List.replicate N t).length≠0 by simpa using hN)
  have hg':x.a=some ⟨g,0,none⟩:=hg
  refine⟨to2 o g,h.zlq (g:=g) (by simp[lr,Item.blk,hg']) (fun v m z=> .inr z) (fun v u z=> ?_)⟩
  obtain⟨x',N',e,m,cap,rfl,hm⟩:=z
  injection e with e
  injection e with e1 e2
  injection e2 with e2 e3
  subst e1 e2 e3
  refine .inl ⟨_,m,cap,rfl,fz hm hNm,fun _=>⟨g,hg',hgl,Z8 g,fun k hk=> ?_⟩⟩
  exact ve hok hg k _ (by show((List.replicate N t).map str)[k]? =some _;rw[List.getElem?_map,List.getElem?_replicate,au (by omega)];rfl)
theorem GE.ziz(h:GE wB o b S R ex pa pl w)(hm:More w W'){it:Item}(hok:it.ok W'){g:Nat}(ha:it.blk=some g)(hg:w.heap.size≤g){pa':Option (Sl×Nat×Str)}{Sh:Option (Sl×Nat×Int)}
  (h1:∀v m,PL pl v m→PL Sh v m) (h2:∀v t,PA pa v t→PA pa' v t):GE wB (up o w 1) b S R (it::ex) pa' Sh W':=by
 have k:=h.k1.more hm
 have hP:(jj S R++it::ex).Perm (it::(jj S R++ex)):=List.perm_middle
 have hgl:=Item.lt hok g ha
 have hlt:∀x∈jj S R++ex,∀k,x.blk=some k→k<w.heap.size:=fun x hx k hk=>Item.lt (h.obj.ok hx) k hk
 refine h.back (S':=S) (R':=R) (ex':=it::ex) (pa':=pa') (Sh:=Sh) ⟨⟨k.obj.self,k.obj.ownB,Items.perm ⟨?_,?_,?_⟩ hP.symm⟩,k.st⟩ rfl [] [] (by simp) (by simp) rfl (by simp) h1 [] [] (by simp) (by simp) rfl (by simp) h2
 ·intro x hx
  rcases List.mem_cons.1 hx with e|e
  ·rw[e];exact hok
  ·exact k.obj.rows.ok x e
 ·rw[List.filterMap_cons,ha]
  refine List.nodup_cons.2 ⟨fun hk=> ?_,k.obj.rows.nodup⟩
  obtain⟨x,hx,hb⟩:=ez.1 hk
  have:=hlt x hx g hb;omega
 ·intro j hj
  rw[List.filterMap_cons,ha]at hj
  rcases List.mem_cons.1 hj with e|e
  ·rw[e];exact⟨Cu hg,fun e=>by have:=h.obj.lt;omega⟩
  ·exact k.obj.rows.own j e
theorem row_zero{it:Item}(h:it.ok W){a:Addr}(ha:it.a=some a):∃g,a=⟨g,0,none⟩:=by
 rcases h.2 with⟨hv,_⟩|⟨g,cap,cur,hv,_⟩
 ·injection hv with e1;rw[ha]at e1;cases e1
 ·injection hv with e1;rw[ha]at e1;injection e1 with e1;exact⟨g,e1⟩
theorem GE.zqb{x:Sl}{N:Nat}{t:Str}(h:GE wB o b S R (lr x (List.replicate N t)::ex) (some (x,N,t)) pl w)(hm:More w W1)(a':Addr)(cap':Nat)
  (hown:W'.ownsRow 0 9 1 (.slice (some a') (N+1) cap') (N+1) ((List.replicate N t).map str++[str t])) (hg:W1.grownBy W' (x.a.map (·.block))) (hf:some a'.block=x.a.map (·.block)∨(W1.heap.size≤a'.block∧More W1 W')):
  ∃o',GE wB o' b S R (lr ⟨some a',cap'⟩ (List.replicate (N+1) t)::ex) (some (⟨some a',cap'⟩,N+1,t)) pl W':=by
 have eI:lr ⟨some a',cap'⟩ (List.replicate (N+1) t)=⟨9,1,some a',N+1,cap',(List.replicate N t).map str++[str t]⟩:=by
  simp[lr,List.replicate_succ']
 have hok':(lr ⟨some a',cap'⟩ (List.replicate (N+1) t)).ok W':=by rw[eI];exact hown
 rcases hf with hf|⟨hf,hm2⟩
 ·have hok:(lr x (List.replicate N t)).ok w:=h.obj.ok (by simp)
  have k:=h.k1.zdq (l':=jj S R++lr ⟨some a',cap'⟩ (List.replicate (N+1) t)::ex) hm (jj S R) ex (lr x (List.replicate N t)) (lr ⟨some a',cap'⟩ (List.replicate (N+1) t)) (List.Perm.refl _) (List.Perm.refl _) hok' hg (.inl (by simpa[lr,Item.blk]using hf))
  refine⟨_,h.back (S':=S) (R':=R) k rfl [] [] (by simp) (by simp) rfl (by simp) (fun v m z=>z) [] [] (by simp) (by simp) rfl (by simp) (fun v u z=> ?_)⟩
  obtain⟨x',N',e,m,cap,rfl,hm⟩:=z
  injection e with e
  injection e with e1 e2
  injection e2 with e2 e3
  subst e1 e2 e3
  obtain⟨g',ea⟩:=row_zero (a:=a') hok' rfl
  have exa:x.a=some a':=by
   cases hx:x.a with
   |none=>rw[hx]at hf;cases hf
   |some a0=>
    obtain⟨g0,e0⟩:=row_zero (a:=a0) hok hx
    rw[hx]at hf
    simp only[Option.map_some,Option.some.injEq]at hf
    rw[e0,ea]at hf⊢
    simp only at hf
    rw[hf]
  exact⟨_,_,rfl,m,cap,by rw[exa],by omega⟩
 ·obtain⟨o1,h1⟩:=h.zdr
  exact⟨_,h1.ziz (hm.tr hm2) hok' rfl (fz hm.size hf) (fun v m z=>z) (fun v u z=>absurd z Ai)⟩
def xn(r:Sl)(N:Nat)(m:Int):Item:=rq r (List.replicate N {kind:=m}) (List.replicate N ⟨none,0⟩)
theorem zcj(m:Int):∀(N k:Nat),k<N→(eh (List.replicate N {kind:=m}) (List.replicate N ⟨none,0⟩))[k*6]? =some (.int .i64 m):=by
 intro N k hk
 have:=yf (List.replicate N {kind:=m}) (List.replicate N ⟨none,0⟩) k {kind:=m} ⟨none,0⟩ (by rw[List.getElem?_replicate,au hk]) (by rw[List.getElem?_replicate,au hk]) 0 (by omega)
 rw[Nat.add_zero]at this
 rw[this];rfl
theorem GE.zds{x:Sl}{N:Nat}{t:Int}(h:GE wB o b S R (xn x N t::ex) pa (some (x,N,t)) w):∃o',GE wB o' b S R ex pa none w:=by
 have hok:(xn x N t).ok w:=h.obj.ok (by simp)
 have hNm:N≤maxLen:=by have:=Wj hok;simpa[xn,rq]using this
 by_cases hN:N=0
 ·refine⟨o,h.drop (fun v u z=> ?_) (fun v m z=> .inr z)⟩
  obtain⟨x',N',e,m,cap,rfl,hm⟩:=z
  injection e with e
  injection e with e1 e2
  injection e2 with e2 e3
  exact .inl ⟨_,m,cap,rfl,by unfold maxLen;omega,fun hpos=>by omega⟩
 ·obtain⟨g,hg,hgl,_⟩:=Fx hok (show(List.replicate N ({kind:=t}:Tok)).length≠0 by simpa using hN)
  have hg':x.a=some ⟨g,0,none⟩:=hg
  refine⟨to2 o g,h.zlq (g:=g) (by simp[xn,rq,Item.blk,hg']) (fun v u z=> ?_) (fun v m z=> .inr z)⟩
  obtain⟨x',N',e,m,cap,rfl,hm⟩:=z
  injection e with e
  injection e with e1 e2
  injection e2 with e2 e3
  subst e1 e2 e3
  refine .inl ⟨_,m,cap,rfl,fz hm hNm,fun _=>⟨g,hg',hgl,Z8 g,fun k hk=> ?_⟩⟩
  exact ve hok hg (k*6) _ (zcj t N k (by omega))
theorem zck(a':Addr)(cap' N:Nat)(m:Int):xn ⟨some a',cap'⟩ (N+1) m=⟨34,6,some a',N+1,cap',eh (List.replicate N {kind:=m}) (List.replicate N ⟨none,0⟩)++fq {kind:=m} ⟨none,0⟩⟩:=by
 unfold xn rq
 rw[List.replicate_succ',List.replicate_succ',ul _ _ _ _ (by simp)]
 simp
theorem GE.zqc{x:Sl}{N:Nat}{t:Int}(h:GE wB o b S R (xn x N t::ex) pa (some (x,N,t)) w)(hm:More w W1)(a':Addr)(cap':Nat)
  (hown:W'.ownsRow 0 34 6 (.slice (some a') (N+1) cap') (N+1) (eh (List.replicate N {kind:=t}) (List.replicate N ⟨none,0⟩)++fq {kind:=t} ⟨none,0⟩)) (hg:W1.grownBy W' (x.a.map (·.block))) (hf:some a'.block=x.a.map (·.block)∨(W1.heap.size≤a'.block∧More W1 W')):
  ∃o',GE wB o' b S R (xn ⟨some a',cap'⟩ (N+1) t::ex) pa (some (⟨some a',cap'⟩,N+1,t)) W':=by
 have hok':(xn ⟨some a',cap'⟩ (N+1) t).ok W':=by rw[zck];exact hown
 rcases hf with hf|⟨hf,hm2⟩
 ·have hok:(xn x N t).ok w:=h.obj.ok (by simp)
  have k:=h.k1.zdq (l':=jj S R++xn ⟨some a',cap'⟩ (N+1) t::ex) hm (jj S R) ex (xn x N t) (xn ⟨some a',cap'⟩ (N+1) t) (List.Perm.refl _) (List.Perm.refl _) hok' hg (.inl (by simpa[xn,rq,Item.blk]using hf))
  refine⟨_,h.back (S':=S) (R':=R) k rfl [] [] (by simp) (by simp) rfl (by simp) (fun v u z=> ?_) [] [] (by simp) (by simp) rfl (by simp) (fun v m z=>z)⟩
  obtain⟨x',N',e,m,cap,rfl,hm⟩:=z
  injection e with e
  injection e with e1 e2
  injection e2 with e2 e3
  subst e1 e2 e3
  obtain⟨g',ea⟩:=row_zero (a:=a') hok' rfl
  have exa:x.a=some a':=by
   cases hx:x.a with
   |none=>rw[hx]at hf;cases hf
   |some a0=>
    obtain⟨g0,e0⟩:=row_zero (a:=a0) hok hx
    rw[hx]at hf
    simp only[Option.map_some,Option.some.injEq]at hf
    rw[e0,ea]at hf⊢
    simp only at hf
    rw[hf]
  exact⟨_,_,rfl,m,cap,by rw[exa],by omega⟩
 ·obtain⟨o1,h1⟩:=h.zds
  exact⟨_,h1.ziz (hm.tr hm2) hok' rfl (fz hm.size hf) (fun v m z=>absurd z Aj) (fun v u z=>z)⟩
end
end Go.Proofs.YtdfmapcnfficlaaGreatDoor.M

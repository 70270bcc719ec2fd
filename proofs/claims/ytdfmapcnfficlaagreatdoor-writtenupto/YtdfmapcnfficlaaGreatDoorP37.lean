import Derived.Test.YtdfmapcnfficlaaGreatDoorP36
set_option linter.all false
namespace Go.Proofs.YtdfmapcnfficlaaGreatDoor.Si
open Go Go.RowKit
variable{s:TS}{m:M.MS}{c:Int}{d:Int}{n:Nat}{p:List Int}{a:Bool}
theorem zh3(s:TS)(q:Int)(h:s.state=q):{s with state:=q}=s:=by subst h;rfl
theorem zdg(m:M.MS)(q:Nat)(h:m.state=q):M.st m q=m:=by subst h;rfl
theorem RC.rel(h:RC d s m n)(hn:m.pos=n)(hs:s.state=s.ev)(hm:m.state=m.back):Rel d s m:=by
 subst hn
 have k:=h.back
 rwa[zh3 s _ hs,zdg m _ hm]at k
theorem RC.zlo(h:RC d s m n)(hn:m.pos=n)(hs:s.state=33)(hm:m.state=33):Rel d s m:=by
 subst hn
 have k:=h.unknown
 rwa[zh3 s _ hs,zdg m _ hm]at k
def Waits(q:List Int):Prop:=∃x∈om,q<+:M.n8 x.1∧q≠M.n8 x.1
def RS(a:Bool)(s:TS)(m:M.MS)(p:List Int):Prop:=
 (s.state=31∧p=[]∧s.di=[]∧s.l9=false∧s.nb=false∧s.jx=0)∨
 (s.state=32∧s.di=M.jk p∧((p=[]∧a=true∧Zo (M.ahead m 0))∨(p≠[]∧Waits p)))∨
 (s.state=34∧p=[35]∧s.di=[35]∧s.l9=false∧s.nb=false∧s.jx=0)∨
 (s.state=35∧p.head? =some 35∧s.l9=M.vf m∧s.di=M.jk (p.take (M.o9 m))∧M.o9 m≤p.length∧s.nb=decide (M.o9 m<p.length)∧0≤s.jx∧
  ∃g,M.pe m=M.digits m (M.vf m) g p.length (M.cap s.jx)∧m.l.length+1≤g+p.length)
def PR(d:Int)(a:Bool)(s:TS)(m:M.MS)(p:List Int):Prop:=zpg d s m p∧s9 p∧RS a s m p
def May(q:List Int):Prop:=(q<+:[45,45]∧q≠[45,45])∨(q.map lw<+:M.n8 [100,111,99,116,121,112,101]∧q.map lw≠M.n8 [100,111,99,116,121,112,101])∨(q<+:M.n8 [91,67,68,65,84,65,91]∧q≠M.n8 [91,67,68,65,84,65,91])
def PD(d:Int)(s:TS)(m:M.MS)(p:List Int):Prop:=zlm d s m p∧s9 p∧s.state=18∧s.declared=M.jk p∧(p=[]∨May p)
def RelA(d:Int)(a:Bool)(s:TS)(m:M.MS):Prop:=Rel d s m∨(∃p,PR d a s m p)∨(∃p,PD d s m p)
def V8(r:Int×TS)(m:M.MS):Prop:=(r.1=0∧RelA 1 false r.2 m)∨(r.1=1∧RelA 0 true r.2 m)
theorem zkl.all(h:zkl d s m)(a:Bool):RelA d a s m:=by
 rcases h with h|⟨h1,h2,h3⟩|⟨h1,h2,h3⟩
 ·exact .inl h
 ·exact .inr (.inl ⟨[],h2,s9.nil,.inl ⟨h1,rfl,h3⟩⟩)
 ·exact .inr (.inr ⟨[],h2,s9.nil,h1,h3,.inl rfl⟩)
theorem vb.all{r:Int×TS}(h:vb r m):V8 r m:=by
 rcases h with⟨h1,h2⟩|⟨h1,h2⟩
 ·exact .inl ⟨h1,h2.all _⟩
 ·exact .inr ⟨h1,h2.all _⟩
structure Nx(m:M.MS)(k:Nat)(c:Int):Prop where
 ah:M.ahead m k=c
 cs:Sc c∨(c= -1∧m.whole=true)
theorem Nx.rn(h:Nx m n c): -1≤c∧c≤1114111:=by
 rcases h.cs with h|h
 ·have:=h.1;have:=h.2.1;omega
 ·omega
theorem Nx.live(h:Nx m n c):¬(M.ahead m n<0∧m.whole=false):=by
 rintro⟨h1,h2⟩
 rw[h.ah]at h1
 rcases h.cs with k|k
 ·have:=k.1;omega
 ·rw[k.2]at h2;cases h2
theorem Ap(h:(m.l.drop m.pos).take p.length=p)(hn:M.ahead m p.length=c)(hc:0≤c):(m.l.drop m.pos).take (p++[c]).length=p++[c]:=by
 unfold M.ahead at hn
 cases e:m.l[m.pos+p.length]? with
 |none=>rw[e]at hn;simp at hn;omega
 |some x=>
  rw[e]at hn;simp at hn;subst hn
  rw[aq,List.length_singleton,List.take_add_one,h,List.getElem?_drop,e];rfl
theorem wu(h:(m.l.drop m.pos).take p.length=p){k:Nat}{x:Int}(hk:p[k]? =some x):M.ahead m k=x:=by
 have hlt:k<p.length:=(cd.1 hk).1
 rw[←h,List.getElem?_take,au hlt,List.getElem?_drop]at hk
 unfold M.ahead;rw[hk];rfl
theorem Cq(m:M.MS)(x y:List Int):M.give (M.give m x) y=M.give m (x++y):=by
 unfold M.give M.td;split<;>simp_all
theorem zb0(m:M.MS)(x:List Int):(M.give m x).state=m.state∧(M.give m x).back=m.back∧(M.give m x).pos=m.pos∧(M.give m x).l=m.l∧(M.give m x).whole=m.whole:=by
 unfold M.give;split<;>simp
theorem zm5(h:Rel 0 s m)(hq:m.state=33)(hc:Sc c):vb (bm s c) (M.look m c):=by
 have hs:s.state=33:=by rw[h.st,hq];rfl
 have e1:bm s c=gp s c:=by simp[bm,hs]
 have e2:M.look m c=M.En m c:=by simp[M.look,hq]
 have r:=h.rc33 hq
 rw[e1,e2]
 unfold gp M.En
 by_cases a1:br c=true∨fc c=true
 ·rw[au a1,au a1]
  obtain⟨k1,⟨tx,tg,k2⟩,tx2,vl,k3⟩:=r.give (s9.one hc)
  have e3:Lib.encodeRune c=M.jk [c]:=by simp[gw hc]
  rw[e3]
  refine .inl ⟨rfl,.inl ?_⟩
  have k4:=k1.pos (m.pos+1)
  rw[k2]at k4⊢
  rw[k3]at k4⊢
  obtain⟨h1,h2,h3,h4,h5,h6,h7,h8,h9,h10,h11,h12⟩:=k4
  exact RC.zlo (n:=m.pos+1) ⟨h1,h2,h3,h4,by simp at h5⊢;omega,h6,h7,h8,h9,h10,h11,h12⟩ rfl hs hq
 ·rw[ag a1,ag a1]
  by_cases a2:c=59
  ·rw[au a2,au a2]
   have e4:wrong s [117,110,107,110,111,119,110]=bz s [117,110,107,110,111,119,110] m.pos:=by unfold wrong;rw[show s.place=m.pos from by have:=h.place;omega]
   refine .inr ⟨rfl,.inl ?_⟩
   rw[e4]
   exact(r.wrong [117,110,107,110,111,119,110] m.pos).back
  ·rw[ag a2,ag a2]
   exact .inr ⟨rfl,.inl r.back⟩
theorem zm6(h:PR 0 a s m p)(hs:s.state=31)(hx:Nx m p.length c):∃i m',i≤9∧Steps i m m'∧V8 (bm s c) m':=by
 obtain⟨hr,hp,hS⟩:=h
 rcases hS with⟨_,rfl,q1,q2,q3,q4⟩|⟨z,_⟩|⟨z,_⟩|⟨z,_⟩
 rotate_left
 ·omega
 ·omega
 ·omega
 have e1:bm s c=np s c:=by simp[bm,hs]
 have ha:M.ahead m 0=c:=hx.ah
 rw[e1];unfold np
 by_cases a1:br c=true∨fc c=true
 ·rw[au a1]
  refine⟨0,m,by omega,rfl,.inr ⟨rfl,.inr (.inl ⟨[],⟨hr.rc.inner 32 s.di s.l9 s.nb s.jx,hr.st,hr.list⟩,s9.nil,.inr (.inl ⟨rfl,q1,.inl ⟨rfl,rfl,?_⟩⟩)⟩)⟩⟩
  rw[ha];exact a1
 ·rw[ag a1]
  by_cases a2:c=35
  ·rw[au a2]
   subst a2
   have hl:=Ap hr.list ha (by omega)
   have k:=hr.rc.inner 34 [35] s.l9 s.nb s.jx
   obtain⟨h1,h2,h3,h4,h5,h6,h7,h8,h9,h10,h11,h12⟩:=k
   refine⟨0,m,by omega,rfl,.inl ⟨rfl,.inr (.inl ⟨[35],⟨⟨h1,h2,h3,h4,by simp[mv]at h5⊢;omega,h6,h7,h8,h9,h10,h11,h12⟩,hr.st,hl⟩,s9.one (by unfold Sc;omega),.inr (.inr (.inl ⟨rfl,rfl,rfl,q2,q3,q4⟩))⟩)⟩⟩
  ·rw[ag a2]
   have hst:M.step m=some (M.st (M.give m [38]) m.back):=by
    unfold M.step M.reference
    rw[au hr.st,ag (show ¬(M.ahead m 0<0∧m.whole=false)from hx.live),ha,ag a2,au (by simpa using a1)]
   refine⟨1,_,by omega,Steps.one hst,.inr ⟨rfl,.inl ?_⟩⟩
   unfold kc
   rw[q1]
   have e3:([38]++[]:Str)=M.jk [38]:=by simp[u38]
   rw[e3]
   obtain⟨k1,⟨tx,tg,k2⟩,tx2,vl,k3⟩:=hr.rc.give (s9.one Mu)
   rw[k2]at k1⊢
   rw[k3]at k1⊢
   exact RC.back k1
theorem zko(six:Bool)(c:Int)(h: -1≤c):(wj six c=true→M.Q0 six c=wi c∧0≤wi c)∧(wj six c=false→M.Q0 six c<0):=by
 unfold wj M.Q0 wi fc lw
 cases six
 ·simp;constructor<;>intro h1<;>(repeat' split)<;>omega
 ·simp;constructor<;>intro h1<;>(repeat' split)<;>(repeat' split at h1)<;>simp_all<;>omega
theorem zfd(x:Int)(b d:Int)(hb:b=10∨b=16)(hd:0≤d)(h0:0≤x):M.cap (b*M.cap x+d)=M.cap (if 1114111<x then x else x*b+d):=by
 unfold M.cap
 rcases hb with rfl|rfl<;>(repeat' split)<;>omega
theorem Fp(m:M.MS)(six:Bool)(g k:Nat)(x:Int)(h:M.Q0 six (M.ahead m k)<0):M.digits m six g k x=(k,x):=by
 cases g with
 |zero=>rfl
 |succ g=>rw[M.digits,au h]
theorem zfe(m:M.MS)(six:Bool)(g k:Nat)(x:Int)(h:¬M.Q0 six (M.ahead m k)<0):M.digits m six (g+1) k x=M.digits m six g (k+1) (M.cap ((if six=true then 16 else 10)*x+M.Q0 six (M.ahead m k))):=by
 rw[M.digits,ag h]
theorem Tm:∀k:Fin 32,0≤yo.getD k.1 0∧yo.getD k.1 0<55296:=by decide
theorem zff(x:Int)(h:0≤x):meaning x=M.meant (M.cap x):=by
 unfold M.cap
 by_cases a:1114112<x
 ·rw[au a];unfold meaning M.meant
  rw[ag (by omega),au (by omega),ag (by omega),au (by omega)]
 ·rw[ag a]
  unfold meaning M.meant
  by_cases b:x=0
  ·rw[au b,au b]
  rw[ag b,ag b]
  by_cases b2:1114111<x
  ·rw[au b2,au b2]
  rw[ag b2,ag b2]
  by_cases b3:55296≤x∧x≤57343
  ·rw[au (by simpa[Ei]using b3),au b3]
  rw[ag (by simpa[Ei]using b3),ag b3]
  by_cases b4:(64976≤x∧x≤65007)∨65534≤x%65536
  ·rw[au (by simpa[Bj]using b4),au b4]
  rw[ag (by simpa[Bj]using b4),ag b4]
  have e:(Av x=true)↔((1≤x∧x≤31∧x≠9∧x≠10∧x≠12)∨(127≤x∧x≤159)):=by
   unfold Av ba;simp;omega
  by_cases b5:(1≤x∧x≤31∧x≠9∧x≠10∧x≠12)∨(127≤x∧x≤159)
  ·rw[au (e.2 b5),au b5]
   unfold zam
   by_cases b6:128≤x
   ·have w:=Tm ⟨(x-128).toNat,by omega⟩
    have w1:0≤yo.getD (x-128).toNat 0:=w.1
    by_cases b7:yo.getD (x-128).toNat 0=0
    ·rw[ag (by intro z;exact z.2 b7),ag (by rw[b7];omega)]
    ·rw[au ⟨b6,b7⟩,au ⟨b6,by omega⟩]
   ·rw[ag (by omega),ag (by omega)]
  ·rw[ag (by rw[e];exact b5),ag b5]
theorem zh4(x:Int)(h:0≤x):Sc (M.meant x).1:=by
 unfold M.meant
 by_cases b:x=0
 ·rw[au b];unfold Sc;omega
 rw[ag b]
 by_cases b2:1114111<x
 ·rw[au b2];unfold Sc;omega
 rw[ag b2]
 by_cases b3:55296≤x∧x≤57343
 ·rw[au b3];unfold Sc;omega
 rw[ag b3]
 split
 ·unfold Sc;simp;omega
 ·split
  ·next b5=>
   split
   ·next b6=>
    have w:=Tm ⟨(x-128).toNat,by omega⟩
    have w2:yo.getD (x-128).toNat 0<55296:=w.2
    have w1:0≤yo.getD (x-128).toNat 0:=w.1
    unfold Sc
    show 0≤yo.getD (x-128).toNat 0∧yo.getD (x-128).toNat 0≤1114111∧_
    omega
   ·unfold Sc;simp;omega
  ·unfold Sc;simp;omega
variable{s:TS}{m:M.MS}{c:Int}{d:Int}{n:Nat}{p:List Int}{a:Bool}
theorem zm7(h:PR 0 a s m p)(hs:s.state=34)(hx:Nx m p.length c):∃i m',i≤9∧Steps i m m'∧V8 (bm s c) m':=by
 obtain⟨hr,hp,hS⟩:=h
 rcases hS with⟨z,_⟩|⟨z,_⟩|⟨_,rfl,q1,q2,q3,q4⟩|⟨z,_⟩
 ·omega
 ·omega
 rotate_left
 ·omega
 have e1:bm s c=lc s c:=by simp[bm,hs]
 have ha:M.ahead m 1=c:=hx.ah
 rw[e1];unfold lc
 by_cases a1:c=120∨c=88
 ·rw[au a1]
  have hc:Sc c:=by unfold Sc;omega
  have six:M.vf m=true:=by unfold M.vf;rw[ha];rcases a1 with z|z<;>rw[z]<;>rfl
  have fd:M.o9 m=2:=by unfold M.o9;rw[au six]
  have hl:=Ap hr.list ha (by omega)
  have k:=hr.rc.inner 35 (s.di++Lib.encodeRune c) true s.nb s.jx
  obtain⟨h1,h2,h3,h4,h5,h6,h7,h8,h9,h10,h11,h12⟩:=k
  refine⟨0,m,by omega,rfl,.inl ⟨rfl,.inr (.inl ⟨[35,c],⟨⟨h1,h2,h3,h4,by simp[mv]at h5⊢;omega,h6,h7,h8,h9,h10,h11,h12⟩,hr.st,hl⟩,hp.cat (s9.one hc),.inr (.inr (.inr ⟨rfl,rfl,six.symm,?_,by rw[fd];simp,?_,?_,m.l.length+1,?_,by simp⟩))⟩)⟩⟩
  ·rw[fd];simp[mv,q1,gw hc,show M.utf 35=[35]from by decide]
  ·rw[fd];simpa[mv]using q3
  ·simp[mv,q4]
  ·unfold M.pe;rw[fd,show M.cap (mv s (s.di++Lib.encodeRune c)).jx=0 from by simp[mv,q4,M.cap]];rfl
 ·rw[ag a1]
  have six:M.vf m=false:=by unfold M.vf;rw[ha];simp;omega
  have fd:M.o9 m=1:=by unfold M.o9;rw[six];rfl
  refine⟨0,m,by omega,rfl,.inr ⟨rfl,.inr (.inl ⟨[35],⟨hr.rc.inner 35 s.di s.l9 s.nb s.jx,hr.st,hr.list⟩,hp,.inr (.inr (.inr ⟨rfl,rfl,?_,?_,by rw[fd];simp,?_,?_,m.l.length+1,?_,by simp⟩))⟩)⟩⟩
  ·rw[six];exact q2
  ·rw[fd];simp[q1,show M.utf 35=[35]from by decide]
  ·rw[fd];simpa using q3
  ·show 0≤s.jx;rw[q4];omega
  ·unfold M.pe;rw[fd,show M.cap ({s with state:=35}:TS).jx=0 from by simp[q4,M.cap]];rfl
theorem zh5(hr:RC d s m n){x:Int}(h0:0≤x)(hx:s.jx=x)(q:Int)(hq:q=m.pos):
  RC d (ji s q) (M.give (M.meaning m (M.cap x)) [(M.meant (M.cap x)).1]) n∧(ji s q).ev=s.ev∧(M.give (M.meaning m (M.cap x)) [(M.meant (M.cap x)).1]).pos=m.pos∧(M.give (M.meaning m (M.cap x)) [(M.meant (M.cap x)).1]).state=m.state∧(M.give (M.meaning m (M.cap x)) [(M.meant (M.cap x)).1]).back=m.back:=by
 have c0:0≤M.cap x:=by unfold M.cap;split<;>omega
 have e:=zff x h0
 have sc:=zh4 (M.cap x) c0
 unfold ji M.meaning
 rw[hx,e]
 have eu:Lib.encodeRune (M.meant (M.cap x)).1=M.jk [(M.meant (M.cap x)).1]:=by simp[gw sc]
 rw[eu]
 by_cases z:(M.meant (M.cap x)).2=[]
 ·rw[au z,au z]
  obtain⟨k1,⟨tx,tg,k2⟩,tx2,vl,k3⟩:=hr.give (s9.one sc)
  refine⟨k1,?_,?_,?_,?_⟩
  ·rw[k2]
  ·rw[k3]
  ·rw[k3]
  ·rw[k3]
 ·rw[ag z,ag z]
  have hw:=hr.wrong (M.meant (M.cap x)).2 q
  obtain⟨k1,⟨tx,tg,k2⟩,tx2,vl,k3⟩:=hw.give (s9.one sc)
  have em:M.err m (M.meant (M.cap x)).2=M.wrong m (M.meant (M.cap x)).2 q:=by unfold M.err;rw[hq]
  rw[em]
  refine⟨k1,?_,?_,?_,?_⟩
  ·rw[k2];rfl
  ·rw[k3];rfl
  ·rw[k3];rfl
  ·rw[k3];rfl
theorem I5(s:TS)(q q2:Int)(hs:RC d (ji s q) m n):RC d {ji s q with state:=q2} m n:=by
 obtain⟨h1,h2,h3,h4,h5,h6,h7,h8,h9,h10,h11,h12⟩:=hs
 exact⟨h1,h2,h3,h4,h5,h6,h7,h8,h9,h10,h11,h12⟩
theorem RC.at(h:RC d s m n){e:Int}{k:Nat}(hk:s.place+e=k):RC e s m k:=by
 obtain⟨h1,h2,h3,h4,h5,h6,h7,h8,h9,h10,h11,h12⟩:=h
 exact⟨h1,h2,h3,h4,hk,h6,h7,h8,h9,h10,h11,h12⟩
theorem D3(s:TS)(q:Int):(ji s q).place=s.place:=by
 have:∀(t:ByteArray)(f k:Nat)(s:TS),(lh t f k s).place=s.place:=by
  intro t f
  induction f with
  |zero=>intro k s;rfl
  |succ f ih=>
   intro k s;rw[lh];split
   ·rw[ih];rfl
   ·rfl
 unfold ji cn
 split<;>split<;>first|rfl|(rw[this];rfl)|rw[this]
theorem zm8(h:PR 0 a s m p)(hs:s.state=35)(hx:Nx m p.length c):∃i m',i≤9∧Steps i m m'∧V8 (bm s c) m':=by
 obtain⟨hr,hp,hS⟩:=h
 rcases hS with⟨z,_⟩|⟨z,_⟩|⟨z,_⟩|⟨_,q1,q2,q3,q4,q5,q6,g,q7,q8⟩
 ·omega
 ·omega
 ·omega
 have e1:bm s c=il s c:=by simp[bm,hs]
 have ha:M.ahead m p.length=c:=hx.ah
 have rn:=hx.rn
 have hd:=zko (M.vf m) c rn.1
 have hpl:s.place=(m.pos+p.length:Nat):=by have:=hr.rc.place;omega
 rw[e1];unfold il
 rw[q2]
 cases dg:wj (M.vf m) c with
 |true=>
  rw[au rfl]
  obtain⟨f1,f2⟩:=hd.1 dg
  have hc0:0≤c:=by
   rcases hx.cs with z|z
   ·exact z.1
   ·rw[z.1]at dg;cases M.vf m<;>simp[wj,fc,lw]at dg
  have hc:Sc c:=by
   rcases hx.cs with z|z
   ·exact z
   ·omega
  have hl:=Ap hr.list ha hc0
  have hlen:m.pos+p.length<m.l.length:=by
   unfold M.ahead at ha
   cases e:m.l[m.pos+p.length]? with
   |none=>rw[e]at ha;simp at ha;omega
   |some x=>exact(cd.1 e).1
  obtain⟨g',rfl⟩:∃g',g=g'+1:=⟨g-1,by omega⟩
  rw[zfe m _ g' _ _ (by rw[ha,f1];omega),ha,f1]at q7
  have hcap:=zfd s.jx (if M.vf m=true then 16 else 10) (wi c) (by split<;>simp) f2 q6
  rw[hcap]at q7
  have hrc:=hr.rc.inner 35 s.di s.l9 true (ml s c).jx
  have es:ml s c={s with state:=35,di:=s.di,l9:=s.l9,nb:=true,jx:=(ml s c).jx}:=by
   unfold ml;rw[←hs]
  refine⟨0,m,by omega,rfl,.inl ⟨rfl,.inr (.inl ⟨p++[c],⟨?_,hr.st,hl⟩,hp.cat (s9.one hc),.inr (.inr (.inr ⟨?_,?_,q2,?_,by simp;omega,?_,?_,g',?_,by simp;omega⟩))⟩)⟩⟩
  ·show RC 1 (ml s c) m _
   rw[es];exact hrc.at (by simp[hpl];omega)
  ·exact hs
  ·cases p with
   |nil=>simp at q1
   |cons x r=>simpa using q1
  ·show s.di=_
   rw[q3,List.take_append_of_le_length q4]
  ·show true=_
   simp;omega
  ·show 0≤(ml s c).jx
   unfold ml
   show 0≤(if 1114111<s.jx then s.jx else s.jx*(if s.l9=true then 16 else 10)+wi c)
   split
   ·exact q6
   ·split<;>omega
  ·rw[q7]
   simp only[aq,List.length_singleton]
   unfold ml
   rw[q2]
 |false=>
  rw[ag (by simp)]
  have f1:=hd.2 dg
  rw[Fp m _ g _ _ (by rw[ha];exact f1)]at q7
  have a0:M.ahead m 0=35:=by
   cases p with
   |nil=>simp at q1
   |cons x r=>simp at q1;subst q1;exact wu hr.list (by rfl)
  have hst:M.step m=M.number m:=by
   unfold M.step M.reference
   rw[au hr.st,a0,ag (by omega),au rfl]
  have hbk:=hr.rc.mst m.back (yd hr.rc.ref.2.1).1
  by_cases b1:s.nb=false
  ·rw[au b1]
   have hfd:M.o9 m=p.length:=by rw[q5]at b1;simp at b1;omega
   have zh6:M.number m=some {M.give (M.give (M.wrong (M.st m m.back) [100,105,103,105,116,115] (m.pos+M.o9 m:Nat)) [38]) ((m.l.drop m.pos).take (M.o9 m))with pos:=m.pos+M.o9 m}:=by
    unfold M.number
    rw[q7]
    rw[ag hx.live,au hfd.symm]
   refine⟨1,_,by omega,Steps.one (hst.trans zh6),.inr ⟨rfl,.inl ?_⟩⟩
   rw[Cq,hfd,hr.list]
   have hw:=hbk.wrong [100,105,103,105,116,115] (m.pos+p.length:Nat)
   have ew:wrong s [100,105,103,105,116,115]=bz s [100,105,103,105,116,115] (m.pos+p.length:Nat):=by unfold wrong;rw[hpl]
   rw[ew]
   unfold kc
   have er:(bz s [100,105,103,105,116,115] (m.pos+p.length:Nat)).di=M.jk p:=by
    show s.di=_
    rw[q3,hfd,List.take_length]
   have eu:([38]++M.jk p:Str)=M.jk (38::p):=by simp[u38]
   rw[er,eu]
   obtain⟨k1,⟨tx,tg,k2⟩,tx2,vl,k3⟩:=hw.give (x:=38::p) (jd.2 ⟨Mu,hp⟩)
   have k4:=k1.pos (m.pos+p.length)
   rw[k2]at k4⊢
   show Rel 0 _ {M.give (M.wrong (M.st m m.back) [100,105,103,105,116,115] (m.pos+p.length:Nat)) (38::p)with pos:=m.pos+p.length}
   rw[k3]at k4⊢
   exact RC.rel (k4.inner s.ev s.di s.l9 s.nb s.jx) rfl rfl rfl
  ·rw[ag b1]
   have hfd:¬p.length=M.o9 m:=by
    have:s.nb=true:=by simpa using b1
    rw[q5]at this;simp at this;omega
   by_cases b2:c=59
   ·rw[au b2]
    have zh6:M.number m=some (M.give (M.meaning {M.st m m.back with pos:=m.pos+p.length+1} (M.cap s.jx)) [(M.meant (M.cap s.jx)).1]):=by
     unfold M.number
     rw[q7]
     rw[ag hx.live,ag hfd,au (by rw[ha];exact b2)]
    refine⟨1,_,by omega,Steps.one (hst.trans zh6),.inl ⟨rfl,.inl ?_⟩⟩
    obtain⟨k1,k2,k3,k4,k5⟩:=zh5 (hbk.pos (m.pos+p.length+1)) q6 rfl (s.place+1) (by rw[hpl];simp)
    have k6:=I5 _ _ s.ev k1
    refine RC.rel (k6.at (k:=m.pos+p.length+1) ?_) ?_ ?_ ?_
    ·show(ji s (s.place+1)).place+1=_
     rw[D3,hpl];simp
    ·rw[k3]
    ·exact k2.symm
    ·rw[k4,k5];rfl
   ·rw[ag b2]
    have zh6:M.number m=some (M.give (M.meaning {M.wrong (M.st m m.back) [115,101,109,105,99,111,108,111,110] (m.pos+p.length:Nat)with pos:=m.pos+p.length} (M.cap s.jx)) [(M.meant (M.cap s.jx)).1]):=by
     unfold M.number
     rw[q7]
     rw[ag hx.live,ag hfd,ag (by rw[ha];exact b2)]
    refine⟨1,_,by omega,Steps.one (hst.trans zh6),.inr ⟨rfl,.inl ?_⟩⟩
    have hw:=(hbk.wrong [115,101,109,105,99,111,108,111,110] (m.pos+p.length:Nat)).pos (m.pos+p.length)
    have ew:wrong s [115,101,109,105,99,111,108,111,110]=bz s [115,101,109,105,99,111,108,111,110] (m.pos+p.length:Nat):=by unfold wrong;rw[hpl]
    rw[ew]
    obtain⟨k1,k2,k3,k4,k5⟩:=zh5 (x:=s.jx) hw q6 rfl s.place hpl
    have k6:=I5 _ _ s.ev k1
    refine RC.rel (k6.at (k:=m.pos+p.length) ?_) ?_ ?_ ?_
    ·show(ji _ s.place).place+0=_
     rw[D3];show s.place+0=_;rw[hpl];simp
    ·rw[k3]
    ·exact k2.symm
    ·rw[k4,k5];rfl
variable{s:TS}{m:M.MS}{c:Int}{d:Int}{n:Nat}{p:List Int}{a:Bool}
def Low(l:Str):Prop:=∀x∈l,x.toNat<128
theorem Zp{c:Int}(h:Sc c):(c<128∧M.utf c=[c.toNat.toUInt8]∧c.toNat.toUInt8.toNat=c.toNat)∨(128≤c∧∃b r,M.utf c=b::r∧128≤b.toNat):=by
 have hu:∀k:Nat,k<256→k.toUInt8.toNat=k:=by intro k hk;simp[Nat.toUInt8];omega
 by_cases a:c<128
 ·refine .inl ⟨a,?_,hu _ (by have:=h.1;omega)⟩
  unfold M.utf M.Em;rw[au a];rfl
 ·refine .inr ⟨by omega,?_⟩
  unfold M.utf M.Em
  rw[ag a]
  have h0:=h.1
  have h1:=h.2.1
  split
  ·exact⟨_,_,rfl,by rw[hu _ (by omega)];omega⟩
  ·split
   ·exact⟨_,_,rfl,by rw[hu _ (by omega)];omega⟩
   ·exact⟨_,_,rfl,by rw[hu _ (by omega)];omega⟩
theorem Zq{x:UInt8}{c:Int}(h0:0≤c)(h:c.toNat.toUInt8.toNat=c.toNat):x=c.toNat.toUInt8↔(x.toNat:Int)=c:=by
 constructor
 ·intro e;rw[e,h];omega
 ·intro e;apply UInt8.toNat.inj;rw[h];omega
theorem Pj:∀{w:Str}{l:List Int},Low w→s9 l→(w<+:M.jk l↔M.n8 w<+:l)
 |[],l,_,_=>by simp[M.n8]
 |x::w,[],_,_=>by simp[M.n8]
 |x::w,c::l,hw,hl=>by
  have hc:=(jd.1 hl).1
  have ih:=Pj (w:=w) (l:=l) (fun y hy=>hw y (by simp[hy])) (jd.1 hl).2
  rw[sy]
  have ea:M.n8 (x::w)=(x.toNat:Int)::M.n8 w:=rfl
  rw[ea]
  rcases Zp hc with⟨h1,h2,h3⟩|⟨h1,b,r,h2,h3⟩
  ·rw[h2,List.singleton_append,List.cons_prefix_cons,List.cons_prefix_cons,ih,Zq hc.1 h3]
  ·rw[h2,List.cons_append,List.cons_prefix_cons,List.cons_prefix_cons]
   have hx:=hw x (by simp)
   constructor
   ·rintro⟨e,_⟩;rw[e]at hx;omega
   ·rintro⟨e,_⟩;omega
theorem Pk:∀{l:List Int}{w:Str},Low w→s9 l→(M.jk l<+:w↔l<+:M.n8 w)
 |[],w,_,_=>by simp
 |c::l,[],_,hl=>by
  have hne:=Kh c
  simp[M.n8,hne]
 |c::l,x::w,hw,hl=>by
  have hc:=(jd.1 hl).1
  have ih:=Pk (w:=w) (l:=l) (fun y hy=>hw y (by simp[hy])) (jd.1 hl).2
  rw[sy]
  have ea:M.n8 (x::w)=(x.toNat:Int)::M.n8 w:=rfl
  rw[ea]
  rcases Zp hc with⟨h1,h2,h3⟩|⟨h1,b,r,h2,h3⟩
  ·rw[h2,List.singleton_append,List.cons_prefix_cons,List.cons_prefix_cons,ih,eq_comm,Zq hc.1 h3,eq_comm]
  ·rw[h2,List.cons_append,List.cons_prefix_cons,List.cons_prefix_cons]
   have hx:=hw x (by simp)
   constructor
   ·rintro⟨e,_⟩;rw[←e]at hx;omega
   ·rintro⟨e,_⟩;omega
theorem sd(w:Str):(M.n8 w).length=w.length:=by simp[M.n8]
theorem name_eq{l:List Int}{w:Str}(hw:Low w)(hl:s9 l):M.jk l=w↔l=M.n8 w:=by
 constructor
 ·intro e
  have h1:=(Pk hw hl).1 (by rw[e];exact List.prefix_refl _)
  have h2:=(Pj hw hl).1 (by rw[e];exact List.prefix_refl _)
  exact h1.eq_of_length_le h2.length_le
 ·intro e;rw[e];exact Fj hw
theorem zkp{x y:Str}(h:M.n8 x=M.n8 y):x=y:=by
 unfold M.n8 at h
 have:=List.map_inj_right (f:=fun x:UInt8=>(x.toNat:Int)) (l:=x) (l':=y) (by
  intro a b e;apply UInt8.toNat.inj;have e2:(a.toNat:Int)=b.toNat:=e;omega)
 exact this.1 h
theorem vd:∀x∈om,Low x.1:=by unfold Low;decide
theorem Cr{l:List Int}{w:Str}(hw:Low w)(hl:s9 l):partOf (M.jk l) w=true↔(l<+:M.n8 w∧l≠M.n8 w):=by
 unfold partOf ue
 rw[Bool.and_eq_true,List.isPrefixOf_iff_prefix,Pk hw hl]
 simp only[Bool.not_eq_true',af,ne_eq,name_eq hw hl]
 exact And.comm
theorem V9{l:List Int}{w:Str}(hw:Low w)(hl:s9 l):ue (M.jk l) w=true↔M.n8 w<+:l:=by
 unfold ue;rw[List.isPrefixOf_iff_prefix,Pj hw hl]
theorem Gb(come:Str):∀(T:List (Str×Str))(l0:Str×Str),(oa come T l0).2=true↔∃x∈T,partOf come x.1=true
 |[],l0=>by simp[oa]
 |y::T,l0=>by
  rw[oa]
  by_cases h:partOf come y.1=true
  ·rw[au h];simp[h]
  ·rw[ag h]
   split
   ·rw[Gb come T l0];simp[h]
   ·rw[Gb come T y];simp[h]
theorem Kl(come:Str):∀(T:List (Str×Str))(l0:Str×Str),(∀x∈T,¬partOf come x.1=true)→
  ((oa come T l0).1=l0∨((oa come T l0).1∈T∧ue come (oa come T l0).1.1=true))∧l0.1.length≤(oa come T l0).1.1.length∧(∀x∈T,ue come x.1=true→x.1.length≤(oa come T l0).1.1.length)
 |[],l0,_=>by simp[oa]
 |y::T,l0,h=>by
  rw[oa,ag (h y (by simp))]
  have hT:∀x∈T,¬partOf come x.1=true:=fun x hx=>h x (by simp[hx])
  split
  ·next k=>
   obtain⟨i1,i2,i3⟩:=Kl come T l0 hT
   refine⟨?_,i2,?_⟩
   ·rcases i1 with i1|⟨i1,i1'⟩
    ·exact .inl i1
    ·exact .inr ⟨by simp[i1],i1'⟩
   ·intro x hx hp
    rcases List.mem_cons.1 hx with e|e
    ·subst e
     rcases k with k|k
     ·rw[k]at hp;cases hp
     ·omega
    ·exact i3 x e hp
  ·next k=>
   obtain⟨i1,i2,i3⟩:=Kl come T y hT
   have k1:ue come y.1=true:=by
    cases e:ue come y.1 with
    |true=>rfl
    |false=>exact absurd (.inl e) k
   have k2:¬y.1.length<l0.1.length:=fun z=>k (.inr z)
   refine⟨?_,by omega,?_⟩
   ·rcases i1 with i1|⟨i1,i1'⟩
    ·rw[i1];exact .inr ⟨by simp,k1⟩
    ·exact .inr ⟨by simp[i1],i1'⟩
   ·intro x hx hp
    rcases List.mem_cons.1 hx with e|e
    ·subst e;exact i2
    ·exact i3 x e hp
theorem I6:∀x∈M.oc,(x.1,M.utf x.2)∈om∧Sc x.2∧x.1≠[]:=by unfold Sc;decide
theorem Fq:∀y∈om,∃x∈M.oc,x.1=y.1∧M.utf x.2=y.2:=by decide
theorem zfg:∀a∈om,∀b∈om,a.1=b.1→a.2=b.2:=by decide
theorem zb1:M.oc.Pairwise (fun a b=>b.1.length≤a.1.length):=by unfold M.oc;decide
theorem zh7:∀a∈om,M.Bv a.1=true∨∃b∈om,partOf a.1 b.1=true:=by decide
theorem zfh:∀a∈om,∀k,k+1<a.1.length→∃x,a.1[k]? =some x∧(((65≤x.toNat∧x.toNat≤90)∨(97≤x.toNat∧x.toNat≤122))):=by
 have h:∀a∈om,∀k:Fin 8,k.1+1<a.1.length→(a.1[k.1]?).any (fun x=>decide ((65≤x.toNat∧x.toNat≤90)∨(97≤x.toNat∧x.toNat≤122)))=true:=by decide
 have hl:∀a∈om,a.1.length≤8:=by decide
 intro a ha k hk
 have h1:=h a ha ⟨k,by have:=hl a ha;omega⟩ hk
 simp only at h1
 cases e:a.1[k]? with
 |none=>rw[e]at h1;simp at h1
 |some x=>rw[e]at h1;exact⟨x,rfl,by simpa using h1⟩
variable{s:TS}{m:M.MS}{c:Int}{d:Int}{n:Nat}{p:List Int}{a:Bool}
def Tn:List Int→List Int→Nat
 |x::r,y::t=>if x=y then Tn r t+1 else 0
 |_,_=>0
theorem Zr:∀r t:List Int,t.length≤Tn r t↔t<+:r
 |[],[]=>by simp[Tn]
 |[],y::t=>by simp[Tn]
 |x::r,[]=>by simp
 |x::r,y::t=>by
  have:=Zr r t
  rw[Tn,List.cons_prefix_cons]
  split
  ·next h=>subst h;simp[this]
  ·next h=>simp;intro e;exact absurd e.symm h
theorem Zs:∀r t:List Int,(Tn r t<t.length∧Tn r t=r.length)↔(r<+:t∧r≠t)
 |[],[]=>by simp[Tn]
 |[],y::t=>by simp[Tn]
 |x::r,[]=>by simp[Tn]
 |x::r,y::t=>by
  have:=Zs r t
  rw[Tn,List.cons_prefix_cons]
  split
  ·next h=>subst h;simp[this]
  ·next h=>simp[h]
def fold(b:Bool)(c:Int):Int:=if b=true then lw c else c
theorem I7(b:Bool):∀(w:Str)(k:Nat),M.ql m b w k=k+Tn ((m.l.drop (m.pos+k)).map (fold b)) (M.n8 w)
 |[],k=>by cases(m.l.drop (m.pos+k)).map (fold b)<;>simp[M.ql,M.n8,Tn]
 |x::w,k=>by
  have ih:=I7 b w (k+1)
  have ea:M.n8 (x::w)=(x.toNat:Int)::M.n8 w:=rfl
  rw[M.ql,ea]
  cases e:m.l[m.pos+k]? with
  |none=>
   have e2:m.l.drop (m.pos+k)=[]:=by
    rw[List.drop_eq_nil_iff];exact List.getElem?_eq_none_iff.1 e
   have e3:M.ahead m k= -1:=by unfold M.ahead;rw[e];rfl
   rw[e2,e3]
   rw[ag (by split<;>simp[lw]<;>omega)]
   simp[Tn]
  |some y=>
   obtain⟨hlt,he⟩:=cd.1 e
   have e3:M.ahead m k=y:=by unfold M.ahead;rw[e];rfl
   rw[e3,List.drop_eq_getElem_cons hlt,he,List.map_cons,Tn]
   have e4:(if b=true then lw y else y)=fold b y:=rfl
   rw[e4]
   split
   ·rw[ih];simp only[Nat.add_assoc];omega
   ·rfl
theorem Pm(b:Bool)(w:Str):M.ly m w b=Tn ((m.l.drop m.pos).map (fold b)) (M.n8 w):=by
 unfold M.ly;rw[I7];simp
theorem se(l:List Int):l.map (fold false)=l:=by
 rw[show fold false=id from by funext c;simp[fold]];simp
theorem Gc(l:List Int):l.map (fold true)=l.map lw:=by
 rw[show fold true=lw from by funext c;simp[fold]]
theorem Hp(b:Bool)(w:Str):w.length≤M.ly m w b↔M.n8 w<+:(m.l.drop m.pos).map (fold b):=by
 rw[Pm,←Zr,sd]
theorem y5(b:Bool)(w:Str)(h:m.pos≤m.l.length):M.wait m w b=true↔(m.whole=false∧(m.l.drop m.pos).map (fold b)<+:M.n8 w∧(m.l.drop m.pos).map (fold b)≠M.n8 w):=by
 unfold M.wait
 rw[Pm]
 have:=Zs ((m.l.drop m.pos).map (fold b)) (M.n8 w)
 rw[←this,sd]
 simp
 constructor
 ·rintro⟨⟨x,y⟩,z⟩;exact⟨x,y,by omega⟩
 ·rintro⟨x,y,z⟩;exact⟨⟨x,y⟩,by omega⟩
def wr(c:Int):Int:=if c= -1 then 65533 else c
theorem zh8(h:Sc c∨(c= -1∧m.whole=true)):Lib.encodeRune c=M.utf (wr c)∧Sc (wr c):=by
 unfold wr
 rcases h with h|⟨rfl,_⟩
 ·have:=h.1
  rw[ag (by omega)];exact⟨(gw h).symm,h⟩
 ·rw[au rfl];exact⟨by decide,by unfold Sc;omega⟩
theorem I8{w:Str}(h:Low w):∀x∈M.n8 w,0≤x∧x<128:=by
 intro x hx
 unfold M.n8 at hx
 obtain⟨y,hy,rfl⟩:=List.mem_map.1 hx
 have:=h y hy;omega
theorem zh9{l:List Int}(hw:Waits (l++[wr c]))(h:Sc c∨(c= -1∧m.whole=true)):0≤c∧wr c=c:=by
 obtain⟨x,hx,hp,_⟩:=hw
 have h1:=I8 (vd x hx) (wr c) (hp.mem (by simp))
 unfold wr at*
 rcases h with h|⟨rfl,_⟩
 ·have:=h.1;rw[ag (by omega)];omega
 ·simp at h1
theorem To(h:Waits p):p.length≤6∧∀x∈p,Zo x:=by
 obtain⟨y,hy,hp,hne⟩:=h
 have hl:∀a∈om,a.1.length≤7:=by decide
 have h1:=hp.length_le
 have h2:p.length<(M.n8 y.1).length:=by
  rcases Nat.lt_or_ge p.length (M.n8 y.1).length with z|z
  ·exact z
  ·exact absurd (hp.eq_of_length_le z) hne
 rw[sd]at h2
 have:=hl y hy
 refine⟨by omega,?_⟩
 intro x hx
 obtain⟨k,hk,he⟩:=List.getElem_of_mem hx
 have e1:(M.n8 y.1)[k]? =some x:=by
  obtain⟨t,ht⟩:=hp
  rw[←ht,List.getElem?_append_left hk,ig hk,he]
 obtain⟨z,hz,hr⟩:=zfh y hy k (by omega)
 unfold M.n8 at e1
 rw[List.getElem?_map,hz]at e1
 simp at e1
 rw[←e1]
 unfold Zo br
 simp;omega
variable{s:TS}{m:M.MS}{c:Int}{d:Int}{n:Nat}{p:List Int}{a:Bool}
theorem zia(h:(m.l.drop m.pos).take p.length=p):p<+:m.l.drop m.pos:=by rw[←h];exact List.take_prefix _ _
theorem zfi(h:M.ahead m n= -1)(hl:s9 m.l):m.l.length≤m.pos+n:=by
 unfold M.ahead at h
 cases e:m.l[m.pos+n]? with
 |none=>exact List.getElem?_eq_none_iff.1 e
 |some x=>rw[e]at h;simp at h;have:=(hl x (List.mem_of_getElem? e)).1;omega
theorem seen(hl:s9 m.l)(h:(m.l.drop m.pos).take p.length=p)(hx:Nx m p.length c):(0≤c∧wr c=c∧(p++[wr c])<+:m.l.drop m.pos)∨(c= -1∧m.whole=true∧m.l.drop m.pos=p∧wr c=65533):=by
 rcases hx.cs with k|⟨rfl,k⟩
 ·have e:wr c=c:=by unfold wr;rw[ag (by have:=k.1;omega)]
  refine .inl ⟨k.1,e,?_⟩
  rw[e];exact zia (Ap h hx.ah k.1)
 ·refine .inr ⟨rfl,k,?_,rfl⟩
  have:=zfi hx.ah hl
  rw[←h]
  rw[List.take_of_length_le (by rw[fj];omega)]
theorem zfj(hl:s9 m.l)(h:(m.l.drop m.pos).take p.length=p)(hx:Nx m p.length c)(hn:¬Waits (p++[wr c])):∀x∈M.oc,(M.n8 x.1<+:m.l.drop m.pos↔M.n8 x.1<+:p++[wr c]):=by
 intro x hxr
 have hT:=(I6 x hxr).1
 rcases seen hl h hx with⟨h0,h1,h2⟩|⟨h0,h1,h2,h3⟩
 ·constructor
  ·intro k
   rcases List.prefix_or_prefix_of_prefix k h2 with z|z
   ·exact z
   ·by_cases e:p++[wr c]=M.n8 x.1
    ·rw[e];exact List.prefix_refl _
    ·exact absurd ⟨_,hT,z,e⟩ hn
  ·intro k;exact k.trans h2
 ·rw[h2]
  constructor
  ·intro k;exact k.trans (List.prefix_append _ _)
  ·intro k
   rcases List.prefix_concat_iff.1 k with z|z
   ·have:=I8 (vd _ hT) (wr c) (by rw[z];simp)
    rw[h3]at this;omega
   ·exact z
theorem zkr(hl:s9 m.l)(h:(m.l.drop m.pos).take p.length=p)(hx:Nx m p.length c)(hp:m.pos≤m.l.length)(hn:¬Waits (p++[wr c])):¬(M.oc.any (fun n=>M.wait m n.1 false)=true):=by
 intro z
 obtain⟨x,hxr,hw⟩:=List.any_eq_true.1 z
 obtain⟨w1,w2,w3⟩:=(y5 false x.1 hp).1 hw
 rw[se]at w2 w3
 rcases seen hl h hx with⟨h0,h1,h2⟩|⟨h0,h1,_⟩
 ·refine hn ⟨_,(I6 x hxr).1,h2.trans w2,?_⟩
  intro e
  apply w3
  apply w2.eq_of_length_le
  rw[←e];exact h2.length_le
 ·rw[h1]at w1;cases w1
theorem found_eq(hl:s9 m.l)(h:(m.l.drop m.pos).take p.length=p)(hx:Nx m p.length c)(hn:¬Waits (p++[wr c])):
  (M.found m=none→∀x∈M.oc,¬(M.n8 x.1<+:p++[wr c]))∧
  (∀x,M.found m=some x→x∈M.oc∧M.n8 x.1<+:p++[wr c]∧∀y∈M.oc,M.n8 y.1<+:p++[wr c]→y.1.length≤x.1.length):=by
 have key:=zfj hl h hx hn
 have pr:∀y:Str×Int,(decide (y.1.length≤M.ly m y.1 false)=true)↔M.n8 y.1<+:m.l.drop m.pos:=by
  intro y;rw[decide_eq_true_eq,Hp,se]
 constructor
 ·intro e x hxr k
  unfold M.found at e
  have:=List.find?_eq_none.1 e x hxr
  exact this ((pr x).2 ((key x hxr).2 k))
 ·intro x e
  unfold M.found at e
  obtain⟨e1,as1,bs1,e2,e3⟩:=List.find?_eq_some_iff_append.1 e
  have hxr:x∈M.oc:=by rw[e2];simp
  refine⟨hxr,(key x hxr).1 ((pr x).1 e1),?_⟩
  intro y hy k
  have hy2:=(pr y).2 ((key y hy).2 k)
  have srt:=zb1
  rw[e2]at srt hy
  rcases List.mem_append.1 hy with z|z
  ·have:=e3 y z;rw[hy2]at this;cases this
  ·rcases List.mem_cons.1 z with z|z
   ·rw[z];exact cx _
   ·exact(List.pairwise_cons.1 (List.pairwise_append.1 srt).2.1).1 y z
theorem zfk{q:List Int}(hq:s9 q)(hn:¬Waits q):
  (kz (M.jk q)).2=false∧
  ((∀x∈M.oc,¬(M.n8 x.1<+:q))→(kz (M.jk q)).1.1=[])∧
  (∀x∈M.oc,M.n8 x.1<+:q→(∀y∈M.oc,M.n8 y.1<+:q→y.1.length≤x.1.length)→(kz (M.jk q)).1=(x.1,M.utf x.2)):=by
 have hnp:∀x∈om,¬partOf (M.jk q) x.1=true:=by
  intro x hx k
  exact hn ⟨x,hx,(Cr (vd x hx) hq).1 k⟩
 have hb:=Kl (M.jk q) om ([],[]) hnp
 have hw:(kz (M.jk q)).2=false:=by
  cases e:(kz (M.jk q)).2 with
  |false=>rfl
  |true=>obtain⟨x,hx,k⟩:=(Gb _ _ _).1 e;exact absurd k (hnp x hx)
 refine⟨hw,?_,?_⟩
 ·intro k
  rcases hb.1 with e|⟨e1,e2⟩
  ·unfold kz;rw[e]
  ·obtain⟨x,hx,hx2,_⟩:=Fq _ e1
   have:=(V9 (vd _ e1) hq).1 e2
   rw[←hx2]at this
   exact absurd this (k x hx)
 ·intro x hx hpx hmax
  obtain⟨t1,t2,t3⟩:=I6 x hx
  have l1:=hb.2.2 _ t1 ((V9 (vd _ t1) hq).2 hpx)
  rcases hb.1 with e|⟨e1,e2⟩
  ·rw[e]at l1
   simp at l1
   exact absurd l1 t3
  ·have e3:=(V9 (vd _ e1) hq).1 e2
   obtain⟨y,hy,hy2,hy3⟩:=Fq _ e1
   have l2:=hmax y hy (by rw[hy2];exact e3)
   rw[hy2]at l2
   have el:(M.n8 x.1).length=(M.n8 (oa (M.jk q) om ([],[])).1.1).length:=by
    rw[sd,sd];simp only at l1;omega
   have ee:M.n8 x.1=M.n8 (oa (M.jk q) om ([],[])).1.1:=by
    rcases List.prefix_or_prefix_of_prefix hpx e3 with z|z
    ·exact z.eq_of_length el
    ·exact(z.eq_of_length el.symm).symm
   have e5:=zkp ee
   have e6:=zfg _ t1 _ e1 e5
   unfold kz
   exact Prod.ext e5.symm e6.symm
end Go.Proofs.YtdfmapcnfficlaaGreatDoor.Si

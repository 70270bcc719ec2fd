import Derived.Test.YtdfmapcnfficlaaGreatDoorP18
import Derived.Test.YtdfmapcnfficlaaGreatDoorP33
set_option linter.all false
set_option maxHeartbeats 1000000
namespace Go.Proofs.YtdfmapcnfficlaaGreatDoor.Si
open Go Go.RowKit
def Sc(c:Int):Prop:=0≤c∧c≤1114111∧¬(55296≤c∧c≤57343)
def s9(l:List Int):Prop:=∀c∈l,Sc c
theorem s9.nil:s9 []:=by intro c h;cases h
theorem s9.cat{a b:List Int}(h:s9 a)(k:s9 b):s9 (a++b):=by
 intro c hc;rcases List.mem_append.1 hc with x|x
 ·exact h c x
 ·exact k c x
theorem s9.one{c:Int}(h:Sc c):s9 [c]:=by intro x hx;simp at hx;rw[hx];exact h
theorem Kg{c:Int}(h:Sc c):Sc (lw c):=by unfold Sc lw at*;split<;>omega
theorem oq{c:Int}(h:Sc c):Sc (bb c):=by unfold Sc bb at*;split<;>omega
theorem Hk{c:Int}(h:Sc c):Sc (lw (bb c)):=Kg (oq h)
theorem gw{c:Int}(h:Sc c):M.utf c=Lib.encodeRune c:=by
 unfold Sc at h
 unfold M.utf Lib.encodeRune M.Em
 congr 1
 by_cases a:c<128
 ·rw[au a,Lib.encodeRuneZ_one (by omega) (by omega)]
 ·rw[ag a]
  by_cases b:c<2048
  ·rw[au b,Lib.encodeRuneZ_two (by omega) (by omega)]
  ·rw[ag b]
   by_cases d:c<65536
   ·rw[au d,Lib.encodeRuneZ_three (by omega)]
   ·rw[ag d,Lib.encodeRuneZ_four (by omega) (by omega)]
theorem Kh(c:Int):M.utf c≠[]:=by
 unfold M.utf M.Em;repeat' split
 all_goals simp
@[simp] theorem zhz:M.jk []=[]:=rfl
@[simp] theorem Zk (a b:List Int):M.jk (a++b)=M.jk a++M.jk b:=by simp[M.jk]
@[simp] theorem sy (a:Int) (b:List Int):M.jk (a::b)=M.utf a++M.jk b:=by simp[M.jk]
theorem ci{l:List Int}:M.jk l=[]↔l=[]:=by
 cases l with
 |nil=>simp
 |cons a r=>simp[Kh]
theorem fg{c:Int}(h:Sc c):Lib.encodeRune (lw (bb c))=M.utf (lw (bb c)):=(gw (Hk h)).symm
theorem fh{c:Int}(h:Sc c):Lib.encodeRune (bb c)=M.utf (bb c):=(gw (oq h)).symm
theorem zkj{x:UInt8}(h:x.toNat<128):M.utf (x.toNat:Int)=[x]:=by
 unfold M.utf M.Em;rw[au (by omega)];simp
theorem Fj:∀{l:Str},(∀x∈l,x.toNat<128)→M.jk (M.n8 l)=l
 |[],_=>rfl
 |x::r,h=>by
  have:=Fj (l:=r) (fun y hy=>h y (by simp[hy]))
  unfold M.n8 at*
  rw[List.map_cons,sy,this,zkj (h x (by simp))];rfl
theorem zkk{l:Str}(h:∀x∈l,x.toNat<128):s9 (M.n8 l):=by
 intro c hc
 unfold M.n8 at hc
 obtain⟨x,hx,rfl⟩:=List.mem_map.1 hc
 have:=h x hx
 unfold Sc;omega
def keysOf:List Str→List Str
 |a::_::r=>a::keysOf r
 |_=>[]
def Even(l:List Str):Prop:=l.length%2=0
theorem K9(k:Str):∀l:List Str,Even l→M.ur l k=(keysOf l).contains k
 |[],_=>rfl
 |[a],h=>by simp[Even]at h
 |a::b::r,h=>by
  have:=K9 k r (by unfold Even at*;simp at h;omega)
  simp only[M.ur,keysOf,this,List.contains_cons]
  rw[show(a==k)=(k==a)from BEq.comm]
theorem Zl:∀(l:List Str)(a b:Str),Even l→keysOf (l++[a,b])=keysOf l++[a]
 |[],_,_,_=>rfl
 |[x],_,_,h=>by simp[Even]at h
 |x::y::r,a,b,h=>by
  have:=Zl r a b (by unfold Even at*;simp at h;omega)
  simp[keysOf,this]
theorem Fk:∀(l k:List xp),mu (l++k)=mu l++mu k
 |[],k=>rfl
 |a::r,k=>by simp[mu,Fk r k]
theorem Dp:∀l:List xp,Even (mu l)
 |[]=>rfl
 |a::r=>by
  have:=Dp r
  unfold Even at*
  rw[mu]
  split<;>simp<;>omega
theorem Fl(f:xp→xp):∀(l:List xp)(a:xp),re f (l++[a])=l++[f a]
 |[],a=>rfl
 |[x],a=>rfl
 |x::y::r,a=>by
  have:=Fl f (y::r) a
  simp only[List.cons_append]at this⊢
  rw[re,this]
structure l6(t:zd0)(m:M.MS):Prop where
 kind:t.kind=m.kind
 k12:m.kind=1∨m.kind=2
 name:t.name=M.jk m.name
 closes:t.closes=m.flag
 gone:m.gone=false
 none:m.opn=false→m.attrs=[]∧t.cy=[]
 some:m.opn=true→∃pre v,t.cy=pre++[⟨M.jk m.key,v,m.drop⟩]∧(m.drop=false→v=M.jk m.value)∧mu pre=m.attrs∧(m.drop=true→m.attrs≠[])
 names:t.names.getD []=keysOf m.attrs++(if m.opn=true∧m.drop=false∧m.state≠10 then[M.jk m.key]else[])
 nd:m.state=10→m.drop=false∧m.opn=true
def backs(q:Nat):Prop:=q=0∨q=1∨q=13∨q=14∨q=15
structure Rel(d:Int)(s:TS)(m:M.MS):Prop where
 told:s.told=m.told
 text:s.text=M.jk m.text
 tsc:s9 m.text
 last:s.lastStart=m.last
 place:s.place+d=m.pos
 st:s.state=m.state
 ok:m.state≤17∨(19≤m.state∧m.state≤30)∨m.state=33
 com:s.comment=if 19≤m.state∧m.state≤25 then M.jk m.name else[]
 dn:s.jw=if 26≤m.state∧m.state≤30 then M.jk m.name else[]
 odd:s.odd=(decide (26≤m.state∧m.state≤30)&&m.odd)
 decl:s.declared=[]
 base:m.state=1∨m.state=2→s.base=m.state
 less:5≤m.state→m.state≤7→s.base=m.base∧(m.base=1∨m.base=2)
 buf:m.state=7→s.tag.buffer=M.jk m.buf∧s9 m.buf∧m.opn=false
 tag:(7≤m.state∧m.state≤17)∨(m.state=33∧13≤m.back)→l6 s.tag m
 ref:m.state=33→s.ev=m.back∧backs m.back∧(m.back=1→s.base=1)
structure RC(d:Int)(s:TS)(m:M.MS)(n:Nat):Prop where
 told:s.told=m.told
 text:s.text=M.jk m.text
 tsc:s9 m.text
 last:s.lastStart=m.last
 place:s.place+d=n
 com:s.comment=[]
 dn:s.jw=[]
 odd:s.odd=false
 decl:s.declared=[]
 ref:s.ev=m.back∧backs m.back∧(m.back=1→s.base=1)
 tag:13≤m.back→l6 s.tag m
 st:m.state≠10
structure zpg(d:Int)(s:TS)(m:M.MS)(p:List Int):Prop where
 rc:RC d s m (m.pos+p.length)
 st:m.state=31
 list:(m.l.drop m.pos).take p.length=p
structure zlm(d:Int)(s:TS)(m:M.MS)(p:List Int):Prop where
 told:s.told=m.told
 text:s.text=M.jk m.text
 tsc:s9 m.text
 last:s.lastStart=m.last
 place:s.place+d=(m.pos+p.length:Nat)
 st:m.state=18
 com:s.comment=[]
 dn:s.jw=[]
 odd:s.odd=false
 list:(m.l.drop m.pos).take p.length=p
theorem kv(s:TS):flush s={s with told:=if s.text=[]then s.told else s.told++[{kind:=0,text:=s.text}],text:=[]}:=by
 unfold flush cj
 split
 ·next h=>cases s;simp at h;simp[h]
 ·rfl
theorem gv(m:M.MS):M.flush m={m with told:=if m.text=[]then m.told else m.told++[{kind:=0,text:=M.jk m.text}],text:=[]}:=by
 unfold M.flush
 split
 ·next h=>cases m;simp at h;simp[h]
 ·rfl
theorem m7(s:TS)(c:Int):dp s c={s with told:=s.told++(if c=0 then[{kind:=5,name:=rj,place:=s.place}]else[])}:=by
 unfold dp wrong bz cj
 split
 ·rfl
 ·cases s;simp
theorem jq(m:M.MS)(c:Int):M.lx m c={m with told:=m.told++(if c=0 then[{kind:=5,name:=rj,place:=m.pos}]else[])}:=by
 unfold M.lx M.err M.wrong
 split
 ·rfl
 ·cases m;simp
variable{s:TS}{m:M.MS}{c:Int}{d:Int}
def zkl(d:Int)(s:TS)(m:M.MS):Prop:=Rel d s m∨(s.state=31∧zpg d s m []∧s.di=[]∧s.l9=false∧s.nb=false∧s.jx=0)∨(s.state=18∧zlm d s m []∧s.declared=[])
def vb(r:Int×TS)(m:M.MS):Prop:=(r.1=0∧zkl 1 r.2 m)∨(r.1=1∧zkl 0 r.2 m)
theorem mm:s9 []↔True:=by simp[s9.nil]
theorem m9{a b:List Int}:s9 (a++b)↔s9 a∧s9 b:=⟨fun h=>⟨fun c k=>h c (by simp[k]),fun c k=>h c (by simp[k])⟩,fun h=>h.1.cat h.2⟩
theorem jd{a:Int}{b:List Int}:s9 (a::b)↔Sc a∧s9 b:=by
 constructor
 ·intro h;exact⟨h a (by simp),fun c k=>h c (by simp[k])⟩
 ·intro h c k;rcases List.mem_cons.1 k with k|k
  ·rw[k];exact h.1
  ·exact h.2 c k
theorem u45:M.utf 45=[45]:=by decide
theorem u60:M.utf 60=[60]:=by decide
theorem D2:M.utf 47=[47]:=by decide
theorem u33:M.utf 33=[33]:=by decide
theorem u38:M.utf 38=[38]:=by decide
theorem e0:Lib.encodeRune 0=M.utf 0:=by decide
theorem e38:Lib.encodeRune (bb 38)=[38]:=by decide
theorem Zm:Lib.encodeRune 38=[38]:=by decide
theorem w38:bb 38=38:=by decide
theorem b62:ba 62=false:=by decide
theorem tz:Sc 60:=by unfold Sc;omega
theorem ua:Sc 47:=by unfold Sc;omega
theorem Mu:Sc 38:=by unfold Sc;omega
theorem l6.new(m:M.MS)(k:Int)(hk:k=1∨k=2)(q:Nat)(hq:q≠10):l6 {kind:=k} (M.st (M.newTag m k) q):=by
 constructor<;>simp[M.st,M.newTag,keysOf,hk,hq]
theorem SB:type_of% @dk.eq_1∧type_of% @M.pc.eq_1∧type_of% @M.st.eq_1∧type_of% @M.on.eq_1∧type_of% @M.err.eq_1∧type_of% @M.wrong.eq_1∧type_of% @M.je.eq_1∧type_of% @M.ke.eq_1∧type_of% @M.add.eq_1∧type_of% @M.say.eq_1∧type_of% @M.n8.eq_1∧type_of% @M.dm.eq_1∧type_of% @M.dw.eq_1∧type_of% @M.tell.eq_1∧type_of% @gv∧type_of% @kv∧type_of% @m7∧type_of% @jq∧type_of% @eg.eq_1∧type_of% @bq.eq_1∧type_of% @dt.eq_1∧type_of% @dx.eq_1∧type_of% @dy.eq_1∧type_of% @tell.eq_1∧type_of% @cj.eq_1∧type_of% @wrong.eq_1∧type_of% @bz.eq_1∧type_of% @gd.eq_1∧type_of% @ke.eq_1∧type_of% @ko.eq_1∧type_of% @dj.eq_1∧type_of% @d9.eq_1∧type_of% @dz.eq_1∧type_of% @ci∧type_of% @m9∧type_of% @jd∧type_of% @rj.eq_1∧type_of% @jy.eq_1∧type_of% @du.eq_1∧type_of% @zeroRef.eq_1∧type_of% @u45∧type_of% @u60∧type_of% @D2∧type_of% @u33∧type_of% @u38∧type_of% @tz∧type_of% @ua∧type_of% @Mu∧type_of% @mm∧type_of% @e0∧type_of% @e38∧type_of% @Zm∧type_of% @w38:=
 ⟨@dk.eq_1,@M.pc.eq_1,@M.st.eq_1,@M.on.eq_1,@M.err.eq_1,@M.wrong.eq_1,@M.je.eq_1,@M.ke.eq_1,@M.add.eq_1,@M.say.eq_1,@M.n8.eq_1,@M.dm.eq_1,@M.dw.eq_1,@M.tell.eq_1,@gv,@kv,@m7,@jq,@eg.eq_1,@bq.eq_1,@dt.eq_1,@dx.eq_1,@dy.eq_1,@tell.eq_1,@cj.eq_1,@wrong.eq_1,@bz.eq_1,@gd.eq_1,@ke.eq_1,@ko.eq_1,@dj.eq_1,@d9.eq_1,@dz.eq_1,@ci,@m9,@jd,@rj.eq_1,@jy.eq_1,@du.eq_1,@zeroRef.eq_1,@u45,@u60,@D2,@u33,@u38,@tz,@ua,@Mu,@mm,@e0,@e38,@Zm,@w38⟩
theorem zph(h:Rel 0 s m)(hq:m.state=0)(hc:Sc c):vb (bm s c) (M.look m c):=by
 have hs:s.state=0:=by rw[h.st,hq];rfl
 have e1:bm s c=kx s c:=by simp[bm,hs]
 have e2:M.look m c=M.text m c:=by simp[M.look,hq]
 have n1:c≠ -1:=by have:=hc.1;omega
 have n2:=oq hc
 rw[e1,e2]
 clear e1 e2
 obtain⟨h1,h2,h3,h4,h5,h6,h7,h8,h9,h10,h11,h12,me,ng,qf,h16⟩:=h
 simp only[hq]at h6 h7 h8 h9 h10 h12 me ng qf h16
 simp at h5 h6 h7 h8 h9 h10 h12 me ng qf h16
 by_cases a0:c=38
 ·simp only[kx,M.text,hq,n1,a0]
  refine .inl ⟨rfl,.inr (.inl ⟨rfl,⟨⟨?_,?_,?_,?_,?_,?_,?_,?_,?_,?_,?_,?_⟩,?_,?_⟩,rfl,rfl,rfl,rfl⟩)⟩<;>simp_all[dk,M.pc,M.st,M.on,M.err,M.wrong,M.je,M.ke,M.add,M.say,M.n8,M.dm,M.dw,M.tell,gv,kv,m7,jq,eg,bq,dt,dx,dy,tell,cj,wrong,bz,gd,ke,ko,dj,d9,dz,ci,fh hc,fg hc,m9,jd,rj,jy,du,zeroRef,backs,u45,u60,D2,u33,u38,tz,ua,Mu,mm,e0,e38,Zm,w38,gw hc]
 by_cases a1:c=60
 ·simp only[kx,M.text,hq,n1,a0,a1]
  refine .inl ⟨rfl,.inl ⟨?_,?_,?_,?_,?_,?_,?_,?_,?_,?_,?_,?_,?_,?_,?_,?_⟩⟩<;>simp_all[SB,fh hc,fg hc,gw hc]
 by_cases a2:c=0
 ·simp only[kx,M.text,hq,n1,a0,a1,a2]
  refine .inl ⟨rfl,.inl ⟨?_,?_,?_,?_,?_,?_,?_,?_,?_,?_,?_,?_,?_,?_,?_,?_⟩⟩<;>simp_all[SB,fh hc,fg hc,gw hc]
 ·simp only[kx,M.text,hq,n1,a0,a1,a2]
  refine .inl ⟨rfl,.inl ⟨?_,?_,?_,?_,?_,?_,?_,?_,?_,?_,?_,?_,?_,?_,?_,?_⟩⟩<;>simp_all[SB,fh hc,fg hc,gw hc]
theorem zpi(h:Rel 0 s m)(hq:m.state=1)(hc:Sc c):vb (bm s c) (M.look m c):=by
 have hs:s.state=1:=by rw[h.st,hq];rfl
 have e1:bm s c=jz s c:=by simp[bm,hs]
 have e2:M.look m c=M.text m c:=by simp[M.look,hq]
 have n1:c≠ -1:=by have:=hc.1;omega
 have n2:=oq hc
 rw[e1,e2]
 clear e1 e2
 obtain⟨h1,h2,h3,h4,h5,h6,h7,h8,h9,h10,h11,h12,me,ng,qf,h16⟩:=h
 simp only[hq]at h6 h7 h8 h9 h10 h12 me ng qf h16
 simp at h5 h6 h7 h8 h9 h10 h12 me ng qf h16
 by_cases a0:c=38
 ·simp only[jz,M.text,hq,n1,a0]
  refine .inl ⟨rfl,.inr (.inl ⟨rfl,⟨⟨?_,?_,?_,?_,?_,?_,?_,?_,?_,?_,?_,?_⟩,?_,?_⟩,rfl,rfl,rfl,rfl⟩)⟩<;>simp_all[dk,M.pc,M.st,M.on,M.err,M.wrong,M.je,M.ke,M.add,M.say,M.n8,M.dm,M.dw,M.tell,gv,kv,m7,jq,eg,bq,dt,dx,dy,tell,cj,wrong,bz,gd,ke,ko,dj,d9,dz,ci,fh hc,fg hc,m9,jd,rj,jy,du,zeroRef,backs,u45,u60,D2,u33,u38,tz,ua,Mu,mm,e0,e38,Zm,w38,gw hc]
 by_cases a1:c=60
 ·simp only[jz,M.text,hq,n1,a0,a1]
  refine .inl ⟨rfl,.inl ⟨?_,?_,?_,?_,?_,?_,?_,?_,?_,?_,?_,?_,?_,?_,?_,?_⟩⟩<;>simp_all[SB,fh hc,fg hc,gw hc]
 ·simp only[jz,M.text,hq,n1,a0,a1]
  refine .inl ⟨rfl,.inl ⟨?_,?_,?_,?_,?_,?_,?_,?_,?_,?_,?_,?_,?_,?_,?_,?_⟩⟩<;>simp_all[SB,fh hc,fg hc,gw hc]
theorem zpj(h:Rel 0 s m)(hq:m.state=2)(hc:Sc c):vb (bm s c) (M.look m c):=by
 have hs:s.state=2:=by rw[h.st,hq];rfl
 have e1:bm s c=l7 s c:=by simp[bm,hs]
 have e2:M.look m c=M.text m c:=by simp[M.look,hq]
 have n1:c≠ -1:=by have:=hc.1;omega
 have n2:=oq hc
 rw[e1,e2]
 clear e1 e2
 obtain⟨h1,h2,h3,h4,h5,h6,h7,h8,h9,h10,h11,h12,me,ng,qf,h16⟩:=h
 simp only[hq]at h6 h7 h8 h9 h10 h12 me ng qf h16
 simp at h5 h6 h7 h8 h9 h10 h12 me ng qf h16
 by_cases a0:c=38
 ·simp only[l7,M.text,hq,n1,a0]
  refine .inl ⟨rfl,.inl ⟨?_,?_,?_,?_,?_,?_,?_,?_,?_,?_,?_,?_,?_,?_,?_,?_⟩⟩<;>simp_all[SB,fh hc,fg hc,gw hc]
 by_cases a1:c=60
 ·simp only[l7,M.text,hq,n1,a0,a1]
  refine .inl ⟨rfl,.inl ⟨?_,?_,?_,?_,?_,?_,?_,?_,?_,?_,?_,?_,?_,?_,?_,?_⟩⟩<;>simp_all[SB,fh hc,fg hc,gw hc]
 ·simp only[l7,M.text,hq,n1,a0,a1]
  refine .inl ⟨rfl,.inl ⟨?_,?_,?_,?_,?_,?_,?_,?_,?_,?_,?_,?_,?_,?_,?_,?_⟩⟩<;>simp_all[SB,fh hc,fg hc,gw hc]
theorem zpk(h:Rel 0 s m)(hq:m.state=3)(hc:Sc c):vb (bm s c) (M.look m c):=by
 have hs:s.state=3:=by rw[h.st,hq];rfl
 have e1:bm s c=ju s c:=by simp[bm,hs]
 have e2:M.look m c=M.opens m c:=by simp[M.look,hq]
 have n1:c≠ -1:=by have:=hc.1;omega
 have n2:=oq hc
 rw[e1,e2]
 clear e1 e2
 obtain⟨h1,h2,h3,h4,h5,h6,h7,h8,h9,h10,h11,h12,me,ng,qf,h16⟩:=h
 simp only[hq]at h6 h7 h8 h9 h10 h12 me ng qf h16
 simp at h5 h6 h7 h8 h9 h10 h12 me ng qf h16
 by_cases a0:c=33
 ·simp only[ju,M.opens,hq,n1,a0]
  refine .inl ⟨rfl,.inr (.inr ⟨rfl,⟨?_,?_,?_,?_,?_,?_,?_,?_,?_,?_⟩,h11⟩)⟩<;>simp_all[SB,fh hc,fg hc,gw hc]
 by_cases a1:c=47
 ·simp only[ju,M.opens,hq,n1,a0,a1]
  refine .inl ⟨rfl,.inl ⟨?_,?_,?_,?_,?_,?_,?_,?_,?_,?_,?_,?_,?_,?_,?_,?_⟩⟩<;>simp_all[SB,fh hc,fg hc,gw hc]
 by_cases a2:br c=true
 ·simp only[ju,M.opens,hq,n1,a0,a1,a2]
  have tr:=l6.new m 1 (by omega) 8 (by omega)
  refine .inr ⟨rfl,.inl ⟨?_,?_,?_,?_,?_,?_,?_,?_,?_,?_,?_,?_,?_,?_,fun _=>tr,?_⟩⟩<;>simp_all[dk,M.pc,M.st,M.on,M.err,M.wrong,M.je,M.ke,M.add,M.say,M.n8,M.dm,M.dw,M.tell,gv,kv,m7,jq,eg,bq,dt,dx,dy,tell,cj,wrong,bz,gd,ke,ko,dj,d9,dz,ci,fh hc,fg hc,m9,jd,rj,jy,du,zeroRef,M.newTag,u45,u60,D2,u33,u38,tz,ua,Mu,mm,e0,e38,Zm,w38,gw hc]
 by_cases a3:c=63
 ·simp only[ju,M.opens,hq,n1,a0,a1,a2,a3]
  refine .inr ⟨rfl,.inl ⟨?_,?_,?_,?_,?_,?_,?_,?_,?_,?_,?_,?_,?_,?_,?_,?_⟩⟩<;>simp_all[SB,fh hc,fg hc,gw hc]
 ·simp only[ju,M.opens,hq,n1,a0,a1,a2,a3]
  refine .inr ⟨rfl,.inl ⟨?_,?_,?_,?_,?_,?_,?_,?_,?_,?_,?_,?_,?_,?_,?_,?_⟩⟩<;>simp_all[SB,fh hc,fg hc,gw hc]
theorem zpl(h:Rel 0 s m)(hq:m.state=4)(hc:Sc c):vb (bm s c) (M.look m c):=by
 have hs:s.state=4:=by rw[h.st,hq];rfl
 have e1:bm s c=kb s c:=by simp[bm,hs]
 have e2:M.look m c=M.opens m c:=by simp[M.look,hq]
 have n1:c≠ -1:=by have:=hc.1;omega
 have n2:=oq hc
 rw[e1,e2]
 clear e1 e2
 obtain⟨h1,h2,h3,h4,h5,h6,h7,h8,h9,h10,h11,h12,me,ng,qf,h16⟩:=h
 simp only[hq]at h6 h7 h8 h9 h10 h12 me ng qf h16
 simp at h5 h6 h7 h8 h9 h10 h12 me ng qf h16
 by_cases a0:br c=true
 ·simp only[kb,M.opens,hq,n1,a0]
  have tr:=l6.new m 2 (by omega) 8 (by omega)
  refine .inr ⟨rfl,.inl ⟨?_,?_,?_,?_,?_,?_,?_,?_,?_,?_,?_,?_,?_,?_,fun _=>tr,?_⟩⟩<;>simp_all[dk,M.pc,M.st,M.on,M.err,M.wrong,M.je,M.ke,M.add,M.say,M.n8,M.dm,M.dw,M.tell,gv,kv,m7,jq,eg,bq,dt,dx,dy,tell,cj,wrong,bz,gd,ke,ko,dj,d9,dz,ci,fh hc,fg hc,m9,jd,rj,jy,du,zeroRef,M.newTag,u45,u60,D2,u33,u38,tz,ua,Mu,mm,e0,e38,Zm,w38,gw hc]
 by_cases a1:c=62
 ·simp only[kb,M.opens,hq,n1,a0,a1]
  refine .inl ⟨rfl,.inl ⟨?_,?_,?_,?_,?_,?_,?_,?_,?_,?_,?_,?_,?_,?_,?_,?_⟩⟩<;>simp_all[SB,fh hc,fg hc,gw hc]
 ·simp only[kb,M.opens,hq,n1,a0,a1]
  refine .inr ⟨rfl,.inl ⟨?_,?_,?_,?_,?_,?_,?_,?_,?_,?_,?_,?_,?_,?_,?_,?_⟩⟩<;>simp_all[SB,fh hc,fg hc,gw hc]
theorem zpm(h:Rel 0 s m)(hq:m.state=5)(hc:Sc c):vb (bm s c) (M.look m c):=by
 have hs:s.state=5:=by rw[h.st,hq];rfl
 have e1:bm s c=mw s c:=by simp[bm,hs]
 have e2:M.look m c=M.less m c:=by simp[M.look,hq]
 have n1:c≠ -1:=by have:=hc.1;omega
 have n2:=oq hc
 rw[e1,e2]
 clear e1 e2
 obtain⟨h1,h2,h3,h4,h5,h6,h7,h8,h9,h10,h11,h12,me,ng,qf,h16⟩:=h
 simp only[hq]at h6 h7 h8 h9 h10 h12 me ng qf h16
 simp at h5 h6 h7 h8 h9 h10 h12 me ng qf h16
 obtain⟨hb,hb1⟩:=me
 by_cases a0:c=47
 ·simp only[mw,M.less,hq,n1,a0]
  refine .inl ⟨rfl,.inl ⟨?_,?_,?_,?_,?_,?_,?_,?_,?_,?_,?_,?_,?_,?_,?_,?_⟩⟩<;>simp_all[SB,fh hc,fg hc,gw hc]
 ·simp only[mw,M.less,hq,n1,a0]
  rcases hb1 with hb1|hb1
  all_goals(refine .inr ⟨rfl,.inl ⟨?_,?_,?_,?_,?_,?_,?_,?_,?_,?_,?_,?_,?_,?_,?_,?_⟩⟩<;>simp_all[SB,fh hc,fg hc,gw hc])
theorem zpn(h:Rel 0 s m)(hq:m.state=6)(hc:Sc c):vb (bm s c) (M.look m c):=by
 have hs:s.state=6:=by rw[h.st,hq];rfl
 have e1:bm s c=jc s c:=by simp[bm,hs]
 have e2:M.look m c=M.less m c:=by simp[M.look,hq]
 have n1:c≠ -1:=by have:=hc.1;omega
 have n2:=oq hc
 rw[e1,e2]
 clear e1 e2
 obtain⟨h1,h2,h3,h4,h5,h6,h7,h8,h9,h10,h11,h12,me,ng,qf,h16⟩:=h
 simp only[hq]at h6 h7 h8 h9 h10 h12 me ng qf h16
 simp at h5 h6 h7 h8 h9 h10 h12 me ng qf h16
 obtain⟨hb,hb1⟩:=me
 by_cases a0:br c=true
 ·simp only[jc,M.less,hq,n1,a0]
  have tr:=l6.new m 2 (by omega) 7 (by omega)
  refine .inr ⟨rfl,.inl ⟨?_,?_,?_,?_,?_,?_,?_,?_,?_,?_,?_,?_,?_,?_,fun _=>tr,?_⟩⟩<;>simp_all[dk,M.pc,M.st,M.on,M.err,M.wrong,M.je,M.ke,M.add,M.say,M.n8,M.dm,M.dw,M.tell,gv,kv,m7,jq,eg,bq,dt,dx,dy,tell,cj,wrong,bz,gd,ke,ko,dj,d9,dz,ci,fh hc,fg hc,m9,jd,rj,jy,du,zeroRef,M.newTag,u45,u60,D2,u33,u38,tz,ua,Mu,mm,e0,e38,Zm,w38,gw hc]
 ·simp only[jc,M.less,hq,n1,a0]
  rcases hb1 with hb1|hb1
  all_goals(refine .inr ⟨rfl,.inl ⟨?_,?_,?_,?_,?_,?_,?_,?_,?_,?_,?_,?_,?_,?_,?_,?_⟩⟩<;>simp_all[SB,fh hc,fg hc,gw hc])
theorem zpo(h:Rel 0 s m)(hq:m.state=7)(hc:Sc c):vb (bm s c) (M.look m c):=by
 have hs:s.state=7:=by rw[h.st,hq];rfl
 have e1:bm s c=jo s c:=by simp[bm,hs]
 have e2:M.look m c=M.less m c:=by simp[M.look,hq]
 have n1:c≠ -1:=by have:=hc.1;omega
 have n2:=oq hc
 rw[e1,e2]
 clear e1 e2
 obtain⟨h1,h2,h3,h4,h5,h6,h7,h8,h9,h10,h11,h12,me,ng,qf,h16⟩:=h
 simp only[hq]at h6 h7 h8 h9 h10 h12 me ng qf h16
 simp at h5 h6 h7 h8 h9 h10 h12 me ng qf h16
 obtain⟨hb,hb1⟩:=me
 obtain⟨k1,k2,k3⟩:=ng
 obtain⟨t1,t2,t3,t4,t5,t6,t7,t8,t9⟩:=qf
 by_cases a0:br c=true
 ·simp only[jo,M.less,hq,n1,a0]
  have tr:l6 (ob s c).tag {m with name:=m.name++[lw c],buf:=m.buf++[c],pos:=m.pos+1,state:=7}:=by
   constructor<;>simp_all[ob,gw (Kg hc)]
  refine .inl ⟨rfl,.inl ⟨?_,?_,?_,?_,?_,?_,?_,?_,?_,?_,?_,?_,?_,?_,fun _=>tr,?_⟩⟩<;>simp_all[dk,M.pc,M.st,M.on,M.err,M.wrong,M.je,M.ke,M.add,M.say,M.n8,M.dm,M.dw,M.tell,gv,kv,m7,jq,eg,bq,dt,dx,dy,tell,cj,wrong,bz,gd,ke,ko,dj,d9,dz,ci,fh hc,fg hc,m9,jd,rj,jy,du,zeroRef,gw (Kg hc),gw hc,ob,u45,u60,D2,u33,u38,tz,ua,Mu,mm,e0,e38,Zm,w38,gw hc]
 by_cases a1:(ba c=true∨c=47∨c=62)∧s.tag.name=s.lastStart
 ·simp only[jo,M.less,hq,n1,a0,a1,ob,t3.symm,h4.symm]
  have tr:l6 s.tag (M.st m 8):=by
   constructor<;>simp_all[M.st]
  refine .inr ⟨rfl,.inl ⟨?_,?_,?_,?_,?_,?_,?_,?_,?_,?_,?_,?_,?_,?_,fun _=>tr,?_⟩⟩<;>simp_all[SB,fh hc,fg hc,gw hc]
 ·simp only[jo,M.less,hq,n1,a0,a1,ob,t3.symm,h4.symm]
  rcases hb1 with hb1|hb1
  all_goals(refine .inr ⟨rfl,.inl ⟨?_,?_,?_,?_,?_,?_,?_,?_,?_,?_,?_,?_,?_,?_,?_,?_⟩⟩<;>simp_all[SB,fh hc,fg hc,gw hc])
theorem zmk(h:Rel 0 s m)(hq:m.state=19)(hc:Sc c):vb (bm s c) (M.look m c):=by
 have hs:s.state=19:=by rw[h.st,hq];rfl
 have e1:bm s c=mo s c:=by simp[bm,hs]
 have e2:M.look m c=M.comment m c:=by simp[M.look,hq]
 have n1:c≠ -1:=by have:=hc.1;omega
 have n2:=oq hc
 rw[e1,e2]
 clear e1 e2
 obtain⟨h1,h2,h3,h4,h5,h6,h7,h8,h9,h10,h11,h12,me,ng,qf,h16⟩:=h
 simp only[hq]at h6 h7 h8 h9 h10 h12 me ng qf h16
 simp at h5 h6 h7 h8 h9 h10 h12 me ng qf h16
 by_cases a0:c=62
 ·simp only[mo,M.comment,hq,n1,a0]
  refine .inl ⟨rfl,.inl ⟨?_,?_,?_,?_,?_,?_,?_,?_,?_,?_,?_,?_,?_,?_,?_,?_⟩⟩<;>simp_all[SB,fh hc,fg hc,gw hc]
 ·simp only[mo,M.comment,hq,n1,a0]
  refine .inl ⟨rfl,.inl ⟨?_,?_,?_,?_,?_,?_,?_,?_,?_,?_,?_,?_,?_,?_,?_,?_⟩⟩<;>simp_all[SB,fh hc,fg hc,gw hc]
theorem zml(h:Rel 0 s m)(hq:m.state=20)(hc:Sc c):vb (bm s c) (M.look m c):=by
 have hs:s.state=20:=by rw[h.st,hq];rfl
 have e1:bm s c=kn s c:=by simp[bm,hs]
 have e2:M.look m c=M.dashes m c:=by simp[M.look,hq]
 have n1:c≠ -1:=by have:=hc.1;omega
 have n2:=oq hc
 rw[e1,e2]
 clear e1 e2
 obtain⟨h1,h2,h3,h4,h5,h6,h7,h8,h9,h10,h11,h12,me,ng,qf,h16⟩:=h
 simp only[hq]at h6 h7 h8 h9 h10 h12 me ng qf h16
 simp at h5 h6 h7 h8 h9 h10 h12 me ng qf h16
 by_cases a0:c=45
 ·simp only[kn,M.dashes,hq,n1,a0]
  refine .inl ⟨rfl,.inl ⟨?_,?_,?_,?_,?_,?_,?_,?_,?_,?_,?_,?_,?_,?_,?_,?_⟩⟩<;>simp_all[SB,fh hc,fg hc,gw hc]
 by_cases a1:c=62
 ·simp only[kn,M.dashes,hq,n1,a0,a1]
  refine .inl ⟨rfl,.inl ⟨?_,?_,?_,?_,?_,?_,?_,?_,?_,?_,?_,?_,?_,?_,?_,?_⟩⟩<;>simp_all[SB,fh hc,fg hc,gw hc]
 ·simp only[kn,M.dashes,hq,n1,a0,a1]
  refine .inr ⟨rfl,.inl ⟨?_,?_,?_,?_,?_,?_,?_,?_,?_,?_,?_,?_,?_,?_,?_,?_⟩⟩<;>simp_all[SB,fh hc,fg hc,gw hc]
theorem zmm(h:Rel 0 s m)(hq:m.state=21)(hc:Sc c):vb (bm s c) (M.look m c):=by
 have hs:s.state=21:=by rw[h.st,hq];rfl
 have e1:bm s c=ik s c:=by simp[bm,hs]
 have e2:M.look m c=M.dashes m c:=by simp[M.look,hq]
 have n1:c≠ -1:=by have:=hc.1;omega
 have n2:=oq hc
 rw[e1,e2]
 clear e1 e2
 obtain⟨h1,h2,h3,h4,h5,h6,h7,h8,h9,h10,h11,h12,me,ng,qf,h16⟩:=h
 simp only[hq]at h6 h7 h8 h9 h10 h12 me ng qf h16
 simp at h5 h6 h7 h8 h9 h10 h12 me ng qf h16
 by_cases a0:c=62
 ·simp only[ik,dk,M.dashes,hq,n1,a0]
  refine .inl ⟨rfl,.inl ⟨?_,?_,?_,?_,?_,?_,?_,?_,?_,?_,?_,?_,?_,?_,?_,?_⟩⟩<;>simp_all[SB,fh hc,fg hc,gw hc]
 by_cases a1:c=45
 ·simp only[ik,dk,M.dashes,hq,n1,a0,a1]
  refine .inl ⟨rfl,.inl ⟨?_,?_,?_,?_,?_,?_,?_,?_,?_,?_,?_,?_,?_,?_,?_,?_⟩⟩<;>simp_all[SB,fh hc,fg hc,gw hc]
 ·simp only[ik,dk,M.dashes,hq,n1,a0,a1]
  refine .inr ⟨rfl,.inl ⟨?_,?_,?_,?_,?_,?_,?_,?_,?_,?_,?_,?_,?_,?_,?_,?_⟩⟩<;>simp_all[SB,fh hc,fg hc,gw hc]
theorem zmn(h:Rel 0 s m)(hq:m.state=22)(hc:Sc c):vb (bm s c) (M.look m c):=by
 have hs:s.state=22:=by rw[h.st,hq];rfl
 have e1:bm s c=jh s c:=by simp[bm,hs]
 have e2:M.look m c=M.comment m c:=by simp[M.look,hq]
 have n1:c≠ -1:=by have:=hc.1;omega
 have n2:=oq hc
 rw[e1,e2]
 clear e1 e2
 obtain⟨h1,h2,h3,h4,h5,h6,h7,h8,h9,h10,h11,h12,me,ng,qf,h16⟩:=h
 simp only[hq]at h6 h7 h8 h9 h10 h12 me ng qf h16
 simp at h5 h6 h7 h8 h9 h10 h12 me ng qf h16
 by_cases a0:c=45
 ·simp only[jh,M.comment,hq,n1,a0]
  refine .inl ⟨rfl,.inl ⟨?_,?_,?_,?_,?_,?_,?_,?_,?_,?_,?_,?_,?_,?_,?_,?_⟩⟩<;>simp_all[SB,fh hc,fg hc,gw hc]
 ·simp only[jh,M.comment,hq,n1,a0]
  refine .inl ⟨rfl,.inl ⟨?_,?_,?_,?_,?_,?_,?_,?_,?_,?_,?_,?_,?_,?_,?_,?_⟩⟩<;>simp_all[SB,fh hc,fg hc,gw hc]
theorem zmo(h:Rel 0 s m)(hq:m.state=23)(hc:Sc c):vb (bm s c) (M.look m c):=by
 have hs:s.state=23:=by rw[h.st,hq];rfl
 have e1:bm s c=dk s c:=by simp[bm,hs]
 have e2:M.look m c=M.dashes m c:=by simp[M.look,hq]
 have n1:c≠ -1:=by have:=hc.1;omega
 have n2:=oq hc
 rw[e1,e2]
 clear e1 e2
 obtain⟨h1,h2,h3,h4,h5,h6,h7,h8,h9,h10,h11,h12,me,ng,qf,h16⟩:=h
 simp only[hq]at h6 h7 h8 h9 h10 h12 me ng qf h16
 simp at h5 h6 h7 h8 h9 h10 h12 me ng qf h16
 by_cases a0:c=45
 ·simp only[dk,M.dashes,hq,n1,a0]
  refine .inl ⟨rfl,.inl ⟨?_,?_,?_,?_,?_,?_,?_,?_,?_,?_,?_,?_,?_,?_,?_,?_⟩⟩<;>simp_all[SB,fh hc,fg hc,gw hc]
 ·simp only[dk,M.dashes,hq,n1,a0]
  refine .inr ⟨rfl,.inl ⟨?_,?_,?_,?_,?_,?_,?_,?_,?_,?_,?_,?_,?_,?_,?_,?_⟩⟩<;>simp_all[SB,fh hc,fg hc,gw hc]
theorem zmp(h:Rel 0 s m)(hq:m.state=24)(hc:Sc c):vb (bm s c) (M.look m c):=by
 have hs:s.state=24:=by rw[h.st,hq];rfl
 have e1:bm s c=iw s c:=by simp[bm,hs]
 have e2:M.look m c=M.dashes m c:=by simp[M.look,hq]
 have n1:c≠ -1:=by have:=hc.1;omega
 have n2:=oq hc
 rw[e1,e2]
 clear e1 e2
 obtain⟨h1,h2,h3,h4,h5,h6,h7,h8,h9,h10,h11,h12,me,ng,qf,h16⟩:=h
 simp only[hq]at h6 h7 h8 h9 h10 h12 me ng qf h16
 simp at h5 h6 h7 h8 h9 h10 h12 me ng qf h16
 by_cases a0:c=62
 ·simp only[iw,M.dashes,hq,n1,a0]
  refine .inl ⟨rfl,.inl ⟨?_,?_,?_,?_,?_,?_,?_,?_,?_,?_,?_,?_,?_,?_,?_,?_⟩⟩<;>simp_all[SB,fh hc,fg hc,gw hc]
 by_cases a1:c=33
 ·simp only[iw,M.dashes,hq,n1,a0,a1]
  refine .inl ⟨rfl,.inl ⟨?_,?_,?_,?_,?_,?_,?_,?_,?_,?_,?_,?_,?_,?_,?_,?_⟩⟩<;>simp_all[SB,fh hc,fg hc,gw hc]
 by_cases a2:c=45
 ·simp only[iw,M.dashes,hq,n1,a0,a1,a2]
  refine .inl ⟨rfl,.inl ⟨?_,?_,?_,?_,?_,?_,?_,?_,?_,?_,?_,?_,?_,?_,?_,?_⟩⟩<;>simp_all[SB,fh hc,fg hc,gw hc]
 ·simp only[iw,M.dashes,hq,n1,a0,a1,a2]
  refine .inr ⟨rfl,.inl ⟨?_,?_,?_,?_,?_,?_,?_,?_,?_,?_,?_,?_,?_,?_,?_,?_⟩⟩<;>simp_all[SB,fh hc,fg hc,gw hc]
theorem zmq(h:Rel 0 s m)(hq:m.state=25)(hc:Sc c):vb (bm s c) (M.look m c):=by
 have hs:s.state=25:=by rw[h.st,hq];rfl
 have e1:bm s c=lf s c:=by simp[bm,hs]
 have e2:M.look m c=M.dashes m c:=by simp[M.look,hq]
 have n1:c≠ -1:=by have:=hc.1;omega
 have n2:=oq hc
 rw[e1,e2]
 clear e1 e2
 obtain⟨h1,h2,h3,h4,h5,h6,h7,h8,h9,h10,h11,h12,me,ng,qf,h16⟩:=h
 simp only[hq]at h6 h7 h8 h9 h10 h12 me ng qf h16
 simp at h5 h6 h7 h8 h9 h10 h12 me ng qf h16
 by_cases a0:c=45
 ·simp only[lf,M.dashes,hq,n1,a0]
  refine .inl ⟨rfl,.inl ⟨?_,?_,?_,?_,?_,?_,?_,?_,?_,?_,?_,?_,?_,?_,?_,?_⟩⟩<;>simp_all[SB,fh hc,fg hc,gw hc]
 by_cases a1:c=62
 ·simp only[lf,M.dashes,hq,n1,a0,a1]
  refine .inl ⟨rfl,.inl ⟨?_,?_,?_,?_,?_,?_,?_,?_,?_,?_,?_,?_,?_,?_,?_,?_⟩⟩<;>simp_all[SB,fh hc,fg hc,gw hc]
 ·simp only[lf,M.dashes,hq,n1,a0,a1]
  refine .inr ⟨rfl,.inl ⟨?_,?_,?_,?_,?_,?_,?_,?_,?_,?_,?_,?_,?_,?_,?_,?_⟩⟩<;>simp_all[SB,fh hc,fg hc,gw hc]
theorem zmr(h:Rel 0 s m)(hq:m.state=26)(hc:Sc c):vb (bm s c) (M.look m c):=by
 have hs:s.state=26:=by rw[h.st,hq];rfl
 have e1:bm s c=ix s c:=by simp[bm,hs]
 have e2:M.look m c=M.js m c:=by simp[M.look,hq]
 have n1:c≠ -1:=by have:=hc.1;omega
 have n2:=oq hc
 rw[e1,e2]
 clear e1 e2
 obtain⟨h1,h2,h3,h4,h5,h6,h7,h8,h9,h10,h11,h12,me,ng,qf,h16⟩:=h
 simp only[hq]at h6 h7 h8 h9 h10 h12 me ng qf h16
 simp at h5 h6 h7 h8 h9 h10 h12 me ng qf h16
 by_cases a0:ba c=true
 ·simp only[ix,M.js,hq,n1,a0]
  refine .inl ⟨rfl,.inl ⟨?_,?_,?_,?_,?_,?_,?_,?_,?_,?_,?_,?_,?_,?_,?_,?_⟩⟩<;>simp_all[SB,fh hc,fg hc,gw hc]
 by_cases a1:c=62
 ·simp only[ix,M.js,hq,n1,a0,a1]
  refine .inr ⟨rfl,.inl ⟨?_,?_,?_,?_,?_,?_,?_,?_,?_,?_,?_,?_,?_,?_,?_,?_⟩⟩<;>simp_all[SB,fh hc,fg hc,gw hc]
 ·simp only[ix,M.js,hq,n1,a0,a1]
  refine .inr ⟨rfl,.inl ⟨?_,?_,?_,?_,?_,?_,?_,?_,?_,?_,?_,?_,?_,?_,?_,?_⟩⟩<;>simp_all[SB,fh hc,fg hc,gw hc]
theorem zms(h:Rel 0 s m)(hq:m.state=27)(hc:Sc c):vb (bm s c) (M.look m c):=by
 have hs:s.state=27:=by rw[h.st,hq];rfl
 have e1:bm s c=ki s c:=by simp[bm,hs]
 have e2:M.look m c=M.js m c:=by simp[M.look,hq]
 have n1:c≠ -1:=by have:=hc.1;omega
 have n2:=oq hc
 rw[e1,e2]
 clear e1 e2
 obtain⟨h1,h2,h3,h4,h5,h6,h7,h8,h9,h10,h11,h12,me,ng,qf,h16⟩:=h
 simp only[hq]at h6 h7 h8 h9 h10 h12 me ng qf h16
 simp at h5 h6 h7 h8 h9 h10 h12 me ng qf h16
 by_cases a0:ba c=true
 ·simp only[ki,M.js,hq,n1,a0]
  refine .inl ⟨rfl,.inl ⟨?_,?_,?_,?_,?_,?_,?_,?_,?_,?_,?_,?_,?_,?_,?_,?_⟩⟩<;>simp_all[SB,fh hc,fg hc,gw hc]
 by_cases a1:c=62
 ·simp only[ki,M.js,hq,n1,a0,a1]
  refine .inl ⟨rfl,.inl ⟨?_,?_,?_,?_,?_,?_,?_,?_,?_,?_,?_,?_,?_,?_,?_,?_⟩⟩<;>simp_all[SB,fh hc,fg hc,gw hc]
 ·simp only[ki,M.js,hq,n1,a0,a1]
  refine .inl ⟨rfl,.inl ⟨?_,?_,?_,?_,?_,?_,?_,?_,?_,?_,?_,?_,?_,?_,?_,?_⟩⟩<;>simp_all[SB,fh hc,fg hc,gw hc]
theorem zmt(h:Rel 0 s m)(hq:m.state=28)(hc:Sc c):vb (bm s c) (M.look m c):=by
 have hs:s.state=28:=by rw[h.st,hq];rfl
 have e1:bm s c=g8 s c:=by simp[bm,hs]
 have e2:M.look m c=M.js m c:=by simp[M.look,hq]
 have n1:c≠ -1:=by have:=hc.1;omega
 have n2:=oq hc
 rw[e1,e2]
 clear e1 e2
 obtain⟨h1,h2,h3,h4,h5,h6,h7,h8,h9,h10,h11,h12,me,ng,qf,h16⟩:=h
 simp only[hq]at h6 h7 h8 h9 h10 h12 me ng qf h16
 simp at h5 h6 h7 h8 h9 h10 h12 me ng qf h16
 by_cases a0:c=62
 ·simp only[g8,b62,M.js,hq,n1,a0]
  refine .inl ⟨rfl,.inl ⟨?_,?_,?_,?_,?_,?_,?_,?_,?_,?_,?_,?_,?_,?_,?_,?_⟩⟩<;>simp_all[SB,fh hc,fg hc,gw hc]
 by_cases a1:ba c=true
 ·simp only[g8,b62,M.js,hq,n1,a0,a1]
  refine .inl ⟨rfl,.inl ⟨?_,?_,?_,?_,?_,?_,?_,?_,?_,?_,?_,?_,?_,?_,?_,?_⟩⟩<;>simp_all[SB,fh hc,fg hc,gw hc]
 ·simp only[g8,b62,M.js,hq,n1,a0,a1]
  refine .inl ⟨rfl,.inl ⟨?_,?_,?_,?_,?_,?_,?_,?_,?_,?_,?_,?_,?_,?_,?_,?_⟩⟩<;>simp_all[SB,fh hc,fg hc,gw hc]
theorem zmu(h:Rel 0 s m)(hq:m.state=29)(hc:Sc c):vb (bm s c) (M.look m c):=by
 have hs:s.state=29:=by rw[h.st,hq];rfl
 have e1:bm s c=iy s c:=by simp[bm,hs]
 have e2:M.look m c=M.js m c:=by simp[M.look,hq]
 have n1:c≠ -1:=by have:=hc.1;omega
 have n2:=oq hc
 rw[e1,e2]
 clear e1 e2
 obtain⟨h1,h2,h3,h4,h5,h6,h7,h8,h9,h10,h11,h12,me,ng,qf,h16⟩:=h
 simp only[hq]at h6 h7 h8 h9 h10 h12 me ng qf h16
 simp at h5 h6 h7 h8 h9 h10 h12 me ng qf h16
 by_cases a0:c=62
 ·simp only[iy,b62,M.js,hq,n1,a0]
  refine .inl ⟨rfl,.inl ⟨?_,?_,?_,?_,?_,?_,?_,?_,?_,?_,?_,?_,?_,?_,?_,?_⟩⟩<;>simp_all[SB,fh hc,fg hc,gw hc]
 by_cases a1:ba c=true
 ·simp only[iy,b62,M.js,hq,n1,a0,a1]
  refine .inl ⟨rfl,.inl ⟨?_,?_,?_,?_,?_,?_,?_,?_,?_,?_,?_,?_,?_,?_,?_,?_⟩⟩<;>simp_all[SB,fh hc,fg hc,gw hc]
 ·simp only[iy,b62,M.js,hq,n1,a0,a1]
  refine .inr ⟨rfl,.inl ⟨?_,?_,?_,?_,?_,?_,?_,?_,?_,?_,?_,?_,?_,?_,?_,?_⟩⟩<;>simp_all[SB,fh hc,fg hc,gw hc]
theorem zmv(h:Rel 0 s m)(hq:m.state=30)(hc:Sc c):vb (bm s c) (M.look m c):=by
 have hs:s.state=30:=by rw[h.st,hq];rfl
 have e1:bm s c=g9 s c:=by simp[bm,hs]
 have e2:M.look m c=M.js m c:=by simp[M.look,hq]
 have n1:c≠ -1:=by have:=hc.1;omega
 have n2:=oq hc
 rw[e1,e2]
 clear e1 e2
 obtain⟨h1,h2,h3,h4,h5,h6,h7,h8,h9,h10,h11,h12,me,ng,qf,h16⟩:=h
 simp only[hq]at h6 h7 h8 h9 h10 h12 me ng qf h16
 simp at h5 h6 h7 h8 h9 h10 h12 me ng qf h16
 by_cases a0:c=62
 ·simp only[g9,M.js,hq,n1,a0]
  refine .inl ⟨rfl,.inl ⟨?_,?_,?_,?_,?_,?_,?_,?_,?_,?_,?_,?_,?_,?_,?_,?_⟩⟩<;>simp_all[SB,fh hc,fg hc,gw hc]
 by_cases a1:c=0
 ·simp only[g9,M.js,hq,n1,a0,a1]
  refine .inl ⟨rfl,.inl ⟨?_,?_,?_,?_,?_,?_,?_,?_,?_,?_,?_,?_,?_,?_,?_,?_⟩⟩<;>simp_all[SB,fh hc,fg hc,gw hc]
 ·simp only[g9,M.js,hq,n1,a0,a1]
  refine .inl ⟨rfl,.inl ⟨?_,?_,?_,?_,?_,?_,?_,?_,?_,?_,?_,?_,?_,?_,?_,?_⟩⟩<;>simp_all[SB,fh hc,fg hc,gw hc]
variable{s:TS}{m:M.MS}{c:Int}{d:Int}{t:zd0}
theorem yb(m:M.MS):M.ep m={m with attrs:=(M.ep m).attrs,opn:=false}:=by
 unfold M.ep;split<;>rfl
theorem La(h:l6 t m):(M.ep m).attrs=mu t.cy:=by
 cases ho:m.opn with
 |false=>
  obtain⟨a,b⟩:=h.none ho
  unfold M.ep;simp[ho,a,b,mu]
 |true=>
  obtain⟨pre,v,a,b,e,f⟩:=h.some ho
  unfold M.ep
  rw[a,Fk,e]
  cases hd:m.drop with
  |true=>simp[ho,mu]
  |false=>rw[au ⟨ho,rfl⟩,b hd];simp[mu]
theorem zh1(h:l6 t m):(0<(mu t.cy).length)↔t.cy≠[]:=by
 cases ho:m.opn with
 |false=>
  obtain⟨a,b⟩:=h.none ho
  simp[b,mu]
 |true=>
  obtain⟨pre,v,a,b,e,f⟩:=h.some ho
  rw[a,Fk,e]
  cases hd:m.drop with
  |true=>have:=f hd;simp[mu,List.length_pos_iff,this]
  |false=>simp[mu]
theorem I3(n:Str):kh n=0∨kh n=1∨kh n=2:=by
 unfold kh;repeat' split
 all_goals simp
theorem Cp(h1:s.told=m.told)(h2:s.text=M.jk m.text)(h3:s9 m.text)(h4:s.lastStart=m.last)(h5:s.place=m.pos)(h8:s.comment=[])(h9:s.jw=[])(h10:s.odd=false)(h11:s.declared=[])(ht:l6 s.tag m):Rel 1 (mh s) (M.ot m):=by
 have ca:=La ht
 have an:=zh1 ht
 unfold M.ot mh M.cu
 rw[yb,ca]
 rcases ht.k12 with hk|hk
 ·have hk2:=ht.kind
  rw[hk]at hk2
  simp only[hk2,hk]
  unfold startTag tell M.tell
  simp only[kv,gv]
  rw[ht.name]
  rcases I3 (M.jk m.name)with hb|hb|hb
  all_goals(constructor<;>simp_all[rg,cj,M.pc,ci,ht.closes,ht.name,mm])
 ·have hk2:=ht.kind
  rw[hk]at hk2
  have hne:¬s.tag.kind=1:=by omega
  simp only[hne,hk,if_false,if_true]
  unfold ti tell M.tell
  simp only[kv,gv]
  unfold M.vm M.Bl
  rw[ht.closes,ht.name]
  by_cases ha:s.tag.cy=[]
  ·have hl:¬(0<(mu s.tag.cy).length):=by rw[an];simp[ha]
   cases hf:m.flag<;>(constructor<;>simp_all[rg,cj,wrong,bz,M.err,M.wrong,M.pc,ci,mm])
  ·have hl:(0<(mu s.tag.cy).length):=by rw[an];exact ha
   cases hf:m.flag<;>(constructor<;>simp_all[rg,cj,wrong,bz,M.err,M.wrong,M.pc,ci,mm])
theorem V5(ht:l6 s.tag m)(hq:m.state=10)(h1:s.told=m.told)(h5:s.place=m.pos)(q:Nat)(hq2:q≠10):
  (mg s).told=(M.ol m).told∧l6 (mg s).tag (M.st (M.ol m) q)∧(∃tg tl,mg s={s with tag:=tg,told:=tl})∧(∃tl dr,M.ol m={m with told:=tl,drop:=dr}):=by
 obtain⟨hd,ho⟩:=ht.nd hq
 obtain⟨pre,v,a,b,e,f⟩:=ht.some ho
 have hn:=ht.names
 simp only[hq,ho,hd]at hn
 have hev:Even m.attrs:=by rw[←e];exact Dp pre
 have hk:=K9 (M.jk m.key) m.attrs hev
 have hl:uq s=M.jk m.key:=by simp[uq,a]
 have hn':s.tag.names.getD []=keysOf m.attrs:=by simpa using hn
 cases hh:(keysOf m.attrs).contains (M.jk m.key)with
 |true=>
  have e1:mg s={wrong s Jl with tag:={s.tag with cy:=pre++[⟨M.jk m.key,v,true⟩]}}:=by
   unfold mg;rw[hn',hl,au hh,a,Fl]
  have e2:M.ol m=M.err {m with drop:=true} [116,119,105,99,101]:=by
   unfold M.ol M.Bk;rw[hk,hh,hd];rfl
  have hne:m.attrs≠[]:=by intro z;rw[z]at hh;simp[keysOf]at hh
  obtain⟨t1,t2,t3,t4,t5,t6,t7,t8,t9⟩:=ht
  refine⟨?_,?_,⟨_,_,e1⟩,⟨_,_,e2⟩⟩
  ·rw[e1,e2];simp[wrong,bz,cj,M.err,M.wrong,h1,h5,Jl]
  ·rw[e1,e2]
   refine⟨t1,t2,t3,t4,t5,?_,fun _=>⟨pre,v,rfl,?_,e,fun _=>hne⟩,?_,?_⟩
   ·intro z;simp[M.st,M.err,M.wrong,ho]at z
   ·intro z;simp[M.st,M.err,M.wrong]at z
   ·simpa[M.st,M.err,M.wrong]using hn'
   ·intro z;exact absurd z hq2
 |false=>
  have e1:mg s={s with tag:={s.tag with names:=some (keysOf m.attrs++[M.jk m.key])}}:=by
   unfold mg p6;rw[hn',hl,ag (by rw[hh];simp),ag (by rw[hh];simp)]
  have e2:M.ol m={m with drop:=false}:=by
   unfold M.ol M.Bk;rw[hk,hh,hd];rfl
  obtain⟨t1,t2,t3,t4,t5,t6,t7,t8,t9⟩:=ht
  refine⟨?_,?_,⟨_,_,e1⟩,⟨_,_,e2⟩⟩
  ·rw[e1,e2];exact h1
  ·rw[e1,e2]
   refine⟨t1,t2,t3,t4,t5,?_,fun _=>⟨pre,v,?_,fun _=>b hd,e,?_⟩,?_,?_⟩
   ·intro z;simp[M.st,ho]at z
   ·rw[a,hd];rfl
   ·intro z;simp[M.st]at z
   ·simp[M.st,ho,hq2]
   ·intro z;exact absurd z hq2
theorem Fm(ht:l6 s.tag m)(hq:m.state≠10):l6 (lp s).tag (M.st (M.qp m) 10):=by
 have ca:=La ht
 have hn:=ht.names
 have hx:(M.ep m).attrs=m.attrs++(if m.opn=true∧m.drop=false then[M.jk m.key,M.jk m.value]else[]):=by
  unfold M.ep;split<;>simp
 have hev:Even m.attrs:=by
  cases ho:m.opn with
  |false=>rw[(ht.none ho).1];rfl
  |true=>obtain⟨pre,v,a,b,e,f⟩:=ht.some ho;rw[←e];exact Dp pre
 unfold M.qp
 rw[yb,ca]
 refine⟨ht.kind,ht.k12,ht.name,ht.closes,ht.gone,?_,fun _=>⟨s.tag.cy,[],rfl,fun _=>rfl,rfl,?_⟩,?_,fun _=>⟨rfl,rfl⟩⟩
 ·intro z;simp[M.st]at z
 ·intro z;simp[M.st]at z
 ·show s.tag.names.getD []=_
  rw[hn]
  simp only[M.st]
  rw[←ca,hx]
  by_cases z:m.opn=true∧m.drop=false
  ·simp[z.1,z.2,hq,Zl _ _ _ hev]
  ·by_cases z1:m.opn=true
   ·have:m.drop=true:=by simpa[z1]using z
    simp[this]
   ·simp[z1]
theorem Fn(ht:l6 s.tag m)(hq:m.state=10)(hc:Sc c)(p:Nat)(tl:List Tok):l6 (kr s c).tag {m with key:=m.key++[c],pos:=p,told:=tl}:=by
 obtain⟨hd,ho⟩:=ht.nd hq
 obtain⟨pre,v,a,b,e,f⟩:=ht.some ho
 have hn:=ht.names
 obtain⟨t1,t2,t3,t4,t5,t6,t7,t8,t9⟩:=ht
 refine⟨t1,t2,t3,t4,t5,?_,fun _=>⟨pre,v,?_,b,e,f⟩,?_,fun _=>⟨hd,ho⟩⟩
 ·intro z;simp[ho]at z
 ·show re _ s.tag.cy=_
  rw[a,Fl];simp[gw hc]
 ·show s.tag.names.getD []=_
  rw[hn];simp[hq]
theorem yc(ht:l6 s.tag m)(hc:Sc c)(hq:m.state≠10)(p:Nat)(tl:List Tok):l6 (fw s c).tag {m with value:=m.value++[c],pos:=p,told:=tl}:=by
 obtain⟨t1,t2,t3,t4,t5,t6,t7,t8,t9⟩:=ht
 refine⟨t1,t2,t3,t4,t5,?_,?_,t8,t9⟩
 ·intro z;obtain⟨x,y⟩:=t6 z
  refine⟨x,?_⟩
  show re _ s.tag.cy=_
  rw[y];rfl
 ·intro z;obtain⟨pre,v,a,b,e,f⟩:=t7 z
  cases hd:m.drop with
  |true=>
   refine⟨pre,v,?_,?_,e,fun _=>f hd⟩
   ·show re _ s.tag.cy=_
    rw[a,Fl];simp[hd]
   ·intro y;exact absurd y (by simp[hd])
  |false=>
   refine⟨pre,v++Lib.encodeRune c,?_,?_,e,?_⟩
   ·show re _ s.tag.cy=_
    rw[a,Fl];simp[hd]
   ·intro _;rw[b hd];simp[gw hc]
   ·intro y;exact absurd y (by simp[hd])
end Go.Proofs.YtdfmapcnfficlaaGreatDoor.Si

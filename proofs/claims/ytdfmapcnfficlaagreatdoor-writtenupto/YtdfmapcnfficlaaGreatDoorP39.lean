import Derived.Test.YtdfmapcnfficlaaGreatDoorP38
set_option linter.all false
set_option maxHeartbeats 1000000
namespace Go.Proofs.YtdfmapcnfficlaaGreatDoor.Si
open Go Go.RowKit
variable{s:TS}{m m':M.MS}{c:Int}{d:Int}{n:Nat}{p:List Int}{a:Bool}
theorem tt(h:0≤M.ahead m n):m.pos+n<m.l.length:=by
 unfold M.ahead at h
 cases e:m.l[m.pos+n]? with
 |none=>rw[e]at h;simp at h
 |some x=>exact(cd.1 e).1
theorem Dq(m:M.MS)(x:List Int):∃tx vl,M.give m x={m with text:=tx,value:=vl}∧tx.length+vl.length=m.text.length+m.value.length+x.length:=by
 unfold M.give
 split
 ·exact⟨_,_,rfl,by simp;omega⟩
 ·exact⟨_,_,rfl,by simp;omega⟩
theorem A9(h:MInv m)(hs:m.state=31∨m.state=33)(h1:m'.state=m.back)(h2:m'.gone=m.gone)(h3:m'.pos≤m'.l.length):MInv m':=by
 have b:=h.back hs
 have b2:=yd b
 refine⟨.inl (by omega),?_,?_,?_,h3⟩
 ·intro z1 z2;omega
 ·intro z;omega
 ·intro z;rw[h2];exact h.gone (.inr ⟨hs,by omega⟩)
theorem Tp(h:MInv m)(hs:m.state=31∨m.state=33)(h1:m'.state=33)(h0:m'.back=m.back)(h2:m'.gone=m.gone)(h3:m'.pos≤m'.l.length):MInv m':=by
 refine⟨.inr h1,?_,?_,?_,h3⟩
 ·intro z1 z2;omega
 ·intro z;rw[h0];exact h.back hs
 ·intro z;rw[h2];refine h.gone (.inr ⟨hs,?_⟩);rw[h0]at z;omega
theorem Fv(h:m.state=31∨m.state=33):ph m=M.mj m:=by unfold ph;rw[ag (by omega)];rfl
theorem Dr(h:MInv m)(hs:m.state=31∨m.state=33)(h1:m'.state=m.back):ph m'=M.mj m':=by
 have:=yd (h.back hs);unfold ph;rw[ag (by omega)];rfl
theorem zfq(h:MInv m)(hp:m.pos<m.l.length)(hs:m.state=33):Adv m (M.En m c):=by
 unfold M.En
 split
 ·obtain⟨tx,vl,e,k⟩:=Dq m [c]
  rw[e]
  refine⟨Tp h (.inr hs) hs rfl rfl hp,?_,rfl,rfl⟩
  have q:=Fv (m:=M.on {m with text:=tx,value:=vl}) (.inr hs)
  rw[q,Fv (m:=m) (.inr hs)]
  simp only[M.mj,M.on]at k⊢
  simp at k;omega
 ·split
  ·refine⟨A9 h (.inr hs) rfl rfl h.pos,?_,rfl,rfl⟩
   rw[Fv (.inr hs),Dr h (.inr hs) rfl]
   simp[M.mj,M.st,M.err,M.wrong];omega
  ·refine⟨A9 h (.inr hs) rfl rfl h.pos,?_,rfl,rfl⟩
   rw[Fv (.inr hs),Dr h (.inr hs) rfl]
   simp[M.mj,M.st]
theorem uz(b:Bool)(w:Str)(hw:w≠[])(h:w.length≤M.ly m w b):m.pos+w.length≤m.l.length:=by
 have:=((Hp b w).1 h).length_le
 rw[sd,List.length_map,fj]at this
 have:=List.length_pos_iff.2 hw
 omega
theorem Ao:∀x∈M.oc,x.1.length≤7∧x.1≠[]:=by decide
theorem Ja(h:MInv m)(hs:m.state=31){x:List Int}(hx:x.length≤9)(k:Nat)(hk:m.pos+k≤m.l.length)(nm:Option Str)(q:Int):
  Adv m (M.jump (M.give (match nm with|none=>m|some n=>M.wrong m n q) x) k m.back):=by
 cases nm with
 |none=>
  obtain⟨tx,vl,e,e2⟩:=Dq m x
  simp only
  rw[e]
  refine⟨A9 h (.inl hs) rfl rfl hk,?_,rfl,rfl⟩
  rw[Fv (.inl hs),Dr h (.inl hs) rfl]
  simp only[M.mj,M.jump];omega
 |some nm=>
  obtain⟨tx,vl,e,e2⟩:=Dq (M.wrong m nm q) x
  simp only
  rw[e]
  refine⟨A9 h (.inl hs) rfl rfl hk,?_,rfl,rfl⟩
  rw[Fv (.inl hs),Dr h (.inl hs) rfl]
  simp only[M.mj,M.jump,M.wrong]at e2⊢
  simp;omega
theorem Ps(six:Bool):∀(f k:Nat)(x:Int),m.pos+k≤m.l.length→m.pos+(M.digits m six f k x).1≤m.l.length
 |0,k,x,h=>h
 |f+1,k,x,h=>by
  rw[M.digits]
  split
  ·exact h
  ·next z=>
   apply Ps six f
   have:0≤M.ahead m k:=by
    unfold M.Q0 at z
    by_cases y:0≤M.ahead m k
    ·exact y
    ·exfalso;apply z
     rw[ag (by omega),ag (by omega),ag (by omega)];omega
   have:=tt this
   omega
theorem Pu(m:M.MS)(x:Int):∃tl,M.meaning m x={m with told:=tl}∧tl.length≤m.told.length+1:=by
 unfold M.meaning
 split
 ·exact⟨_,rfl,by simp⟩
 ·exact⟨_,rfl,by simp⟩
theorem zb6(h:MInv m)(hs:m.state=31)(h0:M.ahead m 0=35)(hn:M.number m=some m'):Adv m m':=by
 have p0:=tt (m:=m) (n:=0) (by rw[h0];omega)
 have p1:m.pos+M.o9 m≤m.l.length:=by
  unfold M.o9
  split
  ·next z=>
   unfold M.vf at z
   have:0≤M.ahead m 1:=by
    rcases Bool.or_eq_true _ _▸z with y|y
    ·have:=eq_of_beq y;omega
    ·have:=eq_of_beq y;omega
   have:=tt this;omega
  ·omega
 have p2:m.pos+(M.pe m).1≤m.l.length:=Ps _ _ _ _ p1
 have fd:M.o9 m≤2:=by unfold M.o9;split<;>omega
 unfold M.number at hn
 split at hn
 ·cases hn
 split at hn
 ·injection hn with hn
  subst hn
  rw[Cq]
  obtain⟨tx,vl,e,e2⟩:=Dq (M.wrong (M.st m m.back) [100,105,103,105,116,115] (m.pos+M.o9 m:Nat)) ([38]++(m.l.drop m.pos).take (M.o9 m))
  rw[e]
  refine⟨A9 h (.inl hs) rfl rfl p1,?_,rfl,rfl⟩
  rw[Fv (.inl hs),Dr h (.inl hs) rfl]
  simp only[M.mj,M.wrong,M.st]at e2⊢
  simp at e2⊢;omega
 split at hn
 ·next z=>
  injection hn with hn
  subst hn
  obtain⟨tl,e1,e3⟩:=Pu {M.st m m.back with pos:=m.pos+(M.pe m).1+1} (M.pe m).2
  rw[e1]
  obtain⟨tx,vl,e,e2⟩:=Dq {({M.st m m.back with pos:=m.pos+(M.pe m).1+1}:M.MS)with told:=tl} [(M.meant (M.pe m).2).1]
  rw[e]
  have:=tt (m:=m) (n:=(M.pe m).1) (by rw[z];omega)
  refine⟨A9 h (.inl hs) rfl rfl (by show m.pos+(M.pe m).1+1≤m.l.length;omega),?_,rfl,rfl⟩
  rw[Fv (.inl hs),Dr h (.inl hs) rfl]
  simp only[M.mj,M.st]at e2 e3⊢
  simp at e2⊢;omega
 ·injection hn with hn
  subst hn
  obtain⟨tl,e1,e3⟩:=Pu {M.wrong (M.st m m.back) [115,101,109,105,99,111,108,111,110] (m.pos+(M.pe m).1:Nat)with pos:=m.pos+(M.pe m).1} (M.pe m).2
  rw[e1]
  obtain⟨tx,vl,e,e2⟩:=Dq {({M.wrong (M.st m m.back) [115,101,109,105,99,111,108,111,110] (m.pos+(M.pe m).1:Nat)with pos:=m.pos+(M.pe m).1}:M.MS)with told:=tl} [(M.meant (M.pe m).2).1]
  rw[e]
  refine⟨A9 h (.inl hs) rfl rfl p2,?_,rfl,rfl⟩
  rw[Fv (.inl hs),Dr h (.inl hs) rfl]
  simp only[M.mj,M.st,M.wrong]at e2 e3⊢
  simp at e2 e3⊢;omega
theorem Sg(h:MInv m)(hs:m.state=31)(hn:M.reference m=some m'):Adv m m':=by
 unfold M.reference at hn
 split at hn
 ·cases hn
 split at hn
 ·next z=>exact zb6 h hs z hn
 split at hn
 ·injection hn with hn
  subst hn
  exact Ja h hs (x:=[38]) (by simp) 0 h.pos none 0
 split at hn
 ·cases hn
 cases hf:M.found m with
 |none=>
  rw[hf]at hn
  simp only at hn
  injection hn with hn
  subst hn
  obtain⟨tx,vl,e,e2⟩:=Dq m [38]
  rw[e]
  refine⟨Tp h (.inl hs) rfl rfl rfl h.pos,?_,rfl,rfl⟩
  rw[Fv (.inl hs),Fv (.inr rfl)]
  simp only[M.mj,M.st]at e2⊢
  simp at e2;omega
 |some x=>
  rw[hf]at hn
  simp only at hn
  unfold M.found at hf
  have hm:=List.mem_of_find?_eq_some hf
  have hf2:=List.find?_some hf
  simp only[decide_eq_true_eq]at hf2
  obtain⟨n1,n2⟩:=Ao x hm
  have hk:=uz false x.1 n2 hf2
  split at hn
  ·injection hn with hn
   subst hn
   exact Ja h hs (x:=[x.2]) (by simp) _ hk none 0
  split at hn
  ·cases hn
  split at hn
  ·injection hn with hn
   subst hn
   rw[Cq]
   exact Ja h hs (x:=[38]++(m.l.drop m.pos).take x.1.length) (by simp;omega) _ hk none 0
  ·injection hn with hn
   subst hn
   exact Ja h hs (x:=[x.2]) (by simp) _ hk (some [115,101,109,105,99,111,108,111,110]) _
theorem zig(h:MInv m)(hs:m.state=18)(hn:M.decl m=some m'):Adv m m':=by
 have h7:ph m=M.mj m:=by unfold ph;rw[ag (by omega)];rfl
 unfold M.decl at hn
 split at hn
 ·cases hn
 split at hn
 ·next z=>
  injection hn with hn
  subst hn
  have:=uz false [45,45] (by simp) (by rw[z];simp)
  exact⟨⟨.inl (by simp[M.jump]),by simp[M.jump],by simp[M.jump],by simp[M.jump],this⟩,by rw[h7];simp[ph,M.mj,M.jump];omega,rfl,rfl⟩
 split at hn
 ·next z=>
  injection hn with hn
  subst hn
  have:=uz true [100,111,99,116,121,112,101] (by simp) (by rw[z];simp)
  exact⟨⟨.inl (by simp[M.jump]),by simp[M.jump],by simp[M.jump],by simp[M.jump],this⟩,by rw[h7];simp[ph,M.mj,M.jump];omega,rfl,rfl⟩
 split at hn
 ·next z=>
  injection hn with hn
  subst hn
  have:=uz false [91,67,68,65,84,65,91] (by simp) (by rw[z];simp)
  exact⟨⟨.inl (by simp[M.jump]),by simp[M.jump],by simp[M.jump],by simp[M.jump],this⟩,by rw[h7];simp[ph,M.mj,M.jump,M.add,M.err,M.wrong,M.n8];omega,rfl,rfl⟩
 ·injection hn with hn
  subst hn
  exact⟨⟨.inl (by simp[M.st]),by simp[M.st],by simp[M.st],by simp[M.st],h.pos⟩,by rw[h7];simp[ph,M.mj,M.st,M.err,M.wrong];omega,rfl,rfl⟩
theorem zih(h:MInv m)(hp:m.pos<m.l.length)(h31:m.state≠31)(h18:m.state≠18):Adv m (M.look m c):=by
 have ok:=h.ok
 unfold M.look
 split
 ·exact zie h hp (by omega)
 split
 ·exact zfq h hp (by omega)
 split
 ·exact zfo h hp (by omega)
 split
 ·exact zif h hp (by omega)
 split
 ·exact zkt h hp (by omega)
 split
 ·exact zb4 h hp (by omega)
 split
 ·exact zfp h hp (by omega)
 split
 ·exact Zt h hp (by omega)
 split
 ·exact zb5 h hp (by omega)
 ·exact Zu h hp (by omega)
theorem Pv(h:MInv m)(hn:M.step m=some m'):Adv m m':=by
 unfold M.step at hn
 split at hn
 ·next z=>exact Sg h z hn
 split at hn
 ·next z=>exact zig h z hn
 split at hn
 ·cases hn
 ·next z1 z2 z=>
  injection hn with hn
  subst hn
  have:=tt (m:=m) (n:=0) (by omega)
  exact zih h (by omega) z1 z2
theorem xj:∀(i:Nat){m m':M.MS},MInv m→Steps i m m'→MInv m'∧ph m'≤ph m+64*i∧m'.l=m.l∧m'.whole=m.whole
 |0,m,m',h,hs=>by cases hs;exact⟨h,by omega,rfl,rfl⟩
 |i+1,m,m',h,⟨m1,e,hs⟩=>by
  have a:=Pv h e
  obtain⟨b1,b2,b3,b4⟩:=xj i a.inv hs
  have:=a.ph
  exact⟨b1,by omega,by rw[b3,a.l],by rw[b4,a.whole]⟩
theorem Pw:∀(i:Nat){m m':M.MS},MInv m→Steps i m m'→M.step m'=none→ph m+64*i+64≤lim→M.Xu i m m'
 |0,m,m',h,hs,hn,hl=>by
  cases hs
  refine⟨⟨h.ok,fun z1 z2=>h.gone (.inl ⟨by omega,z2⟩),?_⟩,hn,rfl⟩
  unfold ph at hl;omega
 |i+1,m,m',h,⟨m1,e,hs⟩,hn,hl=>by
  have a:=Pv h e
  have:=a.ph
  refine⟨⟨h.ok,fun z1 z2=>h.gone (.inl ⟨by omega,z2⟩),?_⟩,m1,e,Pw i a.inv hs hn (by omega)⟩
  unfold ph at hl;omega
variable{s:TS}{m m':M.MS}{c:Int}{d:Int}{n:Nat}{p:List Int}{a:Bool}
theorem zfr(h:Rel 0 s m)(hc:Sc c):vb (bm s c) (M.look m c):=by
 have ok:=h.ok
 have hq:m.state=0∨m.state=1∨m.state=2∨m.state=3∨m.state=4∨m.state=5∨m.state=6∨m.state=7∨m.state=8∨m.state=9∨m.state=10∨m.state=11∨m.state=12∨m.state=13∨m.state=14∨m.state=15∨m.state=16∨m.state=17∨m.state=19∨m.state=20∨m.state=21∨m.state=22∨m.state=23∨m.state=24∨m.state=25∨m.state=26∨m.state=27∨m.state=28∨m.state=29∨m.state=30∨m.state=33:=by omega
 rcases hq with q|q|q|q|q|q|q|q|q|q|q|q|q|q|q|q|q|q|q|q|q|q|q|q|q|q|q|q|q|q|q
 ·exact zph h q hc
 ·exact zpi h q hc
 ·exact zpj h q hc
 ·exact zpk h q hc
 ·exact zpl h q hc
 ·exact zpm h q hc
 ·exact zpn h q hc
 ·exact zpo h q hc
 ·exact zpq h q hc
 ·exact zpr h q hc
 ·exact zmw h q hc
 ·exact zmx h q hc
 ·exact zmy h q hc
 ·exact zmz h q hc
 ·exact zm0 h q hc
 ·exact zm1 h q hc
 ·exact zm2 h q hc
 ·exact zm3 h q hc
 ·exact zmk h q hc
 ·exact zml h q hc
 ·exact zmm h q hc
 ·exact zmn h q hc
 ·exact zmo h q hc
 ·exact zmp h q hc
 ·exact zmq h q hc
 ·exact zmr h q hc
 ·exact zms h q hc
 ·exact zmt h q hc
 ·exact zmu h q hc
 ·exact zmv h q hc
 ·exact zm5 h q hc
def At(s:TS)(m:M.MS)(c:Int):Prop:=(m.l[s.place.toNat]?).getD (-1)=c∧0≤s.place
theorem Px(h:At s m c)(hp:s.place=(m.pos+n:Nat)):M.ahead m n=c:=by
 unfold M.ahead;rw[←h.1,hp];rfl
theorem Zv(h:(∃p,PR 0 a s m p)∨(∃p,PD 0 s m p))(hl:s9 m.l)(hk:m.pos≤m.l.length)(hat:At s m c)(hc:Sc c∨(c= -1∧m.whole=true)):∃i m',i≤9∧Steps i m m'∧V8 (bm s c) m':=by
 rcases h with⟨p,h⟩|⟨p,h⟩
 ·have hx:Nx m p.length c:=⟨Px hat (by have:=h.1.rc.place;omega),hc⟩
  have hs:=h.2.2
  rcases hs with⟨z,_⟩|⟨z,_⟩|⟨z,_⟩|⟨z,_⟩
  ·exact zm6 h z hx
  ·exact zm9 h z hx hl hk
  ·exact zm7 h z hx
  ·exact zm8 h z hx
 ·have hx:Nx m p.length c:=⟨Px hat (by have:=h.1.place;omega),hc⟩
  exact zna h hx hl hk
theorem zii(h:RelA 0 a s m)(hl:s9 m.l)(hk:m.pos≤m.l.length)(hat:At s m c)(hc:Sc c):∃i m',i≤9∧Steps i m m'∧V8 (bm s c) m':=by
 rcases h with h|h
 ·have e:M.ahead m 0=c:=Px hat (by have:=h.place;omega)
  have ok:=h.ok
  have hs:=Kk (m:=m) (by omega) (by omega) (by rw[e];exact hc.1)
  rw[e]at hs
  exact⟨1,_,by omega,Steps.one hs,(zfr h hc).all⟩
 ·exact Zv h hl hk hat (.inl hc)
theorem Tq(hc:Sc c):∀(n:Nat)(s:TS)(m:M.MS)(a:Bool),RelA 0 a s m→Good s c→rank s.state c<n→s9 m.l→MInv m→At s m c→
  ∃i m',i≤9*n∧Steps i m m'∧RelA 1 false (jg n s c) m'∧(∀c',Good (jg n s c) c')∧tw s (jg n s c)
 |0,s,m,a,h,g,hr,hl,hi,hat=>by omega
 |n+1,s,m,a,h,g,hr,hl,hi,hat=>by
  obtain⟨i,m1,hi9,st,rw1⟩:=zii h hl hi.pos hat hc
  rw[jg]
  rcases rw1 with⟨v,k⟩|⟨v,k⟩
  ·rw[au v]
   refine⟨i,m1,by omega,st,k,?_,vr⟩
   rcases zb g with⟨_,e⟩|⟨e,_⟩
   ·exact e (by have:=hc.1;omega)
   ·rw[v]at e;cases e
  ·rw[ag (by rw[v];decide)]
   obtain⟨b1,b2,b3,b4⟩:=xj i hi st
   have hg:=zb g
   rcases hg with⟨e,_⟩|⟨_,g2,r2⟩
   ·rw[v]at e;cases e
   ·have hp:(bm s c).2.place=s.place:=(vr (s:=s) (c:=c)).2.2.2.2.2
    obtain⟨j,m2,hj,st2,k2,k3,k4⟩:=Tq hc n _ m1 true k g2 (by omega) (by rw[b3];exact hl) b1 (by unfold At;rw[hp,b3];exact hat)
    have k5:=vr (s:=s) (c:=c)
    exact⟨i+j,m2,by omega,st.cat st2,k2,k3,k4.1.trans k5.1,k4.2.1.trans k5.2.1,k4.2.2.1.trans k5.2.2.1,k4.2.2.2.1.trans k5.2.2.2.1,k4.2.2.2.2.1.trans k5.2.2.2.2.1,k4.2.2.2.2.2.trans k5.2.2.2.2.2⟩
def pk(s:TS)(m:M.MS):Prop:=s.told=m.told∧s.text=M.jk m.text∧s9 m.text
theorem zpv(h:Rel 0 s m)(hq:m.state=0):pk (jg (n+1) s (-1)) (M.ends m):=by
 have hs:s.state=0:=by rw[h.st,hq];rfl
 obtain⟨h1,h2,h3,h4,h5,h6,h7,h8,h9,h10,h11,h12,me,ng,qf,h16⟩:=h
 simp only[hq]at h8 h9 h10 me ng h16
 simp at h5 h8 h9 h10 me ng h16
 unfold pk M.ends
 simp_all[jg,bm,dk,kx,M.err,M.wrong,M.add,M.say,M.n8,M.dm,M.dw,M.tell,gv,kv,eg,bq,dt,dx,dy,tell,cj,wrong,bz,gd,dj,d9,dz,iq,ci,m9,jd,mm,tz,ua,u60,D2,br,ba,fc]
theorem zpw(h:Rel 0 s m)(hq:m.state=1):pk (jg (n+1) s (-1)) (M.ends m):=by
 have hs:s.state=1:=by rw[h.st,hq];rfl
 obtain⟨h1,h2,h3,h4,h5,h6,h7,h8,h9,h10,h11,h12,me,ng,qf,h16⟩:=h
 simp only[hq]at h8 h9 h10 me ng h16
 simp at h5 h8 h9 h10 me ng h16
 unfold pk M.ends
 simp_all[jg,bm,dk,jz,M.err,M.wrong,M.add,M.say,M.n8,M.dm,M.dw,M.tell,gv,kv,eg,bq,dt,dx,dy,tell,cj,wrong,bz,gd,dj,d9,dz,iq,ci,m9,jd,mm,tz,ua,u60,D2,br,ba,fc]
theorem zpx(h:Rel 0 s m)(hq:m.state=2):pk (jg (n+1) s (-1)) (M.ends m):=by
 have hs:s.state=2:=by rw[h.st,hq];rfl
 obtain⟨h1,h2,h3,h4,h5,h6,h7,h8,h9,h10,h11,h12,me,ng,qf,h16⟩:=h
 simp only[hq]at h8 h9 h10 me ng h16
 simp at h5 h8 h9 h10 me ng h16
 unfold pk M.ends
 simp_all[jg,bm,dk,l7,M.err,M.wrong,M.add,M.say,M.n8,M.dm,M.dw,M.tell,gv,kv,eg,bq,dt,dx,dy,tell,cj,wrong,bz,gd,dj,d9,dz,iq,ci,m9,jd,mm,tz,ua,u60,D2,br,ba,fc]
theorem zpy(h:Rel 0 s m)(hq:m.state=3):pk (jg (n+1) s (-1)) (M.ends m):=by
 have hs:s.state=3:=by rw[h.st,hq];rfl
 obtain⟨h1,h2,h3,h4,h5,h6,h7,h8,h9,h10,h11,h12,me,ng,qf,h16⟩:=h
 simp only[hq]at h8 h9 h10 me ng h16
 simp at h5 h8 h9 h10 me ng h16
 unfold pk M.ends
 simp_all[jg,bm,dk,ju,M.err,M.wrong,M.add,M.say,M.n8,M.dm,M.dw,M.tell,gv,kv,eg,bq,dt,dx,dy,tell,cj,wrong,bz,gd,dj,d9,dz,iq,ci,m9,jd,mm,tz,ua,u60,D2,br,ba,fc]
theorem zpz(h:Rel 0 s m)(hq:m.state=4):pk (jg (n+1) s (-1)) (M.ends m):=by
 have hs:s.state=4:=by rw[h.st,hq];rfl
 obtain⟨h1,h2,h3,h4,h5,h6,h7,h8,h9,h10,h11,h12,me,ng,qf,h16⟩:=h
 simp only[hq]at h8 h9 h10 me ng h16
 simp at h5 h8 h9 h10 me ng h16
 unfold pk M.ends
 simp_all[jg,bm,dk,kb,M.err,M.wrong,M.add,M.say,M.n8,M.dm,M.dw,M.tell,gv,kv,eg,bq,dt,dx,dy,tell,cj,wrong,bz,gd,dj,d9,dz,iq,ci,m9,jd,mm,tz,ua,u60,D2,br,ba,fc]
theorem zp0(h:Rel 0 s m)(hq:m.state=5):pk (jg (n+2) s (-1)) (M.ends m):=by
 have hs:s.state=5:=by rw[h.st,hq];rfl
 obtain⟨h1,h2,h3,h4,h5,h6,h7,h8,h9,h10,h11,h12,me,ng,qf,h16⟩:=h
 simp only[hq]at h8 h9 h10 me ng h16
 simp at h5 h8 h9 h10 me ng h16
 obtain⟨hb,hb1⟩:=me
 unfold pk M.ends
 rcases hb1 with hb1|hb1<;>simp_all[jg,bm,dk,mw,M.err,M.wrong,M.add,M.say,M.n8,M.dm,M.dw,M.tell,gv,kv,eg,bq,dt,dx,dy,tell,cj,wrong,bz,gd,dj,d9,dz,iq,ci,m9,jd,mm,tz,ua,u60,D2,br,ba,fc,jy,jz,l7]
theorem zp1(h:Rel 0 s m)(hq:m.state=6):pk (jg (n+2) s (-1)) (M.ends m):=by
 have hs:s.state=6:=by rw[h.st,hq];rfl
 obtain⟨h1,h2,h3,h4,h5,h6,h7,h8,h9,h10,h11,h12,me,ng,qf,h16⟩:=h
 simp only[hq]at h8 h9 h10 me ng h16
 simp at h5 h8 h9 h10 me ng h16
 obtain⟨hb,hb1⟩:=me
 unfold pk M.ends
 rcases hb1 with hb1|hb1<;>simp_all[jg,bm,dk,jc,M.err,M.wrong,M.add,M.say,M.n8,M.dm,M.dw,M.tell,gv,kv,eg,bq,dt,dx,dy,tell,cj,wrong,bz,gd,dj,d9,dz,iq,ci,m9,jd,mm,tz,ua,u60,D2,br,ba,fc,jy,jz,l7]
theorem zp2(h:Rel 0 s m)(hq:m.state=7):pk (jg (n+2) s (-1)) (M.ends m):=by
 have hs:s.state=7:=by rw[h.st,hq];rfl
 obtain⟨h1,h2,h3,h4,h5,h6,h7,h8,h9,h10,h11,h12,me,ng,qf,h16⟩:=h
 simp only[hq]at h8 h9 h10 me ng h16
 simp at h5 h8 h9 h10 me ng h16
 obtain⟨hb,hb1⟩:=me
 unfold pk M.ends
 rcases hb1 with hb1|hb1<;>simp_all[jg,bm,dk,jo,M.err,M.wrong,M.add,M.say,M.n8,M.dm,M.dw,M.tell,gv,kv,eg,bq,dt,dx,dy,tell,cj,wrong,bz,gd,dj,d9,dz,iq,ci,m9,jd,mm,tz,ua,u60,D2,br,ba,fc,jy,jz,l7]
theorem zp3(h:Rel 0 s m)(hq:m.state=8):pk (jg (n+1) s (-1)) (M.ends m):=by
 have hs:s.state=8:=by rw[h.st,hq];rfl
 obtain⟨h1,h2,h3,h4,h5,h6,h7,h8,h9,h10,h11,h12,me,ng,qf,h16⟩:=h
 simp only[hq]at h8 h9 h10 me ng h16
 simp at h5 h8 h9 h10 me ng h16
 unfold pk M.ends
 simp_all[jg,bm,dk,lu,M.err,M.wrong,M.add,M.say,M.n8,M.dm,M.dw,M.tell,gv,kv,eg,bq,dt,dx,dy,tell,cj,wrong,bz,gd,dj,d9,dz,iq,ci,m9,jd,mm,tz,ua,u60,D2,br,ba,fc]
theorem zp4(h:Rel 0 s m)(hq:m.state=9):pk (jg (n+2) s (-1)) (M.ends m):=by
 have hs:s.state=9:=by rw[h.st,hq];rfl
 obtain⟨h1,h2,h3,h4,h5,h6,h7,h8,h9,h10,h11,h12,me,ng,qf,h16⟩:=h
 simp only[hq]at h8 h9 h10 me ng h16
 simp at h5 h8 h9 h10 me ng h16
 unfold pk M.ends
 simp_all[jg,bm,dk,ka,M.err,M.wrong,M.add,M.say,M.n8,M.dm,M.dw,M.tell,gv,kv,eg,bq,dt,dx,dy,tell,cj,wrong,bz,gd,dj,d9,dz,iq,ci,m9,jd,mm,tz,ua,u60,D2,br,ba,fc,iu]
theorem znb(h:Rel 0 s m)(hq:m.state=10):pk (jg (n+2) s (-1)) (M.ends m):=by
 have hs:s.state=10:=by rw[h.st,hq];rfl
 have tr:=h.tag (by omega)
 obtain⟨k1,k2,⟨tg,tl,k3⟩,tl2,dr,k4⟩:=V5 tr hq h.told (by have:=h.place;omega) 11 (by omega)
 obtain⟨h1,h2,h3,h4,h5,h6,h7,h8,h9,h10,h11,h12,me,ng,qf,h16⟩:=h
 simp only[hq]at h8 h9 h10 me ng h16
 simp at h5 h8 h9 h10 me ng h16
 have e1:bm s (-1)=(1,{mg s with state:=11}):=by simp[bm,hs,jf]
 have e2:M.ends m=M.err (M.ol m) [101,110,100,45,105,110,45,116,97,103]:=by unfold M.ends;simp[hq]
 rw[e2,jg,e1,ag (by simp),jg,k3,k4]
 rw[k3,k4]at k1
 simp only at k1
 unfold pk
 simp_all[bm,iu,ba,iq,wrong,bz,cj,M.err,M.wrong]
theorem znc(h:Rel 0 s m)(hq:m.state=11):pk (jg (n+1) s (-1)) (M.ends m):=by
 have hs:s.state=11:=by rw[h.st,hq];rfl
 obtain⟨h1,h2,h3,h4,h5,h6,h7,h8,h9,h10,h11,h12,me,ng,qf,h16⟩:=h
 simp only[hq]at h8 h9 h10 me ng h16
 simp at h5 h8 h9 h10 me ng h16
 unfold pk M.ends
 simp_all[jg,bm,dk,iu,M.err,M.wrong,M.add,M.say,M.n8,M.dm,M.dw,M.tell,gv,kv,eg,bq,dt,dx,dy,tell,cj,wrong,bz,gd,dj,d9,dz,iq,ci,m9,jd,mm,tz,ua,u60,D2,br,ba,fc]
theorem znd(h:Rel 0 s m)(hq:m.state=12):pk (jg (n+2) s (-1)) (M.ends m):=by
 have hs:s.state=12:=by rw[h.st,hq];rfl
 obtain⟨h1,h2,h3,h4,h5,h6,h7,h8,h9,h10,h11,h12,me,ng,qf,h16⟩:=h
 simp only[hq]at h8 h9 h10 me ng h16
 simp at h5 h8 h9 h10 me ng h16
 unfold pk M.ends
 simp_all[jg,bm,dk,iz,M.err,M.wrong,M.add,M.say,M.n8,M.dm,M.dw,M.tell,gv,kv,eg,bq,dt,dx,dy,tell,cj,wrong,bz,gd,dj,d9,dz,iq,ci,m9,jd,mm,tz,ua,u60,D2,br,ba,fc,f8]
theorem zne(h:Rel 0 s m)(hq:m.state=13):pk (jg (n+1) s (-1)) (M.ends m):=by
 have hs:s.state=13:=by rw[h.st,hq];rfl
 obtain⟨h1,h2,h3,h4,h5,h6,h7,h8,h9,h10,h11,h12,me,ng,qf,h16⟩:=h
 simp only[hq]at h8 h9 h10 me ng h16
 simp at h5 h8 h9 h10 me ng h16
 unfold pk M.ends
 simp_all[jg,bm,dk,jm,M.err,M.wrong,M.add,M.say,M.n8,M.dm,M.dw,M.tell,gv,kv,eg,bq,dt,dx,dy,tell,cj,wrong,bz,gd,dj,d9,dz,iq,ci,m9,jd,mm,tz,ua,u60,D2,br,ba,fc]
theorem znf(h:Rel 0 s m)(hq:m.state=14):pk (jg (n+1) s (-1)) (M.ends m):=by
 have hs:s.state=14:=by rw[h.st,hq];rfl
 obtain⟨h1,h2,h3,h4,h5,h6,h7,h8,h9,h10,h11,h12,me,ng,qf,h16⟩:=h
 simp only[hq]at h8 h9 h10 me ng h16
 simp at h5 h8 h9 h10 me ng h16
 unfold pk M.ends
 simp_all[jg,bm,dk,jn,M.err,M.wrong,M.add,M.say,M.n8,M.dm,M.dw,M.tell,gv,kv,eg,bq,dt,dx,dy,tell,cj,wrong,bz,gd,dj,d9,dz,iq,ci,m9,jd,mm,tz,ua,u60,D2,br,ba,fc]
theorem zng(h:Rel 0 s m)(hq:m.state=15):pk (jg (n+1) s (-1)) (M.ends m):=by
 have hs:s.state=15:=by rw[h.st,hq];rfl
 obtain⟨h1,h2,h3,h4,h5,h6,h7,h8,h9,h10,h11,h12,me,ng,qf,h16⟩:=h
 simp only[hq]at h8 h9 h10 me ng h16
 simp at h5 h8 h9 h10 me ng h16
 unfold pk M.ends
 simp_all[jg,bm,dk,f8,M.err,M.wrong,M.add,M.say,M.n8,M.dm,M.dw,M.tell,gv,kv,eg,bq,dt,dx,dy,tell,cj,wrong,bz,gd,dj,d9,dz,iq,ci,m9,jd,mm,tz,ua,u60,D2,br,ba,fc]
theorem znh(h:Rel 0 s m)(hq:m.state=16):pk (jg (n+1) s (-1)) (M.ends m):=by
 have hs:s.state=16:=by rw[h.st,hq];rfl
 obtain⟨h1,h2,h3,h4,h5,h6,h7,h8,h9,h10,h11,h12,me,ng,qf,h16⟩:=h
 simp only[hq]at h8 h9 h10 me ng h16
 simp at h5 h8 h9 h10 me ng h16
 unfold pk M.ends
 simp_all[jg,bm,dk,jr,M.err,M.wrong,M.add,M.say,M.n8,M.dm,M.dw,M.tell,gv,kv,eg,bq,dt,dx,dy,tell,cj,wrong,bz,gd,dj,d9,dz,iq,ci,m9,jd,mm,tz,ua,u60,D2,br,ba,fc]
theorem zni(h:Rel 0 s m)(hq:m.state=17):pk (jg (n+1) s (-1)) (M.ends m):=by
 have hs:s.state=17:=by rw[h.st,hq];rfl
 obtain⟨h1,h2,h3,h4,h5,h6,h7,h8,h9,h10,h11,h12,me,ng,qf,h16⟩:=h
 simp only[hq]at h8 h9 h10 me ng h16
 simp at h5 h8 h9 h10 me ng h16
 unfold pk M.ends
 simp_all[jg,bm,dk,lq,M.err,M.wrong,M.add,M.say,M.n8,M.dm,M.dw,M.tell,gv,kv,eg,bq,dt,dx,dy,tell,cj,wrong,bz,gd,dj,d9,dz,iq,ci,m9,jd,mm,tz,ua,u60,D2,br,ba,fc]
theorem znj(h:Rel 0 s m)(hq:m.state=19):pk (jg (n+1) s (-1)) (M.ends m):=by
 have hs:s.state=19:=by rw[h.st,hq];rfl
 obtain⟨h1,h2,h3,h4,h5,h6,h7,h8,h9,h10,h11,h12,me,ng,qf,h16⟩:=h
 simp only[hq]at h8 h9 h10 me ng h16
 simp at h5 h8 h9 h10 me ng h16
 unfold pk M.ends
 simp_all[jg,bm,dk,mo,M.err,M.wrong,M.add,M.say,M.n8,M.dm,M.dw,M.tell,gv,kv,eg,bq,dt,dx,dy,tell,cj,wrong,bz,gd,dj,d9,dz,iq,ci,m9,jd,mm,tz,ua,u60,D2,br,ba,fc]
theorem znk(h:Rel 0 s m)(hq:m.state=20):pk (jg (n+2) s (-1)) (M.ends m):=by
 have hs:s.state=20:=by rw[h.st,hq];rfl
 obtain⟨h1,h2,h3,h4,h5,h6,h7,h8,h9,h10,h11,h12,me,ng,qf,h16⟩:=h
 simp only[hq]at h8 h9 h10 me ng h16
 simp at h5 h8 h9 h10 me ng h16
 unfold pk M.ends
 simp_all[jg,bm,dk,kn,M.err,M.wrong,M.add,M.say,M.n8,M.dm,M.dw,M.tell,gv,kv,eg,bq,dt,dx,dy,tell,cj,wrong,bz,gd,dj,d9,dz,iq,ci,m9,jd,mm,tz,ua,u60,D2,br,ba,fc,jh]
theorem znl(h:Rel 0 s m)(hq:m.state=21):pk (jg (n+1) s (-1)) (M.ends m):=by
 have hs:s.state=21:=by rw[h.st,hq];rfl
 obtain⟨h1,h2,h3,h4,h5,h6,h7,h8,h9,h10,h11,h12,me,ng,qf,h16⟩:=h
 simp only[hq]at h8 h9 h10 me ng h16
 simp at h5 h8 h9 h10 me ng h16
 unfold pk M.ends
 simp_all[jg,bm,dk,ik,M.err,M.wrong,M.add,M.say,M.n8,M.dm,M.dw,M.tell,gv,kv,eg,bq,dt,dx,dy,tell,cj,wrong,bz,gd,dj,d9,dz,iq,ci,m9,jd,mm,tz,ua,u60,D2,br,ba,fc]
theorem znm(h:Rel 0 s m)(hq:m.state=22):pk (jg (n+1) s (-1)) (M.ends m):=by
 have hs:s.state=22:=by rw[h.st,hq];rfl
 obtain⟨h1,h2,h3,h4,h5,h6,h7,h8,h9,h10,h11,h12,me,ng,qf,h16⟩:=h
 simp only[hq]at h8 h9 h10 me ng h16
 simp at h5 h8 h9 h10 me ng h16
 unfold pk M.ends
 simp_all[jg,bm,dk,jh,M.err,M.wrong,M.add,M.say,M.n8,M.dm,M.dw,M.tell,gv,kv,eg,bq,dt,dx,dy,tell,cj,wrong,bz,gd,dj,d9,dz,iq,ci,m9,jd,mm,tz,ua,u60,D2,br,ba,fc]
theorem znn(h:Rel 0 s m)(hq:m.state=23):pk (jg (n+1) s (-1)) (M.ends m):=by
 have hs:s.state=23:=by rw[h.st,hq];rfl
 obtain⟨h1,h2,h3,h4,h5,h6,h7,h8,h9,h10,h11,h12,me,ng,qf,h16⟩:=h
 simp only[hq]at h8 h9 h10 me ng h16
 simp at h5 h8 h9 h10 me ng h16
 unfold pk M.ends
 simp_all[jg,bm,dk,dk,M.err,M.wrong,M.add,M.say,M.n8,M.dm,M.dw,M.tell,gv,kv,eg,bq,dt,dx,dy,tell,cj,wrong,bz,gd,dj,d9,dz,iq,ci,m9,jd,mm,tz,ua,u60,D2,br,ba,fc]
theorem zno(h:Rel 0 s m)(hq:m.state=24):pk (jg (n+1) s (-1)) (M.ends m):=by
 have hs:s.state=24:=by rw[h.st,hq];rfl
 obtain⟨h1,h2,h3,h4,h5,h6,h7,h8,h9,h10,h11,h12,me,ng,qf,h16⟩:=h
 simp only[hq]at h8 h9 h10 me ng h16
 simp at h5 h8 h9 h10 me ng h16
 unfold pk M.ends
 simp_all[jg,bm,dk,iw,M.err,M.wrong,M.add,M.say,M.n8,M.dm,M.dw,M.tell,gv,kv,eg,bq,dt,dx,dy,tell,cj,wrong,bz,gd,dj,d9,dz,iq,ci,m9,jd,mm,tz,ua,u60,D2,br,ba,fc]
theorem znp(h:Rel 0 s m)(hq:m.state=25):pk (jg (n+1) s (-1)) (M.ends m):=by
 have hs:s.state=25:=by rw[h.st,hq];rfl
 obtain⟨h1,h2,h3,h4,h5,h6,h7,h8,h9,h10,h11,h12,me,ng,qf,h16⟩:=h
 simp only[hq]at h8 h9 h10 me ng h16
 simp at h5 h8 h9 h10 me ng h16
 unfold pk M.ends
 simp_all[jg,bm,dk,lf,M.err,M.wrong,M.add,M.say,M.n8,M.dm,M.dw,M.tell,gv,kv,eg,bq,dt,dx,dy,tell,cj,wrong,bz,gd,dj,d9,dz,iq,ci,m9,jd,mm,tz,ua,u60,D2,br,ba,fc]
theorem znq(h:Rel 0 s m)(hq:m.state=26):pk (jg (n+1) s (-1)) (M.ends m):=by
 have hs:s.state=26:=by rw[h.st,hq];rfl
 obtain⟨h1,h2,h3,h4,h5,h6,h7,h8,h9,h10,h11,h12,me,ng,qf,h16⟩:=h
 simp only[hq]at h8 h9 h10 me ng h16
 simp at h5 h8 h9 h10 me ng h16
 unfold pk M.ends
 simp_all[jg,bm,dk,ix,M.err,M.wrong,M.add,M.say,M.n8,M.dm,M.dw,M.tell,gv,kv,eg,bq,dt,dx,dy,tell,cj,wrong,bz,gd,dj,d9,dz,iq,ci,m9,jd,mm,tz,ua,u60,D2,br,ba,fc]
theorem znr(h:Rel 0 s m)(hq:m.state=27):pk (jg (n+1) s (-1)) (M.ends m):=by
 have hs:s.state=27:=by rw[h.st,hq];rfl
 obtain⟨h1,h2,h3,h4,h5,h6,h7,h8,h9,h10,h11,h12,me,ng,qf,h16⟩:=h
 simp only[hq]at h8 h9 h10 me ng h16
 simp at h5 h8 h9 h10 me ng h16
 unfold pk M.ends
 simp_all[jg,bm,dk,ki,M.err,M.wrong,M.add,M.say,M.n8,M.dm,M.dw,M.tell,gv,kv,eg,bq,dt,dx,dy,tell,cj,wrong,bz,gd,dj,d9,dz,iq,ci,m9,jd,mm,tz,ua,u60,D2,br,ba,fc]
theorem zns(h:Rel 0 s m)(hq:m.state=28):pk (jg (n+1) s (-1)) (M.ends m):=by
 have hs:s.state=28:=by rw[h.st,hq];rfl
 obtain⟨h1,h2,h3,h4,h5,h6,h7,h8,h9,h10,h11,h12,me,ng,qf,h16⟩:=h
 simp only[hq]at h8 h9 h10 me ng h16
 simp at h5 h8 h9 h10 me ng h16
 unfold pk M.ends
 simp_all[jg,bm,dk,g8,M.err,M.wrong,M.add,M.say,M.n8,M.dm,M.dw,M.tell,gv,kv,eg,bq,dt,dx,dy,tell,cj,wrong,bz,gd,dj,d9,dz,iq,ci,m9,jd,mm,tz,ua,u60,D2,br,ba,fc]
theorem znt(h:Rel 0 s m)(hq:m.state=29):pk (jg (n+1) s (-1)) (M.ends m):=by
 have hs:s.state=29:=by rw[h.st,hq];rfl
 obtain⟨h1,h2,h3,h4,h5,h6,h7,h8,h9,h10,h11,h12,me,ng,qf,h16⟩:=h
 simp only[hq]at h8 h9 h10 me ng h16
 simp at h5 h8 h9 h10 me ng h16
 unfold pk M.ends
 simp_all[jg,bm,dk,iy,M.err,M.wrong,M.add,M.say,M.n8,M.dm,M.dw,M.tell,gv,kv,eg,bq,dt,dx,dy,tell,cj,wrong,bz,gd,dj,d9,dz,iq,ci,m9,jd,mm,tz,ua,u60,D2,br,ba,fc]
theorem znu(h:Rel 0 s m)(hq:m.state=30):pk (jg (n+1) s (-1)) (M.ends m):=by
 have hs:s.state=30:=by rw[h.st,hq];rfl
 obtain⟨h1,h2,h3,h4,h5,h6,h7,h8,h9,h10,h11,h12,me,ng,qf,h16⟩:=h
 simp only[hq]at h8 h9 h10 me ng h16
 simp at h5 h8 h9 h10 me ng h16
 unfold pk M.ends
 simp_all[jg,bm,dk,g9,M.err,M.wrong,M.add,M.say,M.n8,M.dm,M.dw,M.tell,gv,kv,eg,bq,dt,dx,dy,tell,cj,wrong,bz,gd,dj,d9,dz,iq,ci,m9,jd,mm,tz,ua,u60,D2,br,ba,fc]
theorem znv(h:Rel 0 s m)(hq:m.state=33):pk (jg (n+2) s (-1)) (M.ends m):=by
 have hs:s.state=33:=by rw[h.st,hq];rfl
 obtain⟨h1,h2,h3,h4,h5,h6,h7,h8,h9,h10,h11,h12,me,ng,qf,h16⟩:=h
 simp only[hq]at h8 h9 h10 me ng h16
 simp at h5 h8 h9 h10 me ng h16
 obtain⟨r1,r2,r3⟩:=h16
 unfold pk M.ends
 rcases r2 with r2|r2|r2|r2|r2<;>simp_all[jg,bm,dk,gp,M.err,M.wrong,M.add,M.say,M.n8,M.dm,M.dw,M.tell,gv,kv,eg,bq,dt,dx,dy,tell,cj,wrong,bz,gd,dj,d9,dz,iq,ci,m9,jd,mm,tz,ua,u60,D2,br,ba,fc,M.td,kx,jz,jm,jn,f8]
theorem zfs(h:Rel 0 s m)(hr:rank s.state (-1)<n):pk (jg n s (-1)) (M.ends m):=by
 have ok:=h.ok
 have hq:m.state=0∨m.state=1∨m.state=2∨m.state=3∨m.state=4∨m.state=5∨m.state=6∨m.state=7∨m.state=8∨m.state=9∨m.state=10∨m.state=11∨m.state=12∨m.state=13∨m.state=14∨m.state=15∨m.state=16∨m.state=17∨m.state=19∨m.state=20∨m.state=21∨m.state=22∨m.state=23∨m.state=24∨m.state=25∨m.state=26∨m.state=27∨m.state=28∨m.state=29∨m.state=30∨m.state=33:=by omega
 have hst:=h.st
 obtain⟨k,rfl⟩:∃k,n=k+1:=⟨n-1,by omega⟩
 rcases hq with q|q|q|q|q|q|q|q|q|q|q|q|q|q|q|q|q|q|q|q|q|q|q|q|q|q|q|q|q|q|q
 ·exact zpv h q
 ·exact zpw h q
 ·exact zpx h q
 ·exact zpy h q
 ·exact zpz h q
 ·obtain⟨j,rfl⟩:∃j,k=j+1:=⟨k-1,by rw[hst,q]at hr;simp[rank]at hr;omega⟩
  exact zp0 h q
 ·obtain⟨j,rfl⟩:∃j,k=j+1:=⟨k-1,by rw[hst,q]at hr;simp[rank]at hr;omega⟩
  exact zp1 h q
 ·obtain⟨j,rfl⟩:∃j,k=j+1:=⟨k-1,by rw[hst,q]at hr;simp[rank]at hr;omega⟩
  exact zp2 h q
 ·exact zp3 h q
 ·obtain⟨j,rfl⟩:∃j,k=j+1:=⟨k-1,by rw[hst,q]at hr;simp[rank]at hr;omega⟩
  exact zp4 h q
 ·obtain⟨j,rfl⟩:∃j,k=j+1:=⟨k-1,by rw[hst,q]at hr;simp[rank]at hr;omega⟩
  exact znb h q
 ·exact znc h q
 ·obtain⟨j,rfl⟩:∃j,k=j+1:=⟨k-1,by rw[hst,q]at hr;simp[rank]at hr;omega⟩
  exact znd h q
 ·exact zne h q
 ·exact znf h q
 ·exact zng h q
 ·exact znh h q
 ·exact zni h q
 ·exact znj h q
 ·obtain⟨j,rfl⟩:∃j,k=j+1:=⟨k-1,by rw[hst,q]at hr;simp[rank]at hr;omega⟩
  exact znk h q
 ·exact znl h q
 ·exact znm h q
 ·exact znn h q
 ·exact zno h q
 ·exact znp h q
 ·exact znq h q
 ·exact znr h q
 ·exact zns h q
 ·exact znt h q
 ·exact znu h q
 ·obtain⟨j,rfl⟩:∃j,k=j+1:=⟨k-1,by rw[hst,q]at hr;simp[rank]at hr;omega⟩
  exact znv h q
variable{s:TS}{m m':M.MS}{c:Int}{d:Int}{n:Nat}{p:List Int}{a:Bool}
theorem Ds(h:m.l.length≤m.pos+n):M.ahead m n= -1:=by
 unfold M.ahead;rw[List.getElem?_eq_none_iff.2 h];rfl
theorem all_seen(h:(m.l.drop m.pos).take p.length=p)(hk:m.pos+p.length=m.l.length):m.l.drop m.pos=p:=by
 rw[←h,List.take_of_length_le (by rw[fj];omega)]
theorem zij(h:RelA 0 false s m)(hk:s.place=m.l.length)(hp:m.pos≤m.l.length)(hw:m.whole=false):M.step m=none∧pk s m:=by
 rcases h with h|⟨p,h,hsc,hs⟩|⟨p,h,hsc,hs,hd,hm⟩
 ·have ok:=h.ok
  have e:M.ahead m 0= -1:=Ds (by have:=h.place;omega)
  refine⟨?_,h.told,h.text,h.tsc⟩
  unfold M.step;rw[ag (by omega),ag (by omega),e,au (by omega)]
 ·have hpl:m.pos+p.length=m.l.length:=by have:=h.rc.place;omega
  refine⟨?_,h.rc.told,h.rc.text,h.rc.tsc⟩
  have e:M.step m=M.reference m:=by unfold M.step;rw[au h.st]
  have en:M.ahead m p.length= -1:=Ds (by omega)
  rw[e]
  rcases hs with⟨_,rfl,_⟩|⟨_,_,q⟩|⟨_,rfl,_⟩|⟨_,q1,q2,q3,q4,q5,q6,g,q7,q8⟩
  ·unfold M.reference
   rw[au ⟨by rw[show M.ahead m 0= -1 from en];omega,hw⟩]
  ·rcases q with⟨_,z,_⟩|⟨q1,q2⟩
   ·cases z
   have al:=To q2
   cases p with
   |nil=>exact absurd rfl q1
   |cons x r=>
    have a0:M.ahead m 0=x:=wu h.list (by rfl)
    have ax:=al.2 x (by simp)
    have rx:=ud ax
    obtain⟨y,hy,hy1,hy2⟩:=q2
    obtain⟨z,hz,hz1,_⟩:=Fq y hy
    have hwt:M.oc.any (fun n=>M.wait m n.1 false)=true:=by
     refine List.any_eq_true.2 ⟨z,hz,?_⟩
     rw[y5 false z.1 hp,se,all_seen h.list hpl,hz1]
     exact⟨hw,hy1,hy2⟩
    unfold M.reference
    rw[a0,ag (by omega),ag (by omega),ag (by unfold Zo at ax;rcases ax with k|k<;>rw[k]<;>simp),au hwt]
  ·have a0:M.ahead m 0=35:=wu h.list (by rfl)
   have a1:M.ahead m 1= -1:=en
   have six:M.vf m=false:=by unfold M.vf;rw[a1];rfl
   have fd:M.o9 m=1:=by unfold M.o9;rw[six];rfl
   have ne:M.pe m=(1,0):=by
    unfold M.pe;rw[fd,six];exact Fp _ _ _ _ _ (by rw[a1];decide)
   unfold M.reference M.number
   rw[a0,ag (by omega),au rfl,ne,au ⟨by show M.ahead m 1<0;rw[a1];omega,hw⟩]
  ·have a0:M.ahead m 0=35:=by
    cases p with
    |nil=>simp at q1
    |cons x r=>simp at q1;subst q1;exact wu h.list (by rfl)
   have ne:M.pe m=(p.length,M.cap s.jx):=by
    rw[q7];exact Fp _ _ _ _ _ (by rw[en];unfold M.Q0;rw[ag (by omega),ag (by omega),ag (by omega)];omega)
   unfold M.reference M.number
   rw[a0,ag (by omega),au rfl,ne,au ⟨by show M.ahead m p.length<0;rw[en];omega,hw⟩]
 ·have hpl:m.pos+p.length=m.l.length:=by have:=h.place;omega
  refine⟨?_,h.told,h.text,h.tsc⟩
  have hall:=all_seen h.list hpl
  have e:M.step m=M.decl m:=by unfold M.step;rw[ag (by rw[h.st];omega),au h.st]
  rw[e];unfold M.decl
  have key:(M.wait m [45,45] false||M.wait m [100,111,99,116,121,112,101] true||M.wait m [91,67,68,65,84,65,91] false)=true:=by
   rw[Bool.or_eq_true,Bool.or_eq_true,y5 _ _ hp,y5 _ _ hp,y5 _ _ hp,se,Gc,hall]
   rcases hm with rfl|hm
   ·exact .inl (.inl ⟨hw,by simp,by decide⟩)
   ·rcases hm with⟨z1,z2⟩|⟨z1,z2⟩|⟨z1,z2⟩
    ·exact .inl (.inl ⟨hw,z1,z2⟩)
    ·exact .inl (.inr ⟨hw,z1,z2⟩)
    ·exact .inr ⟨hw,z1,z2⟩
  rw[au key]
theorem Wc:∀(n:Nat)(s:TS)(m:M.MS)(a:Bool),RelA 0 a s m→Good s (-1)→rank s.state (-1)<n→s9 m.l→MInv m→s.place=m.l.length→m.whole=true→
  ∃i m',i≤9*n∧Steps i m m'∧M.step m'=none∧pk (jg n s (-1)) (M.final m')
 |0,s,m,a,h,g,hr,hl,hi,hk,hw=>by omega
 |n+1,s,m,a,h,g,hr,hl,hi,hk,hw=>by
  rcases h with h|h
  ·have ok:=h.ok
   have e:M.ahead m 0= -1:=Ds (by have:=h.place;omega)
   refine⟨0,m,by omega,rfl,?_,?_⟩
   ·unfold M.step;rw[ag (by omega),ag (by omega),e,au (by omega)]
   ·have ef:M.final m=M.ends m:=by unfold M.final;rw[au ⟨by omega,by omega,hw⟩]
    rw[ef];exact zfs h hr
  ·have hat:At s m (-1):=by
    refine⟨?_,by omega⟩
    rw[hk];simp
   obtain⟨i,m1,hi9,st,rw1⟩:=Zv h hl hi.pos hat (.inr ⟨rfl,hw⟩)
   obtain⟨b1,b2,b3,b4⟩:=xj i hi st
   have hp:(bm s (-1)).2.place=s.place:=(vr (s:=s) (c:= -1)).2.2.2.2.2
   have bp:=b1.pos
   rw[b3]at bp
   rcases rw1 with⟨v,k⟩|⟨v,k⟩
   ·exfalso
    rcases k with k|⟨p,k,_⟩|⟨p,k,_⟩
    ·have:=k.place;omega
    ·have h1:=k.rc.place
     have h2:=congrArg List.length k.list
     rw[List.length_take,fj,b3]at h2;omega
    ·have h1:=k.place
     have h2:=congrArg List.length k.list
     rw[List.length_take,fj,b3]at h2;omega
   ·rcases zb g with⟨e,_⟩|⟨_,g2,r2⟩
    ·rw[v]at e;cases e
    ·obtain⟨j,m2,hj,st2,k2,k3⟩:=Wc n _ m1 true k g2 (by omega) (by rw[b3];exact hl) b1 (by rw[hp,b3];exact hk) (by rw[b4];exact hw)
     refine⟨i+j,m2,by omega,st.cat st2,k2,?_⟩
     rw[jg,ag (by rw[v];decide)]
     exact k3
def hd(s t:TS):TS:={s with begun:=t.begun,behind:=t.behind,limit:=t.limit,bytes:=t.bytes,closed:=t.closed}
theorem Rel.hd(h:Rel d s m)(t:TS):Rel d (hd s t) m:=by
 obtain⟨h1,h2,h3,h4,h5,h6,h7,h8,h9,h10,h11,h12,me,ng,qf,h16⟩:=h
 exact⟨h1,h2,h3,h4,h5,h6,h7,h8,h9,h10,h11,h12,me,ng,qf,h16⟩
theorem RC.hd(h:RC d s m n)(t:TS):RC d (hd s t) m n:=by
 obtain⟨h1,h2,h3,h4,h5,h6,h7,h8,h9,h10,h11,h12⟩:=h
 exact⟨h1,h2,h3,h4,h5,h6,h7,h8,h9,h10,h11,h12⟩
theorem RelA.hd(h:RelA d a s m)(t:TS):RelA d a (hd s t) m:=by
 rcases h with h|⟨p,h,hsc,hs⟩|⟨p,h,hsc,hs⟩
 ·exact .inl (h.hd t)
 ·exact .inr (.inl ⟨p,⟨h.rc.hd t,h.st,h.list⟩,hsc,hs⟩)
 ·obtain⟨h1,h2,h3,h4,h5,h6,h7,h8,h9,h10⟩:=h
  exact .inr (.inr ⟨p,⟨h1,h2,h3,h4,h5,h6,h7,h8,h9,h10⟩,hsc,hs⟩)
theorem Good.hd(h:Good s c)(t:TS):Good (hd s t) c:=by
 obtain⟨h1,h2,h3,h4,h5,h6,h7,h8,h9,h10,h11⟩:=h
 exact⟨h1,h2,h3,h4,h5,h6,h7,h8,h9,h10,h11⟩
theorem Good.place(h:Good s c)(q:Int):Good {s with place:=q} c:=by
 obtain⟨h1,h2,h3,h4,h5,h6,h7,h8,h9,h10,h11⟩:=h
 exact⟨h1,h2,h3,h4,h5,h6,h7,h8,h9,h10,h11⟩
theorem RelA.bump(h:RelA 1 a s m):RelA 0 a {s with place:=s.place+1} m:=by
 rcases h with h|⟨p,h,hsc,hs⟩|⟨p,h,hsc,hs⟩
 ·obtain⟨h1,h2,h3,h4,h5,h6,h7,h8,h9,h10,h11,h12,me,ng,qf,h16⟩:=h
  exact .inl ⟨h1,h2,h3,h4,by simpa using h5,h6,h7,h8,h9,h10,h11,h12,me,ng,qf,h16⟩
 ·refine .inr (.inl ⟨p,⟨?_,h.st,h.list⟩,hsc,hs⟩)
  obtain⟨h1,h2,h3,h4,h5,h6,h7,h8,h9,h10,h11,h12⟩:=h.rc
  exact⟨h1,h2,h3,h4,by simpa using h5,h6,h7,h8,h9,h10,h11,h12⟩
 ·obtain⟨h1,h2,h3,h4,h5,h6,h7,h8,h9,h10⟩:=h
  exact .inr (.inr ⟨p,⟨h1,h2,h3,h4,by simpa using h5,h6,h7,h8,h9,h10⟩,hsc,hs⟩)
theorem Zw(hc:Sc c)(h:RelA 0 false s m)(g:∀c,Good s c)(hl:s9 m.l)(hi:MInv m)(hat:At s m c):
  ∃i m',i≤36∧Steps i m m'∧RelA 0 false (ky 4 s c) m'∧(∀c',Good (ky 4 s c) c')∧(ky 4 s c).place=s.place+1∧(ky 4 s c).behind=s.behind:=by
 obtain⟨i,m1,h1,h2,h3,h4,h5⟩:=Tq hc 4 s m false h (g c) (by have:=M3 s.state c;omega) hl hi hat
 exact⟨i,m1,by omega,h2,h3.bump,fun c'=>Good.place (h4 c') _,by show(jg 4 s c).place+1=_;rw[h5.2.2.2.2.2],h5.2.1⟩
def pts:Nat→Bool→Str→List Int×Str×Bool
 |0,b,r=>([],r,b)
 |f+1,b,r=>if(fv r).2=0 then([],r,b)else
   ((if(fv r).1=10∧b=true then(pts f ((fv r).1==13) (r.drop (fv r).2)).1 else(if(fv r).1=13 then 10 else(fv r).1)::(pts f ((fv r).1==13) (r.drop (fv r).2)).1),
    (pts f ((fv r).1==13) (r.drop (fv r).2)).2)
theorem znw(l:Str):Sc ((Lib.decodeGo ⟨l.toArray⟩).1:Int):=by
 unfold Lib.decodeGo
 split
 ·unfold Sc;simp
 ·rw[Lib.decode_at]
  unfold Lib.decodeN Sc
  repeat' split
  all_goals(simp only;omega)
theorem Py(r:Str):Sc (fv r).1:=by
 unfold fv
 split
 ·unfold Sc;simp
 ·split
  ·unfold Sc;simp
  ·exact znw r
theorem zku{q:List Int}(h:(c::q)<+:m.l.drop s.place.toNat)(h0:0≤s.place):At s m c:=by
 refine⟨?_,h0⟩
 obtain⟨t,ht⟩:=h
 have:(m.l.drop s.place.toNat)[0]? =some c:=by rw[←ht];rfl
 rw[List.getElem?_drop,Nat.add_zero]at this
 rw[this];rfl
theorem Pz:∀(f:Nat)(s:TS)(m:M.MS)(r:Str),RelA 0 false s m→(∀c,Good s c)→s9 m.l→MInv m→0≤s.place→(pts f s.behind r).1<+:m.l.drop s.place.toNat→
  ∃i m',i≤36*(pts f s.behind r).1.length∧Steps i m m'∧RelA 0 false (ni 4 f s r).1 m'∧(∀c,Good (ni 4 f s r).1 c)∧(ni 4 f s r).1.place=s.place+(pts f s.behind r).1.length∧(ni 4 f s r).1.behind=(pts f s.behind r).2.2∧(ni 4 f s r).2=(pts f s.behind r).2.1
 |0,s,m,r,h,g,hl,hi,h0,hp=>⟨0,m,by omega,rfl,h,g,by simp[ni,pts],rfl,rfl⟩
 |f+1,s,m,r,h,g,hl,hi,h0,hp=>by
  rw[ni]
  by_cases z:(fv r).2=0
  ·rw[au z]
   rw[pts,au z]
   exact⟨0,m,by omega,rfl,h,g,by simp,rfl,rfl⟩
  ·rw[ag z]
   rw[pts,ag z]at hp⊢
   have fsc:=Py r
   generalize fv r=fp at*
   have hb:=h.hd (gu s fp.1)
   have hbe:hd s (gu s fp.1)=gu s fp.1:=rfl
   rw[hbe]at hb
   have gb:∀c,Good (gu s fp.1) c:=fun c=>Good.hd (g c) (gu s fp.1)
   unfold pass
   by_cases e1:fp.1=10∧s.behind=true
   ·rw[au e1]
    rw[au e1]at hp
    obtain⟨i,m1,k1,k2,k3,k4,k5,k6,k7⟩:=Pz f (gu s fp.1) m (r.drop fp.2) hb gb hl hi h0 hp
    rw[au e1]
    exact⟨i,m1,k1,k2,k3,k4,k5,k6,k7⟩
   ·rw[ag e1]
    rw[ag e1]at hp
    have key:∀x:Int,Sc x→(x::(pts f (fp.1==13) (r.drop fp.2)).1)<+:m.l.drop s.place.toNat→
      ∃i m',i≤36*((pts f (fp.1==13) (r.drop fp.2)).1.length+1)∧Steps i m m'∧RelA 0 false (ni 4 f (ky 4 (gu s fp.1) x) (r.drop fp.2)).1 m'∧(∀c,Good (ni 4 f (ky 4 (gu s fp.1) x) (r.drop fp.2)).1 c)∧(ni 4 f (ky 4 (gu s fp.1) x) (r.drop fp.2)).1.place=s.place+((pts f (fp.1==13) (r.drop fp.2)).1.length+1:Nat)∧(ni 4 f (ky 4 (gu s fp.1) x) (r.drop fp.2)).1.behind=(pts f (fp.1==13) (r.drop fp.2)).2.2∧(ni 4 f (ky 4 (gu s fp.1) x) (r.drop fp.2)).2=(pts f (fp.1==13) (r.drop fp.2)).2.1:=by
     intro x hx hpx
     obtain⟨j,m1,j1,j2,j3,j4,j5,j6⟩:=Zw hx hb gb hl hi (zku (s:=gu s fp.1) hpx h0)
     obtain⟨b1,b2,b3,b4⟩:=xj j hi j2
     have hbh:(ky 4 (gu s fp.1) x).behind=(fp.1==13):=j6
     have hpl:(ky 4 (gu s fp.1) x).place=s.place+1:=j5
     have hp2:(pts f (fp.1==13) (r.drop fp.2)).1<+:m1.l.drop (s.place+1).toNat:=by
      rw[b3]
      obtain⟨t,ht⟩:=hpx
      refine⟨t,?_⟩
      have e:(s.place+1).toNat=s.place.toNat+1:=by omega
      rw[e,←List.drop_drop,←ht];rfl
     obtain⟨i,m2,k1,k2,k3,k4,k5,k6,k7⟩:=Pz f (ky 4 (gu s fp.1) x) m1 (r.drop fp.2) j3 j4 (by rw[b3];exact hl) b1 (by rw[hpl];omega) (by rw[hbh,hpl];exact hp2)
     rw[hbh]at k1 k5 k6 k7
     rw[hpl]at k5
     exact⟨j+i,m2,by omega,j2.cat k2,k3,k4,by rw[k5];omega,k6,k7⟩
    by_cases e2:fp.1=13
    ·rw[au e2]
     rw[au e2]at hp
     obtain⟨i,m1,k1,k2,k3,k4,k5,k6,k7⟩:=key 10 (by unfold Sc;omega) hp
     rw[ag e1,au e2]
     exact⟨i,m1,by simpa using k1,k2,k3,k4,by simpa using k5,k6,k7⟩
    ·rw[ag e2]
     rw[ag e2]at hp
     obtain⟨i,m1,k1,k2,k3,k4,k5,k6,k7⟩:=key fp.1 fsc hp
     rw[ag e1,ag e2]
     exact⟨i,m1,by simpa using k1,k2,k3,k4,by simpa using k5,k6,k7⟩
end Go.Proofs.YtdfmapcnfficlaaGreatDoor.Si

import Derived.Test.YtdfmapcnfficlaaGreatDoorP37
set_option linter.all false
set_option maxHeartbeats 4000000
namespace Go.Proofs.YtdfmapcnfficlaaGreatDoor.Si
open Go Go.RowKit
variable{s:TS}{m:M.MS}{c:Int}{d:Int}{n:Nat}{p:List Int}{a:Bool}
theorem zib{l:List Int}(h:∀x∈l,Zo x):(M.jk l).length=l.length:=by
 induction l with
 |nil=>rfl
 |cons c r ih=>
  have:=ud (h c (by simp))
  rw[sy,aq,ih (fun x hx=>h x (by simp[hx]))]
  unfold M.utf M.Em
  rw[au (by omega)];simp;omega
theorem zdh{l:List Int}(h:∀x∈l,Zo x):s9 l:=by
 intro x hx;have:=ud (h x hx);unfold Sc;omega
theorem zb2{x:Int}{r:List Int}(h:Sc x):C9 (M.jk (x::r))=x:=by
 unfold C9
 rw[sy,V7 h]
 show((x.toNat:Nat):Int)=x
 have:=h.1;omega
theorem zb3{m1:M.MS}(hm:m1.state=m1.back)(hb:backs m1.back){x:List Int}(hx:∀y∈x,Zo y)(hl:(m1.l.drop m1.pos).take x.length=x)(hr:RC 0 s m1 n)(hn:m1.pos+x.length=n):
  ∃m2,Steps x.length m1 m2∧Rel 0 {cn s (M.jk x)with state:=(cn s (M.jk x)).ev} m2:=by
 refine⟨_,Ho x m1 hx hl (.inl ⟨hm,hb⟩),?_⟩
 obtain⟨k1,⟨tx,tg,k2⟩,tx2,vl,k3⟩:=hr.give (zdh hx)
 have k4:=k1.pos (m1.pos+x.length)
 rw[k2]at k4⊢
 rw[k3]at k4⊢
 exact RC.rel (k4.inner s.ev s.di s.l9 s.nb s.jx) hn rfl hm
theorem Fs{l:List Int}{p:List Int}{k pos:Nat}(h:(l.drop pos).take p.length=p)(hk:k≤p.length):(l.drop (pos+k)).take (p.drop k).length=p.drop k:=by
 rw[←List.drop_drop,fj]
 conv=>rhs;rw[←h]
 rw[List.drop_take]
theorem zm9(h:PR 0 a s m p)(hs:s.state=32)(hx:Nx m p.length c)(hl:s9 m.l)(hpos:m.pos≤m.l.length):∃i m',i≤9∧Steps i m m'∧V8 (bm s c) m':=by
 obtain⟨hr,hp,hS⟩:=h
 rcases hS with⟨z,_⟩|⟨_,q1,q2⟩|⟨z,_⟩|⟨z,_⟩
 ·omega
 rotate_left
 ·omega
 ·omega
 have e1:bm s c=jv s c:=by simp[bm,hs]
 have hpl:s.place=(m.pos+p.length:Nat):=by have:=hr.rc.place;omega
 obtain⟨we,wsc⟩:=zh8 hx.cs
 have eq:s.di++Lib.encodeRune c=M.jk (p++[wr c]):=by rw[q1,we];simp
 have Wa:s9 (p++[wr c]):=hp.cat (s9.one wsc)
 have pal:p.length≤6∧∀x∈p,Zo x:=by
  rcases q2 with⟨rfl,_⟩|q2
  ·simp
  ·exact To q2.2
 have a0:Zo (M.ahead m 0):=by
  cases p with
  |nil=>
   rcases q2 with⟨_,_,z⟩|⟨z,_⟩
   ·exact z
   ·exact absurd rfl z
  |cons x r=>rw[wu hr.list (k:=0) (x:=x) rfl];exact pal.2 x (by simp)
 rw[e1];unfold jv
 rw[eq]
 by_cases hw:Waits (p++[wr c])
 ·have f2:(kz (M.jk (p++[wr c]))).2=true:=by
   obtain⟨x,hx1,hx2⟩:=hw
   exact(Gb _ _ _).2 ⟨x,hx1,(Cr (vd x hx1) Wa).2 hx2⟩
  rw[au f2]
  obtain⟨c0,wc⟩:=zh9 hw hx.cs
  rw[wc]at hw Wa⊢
  have hlm:=Ap hr.list hx.ah c0
  refine⟨0,m,by omega,rfl,.inl ⟨rfl,.inr (.inl ⟨p++[c],⟨?_,hr.st,hlm⟩,Wa,.inr (.inl ⟨hs,rfl,.inr ⟨by simp,hw⟩⟩)⟩)⟩⟩
  have k:=(hr.rc.inner s.state (M.jk (p++[c])) s.l9 s.nb s.jx).at (e:=1) (k:=m.pos+(p++[c]).length) (by simp[hpl];omega)
  exact k
 ·obtain⟨f2,f3,f4⟩:=zfk Wa hw
  rw[ag (by rw[f2];simp)]
  have r0:=ud a0
  have nw:=zkr hl hr.list hx hpos hw
  obtain⟨g1,g2⟩:=found_eq hl hr.list hx hw
  have hst:M.step m=M.reference m:=by unfold M.step;rw[au hr.st]
  have href:∀v,(match M.found m with
    |none=>some (M.st (M.give m [38]) 33)
    |some n=>
     if M.Bv n.1=true then some (M.jump (M.give m [n.2]) n.1.length m.back)
     else if M.ahead m n.1.length<0∧m.whole=false then none
     else if M.td m=true∧(br (M.ahead m n.1.length)=true∨fc (M.ahead m n.1.length)=true∨M.ahead m n.1.length=61)then
      some (M.jump (M.give (M.give m [38]) ((m.l.drop m.pos).take n.1.length)) n.1.length m.back)
     else some (M.jump (M.give (M.wrong m [115,101,109,105,99,111,108,111,110] (m.pos+n.1.length:Nat)) [n.2]) n.1.length m.back))=v→M.step m=v:=by
   intro v hv
   rw[hst];unfold M.reference
   rw[ag (by omega),ag (by omega),ag (by unfold Zo at a0;rcases a0 with z|z<;>rw[z]<;>simp),ag nw]
   exact hv
  cases hf:M.found m with
  |none=>
   rw[au (f3 (g1 hf))]
   have h1:=href _ rfl
   rw[hf]at h1
   simp only at h1
   have hb:=hr.rc.ref.2.1
   have gs:=zb0 m [38]
   have h2:=Ho p (M.st (M.give m [38]) 33) pal.2 (by
    show(((M.give m [38]).l.drop (M.give m [38]).pos).take p.length)=p
    rw[gs.2.2.1,gs.2.2.2.1];exact hr.list) (.inr ⟨rfl,by show backs (M.give m [38]).back;rw[gs.2.1];exact hb⟩)
   refine⟨1+p.length,_,by omega,(Steps.one h1).cat h2,.inr ⟨rfl,.inl ?_⟩⟩
   have e5:(38::s.di:Str)=M.jk (38::p):=by rw[q1];simp[u38]
   rw[e5]
   obtain⟨k1,⟨tx,tg,k2⟩,tx2,vl,k3⟩:=hr.rc.give (x:=38::p) (jd.2 ⟨Mu,hp⟩)
   have e6:{M.give (M.st (M.give m [38]) 33) p with pos:=(M.st (M.give m [38]) 33).pos+p.length}=M.st {M.give m (38::p)with pos:=m.pos+p.length} 33:=by
    rw[show(38::p:List Int)=[38]++p from rfl,←Cq]
    unfold M.give M.st M.td
    by_cases v:(m.back==13||m.back==14||m.back==15)=true<;>simp[v]
   rw[e6]
   have k4:=(k1.pos (m.pos+p.length)).mst 33 (by omega)
   rw[k2]at k4⊢
   rw[k3]at k4⊢
   exact RC.zlo (k4.inner 33 s.di s.l9 s.nb s.jx) rfl rfl rfl
  |some x=>
   obtain⟨x1,x2,x3⟩:=g2 x hf
   obtain⟨t1,t2,t3⟩:=I6 x x1
   have ff:=f4 x x1 x2 x3
   rw[ff]
   rw[ag t3]
   have hb:=hr.rc.ref.2.1
   have h1:=href _ rfl
   rw[hf]at h1
   simp only at h1
   have zfl:=vd _ t1
   by_cases b1:x.1=M.jk (p++[wr c])
   ·rw[au b1]
    have b2:p++[wr c]=M.n8 x.1:=(name_eq zfl Wa).1 b1.symm
    have b3:0≤c∧wr c=c:=by
     have:=I8 zfl (wr c) (by rw[←b2];simp)
     unfold wr at*
     rcases hx.cs with z|⟨z,_⟩
     ·have:=z.1;rw[ag (by omega)];omega
     ·rw[z]at this;simp at this
    have b4:M.Bv x.1=true:=by
     rcases zh7 _ t1 with z|⟨b,hb1,hb2⟩
     ·exact z
     ·rw[b1]at hb2
      exact absurd ⟨b,hb1,(Cr (vd _ hb1) Wa).1 hb2⟩ hw
    rw[au b4]at h1
    refine⟨1,_,by omega,Steps.one h1,.inl ⟨rfl,.inl ?_⟩⟩
    have e5:M.utf x.2=M.jk [x.2]:=by simp
    show Rel 1 {cn s (M.utf x.2)with state:=s.ev} _
    rw[e5]
    obtain⟨k1,⟨tx,tg,k2⟩,tx2,vl,k3⟩:=hr.rc.give (s9.one t2)
    have xl:x.1.length=p.length+1:=by
     have:=congrArg List.length b2;rw[sd]at this;simp at this;omega
    have k4:=((k1.pos (m.pos+x.1.length)).mst m.back (yd hb).1).at (e:=1) (k:=m.pos+x.1.length) (by
     rw[k2];show s.place+1=_;rw[hpl,xl];simp;omega)
    unfold M.jump
    rw[k2]at k4⊢
    rw[k3]at k4⊢
    exact RC.rel (k4.inner s.ev s.di s.l9 s.nb s.jx) rfl rfl rfl
   ·rw[ag b1]
    have b2:M.n8 x.1<+:p:=by
     rcases List.prefix_concat_iff.1 x2 with z|z
     ·exact absurd ((name_eq zfl Wa).2 z.symm).symm b1
     ·exact z
    have pw:Waits p:=by
     rcases q2 with⟨z,_⟩|⟨_,z⟩
     ·rw[z]at b2
      have:=b2.length_le;rw[sd]at this
      simp at this;exact absurd this t3
     ·exact z
    have kl:x.1.length≤p.length:=by have:=b2.length_le;rwa[sd]at this
    have kp:0<x.1.length:=List.length_pos_iff.2 t3
    have tk:p.take x.1.length=M.n8 x.1:=by
     obtain⟨t,ht⟩:=b2
     rw[←ht,←sd,List.take_left]
    have b4:¬M.Bv x.1=true:=by
     intro z
     unfold M.Bv at z
     have z2:x.1.getLast? =some 59:=by simpa using z
     have z3:(59:Int)∈p:=by
      apply b2.mem
      unfold M.n8
      exact List.mem_map.2 ⟨59,List.mem_of_getLast? z2,rfl⟩
     have:=ud (pal.2 59 z3)
     omega
    rw[ag b4]at h1
    have nx:∃y r,p.drop x.1.length++[wr c]=y::r∧Sc y∧((br y=br (M.ahead m x.1.length))∧(fc y=fc (M.ahead m x.1.length))∧(y=61↔M.ahead m x.1.length=61))∧¬(M.ahead m x.1.length<0∧m.whole=false):=by
     cases hd:p.drop x.1.length with
     |nil=>
      have hkl:x.1.length=p.length:=by
       have:=List.drop_eq_nil_iff.1 hd;omega
      refine⟨wr c,[],rfl,wsc,?_,?_⟩
      ·rw[hkl,hx.ah]
       unfold wr
       split
       ·next z=>rw[z];decide
       ·simp
      ·rw[hkl];exact hx.live
     |cons y r=>
      have hm:y∈p:=List.mem_of_mem_drop (by rw[hd];simp)
      have hg:p[x.1.length]? =some y:=by
       have:(p.drop x.1.length)[0]? =some y:=by rw[hd];rfl
       rwa[List.getElem?_drop,Nat.add_zero]at this
      have ha:=wu hr.list hg
      refine⟨y,r++[wr c],rfl,hp y hm,?_,?_⟩
      ·rw[ha];simp
      ·rw[ha];have:=ud (pal.2 y hm);omega
    obtain⟨y,r,ny1,ny2,⟨ny3,ny4,ny5⟩,ny6⟩:=nx
    rw[ag ny6]at h1
    have e7:s.di.drop x.1.length=M.jk (p.drop x.1.length):=by
     have e8:M.jk p=x.1++M.jk (p.drop x.1.length):=by
      conv=>lhs;rw[←List.take_append_drop x.1.length p]
      rw[Zk,tk,Fj zfl]
     rw[q1,e8,List.drop_left]
    have e9:C9 (s.di.drop x.1.length++Lib.encodeRune c)=y:=by
     rw[e7,we]
     rw[show M.jk (p.drop x.1.length)++M.utf (wr c)=M.jk (p.drop x.1.length++[wr c])from by simp,ny1]
     exact zb2 ny2
    have ral:∀z∈p.drop x.1.length,Zo z:=fun z hz=>pal.2 z (List.mem_of_mem_drop hz)
    have iv:=Hn hb
    have ivs:l8 s.ev=decide (13≤m.back):=by rw[hr.rc.ref.1];exact Zn hb
    have gi:vi s y=true↔(M.td m=true∧(br (M.ahead m x.1.length)=true∨fc (M.ahead m x.1.length)=true∨M.ahead m x.1.length=61)):=by
     unfold vi
     rw[iv,ivs,ny3,ny4]
     simp only[Bool.and_eq_true,Bool.or_eq_true,beq_iff_eq,ny5]
     constructor
     ·rintro⟨u,(u1|u1)|u1⟩
      ·exact⟨u,.inr (.inr u1)⟩
      ·exact⟨u,.inl u1⟩
      ·exact⟨u,.inr (.inl u1)⟩
     ·rintro⟨u,u1|u1|u1⟩
      ·exact⟨u,.inl (.inr u1)⟩
      ·exact⟨u,.inr u1⟩
      ·exact⟨u,.inl (.inl u1)⟩
    have fin:∀(s2:TS)(m1:M.MS),M.step m=some (M.jump m1 x.1.length m.back)→RC 0 s2 m1 (m.pos+p.length)→m1.l=m.l→m1.pos=m.pos→m1.back=m.back→s2.ev=s.ev→
      ∃i m',i≤9∧Steps i m m'∧V8 (1,{cn s2 (M.jk (p.drop x.1.length))with state:=s.ev}) m':=by
     intro s2 m1 hstp hrc hml hmp hmb hsb
     have zr7:=(hrc.pos (m.pos+x.1.length)).mst m.back (yd hb).1
     have ej:M.jump m1 x.1.length m.back=M.st {m1 with pos:=m.pos+x.1.length} m.back:=by unfold M.jump M.st;rw[hmp]
     rw[ej]at hstp
     obtain⟨m2,st2,zpt⟩:=zb3 (m1:=M.st {m1 with pos:=m.pos+x.1.length} m.back) hmb.symm (by show backs m1.back;rw[hmb];exact hb) ral (by
      show(m1.l.drop (m.pos+x.1.length)).take _=_
      rw[hml];exact Fs hr.list kl) zr7 (by
      show m.pos+x.1.length+(p.drop x.1.length).length=_
      rw[fj];omega)
     have e10:(cn s2 (M.jk (p.drop x.1.length))).ev=s.ev:=by
      obtain⟨_,⟨tx,tg,k2⟩,_⟩:=hrc.give (zdh ral)
      rw[k2];exact hsb
     rw[e10]at zpt
     refine⟨1+(p.drop x.1.length).length,m2,by rw[fj];omega,(Steps.one hstp).cat st2,.inr ⟨rfl,.inl zpt⟩⟩
    unfold ln ku
    simp only
    rw[e9,e7]
    by_cases gg:vi s y=true
    ·rw[au gg]
     rw[au (gi.1 gg)]at h1
     rw[Cq]at h1
     have e11:(m.l.drop m.pos).take x.1.length=M.n8 x.1:=by
      rw[←tk,←hr.list,List.take_take,Nat.min_eq_left kl]
     rw[e11]at h1
     have e12:([38]++x.1:Str)=M.jk ([38]++M.n8 x.1):=by rw[Zk,Fj zfl];simp[u38]
     rw[e12]
     obtain⟨k1,⟨tx,tg,k2⟩,tx2,vl,k3⟩:=hr.rc.give (x:=[38]++M.n8 x.1) ((s9.one Mu).cat (zkk zfl))
     exact fin _ _ h1 k1 (by rw[k3]) (by rw[k3]) (by rw[k3]) (by rw[k2])
    ·rw[ag gg]
     rw[ag (fun z=>gg (gi.2 z))]at h1
     have e13:s.place-((M.jk (p.drop x.1.length)).length:Int)=(m.pos+x.1.length:Nat):=by
      rw[hpl,zib ral,fj];omega
     rw[e13]
     have e5:M.utf x.2=M.jk [x.2]:=by simp
     rw[e5]
     obtain⟨k1,⟨tx,tg,k2⟩,tx2,vl,k3⟩:=(hr.rc.wrong [115,101,109,105,99,111,108,111,110] (m.pos+x.1.length:Nat)).give (s9.one t2)
     exact fin _ _ h1 k1 (by rw[k3];rfl) (by rw[k3];rfl) (by rw[k3];rfl) (by rw[k2];rfl)
variable{s:TS}{m:M.MS}{c:Int}{d:Int}{n:Nat}{p:List Int}{a:Bool}
theorem Pn:∀{l:List Int},s9 l→Gh (M.jk l)=M.jk (l.map lw)
 |[],_=>by unfold Gh;rw[zhz];rfl
 |c::r,h=>by
  have hc:=(jd.1 h).1
  have ih:=Pn (jd.1 h).2
  unfold Gh at*
  rw[sy,Lib.mapD_step lw _ (by simp[Kh])]
  have e:Lib.decodeL (M.utf c++M.jk r)=(c.toNat,(M.utf c).length):=by rw[Hl (by simp[Kh]),V7 hc]
  rw[e]
  have e2:((c.toNat:Nat):Int)=c:=by have:=hc.1;omega
  simp only[e2]
  rw[au (Kg hc).1,List.drop_left,ih,List.map_cons,sy,gw (Kg hc)]
theorem Wb{l:List Int}(h:s9 l):s9 (l.map lw):=by
 intro x hx
 obtain⟨y,hy,rfl⟩:=List.mem_map.1 hx
 exact Kg (h y hy)
theorem Ft:Low [45,45]:=by unfold Low;decide
theorem I9:Low [100,111,99,116,121,112,101]:=by unfold Low;decide
theorem Aq:Low [91,67,68,65,84,65,91]:=by unfold Low;decide
theorem zdi{q:List Int}(hq:s9 q):u7 (M.jk q)=true↔May q:=by
 unfold u7 May
 rw[Bool.or_eq_true,Bool.or_eq_true,Pn hq,Cr Ft hq,Cr I9 (Wb hq),Cr Aq hq,or_assoc]
 rfl
theorem zfm(h:May p):p.length≤6∧(∀x∈p,0<x∧x<128∧x≠62)∧¬([45,45]<+:p):=by
 have lt:∀{u v:List Int},u<+:v→u≠v→u.length<v.length:=by
  intro u v h1 h2
  rcases Nat.lt_or_ge u.length v.length with z|z
  ·exact z
  ·exact absurd (h1.eq_of_length_le z) h2
 have hd:∀y∈M.n8 [100,111,99,116,121,112,101],97≤y∧y≤122:=by decide
 have hk:∀y∈M.n8 [91,67,68,65,84,65,91],0<y∧y<128∧y≠62∧y≠45:=by decide
 rcases h with⟨h1,h2⟩|⟨h1,h2⟩|⟨h1,h2⟩
 ·have l1:=lt h1 h2
  simp at l1
  refine⟨by omega,?_,?_⟩
  ·intro x hx
   have:=h1.mem hx;simp at this;omega
  ·intro z;have:=z.length_le;simp at this;omega
 ·have l1:=lt h1 h2
  rw[sd]at l1;simp at l1
  have el:∀x∈p,0<x∧x<128∧x≠62∧x≠45:=by
   intro x hx
   have:=hd (lw x) (h1.mem (List.mem_map_of_mem hx))
   unfold lw at this;split at this<;>omega
  refine⟨by omega,fun x hx=>⟨(el x hx).1,(el x hx).2.1,(el x hx).2.2.1⟩,?_⟩
  intro z;exact(el 45 (z.mem (by simp))).2.2.2 rfl
 ·have l1:=lt h1 h2
  rw[sd]at l1;simp at l1
  have el:∀x∈p,0<x∧x<128∧x≠62∧x≠45:=fun x hx=>hk x (h1.mem hx)
  refine⟨by omega,fun x hx=>⟨(el x hx).1,(el x hx).2.1,(el x hx).2.2.1⟩,?_⟩
  intro z;exact(el 45 (z.mem (by simp))).2.2.2 rfl
theorem zic:∀r t:List Int,Tn r t≤t.length
 |[],_=>by simp[Tn]
 |_::_,[]=>by simp[Tn]
 |x::r,y::t=>by
  have:=zic r t
  rw[Tn];split<;>simp<;>omega
theorem zfn(b:Bool)(w:Str):M.ly m w b=w.length↔M.n8 w<+:(m.l.drop m.pos).map (fold b):=by
 rw[←Hp]
 have:=zic ((m.l.drop m.pos).map (fold b)) (M.n8 w)
 rw[sd,←Pm]at this
 omega
theorem Po(b:Bool):fold b 65533=65533:=by cases b<;>rfl
theorem Pp(hl:s9 m.l)(h:(m.l.drop m.pos).take p.length=p)(hx:Nx m p.length c)(b:Bool)(w:Str)(hw:Low w)(hp:¬(M.n8 w<+:p.map (fold b)))
  (hn:¬((p++[wr c]).map (fold b)<+:M.n8 w∧(p++[wr c]).map (fold b)≠M.n8 w)):M.ly m w b=w.length↔(p++[wr c]).map (fold b)=M.n8 w:=by
 rw[zfn]
 rcases seen hl h hx with⟨h0,h1,h2⟩|⟨h0,h1,h2,h3⟩
 ·have h2':=h2.map (fold b)
  constructor
  ·intro k
   rcases List.prefix_or_prefix_of_prefix k h2' with z|z
   ·rw[List.map_append,List.map_singleton]at z⊢
    rcases List.prefix_concat_iff.1 z with y|y
    ·exact y.symm
    ·exact absurd y hp
   ·by_cases e:(p++[wr c]).map (fold b)=M.n8 w
    ·exact e
    ·exact absurd ⟨z,e⟩ hn
  ·intro e;rw[←e];exact h2'
 ·rw[h2]
  constructor
  ·intro k;exact absurd k hp
  ·intro e
   have:=I8 hw (fold b (wr c)) (by rw[←e];simp)
   rw[h3,Po]at this;omega
theorem Km(hl:s9 m.l)(h:(m.l.drop m.pos).take p.length=p)(hx:Nx m p.length c)(hpos:m.pos≤m.l.length)(b:Bool)(w:Str)
  (hn:¬((p++[wr c]).map (fold b)<+:M.n8 w∧(p++[wr c]).map (fold b)≠M.n8 w)):M.wait m w b=false:=by
 cases e:M.wait m w b with
 |false=>rfl
 |true=>
  obtain⟨w1,w2,w3⟩:=(y5 b w hpos).1 e
  rcases seen hl h hx with⟨h0,h1,h2⟩|⟨h0,h1,_⟩
  ·have h2':=h2.map (fold b)
   refine absurd ⟨h2'.trans w2,?_⟩ hn
   intro e;apply w3;apply w2.eq_of_length_le;rw[←e];exact h2'.length_le
  ·rw[h1]at w1;cases w1
theorem Ld:∀(x:List Int)(m:M.MS),(∀c∈x,0<c∧c<128∧c≠62)→((m.l.drop m.pos).take x.length=x)→m.state=19→
  Steps x.length m {m with name:=m.name++x,pos:=m.pos+x.length}
 |[],m,_,_,_=>by show _=_;simp
 |c::r,m,ha,hl,hq=>by
  have hc:=ha c (by simp)
  have e0:M.ahead m 0=c:=wu hl (by rfl)
  have hs:M.step m=some {m with name:=m.name++[c],pos:=m.pos+1}:=by
   rw[Kk (by omega) (by omega) (by rw[e0];omega),e0]
   unfold M.look M.comment M.je M.lx bb
   simp[hq,show ¬c=62 by omega,show ¬c=0 by omega]
  have hl2:(m.l.drop (m.pos+1)).take r.length=r:=by
   have:=Fs (k:=1) hl (by simp)
   simpa using this
  have ind:=Ld r {m with name:=m.name++[c],pos:=m.pos+1} (fun y hy=>ha y (by simp[hy])) hl2 hq
  refine⟨_,hs,?_⟩
  have e:({({m with name:=m.name++[c],pos:=m.pos+1}:M.MS)with name:=(m.name++[c])++r,pos:=m.pos+1+r.length}:M.MS)={m with name:=m.name++c::r,pos:=m.pos+(c::r).length}:=by
   simp;omega
  rw[e]at ind
  exact ind
theorem Pq:∀{l:List Int},(∀x∈l,0<x∧x<128∧x≠62)→(M.jk l).length=l.length
 |[],_=>rfl
 |c::r,h=>by
  have:=h c (by simp)
  rw[sy,aq,Pq (fun x hx=>h x (by simp[hx]))]
  unfold M.utf M.Em
  rw[au (by omega)];simp;omega
theorem zna(h:PD 0 s m p)(hx:Nx m p.length c)(hl:s9 m.l)(hpos:m.pos≤m.l.length):∃i m',i≤9∧Steps i m m'∧V8 (bm s c) m':=by
 obtain⟨hr,hp,hs,q1,q2⟩:=h
 have e1:bm s c=lz s c:=by simp[bm,hs]
 have hpl:s.place=(m.pos+p.length:Nat):=by have:=hr.place;omega
 obtain⟨we,wsc⟩:=zh8 hx.cs
 have eq:s.declared++Lib.encodeRune c=M.jk (p++[wr c]):=by rw[q1,we];simp
 have Wa:s9 (p++[wr c]):=hp.cat (s9.one wsc)
 have psm:p.length≤6∧(∀x∈p,0<x∧x<128∧x≠62)∧¬([45,45]<+:p):=by
  rcases q2 with rfl|z
  ·refine⟨by simp,by simp,?_⟩
   intro z;have:=z.length_le;simp at this
  ·exact zfm z
 have hc2:∀w:Str,Low w→∀b,(p++[wr c]).map (fold b)<+:M.n8 w→0≤c∧wr c=c:=by
  intro w hw b z
  have:=I8 hw (fold b (wr c)) (z.mem (by simp))
  rcases hx.cs with k|⟨k,_⟩
  ·have:=k.1;unfold wr;rw[ag (by omega)];omega
  ·rw[k,show wr (-1)=65533 from rfl,Po]at this;omega
 obtain⟨h1,h2,h3,h4,h5,h6,h7,h8,h9,h10⟩:=hr
 rw[e1];unfold lz
 rw[eq]
 by_cases hm:May (p++[wr c])
 ·rw[au ((zdi Wa).2 hm)]
  have hc0:0≤c∧wr c=c:=by
   rcases hm with⟨z,_⟩|⟨z,_⟩|⟨z,_⟩
   ·exact hc2 _ Ft false (by rw[se];exact z)
   ·exact hc2 _ I9 true (by rw[Gc];exact z)
   ·exact hc2 _ Aq false (by rw[se];exact z)
  rw[hc0.2]at hm Wa⊢
  exact⟨0,m,by omega,rfl,.inl ⟨rfl,.inr (.inr ⟨p++[c],⟨h1,h2,h3,h4,by show s.place+1=_;rw[hpl];simp;omega,h6,h7,h8,h9,Ap h10 hx.ah hc0.1⟩,Wa,hs,rfl,.inr hm⟩)⟩⟩
 ·rw[ag (fun z=>hm ((zdi Wa).1 z))]
  have n1:¬((p++[wr c]).map (fold false)<+:M.n8 [45,45]∧(p++[wr c]).map (fold false)≠M.n8 [45,45]):=by
   rw[se];intro z;exact hm (.inl z)
  have n2:¬((p++[wr c]).map (fold true)<+:M.n8 [100,111,99,116,121,112,101]∧(p++[wr c]).map (fold true)≠M.n8 [100,111,99,116,121,112,101]):=by
   rw[Gc];intro z;exact hm (.inr (.inl z))
  have n3:¬((p++[wr c]).map (fold false)<+:M.n8 [91,67,68,65,84,65,91]∧(p++[wr c]).map (fold false)≠M.n8 [91,67,68,65,84,65,91]):=by
   rw[se];intro z;exact hm (.inr (.inr z))
  have zpu:∀(b:Bool)(w:Str),w.length=7→¬(M.n8 w<+:p.map (fold b)):=by
   intro b w hw z
   have:=z.length_le;rw[sd,List.length_map]at this;omega
  have m1:M.ly m [45,45] false=2↔(p++[wr c]).map (fold false)=M.n8 [45,45]:=Pp hl h10 hx false [45,45] Ft (by rw[se];exact psm.2.2) n1
  have m2:M.ly m [100,111,99,116,121,112,101] true=7↔(p++[wr c]).map (fold true)=M.n8 [100,111,99,116,121,112,101]:=Pp hl h10 hx true [100,111,99,116,121,112,101] I9 (zpu _ _ rfl) n2
  have m3:M.ly m [91,67,68,65,84,65,91] false=7↔(p++[wr c]).map (fold false)=M.n8 [91,67,68,65,84,65,91]:=Pp hl h10 hx false [91,67,68,65,84,65,91] Aq (zpu _ _ rfl) n3
  have w1:=Km hl h10 hx hpos false [45,45] n1
  have w2:=Km hl h10 hx hpos true [100,111,99,116,121,112,101] n2
  have w3:=Km hl h10 hx hpos false [91,67,68,65,84,65,91] n3
  have hst:M.step m=M.decl m:=by unfold M.step;rw[ag (by omega),au h6]
  rw[se]at m1 m3
  rw[Gc]at m2
  unfold M.decl at hst
  rw[w1,w2,w3,ag (by simp)]at hst
  have dl:s.place-(s.declared.length:Int)=m.pos:=by rw[hpl,q1,Pq psm.2.1];omega
  by_cases b1:M.jk (p++[wr c])=[45,45]
  ·rw[au b1]
   have b2:=(name_eq Ft Wa).1 b1
   rw[au (m1.2 b2)]at hst
   have pl:p.length=1:=by have:=congrArg List.length b2;rw[sd]at this;simp at this;omega
   refine⟨1,_,by omega,Steps.one hst,.inl ⟨rfl,.inl ⟨h1,h2,h3,h4,?_,rfl,by simp[M.jump],?_,?_,?_,rfl,?_,?_,?_,?_,?_⟩⟩⟩
   ·show s.place+1=((m.pos+2:Nat):Int);rw[hpl,pl];omega
   ·simpa[M.jump,mx]using h7
   ·simpa[M.jump,mx]using h8
   ·simpa[M.jump,mx]using h9
   all_goals simp[M.jump]
  rw[ag b1]
  rw[ag (fun z=>b1 ((name_eq Ft Wa).2 (m1.1 z)))]at hst
  have e2:=Pn Wa
  by_cases b2:Gh (M.jk (p++[wr c]))=[100,111,99,116,121,112,101]
  ·rw[au b2]
   have b3:(p++[wr c]).map lw=M.n8 [100,111,99,116,121,112,101]:=(name_eq I9 (Wb Wa)).1 (by rw[←e2];exact b2)
   rw[au (m2.2 b3)]at hst
   have pl:p.length=6:=by have:=congrArg List.length b3;rw[sd]at this;simp at this;omega
   refine⟨1,_,by omega,Steps.one hst,.inl ⟨rfl,.inl ⟨h1,h2,h3,h4,?_,rfl,by simp[M.jump],?_,?_,?_,rfl,?_,?_,?_,?_,?_⟩⟩⟩
   ·show s.place+1=((m.pos+7:Nat):Int);rw[hpl,pl];omega
   ·simpa[M.jump,mx]using h7
   ·simpa[M.jump,mx]using h8
   ·simpa[M.jump,mx]using h9
   all_goals simp[M.jump]
  rw[ag b2]
  rw[ag (fun z=>b2 (by rw[e2];exact(name_eq I9 (Wb Wa)).2 (m2.1 z)))]at hst
  by_cases b3:M.jk (p++[wr c])=[91,67,68,65,84,65,91]
  ·rw[au b3]
   have b4:=(name_eq Aq Wa).1 b3
   rw[au (m3.2 b4)]at hst
   have pl:p.length=6:=by have:=congrArg List.length b4;rw[sd]at this;simp at this;omega
   rw[dl]
   refine⟨1,_,by omega,Steps.one hst,.inl ⟨rfl,.inl ⟨?_,h2,h3,h4,?_,rfl,by simp[M.jump],?_,?_,?_,rfl,?_,?_,?_,?_,?_⟩⟩⟩
   ·simp[bq,bz,cj,mx,M.jump,M.add,M.err,M.wrong,h1]
   ·show s.place+1=((m.pos+7:Nat):Int);rw[hpl,pl];omega
   ·simp only[bq,bz,cj,mx,M.jump,M.add,M.err,M.wrong]
    rw[h7,List.nil_append,List.nil_append,Fj Aq];rfl
   ·simpa[bq,bz,cj,M.jump,mx]using h8
   ·simpa[bq,bz,cj,M.jump,mx]using h9
   all_goals simp[M.jump,M.add,M.err,M.wrong]
  rw[ag b3]
  rw[ag (fun z=>b3 ((name_eq Aq Wa).2 (m3.1 z)))]at hst
  have st2:=Ld p (M.st (M.err {m with name:=[]} [100,101,99,108,97,114,97,116,105,111,110]) 19) psm.2.1 h10 rfl
  rw[dl]
  refine⟨1+p.length,_,by omega,(Steps.one hst).cat st2,.inr ⟨rfl,.inl ⟨?_,h2,h3,h4,?_,rfl,by simp[M.st],?_,?_,?_,rfl,?_,?_,?_,?_,?_⟩⟩⟩
  ·simp[bq,bz,cj,mx,M.st,M.err,M.wrong,h1]
  ·show s.place+0=((m.pos+p.length:Nat):Int);rw[hpl];omega
  ·simp[bq,bz,cj,mx,M.st,M.err,M.wrong,h7,q1]
  ·simpa[bq,bz,cj,M.st,M.err,M.wrong,mx]using h8
  ·simpa[bq,bz,cj,M.st,M.err,M.wrong,mx]using h9
  all_goals simp[M.st,M.err,M.wrong]
variable{s:TS}{m m':M.MS}{c:Int}{d:Int}{n:Nat}{p:List Int}{a:Bool}
structure MInv(m:M.MS):Prop where
 ok:m.state≤31∨m.state=33
 base:5≤m.state→m.state≤7→m.base≤2
 back:m.state=31∨m.state=33→backs m.back
 gone:(7≤m.state∧m.state≤17)∨((m.state=31∨m.state=33)∧13≤m.back)→m.gone=false
 pos:m.pos≤m.l.length
def ph(m:M.MS):Nat:=M.mj m+(if m.state=7 then m.buf.length else 0)
structure zid(k:Nat)(m m':M.MS):Prop where
 inv:MInv m'
 ph:ph m'≤ph m+k
 l:m'.l=m.l
 whole:m'.whole=m.whole
abbrev Adv(m m':M.MS):Prop:=zid 64 m m'
theorem zid.le{k j:Nat}(h:zid k m m')(hk:k≤j):zid j m m':=⟨h.inv,by have:=h.ph;omega,h.l,h.whole⟩
theorem zks(c:Int)(x:List Tok)(t:Tok):(x++(if c=0 then[t]else[])).length≤x.length+1:=by split<;>simp
theorem ub(m:M.MS):(if m.text=[]then m.told else m.told++[{kind:=0,text:=M.jk m.text}]).length≤m.told.length+1:=by split<;>simp
theorem zie(h:MInv m)(hp:m.pos<m.l.length)(hs:m.state≤2):Adv m (M.text m c):=by
 have hn:=zks c m.told {kind:=5,name:=rj,place:=m.pos}
 obtain⟨h1,h2,h3,h4,h5⟩:=h
 unfold M.text
 repeat' split
 all_goals(refine⟨⟨?_,?_,?_,?_,?_⟩,?_,?_,?_⟩<;>simp_all[M.pc,M.ke,jq,ph,M.mj,backs]<;>first|omega|(split<;>first|omega|(simp;omega)))
theorem zfo(h:MInv m)(hp:m.pos<m.l.length)(hs:m.state=3∨m.state=4):Adv m (M.opens m c):=by
 obtain⟨h1,h2,h3,h4,h5⟩:=h
 unfold M.opens
 repeat' split
 all_goals(refine⟨⟨?_,?_,?_,?_,?_⟩,?_,?_,?_⟩<;>simp_all[M.pc,M.st,M.err,M.wrong,M.newTag,M.say,M.n8,ph,M.mj,backs]<;>first|omega|(split<;>first|omega|(simp;omega)))
theorem zif(h:MInv m)(hp:m.pos<m.l.length)(hs:5≤m.state∧m.state≤7):Adv m (M.less m c):=by
 obtain⟨h1,h2,h3,h4,h5⟩:=h
 have h6:=h2 hs.1 hs.2
 have h7:¬m.base=7:=by omega
 unfold M.less
 have hs':m.state=5∨m.state=6∨m.state=7:=by omega
 rcases hs' with q|q|q
 all_goals simp only[q]
 all_goals(repeat' split)
 all_goals(refine⟨⟨?_,?_,?_,?_,?_⟩,?_,?_,?_⟩<;>simp_all[M.pc,M.st,M.newTag,M.say,M.n8,ph,M.mj,backs]<;>first|omega|(split<;>first|omega|(simp;omega)))
theorem Kn(m:M.MS):(M.ep m).attrs.length≤m.attrs.length+2:=by unfold M.ep;split<;>simp
theorem Fu(h:MInv m)(hp:m.pos<m.l.length)(hs:8≤m.state∧m.state≤17):zid 32 m (M.ot m):=by
 have hn:=Kn m
 have hf:=ub m
 obtain⟨h1,h2,h3,h4,h5⟩:=h
 have hb:=I3 (M.jk m.name)
 have h7:¬m.state=7:=by omega
 unfold M.ot M.cu M.vm M.Bl
 rw[yb]
 generalize(M.ep m).attrs=ry at*
 rcases hb with hb|hb|hb
 all_goals(repeat' split)
 all_goals(refine⟨⟨?_,?_,?_,?_,?_⟩,?_,?_,?_⟩<;>simp_all[M.pc,M.tell,gv,M.err,M.wrong,ph,M.mj,backs]<;>(repeat' split)<;>first|omega|(simp_all;done)|(simp_all;omega))
theorem zdj(m:M.MS):∃tl dr,M.ol m={m with told:=tl,drop:=dr}∧tl.length≤m.told.length+1:=by
 unfold M.ol
 split
 ·exact⟨_,_,rfl,by simp[M.Bk]⟩
 ·exact⟨_,_,rfl,by simp⟩
theorem zdk(h:MInv m)(nm:Str):MInv (M.err m nm)∧ph (M.err m nm)=ph m+1:=by
 obtain⟨h1,h2,h3,h4,h5⟩:=h
 refine⟨⟨h1,h2,h3,h4,h5⟩,?_⟩
 show M.mj (M.err m nm)+(if m.state=7 then m.buf.length else 0)=M.mj m+(if m.state=7 then m.buf.length else 0)+1
 have:M.mj (M.err m nm)=M.mj m+1:=by simp[M.mj,M.err,M.wrong];omega
 omega
theorem zkt(h:MInv m)(hp:m.pos<m.l.length)(hs:8≤m.state∧m.state≤11):Adv m (M.tag m c):=by
 have ht:=Fu h hp ⟨hs.1,by omega⟩
 have hc:=Kn m
 have hc2:(M.ep (M.err m [101,113,117,97,108,115])).attrs=(M.ep m).attrs:=by unfold M.ep M.err M.wrong;split<;>rfl
 obtain⟨tl,dr,hk,hk2⟩:=zdj m
 obtain⟨h1,h2,h3,h4,h5⟩:=h
 have h6:=h4 (by omega)
 clear h4
 unfold M.tag
 rw[yz,yz,hk,hc2]
 clear hk hc2
 generalize(M.ep m).attrs=ry at*
 have hs':m.state=8∨m.state=9∨m.state=10∨m.state=11:=by omega
 clear hs
 by_cases c0:c=0
 ·rw[ag (show ¬(c=34∨c=39∨c=60) by omega)]
  rcases hs' with q|q|q|q
  all_goals simp only[q]
  all_goals(repeat' split)
  all_goals first|exact ht.le (by omega)|(refine⟨⟨?_,?_,?_,?_,?_⟩,?_,?_,?_⟩<;>simp_all[M.pc,M.st,M.on,M.err,M.wrong,M.je,M.putKey,jq,ph,M.mj,backs]<;>omega)
 ·by_cases sg:c=34∨c=39∨c=60
  ·rw[au sg]
   rcases hs' with q|q|q|q
   all_goals simp only[q]
   all_goals(repeat' split)
   all_goals first|exact ht.le (by omega)|(refine⟨⟨?_,?_,?_,?_,?_⟩,?_,?_,?_⟩<;>simp_all[M.pc,M.st,M.on,M.err,M.wrong,M.je,M.putKey,jq,ph,M.mj,backs]<;>omega)
  ·rw[ag sg]
   rcases hs' with q|q|q|q
   all_goals simp only[q]
   all_goals(repeat' split)
   all_goals first|exact ht.le (by omega)|(refine⟨⟨?_,?_,?_,?_,?_⟩,?_,?_,?_⟩<;>simp_all[M.pc,M.st,M.on,M.err,M.wrong,M.je,M.putKey,jq,ph,M.mj,backs]<;>omega)
theorem zb4(h:MInv m)(hp:m.pos<m.l.length)(hs:m.state=12∨m.state=16∨m.state=17):Adv m (M.around m c):=by
 have ht:=Fu h hp (by omega)
 have hf:=Fu (m:={m with flag:=true}) ⟨h.ok,h.base,h.back,h.gone,h.pos⟩ hp (by show 8≤m.state∧m.state≤17;omega)
 have he:=Fu (zdk h [110,111,45,118,97,108,117,101]).1 hp (by show 8≤m.state∧m.state≤17;omega)
 have he2:=(zdk h [110,111,45,118,97,108,117,101]).2
 have h7:¬m.state=7:=by omega
 obtain⟨h1,h2,h3,h4,h5⟩:=h
 unfold M.around
 repeat' split
 all_goals first|exact ht.le (by omega)|exact⟨hf.inv,by have:=hf.ph;simp only[ph,M.mj]at this⊢;omega,hf.l,hf.whole⟩|exact⟨he.inv,by have:=he.ph;omega,he.l,he.whole⟩|(refine⟨⟨?_,?_,?_,?_,?_⟩,?_,?_,?_⟩<;>simp_all[M.pc,M.st,M.on,M.err,M.wrong,ph,M.mj,backs]<;>first|omega|(split<;>first|omega|(simp;omega)))
theorem zfp(h:MInv m)(hp:m.pos<m.l.length)(hs:m.state=13∨m.state=14∨m.state=15):Adv m (M.value m c):=by
 have ht:=Fu h hp (by omega)
 obtain⟨h1,h2,h3,h4,h5⟩:=h
 have h6:=h4 (by omega)
 clear h4
 unfold M.value
 by_cases c0:c=0
 ·rcases hs with q|q|q
  all_goals simp only[q]
  all_goals(repeat' split)
  all_goals first|exact ht.le (by omega)|(refine⟨⟨?_,?_,?_,?_,?_⟩,?_,?_,?_⟩<;>simp_all[M.pc,M.st,M.on,M.add,M.n8,M.err,M.wrong,M.je,M.im,M.dm,M.dw,M.tell,gv,jq,ph,M.mj,backs]<;>(repeat' split)<;>first|omega|(simp_all;done)|(simp_all;omega))
 ·rcases hs with q|q|q
  all_goals simp only[q]
  all_goals(repeat' split)
  all_goals first|exact ht.le (by omega)|(refine⟨⟨?_,?_,?_,?_,?_⟩,?_,?_,?_⟩<;>simp_all[M.pc,M.st,M.on,M.add,M.n8,M.err,M.wrong,M.je,M.im,M.dm,M.dw,M.tell,gv,jq,ph,M.mj,backs]<;>(repeat' split)<;>first|omega|(simp_all;done)|(simp_all;omega))
theorem Zt(h:MInv m)(hp:m.pos<m.l.length)(hs:m.state=19∨m.state=22):Adv m (M.comment m c):=by
 have hf:=ub m
 obtain⟨h1,h2,h3,h4,h5⟩:=h
 unfold M.comment
 by_cases c0:c=0
 ·rcases hs with q|q
  all_goals simp only[q]
  all_goals(repeat' split)
  all_goals(refine⟨⟨?_,?_,?_,?_,?_⟩,?_,?_,?_⟩<;>simp_all[M.pc,M.st,M.on,M.add,M.n8,M.err,M.wrong,M.je,M.im,M.dm,M.dw,M.tell,gv,jq,ph,M.mj,backs]<;>(repeat' split)<;>first|omega|(simp_all;done)|(simp_all;omega))
 ·rcases hs with q|q
  all_goals simp only[q]
  all_goals(repeat' split)
  all_goals(refine⟨⟨?_,?_,?_,?_,?_⟩,?_,?_,?_⟩<;>simp_all[M.pc,M.st,M.on,M.add,M.n8,M.err,M.wrong,M.je,M.im,M.dm,M.dw,M.tell,gv,jq,ph,M.mj,backs]<;>(repeat' split)<;>first|omega|(simp_all;done)|(simp_all;omega))
theorem zb5(h:MInv m)(hp:m.pos<m.l.length)(hs:m.state=20∨m.state=21∨m.state=23∨m.state=24∨m.state=25):Adv m (M.dashes m c):=by
 have hf:=ub m
 obtain⟨h1,h2,h3,h4,h5⟩:=h
 unfold M.dashes
 rcases hs with q|q|q|q|q
 all_goals simp only[q]
 all_goals(repeat' split)
 all_goals(refine⟨⟨?_,?_,?_,?_,?_⟩,?_,?_,?_⟩<;>simp_all[M.pc,M.st,M.on,M.add,M.n8,M.err,M.wrong,M.je,M.im,M.dm,M.dw,M.tell,gv,jq,ph,M.mj,backs]<;>(repeat' split)<;>first|omega|(simp_all;done)|(simp_all;omega))
theorem Zu(h:MInv m)(hp:m.pos<m.l.length)(hs:26≤m.state∧m.state≤30):Adv m (M.js m c):=by
 have hf:=ub m
 obtain⟨h1,h2,h3,h4,h5⟩:=h
 unfold M.js
 have hs':m.state=26∨m.state=27∨m.state=28∨m.state=29∨m.state=30:=by omega
 clear hs
 by_cases c0:c=0
 ·rcases hs' with q|q|q|q|q
  all_goals simp only[q]
  all_goals(repeat' split)
  all_goals(refine⟨⟨?_,?_,?_,?_,?_⟩,?_,?_,?_⟩<;>simp_all[M.pc,M.st,M.on,M.add,M.n8,M.err,M.wrong,M.je,M.im,M.dm,M.dw,M.tell,gv,jq,ph,M.mj,backs]<;>(repeat' split)<;>first|omega|(simp_all;done)|(simp_all;omega))
 ·rcases hs' with q|q|q|q|q
  all_goals simp only[q]
  all_goals(repeat' split)
  all_goals(refine⟨⟨?_,?_,?_,?_,?_⟩,?_,?_,?_⟩<;>simp_all[M.pc,M.st,M.on,M.add,M.n8,M.err,M.wrong,M.je,M.im,M.dm,M.dw,M.tell,gv,jq,ph,M.mj,backs]<;>(repeat' split)<;>first|omega|(simp_all;done)|(simp_all;omega))
end Go.Proofs.YtdfmapcnfficlaaGreatDoor.Si

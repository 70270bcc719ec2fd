import Derived.Test.YtdfmapcnfficlaaGreatDoorP35
import Derived.Test.YtdfmapcnfficlaaGreatDoorP34
set_option linter.all false
set_option maxHeartbeats 1000000
namespace Go.Proofs.YtdfmapcnfficlaaGreatDoor.Si
open Go Go.RowKit
variable{s:TS}{m:M.MS}{c:Int}{d:Int}
theorem b38:ba 38=false:=by decide
theorem l6.st{t:zd0}(h:l6 t m)(hq:m.state≠10)(q p:Nat)(hq2:q≠10)(tl:List Tok)(bk:Nat):l6 t {m with state:=q,pos:=p,told:=tl,back:=bk}:=by
 obtain⟨t1,t2,t3,t4,t5,t6,t7,t8,t9⟩:=h
 refine⟨t1,t2,t3,t4,t5,t6,t7,?_,fun z=>absurd z hq2⟩
 simpa[hq,hq2]using t8
theorem Tj(s:TS):lp s={s with tag:=(lp s).tag}:=rfl
theorem yz(m:M.MS):M.qp m={m with attrs:=(M.ep m).attrs,opn:=true,drop:=false,key:=[],value:=[]}:=by unfold M.qp;rw[yb]
theorem zpq(h:Rel 0 s m)(hq:m.state=8)(hc:Sc c):vb (bm s c) (M.look m c):=by
 have hs:s.state=8:=by rw[h.st,hq];rfl
 have e1:bm s c=lu s c:=by simp[bm,hs]
 have e2:M.look m c=M.tag m c:=by simp[M.look,hq]
 have n1:c≠ -1:=by have:=hc.1;omega
 have n2:=oq hc
 rw[e1,e2]
 clear e1 e2
 have tr:=h.tag (by rw[hq];omega)
 obtain⟨h1,h2,h3,h4,h5,h6,h7,h8,h9,h10,h11,h12,me,ng,qf,h16⟩:=h
 clear qf
 simp only[hq]at h6 h7 h8 h9 h10 h12 me ng h16
 simp at h5 h6 h7 h8 h9 h10 h12 me ng h16
 by_cases a0:ba c=true
 ·simp only[lu,M.tag,hq,n1,a0,reduceIte,Nat.reduceEqDiff,false_and,true_and,and_false,and_true,false_or,or_false,true_or,or_true,if_true,if_false,b8]
  refine .inl ⟨rfl,.inl ⟨?_,?_,?_,?_,?_,?_,?_,?_,?_,?_,?_,?_,?_,?_,fun _=> ?_,?_⟩⟩<;>first|exact tr|exact l6.st tr (by rw[hq];omega) _ _ (by simp[hq]) _ _|simp_all[M.pc,M.st,M.on,M.err,M.wrong,M.je,M.putKey,M.im,m7,jq,cj,wrong,bz,ci,fh hc,fg hc,rj,du,zeroRef,lg]
 by_cases a1:c=47
 ·simp only[lu,M.tag,hq,n1,a0,a1,reduceIte,Nat.reduceEqDiff,false_and,true_and,and_false,and_true,false_or,or_false,true_or,or_true,if_true,if_false,b8]
  refine .inl ⟨rfl,.inl ⟨?_,?_,?_,?_,?_,?_,?_,?_,?_,?_,?_,?_,?_,?_,fun _=> ?_,?_⟩⟩<;>first|exact tr|exact l6.st tr (by rw[hq];omega) _ _ (by simp[hq]) _ _|simp_all[M.pc,M.st,M.on,M.err,M.wrong,M.je,M.putKey,M.im,m7,jq,cj,wrong,bz,ci,fh hc,fg hc,rj,du,zeroRef,lg]
 by_cases a2:c=62
 ·simp only[lu,M.tag,hq,n1,a0,a1,a2,reduceIte,Nat.reduceEqDiff,false_and,true_and,and_false,and_true,false_or,or_false,true_or,or_true,if_true,if_false,b8]
  exact .inl ⟨rfl,.inl (Cp h1 h2 h3 h4 h5 h8 h9 h10 h11 tr)⟩
 ·simp only[lu,M.tag,hq,n1,a0,a1,a2,reduceIte,Nat.reduceEqDiff,false_and,true_and,and_false,and_true,false_or,or_false,true_or,or_true,if_true,if_false,b8]
  have tr2:l6 (lg s c).tag (M.je (M.lx m c) (lw (bb c))):=by
   obtain⟨t1,t2,t3,t4,t5,t6,t7,t8,t9⟩:=tr
   constructor<;>simp_all[M.pc,M.st,M.on,M.err,M.wrong,M.je,M.putKey,M.im,m7,jq,cj,wrong,bz,ci,fh hc,fg hc,rj,du,zeroRef,lg]
  refine .inl ⟨rfl,.inl ⟨?_,?_,?_,?_,?_,?_,?_,?_,?_,?_,?_,?_,?_,?_,fun _=>tr2,?_⟩⟩<;>simp_all[M.pc,M.st,M.on,M.err,M.wrong,M.je,M.putKey,M.im,m7,jq,cj,wrong,bz,ci,fh hc,fg hc,rj,du,zeroRef,lg]
theorem zpr(h:Rel 0 s m)(hq:m.state=9)(hc:Sc c):vb (bm s c) (M.look m c):=by
 have hs:s.state=9:=by rw[h.st,hq];rfl
 have e1:bm s c=ka s c:=by simp[bm,hs]
 have e2:M.look m c=M.tag m c:=by simp[M.look,hq]
 have n1:c≠ -1:=by have:=hc.1;omega
 have n2:=oq hc
 rw[e1,e2]
 clear e1 e2
 have tr:=h.tag (by rw[hq];omega)
 obtain⟨h1,h2,h3,h4,h5,h6,h7,h8,h9,h10,h11,h12,me,ng,qf,h16⟩:=h
 clear qf
 simp only[hq]at h6 h7 h8 h9 h10 h12 me ng h16
 simp at h5 h6 h7 h8 h9 h10 h12 me ng h16
 by_cases a0:ba c=true
 ·simp only[ka,M.tag,hq,n1,a0,reduceIte,Nat.reduceEqDiff,false_and,true_and,and_false,and_true,false_or,or_false,true_or,or_true,if_true,if_false,b8]
  refine .inl ⟨rfl,.inl ⟨?_,?_,?_,?_,?_,?_,?_,?_,?_,?_,?_,?_,?_,?_,fun _=> ?_,?_⟩⟩<;>first|exact tr|exact l6.st tr (by rw[hq];omega) _ _ (by simp[hq]) _ _|simp_all[M.pc,M.st,M.on,M.err,M.wrong,M.je,M.putKey,M.im,m7,jq,cj,wrong,bz,ci,fh hc,fg hc,rj,du,zeroRef,lg]
 by_cases a1:c=47∨c=62
 ·simp only[ka,M.tag,hq,n1,a0,a1,reduceIte,Nat.reduceEqDiff,false_and,true_and,and_false,and_true,false_or,or_false,true_or,or_true,if_true,if_false,b8]
  refine .inr ⟨rfl,.inl ⟨?_,?_,?_,?_,?_,?_,?_,?_,?_,?_,?_,?_,?_,?_,fun _=> ?_,?_⟩⟩<;>first|exact tr|exact l6.st tr (by rw[hq];omega) _ _ (by simp[hq]) _ _|simp_all[M.pc,M.st,M.on,M.err,M.wrong,M.je,M.putKey,M.im,m7,jq,cj,wrong,bz,ci,fh hc,fg hc,rj,du,zeroRef,lg]
 by_cases a2:c=61
 ·simp only[ka,M.tag,hq,n1,a0,a1,a2,reduceIte,Nat.reduceEqDiff,false_and,true_and,and_false,and_true,false_or,or_false,true_or,or_true,if_true,if_false,b8]
  have tr2:=Fn (s:=lp s) (m:=M.st (M.qp (M.err m [101,113,117,97,108,115])) 10) (c:=61) (Fm (m:=M.err m [101,113,117,97,108,115]) (l6.st tr (by rw[hq];omega) m.state m.pos (by rw[hq];omega) _ m.back) (by show m.state≠10;rw[hq];omega)) rfl (by unfold Sc;omega) (m.pos+1) (M.err m [101,113,117,97,108,115]).told
  clear tr
  rw[yz]at*
  refine .inl ⟨rfl,.inl ⟨?_,?_,?_,?_,?_,?_,?_,?_,?_,?_,?_,?_,?_,?_,fun _=> ?_,?_⟩⟩<;>first|exact tr2|simp_all[M.pc,M.st,M.on,M.err,M.wrong,M.je,M.putKey,M.im,m7,jq,cj,wrong,bz,ci,fh hc,fg hc,rj,du,zeroRef,lg,kr,lp]
 ·simp only[ka,M.tag,hq,n1,a0,a1,a2,reduceIte,Nat.reduceEqDiff,false_and,true_and,and_false,and_true,false_or,or_false,true_or,or_true,if_true,if_false,b8]
  have tr2:=Fm tr (by rw[hq];omega)
  clear tr
  rw[Tj]
  rw[yz]at*
  refine .inr ⟨rfl,.inl ⟨?_,?_,?_,?_,?_,?_,?_,?_,?_,?_,?_,?_,?_,?_,fun _=>tr2,?_⟩⟩<;>simp_all[M.pc,M.st,M.on,M.err,M.wrong,M.je,M.putKey,M.im,m7,jq,cj,wrong,bz,ci,fh hc,fg hc,rj,du,zeroRef,lg]
theorem zmw(h:Rel 0 s m)(hq:m.state=10)(hc:Sc c):vb (bm s c) (M.look m c):=by
 have hs:s.state=10:=by rw[h.st,hq];rfl
 have e1:bm s c=jf s c:=by simp[bm,hs]
 have e2:M.look m c=M.tag m c:=by simp[M.look,hq]
 have n1:c≠ -1:=by have:=hc.1;omega
 have n2:=oq hc
 rw[e1,e2]
 clear e1 e2
 have tr:=h.tag (by rw[hq];omega)
 obtain⟨h1,h2,h3,h4,h5,h6,h7,h8,h9,h10,h11,h12,me,ng,qf,h16⟩:=h
 clear qf
 simp only[hq]at h6 h7 h8 h9 h10 h12 me ng h16
 simp at h5 h6 h7 h8 h9 h10 h12 me ng h16
 by_cases a0:ba c=true∨c=47∨c=62
 ·simp only[jf,M.tag,hq,n1,a0,reduceIte,Nat.reduceEqDiff,false_and,true_and,and_false,and_true,false_or,or_false,true_or,or_true,if_true,if_false,b8]
  obtain⟨k1,k2,⟨tg,tl,k3⟩,tl2,dr,k4⟩:=V5 tr hq h1 h5 11 (by omega)
  rw[k4]at k1 k2⊢
  rw[k3]at k1 k2⊢
  clear k3 k4
  refine .inr ⟨rfl,.inl ⟨?_,?_,?_,?_,?_,?_,?_,?_,?_,?_,?_,?_,?_,?_,fun _=> ?_,?_⟩⟩<;>first|exact k2|simp_all[M.pc,M.st,M.on,M.err,M.wrong,M.je,M.putKey,M.im,m7,jq,cj,wrong,bz,ci,fh hc,fg hc,rj,du,zeroRef,lg]
 by_cases a1:c=61
 ·simp only[jf,M.tag,hq,n1,a0,a1,reduceIte,Nat.reduceEqDiff,false_and,true_and,and_false,and_true,false_or,or_false,true_or,or_true,if_true,if_false,b8]
  obtain⟨k1,k2,⟨tg,tl,k3⟩,tl2,dr,k4⟩:=V5 tr hq h1 h5 12 (by omega)
  rw[k4]at k1 k2⊢
  rw[k3]at k1 k2⊢
  clear k3 k4
  have k5:=l6.st k2 (by simp[M.st]) 12 (m.pos+1) (by omega) tl2 m.back
  clear k2
  refine .inl ⟨rfl,.inl ⟨?_,?_,?_,?_,?_,?_,?_,?_,?_,?_,?_,?_,?_,?_,fun _=> ?_,?_⟩⟩<;>first|exact k5|simp_all[M.pc,M.st,M.on,M.err,M.wrong,M.je,M.putKey,M.im,m7,jq,cj,wrong,bz,ci,fh hc,fg hc,rj,du,zeroRef,lg]
 by_cases a2:c=34∨c=39∨c=60
 ·simp only[jf,M.tag,hq,n1,a0,a1,a2,reduceIte,Nat.reduceEqDiff,false_and,true_and,and_false,and_true,false_or,or_false,true_or,or_true,if_true,if_false,b8]
  have tr2:=Fn (s:=s) tr hq (Hk hc) (m.pos+1)
  simp only[kr,wrong,bz,cj,m7,jq,M.err,M.wrong,M.putKey]at tr2⊢
  refine .inl ⟨rfl,.inl ⟨?_,?_,?_,?_,?_,?_,?_,?_,?_,?_,?_,?_,?_,?_,fun _=> ?_,?_⟩⟩<;>first|exact tr2 _|simp_all[M.pc,M.st,M.on,M.err,M.wrong,M.je,M.putKey,M.im,m7,jq,cj,wrong,bz,ci,fh hc,fg hc,rj,du,zeroRef,lg]
 ·simp only[jf,M.tag,hq,n1,a0,a1,a2,reduceIte,Nat.reduceEqDiff,false_and,true_and,and_false,and_true,false_or,or_false,true_or,or_true,if_true,if_false,b8]
  have tr2:=Fn (s:=s) tr hq (Hk hc) (m.pos+1)
  simp only[kr,wrong,bz,cj,m7,jq,M.err,M.wrong,M.putKey]at tr2⊢
  refine .inl ⟨rfl,.inl ⟨?_,?_,?_,?_,?_,?_,?_,?_,?_,?_,?_,?_,?_,?_,fun _=> ?_,?_⟩⟩<;>first|exact tr2 _|simp_all[M.pc,M.st,M.on,M.err,M.wrong,M.je,M.putKey,M.im,m7,jq,cj,wrong,bz,ci,fh hc,fg hc,rj,du,zeroRef,lg]
theorem zmx(h:Rel 0 s m)(hq:m.state=11)(hc:Sc c):vb (bm s c) (M.look m c):=by
 have hs:s.state=11:=by rw[h.st,hq];rfl
 have e1:bm s c=iu s c:=by simp[bm,hs]
 have e2:M.look m c=M.tag m c:=by simp[M.look,hq]
 have n1:c≠ -1:=by have:=hc.1;omega
 have n2:=oq hc
 rw[e1,e2]
 clear e1 e2
 have tr:=h.tag (by rw[hq];omega)
 obtain⟨h1,h2,h3,h4,h5,h6,h7,h8,h9,h10,h11,h12,me,ng,qf,h16⟩:=h
 clear qf
 simp only[hq]at h6 h7 h8 h9 h10 h12 me ng h16
 simp at h5 h6 h7 h8 h9 h10 h12 me ng h16
 by_cases a0:ba c=true
 ·simp only[iu,M.tag,hq,n1,a0,reduceIte,Nat.reduceEqDiff,false_and,true_and,and_false,and_true,false_or,or_false,true_or,or_true,if_true,if_false,b8]
  refine .inl ⟨rfl,.inl ⟨?_,?_,?_,?_,?_,?_,?_,?_,?_,?_,?_,?_,?_,?_,fun _=> ?_,?_⟩⟩<;>first|exact tr|exact l6.st tr (by rw[hq];omega) _ _ (by simp[hq]) _ _|simp_all[M.pc,M.st,M.on,M.err,M.wrong,M.je,M.putKey,M.im,m7,jq,cj,wrong,bz,ci,fh hc,fg hc,rj,du,zeroRef,lg]
 by_cases a1:c=47
 ·simp only[iu,M.tag,hq,n1,a0,a1,reduceIte,Nat.reduceEqDiff,false_and,true_and,and_false,and_true,false_or,or_false,true_or,or_true,if_true,if_false,b8]
  refine .inl ⟨rfl,.inl ⟨?_,?_,?_,?_,?_,?_,?_,?_,?_,?_,?_,?_,?_,?_,fun _=> ?_,?_⟩⟩<;>first|exact tr|exact l6.st tr (by rw[hq];omega) _ _ (by simp[hq]) _ _|simp_all[M.pc,M.st,M.on,M.err,M.wrong,M.je,M.putKey,M.im,m7,jq,cj,wrong,bz,ci,fh hc,fg hc,rj,du,zeroRef,lg]
 by_cases a2:c=61
 ·simp only[iu,M.tag,hq,n1,a0,a1,a2,reduceIte,Nat.reduceEqDiff,false_and,true_and,and_false,and_true,false_or,or_false,true_or,or_true,if_true,if_false,b8]
  refine .inl ⟨rfl,.inl ⟨?_,?_,?_,?_,?_,?_,?_,?_,?_,?_,?_,?_,?_,?_,fun _=> ?_,?_⟩⟩<;>first|exact tr|exact l6.st tr (by rw[hq];omega) _ _ (by simp[hq]) _ _|simp_all[M.pc,M.st,M.on,M.err,M.wrong,M.je,M.putKey,M.im,m7,jq,cj,wrong,bz,ci,fh hc,fg hc,rj,du,zeroRef,lg]
 by_cases a3:c=62
 ·simp only[iu,M.tag,hq,n1,a0,a1,a2,a3,reduceIte,Nat.reduceEqDiff,false_and,true_and,and_false,and_true,false_or,or_false,true_or,or_true,if_true,if_false,b8]
  exact .inl ⟨rfl,.inl (Cp h1 h2 h3 h4 h5 h8 h9 h10 h11 tr)⟩
 ·simp only[iu,M.tag,hq,n1,a0,a1,a2,a3,reduceIte,Nat.reduceEqDiff,false_and,true_and,and_false,and_true,false_or,or_false,true_or,or_true,if_true,if_false,b8]
  have tr2:=Fm tr (by rw[hq];omega)
  clear tr
  rw[Tj]
  rw[yz]at*
  refine .inr ⟨rfl,.inl ⟨?_,?_,?_,?_,?_,?_,?_,?_,?_,?_,?_,?_,?_,?_,fun _=>tr2,?_⟩⟩<;>simp_all[M.pc,M.st,M.on,M.err,M.wrong,M.je,M.putKey,M.im,m7,jq,cj,wrong,bz,ci,fh hc,fg hc,rj,du,zeroRef,lg]
theorem zmy(h:Rel 0 s m)(hq:m.state=12)(hc:Sc c):vb (bm s c) (M.look m c):=by
 have hs:s.state=12:=by rw[h.st,hq];rfl
 have e1:bm s c=iz s c:=by simp[bm,hs]
 have e2:M.look m c=M.around m c:=by simp[M.look,hq]
 have n1:c≠ -1:=by have:=hc.1;omega
 have n2:=oq hc
 rw[e1,e2]
 clear e1 e2
 have tr:=h.tag (by rw[hq];omega)
 obtain⟨h1,h2,h3,h4,h5,h6,h7,h8,h9,h10,h11,h12,me,ng,qf,h16⟩:=h
 clear qf
 simp only[hq]at h6 h7 h8 h9 h10 h12 me ng h16
 simp at h5 h6 h7 h8 h9 h10 h12 me ng h16
 by_cases a0:ba c=true
 ·simp only[iz,M.around,hq,n1,a0,reduceIte,Nat.reduceEqDiff,false_and,true_and,and_false,and_true,false_or,or_false,true_or,or_true,if_true,if_false,b8]
  refine .inl ⟨rfl,.inl ⟨?_,?_,?_,?_,?_,?_,?_,?_,?_,?_,?_,?_,?_,?_,fun _=> ?_,?_⟩⟩<;>first|exact tr|exact l6.st tr (by rw[hq];omega) _ _ (by simp[hq]) _ _|simp_all[M.pc,M.st,M.on,M.err,M.wrong,M.je,M.putKey,M.im,m7,jq,cj,wrong,bz,ci,fh hc,fg hc,rj,du,zeroRef,lg]
 by_cases a1:c=34
 ·simp only[iz,M.around,hq,n1,a0,a1,reduceIte,Nat.reduceEqDiff,false_and,true_and,and_false,and_true,false_or,or_false,true_or,or_true,if_true,if_false,b8]
  refine .inl ⟨rfl,.inl ⟨?_,?_,?_,?_,?_,?_,?_,?_,?_,?_,?_,?_,?_,?_,fun _=> ?_,?_⟩⟩<;>first|exact tr|exact l6.st tr (by rw[hq];omega) _ _ (by simp[hq]) _ _|simp_all[M.pc,M.st,M.on,M.err,M.wrong,M.je,M.putKey,M.im,m7,jq,cj,wrong,bz,ci,fh hc,fg hc,rj,du,zeroRef,lg]
 by_cases a2:c=39
 ·simp only[iz,M.around,hq,n1,a0,a1,a2,reduceIte,Nat.reduceEqDiff,false_and,true_and,and_false,and_true,false_or,or_false,true_or,or_true,if_true,if_false,b8]
  refine .inl ⟨rfl,.inl ⟨?_,?_,?_,?_,?_,?_,?_,?_,?_,?_,?_,?_,?_,?_,fun _=> ?_,?_⟩⟩<;>first|exact tr|exact l6.st tr (by rw[hq];omega) _ _ (by simp[hq]) _ _|simp_all[M.pc,M.st,M.on,M.err,M.wrong,M.je,M.putKey,M.im,m7,jq,cj,wrong,bz,ci,fh hc,fg hc,rj,du,zeroRef,lg]
 by_cases a3:c=62
 ·simp only[iz,M.around,hq,n1,a0,a1,a2,a3,reduceIte,Nat.reduceEqDiff,false_and,true_and,and_false,and_true,false_or,or_false,true_or,or_true,if_true,if_false,b8]
  exact .inl ⟨rfl,.inl (Cp (by simp[wrong,bz,cj,M.err,M.wrong,h1,h5]) (by simpa[wrong,bz,cj,M.err,M.wrong]using h2) h3 h4 h5 h8 h9 h10 h11 (l6.st tr (by rw[hq];omega) m.state m.pos (by rw[hq];omega) _ m.back))⟩
 ·simp only[iz,M.around,hq,n1,a0,a1,a2,a3,reduceIte,Nat.reduceEqDiff,false_and,true_and,and_false,and_true,false_or,or_false,true_or,or_true,if_true,if_false,b8]
  refine .inr ⟨rfl,.inl ⟨?_,?_,?_,?_,?_,?_,?_,?_,?_,?_,?_,?_,?_,?_,fun _=> ?_,?_⟩⟩<;>first|exact tr|exact l6.st tr (by rw[hq];omega) _ _ (by simp[hq]) _ _|simp_all[M.pc,M.st,M.on,M.err,M.wrong,M.je,M.putKey,M.im,m7,jq,cj,wrong,bz,ci,fh hc,fg hc,rj,du,zeroRef,lg]
theorem zmz(h:Rel 0 s m)(hq:m.state=13)(hc:Sc c):vb (bm s c) (M.look m c):=by
 have hs:s.state=13:=by rw[h.st,hq];rfl
 have e1:bm s c=jm s c:=by simp[bm,hs]
 have e2:M.look m c=M.value m c:=by simp[M.look,hq]
 have n1:c≠ -1:=by have:=hc.1;omega
 have n2:=oq hc
 rw[e1,e2]
 clear e1 e2
 have tr:=h.tag (by rw[hq];omega)
 obtain⟨h1,h2,h3,h4,h5,h6,h7,h8,h9,h10,h11,h12,me,ng,qf,h16⟩:=h
 clear qf
 simp only[hq]at h6 h7 h8 h9 h10 h12 me ng h16
 simp at h5 h6 h7 h8 h9 h10 h12 me ng h16
 by_cases a0:c=34
 ·simp only[jm,M.value,hq,n1,a0,reduceIte,Nat.reduceEqDiff,false_and,true_and,and_false,and_true,false_or,or_false,true_or,or_true,if_true,if_false,b8]
  refine .inl ⟨rfl,.inl ⟨?_,?_,?_,?_,?_,?_,?_,?_,?_,?_,?_,?_,?_,?_,fun _=> ?_,?_⟩⟩<;>first|exact tr|exact l6.st tr (by rw[hq];omega) _ _ (by simp[hq]) _ _|simp_all[M.pc,M.st,M.on,M.err,M.wrong,M.je,M.putKey,M.im,m7,jq,cj,wrong,bz,ci,fh hc,fg hc,rj,du,zeroRef,lg]
 by_cases a1:c=38
 ·simp only[jm,M.value,hq,n1,a0,a1,reduceIte,Nat.reduceEqDiff,false_and,true_and,and_false,and_true,false_or,or_false,true_or,or_true,if_true,if_false,b8]
  refine .inl ⟨rfl,.inr (.inl ⟨rfl,⟨⟨?_,?_,?_,?_,?_,?_,?_,?_,?_,?_,?_,?_⟩,?_,?_⟩,rfl,rfl,rfl,rfl⟩)⟩<;>first|exact fun _=>l6.st tr (by rw[hq];omega) _ _ (by simp) _ _|simp_all[M.pc,M.st,M.on,M.err,M.wrong,M.je,M.putKey,M.im,m7,jq,cj,wrong,bz,ci,fh hc,fg hc,rj,du,zeroRef,lg,backs]
 ·simp only[jm,M.value,hq,n1,a0,a1,reduceIte,Nat.reduceEqDiff,false_and,true_and,and_false,and_true,false_or,or_false,true_or,or_true,if_true,if_false,b8]
  have tr2:=yc (s:=s) tr (oq hc) (by rw[hq];omega) (m.pos+1)
  simp only[fw,wrong,bz,cj,m7,jq,M.err,M.wrong,M.im]at tr2⊢
  refine .inl ⟨rfl,.inl ⟨?_,?_,?_,?_,?_,?_,?_,?_,?_,?_,?_,?_,?_,?_,fun _=> ?_,?_⟩⟩<;>first|exact tr2 _|simp_all[M.pc,M.st,M.on,M.err,M.wrong,M.je,M.putKey,M.im,m7,jq,cj,wrong,bz,ci,fh hc,fg hc,rj,du,zeroRef,lg]
theorem zm0(h:Rel 0 s m)(hq:m.state=14)(hc:Sc c):vb (bm s c) (M.look m c):=by
 have hs:s.state=14:=by rw[h.st,hq];rfl
 have e1:bm s c=jn s c:=by simp[bm,hs]
 have e2:M.look m c=M.value m c:=by simp[M.look,hq]
 have n1:c≠ -1:=by have:=hc.1;omega
 have n2:=oq hc
 rw[e1,e2]
 clear e1 e2
 have tr:=h.tag (by rw[hq];omega)
 obtain⟨h1,h2,h3,h4,h5,h6,h7,h8,h9,h10,h11,h12,me,ng,qf,h16⟩:=h
 clear qf
 simp only[hq]at h6 h7 h8 h9 h10 h12 me ng h16
 simp at h5 h6 h7 h8 h9 h10 h12 me ng h16
 by_cases a0:c=39
 ·simp only[jn,M.value,hq,n1,a0,reduceIte,Nat.reduceEqDiff,false_and,true_and,and_false,and_true,false_or,or_false,true_or,or_true,if_true,if_false,b8]
  refine .inl ⟨rfl,.inl ⟨?_,?_,?_,?_,?_,?_,?_,?_,?_,?_,?_,?_,?_,?_,fun _=> ?_,?_⟩⟩<;>first|exact tr|exact l6.st tr (by rw[hq];omega) _ _ (by simp[hq]) _ _|simp_all[M.pc,M.st,M.on,M.err,M.wrong,M.je,M.putKey,M.im,m7,jq,cj,wrong,bz,ci,fh hc,fg hc,rj,du,zeroRef,lg]
 by_cases a1:c=38
 ·simp only[jn,M.value,hq,n1,a0,a1,reduceIte,Nat.reduceEqDiff,false_and,true_and,and_false,and_true,false_or,or_false,true_or,or_true,if_true,if_false,b8]
  refine .inl ⟨rfl,.inr (.inl ⟨rfl,⟨⟨?_,?_,?_,?_,?_,?_,?_,?_,?_,?_,?_,?_⟩,?_,?_⟩,rfl,rfl,rfl,rfl⟩)⟩<;>first|exact fun _=>l6.st tr (by rw[hq];omega) _ _ (by simp) _ _|simp_all[M.pc,M.st,M.on,M.err,M.wrong,M.je,M.putKey,M.im,m7,jq,cj,wrong,bz,ci,fh hc,fg hc,rj,du,zeroRef,lg,backs]
 ·simp only[jn,M.value,hq,n1,a0,a1,reduceIte,Nat.reduceEqDiff,false_and,true_and,and_false,and_true,false_or,or_false,true_or,or_true,if_true,if_false,b8]
  have tr2:=yc (s:=s) tr (oq hc) (by rw[hq];omega) (m.pos+1)
  simp only[fw,wrong,bz,cj,m7,jq,M.err,M.wrong,M.im]at tr2⊢
  refine .inl ⟨rfl,.inl ⟨?_,?_,?_,?_,?_,?_,?_,?_,?_,?_,?_,?_,?_,?_,fun _=> ?_,?_⟩⟩<;>first|exact tr2 _|simp_all[M.pc,M.st,M.on,M.err,M.wrong,M.je,M.putKey,M.im,m7,jq,cj,wrong,bz,ci,fh hc,fg hc,rj,du,zeroRef,lg]
theorem zm1(h:Rel 0 s m)(hq:m.state=15)(hc:Sc c):vb (bm s c) (M.look m c):=by
 have hs:s.state=15:=by rw[h.st,hq];rfl
 have e1:bm s c=f8 s c:=by simp[bm,hs]
 have e2:M.look m c=M.value m c:=by simp[M.look,hq]
 have n1:c≠ -1:=by have:=hc.1;omega
 have n2:=oq hc
 rw[e1,e2]
 clear e1 e2
 have tr:=h.tag (by rw[hq];omega)
 obtain⟨h1,h2,h3,h4,h5,h6,h7,h8,h9,h10,h11,h12,me,ng,qf,h16⟩:=h
 clear qf
 simp only[hq]at h6 h7 h8 h9 h10 h12 me ng h16
 simp at h5 h6 h7 h8 h9 h10 h12 me ng h16
 by_cases a0:c=38
 ·simp only[f8,M.value,hq,n1,a0,b38,b62,reduceIte,Nat.reduceEqDiff,false_and,true_and,and_false,and_true,false_or,or_false,true_or,or_true,if_true,if_false,b8]
  refine .inl ⟨rfl,.inr (.inl ⟨rfl,⟨⟨?_,?_,?_,?_,?_,?_,?_,?_,?_,?_,?_,?_⟩,?_,?_⟩,rfl,rfl,rfl,rfl⟩)⟩<;>first|exact fun _=>l6.st tr (by rw[hq];omega) _ _ (by simp) _ _|simp_all[M.pc,M.st,M.on,M.err,M.wrong,M.je,M.putKey,M.im,m7,jq,cj,wrong,bz,ci,fh hc,fg hc,rj,du,zeroRef,lg,backs]
 by_cases a1:c=62
 ·simp only[f8,M.value,hq,n1,a0,a1,b38,b62,reduceIte,Nat.reduceEqDiff,false_and,true_and,and_false,and_true,false_or,or_false,true_or,or_true,if_true,if_false,b8]
  exact .inl ⟨rfl,.inl (Cp h1 h2 h3 h4 h5 h8 h9 h10 h11 tr)⟩
 by_cases a2:ba c=true
 ·simp only[f8,M.value,hq,n1,a0,a1,a2,b38,b62,reduceIte,Nat.reduceEqDiff,false_and,true_and,and_false,and_true,false_or,or_false,true_or,or_true,if_true,if_false,b8]
  refine .inl ⟨rfl,.inl ⟨?_,?_,?_,?_,?_,?_,?_,?_,?_,?_,?_,?_,?_,?_,fun _=> ?_,?_⟩⟩<;>first|exact tr|exact l6.st tr (by rw[hq];omega) _ _ (by simp[hq]) _ _|simp_all[M.pc,M.st,M.on,M.err,M.wrong,M.je,M.putKey,M.im,m7,jq,cj,wrong,bz,ci,fh hc,fg hc,rj,du,zeroRef,lg]
 by_cases a3:c=34∨c=39∨c=60∨c=61∨c=96
 ·simp only[f8,M.value,hq,n1,a0,a1,a2,a3,b38,b62,reduceIte,Nat.reduceEqDiff,false_and,true_and,and_false,and_true,false_or,or_false,true_or,or_true,if_true,if_false,b8]
  have tr2:=yc (s:=s) tr (oq hc) (by rw[hq];omega) (m.pos+1)
  simp only[fw,wrong,bz,cj,m7,jq,M.err,M.wrong,M.im]at tr2⊢
  refine .inl ⟨rfl,.inl ⟨?_,?_,?_,?_,?_,?_,?_,?_,?_,?_,?_,?_,?_,?_,fun _=> ?_,?_⟩⟩<;>first|exact tr2 _|simp_all[M.pc,M.st,M.on,M.err,M.wrong,M.je,M.putKey,M.im,m7,jq,cj,wrong,bz,ci,fh hc,fg hc,rj,du,zeroRef,lg]
 ·simp only[f8,M.value,hq,n1,a0,a1,a2,a3,b38,b62,reduceIte,Nat.reduceEqDiff,false_and,true_and,and_false,and_true,false_or,or_false,true_or,or_true,if_true,if_false,b8]
  have tr2:=yc (s:=s) tr (oq hc) (by rw[hq];omega) (m.pos+1)
  simp only[fw,wrong,bz,cj,m7,jq,M.err,M.wrong,M.im]at tr2⊢
  refine .inl ⟨rfl,.inl ⟨?_,?_,?_,?_,?_,?_,?_,?_,?_,?_,?_,?_,?_,?_,fun _=> ?_,?_⟩⟩<;>first|exact tr2 _|simp_all[M.pc,M.st,M.on,M.err,M.wrong,M.je,M.putKey,M.im,m7,jq,cj,wrong,bz,ci,fh hc,fg hc,rj,du,zeroRef,lg]
theorem zm2(h:Rel 0 s m)(hq:m.state=16)(hc:Sc c):vb (bm s c) (M.look m c):=by
 have hs:s.state=16:=by rw[h.st,hq];rfl
 have e1:bm s c=jr s c:=by simp[bm,hs]
 have e2:M.look m c=M.around m c:=by simp[M.look,hq]
 have n1:c≠ -1:=by have:=hc.1;omega
 have n2:=oq hc
 rw[e1,e2]
 clear e1 e2
 have tr:=h.tag (by rw[hq];omega)
 obtain⟨h1,h2,h3,h4,h5,h6,h7,h8,h9,h10,h11,h12,me,ng,qf,h16⟩:=h
 clear qf
 simp only[hq]at h6 h7 h8 h9 h10 h12 me ng h16
 simp at h5 h6 h7 h8 h9 h10 h12 me ng h16
 by_cases a0:ba c=true
 ·simp only[jr,M.around,hq,n1,a0,reduceIte,Nat.reduceEqDiff,false_and,true_and,and_false,and_true,false_or,or_false,true_or,or_true,if_true,if_false,b8]
  refine .inl ⟨rfl,.inl ⟨?_,?_,?_,?_,?_,?_,?_,?_,?_,?_,?_,?_,?_,?_,fun _=> ?_,?_⟩⟩<;>first|exact tr|exact l6.st tr (by rw[hq];omega) _ _ (by simp[hq]) _ _|simp_all[M.pc,M.st,M.on,M.err,M.wrong,M.je,M.putKey,M.im,m7,jq,cj,wrong,bz,ci,fh hc,fg hc,rj,du,zeroRef,lg]
 by_cases a1:c=47
 ·simp only[jr,M.around,hq,n1,a0,a1,reduceIte,Nat.reduceEqDiff,false_and,true_and,and_false,and_true,false_or,or_false,true_or,or_true,if_true,if_false,b8]
  refine .inl ⟨rfl,.inl ⟨?_,?_,?_,?_,?_,?_,?_,?_,?_,?_,?_,?_,?_,?_,fun _=> ?_,?_⟩⟩<;>first|exact tr|exact l6.st tr (by rw[hq];omega) _ _ (by simp[hq]) _ _|simp_all[M.pc,M.st,M.on,M.err,M.wrong,M.je,M.putKey,M.im,m7,jq,cj,wrong,bz,ci,fh hc,fg hc,rj,du,zeroRef,lg]
 by_cases a2:c=62
 ·simp only[jr,M.around,hq,n1,a0,a1,a2,reduceIte,Nat.reduceEqDiff,false_and,true_and,and_false,and_true,false_or,or_false,true_or,or_true,if_true,if_false,b8]
  exact .inl ⟨rfl,.inl (Cp h1 h2 h3 h4 h5 h8 h9 h10 h11 tr)⟩
 ·simp only[jr,M.around,hq,n1,a0,a1,a2,reduceIte,Nat.reduceEqDiff,false_and,true_and,and_false,and_true,false_or,or_false,true_or,or_true,if_true,if_false,b8]
  refine .inr ⟨rfl,.inl ⟨?_,?_,?_,?_,?_,?_,?_,?_,?_,?_,?_,?_,?_,?_,fun _=> ?_,?_⟩⟩<;>first|exact tr|exact l6.st tr (by rw[hq];omega) _ _ (by simp[hq]) _ _|simp_all[M.pc,M.st,M.on,M.err,M.wrong,M.je,M.putKey,M.im,m7,jq,cj,wrong,bz,ci,fh hc,fg hc,rj,du,zeroRef,lg]
theorem zm3(h:Rel 0 s m)(hq:m.state=17)(hc:Sc c):vb (bm s c) (M.look m c):=by
 have hs:s.state=17:=by rw[h.st,hq];rfl
 have e1:bm s c=lq s c:=by simp[bm,hs]
 have e2:M.look m c=M.around m c:=by simp[M.look,hq]
 have n1:c≠ -1:=by have:=hc.1;omega
 have n2:=oq hc
 rw[e1,e2]
 clear e1 e2
 have tr:=h.tag (by rw[hq];omega)
 obtain⟨h1,h2,h3,h4,h5,h6,h7,h8,h9,h10,h11,h12,me,ng,qf,h16⟩:=h
 clear qf
 simp only[hq]at h6 h7 h8 h9 h10 h12 me ng h16
 simp at h5 h6 h7 h8 h9 h10 h12 me ng h16
 by_cases a0:c=62
 ·simp only[lq,M.around,hq,n1,a0,reduceIte,Nat.reduceEqDiff,false_and,true_and,and_false,and_true,false_or,or_false,true_or,or_true,if_true,if_false,b8]
  refine .inl ⟨rfl,.inl (Cp h1 h2 h3 h4 h5 h8 h9 h10 h11 ?_)⟩
  obtain⟨t1,t2,t3,t4,t5,t6,t7,t8,t9⟩:=tr
  exact⟨t1,t2,t3,rfl,t5,t6,t7,(by rw[hq]at t8;exact t8),(by rw[hq]at t9;exact t9)⟩
 ·simp only[lq,M.around,hq,n1,a0,reduceIte,Nat.reduceEqDiff,false_and,true_and,and_false,and_true,false_or,or_false,true_or,or_true,if_true,if_false,b8]
  refine .inr ⟨rfl,.inl ⟨?_,?_,?_,?_,?_,?_,?_,?_,?_,?_,?_,?_,?_,?_,fun _=> ?_,?_⟩⟩<;>first|exact tr|exact l6.st tr (by rw[hq];omega) _ _ (by simp[hq]) _ _|simp_all[M.pc,M.st,M.on,M.err,M.wrong,M.je,M.putKey,M.im,m7,jq,cj,wrong,bz,ci,fh hc,fg hc,rj,du,zeroRef,lg]
variable{s:TS}{m:M.MS}{c:Int}{d:Int}{n:Nat}
theorem V7{c:Int}(h:Sc c)(y:Str):Lib.decodeGo ⟨(M.utf c++y).toArray⟩=(c.toNat,(M.utf c).length):=by
 have w:=Ki c
 have k:=zr4 h
 rw[gw h,B4 _ w.2.1]
 refine Prod.ext ?_ w.2.2
 show(Lib.decodeGo _).1=c.toNat
 omega
theorem zm4{c:Int}(h:Sc c)(x y:Str):Utf8.decode ⟨(x++(M.utf c++y)).toArray⟩ x.length=(c.toNat,(M.utf c).length):=by
 rw[Lb,List.drop_left,Hl (by simp[Kh]),V7 h]
theorem G4:∀(x:List Int)(pre:Str)(f:Nat)(s:TS),s9 x→(M.jk x).length≤f→lh ⟨(pre++M.jk x).toArray⟩ f pre.length s=x.foldl fw s
 |[],pre,f,s,_,_=>by
  cases f with
  |zero=>rfl
  |succ f=>rw[lh,ag (by simp[ByteArray.size])];rfl
 |c::r,pre,f,s,h,hf=>by
  have hc:=(jd.1 h).1
  have hu:0<(M.utf c).length:=List.length_pos_iff.2 (Kh c)
  rw[sy,aq]at hf
  obtain⟨g,rfl⟩:∃g,f=g+1:=⟨f-1,by omega⟩
  rw[sy,lh,au (by simp[ByteArray.size];omega),zm4 hc]
  have:=G4 r (pre++M.utf c) g (fw s c) (jd.1 h).2 (by omega)
  rw[aq,fm]at this
  rw[List.foldl_cons,←this]
  have e:((c.toNat:Nat):Int)=c:=by have:=hc.1;omega
  simp only[e]
theorem Kj(x:List Int)(h:s9 x):cn s (M.jk x)=if l8 s.ev=true then x.foldl fw s else gd s (M.jk x):=by
 unfold cn
 have:=G4 x [] (M.jk x).length s h (cx _)
 simp only[List.nil_append,ak]at this
 rw[this]
theorem Pi:∀(x:List Int)(s:TS)(m:M.MS),s9 x→l6 s.tag m→m.state≠10→
  (∃tg,x.foldl fw s={s with tag:=tg}∧l6 tg {m with value:=m.value++x})
 |[],s,m,_,h,_=>⟨s.tag,rfl,by simpa using h⟩
 |c::r,s,m,hx,h,hq=>by
  have h1:=yc h (jd.1 hx).1 hq m.pos m.told
  obtain⟨tg,e,k⟩:=Pi r (fw s c) {m with value:=m.value++[c]} (jd.1 hx).2 h1 hq
  refine⟨tg,?_,?_⟩
  ·rw[List.foldl_cons,e];rfl
  ·simpa using k
theorem Zn(h:backs n):l8 (n:Int)=decide (13≤n):=by
 rcases h with h|h|h|h|h<;>subst h<;>decide
theorem Hn(h:backs m.back):M.td m=decide (13≤m.back):=by
 unfold M.td
 rcases h with h|h|h|h|h<;>rw[h]<;>decide
theorem RC.give(h:RC d s m n){x:List Int}(hx:s9 x):RC d (cn s (M.jk x)) (M.give m x) n∧(∃tx tg,cn s (M.jk x)={s with text:=tx,tag:=tg})∧(∃tx vl,M.give m x={m with text:=tx,value:=vl}):=by
 rw[Kj x hx]
 obtain⟨h1,h2,h3,h4,h5,h6,h7,h8,h9,h10,h11,h12⟩:=h
 have hv:l8 s.ev=decide (13≤m.back):=by rw[h10.1];exact Zn h10.2.1
 rw[hv]
 unfold M.give
 rw[Hn h10.2.1]
 by_cases a:13≤m.back
 ·simp only[a,decide_true,if_true]
  obtain⟨tg,e,k⟩:=Pi x s m hx (h11 a) h12
  rw[e]
  exact⟨⟨h1,h2,h3,h4,h5,h6,h7,h8,h9,h10,fun _=>k,h12⟩,⟨_,_,rfl⟩,⟨_,_,rfl⟩⟩
 ·simp only[a,decide_false,b8,if_false]
  refine⟨⟨h1,?_,h3.cat hx,h4,h5,h6,h7,h8,h9,h10,fun z=>absurd z a,h12⟩,⟨_,_,rfl⟩,⟨_,_,rfl⟩⟩
  simp[gd,h2]
theorem l6.told{t:zd0}(h:l6 t m)(tl:List Tok)(p:Nat):l6 t {m with told:=tl,pos:=p}:=by
 obtain⟨t1,t2,t3,t4,t5,t6,t7,t8,t9⟩:=h
 exact⟨t1,t2,t3,t4,t5,t6,t7,t8,t9⟩
theorem RC.wrong(h:RC d s m n)(nm:Str)(p:Int):RC d (bz s nm p) (M.wrong m nm p) n:=by
 obtain⟨h1,h2,h3,h4,h5,h6,h7,h8,h9,h10,h11,h12⟩:=h
 exact⟨by simp[bz,cj,M.wrong,h1],h2,h3,h4,h5,h6,h7,h8,h9,h10,fun z=>(h11 z).told _ m.pos,h12⟩
theorem RC.pos(h:RC d s m n)(p:Nat):RC d s {m with pos:=p} n:=by
 obtain⟨h1,h2,h3,h4,h5,h6,h7,h8,h9,h10,h11,h12⟩:=h
 exact⟨h1,h2,h3,h4,h5,h6,h7,h8,h9,h10,fun z=>(h11 z).told m.told p,h12⟩
theorem RC.mst(h:RC d s m n)(q:Nat)(hq:q≠10):RC d s (M.st m q) n:=by
 obtain⟨h1,h2,h3,h4,h5,h6,h7,h8,h9,h10,h11,h12⟩:=h
 exact⟨h1,h2,h3,h4,h5,h6,h7,h8,h9,h10,fun z=>l6.st (h11 z) h12 q m.pos hq m.told m.back,hq⟩
theorem RC.inner(h:RC d s m n)(q:Int)(rc:Str)(rs rd:Bool)(rn:Int):RC d {s with state:=q,di:=rc,l9:=rs,nb:=rd,jx:=rn} m n:=by
 obtain⟨h1,h2,h3,h4,h5,h6,h7,h8,h9,h10,h11,h12⟩:=h
 exact⟨h1,h2,h3,h4,h5,h6,h7,h8,h9,h10,h11,h12⟩
theorem yd(h:backs n):n≠10∧n≤17∧n≠2∧¬(5≤n∧n≤7)∧n≠7∧(n=0∨n=1∨13≤n):=by unfold backs at h;omega
theorem RC.back(h:RC d s m m.pos):Rel d {s with state:=s.ev} (M.st m m.back):=by
 have k:=h.mst m.back (yd h.ref.2.1).1
 obtain⟨h1,h2,h3,h4,h5,h6,h7,h8,h9,h10,h11,h12⟩:=h
 obtain⟨r1,r2,r3⟩:=h10
 obtain⟨b1,b2,b3,b4,b5,b6⟩:=yd r2
 have es:(M.st m m.back).state=m.back:=rfl
 refine⟨h1,h2,h3,h4,h5,r1,.inl b2,?_,?_,?_,h9,?_,?_,?_,?_,?_⟩
 ·rw[ag (by rw[es];omega)];exact h6
 ·rw[ag (by rw[es];omega)];exact h7
 ·rw[ch (by rw[es];omega)];simpa using h8
 ·simp only[M.st];intro z;rcases z with z|z
  ·rw[z];exact r3 z
  ·exact absurd z b3
 ·simp only[M.st];intro z z2;exact absurd ⟨z,z2⟩ b4
 ·simp only[M.st];intro z;exact absurd z b5
 ·intro z;simp only[M.st]at z;exact k.tag (show 13≤m.back by omega)
 ·simp only[M.st];intro z;omega
theorem RC.unknown(h:RC d s m m.pos):Rel d {s with state:=33} (M.st m 33):=by
 have k:=h.mst 33 (by omega)
 obtain⟨h1,h2,h3,h4,h5,h6,h7,h8,h9,h10,h11,h12⟩:=h
 refine⟨h1,h2,h3,h4,h5,rfl,.inr (.inr rfl),?_,?_,?_,h9,?_,?_,?_,?_,fun _=>h10⟩
 ·simpa[M.st]using h6
 ·simpa[M.st]using h7
 ·simpa[M.st]using h8
 ·simp[M.st]
 ·simp[M.st]
 ·simp[M.st]
 ·intro z;simp[M.st]at z;exact k.tag z
theorem Rel.rc33(h:Rel d s m)(hq:m.state=33):RC d s m m.pos:=by
 obtain⟨h1,h2,h3,h4,h5,h6,h7,h8,h9,h10,h11,h12,me,ng,qf,h16⟩:=h
 simp only[hq]at h8 h9 h10
 simp at h8 h9 h10
 exact⟨h1,h2,h3,h4,h5,h8,h9,h10,h11,h16 hq,fun z=>qf (.inr ⟨hq,z⟩),by omega⟩
def Steps:Nat→M.MS→M.MS→Prop
 |0,m,m'=>m'=m
 |k+1,m,m'=>∃m1,M.step m=some m1∧Steps k m1 m'
theorem Steps.one{a b:M.MS}(h:M.step a=some b):Steps 1 a b:=⟨b,h,rfl⟩
theorem Steps.cat:∀{i j:Nat}{a b c:M.MS},Steps i a b→Steps j b c→Steps (i+j) a c
 |0,j,a,b,c,h,k=>by cases h;simpa using k
 |i+1,j,a,b,c,⟨m1,e,h⟩,k=>by
  rw[Nat.add_right_comm];exact⟨m1,e,h.cat k⟩
theorem Kk(h31:m.state≠31)(h18:m.state≠18)(hc:0≤M.ahead m 0):M.step m=some (M.look m (M.ahead m 0)):=by
 unfold M.step;rw[ag h31,ag h18,ag (by omega)]
def Zo(c:Int):Prop:=br c=true∨fc c=true
theorem ud(h:Zo c):(48≤c∧c≤57)∨(65≤c∧c≤90)∨(97≤c∧c≤122):=by
 unfold Zo br fc at h;simp at h;omega
theorem zfc(h:Zo c):ba c=false:=by
 have:=ud h;unfold ba
 simp;omega
theorem zkm(h:Zo c):M.lx m c=m∧bb c=c:=by
 have:=ud h
 unfold M.lx bb
 rw[ag (by omega),ag (by omega)];exact⟨rfl,rfl⟩
theorem zh2(hc:Zo c)(hq:(m.state=m.back∧backs m.back)∨(m.state=33∧backs m.back)):M.look m c=M.on (M.give m [c]):=by
 have r:=ud hc
 have b:=zfc hc
 obtain⟨n1,n2⟩:=zkm (m:=m) hc
 rcases hq with⟨h1,h2⟩|⟨h1,h2⟩
 ·have iv:=Hn h2
  unfold M.look
  rcases h2 with h2|h2|h2|h2|h2<;>rw[h2]at h1 iv<;>simp only[h1]<;>
   simp[M.text,M.value,h1,n1,n2,M.give,iv,M.on,M.ke,M.im,b,show ¬c=38 by omega,show ¬c=60 by omega,show ¬c=34 by omega,show ¬c=39 by omega,show ¬c=62 by omega,show ¬c=61 by omega,show ¬c=96 by omega]
 ·unfold M.look M.En
  simp only[h1]
  simp[show br c=true∨fc c=true from hc]
theorem Ho:∀(x:List Int)(m:M.MS),(∀c∈x,Zo c)→((m.l.drop m.pos).take x.length=x)→((m.state=m.back∧backs m.back)∨(m.state=33∧backs m.back))→
  Steps x.length m {M.give m x with pos:=m.pos+x.length}
 |[],m,_,_,_=>by
  show _=_
  unfold M.give;split<;>simp
 |c::r,m,ha,hl,hq=>by
  have hc:=ha c (by simp)
  have e0:M.ahead m 0=c:=by
   have:(m.l.drop m.pos)[0]? =some c:=by
    have h0:((m.l.drop m.pos).take (c::r).length)[0]? =some c:=by rw[hl];rfl
    rw[List.getElem?_take]at h0
    simpa using h0
   unfold M.ahead
   rw[List.getElem?_drop]at this
   rw[this];rfl
  have hs:M.step m=some (M.on (M.give m [c])):=by
   have rr:=ud hc
   rw[Kk ?_ ?_ (by rw[e0];omega),e0,zh2 hc hq]
   ·rcases hq with⟨h1,h2⟩|⟨h1,h2⟩
    ·have:=yd h2;omega
    ·omega
   ·rcases hq with⟨h1,h2⟩|⟨h1,h2⟩
    ·have:=yd h2;omega
    ·omega
  have hl2:(m.l.drop (m.pos+1)).take r.length=r:=by
   have:(m.l.drop m.pos)=c::(m.l.drop (m.pos+1)):=by
    have h0:m.l[m.pos]? =some c:=by
     have h0:((m.l.drop m.pos).take (c::r).length)[0]? =some c:=by rw[hl];rfl
     rw[List.getElem?_take,List.getElem?_drop]at h0
     simpa using h0
    obtain⟨hlt,he⟩:=cd.1 h0
    rw[List.drop_eq_getElem_cons hlt,he]
   rw[this]at hl
   simpa using hl
  refine⟨_,hs,?_⟩
  have ind:=Ho r (M.on (M.give m [c])) (fun y hy=>ha y (by simp[hy])) (by
   have e1:(M.on (M.give m [c])).l=m.l:=by unfold M.on M.give;split<;>rfl
   have e2:(M.on (M.give m [c])).pos=m.pos+1:=by unfold M.on M.give;split<;>rfl
   rw[e1,e2];exact hl2) (by
   have e1:(M.on (M.give m [c])).state=m.state:=by unfold M.on M.give;split<;>rfl
   have e2:(M.on (M.give m [c])).back=m.back:=by unfold M.on M.give;split<;>rfl
   rw[e1,e2];exact hq)
  have e:{M.give (M.on (M.give m [c])) r with pos:=(M.on (M.give m [c])).pos+r.length}={M.give m (c::r)with pos:=m.pos+(c::r).length}:=by
   unfold M.give M.on M.td
   by_cases v:(m.back==13||m.back==14||m.back==15)=true
   ·simp[v];omega
   ·simp[v];omega
  rw[e]at ind
  exact ind
end Go.Proofs.YtdfmapcnfficlaaGreatDoor.Si

import Derived.Test.YtdfmapcnfficlaaGreatDoorP47
import Derived.Test.YtdfmapcnfficlaaGreatDoorP46
set_option linter.all false
set_option maxHeartbeats 4000000
set_option maxRecDepth 1000000
namespace Go.Proofs.YtdfmapcnfficlaaGreatDoor.M
open Go.Proofs.Tryz
open Go Go.RowKit Go.Proofs.YtdfmapcnfficlaaGreatDoor
theorem zcr(lm:Int)(x:Str)(wh:Bool)(hx:x.length≤268435456):∀t∈resT lm x wh,t.attrs.length≤1099511600000:=by
 have hph:∀w,Si.ph (Si.m0 (Si.z4 x w) w)=0:=fun w=>by simp[Si.ph,Si.m0,mj]
 have h0:∀w,Si.Cw 1099511600000 (Si.m0 (Si.z4 x w) w):=fun w t ht=>by cases ht
 cases wh with
 |false=>
  obtain⟨i,m',h1,h2,h3,h4,h5⟩:=Si.P0 x lm
  have:=Si.Kq (B:=1099511600000) i (Si.inv0 _ _) h2 (h0 false) (by rw[hph];omega)
  intro t ht
  exact this t (by rw[←h5.1];exact ht)
 |true=>
  obtain⟨i,m',h1,h2,h3,h4⟩:=Si.Tr x lm
  have:=Si.T5 (Si.zf7 (Si.Kq (B:=1099511600000) i (Si.inv0 _ _) h2 (h0 true) (by rw[hph];omega)))
  intro t ht
  exact this t (by rw[←h4];exact ht)
theorem zcs{s:TS}{y:YS}(h:rz s y):∀t∈s.told,t.attrs.length+5≤1099511627000:=by
 intro t ht
 obtain⟨pre,_,e⟩:=h.told
 have hm:t∈uk y:=by rw[←e];exact List.mem_append_right _ ht
 unfold uk at hm
 rcases List.mem_append.1 hm with z|z
 ·have:=zcr y.limit y.text y.closed h.sm t z;omega
 ·split at z
  ·simp at z;rw[z];simp
  ·cases z
section
variable{wB w w' W W1 W':World}{o:Nat→Nat}{b j:Nat}{S:WS}{R:z5}{E:List Item}{ac al:Addr}
theorem zf8(T:Fy wB ac al)(h:GE wB o b S R [] none none w){i:Nat}{p:Pr}(hp:S.ps[i]? =some p)(hpk:rz p.s p.y)(wv nv:Int)(x:Str)(lv:Value)(hL:S.last+1≤1073741824)(hA:S.ry.length+5*(uk p.y).length≤1099511627000+5*p.y.given)(hls:S.ls.length+5≤1099511627000):
  Calls prog 51 #[.pointer (some ⟨b,0,none⟩),.agg #[.pointer (some ⟨p.bx,0,none⟩),.pointer (some ⟨p.bY,0,none⟩)],.agg #[.int .i64 4,.int .i64 wv,.int .i64 nv,.string ⟨x.toArray⟩,lv]] w fun e w'=>e= .returned (.bool true)∧∃o' R' S' p',GE wB o' b S' R' [] none none w'∧Nxt S S' i p p' x.length:=by
 have HH:=hide h
 have Z9:=hide hpk
 have HP:=hide hp
 have HT:=hide T
 clear h hpk hp T
 go_enter func51,ntmps51
 go_wp2_with fail
 have q1:((w.alloc (.cells #[.pointer (some ⟨p.bx,0,none⟩),.pointer (some ⟨p.bY,0,none⟩)] 115)).alloc (.cells #[.int .i64 4,.int .i64 wv,.int .i64 nv,.string ⟨x.toArray⟩,lv] 25)).heap[w.heap.size]? =some (.cells #[.pointer (some ⟨p.bx,0,none⟩),.pointer (some ⟨p.bY,0,none⟩)] 115 (0,0)):=by
  rw[Below.heap_alloc _ _ _ (by simp)];exact heap_alloc_new w _
 have q2:((w.alloc (.cells #[.pointer (some ⟨p.bx,0,none⟩),.pointer (some ⟨p.bY,0,none⟩)] 115)).alloc (.cells #[.int .i64 4,.int .i64 wv,.int .i64 nv,.string ⟨x.toArray⟩,lv] 25)).heap[w.heap.size+1]? =some (.cells #[.int .i64 4,.int .i64 wv,.int .i64 nv,.string ⟨x.toArray⟩,lv] 25 (0,0)):=xa _ _ _ (by simp)
 have h2:=(ae HH).Fz (((More.refl w).alloc (.cells #[.pointer (some ⟨p.bx,0,none⟩),.pointer (some ⟨p.bY,0,none⟩)] 115)).alloc (.cells #[.int .i64 4,.int .i64 wv,.int .i64 nv,.string ⟨x.toArray⟩,lv] 25))
 have o1:up o w 0 w.heap.size=0:=Cu (cx _)
 have o2:up o w 0 (w.heap.size+1)=0:=Cu (by omega)
 generalize(w.alloc (.cells #[.pointer (some ⟨p.bx,0,none⟩),.pointer (some ⟨p.bY,0,none⟩)] 115)).alloc (.cells #[.int .i64 4,.int .i64 wv,.int .i64 nv,.string ⟨x.toArray⟩,lv] 25)=w2 at*
 generalize up o w 0=oo at*
 refine(ze7 (h2.x i p (ae HP))).mono ?_
 rintro e w3⟨r,ta,hta,rfl,ht⟩
 have hs3:=Kept.stands ht.2
 have h3:=h2.handed (ae HP) ht
 rw[gq]at h3
 have q13:=Ar hs3 q1 (by rw[o1];omega)
 have d1:w3.cell? ⟨w.heap.size,1,none⟩=some (.pointer (some ⟨p.bY,0,none⟩)):=bg q13 1
 have hp4:=Wq (q:={p with s:=take p.s}) (ae HP)
 have hyk:Yk w3 p.bY p.y w3:=⟨(h3.y i _ hp4).1,Kept.refl _ _⟩
 obtain⟨g1,g2⟩:=T0 (ae Z9)
 have HYW:=hide (zcd hyk (ae Z9).sm g1)
 have HD:=hide g2
 have hTl:p.s.told.length+p.y.given=(uk p.y).length:=by rw[←g2,fj];omega
 have hTb:p.s.told.length≤137438960000:=by have:=Hr w (ae Z9);have:=(ae Z9).sm;omega
 have HAT:=hide (zcs (ae Z9))
 have H3:=hide h3
 have HTA:=hide hta
 clear h2 ht hs3 h3 q1 q2 q13 hyk g1 g2 hta
 go_wp2_with fail
 refine(ae HYW).mono ?_
 rintro e w4⟨v',rfl,hto,hy⟩
 have h4:=(ae H3).zdu (pa:=none) (pl:=none) hp4 hy
 rw[ae HD]at hto
 have hrow:(rq r p.s.told ta).ok w4:=h4.obj.ok (by simp)
 have htv:=zis hrow (fun it hi=>h4.obj.ok (by simp[hi])) (ae HTA)
 have HSM:=hide (zcg p.s.told w4 _ v' htv hto (by unfold Go.Proofs.YtdfmapcnfficlaaGreatDoor.lim;omega))
 have H4:=hide h4
 clear h4 hrow htv hto hy HYW H3 d1 HD
 go_wp2_with fail
 refine(ae HSM).mono ?_
 rintro e w5⟨rfl,m5⟩
 have h5:=(ae H4).Fz m5
 have HKP:=hide (zf4 h5 (ae HTA) hL hTb (show S.ry.length+5*p.s.told.length≤1099511627000 by omega) hls (ae HAT))
 clear H4 m5 h5 HSM
 go_wp2_with fail
 refine(ae HKP).mono ?_
 rintro e w6⟨rfl,o6,S6,⟨R6,h6⟩,e1,e2,e3,e4⟩
 have H6:=hide h6
 have HE:=hide (And.intro e1 (And.intro e2 (And.intro e3 e4)))
 clear h6 HKP e1 e2 e3 e4
 go_wp2
 go_ret
 obtain⟨e1,e2,e3,e4⟩:=ae HE
 refine⟨rfl,o6,R6,S6,{p with s:=take p.s,y:={p.y with given:=(uk p.y).length}},ae H6,⟨?_,rfl,rfl,zf1 (ae Z9),rfl,by simp,by show p.y.given≤(uk p.y).length;omega,by omega,by omega,?_⟩⟩
 ·rw[e1];simp
 ·show S6.ry.length+5*p.y.given≤S.ry.length+5*(uk p.y).length
  omega
end
def given(ps:List Pr):Nat:=(ps.map (·.y.given)).sum
theorem T7:∀{ps:List Pr}{i:Nat}{p p':Pr},ps[i]? =some p→given (ps.set i p')+p.y.given=given ps+p'.y.given
 |[],i,p,p',h=>by simp at h
 |a::r,0,p,p',h=>by
  simp at h;subst h
  simp[given];omega
 |a::r,i+1,p,p',h=>by
  have:=T7 (ps:=r) (i:=i) (p:=p) (p':=p') (by simpa using h)
  simp[given]at this⊢;omega
theorem zga(ps:List Pr)(p:Pr):given (ps++[p])=given ps+p.y.given:=by simp[given]
theorem zjd(ps:List Pr)(K:Nat)(h:∀p∈ps,p.y.given≤K):given ps≤ps.length*K:=by
 induction ps with
 |nil=>simp[given]
 |cons a r ih=>
  have h1:=ih (fun p hp=>h p (by simp[hp]))
  have h2:=h a (by simp)
  simp[given]at h1⊢
  rw[Nat.add_mul];omega
structure WI(wB:World)(o:Nat→Nat)(b:Nat)(S:WS)(R:z5)(w:World)(c B:Nat):Prop where
 ge:GE wB o b S R [] none none w
 prs:∀(i:Nat)p,S.ps[i]? =some p→rz p.s p.y∧p.y.limit≤9223372036854775807∧p.y.text.length≤B
 len:S.ps.length≤12
 last:S.last≤c
 ls:S.ls.length≤5*c
 ry:S.ry.length≤5*given S.ps
section
variable{wB w w' W W1 W':World}{o:Nat→Nat}{b j:Nat}{S:WS}{R:z5}{ac al:Addr}{c B:Nat}
theorem WI.given(h:WI wB o b S R w c B)(w0:World):given S.ps≤12*(512*B+1029):=by
 have h1:∀p∈S.ps,p.y.given≤512*B+1029:=by
  intro p hp
  obtain⟨i,hi⟩:=List.getElem?_of_mem hp
  obtain⟨k1,_,k3⟩:=h.prs i p hi
  have:=(T0 k1).1
  have:=Hr w0 k1
  omega
 have:=zjd S.ps _ h1
 have hl:=h.len
 exact fz this (Nat.mul_le_mul_right _ hl)
theorem WI.next(h:WI wB o b S R w c B){i:Nat}{p p':Pr}{o':Nat→Nat}{R':z5}{S':WS}{n:Nat}(hp:S.ps[i]? =some p)(hg:GE wB o' b S' R' [] none none w')(hn:Nxt S S' i p p' n):WI wB o' b S' R' w' (c+1) (B+n):=by
 obtain⟨k1,k2,k3⟩:=h.prs i p hp
 have hset:=T7 (p':=p') hp
 refine⟨hg,fun k q hq=> ?_,by rw[hn.ps,List.length_set];exact h.len,by have:=hn.last;have:=h.last;omega,by have:=hn.ls;have:=h.ls;omega,?_⟩
 ·rw[hn.ps]at hq
  rcases Jd hp hq with⟨rfl,rfl⟩|⟨_,hq⟩
  ·exact⟨hn.ok,by rw[hn.lim];exact k2,by have:=hn.txt;omega⟩
  ·obtain⟨j1,j2,j3⟩:=h.prs k q hq
   exact⟨j1,j2,by omega⟩
 ·have:=hn.ry
  have:=h.ry
  have:=hn.giv
  rw[hn.ps];omega
theorem WI.more(h:WI wB o b S R w c B)(hm:More w w'):WI wB (up o w 0) b S R w' c B:=⟨h.ge.Fz hm,h.prs,h.len,h.last,h.ls,h.ry⟩
theorem WI.up(h:WI wB o b S R w c B){c' B':Nat}(hc:c≤c')(hB:B≤B'):WI wB o b S R w c' B':=
 ⟨h.ge,fun i p hp=>by obtain⟨k1,k2,k3⟩:=h.prs i p hp;exact⟨k1,k2,by omega⟩,h.len,by have:=h.last;omega,by have:=h.ls;omega,h.ry⟩
theorem zje(T:Fy wB ac al)(h:WI wB o b S R w c B)(hc:c≤4194304)(hB:B≤4194304){i:Nat}{p:Pr}(hp:S.ps[i]? =some p)(kd wv nv:Int)(hk:2≤kd∧kd≤5)(x:Str)(hx:x.length≤4194304)(lv:Value):
  Calls prog 51 #[.pointer (some ⟨b,0,none⟩),.agg #[.pointer (some ⟨p.bx,0,none⟩),.pointer (some ⟨p.bY,0,none⟩)],.agg #[.int .i64 kd,.int .i64 wv,.int .i64 nv,.string ⟨x.toArray⟩,lv]] w fun e w'=>e= .returned (.bool true)∧∃o' R' S',WI wB o' b S' R' w' (c+1) (B+x.length)∧S'.ps.length=S.ps.length:=by
 obtain⟨k1,k2,k3⟩:=h.prs i p hp
 have hgv:=h.given w
 have hat:=h.ry
 have hls:=h.ls
 have hlast:=h.last
 have hpl:(S.ps).length=S.ps.length:=rfl
 have fin:∀{W:World},(∃o' R' S' p',GE wB o' b S' R' [] none none W∧Nxt S S' i p p' x.length)→∃o' R' S',WI wB o' b S' R' W (c+1) (B+x.length)∧S'.ps.length=S.ps.length:=by
  rintro W⟨o',R',S',p',hg,hn⟩
  exact⟨o',R',S',h.next hp hg hn,by rw[hn.ps,List.length_set]⟩
 rcases(show kd=2∨kd=3∨kd=4∨kd=5 by omega)with rfl|rfl|rfl|rfl
 ·refine(zcm T h.ge hp k1 k2 wv nv x lv (by omega)).mono ?_
  rintro e W⟨rfl,z⟩
  exact⟨rfl,fin z⟩
 ·refine(zcn T h.ge hp k1 wv nv x lv).mono ?_
  rintro e W⟨rfl,z⟩
  exact⟨rfl,fin z⟩
 ·have hpg:=Hr w k1
  refine(zf8 T h.ge hp k1 wv nv x lv (by omega) (by omega) (by omega)).mono ?_
  rintro e W⟨rfl,z⟩
  exact⟨rfl,fin z⟩
 ·refine(zf3 T h.ge hp k1 wv nv x lv).mono ?_
  rintro e W⟨rfl,z⟩
  exact⟨rfl,fin z⟩
end
end Go.Proofs.YtdfmapcnfficlaaGreatDoor.M
namespace Go.Proofs.YtdfmapcnfficlaaGreatDoor.M
open Go Go.RowKit Go.Proofs.YtdfmapcnfficlaaGreatDoor
section
variable{P:Program}{ops:Array Oper}{Q:Exit→Act→World→Prop}{md:Region.Mode}{S:World→Prop}{k:Nat}
def Sj(P:Program)(md:Region.Mode)(ops:Array Oper)(Q:Exit→Act→World→Prop)(S:World→Prop)(k:Nat):Nat→Array Bool→Act→World→Prop
 |0,listed,a,w=>Region.ready md ops listed=[]∧Q .normal a w
 |fuel+1,listed,a,w=>
  (Region.ready md ops listed=[]→Q .normal a w)∧
  ∀i∈Region.ready md ops listed,wpOp P ops Q i (fun a' w'=>(i≠k→S w'∧Sj P md ops Q S k fuel (listed.setIfInBounds i true) a' w')∧(i=k→wpAny P md ops Q fuel (listed.setIfInBounds i true) a' w')) a w
theorem zab:∀(fuel:Nat)(listed:Array Bool)(a:Act)(w:World),Sj P md ops Q S k fuel listed a w→wpAny P md ops Q fuel listed a w
 |0,_,_,_,h=>h
 |fuel+1,_,_,_,h=>⟨h.1,fun i hi=>wpOp_mono (fun a' w' h'=>by
   by_cases hk:i=k
   ·exact h'.2 hk
   ·exact zab fuel _ a' w' (h'.1 hk).2) (h.2 i hi)⟩
def zjf(md:Region.Mode)(ops:Array Oper)(i k:Nat)(U:List Nat)(listed:Array Bool):Bool:=
 U.contains k&&U.all fun u=>(listed.getD u true==false)&&(match ops[u]? with|some o=>o.after.any (fun e=>Region.binds md e&&(e.on==i||U.contains e.on))|none=>false)
theorem zk3{i:Nat}{oi:Oper}{v:Value}{U:List Nat}(hi:ops[i]? =some oi)(hsel:∀(j:Nat)(o:Oper)cs b,ops[j]? =some o→o.op≠ .select cs b)
  (hQ:∀c a w,Q (.panic c) (a.put oi.dst v) w→Q (.panic c) a w) (hkU:k∈U)
  (hed:∀u∈U,∃o,ops[u]? =some o∧∃e∈o.after,Region.binds md e=true∧(e.on=i∨e.on∈U)) (hik:i≠k):
  ∀(fuel:Nat)(listed:Array Bool)(a:Act)(w:World),
   (∀j oj,ops[j]? =some oj→j≠i→listed.getD j true=false→(∀e∈oj.after,Region.binds md e=true→e.on≠i)→oi.apart ops oj=true)→
   (∀u∈U,listed.getD u true=false)→
   i∈Region.ready md ops listed→YieldsIf P ops S oi v a→S w→
   Sj P md ops Q S k fuel (listed.setIfInBounds i true) (a.put oi.dst v) w→Sj P md ops Q S k (fuel+1) listed a w:=by
 intro fuel
 induction fuel with
 |zero=>
  intro listed a w _ _ hr hy hS H
  refine⟨fun h=>(by rw[h]at hr;cases hr),fun j hj=> ?_⟩
  by_cases hji:j=i
  ·subst hji;exact hy.wpOp hi hS ⟨fun _=>⟨hS,H⟩,fun h=>absurd h hik⟩
  ·have:=ready_mono hj hji
   rw[H.1]at this
   cases this
 |succ fuel ih=>
  intro listed a w hfree hun hr hy hS H
  refine⟨fun h=>(by rw[h]at hr;cases hr),fun j hj=> ?_⟩
  by_cases hji:j=i
  ·subst hji;exact hy.wpOp hi hS ⟨fun _=>⟨hS,H⟩,fun h=>absurd h hik⟩
  ·have h1:=H.2 j (ready_mono hj hji)
   obtain⟨hjun,oj,hoj,hall⟩:=mem_ready.1 hj
   have hoff:∀x,listed.getD x true=false→listed.getD x false=true→False:=fun x h0 h1=>by
    rcases Nat.lt_or_ge x listed.size with h'|h'
    ·simp[h']at h0 h1;rw[h0]at h1;cases h1
    ·simp[Array.getElem?_eq_none h']at h1
   have hnot:∀e∈oj.after,Region.binds md e=true→e.on≠i:=fun e he hb heq=>by
    have h1:=hall e he hb
    rw[heq]at h1
    exact hoff i (mem_ready.1 hr).1 h1
   have hjU:j∉U:=fun hu=>by
    obtain⟨o2,ho2,e,he,hb,hc⟩:=hed j hu
    rw[hoj]at ho2
    cases ho2
    rcases hc with hc|hc
    ·exact hnot e he hb hc
    ·exact hoff _ (hun _ hc) (hall e he hb)
   have hjk:j≠k:=fun h=>hjU (h▸hkU)
   have h2:=wpOp_putIf hoj (hfree j oj hoj hji hjun hnot) (fun cs b=>hsel i oi cs b hi) (fun cs b=>hsel j oj cs b hoj) hQ hy h1
   have hfree':∀k ok,ops[k]? =some ok→k≠i→(listed.setIfInBounds j true).getD k true=false→
     (∀e∈ok.after,Region.binds md e=true→e.on≠i)→oi.apart ops ok=true:=fun k ok hk hki hun hno=>by
    refine hfree k ok hk hki ?_ hno
    by_cases hjk:j=k
    ·subst hjk;exact hjun
    ·rw[getD_set_ne true hjk]at hun;exact hun
   have hun':∀u∈U,(listed.setIfInBounds j true).getD u true=false:=fun u hu=>by
    have hne:j≠u:=fun h=>hjU (by rw[h];exact hu)
    rw[getD_set_ne true hne];exact hun u hu
   refine wpOp_mono (fun a' w' h3=>⟨fun _=>⟨(h3.2.1 hjk).1,ih (listed.setIfInBounds j true) a' w' hfree' hun' (ready_mono hr (Ne.symm hji)) h3.1 (h3.2.1 hjk).1 ?_⟩,fun h=>absurd h hjk⟩) h2
   rw[Array.setIfInBounds_comm _ _ hji]
   exact(h3.2.1 hjk).2
theorem xd{i:Nat}{oi:Oper}{v:Value}{fuel:Nat}{listed:Array Bool}{a:Act}{w:World}(U:List Nat)(hi:ops[i]? =some oi)
  (hs:Region.noSelect ops=true) (hf:Region.free md ops listed i=true) (hr:(Region.ready md ops listed).contains i=true)
  (hU:(zjf md ops i k U listed&&i !=k)=true)
  (hQ:∀c a w,Q (.panic c) (a.put oi.dst v) w→Q (.panic c) a w) (hy:YieldsIf P ops S oi v a) (hS:S w)
  (h:Sj P md ops Q S k fuel (listed.setIfInBounds i true) (a.put oi.dst v) w):Sj P md ops Q S k (fuel+1) listed a w:=by
 unfold zjf at hU
 simp only[Bool.and_eq_true,List.all_eq_true,bne_iff_ne]at hU
 obtain⟨⟨h1,h2⟩,h3⟩:=hU
 refine zk3 hi (Region.noSelect_spec hs) hQ (by simpa using h1) (fun u hu=> ?_) h3 fuel listed a w (Region.free_spec hi hf) (fun u hu=>by simpa using(h2 u hu).1) (by simpa using hr) hy hS h
 have:=(h2 u hu).2
 cases ho:ops[u]? with
 |none=>rw[ho]at this;simp at this
 |some o=>
  rw[ho]at this
  obtain⟨e,he,hb⟩:=Array.any_eq_true'.1 this
  simp only[Bool.and_eq_true,Bool.or_eq_true,beq_iff_eq]at hb
  exact⟨o,rfl,e,he,hb.1,hb.2.imp id (fun h=>by simpa using h)⟩
theorem zqq{i:Nat}{o:Oper}{fuel:Nat}{listed:Array Bool}{a:Act}{w:World}(hr:Region.ready md ops listed=[i])(ho:ops[i]? =some o)(hik:(i !=k)=true)
  (h:∀K':Act→World→Prop,Hid (∀a w,S w→Sj P md ops Q S k fuel (listed.setIfInBounds i true) a w→K' a w)→if Region.wanted o (yielded ops a.tmps)=true then Oper.wp P o a w K' Q else K' (a.put o.dst undef) w):
  Sj P md ops Q S k (fuel+1) listed a w:=by
 have hik:i≠k:=by simpa using hik
 refine⟨fun h0=>(by rw[hr]at h0;cases h0),fun j hj=> ?_⟩
 rw[hr]at hj
 have:j=i:=by simpa using hj
 subst this
 exact wpOp_step ho (fun K' hK=>h K' (hide (fun a w hS hW=>hK a w ⟨fun _=>⟨hS,hW⟩,fun h=>absurd h hik⟩)))
theorem zob{o:Oper}{fuel:Nat}{listed:Array Bool}{a:Act}{w:World}(hr:Region.ready md ops listed=[k])(ho:ops[k]? =some o)
  (h:∀K':Act→World→Prop,Hid (∀a w,wpAny P md ops Q fuel (listed.setIfInBounds k true) a w→K' a w)→if Region.wanted o (yielded ops a.tmps)=true then Oper.wp P o a w K' Q else K' (a.put o.dst undef) w):
  Sj P md ops Q S k (fuel+1) listed a w:=by
 refine⟨fun h0=>(by rw[hr]at h0;cases h0),fun j hj=> ?_⟩
 rw[hr]at hj
 have:j=k:=by simpa using hj
 subst this
 exact wpOp_step ho (fun K' hK=>h K' (hide (fun a w hW=>hK a w ⟨fun h=>absurd rfl h,fun _=>hW⟩)))
theorem zk4{id:Nat}{a:Act}{w:World}(S:World→Prop)(k:Nat)(hm:P.follows .mixedOrders=true)
  (h:Sj P .any ops Q S k ops.size (Array.replicate ops.size false) a w.drew):(Code.region id ops true).wp P Q a w:=
 wp_region_any hm (zab _ _ _ _ h)
end
end Go.Proofs.YtdfmapcnfficlaaGreatDoor.M
namespace Go.Proofs.YtdfmapcnfficlaaGreatDoor.M
open Go.Proofs.Tryz
open Go Go.RowKit Go.Proofs.YtdfmapcnfficlaaGreatDoor
section
variable{wB w w' W W1 W':World}{o:Nat→Nat}{b j:Nat}{S:WS}{R:z5}{ac al:Addr}{c B:Nat}
theorem zac(h:WI wB o b S R w c B)(hl:S.ps.length≤11)(wv nv:Int)(hn:nv≤9223372036854775807)(x:Str)(lv:Value):
  Calls prog 29 #[.pointer (some ⟨b,0,none⟩),.agg #[.int .i64 1,.int .i64 wv,.int .i64 nv,.string ⟨x.toArray⟩,lv]] w fun e w'=>e= .returned (.bool true)∧∃o' R' S',WI wB o' b S' R' w' c B∧S'.ps.length=S.ps.length+1:=by
 have HH:=hide h
 clear h
 go_enter func29,ntmps29
 go_wp2_with fail
 have h2:=(ae HH).more ((More.refl w).alloc (.cells #[.int .i64 1,.int .i64 wv,.int .i64 nv,.string ⟨x.toArray⟩,lv] 25))
 refine(T6 h2.ge nv (by omega)).mono ?_
 rintro e w3⟨rfl,o',R',bx,bY,hg⟩
 have HF:Hid (∃o' R' S',WI wB o' b S' R' w3 c B∧S'.ps.length=S.ps.length+1):=hide ⟨o',R',_,⟨hg,fun i p hp=>by
  by_cases hi:i<S.ps.length
  ·rw[List.getElem?_append_left hi]at hp
   exact h2.prs i p hp
  ·rw[List.getElem?_append_right (by omega)]at hp
   have:=(cd.1 hp).1
   have hi0:i-S.ps.length=0:=by simp at this;omega
   rw[hi0]at hp
   simp at hp
   subst hp
   exact⟨Z6 nv,by show max nv 0≤_;omega,by simp⟩,by simp;omega,h2.last,h2.ls,by show S.ry.length≤5*M.given (S.ps++[_]);rw[zga];have:=h2.ry;omega⟩,by simp⟩
 clear h2 hg HH
 go_wp2
 go_ret
 exact⟨rfl,ae HF⟩
theorem F1(T:Fy wB ac al)(h:WI wB o b S R w c B)(hc:c≤4194304)(hB:B≤4194304)(hne:0<S.ps.length)(kd wv nv:Int)(hk:2≤kd∧kd≤5)(hw1: -9223372036854775808≤wv)(hw2:wv≤9223372036854775807)(x:Str)(hx:x.length≤4194304)(lv:Value):
  Calls prog 29 #[.pointer (some ⟨b,0,none⟩),.agg #[.int .i64 kd,.int .i64 wv,.int .i64 nv,.string ⟨x.toArray⟩,lv]] w fun e w'=>e= .returned (.bool true)∧∃o' R' S',WI wB o' b S' R' w' (c+1) (B+x.length)∧S'.ps.length=S.ps.length:=by
 have hlen:=h.len
 have hr:=Lf wv S.ps.length (by omega)
 obtain⟨i,hi⟩:∃i:Nat,Qb wv S.ps.length=i:=⟨(Qb wv S.ps.length).toNat,by omega⟩
 have hil:i<S.ps.length:=by omega
 obtain⟨p,hp⟩:∃p,S.ps[i]? =some p:=⟨S.ps[i],by simp[hil]⟩
 have HPI:=hide (fun W=>zcf wv S.ps.length W hw1 hw2 (by omega) (by omega))
 rw[hi]at HPI
 have hrow:=h.ge.obj.ok (it:=zp R.all S.ps) (by simp[jj])
 obtain⟨ga,hga,hgl,_⟩:=Fx hrow (show S.ps.length≠0 by omega)
 have hra:R.all.a=some ⟨ga,0,none⟩:=hga
 have hcells:∀t u,t<2→(ru S.ps)[i*2+t]? =some u→w.cell? ⟨ga,i*2+t,none⟩=some u:=fun t u _ hu=>ve hrow hga _ _ hu
 have hpc:∀(ps:List Pr)(k:Nat),ps[k]? =some p→(ru ps)[k*2]? =some (.pointer (some ⟨p.bx,0,none⟩))∧(ru ps)[k*2+1]? =some (.pointer (some ⟨p.bY,0,none⟩)):=by
  intro ps
  induction ps with
  |nil=>intro k hk;simp at hk
  |cons a r ih=>
   intro k hk
   cases k with
   |zero=>simp at hk;subst hk;exact⟨rfl,rfl⟩
   |succ k=>
    have:=ih k (by simpa using hk)
    have e:ru (a::r)= .pointer (some ⟨a.bx,0,none⟩):: .pointer (some ⟨a.bY,0,none⟩)::ru r:=by simp[ru]
    rw[e,show(k+1)*2=k*2+1+1 by omega]
    exact this
 obtain⟨p1,p2⟩:=hpc S.ps i hp
 have cX:w.cell? ⟨ga,i*2,none⟩=some (.pointer (some ⟨p.bx,0,none⟩)):=hcells 0 _ (by omega) p1
 have cY:w.cell? ⟨ga,i*2+1,none⟩=some (.pointer (some ⟨p.bY,0,none⟩)):=hcells 1 _ (by omega) p2
 have c0:w.cell? ⟨b,0,none⟩=some (.slice (some ⟨ga,0,none⟩) S.ps.length R.all.cap):=by rw[←hra];exact h.ge.obj.cell 0
 have hb:=h.ge.obj.lt
 have HA:=hide (fun(W:World)(hm:More w W)=>zje T (h.more hm) hc hB hp kd wv nv hk x hx lv)
 clear h hrow hga hcells hpc p1 p2 hp hi hr T hra
 obtain⟨kk,hkk⟩:∃kk,kk=kd:=⟨kd,rfl⟩
 rw[←hkk]at HA
 have HKK:=hide hkk
 clear hkk
 rcases(show kd=2∨kd=3∨kd=4∨kd=5 by omega)with rfl|rfl|rfl|rfl
 all_goals
  go_enter func29,ntmps29
  go_wp2_with fail
  have hq:(w.alloc (.cells #[.int .i64 kk,.int .i64 wv,.int .i64 nv,.string ⟨x.toArray⟩,lv] 25)).heap[w.heap.size]? =some (.cells #[.int .i64 kk,.int .i64 wv,.int .i64 nv,.string ⟨x.toArray⟩,lv] 25 (0,0)):=heap_alloc_new w _
  have hmq:=(More.refl w).alloc (.cells #[.int .i64 kk,.int .i64 wv,.int .i64 nv,.string ⟨x.toArray⟩,lv] 25)
  generalize hwq:w.alloc (.cells #[.int .i64 kk,.int .i64 wv,.int .i64 nv,.string ⟨x.toArray⟩,lv] 25)=wq at hq hmq
  rw[ae HKK]at hwq
  rw[hwq]
  clear hwq
  have e0:=bg hq 0
  have e1:=bg hq 1
  have e2:=bg hq 2
  have e3:=bg hq 3
  have e4:=bg hq 4
  simp at e0 e1 e2 e3 e4
  have cX:=(hmq.cell (o:=i*2) hgl).trans cX
  have cY:=(hmq.cell (o:=i*2+1) hgl).trans cY
  have c0:=(hmq.cell (o:=0) hb).trans c0
  have hgq:ga<wq.heap.size:=ei hgl hmq.size
  have hbq:b<wq.heap.size:=ei hb hmq.size
  have HMQ:=hide hmq
  clear hq hmq hb hgl
  generalize w.heap.size=bo at*
  refine zk4 (fun W=>W.cell? ⟨b,0,none⟩=some (.slice (some ⟨ga,0,none⟩) S.ps.length R.all.cap)∧W.cell? ⟨bo,0,none⟩=some (.int .i64 kk)∧W.cell? ⟨bo,1,none⟩=some (.int .i64 wv)∧W.cell? ⟨bo,2,none⟩=some (.int .i64 nv)∧W.cell? ⟨bo,3,none⟩=some (.string ⟨x.toArray⟩)∧W.cell? ⟨bo,4,none⟩=some lv∧W.cell? ⟨ga,i*2,none⟩=some (.pointer (some ⟨p.bx,0,none⟩))∧W.cell? ⟨ga,i*2+1,none⟩=some (.pointer (some ⟨p.bY,0,none⟩))) 16 (by kernel_rfl) ?_
  refine xd [16] (i:=0) (v:= ?_) rfl (by kernel_rfl) (by kernel_rfl) (by kernel_rfl) (by kernel_rfl) (fun _ _ _ h=>h) (Or.inl ⟨by kernel_rfl,?_⟩) ⟨c0,e0,e1,e2,e3,e4,cX,cY⟩ ?_
  rotate_left
  ·intro W hW;(try dsimp only at hW);obtain⟨f0,f1,f2,f3,f4,f5,f6,f7⟩:=hW;go_simp;first|done|with_reducible rfl
  simp only[Act.put,am,aw,ay]
  refine xd [2,3,4,13,14,16] (i:=1) (v:= ?_) rfl (by kernel_rfl) (by kernel_rfl) (by kernel_rfl) (by kernel_rfl) (fun _ _ _ h=>h) (Or.inl ⟨by kernel_rfl,?_⟩) ⟨c0,e0,e1,e2,e3,e4,cX,cY⟩ ?_
  rotate_left
  ·intro W hW;(try dsimp only at hW);obtain⟨f0,f1,f2,f3,f4,f5,f6,f7⟩:=hW;go_simp;first|done|with_reducible rfl
  simp only[Act.put,am,aw,ay]
  refine xd [3,4,13,14,16] (i:=2) (v:= ?_) rfl (by kernel_rfl) (by kernel_rfl) (by kernel_rfl) (by kernel_rfl) (fun _ _ _ h=>h) (Or.inl ⟨by kernel_rfl,?_⟩) ⟨c0,e0,e1,e2,e3,e4,cX,cY⟩ ?_
  rotate_left
  ·intro W hW;(try dsimp only at hW);obtain⟨f0,f1,f2,f3,f4,f5,f6,f7⟩:=hW;go_simp;first|done|with_reducible rfl
  simp only[Act.put,am,aw,ay]
  refine xd [4,13,14,16] (i:=3) (v:= ?_) rfl (by kernel_rfl) (by kernel_rfl) (by kernel_rfl) (by kernel_rfl) (fun _ _ _ h=>h) (Or.inl ⟨by kernel_rfl,?_⟩) ⟨c0,e0,e1,e2,e3,e4,cX,cY⟩ ?_
  rotate_left
  ·intro W hW;(try dsimp only at hW);obtain⟨f0,f1,f2,f3,f4,f5,f6,f7⟩:=hW;go_simp;first|done|with_reducible rfl
  simp only[Act.put,am,aw,ay]
  refine xd [13,14,16] (i:=4) (v:= ?_) rfl (by kernel_rfl) (by kernel_rfl) (by kernel_rfl) (by kernel_rfl) (fun _ _ _ h=>h) (Or.inl ⟨by kernel_rfl,?_⟩) ⟨c0,e0,e1,e2,e3,e4,cX,cY⟩ ?_
  rotate_left
  ·intro W hW;(try dsimp only at hW);obtain⟨f0,f1,f2,f3,f4,f5,f6,f7⟩:=hW;go_simp;first|done|with_reducible rfl
  simp only[Act.put,am,aw,ay]
  refine xd [6,12,13,14,16] (i:=5) (v:= ?_) rfl (by kernel_rfl) (by kernel_rfl) (by kernel_rfl) (by kernel_rfl) (fun _ _ _ h=>h) (Or.inl ⟨by kernel_rfl,?_⟩) ⟨c0,e0,e1,e2,e3,e4,cX,cY⟩ ?_
  rotate_left
  ·intro W hW;(try dsimp only at hW);obtain⟨f0,f1,f2,f3,f4,f5,f6,f7⟩:=hW;go_simp;first|done|with_reducible rfl
  simp only[Act.put,am,aw,ay]
  refine xd [12,13,14,16] (i:=6) (v:= ?_) rfl (by kernel_rfl) (by kernel_rfl) (by kernel_rfl) (by kernel_rfl) (fun _ _ _ h=>h) (Or.inl ⟨by kernel_rfl,?_⟩) ⟨c0,e0,e1,e2,e3,e4,cX,cY⟩ ?_
  rotate_left
  ·intro W hW;(try dsimp only at hW);obtain⟨f0,f1,f2,f3,f4,f5,f6,f7⟩:=hW;go_simp;first|done|with_reducible rfl
  simp only[Act.put,am,aw,ay]
  refine xd [8,9,10,11,12,13,14,16] (i:=7) (v:= ?_) rfl (by kernel_rfl) (by kernel_rfl) (by kernel_rfl) (by kernel_rfl) (fun _ _ _ h=>h) (Or.inl ⟨by kernel_rfl,?_⟩) ⟨c0,e0,e1,e2,e3,e4,cX,cY⟩ ?_
  rotate_left
  ·intro W hW;(try dsimp only at hW);obtain⟨f0,f1,f2,f3,f4,f5,f6,f7⟩:=hW;go_simp;first|done|with_reducible rfl
  simp only[Act.put,am,aw,ay]
  refine xd [9,10,11,12,13,14,16] (i:=8) (v:= ?_) rfl (by kernel_rfl) (by kernel_rfl) (by kernel_rfl) (by kernel_rfl) (fun _ _ _ h=>h) (Or.inl ⟨by kernel_rfl,?_⟩) ⟨c0,e0,e1,e2,e3,e4,cX,cY⟩ ?_
  rotate_left
  ·intro W hW;(try dsimp only at hW);obtain⟨f0,f1,f2,f3,f4,f5,f6,f7⟩:=hW;go_simp;first|done|with_reducible rfl
  simp only[Act.put,am,aw,ay]
  refine xd [10,11,12,13,14,16] (i:=9) (v:= ?_) rfl (by kernel_rfl) (by kernel_rfl) (by kernel_rfl) (by kernel_rfl) (fun _ _ _ h=>h) (Or.inl ⟨by kernel_rfl,?_⟩) ⟨c0,e0,e1,e2,e3,e4,cX,cY⟩ ?_
  rotate_left
  ·intro W hW;(try dsimp only at hW);obtain⟨f0,f1,f2,f3,f4,f5,f6,f7⟩:=hW;go_simp;first|done|with_reducible rfl
  simp only[Act.put,am,aw,ay]
  refine xd [11,12,13,14,16] (i:=10) (v:= ?_) rfl (by kernel_rfl) (by kernel_rfl) (by kernel_rfl) (by kernel_rfl) (fun _ _ _ h=>h) (Or.inl ⟨by kernel_rfl,?_⟩) ⟨c0,e0,e1,e2,e3,e4,cX,cY⟩ ?_
  rotate_left
  ·intro W hW;(try dsimp only at hW);obtain⟨f0,f1,f2,f3,f4,f5,f6,f7⟩:=hW;go_simp;first|done|with_reducible rfl
  simp only[Act.put,am,aw,ay]
  refine xd [12,13,14,16] (i:=11) (v:= ?_) rfl (by kernel_rfl) (by kernel_rfl) (by kernel_rfl) (by kernel_rfl) (fun _ _ _ h=>h) (Or.inl ⟨by kernel_rfl,?_⟩) ⟨c0,e0,e1,e2,e3,e4,cX,cY⟩ ?_
  rotate_left
  ·intro W hW;(try dsimp only at hW);obtain⟨f0,f1,f2,f3,f4,f5,f6,f7⟩:=hW;go_simp;first|done|with_reducible rfl
  simp only[Act.put,am,aw,ay]
  refine xd [16] (i:=15) (v:= ?_) rfl (by kernel_rfl) (by kernel_rfl) (by kernel_rfl) (by kernel_rfl) (fun _ _ _ h=>h) (Or.inl ⟨by kernel_rfl,?_⟩) ⟨c0,e0,e1,e2,e3,e4,cX,cY⟩ ?_
  rotate_left
  ·intro W hW;(try dsimp only at hW);obtain⟨f0,f1,f2,f3,f4,f5,f6,f7⟩:=hW;go_simp;first|done|with_reducible rfl
  simp only[Act.put,am,aw,ay]
  refine zqq (i:=12) (by kernel_rfl) rfl (by kernel_rfl) (fun K hK=> ?_)
  go_simp
  refine(ae HPI _).mono ?_
  rintro e w2⟨rfl,hw2⟩
  rw[hw2]
  clear hw2
  refine ae hK _ _ ⟨c0,e0,e1,e2,e3,e4,cX,cY⟩ ?_
  clear hK K
  refine xd [14,16] (i:=13) (v:= ?_) rfl (by kernel_rfl) (by kernel_rfl) (by kernel_rfl) (by kernel_rfl) (fun _ _ _ h=>h) (Or.inl ⟨by kernel_rfl,?_⟩) ⟨c0,e0,e1,e2,e3,e4,cX,cY⟩ ?_
  rotate_left
  ·intro W hW;(try dsimp only at hW);obtain⟨f0,f1,f2,f3,f4,f5,f6,f7⟩:=hW;go_simp;first|done|with_reducible rfl
  simp only[Act.put,am,aw,ay]
  refine xd [16] (i:=14) (v:= ?_) rfl (by kernel_rfl) (by kernel_rfl) (by kernel_rfl) (by kernel_rfl) (fun _ _ _ h=>h) (Or.inl ⟨by kernel_rfl,?_⟩) ⟨c0,e0,e1,e2,e3,e4,cX,cY⟩ ?_
  rotate_left
  ·intro W hW;(try dsimp only at hW);obtain⟨f0,f1,f2,f3,f4,f5,f6,f7⟩:=hW;go_simp;first|done|with_reducible rfl
  simp only[Act.put,am,aw,ay]
  refine zob (by kernel_rfl) rfl (fun K hK=> ?_)
  go_simp
  refine(ae HA _ ?_).mono ?_
  ·(repeat(first|exact ae HMQ|refine More.alloc ?_ _|refine More.drew ?_))
  rintro e w3⟨rfl,hF⟩
  refine ae hK _ _ ?_
  clear hK K
  have HF:=hide hF
  clear hF
  try simp only[Act.put,am,aw,ay]
  refine wpAny_ready (rs:=[17]) (by kernel_rfl) (by simp) ?_
  refine AllReady.cons rfl (fun K hK=> ?_) AllReady.nil
  have HK:=hide hK
  clear hK
  go_simp
  refine ae HK _ _ ?_
  clear HK K
  refine wpAny_done (by kernel_rfl) ?_ _
  go_wp2
  go_ret
  exact⟨rfl,ae HF⟩
end
def S00:WS:=⟨[],[],[],[],[],0⟩
def R00:z5:=⟨⟨none,0⟩,⟨none,0⟩,⟨none,0⟩,⟨none,0⟩,⟨none,0⟩⟩
theorem zdy:(jj S00 R00++[]).filterMap Item.blk=[]:=by rfl
section
variable{wB w w' W W1 W':World}{o:Nat→Nat}{b j:Nat}{S:WS}{R:z5}{ac al:Addr}{c B:Nat}
theorem zjg(w:World):GE w (fun k=>if k<w.heap.size then 0 else 1) w.heap.size S00 R00 [] none none (w.alloc (.cells (p4 S00 R00) 68)):=by
 refine⟨(More.refl w).alloc _,fun k hk=>au hk,⟨heap_alloc_new w _,ag (Nat.lt_irrefl _),⟨fun it hi=> ?_,?_,?_⟩⟩,fun i p hp=> ?_,fun i p hp=> ?_,rfl,fun i v m h1 _=> ?_,rfl,fun i v m h1 _=> ?_⟩
 ·simp only[jj,S00,R00,zp,vu,ck,lr,gq,List.mem_cons,List.not_mem_nil,or_false]at hi
  rcases hi with rfl|rfl|rfl|rfl|rfl<;>exact⟨by simp[ru],.inl (by simp)⟩
 ·rw[zdy];exact List.nodup_nil
 ·intro k hk
  rw[zdy]at hk
  cases hk
 ·simp[S00]at hp
 ·simp[S00]at hp
 ·simp[S00]at h1
 ·simp[S00]at h1
theorem zjh(T:Fy wB ac al)(h:WI wB o b S R w c B)(hc:c≤4194304)(hB:B≤4194304)(hne:0<S.ps.length)(hl:S.ps.length≤11)(kd wv nv:Int)(hk:1≤kd∧kd≤5)(hw1: -9223372036854775808≤wv)(hw2:wv≤9223372036854775807)(hn:nv≤9223372036854775807)(x:Str)(hx:x.length≤4194304)(lv:Value):
  Calls prog 29 #[.pointer (some ⟨b,0,none⟩),.agg #[.int .i64 kd,.int .i64 wv,.int .i64 nv,.string ⟨x.toArray⟩,lv]] w fun e w'=>e= .returned (.bool true)∧∃o' R' S',WI wB o' b S' R' w' (c+1) (B+x.length)∧S.ps.length≤S'.ps.length∧S'.ps.length≤S.ps.length+1:=by
 rcases(show kd=1∨2≤kd by omega)with rfl|h2
 ·refine(zac h hl wv nv hn x lv).mono ?_
  rintro e W⟨rfl,o',R',S',h',e'⟩
  exact⟨rfl,o',R',S',h'.up (by omega) (by omega),by omega,by omega⟩
 ·refine(F1 T h hc hB hne kd wv nv ⟨h2,hk.2⟩ hw1 hw2 x hx lv).mono ?_
  rintro e W⟨rfl,o',R',S',h',e'⟩
  exact⟨rfl,o',R',S',h',by omega,by omega⟩
theorem zae(h:WI wB o b S R w c B)(hc:c≤4194304)(hB:B≤4194304):
  Calls prog 30 #[.pointer (some ⟨b,0,none⟩)] w fun e w'=>e= .returned (.bool true)∧∃o',WI wB o' b S R w' c B:=by
 have hg:=h.given w
 have h1:=h.ry
 have h2:=h.ls
 refine(zf9 h.ge (by omega) (by omega)).mono ?_
 rintro e W⟨rfl,q,hw⟩
 rw[hw]
 exact⟨rfl,_,h.more (qd w q)⟩
theorem zcu(h:GE wB o b S00 R [] none none w)(l:Int)(hl:l≤9223372036854775807):
  Calls prog 28 #[.pointer (some ⟨b,0,none⟩),.int .i64 l] w fun e w'=>e= .returned (.bool true)∧∃o' R' S',WI wB o' b S' R' w' 0 0∧S'.ps.length=1:=by
 refine(T6 h l (by simp[S00])).mono ?_
 rintro e W⟨rfl,o',R',bx,bY,hg⟩
 refine⟨rfl,o',R',_,⟨hg,fun i p hp=> ?_,by simp[S00],by simp[S00],by simp[S00],by simp[S00]⟩,by simp[S00]⟩
 have:=(cd.1 hp).1
 have hi0:i=0:=by simp[S00]at this;omega
 rw[hi0]at hp
 simp[S00]at hp
 subst hp
 exact⟨Z6 l,by show max l 0≤_;omega,by simp⟩
end
structure Opn where
 kd:Int
 wv:Int
 nv:Int
 x:Str
 lv:Value
def Ww(l:List Opn):Nat:=(l.map (fun q=>q.x.length)).sum
theorem zji{l:List Opn}{i:Nat}{q:Opn}(h:l[i]? =some q):Ww (l.take (i+1))=Ww (l.take i)+q.x.length:=by
 rw[List.take_add_one,h]
 simp[Ww]
theorem zjj(l:List Opn)(i:Nat):Ww (l.take i)≤Ww l:=by
 have h:Ww l=Ww (l.take i)+Ww (l.drop i):=by
  show(l.map _).sum=((l.take i).map _).sum+((l.drop i).map _).sum
  rw[←List.sum_append,←List.map_append,List.take_append_drop]
 omega
structure Scr(w:World)(a:Option Addr)(l:List Opn):Prop where
 at0:∀(i:Nat)q,l[i]? =some q→∃g ao,a=some ⟨g,ao,none⟩∧g<w.heap.size∧w.cell? ⟨g,ao+i*5,none⟩=some (.int .i64 q.kd)∧w.cell? ⟨g,ao+i*5+1,none⟩=some (.int .i64 q.wv)∧w.cell? ⟨g,ao+i*5+2,none⟩=some (.int .i64 q.nv)∧w.cell? ⟨g,ao+i*5+3,none⟩=some (.string ⟨q.x.toArray⟩)∧w.cell? ⟨g,ao+i*5+4,none⟩=some q.lv
 rng:∀q∈l,(-9223372036854775808≤q.wv∧q.wv≤9223372036854775807)∧q.nv≤9223372036854775807
 len:l.length≤4194000
 siz:Ww l≤4194000
section
variable{wB w w' W W1 W':World}{o:Nat→Nat}{b j:Nat}{S:WS}{R:z5}{ac al:Addr}{c B:Nat}
theorem Qj(T:Fy w ac al)(l:List Opn)(a:Option Addr)(cap:Nat)(hs:Scr w a l)(lim:Int)(hlim:lim≤9223372036854775807):
  Calls prog 13 #[.slice a l.length cap,.int .i64 1,.int .i64 5,.int .i64 lim] w fun e w'=>e= .returned (.bool true)∧More w w':=by
 have hsl:=hs.len
 have hss:=hs.siz
 have HT:=hide T
 have HS:=hide hs
 clear T hs
 go_enter func13,ntmps13
 go_wp2_with fail
 have h0:=zjg w
 refine(zcu h0 20 (by omega)).mono ?_
 rintro e w1⟨rfl,o1,R1,S1,h1,e1⟩
 clear h0
 have HC:=hide (F1 (ae HT) h1 (by omega) (by omega) (by omega) 2 0 0 (by omega) (by omega) (by omega) [60,112,62,120,32,38,108,116,32,121] (by decide) (.slice none 0 0))
 have c0:w1.cell? ⟨w.heap.size,0,none⟩=some (.slice R1.all.a S1.ps.length R1.all.cap):=h1.ge.obj.cell 0
 rw[e1]at c0
 clear h1
 go_wp2_with fail
 refine(ae HC).mono ?_
 rintro e w2⟨rfl,o2,R2,S2,h2,e2⟩
 clear HC c0
 have HC:=hide (F1 (ae HT) h2 (by omega) (by simp) (by omega) 4 0 0 (by omega) (by omega) (by omega) [] (by decide) (.slice none 0 0))
 clear h2
 go_wp2_with fail
 refine(ae HC).mono ?_
 rintro e w3⟨rfl,o3,R3,S3,h3,e3⟩
 clear HC
 have HC:=hide (zac h3 (by omega) 0 lim hlim [] (.slice none 0 0))
 clear h3
 go_wp2_with fail
 refine(ae HC).mono ?_
 rintro e w4⟨rfl,o4,R4,S4,h4,e4⟩
 clear HC
 have H4:=hide h4
 clear h4
 generalize hb:w.heap.size=b at*
 have hb:=hide hb
 go_wp2_with fail
 go_loopw [14] (fun i wx=>∃(k:Nat)(o:Nat→Nat)(S:WS)(R:z5)(c B:Nat),k≤l.length∧i= .int .i64 k∧WI w o b S R wx c B∧c≤3+k∧B≤10+Ww (l.take k)∧0<S.ps.length∧S.ps.length≤10) (fun i _=>l.length-(intOf i).toNat)
 case atStart=>exact⟨0,o4,S4,R4,_,_,da _,rfl,ae H4,by omega,by simp,by omega,by omega⟩
 case round=>
  clear H4 e4 e3 e2 e1
  obtain⟨k,o,S,R,c,B,hk,rfl,h,hc,hB,hp0,hp1⟩:=hrel
  have hB2:=zjj l k
  have c0:wr.cell? ⟨b,0,none⟩=some (.slice R.all.a S.ps.length R.all.cap):=h.ge.obj.cell 0
  have hm:=h.ge.more
  have H:=hide h
  clear h
  by_cases hgo:k<l.length∧S.ps.length<10
  ·obtain⟨hkl,hp9⟩:=hgo
   obtain⟨q,hq⟩:∃q,l[k]? =some q:=⟨l[k],by simp[hkl]⟩
   have hz:=zji hq
   have hz2:=zjj l (k+1)
   obtain⟨g,ao,rfl,hg,q0,q1,q2,q3,q4⟩:=(ae HS).at0 k q hq
   obtain⟨⟨r1,r2⟩,r3⟩:=(ae HS).rng q (List.mem_of_getElem? hq)
   have q0:=(hm.cell (o:=ao+k*5) hg).trans q0
   have q1:=(hm.cell (o:=ao+k*5+1) hg).trans q1
   have q2:=(hm.cell (o:=ao+k*5+2) hg).trans q2
   have q3:=(hm.cell (o:=ao+k*5+3) hg).trans q3
   have q4:=(hm.cell (o:=ao+k*5+4) hg).trans q4
   by_cases hkd:1≤q.kd∧q.kd≤5
   ·have HC:=hide (zjh (ae HT) (ae H) (by omega) (by omega) hp0 (by omega) q.kd q.wv q.nv hkd r1 r2 r3 q.x (by omega) q.lv)
    obtain⟨zvh,zvi⟩:=hkd
    clear H hm hq
    go_wp2_with fail
    refine(ae HC).mono ?_
    rintro e w5⟨rfl,o5,R5,S5,h5,e5,e6⟩
    clear HC q0 q1 q2 q3 q4 c0
    have HC:=hide (zae h5 (by omega) (by omega))
    clear h5
    go_wp2_with fail
    refine(ae HC).mono ?_
    rintro e w6⟨rfl,o6,h6⟩
    have H6:=hide h6
    clear HC h6
    go_wp2
    go_roundw
    case rel=>exact⟨k+1,o6,S5,R5,_,_,by omega,by go_num,ae H6,by omega,by omega,by omega,by omega⟩
    case measure=>simp[intOf];omega
   ·rcases(show q.kd<1∨(1≤q.kd∧5<q.kd) by omega)with hk1|⟨hk1,hk2⟩
    all_goals
     clear hkd hm hq
     go_wp2
     go_roundw
     case rel=>exact⟨k+1,o,S,R,c,B,by omega,by go_num,ae H,by omega,by omega,by omega,by omega⟩
     case measure=>simp[intOf];omega
  ·have HX:Hid (WI w o b S R wr (3+l.length) (10+Ww l)):=hide ((ae H).up (by omega) (by omega))
   clear H hB hB2 hc
   generalize hn:S.ps.length=n at*
   have HN:=hide hn
   clear hn
   rcases(show ¬k<l.length∨(k<l.length∧¬n<10) by omega)with hx|⟨hx,hx2⟩
   all_goals
    clear hgo hm
    go_wp2_with fail
    go_loopw [18] (fun i wx=>∃(k:Nat)(o:Nat→Nat)(S:WS)(R:z5)(c:Nat),k≤n∧i= .int .i64 k∧WI w o b S R wx c (10+Ww l)∧c≤3+l.length+2*k∧S.ps.length=n) (fun i _=>n-(intOf i).toNat)
    case atStart=>exact⟨0,o,S,R,_,da _,rfl,ae HX,by omega,ae HN⟩
    case round=>
     clear HX HN c0
     obtain⟨k2,o2,S2,R2,c2,hk2,rfl,h,hc2,hn2⟩:=hrel
     have c0:wr.cell? ⟨b,0,none⟩=some (.slice R2.all.a S2.ps.length R2.all.cap):=h.ge.obj.cell 0
     rw[hn2]at c0
     by_cases hlt:k2<n
     ·have HC:=hide (F1 (ae HT) h (by omega) (by omega) (by omega) 3 k2 0 (by omega) (by omega) (by omega) [] (by decide) (.slice none 0 0))
      clear h
      go_wp2_with fail
      refine(ae HC).mono ?_
      rintro e w5⟨rfl,o5,R5,S5,h5,e5⟩
      clear HC c0
      have HC:=hide (F1 (ae HT) h5 (by omega) (by simp;omega) (by omega) 4 k2 0 (by omega) (by omega) (by omega) [] (by decide) (.slice none 0 0))
      clear h5
      go_wp2_with fail
      refine(ae HC).mono ?_
      rintro e w6⟨rfl,o6,R6,S6,h6,e6⟩
      have H6:=hide h6
      clear HC h6
      go_wp2
      go_roundw
      case rel=>exact⟨k2+1,o6,S6,R6,_,by omega,by go_num,ae H6,by omega,by omega⟩
      case measure=>simp[intOf];omega
     ·have HC:=hide (zae h (by omega) (by omega))
      clear h
      go_wp2_with fail
      refine(ae HC).mono ?_
      rintro e w6⟨rfl,o6,h6⟩
      have hm6:=hide h6.ge.more
      clear HC h6
      go_wp2
      go_ret
      exact⟨rfl,ae hm6⟩
end
end Go.Proofs.YtdfmapcnfficlaaGreatDoor.M

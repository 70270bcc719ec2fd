import Derived.Test.YtdfmapcnfficlaaGreatDoorP45
set_option linter.all false
set_option maxHeartbeats 8000000
set_option maxRecDepth 1000000
namespace Go.Proofs.YtdfmapcnfficlaaGreatDoor.M
open Go.Proofs.Tryz
open Go Go.RowKit Go.Proofs.YtdfmapcnfficlaaGreatDoor
section
variable{wB w w' W W1 W':World}{o:Nat→Nat}{b:Nat}{S:WS}{R:z5}{ex:List Item}{pa:Option (Sl×Nat×Str)}{pl:Option (Sl×Nat×Int)}
theorem zi2:(prog.info? 23).map (fun i=>(i.zero,i.size,i.bytes))=some (some (.slice none 0 0),1,24):=by kernel_rfl
theorem zi3:(prog.info? 30).map (fun i=>(i.zero,i.size,i.bytes))=some (some (.slice none 0 0),1,24):=by kernel_rfl
theorem zi4:(prog.info? 34).map (fun i=>(i.zero,i.size,i.bytes))=some (some (.agg #[.int .i64 0,.string ⟨#[]⟩,.slice none 0 0,.string ⟨#[]⟩,.bool false,.int .i64 0]),6,80):=by kernel_rfl
theorem zi5:(prog.info? 9).map (fun i=>(i.zero,i.size,i.bytes))=some (some (.string ⟨#[]⟩),1,16):=by kernel_rfl
theorem Qe{it:Item}(h:it.ok w){g:Nat}(ha:it.a=some ⟨g,0,none⟩)(i:Nat):w.frozen? ⟨g,i,none⟩=false:=by
 rcases h.2 with⟨hv,_⟩|⟨g',cap,cur,hv,_,hg,_⟩
 ·injection hv with e1;rw[ha]at e1;cases e1
 ·injection hv with e1;rw[ha]at e1
  have:g=g':=by injection e1 with e1;injection e1
  subst this
  exact bn hg i
def tn(r:Sl)(T:List Tok)(ta:List Sl)(m:Int)(k:Nat):Item:=rq r (List.replicate k {kind:=m}++T.drop k) (List.replicate k ⟨none,0⟩++ta.drop k)
def G5(n:Nat):Str:=[109,105,110,101]++List.replicate n 33
theorem GE.last(h:GE wB o b S R ex pa pl w)(n:Nat):GE wB (up o w 1) b {S with last:=n} R ex pa pl (w.setCell ⟨b,6,none⟩ (.int .i64 n)):=
 h.back (S':={S with last:=n}) (R':=R) (h.k1.set 6 (.int .i64 n) (by simp[p4])) rfl [] [] (by simp) (by simp) rfl (by simp) (fun _ _ z=>z) [] [] (by simp) (by simp) rfl (by simp) (fun _ _ z=>z)
theorem GE.cell(h:GE wB o b S R ex pa pl w)(i:Nat):w.cell? ⟨b,i,none⟩=(p4 S R)[i]? :=h.obj.cell i
theorem GE.weak{pa':Option (Sl×Nat×Str)}(h:GE wB o b S R ex pa pl w)(h2:∀v t,PA pa v t→PA pa' v t):GE wB o b S R ex pa' pl w:=
 ⟨h.more,h.base,h.obj,h.x,h.y,h.Wu,h.ls,h.Wv,fun i v t k1 k2=>(h.ry i v t k1 k2).imp id (h2 v t)⟩
theorem GE.zqf{Sh:Option (Sl×Nat×Int)}(h:GE wB o b S R ex pa pl w)(h2:∀v t,PL pl v t→PL Sh v t):GE wB o b S R ex pa Sh w:=
 ⟨h.more,h.base,h.obj,h.x,h.y,h.Wu,fun i v t k1 k2=>(h.ls i v t k1 k2).imp id (h2 v t),h.Wv,h.ry⟩
theorem GE.perm{ex':List Item}(h:GE wB o b S R ex pa pl w)(p:ex.Perm ex'):GE wB o b S R ex' pa pl w:=
 ⟨h.more,h.base,h.obj.perm (List.Perm.append_left _ p),h.x,h.y,h.Wu,h.ls,h.Wv,h.ry⟩
def F0(x:Sl)(l:List Str)(t:Str)(q:Nat):Item:=lr x (List.replicate q t++l.drop q)
theorem zi6(x:Sl)(l:List Str)(t:Str)(q:Nat)(h:q≤l.length):(F0 x l t q).n=l.length:=by simp[F0,lr];omega
theorem GE.write{x:Sl}{l:List Str}{t:Str}{q g:Nat}(h:GE wB o b S R (F0 x l t q::ex) pa pl w)(hq:q<l.length)(hg:x.a=some ⟨g,0,none⟩):
  GE wB (up o w 1) b S R (F0 x l t (q+1)::ex) pa pl (w.setCell ⟨g,q,none⟩ (.string ⟨t.toArray⟩)):=by
 have e:{F0 x l t q with xs:=(F0 x l t q).xs.set q (.string ⟨t.toArray⟩)}=F0 x l t (q+1):=by
  unfold F0 lr
  have h1:(List.replicate q t++l.drop q).length=(List.replicate (q+1) t++l.drop (q+1)).length:=by simp;omega
  have h2:((List.replicate q t++l.drop q).map str).set q (.string ⟨t.toArray⟩)=(List.replicate (q+1) t++l.drop (q+1)).map str:=by
   rw[List.drop_eq_getElem_cons hq,List.map_append,List.map_cons,List.set_append_right _ _ (by simp),List.length_map,List.length_replicate,Nat.sub_self,aw,List.replicate_succ',List.map_append,List.map_append,fm]
   rfl
  rw[h2]
  simp only[h1]
 refine h.back (S':=S) (R':=R) (h.k1.Hs (jj S R) ex (F0 x l t q) (List.Perm.refl _) hg (by simp[F0,lr];omega) _ (by rw[e])) rfl [] [] (by simp) (by simp) rfl (by simp) (fun _ _ z=>z) [] [] (by simp) (by simp) rfl (by simp) (fun _ _ z=>z)
theorem Qf:∀(l:List Tok)(ta:List Sl)(l':List Tok)(ta':List Sl),ta.length=l.length→eh (l++l') (ta++ta')=eh l ta++eh l' ta'
 |[],[],l',ta',_=>by simp[eh]
 |_::l,_::ta,l',ta',h=>by simp[eh,Qf l ta l' ta' (by simpa using h)]
theorem Qg:∀(l:List Tok)(ta:List Sl),ta.length=l.length→(eh l ta).length=l.length*6
 |[],[],_=>rfl
 |_::l,_::ta,h=>by
  rw[eh,aq,Qg l ta (by simpa using h)]
  simp[fq]
  omega
theorem zk0(A C:List Value)(n:Nat)(hn:A.length=n)(a0 a1 a2 a3 a4 a5 v0 v1 v2 v3 v4 v5:Value):
  ((((((A++([a0,a1,a2,a3,a4,a5]++C)).set n v0).set (n+1) v1).set (n+2) v2).set (n+3) v3).set (n+4) v4).set (n+5) v5=A++([v0,v1,v2,v3,v4,v5]++C):=by
 subst hn
 rw[List.set_append_right _ _ (by omega),List.set_append_right _ _ (by omega),List.set_append_right _ _ (by omega),List.set_append_right _ _ (by omega),List.set_append_right _ _ (by omega),List.set_append_right _ _ (by omega)]
 simp
theorem zcp{r:Sl}{T:List Tok}{ta:List Sl}{m:Int}{q:Nat}{tk:Tok}{xk:Sl}(hta:ta.length=T.length)(htk:T[q]? =some tk)(hxk:ta[q]? =some xk):
  (tn r T ta m q).xs=eh (List.replicate q {kind:=m}) (List.replicate q ⟨none,0⟩)++(fq tk xk++eh (T.drop (q+1)) (ta.drop (q+1)))∧
  (tn r T ta m (q+1)).xs=eh (List.replicate q {kind:=m}) (List.replicate q ⟨none,0⟩)++(fq {kind:=m} ⟨none,0⟩++eh (T.drop (q+1)) (ta.drop (q+1))):=by
 have dT:T.drop q=tk::T.drop (q+1):=by
  obtain⟨h1,h2⟩:=cd.1 htk
  rw[List.drop_eq_getElem_cons h1,h2]
 have dta:ta.drop q=xk::ta.drop (q+1):=by
  obtain⟨h1,h2⟩:=cd.1 hxk
  rw[List.drop_eq_getElem_cons h1,h2]
 unfold tn rq
 simp only
 rw[dT,dta,Qf _ _ _ _ (by simp),List.replicate_succ',List.replicate_succ',fm,fm,Qf _ _ _ _ (by simp)]
 exact⟨rfl,rfl⟩
theorem GE.mark{r:Sl}{T:List Tok}{ta:List Sl}{m:Int}{q g:Nat}(h:GE wB o b S R (tn r T ta m q::ex) pa pl w)(hta:ta.length=T.length)(hq:q<T.length)(hg:r.a=some ⟨g,0,none⟩):
  GE wB (up o w 1) b S R (tn r T ta m (q+1)::ex) pa pl ((((((w.setCell ⟨g,q*6,none⟩ (.int .i64 m)).setCell ⟨g,q*6+1,none⟩ (.string ⟨#[]⟩)).setCell ⟨g,q*6+2,none⟩ (.slice none 0 0)).setCell ⟨g,q*6+3,none⟩ (.string ⟨#[]⟩)).setCell ⟨g,q*6+4,none⟩ (.bool false)).setCell ⟨g,q*6+5,none⟩ (.int .i64 0)):=by
 obtain⟨tk,htk⟩:∃tk,T[q]? =some tk:=⟨T[q],by simp[hq]⟩
 have hq2:q<ta.length:=by rw[hta];exact hq
 obtain⟨xk,hxk⟩:∃xk,ta[q]? =some xk:=⟨ta[q],by simp[hq2]⟩
 obtain⟨e1,e2⟩:=zcp (r:=r) (m:=m) hta htk hxk
 have hlen:(eh (List.replicate q ({kind:=m}:Tok)) (List.replicate q ⟨none,0⟩)).length=q*6:=by rw[Qg _ _ (by simp)];simp
 have hxl:q*6+6≤(tn r T ta m q).xs.length:=by rw[e1,aq,aq,hlen];simp[fq]
 have hit:∀(xs:List Value),({tn r T ta m q with xs:=xs}:Item).a=some ⟨g,0,none⟩:=fun _=>hg
 have k0:=h.k1
 have k1:=k0.Hs (l':=jj S R++{tn r T ta m q with xs:=(tn r T ta m q).xs.set (q*6) (.int .i64 m)}::ex) (jj S R) ex (tn r T ta m q) (List.Perm.refl _) hg (i:=q*6) (by omega) (.int .i64 m) (List.Perm.refl _)
 generalize hx1:(tn r T ta m q).xs.set (q*6) (.int .i64 m)=x1 at*
 have l1:q*6+6≤x1.length:=by rw[←hx1,List.length_set];exact hxl
 have k2:=k1.Hs (l':=jj S R++{tn r T ta m q with xs:=x1.set (q*6+1) (.string ⟨#[]⟩)}::ex) (jj S R) ex {tn r T ta m q with xs:=x1} (List.Perm.refl _) (hit _) (i:=q*6+1) (by show _<x1.length;omega) (.string ⟨#[]⟩) (List.Perm.refl _)
 generalize hx2:x1.set (q*6+1) (.string ⟨#[]⟩)=x2 at*
 have l2:q*6+6≤x2.length:=by rw[←hx2,List.length_set];exact l1
 have k3:=k2.Hs (l':=jj S R++{tn r T ta m q with xs:=x2.set (q*6+2) (.slice none 0 0)}::ex) (jj S R) ex {tn r T ta m q with xs:=x2} (List.Perm.refl _) (hit _) (i:=q*6+2) (by show _<x2.length;omega) (.slice none 0 0) (List.Perm.refl _)
 generalize hx3:x2.set (q*6+2) (.slice none 0 0)=x3 at*
 have l3:q*6+6≤x3.length:=by rw[←hx3,List.length_set];exact l2
 have k4:=k3.Hs (l':=jj S R++{tn r T ta m q with xs:=x3.set (q*6+3) (.string ⟨#[]⟩)}::ex) (jj S R) ex {tn r T ta m q with xs:=x3} (List.Perm.refl _) (hit _) (i:=q*6+3) (by show _<x3.length;omega) (.string ⟨#[]⟩) (List.Perm.refl _)
 generalize hx4:x3.set (q*6+3) (.string ⟨#[]⟩)=x4 at*
 have l4:q*6+6≤x4.length:=by rw[←hx4,List.length_set];exact l3
 have k5:=k4.Hs (l':=jj S R++{tn r T ta m q with xs:=x4.set (q*6+4) (.bool false)}::ex) (jj S R) ex {tn r T ta m q with xs:=x4} (List.Perm.refl _) (hit _) (i:=q*6+4) (by show _<x4.length;omega) (.bool false) (List.Perm.refl _)
 generalize hx5:x4.set (q*6+4) (.bool false)=x5 at*
 have l5:q*6+6≤x5.length:=by rw[←hx5,List.length_set];exact l4
 have k6:=k5.Hs (l':=jj S R++{tn r T ta m q with xs:=x5.set (q*6+5) (.int .i64 0)}::ex) (jj S R) ex {tn r T ta m q with xs:=x5} (List.Perm.refl _) (hit _) (i:=q*6+5) (by show _<x5.length;omega) (.int .i64 0) (List.Perm.refl _)
 have e3:x5.set (q*6+5) (.int .i64 0)=(tn r T ta m (q+1)).xs:=by
  rw[←hx5,←hx4,←hx3,←hx2,←hx1,e1,e2]
  exact zk0 _ _ _ hlen _ _ _ _ _ _ _ _ _ _ _ _
 have e4:({tn r T ta m q with xs:=x5.set (q*6+5) (.int .i64 0)}:Item)=tn r T ta m (q+1):=by
  rw[e3]
  unfold tn rq
  have:(List.replicate q ({kind:=m}:Tok)++T.drop q).length=(List.replicate (q+1) ({kind:=m}:Tok)++T.drop (q+1)).length:=by simp;omega
  simp only[this]
 rw[e4]at k6
 exact h.back (S':=S) (R':=R) k6 rfl [] [] (by simp) (by simp) rfl (by simp) (fun _ _ z=>z) [] [] (by simp) (by simp) rfl (by simp) (fun _ _ z=>z)
theorem zf4{r:Sl}{T:List Tok}{ta:List Sl}(h:GE wB o b S R (rq r T ta::cw T ta) none none w)(hta:ta.length=T.length)(hL:S.last+1≤1073741824)(hT:T.length≤137438960000)(hA:S.ry.length+5*T.length≤1099511627000)(hls:S.ls.length+5≤1099511627000)(hat:∀t∈T,t.attrs.length+5≤1099511627000):
  Calls prog 82 #[.pointer (some ⟨b,0,none⟩),.slice r.a T.length r.cap] w fun e w'=>e= .returned (.tuple #[])∧∃o' S',G wB o' b S' w'∧S'.ps=S.ps∧S'.last=S.last+1∧S'.ls.length=S.ls.length+5∧S'.ry.length≤S.ry.length+5*T.length:=by
 obtain⟨iS,hiS,zqi,zqj,zqk⟩:=info_parts zi2
 obtain⟨iU,hiU,zn5,zn6,zn7⟩:=info_parts zi5
 obtain⟨iT,hiT,zql,zqm,zqn⟩:=info_parts zi3
 obtain⟨iK,hiK,zsj,zsk,zsl⟩:=info_parts zi4
 obtain⟨i0,hi,hz0,hz1,hz2⟩:=info_parts qa
 have c6:w.cell? ⟨b,6,none⟩=some (.int .i64 S.last):=h.cell 6
 have hf:=h.obj.frozen
 have hb:=h.obj.lt
 have h1:=h.last (S.last+1)
 have H1:=hide h1
 have d6:World.cell? (w.setCell ⟨b,6,none⟩ (.int .i64 ((S.last+1:Nat):Int))) ⟨b,6,none⟩=some (.int .i64 ((S.last+1:Nat):Int)):=h1.cell 6
 clear h h1
 generalize hw1:w.setCell ⟨b,6,none⟩ (.int .i64 ((S.last+1:Nat):Int))=w1 at*
 have HW1:=hide hw1
 clear hw1
 go_enter func82,ntmps82
 go_wp2_with fail
 have eL:(S.last:Int)+1=((S.last+1:Nat):Int):=by omega
 simp only[eL]
 rw[ae HW1]
 clear c6 hf HW1 eL
 generalize hLe:S.last+1=L at*
 have HLL:=hide hLe
 clear hLe
 go_loopw [4,5] (fun nt i wx=>∃(k:Nat),k≤L∧i= .int .i64 k∧nt= .string ⟨(G5 k).toArray⟩∧wx=w1) (fun _ i _=>L-(intOf i).toNat)
 case atStart=>exact⟨0,da _,rfl,rfl,rfl⟩
 case round=>
  obtain⟨k,hk,rfl,rfl,hwr⟩:=hrel
  rw[hwr]
  clear hwr
  by_cases hlt:k<L
  ·have N2:=fun W=>uh (G5 k) [33] W (by unfold lim G5;simp;omega)
   have HS:=hide (show G5 k++[33]=G5 (k+1) by unfold G5;rw[List.replicate_succ',fm])
   generalize G5 k=nk at*
   go_wp2
   go_roundw
   case rel=>exact⟨k+1,hlt,by go_num,by rw[←ae HS],by simp⟩
   case measure=>simp[intOf];omega
  ·have hkL:k=L:=by omega
   subst hkL
   have hnl:(G5 k).length≤1073741840:=by unfold G5;simp;omega
   generalize G5 k=t at*
   have H2:Hid (GE wB (up o w 1) b {S with last:=k,ry:=S.ry,ns:=S.ns} R (tn r T ta (-(k:Int)) 0::cw (T.drop 0) (ta.drop 0)) none none w1):=by
    have h1:=ae H1
    exact hide (by simpa[tn]using h1)
   have HTA:=hide hta
   have HAT:=hide hat
   clear H1 hta hat
   go_wp2_with fail
   go_loopw [6] (fun i wx=>∃(q:Nat)(ox:Nat→Nat)(A:List Value)(B:List Str)(Rx:z5),q≤T.length∧i= .int .i64 q∧A.length≤S.ry.length+5*q∧Hid (GE wB ox b {S with last:=k,ry:=A,ns:=B} Rx (tn r T ta (-(k:Int)) q::cw (T.drop q) (ta.drop q)) none none wx)) (fun i _=>T.length-(intOf i).toNat)
   case atStart=>exact⟨0,_,_,_,_,da _,rfl,by omega,H2⟩
   case round=>
    obtain⟨q,ox,A,B,Rx,hq,rfl,hAl,HG⟩:=hrel
    clear H2 d6
    by_cases hql:q<T.length
    ·obtain⟨tk,htk⟩:∃tk,T[q]? =some tk:=⟨T[q],by simp[hql]⟩
     have zsn:q<ta.length:=by rw[ae HTA];exact hql
     obtain⟨xk,hxk⟩:∃xk,ta[q]? =some xk:=⟨ta[q],by simp[zsn]⟩
     have dT:T.drop q=tk::T.drop (q+1):=by
      obtain⟨h1,h2⟩:=cd.1 htk
      rw[List.drop_eq_getElem_cons h1,h2]
     have dta:ta.drop q=xk::ta.drop (q+1):=by
      obtain⟨h1,h2⟩:=cd.1 hxk
      rw[List.drop_eq_getElem_cons h1,h2]
     have hrow:(tn r T ta (-(k:Int)) q).ok wr:=(ae HG).obj.ok (by simp)
     have zlt:(List.replicate q ({kind:= -(k:Int)}:Tok)++T.drop q).length=T.length:=by simp;omega
     obtain⟨g,hga,hgl,_⟩:=Fx hrow (show(List.replicate q ({kind:= -(k:Int)}:Tok)++T.drop q).length≠0 by omega)
     have hra:r.a=some ⟨g,0,none⟩:=hga
     have cA:wr.cell? ⟨g,q*6+2,none⟩=some (.slice xk.a tk.attrs.length xk.cap):=by
      have e:=yf (List.replicate q {kind:= -(k:Int)}++T.drop q) (List.replicate q ⟨none,0⟩++ta.drop q) q tk xk (by rw[List.getElem?_append_right (by simp)];simp[dT]) (by rw[List.getElem?_append_right (by simp)];simp[dta]) 2 (by omega)
      exact ve hrow hga (q*6+2) _ e
     have ztv:T.length≤r.cap:=by have:=Wi hrow;simpa[tn,rq,zlt]using this
     have HG2:Hid (GE wB ox b {S with last:=k,ry:=A,ns:=B} Rx (F0 xk tk.attrs t 0::tn r T ta (-(k:Int)) q::cw (T.drop (q+1)) (ta.drop (q+1))) none none wr):=by
      have h1:=ae HG
      rw[dT,dta]at h1
      simp only[cw]at h1
      exact hide (h1.perm (List.Perm.swap _ _ _))
     have zu3:=ae HAT tk (List.mem_of_getElem? htk)
     rw[hra]
     clear HG htk hxk dT dta hrow zlt hga
     go_wp2_with fail
     go_loopw [8] (fun i8 wy=>∃(j:Nat)(oy:Nat→Nat),j≤tk.attrs.length∧i8= .int .i64 j∧Hid (GE wB oy b {S with last:=k,ry:=A,ns:=B} Rx (F0 xk tk.attrs t j::tn r T ta (-(k:Int)) q::cw (T.drop (q+1)) (ta.drop (q+1))) none none wy)) (fun i _=>tk.attrs.length-(intOf i).toNat)
     case atStart=>exact⟨0,_,da _,rfl,HG2⟩
     case round=>
      obtain⟨j,oy,hj,rfl,HG3⟩:=hrel
      clear HG2 cA
      by_cases hjl:j<tk.attrs.length
      ·have zdv:(F0 xk tk.attrs t j).ok wr:=(ae HG3).obj.ok (by simp)
       obtain⟨gx,hgx,zu4,_⟩:=Fx zdv (show(F0 xk tk.attrs t j).n≠0 by rw[zi6 _ _ _ _ hj];omega)
       have hxa:xk.a=some ⟨gx,0,none⟩:=hgx
       have HW:=hide ((ae HG3).write hjl hxa)
       have cX:∃u,wr.cell? ⟨gx,j,none⟩=some u:=⟨_,ve zdv hgx j _ (ig (by simp[F0,lr];omega))⟩
       obtain⟨u,cX⟩:=cX
       have hfX:=fun i=>Qe zdv hgx i
       clear HG3 zdv hgx
       rw[hxa]
       go_wp2
       go_roundw
       case rel=>exact⟨j+1,_,hjl,by go_num,HW⟩
       case measure=>simp[intOf];omega
      ·have hje:j=tk.attrs.length:=by omega
       subst hje
       have hN:F0 xk tk.attrs t tk.attrs.length=lr xk (List.replicate tk.attrs.length t):=by simp[F0]
       rw[hN]at HG3
       clear hN
       have HG4:Hid (GE wB oy b {S with last:=k,ry:=A,ns:=B} Rx (lr xk (List.replicate tk.attrs.length t)::tn r T ta (-(k:Int)) q::cw (T.drop (q+1)) (ta.drop (q+1))) (some (xk,tk.attrs.length,t)) none wr):=hide ((ae HG3).weak (fun v u z=>absurd z Ai))
       clear HG3
       generalize hNN:tk.attrs.length=N at*
       clear hNN
       have hBb:B.length≤S.ry.length+5*q:=by have h1:A.length=B.length:=(ae HG4).Wv;omega
       have k0:=(ae HG4).k1
       have c3:wr.cell? ⟨b,3,none⟩=some (.slice Rx.attrs.a A.length Rx.attrs.cap):=(ae HG4).cell 3
       have c4:wr.cell? ⟨b,4,none⟩=some (.slice Rx.notes.a B.length Rx.notes.cap):=(ae HG4).cell 4
       have hf:=(ae HG4).obj.frozen
       have hb:=(ae HG4).obj.lt
       have HK:=hide k0
       clear k0
       go_wp2_with(at_builtin;refine dh _ rfl (.tmp 55) (.tmp 57) 65 rfl 23 iS _ 1 24 underlying65 hiS zqi zqj zqk rfl (by decide) Rx.attrs.a A.length Rx.attrs.cap A rfl ?own ⟨wr.heap.size,0,none⟩ 1 1 [.slice xk.a N xk.cap] rfl rfl (ii _ _ _ _ rfl) ?one (by decide) (by unfold maxLen;omega) (by omega) ?next)
       case own=>exact bh ((ae HK).obj.ok (it:=vu 23 Rx.attrs A) (by simp[jj])) _
       case one=>intro u hu;simp at hu;rw[hu];rfl
       case next=>
        intro a' cap' w' hown hgrow hfresh
        obtain⟨hself,hK2⟩:=K1.attrs (ae HK) ((More.refl wr).alloc _) (.slice xk.a N xk.cap) a' cap' hown hgrow (by simpa using hfresh)
        have d3:w'.cell? ⟨b,3,none⟩=some (.slice Rx.attrs.a A.length Rx.attrs.cap):=bg hself 3
        have df:=bn hself
        have Qh:=hide hK2
        have e4:World.cell? (w'.setCell ⟨b,3,none⟩ (.slice (some a') (A.length+1) cap')) ⟨b,4,none⟩=some (.slice Rx.notes.a B.length Rx.notes.cap):=hK2.obj.cell 4
        have ef:=hK2.obj.frozen
        have hb2:=hK2.obj.lt
        clear hown hgrow hfresh hK2 hself c3 c4 hf HK
        go_wp2_with(at_builtin;refine dh _ rfl (.tmp 65) (.tmp 67) 23 rfl 9 iU _ 1 16 underlying23 hiU zn5 zn6 zn7 rfl (by decide) Rx.notes.a B.length Rx.notes.cap (B.map str) rfl ?own ⟨w'.heap.size,0,none⟩ 1 1 [.string ⟨t.toArray⟩] rfl rfl (ii _ _ _ _ (by simp[World.setCell])) ?one (by decide) (by unfold maxLen;omega) (by omega) ?next)
        case own=>exact bh ((ae Qh).obj.ok (it:=lr Rx.notes B) (by simp[jj])) _
        case one=>first|rfl|(intro u hu;simp at hu;rw[hu];rfl)
        case next=>
         intro a2 cap2 w2 hown hgrow hfresh
         obtain⟨hself,hK3⟩:=K1.notes (ae Qh) ((More.refl _).alloc _) t a2 cap2 hown hgrow (by simpa[World.setCell]using hfresh)
         have d4:w2.cell? ⟨b,4,none⟩=some (.slice Rx.notes.a B.length Rx.notes.cap):=bg hself 4
         have df2:=bn hself
         have HG5:=hide ((ae HG4).back (S':={S with last:=k,ry:=A++[.slice xk.a N xk.cap],ns:=B++[t]}) (R':={Rx with attrs:=⟨some a',cap'⟩,notes:=⟨some a2,cap2⟩}) (pa':=some (xk,N,t)) (Sh:=none) hK3 rfl [] [] (by simp) (by simp) rfl (by simp) (fun _ _ z=>z) [.slice xk.a N xk.cap] [t] rfl rfl rfl (fun i v u h1 h2=>by
          cases i with
          |zero=>
           simp at h1 h2
           subst h1 h2
           exact⟨xk,N,rfl,N,xk.cap,rfl,cx _⟩
          |succ i=>simp at h1) (fun _ _ z=>z))
         have hA5:(A++[Value.slice xk.a N xk.cap]).length≤S.ry.length+5*q+1:=by simp;omega
         generalize A++[Value.slice xk.a N xk.cap]=A5 at*
         generalize B++[t]=B5 at*
         clear hown hgrow hfresh hself hK3 Qh HG4 d3 df e4 ef hb2 hAl hBb
         go_wp2_with fail
         go_loopw [7,9,10] (fun v7 v9 v10 wz=>∃(rr N1:Nat)(oz:Nat→Nat)(A6:List Value)(B6:List Str)(R6:z5)(x6:Sl),rr≤4∧v7= .slice x6.a N1 x6.cap∧v9= .int .i64 rr∧A6.length≤S.ry.length+5*q+1+rr∧N1≤N+rr∧Hid (GE wB oz b {S with last:=k,ry:=A6,ns:=B6} R6 (lr x6 (List.replicate N1 t)::tn r T ta (-(k:Int)) q::cw (T.drop (q+1)) (ta.drop (q+1))) (some (x6,N1,t)) none wz)) (fun _ i _ _=>4-(intOf i).toNat)
         case atStart=>exact⟨0,N,_,_,_,_,xk,by omega,rfl,rfl,hA5,by omega,HG5⟩
         case round=>
          obtain⟨rr,N1,oz,A6,B6,R6,x6,hrr,rfl,rfl,hA6,hN1,Qp⟩:=hrel
          clear HG5 d4 df2
          by_cases hgo:rr<4∧0<N1
          ·obtain⟨hr4,hNp⟩:=hgo
           have hNb:(N1:Int)>0:=by omega
           have hB6:B6.length≤S.ry.length+5*q+1+rr:=by have h1:A6.length=B6.length:=(ae Qp).Wv;omega
           go_wp2_with(at_builtin;refine Bs _ rfl (.tmp 80) (.tmp 82) 23 rfl 9 iU _ 1 16 underlying23 hiU zn5 zn6 zn7 rfl (by decide) x6.a N1 x6.cap ((List.replicate N1 t).map str) rfl ?own ⟨wr.heap.size,0,none⟩ 1 1 [.string ⟨t.toArray⟩] rfl rfl (ii _ _ _ _ rfl) ?one (by decide) (by unfold maxLen;omega) (by omega) ?next)
           case own=>exact bh (by have h1:=(ae Qp).obj.ok (it:=lr x6 (List.replicate N1 t)) (by simp);simpa[Item.ok,lr]using h1) _
           case one=>first|rfl|(intro u hu;simp at hu;rw[hu];rfl)
           case next=>
            intro a7 Ef w7 hown hgrow hfresh
            obtain⟨o7,h7⟩:=(ae Qp).zqb ((More.refl wr).alloc _) a7 Ef (by rw[List.map_replicate];exact hown) hgrow (by simpa using hfresh)
            have HG7:=hide h7
            clear hown hgrow hfresh h7 Qp
            have c3:w7.cell? ⟨b,3,none⟩=some (.slice R6.attrs.a A6.length R6.attrs.cap):=(ae HG7).cell 3
            have hf:=(ae HG7).obj.frozen
            have hb7:=(ae HG7).obj.lt
            have HK:=hide (ae HG7).k1
            go_wp2_with(at_builtin;refine dh _ rfl (.tmp 88) (.tmp 90) 65 rfl 23 iS _ 1 24 underlying65 hiS zqi zqj zqk rfl (by decide) R6.attrs.a A6.length R6.attrs.cap A6 rfl ?own ⟨w7.heap.size,0,none⟩ 1 1 [.slice (some a7) (N1+1) Ef] rfl rfl (ii _ _ _ _ rfl) ?one (by decide) (by unfold maxLen;omega) (by omega) ?next)
            case own=>exact bh ((ae HK).obj.ok (it:=vu 23 R6.attrs A6) (by simp[jj])) _
            case one=>first|rfl|(intro u hu;simp at hu;rw[hu];rfl)
            case next=>
             intro a8 zcq w8 hown hgrow hfresh
             obtain⟨hself,hK2⟩:=K1.attrs (ae HK) ((More.refl w7).alloc _) (.slice (some a7) (N1+1) Ef) a8 zcq hown hgrow (by simpa using hfresh)
             have d3:w8.cell? ⟨b,3,none⟩=some (.slice R6.attrs.a A6.length R6.attrs.cap):=bg hself 3
             have df:=bn hself
             have Qh:=hide hK2
             have e4:World.cell? (w8.setCell ⟨b,3,none⟩ (.slice (some a8) (A6.length+1) zcq)) ⟨b,4,none⟩=some (.slice R6.notes.a B6.length R6.notes.cap):=hK2.obj.cell 4
             have ef:=hK2.obj.frozen
             have hb8:=hK2.obj.lt
             clear hown hgrow hfresh hK2 hself c3 hf HK
             go_wp2_with(at_builtin;refine dh _ rfl (.tmp 98) (.tmp 100) 23 rfl 9 iU _ 1 16 underlying23 hiU zn5 zn6 zn7 rfl (by decide) R6.notes.a B6.length R6.notes.cap (B6.map str) rfl ?own ⟨w8.heap.size,0,none⟩ 1 1 [.string ⟨t.toArray⟩] rfl rfl (ii _ _ _ _ (by simp[World.setCell])) ?one (by decide) (by unfold maxLen;omega) (by omega) ?next)
             case own=>exact bh ((ae Qh).obj.ok (it:=lr R6.notes B6) (by simp[jj])) _
             case one=>first|rfl|(intro u hu;simp at hu;rw[hu];rfl)
             case next=>
              intro a9 zi7 w9 hown hgrow hfresh
              obtain⟨hself,hK3⟩:=K1.notes (ae Qh) ((More.refl _).alloc _) t a9 zi7 hown hgrow (by simpa[World.setCell]using hfresh)
              have d4:w9.cell? ⟨b,4,none⟩=some (.slice R6.notes.a B6.length R6.notes.cap):=bg hself 4
              have df2:=bn hself
              have HG8:=hide ((ae HG7).back (S':={S with last:=k,ry:=A6++[.slice (some a7) (N1+1) Ef],ns:=B6++[t]}) (R':={R6 with attrs:=⟨some a8,zcq⟩,notes:=⟨some a9,zi7⟩}) (pa':=some (⟨some a7,Ef⟩,N1+1,t)) (Sh:=none) hK3 rfl [] [] (by simp) (by simp) rfl (by simp) (fun _ _ z=>z) [.slice (some a7) (N1+1) Ef] [t] rfl rfl rfl (fun i v u h1 h2=>by
               cases i with
               |zero=>
                simp at h1 h2
                subst h1 h2
                exact⟨_,_,rfl,N1+1,Ef,rfl,cx _⟩
               |succ i=>simp at h1) (fun _ _ z=>z))
              clear hown hgrow hfresh hself hK3 Qh HG7 d3 df e4 ef
              go_wp2
              go_roundw
              case rel=>exact⟨rr+1,N1+1,_,_,_,_,⟨some a7,Ef⟩,by omega,rfl,by go_num,by simp;omega,by omega,HG8⟩
              case measure=>simp[intOf];omega
          ·obtain⟨o8,h8⟩:=(ae Qp).zdr
           have hrow:(tn r T ta (-(k:Int)) q).ok wr:=h8.obj.ok (by simp)
           have hcR:∀i,i<6→∃u,wr.cell? ⟨g,q*6+i,none⟩=some u:=by
            intro i hi
            have hll:(eh (List.replicate q {kind:= -(k:Int)}++T.drop q) (List.replicate q ⟨none,0⟩++ta.drop q)).length=T.length*6:=by
             rw[Qg _ _ (by simp[ae HTA])];simp;omega
            have hlt:q*6+i<(eh (List.replicate q {kind:= -(k:Int)}++T.drop q) (List.replicate q ⟨none,0⟩++ta.drop q)).length:=by rw[hll];omega
            exact⟨_,ve hrow (show(tn r T ta (-(k:Int)) q).a=some ⟨g,0,none⟩from hra) _ _ (ig hlt)⟩
           obtain⟨u0,r0⟩:=hcR 0 (by omega)
           obtain⟨u1,r1⟩:=hcR 1 (by omega)
           obtain⟨u2,r2⟩:=hcR 2 (by omega)
           obtain⟨u3,r3⟩:=hcR 3 (by omega)
           obtain⟨u4,r4⟩:=hcR 4 (by omega)
           obtain⟨u5,r5⟩:=hcR 5 (by omega)
           rw[Nat.add_zero]at r0
           have hfR:=fun i=>Qe hrow (show(tn r T ta (-(k:Int)) q).a=some ⟨g,0,none⟩from hra) i
           have c6:wr.cell? ⟨b,6,none⟩=some (.int .i64 k):=h8.cell 6
           have hb8:=h8.obj.lt
           have HG8:=hide h8
           have hcase:rr=4∨(rr<4∧N1=0):=by omega
           clear Qp hrow hcR h8 hgo
           have HGM:=hide ((ae HG8).mark (ae HTA) hql hra)
           rcases hcase with rfl|⟨hr4,rfl⟩
           all_goals
            clear HG8
            go_wp2
            go_roundw
            case rel=>exact⟨q+1,_,_,_,_,by omega,by go_num,by omega,HGM⟩
            case measure=>simp[intOf];omega
    ·have hqe:q=T.length:=by omega
     subst hqe
     have HG9:Hid (GE wB ox b {S with last:=k,ry:=A,ns:=B} Rx [xn r T.length (-(k:Int))] none (some (r,T.length,-(k:Int))) wr):=by
      have h1:=ae HG
      have e1:tn r T ta (-(k:Int)) T.length=xn r T.length (-(k:Int)):=by
       unfold tn xn
       rw[List.drop_length,gq]
       congr 1
       rw[←ae HTA,List.drop_length,gq]
      have e2:cw (T.drop T.length) (ta.drop T.length)=[]:=by rw[List.drop_length];cases ta.drop T.length<;>rfl
      rw[e1,e2]at h1
      exact hide (h1.zqf (fun v u z=>absurd z Aj))
     clear HG HTA HAT
     have hmb:S.ms.length+5≤1099511627000:=by have h1:S.ls.length=S.ms.length:=(ae HG9).Wu;omega
     have c1:wr.cell? ⟨b,1,none⟩=some (.slice Rx.lists.a S.ls.length Rx.lists.cap):=(ae HG9).cell 1
     have hf:=(ae HG9).obj.frozen
     have hb:=(ae HG9).obj.lt
     have HK:=hide (ae HG9).k1
     go_wp2_with(at_builtin;refine dh _ rfl (.tmp 118) (.tmp 120) 59 rfl 30 iT _ 1 24 underlying59 hiT zql zqm zqn rfl (by decide) Rx.lists.a S.ls.length Rx.lists.cap S.ls rfl ?own ⟨wr.heap.size,0,none⟩ 1 1 [.slice r.a T.length r.cap] rfl rfl (ii _ _ _ _ rfl) ?one (by decide) (by unfold maxLen;omega) (by omega) ?next)
     case own=>exact bh ((ae HK).obj.ok (it:=vu 30 Rx.lists S.ls) (by simp[jj])) _
     case one=>first|rfl|(intro u hu;simp at hu;rw[hu];rfl)
     case next=>
      intro a1 za8 w2 hown hgrow hfresh
      obtain⟨hself,hK2⟩:=K1.lists (ae HK) ((More.refl wr).alloc _) (.slice r.a T.length r.cap) a1 za8 hown hgrow (by simpa using hfresh)
      have d1:w2.cell? ⟨b,1,none⟩=some (.slice Rx.lists.a S.ls.length Rx.lists.cap):=bg hself 1
      have df:=bn hself
      have Qh:=hide hK2
      clear hown hgrow hfresh hK2 hself c1 hf HK
      go_wp2_with fail
      clear d1 df
      generalize w2.setCell ⟨b,1,none⟩ (.slice (some a1) (S.ls.length+1) za8)=w3 at*
      have c2:w3.cell? ⟨b,2,none⟩=some (.slice Rx.marks.a S.ms.length Rx.marks.cap):=(ae Qh).obj.cell 2
      have c6:w3.cell? ⟨b,6,none⟩=some (.int .i64 k):=(ae Qh).obj.cell 6
      have hf:=(ae Qh).obj.frozen
      have hb3:=(ae Qh).obj.lt
      have hrow:w3.ownsRow 0 3 1 (.slice Rx.marks.a S.ms.length Rx.marks.cap) S.ms.length (S.ms.map (Value.int .i64)):=(ae Qh).obj.ok (it:=ck Rx.marks S.ms) (by simp[jj])
      have hwk:IntKind.i64.wrap (-(k:Int))= -(k:Int):=by rw[IntKind.wrap_i64];omega
      go_region_law(refine fx rfl (.tmp 128) (.tmp 134) 45 rfl 3 i0 _ 1 8 underlying45 hi hz0 hz1 hz2 rfl (by decide) Rx.marks.a S.ms.length Rx.marks.cap (S.ms.map (Value.int .i64)) (by simp[Act.eval]) (by repeat(first|exact hrow|refine bh ?_ _|refine og ?_)) ⟨w3.heap.size,0,none⟩ 1 1 ([-(k:Int)].map (Value.int .i64)) (by simp[Act.eval]) rfl (ii _ _ _ _ (by rfl)) (km _) (by decide) (by unfold maxLen;omega) (by omega) ?_;intro a' cap' w' hown hgrow hfresh;obtain⟨hself,hK3⟩:=K1.marks (ae Qh) (by repeat(first|exact More.refl _|refine More.alloc ?_ _|refine More.drew ?_)) _ a' cap' hown hgrow (by simpa using hfresh);have d2:w'.cell? ⟨b,2,none⟩=some (.slice Rx.marks.a S.ms.length Rx.marks.cap):=bg hself 2;have df:=bn hself)
      all_goals
       have zqo:=hide ((ae HG9).back (S':={S with last:=k,ry:=A,ns:=B,ls:=S.ls++[.slice r.a T.length r.cap],ms:=S.ms++[-(k:Int)]}) (R':={Rx with lists:=⟨some a1,za8⟩,marks:=⟨some a',cap'⟩}) (pa':=none) (Sh:=some (r,T.length,-(k:Int))) hK3 rfl [.slice r.a T.length r.cap] [-(k:Int)] rfl rfl rfl (fun i v u h1 h2=>by
        cases i with
        |zero=>
         simp at h1 h2
         subst h1 h2
         exact⟨r,T.length,rfl,T.length,r.cap,rfl,cx _⟩
        |succ i=>simp at h1) (fun _ _ z=>z) [] [] (by simp) (by simp) rfl (by simp) (fun _ _ z=>z))
       have hL5:(S.ls++[Value.slice r.a T.length r.cap]).length=S.ls.length+1:=by simp
       generalize S.ls++[Value.slice r.a T.length r.cap]=L5 at*
       generalize S.ms++[-(k:Int)]=M5 at*
       have HL5:=hide hL5
       clear hown hgrow hfresh hself hK3 Qh HG9 hL5 c2 c6 hf hrow
       go_wp2_with fail
       go_loopw [1,11,12] (fun v1 v11 v12 wz=>∃(rr:Nat)(oz:Nat→Nat)(L6:List Value)(M6:List Int)(R6:z5)(x6:Sl),rr≤4∧v1= .slice x6.a (T.length+rr) x6.cap∧v11= .int .i64 rr∧Hid (L6.length=S.ls.length+1+rr)∧Hid (GE wB oz b {S with last:=k,ry:=A,ns:=B,ls:=L6,ms:=M6} R6 [xn x6 (T.length+rr) (-(k:Int))] none (some (x6,T.length+rr,-(k:Int))) wz)) (fun _ i _ _=>4-(intOf i).toNat)
       case atStart=>exact⟨0,_,_,_,_,r,by omega,rfl,rfl,HL5,zqo⟩
       case round=>
        obtain⟨rr,oz,L6,M6,R6,x6,hrr,rfl,rfl,HL6,Qp⟩:=hrel
        clear zqo HL5 d2 df
        by_cases hr4:rr<4
        ·have hLb:L6.length≤S.ls.length+5:=by have:=ae HL6;omega
         have hMb:M6.length≤S.ls.length+5:=by have h1:L6.length=M6.length:=(ae Qp).Wu;omega
         have c6:wr.cell? ⟨b,6,none⟩=some (.int .i64 k):=(ae Qp).cell 6
         have hb6:=(ae Qp).obj.lt
         go_wp2_with(at_builtin;refine Bs _ rfl (.tmp 142) (.tmp 149) 30 rfl 34 iK _ 6 80 underlying30 hiK zsj zsk zsl rfl (by decide) x6.a (T.length+rr) x6.cap (eh (List.replicate (T.length+rr) {kind:= -(k:Int)}) (List.replicate (T.length+rr) ⟨none,0⟩)) rfl ?own ⟨wr.heap.size,0,none⟩ 1 1 (fq {kind:= -(k:Int)} ⟨none,0⟩) rfl rfl (um _ _ _ _) (r8 _ _) (by decide) (by unfold maxLen;omega) (by omega) ?next)
         case own=>exact bh (by have h1:=(ae Qp).obj.ok (it:=xn x6 (T.length+rr) (-(k:Int))) (by simp);simpa[Item.ok,xn,rq]using h1) _
         case next=>
          intro a7 Ef w7 hown hgrow hfresh
          obtain⟨o7,h7⟩:=(ae Qp).zqc ((More.refl wr).alloc _) a7 Ef hown hgrow (by simpa using hfresh)
          have HG7:=hide h7
          clear hown hgrow hfresh h7 Qp c6
          have c1:w7.cell? ⟨b,1,none⟩=some (.slice R6.lists.a L6.length R6.lists.cap):=(ae HG7).cell 1
          have hf:=(ae HG7).obj.frozen
          have hb7:=(ae HG7).obj.lt
          have HK:=hide (ae HG7).k1
          go_wp2_with(at_builtin;refine dh _ rfl (.tmp 155) (.tmp 157) 59 rfl 30 iT _ 1 24 underlying59 hiT zql zqm zqn rfl (by decide) R6.lists.a L6.length R6.lists.cap L6 rfl ?own ⟨w7.heap.size,0,none⟩ 1 1 [.slice (some a7) (T.length+rr+1) Ef] rfl rfl (ii _ _ _ _ rfl) ?one (by decide) (by unfold maxLen;omega) (by omega) ?next)
          case own=>exact bh ((ae HK).obj.ok (it:=vu 30 R6.lists L6) (by simp[jj])) _
          case one=>first|rfl|(intro u hu;simp at hu;rw[hu];rfl)
          case next=>
           intro a8 zcq w8 hown hgrow hfresh
           obtain⟨hself,hK2⟩:=K1.lists (ae HK) ((More.refl w7).alloc _) (.slice (some a7) (T.length+rr+1) Ef) a8 zcq hown hgrow (by simpa using hfresh)
           have d1:w8.cell? ⟨b,1,none⟩=some (.slice R6.lists.a L6.length R6.lists.cap):=bg hself 1
           have df:=bn hself
           have Qh:=hide hK2
           clear hown hgrow hfresh hK2 hself c1 hf HK
           go_wp2_with fail
           clear d1 df
           generalize w8.setCell ⟨b,1,none⟩ (.slice (some a8) (L6.length+1) zcq)=w9 at*
           have c2:w9.cell? ⟨b,2,none⟩=some (.slice R6.marks.a M6.length R6.marks.cap):=(ae Qh).obj.cell 2
           have c6:w9.cell? ⟨b,6,none⟩=some (.int .i64 k):=(ae Qh).obj.cell 6
           have hf:=(ae Qh).obj.frozen
           have hb9:=(ae Qh).obj.lt
           have hrow:w9.ownsRow 0 3 1 (.slice R6.marks.a M6.length R6.marks.cap) M6.length (M6.map (Value.int .i64)):=(ae Qh).obj.ok (it:=ck R6.marks M6) (by simp[jj])
           go_region_law(refine fx rfl (.tmp 165) (.tmp 171) 45 rfl 3 i0 _ 1 8 underlying45 hi hz0 hz1 hz2 rfl (by decide) R6.marks.a M6.length R6.marks.cap (M6.map (Value.int .i64)) (by simp[Act.eval]) (by repeat(first|exact hrow|refine bh ?_ _|refine og ?_)) ⟨w9.heap.size,0,none⟩ 1 1 ([-(k:Int)].map (Value.int .i64)) (by simp[Act.eval]) rfl (ii _ _ _ _ (by rfl)) (km _) (by decide) (by unfold maxLen;omega) (by omega) ?_;intro a9 zi7 w' hown hgrow hfresh;obtain⟨hself,hK3⟩:=K1.marks (ae Qh) (by repeat(first|exact More.refl _|refine More.alloc ?_ _|refine More.drew ?_)) _ a9 zi7 hown hgrow (by simpa using hfresh);have d2:w'.cell? ⟨b,2,none⟩=some (.slice R6.marks.a M6.length R6.marks.cap):=bg hself 2;have df:=bn hself)
           all_goals
            have HG8:=hide ((ae HG7).back (S':={S with last:=k,ry:=A,ns:=B,ls:=L6++[.slice (some a7) (T.length+rr+1) Ef],ms:=M6++[-(k:Int)]}) (R':={R6 with lists:=⟨some a8,zcq⟩,marks:=⟨some a9,zi7⟩}) (pa':=none) (Sh:=some (⟨some a7,Ef⟩,T.length+rr+1,-(k:Int))) hK3 rfl [.slice (some a7) (T.length+rr+1) Ef] [-(k:Int)] rfl rfl rfl (fun i v u h1 h2=>by
             cases i with
             |zero=>
              simp at h1 h2
              subst h1 h2
              exact⟨_,_,rfl,T.length+rr+1,Ef,rfl,cx _⟩
             |succ i=>simp at h1) (fun _ _ z=>z) [] [] (by simp) (by simp) rfl (by simp) (fun _ _ z=>z))
            have HL8:Hid ((L6++[Value.slice (some a7) (T.length+rr+1) Ef]).length=S.ls.length+1+(rr+1)):=hide (by have:=ae HL6;simp;omega)
            clear hown hgrow hfresh hself hK3 Qh HG7 c2 c6 hf hrow
            go_wp2
            go_roundw
            case rel=>exact⟨rr+1,_,_,_,_,⟨some a7,Ef⟩,by omega,rfl,by go_num,HL8,HG8⟩
            case measure=>simp[intOf];omega
        ·have hre:rr=4:=by omega
         subst hre
         obtain⟨o8,h8⟩:=(ae Qp).zds
         have HG8:=hide h8
         clear Qp h8
         go_wp2
         go_end0
         exact⟨rfl,o8,_,⟨R6,ae HG8⟩,rfl,(ae HLL).symm,ae HL6,by simpa using hAl⟩
end
end Go.Proofs.YtdfmapcnfficlaaGreatDoor.M

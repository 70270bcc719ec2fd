import Derived.Test.YtdfmapcnfficlaaGreatDoorP49
import Derived.Test.YtdfmapcnfficlaaGreatDoorP44
import Derived.Deep.Strs
set_option linter.all false
set_option maxHeartbeats 4000000
set_option maxRecDepth 1000000
namespace Go.Proofs.YtdfmapcnfficlaaGreatDoor.M
open Go.Proofs.Tryz
open Go Go.RowKit Go.Lib Go.ChangeShapes Go.WideShapes Go.Proofs.YtdfmapcnfficlaaGreatDoor
section
variable{H:Type}{enc:TypeId×Value→H}{W:World}
theorem zjp{g o:Nat}(j:Nat):((⟨g,o,none⟩:Addr).add j)=⟨g,o+j,none⟩:=by unfold Addr.add;split<;>simp_all
theorem Wr{P:Program}{w:World}{base:Nat}{spare:Nat→Bool}{held:Bool}{t:TypeId}{f0 f1 f2 f3 f4:Field}{fuel:Nat}{cs:List Value}{x:DataW H×List MemPlace}(ht:P.underlying t=some (.struct #[f0,f1,f2,f3,f4]))(h:DataW.trod enc P w base spare held fuel t cs=some x):
  ∃(y0 y1 y2 y3 y4:DataW H×List MemPlace)(n:Nat),x=(.agg [y0.1,y1.1,y2.1,y3.1,y4.1],y0.2++(y1.2++(y2.2++(y3.2++y4.2))))∧DataW.trod enc P w base spare held n f0.type ((cs.drop f0.offset).take (P.cellsOf f0.type))=some y0∧
   DataW.trod enc P w base spare held n f1.type ((cs.drop f1.offset).take (P.cellsOf f1.type))=some y1∧DataW.trod enc P w base spare held n f2.type ((cs.drop f2.offset).take (P.cellsOf f2.type))=some y2∧DataW.trod enc P w base spare held n f3.type ((cs.drop f3.offset).take (P.cellsOf f3.type))=some y3:=by
 obtain⟨xs,n,_,rfl,hl,hlen,hf⟩:=DataW.trod_struct ht h
 match xs,hlen with
 |[y0,y1,y2,y3,y4],_=>exact⟨y0,y1,y2,y3,y4,n,by simp,by simpa using hf 0 f0 rfl,by simpa using hf 1 f1 rfl,by simpa using hf 2 f2 rfl,by simpa using hf 3 f3 rfl⟩
theorem zoj{fuel:Nat}{a:Addr}{d:DataW H}{p:List MemPlace}{cs:List Value}(h1:W.cells? 0 a 5=some cs)(h2:DataW.trod enc prog W 0 (fun _=>true) true fuel 25 cs=some (d,p)):
  ∃q:Opn,W.cell? (a.add 0)=some (.int .i64 q.kd)∧W.cell? (a.add 1)=some (.int .i64 q.wv)∧W.cell? (a.add 2)=some (.int .i64 q.nv)∧W.cell? (a.add 3)=some (.string ⟨q.x.toArray⟩)∧W.cell? (a.add 4)=some q.lv∧((-9223372036854775808≤q.wv∧q.wv≤9223372036854775807)∧q.nv≤9223372036854775807)∧q.x.length+1≤Rows.uptoBulk d:=by
 obtain⟨_,hlen,hcell⟩:=World.cells?_some h1
 obtain⟨y0,y1,y2,y3,y4,n,hx,g0,g1,g2,g3⟩:=Wr underlying25 h2
 match cs,hlen with
 |[v0,v1,v2,v3,v4],_=>
  have k0:prog.cellsOf 3=1:=by kernel_rfl
  have k3:prog.cellsOf 9=1:=by kernel_rfl
  simp only[k0,k3,List.drop_zero,List.drop_succ_cons,List.take_succ_cons,List.take_zero]at g0 g1 g2 g3
  obtain⟨z0,e0,_,w0⟩:=DataW.trod_int underlying3 g0
  obtain⟨z1,e1,_,w1⟩:=DataW.trod_int underlying3 g1
  obtain⟨z2,e2,_,w2⟩:=DataW.trod_int underlying3 g2
  obtain⟨s,e3,x3,_⟩:=DataW.trod_string underlying9 g3
  simp at e0 e1 e2 e3
  subst e0 e1 e2 e3
  simp only[Prod.mk.injEq]at hx
  obtain⟨rfl,_⟩:=hx
  have c0:=hcell 0 (by omega)
  have c1:=hcell 1 (by omega)
  have c2:=hcell 2 (by omega)
  have c3:=hcell 3 (by omega)
  have c4:=hcell 4 (by omega)
  simp[Lit.wf]at w0 w1 w2
  have e1:IntKind.i64.min= -9223372036854775808:=rfl
  have e2:IntKind.i64.max=9223372036854775807:=rfl
  refine⟨⟨z0,z1,z2,s.data.toList,v4⟩,by simpa using c0,by simpa using c1,by simpa using c2,by simpa using c3,by simpa using c4,by simp only;omega,?_⟩
  have b0:=zjn y0.1
  have hy:y3.1= .lit (.string s.data.toList):=by rw[x3]
  simp only[Rows.uptoBulk,Rows.uptoBulkAll,hy]
  omega
theorem zlc{b0:Nat}{v:Value}{d:DataW H}{p:List MemPlace}(hval:Value.okWide prog W .any b0 26 v)(h:DataW.Trod enc prog W 0 (fun _=>true) true 26 v d p)(hb:Rows.uptoBulk d≤1048576):∃a cap l,v= .slice a l.length cap∧Scr W a l:=by
 obtain⟨a0,Qo,cap0,rfl⟩:=okWide_slice underlying26 hval
 obtain⟨fuel,hf⟩:=h
 rcases Go.Deep.open_slice underlying26 hf with⟨hcs,hx⟩|⟨a,len,cap,m,n,D,Pl,hcs,_,hl,hm,hmm,hx,hel⟩
 ·simp[Value.cells]at hcs
  obtain⟨rfl,rfl,rfl⟩:=hcs
  exact⟨none,0,[],rfl,fun i q hq=>by simp at hq,fun q hq=>by simp at hq,by simp,by simp[Ww]⟩
 ·simp[Value.cells]at hcs
  obtain⟨rfl,rfl,rfl⟩:=hcs
  simp only[Prod.mk.injEq]at hx
  obtain⟨rfl,_⟩:=hx
  simp only[if_true]at hmm
  have ce:prog.cellsOf 25=5:=by kernel_rfl
  rw[ce]at hel
  have each:∀i,i<Qo→∃q:Opn,W.cell? (a.add (i*5))=some (.int .i64 q.kd)∧W.cell? (a.add (i*5+1))=some (.int .i64 q.wv)∧W.cell? (a.add (i*5+2))=some (.int .i64 q.nv)∧W.cell? (a.add (i*5+3))=some (.string ⟨q.x.toArray⟩)∧W.cell? (a.add (i*5+4))=some q.lv∧((-9223372036854775808≤q.wv∧q.wv≤9223372036854775807)∧q.nv≤9223372036854775807)∧q.x.length+1≤Rows.uptoBulk (D i):=by
   intro i hi
   obtain⟨cs',h1,h2⟩:=hel i (by omega)
   obtain⟨q,c0,c1,c2,c3,c4,r⟩:=zoj h1 h2
   rw[Go.Deep.add_add]at c0 c1 c2 c3 c4
   exact⟨q,by simpa using c0,c1,c2,c3,c4,r⟩
  haveI:Inhabited Opn:=⟨⟨0,0,0,[],.int .i64 0⟩⟩
  obtain⟨q,hq⟩:=Go.Deep.choose_lt each
  have hll:((List.range Qo).map q).length=Qo:=by simp
  have hsz:Ww ((List.range Qo).map q)+Qo≤Rows.uptoBulkAll ((List.range Qo).map D):=by
   have key:∀(l:List Nat),(∀i∈l,i<Qo)→Ww (l.map q)+l.length≤Rows.uptoBulkAll (l.map D):=by
    intro l
    induction l with
    |nil=>intro _;simp[Ww,Rows.uptoBulkAll]
    |cons i r ih=>
     intro hr
     have h1:=ih (fun j hj=>hr j (by simp[hj]))
     have h2:=(hq i (hr i (by simp))).2.2.2.2.2.2
     simp only[Ww,List.map_cons,List.sum_cons,Rows.uptoBulkAll,ai]at h1⊢
     omega
   have:=key (List.range Qo) (fun i hi=>List.mem_range.1 hi)
   simpa using this
  have hb2:Rows.uptoBulkAll ((List.range Qo).map D)≤1048576:=by
   simp only[Rows.uptoBulk]at hb
   omega
  refine⟨some a,cap0,(List.range Qo).map q,by rw[hll],fun i y hy=> ?_,fun y hy=> ?_,by rw[hll];omega,by omega⟩
  ·have hi:i<Qo:=by have:=(cd.1 hy).1;simpa using this
   have ey:q i=y:=by simpa[hi]using hy
   obtain⟨c0,c1,c2,c3,c4,_⟩:=hq i hi
   rw[ey]at c0 c1 c2 c3 c4
   obtain⟨g,o,spt⟩:=a
   have hc0:=(hq 0 (by omega)).1
   have hs:spt=none:=cell_spot (o:=o) (b:=g) (by simpa[Addr.add]using hc0)
   subst hs
   rw[zjp]at c0 c1 c2 c3 c4
   exact⟨g,o,rfl,zdz c0,c0,c1,c2,c3,c4⟩
  ·obtain⟨i,hi,rfl⟩:=List.mem_map.1 hy
   exact(hq i (List.mem_range.1 hi)).2.2.2.2.2.1
end
theorem Ws(a:Option Addr)(cap:Nat)(l:List Opn)(w:World){ac al:Addr}(T:Fy w ac al)(hs:Scr w a l):
  Calls prog 4 #[.slice a l.length cap] w fun e w'=>e= .returned (.bool true)∧More w w':=by
 have HC:=hide (Qj T l a cap hs 100000 (by omega))
 clear T hs
 go_enter func4,ntmps4
 go_wp2_with fail
 refine(ae HC).mono ?_
 rintro e w2⟨rfl,hm2⟩
 have HF:=hide hm2
 clear HC hm2
 go_wp2
 go_ret
 exact⟨rfl,ae HF⟩
end Go.Proofs.YtdfmapcnfficlaaGreatDoor.M
namespace Go.Proofs.YtdfmapcnfficlaaGreatDoor.written
open Go.Proofs.Tryz
open Go Go.RowKit Go.Lib Go.ChangeShapes Go.WideShapes Go.Proofs.YtdfmapcnfficlaaGreatDoor
theorem contract(H:Type)(enc:TypeId×Value→H)(W:World)(base:Nat)(args:Array Value)(ds gs:List (DataW H))(before:List MemPlace)
  (hval:∀(j:Nat)t v,Tryz.f4.params[j]? =some t→args[j]? =some v→Value.okWide prog W .any base t v)
  (hW:DataW.Whole enc prog Tryz.f4.params.toList Rows.writtenSpec.vars false W args.toList ds gs before) (hsm:Rows.uptoSmall H (ds++gs)=true) (hL:laidMetH prog Bu W):
  Calls prog 4 args W fun e W'=>∃v,e= .returned v∧Rows.writtenSpec.post enc prog Tryz.f4 false true false false W args v W':=by
 have hW':=hW
 obtain⟨p,q,hA0,hV,rfl,hfz,hnd⟩:=hW
 have hA:DataW.TrodAll enc prog W 0 (fun _=>true) true Tryz.f4.params.toList args.toList ds p:=hA0
 have hlt:∀x∈p++q,x.block<W.heap.size:=fun x hx=>by simpa using hW'.lt x hx
 rw[params4]at hA hval
 obtain⟨v0,d0,rfl,rfl,h0⟩:=trodAll_one hA
 obtain⟨rfl,rfl⟩:=trodVars_none hV
 have k0:=h0
 have hb:=Qm hsm
 simp only[gq,Rows.uptoBulkAll]at hb
 obtain⟨a0,cap0,l0,rfl,hs0⟩:=M.zlc (hval 0 _ v0 rfl rfl) h0 (by omega)
 obtain⟨hB,⟨ac,al,hE⟩,hT⟩:=Jg hL
 refine(M.Ws a0 cap0 l0 W ⟨hB,hE,hT⟩ hs0).mono ?_
 rintro e W'⟨rfl,hm⟩
 have hbl:=hm.below
 refine⟨_,rfl,_,_,_,[],p,[],hW',trodAll_mk1 (shut_bool underlying4 _),?_,rfl,hbl.frame _,fun h=>by cases h⟩
 exact trodAll_mk1 (Below.trod laidOut (by kernel_rfl) (of_decide_eq_true (by kernel_rfl)) k0 hbl (fun x hx=>hlt x (by simp[hx])))
theorem Hu(os:Os)(started:os.Started)(H:Type)(enc:TypeId×Value→H)(F:Stop.Interp):
  ReturnsInHanded {} checked os 4 .any ((Rows.OpenSpec.upto Rows.writtenSpec).preRow enc prog Tryz.f4 Rows.writtenUptoRow.domain false Rows.writtenUptoRow.laid) (((Rows.OpenSpec.upto Rows.writtenSpec).at F).post enc prog Tryz.f4 false true false false):=by
 have hx:∃places,DataW.whole enc prog ((World.laidAll prog os Bu).forCall (fun _ _=>0) ⟨#[],#[.slice none 0 0],[]⟩).memory Tryz.f4.params.toList Rows.writtenSpec.vars false #[(.slice none 0 0:Value)].toList 8=some ([.nil],[],places):=⟨[],by kernel_rfl⟩
 obtain⟨places,hx⟩:=hx
 refine returnsInHanded_of_row (C:=checked) (s:=Rows.OpenSpec.upto Rows.writtenSpec) Tryz.own started (by kernel_rfl) func4
  (Lj (enc:=enc) (C:=checked) false (World.laidAll prog os Bu) #[.slice none 0 0] (World.laidAll_os _ _ _) (World.shaped_of_ZipB (by kernel_rfl) (by kernel_rfl)) (by kernel_rfl)
   (OpenSpec.preRow_of_cond 8 hx (by kernel_rfl) (fun k hk=>by cases hk;kernel_rfl) (by kernel_rfl) (T8 os _))) ?_
 intro W base args ds gs before hval hW _ hc _ hL _ _
 exact contract H enc W base args ds gs before hval hW (hc _ rfl) hL
theorem Qn:Rows.WrittenUptoSaid:=
 OpenClaim.holds_of_cond 4 Tryz.f4 rfl rfl rfl rfl rfl rfl rfl ⟨rfl,rfl,rfl,rfl,rfl⟩ rfl rfl rfl rfl rfl (by kernel_rfl) func4 (by kernel_rfl)
  (of_decide_eq_true (by kernel_rfl)) (by unfold Func.isWrapper;first|(rw[au (by decide+kernel)];kernel_rfl)|(rw[ag (by decide+kernel)];exact⟨rfl,rfl⟩))
  (fun os started H enc _ F=>by rw[OpenClaim.pre_eq_preRow];exact Hu os started H enc F)
theorem plain(f:FuncId)(fn:Func)(hf:Tryz.pinned.checked.prog.funcNamed "unmark/unmarklaw.Written" =some f)(hfn:Tryz.pinned.checked.prog.funcs[f]? =some fn):
  true=Tryz.pinned.checked.prog.looks []∧∀(j:Nat)t,fn.params[j]? =some t→Tryz.pinned.checked.prog.wantsStandIn t=false:=by
 obtain rfl:f=4:=Option.some.inj ((show prog.funcNamed "unmark/unmarklaw.Written" =some 4 by kernel_rfl).symm.trans hf) |>.symm
 obtain rfl:fn=Tryz.f4:=(Option.some.inj (func4.symm.trans hfn)).symm
 refine⟨by kernel_rfl,fun j t ht=> ?_⟩
 rw[params4]at ht
 have hm:=Array.mem_of_getElem? ht
 simp at hm
 subst hm
 ·exact(show prog.wantsStandIn 26=false by kernel_rfl)
theorem written_card_holds:Rows.WrittenUptoCardSaid:=
 D5 .later _ _ _ _ Qn (by kernel_rfl) writtenUpto_row_tie rfl ⟨rfl,rfl⟩ (by kernel_rfl) (by kernel_rfl) plain (by kernel_rfl)
#print axioms written_card_holds
end Go.Proofs.YtdfmapcnfficlaaGreatDoor.written

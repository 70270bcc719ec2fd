import Derived.Test.YtdfmapcnfficlaaGreatDoorCards
import Derived.Test.YtdfmapcnfficlaaGreatDoorTie
import Derived.Test.YtdfmapcnfficlaaGreatDoorP34
import Derived.Lib.LaidU8
import Derived.PinnedBridge
import Derived.LaidLaws
import Derived.ProofKit
import Derived.OpenShut
import Derived.Carry
import Derived.Lay
import Derived.SevenTiedAt
import Derived.Deep.DeepHandedRow
import Derived.ChangeSlices
import Derived.ChangeMaps5
set_option linter.all false
set_option maxRecDepth 100000
namespace Go.Proofs.YtdfmapcnfficlaaGreatDoor
open Go.Proofs.Tryz
open Go Go.RowKit Go.Lib
section
variable{H:Type}{enc:TypeId×Value→H}{P:Program}{w:World}{base:Nat}{sp:Nat→Bool}{held:Bool}
theorem Qk{fuel:Nat}{t:TypeId}{f0 f1:Field}{cs:List Value}{x y:List UInt8}{p:List MemPlace}(ht:P.underlying t=some (.struct #[f0,f1]))
  (h0:P.underlying f0.type=some .string∧f0.offset=0∧P.cellsOf f0.type=1) (h1:P.underlying f1.type=some .string∧f1.offset=1∧P.cellsOf f1.type=1) (hct:P.cellsOf t=2)
  (h:DataW.trod enc P w base sp held fuel t cs=some (.agg [.lit (.string x),.lit (.string y)],p)):cs=[.string ⟨x.toArray⟩,.string ⟨y.toArray⟩]:=by
 obtain⟨xs,n,rfl,hx,hl,hxl,hall⟩:=DataW.trod_struct ht h
 have hxs:xs.map (·.1)=[.lit (.string x),.lit (.string y)]:=by
  have:=congrArg Prod.fst hx
  simpa using this.symm
 match xs,hxs with
 |[a,b],hxs=>
  simp only[List.map_cons,List.map_nil,List.cons.injEq,and_true]at hxs
  have k0:=hall 0 f0 rfl
  have k1:=hall 1 f1 rfl
  rw[h0.2.1,h0.2.2]at k0
  rw[h1.2.1,h1.2.2]at k1
  obtain⟨s0,c0,e0,_⟩:=DataW.trod_string h0.1 (k0.trans rfl)
  obtain⟨s1,c1,e1,_⟩:=DataW.trod_string h1.1 (k1.trans rfl)
  rw[hct]at hl
  match cs,hl with
  |[u,v],_=>
   simp only[List.drop_zero,List.take_succ_cons,List.take_zero,List.cons.injEq,and_true]at c0
   simp only[List.drop_succ_cons,List.drop_zero,List.take_succ_cons,List.take_zero,List.cons.injEq,and_true]at c1
   subst c0 c1
   have d0:DataW.lit (.string s0.data.toList)=(DataW.lit (.string x):DataW H):=by rw[←hxs.1,e0]
   have d1:DataW.lit (.string s1.data.toList)=(DataW.lit (.string y):DataW H):=by rw[←hxs.2,e1]
   injection d0 with d0
   injection d0 with d0
   injection d1 with d1
   injection d1 with d1
   subst d0 d1
   simp
end
theorem zoc:prog.globalNamed "unicode/utf8.first" =some 2:=by kernel_rfl
theorem zk6:prog.globalNamed "unicode/utf8.acceptRanges" =some 3:=by kernel_rfl
theorem zod:prog.globalNamed "unmark/unmark.names" =some 5:=by kernel_rfl
theorem zsp:prog.globalNamed "unmark/unmark.fromWindows" =some 8:=by kernel_rfl
theorem zoe:(prog.globals[2]?).map (·.type)=some 162:=by kernel_rfl
theorem zk7:(prog.globals[3]?).map (·.type)=some 165:=by kernel_rfl
theorem zof:(prog.globals[5]?).map (·.type)=some 223:=by kernel_rfl
theorem zsq:(prog.globals[8]?).map (·.type)=some 232:=by kernel_rfl
theorem zk8{w:World}(h3:VarReads prog w "unicode/utf8.first" Pinned.utf8First)(h4:VarReads prog w "unicode/utf8.acceptRanges" Rows.laid_unicode_utf8_acceptRanges):Utf8Tabs 2 3 w:=by
 refine⟨fun c hc=> ?_,fun i hi=> ?_⟩
 ·obtain⟨g,t,cs,fuel,p,hg,hty,hvar,hd⟩:=h3
  obtain rfl:=Option.some.inj (zoc.symm.trans hg)
  obtain rfl:=Option.some.inj (zoe.symm.trans hty)
  rw[Pinned.utf8First_eq]at hd
  have hcs:=cells_of_tab underlying162 underlying5 (by kernel_rfl) (by kernel_rfl) hd
  rw[World.var?_cell hg hvar c,←Array.getElem?_toList,hcs]
  simp[firstTab,hc]
 ·obtain⟨g,t,cs,fuel,p,hg,hty,hvar,hd⟩:=h4
  obtain rfl:=Option.some.inj (zk6.symm.trans hg)
  obtain rfl:=Option.some.inj (zk7.symm.trans hty)
  have hda:Rows.laid_unicode_utf8_acceptRanges=acceptData:=by kernel_rfl
  rw[hda]at hd
  obtain⟨fuel',d,q,hdi,he⟩:=array_elem underlying165 hd i hi
  simp only[List.getElem?_map,List.getElem?_range hi,Option.map_some,Option.some.injEq]at hdi
  subst hdi
  have hc2:prog.cellsOf 164=2:=by kernel_rfl
  rw[hc2]at he
  have hcs:=ints_of_struct underlying164 (fun j f hj=>by
   match j,hj with
   |0,hj=>simp at hj;subst hj;exact⟨underlying5,rfl,by kernel_rfl⟩
   |1,hj=>simp at hj;subst hj;exact⟨underlying5,rfl,by kernel_rfl⟩
   |j+2,hj=>simp at hj) (by rw[hc2];rfl) he
  have e0:=congrArg (·[0]?) hcs
  have e1:=congrArg (·[1]?) hcs
  simp only[List.getElem?_take,List.getElem?_drop]at e0 e1
  constructor
  ·rw[World.var?_cell hg hvar (2*i),←Array.getElem?_toList]
   simpa[Nat.mul_comm]using e0
  ·rw[World.var?_cell hg hvar (2*i+1),←Array.getElem?_toList]
   simpa[Nat.mul_comm]using e1
theorem zjk{w:World}(h:VarReads prog w "unmark/unmark.fromWindows" Rows.laid_unmark_unmark_fromWindows)(j:Nat)(v:Int)(hv:yo[j]? =some v):w.cell? ⟨8,j,none⟩=some (.int .i32 v):=by
 obtain⟨g,t,cs,fuel,p,hg,hty,hvar,hd⟩:=h
 obtain rfl:=Option.some.inj (zsp.symm.trans hg)
 obtain rfl:=Option.some.inj (zsq.symm.trans hty)
 have hda:Rows.laid_unmark_unmark_fromWindows=tabData (H:=Unit) .i32 yo:=by kernel_rfl
 rw[hda]at hd
 have hcs:=cells_of_tab underlying232 underlying21 (by kernel_rfl) (by kernel_rfl) hd
 rw[World.var?_cell hg hvar j,←Array.getElem?_toList,hcs]
 simp[hv]
theorem zgb:Rows.laid_unmark_unmark_names (H:=Unit)= .agg (om.map fun n=> .agg [.lit (.string n.1),.lit (.string n.2)]):=by kernel_rfl
theorem zjl:∀(l:List (Str×Str))(cs:List Value),cs.length=2*l.length→(∀i n,l[i]? =some n→(cs.drop (i*2)).take 2=[Value.string ⟨n.1.toArray⟩,Value.string ⟨n.2.toArray⟩])→cs=l.flatMap fun n=>[Value.string ⟨n.1.toArray⟩,Value.string ⟨n.2.toArray⟩]
 |[],cs,hl,_=>by
  have:cs=[]:=List.length_eq_zero_iff.1 (by simpa using hl)
  simp[this]
 |n::l,cs,hl,h=>by
  match cs,hl with
  |[],hl=>simp at hl
  |[a],hl=>simp at hl;omega
  |a::b::cs,hl=>
   have h0:=h 0 n rfl
   simp at h0
   have ih:=zjl l cs (by simp at hl;omega) (fun i m hm=>by
    have:=h (i+1) m (by simpa using hm)
    rw[show(i+1)*2=i*2+1+1 by omega]at this
    simpa only[List.drop_succ_cons]using this)
   rw[ih,h0.1,h0.2]
   simp[List.flatMap_cons]
theorem Fq{w:World}(h:VarReads prog w "unmark/unmark.names" Rows.laid_unmark_unmark_names):∃t fr,w.heap[5]? =some (.cells un t fr):=by
 obtain⟨g,t,cs,fuel,p,hg,hty,hvar,hd⟩:=h
 obtain rfl:=Option.some.inj (zod.symm.trans hg)
 obtain rfl:=Option.some.inj (zof.symm.trans hty)
 rw[zgb]at hd
 have hc2:prog.cellsOf 198=2:=by kernel_rfl
 have hlen:cs.toList.length=42:=Ql underlying223 (by kernel_rfl) hd
 have hcs:cs.toList=om.flatMap fun n=>[Value.string ⟨n.1.toArray⟩,Value.string ⟨n.2.toArray⟩]:=by
  refine zjl om cs.toList hlen fun i n hn=> ?_
  have hi:i<21:=(cd.1 hn).1
  obtain⟨fuel',d,q,hdi,he⟩:=array_elem underlying223 hd i hi
  rw[hc2]at he
  have hd':d= .agg [.lit (.string n.1),.lit (.string n.2)]:=by
   rw[List.getElem?_map,hn]at hdi
   exact(Option.some.inj hdi).symm
  subst hd'
  exact Qk underlying198 ⟨underlying9,rfl,by kernel_rfl⟩ ⟨underlying9,rfl,by kernel_rfl⟩ hc2 he
 have hh:∃t fr,w.heap[5]? =some (.cells cs t fr):=by
  simp only[World.var?,hg,Option.bind_some]at hvar
  split at hvar
  ·rename_i c t fr he
   injection hvar with hvar
   subst hvar
   exact⟨t,fr,he⟩
  ·cases hvar
 obtain⟨t,fr,he⟩:=hh
 refine⟨t,fr,he.trans ?_⟩
 have:cs=un:=by
  apply Array.ext'
  rw[hcs]
  rfl
 rw[this]
 where
 Ql {P:Program} {w:World} {base:Nat} {sp:Nat→Bool} {held:Bool} {enc:TypeId×Value→Unit} {fuel:Nat} {t e:TypeId} {n m:Nat} {cs:List Value} {ds:List (DataW Unit)} {p:List MemPlace} (ht:P.underlying t=some (.array n e)) (hm:P.cellsOf t=m)
   (h:DataW.trod enc P w base sp held fuel t cs=some (.agg ds,p)):cs.length=m:=by
  cases fuel with
  |zero=>simp[DataW.trod]at h
  |succ fuel=>
   simp only[DataW.trod,ht]at h
   split at h
   ·rename_i hl
    rw[←hm]
    simpa using hl
   ·cases h
theorem base_of{w:World}(h1:VarReads prog w "unicode/utf8.first" Pinned.utf8First)(h2:VarReads prog w "unicode/utf8.acceptRanges" Rows.laid_unicode_utf8_acceptRanges)
  (h3:VarReads prog w "unmark/unmark.names" Rows.laid_unmark_unmark_names) (h4:VarReads prog w "unmark/unmark.fromWindows" Rows.laid_unmark_unmark_fromWindows) (hs:8<w.heap.size):Base w (fun _=>False):=by
 refine⟨⟨Fq h3,zk8 h1 h2,zjk h4⟩,fun g hg=>⟨id,?_⟩⟩
 simp at hg
 omega
end Go.Proofs.YtdfmapcnfficlaaGreatDoor
namespace Go.Proofs.YtdfmapcnfficlaaGreatDoor
open Go.Proofs.Tryz
open Go Go.RowKit Go.Lib Go.ChangeShapes Go.WideShapes
theorem Tryz.own:ownKnob prog.godebug=none:=by kernel_rfl
theorem laidOut:laidOutB prog=true:=by kernel_rfl
theorem More.below{W W':World}(h:More W W'):Below W.heap.size W W':=⟨h.os,h.tape,h.output,h.size,h.block⟩
theorem D5(Lk:Looks){p:Pinned}{s:OpenSpec}{c:OpenClaim}(kinds:List LaidKind)(tests:Bool)(har:Bool×String)(lk:Bool)
  (hc:c.holds p s) (hw:c.wfByText s=true) (htie:c.laidByTextAt Lk p kinds tests)
  (hst:c.start= .entering) (hnb:c.noBlocks=false∧c.again=false) (hm:p.checked.prog.mainIs=some (har.1,har.2.toList)) (hn:(!har.1&&har.2.isEmpty&& !lk)=false)
  (hl:∀f fn,p.checked.prog.funcNamed c.func=some f→p.checked.prog.funcs[f]? =some fn→lk=p.checked.prog.looks []∧∀(j:Nat)t,fn.params[j]? =some t→p.checked.prog.wantsStandIn t=false)
  (hg:true=c.goesBy p.checked.prog):
  Claim7.holds p (.plain s) {stood:={row:=c,standIns:=[],harness:=har,looks:=lk},kinds:=[],alts:=[],goes:=true,laidByText:=true,laidKinds:=kinds,laidTests:=tests,laidLooks:=Lk}:=by
 have h6:Claim7.isSixth {stood:={row:=c,standIns:=[],harness:=har,looks:=lk},kinds:=[]}=false:=by simpa[Claim7.isSixth]using hn
 have h7:=Claim7.tied_new_at Lk kinds tests (Claim7.new_of_sixth hc har lk hst hnb hm h6 hl) hw
 refine⟨?_,(fun D hD=>by cases hD),htie,(fun h=>by cases h),hg⟩
 exact h7
theorem Lj{H:Type}{enc:TypeId×Value→H}{C:Checked}{os:Os}{f:FuncId}{fn:Func}{s:OpenSpec}{conds:List PathCond}{apart:Bool}{laid:List (String×DataW Unit)}(modest:Bool)(w0:World)(args:Array Value)(hos:w0.os=os)
  (hsh:(w0.forCall (fun _ _=>0) ⟨#[],args,[]⟩).Shaped C.prog)
  (hok:Input.okWideB C.prog (w0.forCall (fun _ _=>0) ⟨#[],args,[]⟩) f ⟨#[],args,[]⟩=true)
  (hrow:s.preRow enc C.prog fn conds apart laid (w0.forCall (fun _ _=>0) ⟨#[],args,[]⟩).memory args):
  ∃(w:World)(tape:Tape)(i:Input),w.os=os∧(w.forCall tape i).Shaped C.prog∧i.vars=[]∧Input.okWide C.prog (w.forCall tape i) .any w.heap.size f i∧
   s.preRow enc C.prog fn conds apart laid (w.forCall tape i).memory i.args∧({modest:=modest}:Assume).holds C.prog (lone (Frame.enter C.prog f i.args .normal) [] (w.forCall tape i)):=
 ⟨w0,fun _ _=>0,⟨#[],args,[]⟩,hos,hsh,(Input.okWide_of_okWideB (base:=0) hok).1,(Input.okWide_of_okWideB hok).2,hrow,by
  simp only[Assume.holds]
  exact⟨by simp,by simp,fun _=>Modest.zero,by simp,by simp⟩⟩
theorem zdz{w:World}{g j:Nat}{v:Value}(h:w.cell? ⟨g,j,none⟩=some v):g<w.heap.size:=by
 cases hh:w.heap[g]? with
 |none=>simp[World.cell?,hh]at h
 |some o=>exact(co.1 hh).1
end Go.Proofs.YtdfmapcnfficlaaGreatDoor
namespace Go.Proofs.YtdfmapcnfficlaaGreatDoor
open Go Go.RowKit
def ex1:List Tok:=[{kind:=1,name:=[112],attrs:=[[99,108,97,115,115],[97],[98],[99]]},{kind:=5,name:=[115,101,109,105,99,111,108,111,110],place:=22},{kind:=0,text:=[120,32,60,32,121]},{kind:=2,name:=[112]},{kind:=6}]
def ex2:List Tok:=[{kind:=1,name:=[116,105,116,108,101]},{kind:=0,text:=[60,98,62,38]},{kind:=2,name:=[116,105,116,108,101]},{kind:=6}]
def ex3:List Tok:=[{kind:=4,name:=[104,116,109,108]},{kind:=3,text:=[97,45,45,98]},{kind:=6}]
def ex4:List Tok:=[{kind:=5,name:=[97,98,114,117,112,116],place:=4},{kind:=3},{kind:=6}]
def ex5:List Tok:=[{kind:=5,name:=[101,110,100,45,105,110,45,116,97,103],place:=2},{kind:=0,text:=[97,60]},{kind:=6}]
def in1:Str:=[60,80,32,67,108,97,115,115,61,97,32,98,61,39,99,39,62,120,32,38,108,116,32,121,60,47,112,62]
def in2:Str:=[60,116,105,116,108,101,62,60,98,62,38,97,109,112,59,60,47,84,73,84,76,69,32,62]
def in3:Str:=[60,33,100,111,99,116,121,112,101,32,72,84,77,76,62,60,33,45,45,97,45,45,98,45,45,62]
def in4:Str:=[60,33,45,45,62]
def in5:Str:=[97,60]
theorem zgc{w w':World}(h:More w w'):Kept (fun _=>False) w w':=⟨h.os,h.tape,h.output,h.size,fun k hk _=>h.block k hk⟩
theorem Base.more{w w':World}(B:Base w (fun _=>False))(h:More w w'):Base w' (fun _=>False):=
 ⟨B.at (zgc h),fun g hg=>⟨id,ei (B.out g hg).2 h.size⟩⟩
def zjm(w:World)(v:Value)(l:List Int):Prop:=∃a cap,v= .slice a l.length cap∧(l≠[]→∃g o,a=some ⟨g,o,none⟩∧g<w.heap.size∧∀(j:Nat)(z:Int),l[j]? =some z→w.cell? ⟨g,o+j,none⟩=some (.int .i64 z))∧l.length≤cap∧∀z∈l,-9223372036854775808≤z∧z≤9223372036854775807
theorem zjm.more{w w':World}{v:Value}{l:List Int}(h:zjm w v l)(hm:More w w'):zjm w' v l:=by
 obtain⟨a,cap,rfl,h1,h2,h3⟩:=h
 refine⟨a,cap,rfl,fun hl=> ?_,h2,h3⟩
 obtain⟨g,o,e,hg,hc⟩:=h1 hl
 exact⟨g,o,e,by have:=hm.size;omega,fun j z hz=>by rw[fk (w:=w) (hm.block g hg)];exact hc j z hz⟩
section
variable{w0:World}{aj:Nat→Prop}{b:Nat}{s:TS}{ex:List Item}{w:World}
def Out(q:Sl)(l:List Tok)(ta:List Sl):List Item:=rq q l ta::cw l ta
end
end Go.Proofs.YtdfmapcnfficlaaGreatDoor
namespace Go.Proofs.YtdfmapcnfficlaaGreatDoor
open Go.Proofs.Tryz
open Go Go.RowKit Go.Lib Go.ChangeShapes Go.WideShapes
theorem zjn{H:Type}(d:DataW H):1≤Rows.uptoBulk d:=by
 cases d with
 |lit l=>cases l<;>simp[Rows.uptoBulk]
 |nil=>simp[Rows.uptoBulk]
 |ptr d=>simp[Rows.uptoBulk]
 |slice elems spare=>simp[Rows.uptoBulk]
 |agg parts=>simp[Rows.uptoBulk]
 |iface t d=>simp[Rows.uptoBulk]
 |map entries=>simp[Rows.uptoBulk]
 |held h=>simp[Rows.uptoBulk]
theorem zaf{H:Type}(l:Str):Rows.uptoBulk (DataW.lit (H:=H) (.string l))=l.length+1:=by simp[Rows.uptoBulk]
theorem Qm{H:Type}{l:List (DataW H)}(hk:Rows.uptoSmall H l=true):Rows.uptoBulkAll l≤1048576:=of_decide_eq_true hk
section
variable{H:Type}{enc:TypeId×Value→H}{W:World}
theorem zjo{b0:Nat}{v:Value}{d:DataW H}{p:List MemPlace}(hv:Value.okWide prog W .any b0 9 v)(h:DataW.Trod enc prog W 0 (fun _=>true) true 9 v d p):∃x:Str,v= .string ⟨x.toArray⟩∧x.length+1=Rows.uptoBulk d:=by
 obtain⟨s,rfl,rfl,rfl,hs⟩:=ChangeMaps.open_string underlying9 hv h
 exact⟨s.data.toList,by simp,(zaf _).symm⟩
end
theorem As{P:Program}{n:String}{d:DataW Unit}{l:List (String×DataW Unit)}{w:World}(h:laidMet P ((n,d)::l) w):laidMet P l w:=by
 obtain⟨ps,⟨g,t,cs,f,p,q,h1,h2,h3,h4,h5,e⟩,hnd,hrows⟩:=h
 subst e
 exact⟨q,h5,(List.nodup_append.1 hnd).2.1,fun b o hb=>hrows b o (by simp[hb])⟩
def Bu:List (String×DataW Unit):=[("math/bits.deBruijn32tab",Rows.laid_math_bits_deBruijn32tab),("math/bits.deBruijn64tab",Rows.laid_math_bits_deBruijn64tab),("internal/strconv.uint64pow10",Rows.laid_internal_strconv_uint64pow10),("unicode/utf8.acceptRanges",Rows.laid_unicode_utf8_acceptRanges),("unmark/unmark.fromWindows",Rows.laid_unmark_unmark_fromWindows),("unmark/unmark.names",Rows.laid_unmark_unmark_names),("unmark/unmark.ErrClosed",Rows.laid_unmark_unmark_ErrClosed),("unmark/unmark.ErrLimit",Rows.laid_unmark_unmark_ErrLimit),("unicode/utf8.first",Rows.laid_unicode_utf8_first)]
theorem zk9:prog.globalNamed "unmark/unmark.ErrClosed" =some 1:=by kernel_rfl
theorem zog:prog.globalNamed "unmark/unmark.ErrLimit" =some 0:=by kernel_rfl
theorem zla:(prog.globals[1]?).map (·.type)=some 38:=by kernel_rfl
theorem zoh:(prog.globals[0]?).map (·.type)=some 38:=by kernel_rfl
theorem cellsE:prog.cellsOf 247=1:=by kernel_rfl
theorem cellsS:prog.cellsOf 9=1:=by kernel_rfl
theorem star: "*" ++ "errors.errorString" = "*errors.errorString" :=by decide
theorem zqr(u:TypeId)(h:prog.typeName? 3 u=some "*errors.errorString"):u=233:=
 typeName_ptr_named (nm:= "errors.errorString") (by rw[star];kernel_rfl) (by kernel_rfl) (by decide) u (by rw[star];exact h)
theorem zlb{W:World}{l:List (String×DataW Unit)}(h:laidMet prog (("unmark/unmark.ErrClosed",Rows.laid_unmark_unmark_ErrClosed)::("unmark/unmark.ErrLimit",Rows.laid_unmark_unmark_ErrLimit)::l) W):∃ac al,Ee W ac al:=by
 obtain⟨ps,⟨g0,t0,cs0,f0,p0,q0,hg0,ht0,hv0,hd0,⟨g1,t1,cs1,f1,p1,q1,hg1,ht1,hv1,hd1,hq1,e1⟩,e0⟩,hnd,hrows⟩:=h
 obtain rfl:=Option.some.inj (zk9.symm.trans hg0)
 obtain rfl:=Option.some.inj (zog.symm.trans hg1)
 obtain rfl:=Option.some.inj (zla.symm.trans ht0)
 obtain rfl:=Option.some.inj (zoh.symm.trans ht1)
 subst e1
 subst e0
 obtain⟨l0⟩:=cs0
 obtain⟨l1⟩:=cs1
 have ok0:∀u v,l0=[.iface u v]→Value.okWide prog W .any 0 u v:=fun u v e=>by
  subst e
  exact(hrows 1 0 (by simp[MemPlace.row])).2 u v (by simpa using World.var?_cell hg0 hv0 0)
 have ok1:∀u v,l1=[.iface u v]→Value.okWide prog W .any 0 u v:=fun u v e=>by
  subst e
  exact(hrows 0 0 (by simp[MemPlace.row])).2 u v (by simpa using World.var?_cell hg1 hv1 0)
 obtain⟨a0,s0,rfl,hc0,hs0,hz0,rfl⟩:=errorString_of_trod underlying38 zqr underlying233 underlying247 rfl rfl underlying9 cellsE cellsS hd0 ok0
 obtain⟨a1,s1,rfl,hc1,hs1,hz1,rfl⟩:=errorString_of_trod underlying38 zqr underlying233 underlying247 rfl rfl underlying9 cellsE cellsS hd1 ok1
 obtain⟨c0,t0,hb0⟩:=(hrows a0.block a0.off (by simp[MemPlace.row])).1
 obtain⟨c1,t1,hb1⟩:=(hrows a1.block a1.off (by simp[MemPlace.row])).1
 refine⟨a0,a1,by simpa using World.var?_cell hg0 hv0 0,by simpa using World.var?_cell hg1 hv1 0,?_,⟨c0,t0,hb0⟩,⟨c1,t1,hb1⟩,?_,?_⟩
 ·rintro rfl
  simp[MemPlace.row]at hnd
 ·exact⟨s0.data.toList,by rw[hs0];decide,by rw[hc0]⟩
 ·exact⟨s1.data.toList,by rw[hs1];decide,by rw[hc1]⟩
theorem zsr:(prog.globals[4]?).map (·.type)=some 204:=by kernel_rfl
theorem zoi{w:World}(h:VarReads prog w "internal/strconv.uint64pow10" Rows.laid_internal_strconv_uint64pow10):Pow w:=by
 obtain⟨g,t,cs,fuel,p,hg,hty,hvar,hd⟩:=h
 obtain rfl:=Option.some.inj (zp7.symm.trans hg)
 obtain rfl:=Option.some.inj (zsr.symm.trans hty)
 have hda:Rows.laid_internal_strconv_uint64pow10=tabData (H:=Unit) .u64 pow10Tab:=by kernel_rfl
 rw[hda]at hd
 have hcs:=cells_of_tab underlying204 underlying12 (by kernel_rfl) (by kernel_rfl) hd
 unfold Pow TabIs
 rw[hvar]
 congr 1
 apply Array.ext'
 rw[hcs]
theorem Jg{W:World}(h:laidMetH prog Bu W):Base W (fun _=>False)∧(∃ac al,Ee W ac al)∧Pow W:=by
 rw[MakeChecks.laidMetH_plain _ _ _ (by kernel_rfl)]at h
 have h4:=laidMet.reads h (n:= "unmark/unmark.fromWindows") (d:=Rows.laid_unmark_unmark_fromWindows) (by simp[Bu])
 refine⟨base_of (laidMet.reads h (n:= "unicode/utf8.first") (d:=Rows.laid_unicode_utf8_first) (by simp[Bu])) (laidMet.reads h (n:= "unicode/utf8.acceptRanges") (d:=Rows.laid_unicode_utf8_acceptRanges) (by simp[Bu])) (laidMet.reads h (n:= "unmark/unmark.names") (d:=Rows.laid_unmark_unmark_names) (by simp[Bu])) h4 (zdz (zjk h4 0 8364 rfl)),?_,?_⟩
 ·exact zlb (As (As (As (As (As (As h))))))
 ·exact zoi (laidMet.reads h (n:= "internal/strconv.uint64pow10") (d:=Rows.laid_internal_strconv_uint64pow10) (by simp[Bu]))
theorem T8(os:Os)(args:Array Value):laidMetH prog Bu ((World.laidAll prog os Bu).forCall (fun _ _=>0) ⟨#[],args,[]⟩).memory:=by
 rw[MakeChecks.laidMetH_plain _ _ _ (by kernel_rfl)]
 exact laidMet_laidAll _ (by kernel_rfl) (by kernel_rfl)
section
variable{H:Type}{enc:TypeId×Value→H}{W:World}
end
end Go.Proofs.YtdfmapcnfficlaaGreatDoor

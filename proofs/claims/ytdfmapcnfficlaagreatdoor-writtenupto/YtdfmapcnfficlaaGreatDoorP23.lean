import Derived.Test.YtdfmapcnfficlaaGreatDoorP22
import Derived.Test.YtdfmapcnfficlaaGreatDoorProg
import Derived.Shelf.Strings.Builder1
import Derived.Shelf.Strings.Builder2
import Derived.Shelf.Small.Utf8
import Derived.Shelf.Strings.BuilderF
import Derived.Shelf.Strings.BuilderK
import Derived.Shelf.Strings.BuilderRune
import Derived.Shelf.Strconv.Itoa0
import Derived.Shelf.Strconv.Itoa1
import Derived.Shelf.LaysM
import Derived.Shelf.Strconv.Itoa2
import Derived.Shelf.Strconv.Itoa3
import Derived.Shelf.Strconv.Clone
import Derived.Shelf.Unicode.DecodeAny
import Derived.Shelf.Strings.MapAny
set_option linter.all false
set_option maxHeartbeats 4000000
set_option maxRecDepth 1000000
namespace Go.Proofs.YtdfmapcnfficlaaGreatDoor
open Go.Proofs.Tryz
open Go Go.RowKit
def ue(x p:Str):Bool:=p.isPrefixOf x
theorem z8(x:Str)(n:Nat):(⟨x.toArray⟩:ByteArray).extract 0 n=⟨(x.take n).toArray⟩:=by
 apply ByteArray.ext
 simp
theorem zba(x p:Str):ue x p=(decide (p.length≤x.length)&&decide (x.take p.length=p)):=by
 unfold ue
 rw[Bool.eq_iff_iff]
 simp only[List.isPrefixOf_iff_prefix,Bool.and_eq_true,decide_eq_true_eq]
 constructor
 ·intro h
  exact⟨h.length_le,(List.prefix_iff_eq_take.1 h).symm⟩
 ·rintro⟨_,h2⟩
  rw[←h2]
  exact List.take_prefix _ _
theorem He(x p:Str)(w:World)(hx:x.length≤lim)(hp:p.length≤lim):Calls prog 258 #[.string ⟨x.toArray⟩,.string ⟨p.toArray⟩] w fun e w'=>e= .returned (.bool (ue x p))∧w'=w:=by
 have h1:(⟨x.toArray⟩:ByteArray).size=x.length:=by simp[ByteArray.size]
 have h2:(⟨p.toArray⟩:ByteArray).size=p.length:=by simp[ByteArray.size]
 unfold lim at hx hp
 rw[zba]
 by_cases hl:p.length≤x.length
 ·have hsl:∀W,(Instr.slice 9 (.string ⟨x.toArray⟩) none (some (.int .i64 (p.length:Int))) none).run prog W= .ok (.string ⟨(x.take p.length).toArray⟩) W:=fun W=>by
   rw[run_slice_string_to_if W 9 ⟨x.toArray⟩ .i64 p.length underlying9,au ⟨by omega,by omega⟩,Int.toNat_natCast,z8]
  go_enter func258,ntmps258
  go_wp2
  go_ret
  exact⟨jt (by rw[gy hl,Bool.true_and,Bool.eq_iff_iff];simp),rfl⟩
 ·have hl':x.length<p.length:=by omega
  go_enter func258,ntmps258
  go_wp2
  go_ret
  exact⟨jt (by simp[hl]),rfl⟩
theorem E3(x p:Str)(w:World)(hx:x.length≤lim)(hp:p.length≤lim):Calls prog 249 #[.string ⟨x.toArray⟩,.string ⟨p.toArray⟩] w fun e w'=>e= .returned (.bool (ue x p))∧w'=w:=by
 have H:=hide (He x p w hx hp)
 clear hx hp
 go_enter func249,ntmps249
 go_wp2_with(go_at_call 258;refine(ae H).mono ?_;rintro e w1⟨rfl,rfl⟩)
 go_ret
 exact⟨rfl,rfl⟩
def partOf(x y:Str):Bool:= !(x==y)&&ue y x
theorem za(x y:Str)(w:World)(hx:x.length≤lim)(hy:y.length≤lim):Calls prog 241 #[.string ⟨x.toArray⟩,.string ⟨y.toArray⟩] w fun e w'=>e= .returned (.bool (partOf x y))∧w'=w:=by
 have H:=hide (E3 y x w hy hx)
 clear hx hy
 unfold partOf
 cases hxy:x==y
 ·go_enter func241,ntmps241
  go_wp2_with(go_at_call 249;refine(ae H).mono ?_;rintro e w1⟨rfl,rfl⟩)
  go_ret
  exact⟨rfl,rfl⟩
 ·go_enter func241,ntmps241
  go_wp2
  go_ret
  exact⟨rfl,rfl⟩
def oa(come:Str):List (Str×Str)→Str×Str→(Str×Str)×Bool
 |[],l=>(l,false)
 |n::r,l=>if partOf come n.1=true then(l,true)else if ue come n.1=false∨n.1.length<l.1.length then oa come r l else oa come r n
def kz(come:Str):(Str×Str)×Bool:=oa come om ([],[])
def Hf(n:Str×Str):Value:= .agg #[.string ⟨n.1.toArray⟩,.string ⟨n.2.toArray⟩]
theorem Xy:∀(l:List (Str×Str))(j:Nat)(n:Str×Str),l[j]? =some n→((l.flatMap fun n=>[Value.string ⟨n.1.toArray⟩,Value.string ⟨n.2.toArray⟩]).drop (j*2)).take 2=[Value.string ⟨n.1.toArray⟩,Value.string ⟨n.2.toArray⟩]
 |[],j,n,h=>by simp at h
 |a::r,0,n,h=>by
  have:a=n:=by simpa using h
  subst this
  simp[List.flatMap_cons]
 |a::r,j+1,n,h=>by
  have h1:=Xy r j n (by simpa using h)
  rw[show(j+1)*2=j*2+1+1 by omega]
  simpa only[List.flatMap_cons,List.cons_append,List.nil_append,List.drop_succ_cons]using h1
theorem zhe:∀(j:Nat)(n:Str×Str),om[j]? =some n→∀W,(Instr.index 223 (.agg un) (.int .i64 j)).run prog W= .ok (Hf n) W:=by
 intro j n h W
 have hj:j<21:=(cd.1 h).1
 have hs:(sizeOf 198).run prog W= .ok 2 W:=by kernel_rfl
 have hg:(isAgg 198).run prog W= .ok true W:=by kernel_rfl
 have hx:un.extract (j*2) (j*2+2)=#[Value.string ⟨n.1.toArray⟩,Value.string ⟨n.2.toArray⟩]:=by
  rw[un,List.extract_toArray,List.extract_eq_drop_take',List.drop_take,show j*2+2-j*2=2 by omega,Xy om j n h]
 simp[Instr.index,asIntOf,run_underlying underlying223,hs,hj,part,hg,hx,Hf]
theorem More.set{w w1:World}(h:More w w1){b:Nat}(hb:w.heap.size≤b)(o:Nat)(v:Value):More w (w1.setCell ⟨b,o,none⟩ v):=
 ⟨h.os,h.tape,h.output,by simpa[World.setCell]using h.size,fun k hk=>(kj v (by omega)).trans (h.block k hk)⟩
theorem results_cell_tmp{P:Program}{fn:Func}{p q:Tmp}{ty:TypeId}(h:fn.results=#[.cell p ty,.tmp q])(tmps:Array Value)(w:World)(g:Nat)(t:TypeId)(cs:Array Value)(fr:Nat×Nat)(d:TypeDesc)
  (hp:tmps.getD p undef= .pointer (some ⟨g,0,none⟩)) (hg:w.heap[g]? =some (.cells cs t fr))
  (hu:P.underlying ty=some d) (hd:(match d with| .struct _| .array _ _=>true|_=>false)=true) (hi:(P.info? ty).map (·.size)=some cs.size):
  (results fn tmps).run P w= .ok (.tuple #[.agg cs,tmps.getD q undef]) w:=by
 have hp':tmps[p]?.getD undef= .pointer (some ⟨g,0,none⟩):=by simpa using hp
 simp[results,h,hp',asAddr,run_loadVar_row w g t ty cs fr d hg hu hd hi]
theorem Ao:∀n∈om,n.1.length≤7:=by decide
theorem Rf(come:Str)(w:World)(L:Laid w)(hc:come.length≤64):Calls prog 213 #[.string ⟨come.toArray⟩] w fun e w'=>e= .returned (.tuple #[Hf (kz come).1,.bool (kz come).2])∧More w w':=by
 obtain⟨t,fr,hnm⟩:=L.names
 have hsz:(prog.info? 223).map (·.size)=some un.size:=by kernel_rfl
 have hm0:=(More.refl w).alloc (.cells #[.string ⟨#[]⟩,.string ⟨#[]⟩] 198)
 have zll:=(hm0.block _ (co.1 hnm).1).trans hnm
 have hIX:=hide zhe
 generalize un=A at*
 clear hnm L
 go_enter func213,ntmps213
 go_wp2
 go_step3
 go_wp2
 go_step3
 go_wp2_with(refine wpList_load_row rfl 223 (.global 5) rfl 5 rfl t A fr _ zll underlying223 rfl hsz ?_)
 clear zll hsz
 go_loopg [3,7] 21 (fun gf s3 s7 wx=>∃(k:Nat)(l:Str×Str),k+gf=21∧s3= .bool false∧s7= .int .i64 k∧wx.heap[w.heap.size]? =some (.cells #[.string ⟨l.1.toArray⟩,.string ⟨l.2.toArray⟩] 198 (0,0))∧More w wx∧oa come (om.drop k) l=kz come)
 case atStart=>exact⟨0,([],[]),by omega,rfl,rfl,heap_alloc_new _ _,hm0,rfl⟩
 case round=>
  obtain⟨k,l,hkg,rfl,rfl,hblk,hM,hfin⟩:=hrel
  have c0:wr.cell? ⟨w.heap.size,0,none⟩=some (.string ⟨l.1.toArray⟩):=bg hblk 0
  have c1:wr.cell? ⟨w.heap.size,1,none⟩=some (.string ⟨l.2.toArray⟩):=bg hblk 1
  have f1:=bn hblk
  have hlt:w.heap.size<wr.heap.size:=(co.1 hblk).1
  by_cases hk:k<21
  ·obtain⟨n,hn⟩:∃n,om[k]? =some n:=⟨_,ig hk⟩
   have hix:=(ae hIX) k n hn
   have hdrop:om.drop k=n::om.drop (k+1):=by
    have:=List.drop_eq_getElem_cons (l:=om) (i:=k) hk
    rw[this]
    congr 1
    exact Option.some.inj ((ig hk).symm.trans hn)
   rw[hdrop,oa]at hfin
   clear hdrop
   unfold Hf at hix
   have hkz:(k:Int)<21:=by omega
   obtain⟨g',rfl⟩:∃g',gk=g'+1:=⟨gk-1,by omega⟩
   have hnl:n.1.length≤7:=Ao n (List.mem_of_getElem? hn)
   have HP:=hide (fun W=>za come n.1 W (by unfold lim;omega) (by unfold lim;omega))
   have HH:=hide (fun W=>E3 come n.1 W (by unfold lim;omega) (by unfold lim;omega))
   have HM:=hide hM
   have HB:=hide hblk
   clear hM hblk hn hm0
   cases hp:partOf come n.1
   ·rw[hp]at HP
    rw[ag (by rw[hp];decide)]at hfin
    cases hh:ue come n.1
    ·rw[hh]at HH
     rw[au (.inl hh)]at hfin
     have HF:=hide hfin
     clear hfin
     go_wp2_with(first
      |(go_at_call 241;refine(ae HP _).mono ?_;rintro e w1⟨rfl,rfl⟩)
      |(go_at_call 249;refine(ae HH _).mono ?_;rintro e w1⟨rfl,rfl⟩))
     go_roundg g'
     case measure=>omega
     case rel=>exact⟨k+1,l,by omega,rfl,by go_num,((More.refl wr).alloc _).block _ hlt |>.trans (ae HB),(ae HM).alloc _,ae HF⟩
    ·rw[hh]at HH
     by_cases hl:n.1.length<l.1.length
     ·rw[au (.inr hl)]at hfin
      have HF:=hide hfin
      clear hfin
      go_wp2_with(first
       |(go_at_call 241;refine(ae HP _).mono ?_;rintro e w1⟨rfl,rfl⟩)
       |(go_at_call 249;refine(ae HH _).mono ?_;rintro e w1⟨rfl,rfl⟩))
      go_roundg g'
      case measure=>omega
      case rel=>exact⟨k+1,l,by omega,rfl,by go_num,((More.refl wr).alloc _).block _ hlt |>.trans (ae HB),(ae HM).alloc _,ae HF⟩
     ·rw[ag (by rw[hh];simpa using hl)]at hfin
      have hl':l.1.length≤n.1.length:=by omega
      have HF:=hide hfin
      clear hfin
      go_wp2_with(first
       |(go_at_call 241;refine(ae HP _).mono ?_;rintro e w1⟨rfl,rfl⟩)
       |(go_at_call 249;refine(ae HH _).mono ?_;rintro e w1⟨rfl,rfl⟩))
      go_roundg g'
      case measure=>omega
      case rel=>exact⟨k+1,n,by omega,rfl,by go_num,(by rw[Below.heap_alloc _ _ _ (by simpa[World.setCell]using hlt),set_self (set_self (ae HB) 0 _) 1 _];rfl),(((ae HM).set (cx _) _ _).set (cx _) _ _).alloc _,ae HF⟩
   ·rw[au hp]at hfin
    rw[hp]at HP
    have HF:=hide hfin
    clear hfin
    go_wp2_with(go_at_call 241;refine(ae HP _).mono ?_;rintro e w1⟨rfl,rfl⟩)
    rw[Exit.noGoto_ret]
    refine ap (results_cell_tmp rfl _ _ w.heap.size 198 #[.string ⟨l.1.toArray⟩,.string ⟨l.2.toArray⟩] (0,0) _ rfl ?_ underlying198 rfl (by kernel_rfl)) rfl ?_
    ·rw[Below.heap_alloc _ _ _ (by simpa[World.setCell]using hlt),set_self (set_self (ae HB) 0 _) 1 _]
     rfl
    ·exact⟨by rw[←ae HF];rfl,((((ae HM).set (cx _) _ _).set (cx _) _ _).alloc _)⟩
  ·have hk':k=21:=by omega
   subst hk'
   have HF:=hide hfin
   have HM:=hide hM
   have HB:=hide hblk
   clear hfin hM hblk hm0
   go_wp2
   rw[Exit.noGoto_ret]
   refine ap (results_cell_tmp rfl _ _ w.heap.size 198 #[.string ⟨l.1.toArray⟩,.string ⟨l.2.toArray⟩] (0,0) _ rfl ?_ underlying198 rfl (by kernel_rfl)) rfl ?_
   ·rw[set_self (set_self (ae HB) 0 _) 1 _]
    rfl
   ·exact⟨by rw[←ae HF];rfl,(((ae HM).set (cx _) _ _).set (cx _) _ _)⟩
end Go.Proofs.YtdfmapcnfficlaaGreatDoor
namespace Go.Proofs
open Go.Shelf
def Tryz.laysM316_ren:Go.Shelf.Ren:=⟨fun|316=>88|n=>n,fun|9=>9|3=>3|4=>4|37=>74|0=>0|127=>166|5=>5|n=>n,fun|n=>n⟩
theorem Tryz.laysM316:Go.Proofs.LaysM.n316 Tryz.prog Tryz.laysM316_ren:={
 mixed:=by kernel_rfl
 f316:=Tryz.func88.trans (congrArg some (by kernel_rfl))
 t0:=Tryz.underlying0
 a0:=Tryz.isAgg0
 z0:=Tryz.sizeOf0
 v0:=Tryz.zeroValue0
 t3:=Tryz.underlying3
 a3:=Tryz.isAgg3
 z3:=Tryz.sizeOf3
 v3:=Tryz.zeroValue3
 t4:=Tryz.underlying4
 a4:=Tryz.isAgg4
 z4:=Tryz.sizeOf4
 v4:=Tryz.zeroValue4
 t9:=Tryz.underlying9
 a9:=Tryz.isAgg9
 z9:=Tryz.sizeOf9
 v9:=Tryz.zeroValue9
 t37:=Tryz.underlying74
 a37:=Tryz.isAgg74
 z37:=Tryz.sizeOf74
 v37:=Tryz.zeroValue74
 t127:=Tryz.underlying166
 a127:=Tryz.isAgg166
 z127:=Tryz.sizeOf166
 v127:=Tryz.zeroValue166
 t5:=Tryz.underlying5
 a5:=Tryz.isAgg5
 z5:=Tryz.sizeOf5
 v5:=Tryz.zeroValue5
 i0:=by kernel_rfl
 i3:=by kernel_rfl
 i4:=by kernel_rfl
 i5:=by kernel_rfl
 i9:=by kernel_rfl
 i37:=by kernel_rfl
 i127:=by kernel_rfl}
open Go.RowKit in
theorem Tryz.stringslite_Clone(s:ByteArray)(w:World)(hlim:s.size≤281474976710656):
  Calls Tryz.prog 88 #[.string s] w fun e w'=>e= .returned (.string s)∧Below w.heap.size w w':=Any.stringslite_Clone Tryz.laysM316 s w hlim
def Tryz.lays260_ren:Go.Shelf.Ren:=⟨fun|260=>105|n=>n,fun|9=>9|21=>21|3=>3|4=>4|5=>5|119=>162|0=>0|46=>126|139=>165|138=>164|n=>n,fun|3=>2|4=>3|n=>n⟩
theorem Tryz.lays260:Go.Proofs.Lays.n260 Tryz.prog Tryz.lays260_ren:={
 mixed:=by kernel_rfl
 f260:=Tryz.func105.trans (congrArg some (by kernel_rfl))
 t0:=Tryz.underlying0
 a0:=Tryz.isAgg0
 z0:=Tryz.sizeOf0
 v0:=Tryz.zeroValue0
 t3:=Tryz.underlying3
 a3:=Tryz.isAgg3
 z3:=Tryz.sizeOf3
 v3:=Tryz.zeroValue3
 t4:=Tryz.underlying4
 a4:=Tryz.isAgg4
 z4:=Tryz.sizeOf4
 v4:=Tryz.zeroValue4
 t5:=Tryz.underlying5
 a5:=Tryz.isAgg5
 z5:=Tryz.sizeOf5
 v5:=Tryz.zeroValue5
 t9:=Tryz.underlying9
 a9:=Tryz.isAgg9
 z9:=Tryz.sizeOf9
 v9:=Tryz.zeroValue9
 t21:=Tryz.underlying21
 a21:=Tryz.isAgg21
 z21:=Tryz.sizeOf21
 v21:=Tryz.zeroValue21
 t46:=Tryz.underlying126
 a46:=Tryz.isAgg126
 z46:=Tryz.sizeOf126
 v46:=Tryz.zeroValue126
 t119:=Tryz.underlying162
 a119:=Tryz.isAgg162
 z119:=Tryz.sizeOf162
 t138:=Tryz.underlying164
 a138:=Tryz.isAgg164
 z138:=Tryz.sizeOf164
 v138:=Tryz.zeroValue164
 t139:=Tryz.underlying165
 a139:=Tryz.isAgg165
 z139:=Tryz.sizeOf165
 v139:=Tryz.zeroValue165
 g3:=by kernel_rfl
 g4:=by kernel_rfl}
open Go.RowKit Go.Lib in
theorem Tryz.utf8_decodeRuneInStringSlow(s:ByteArray)(w:World)(hT:Lib.Utf8Tabs 2 3 w):
  Calls Tryz.prog 105 #[.string s] w fun e w'=>e= .returned (.tuple #[.int .i32 (Lib.decodeGo s).1,.int .i64 (Lib.decodeGo s).2])∧Below w.heap.size w w':=Any.utf8_decodeRuneInStringSlow Tryz.lays260 s w hT
def Tryz.lays197_ren:Go.Shelf.Ren:=⟨fun|197=>86|260=>105|n=>n,fun|9=>9|21=>21|3=>3|4=>4|5=>5|105=>118|119=>162|0=>0|46=>126|139=>165|138=>164|n=>n,fun|3=>2|4=>3|n=>n⟩
theorem Tryz.lays197:Go.Proofs.Lays.n197 Tryz.prog Tryz.lays197_ren:={
 mixed:=by kernel_rfl
 f197:=Tryz.func86.trans (congrArg some (by kernel_rfl))
 f260:=Tryz.func105.trans (congrArg some (by kernel_rfl))
 t0:=Tryz.underlying0
 a0:=Tryz.isAgg0
 z0:=Tryz.sizeOf0
 v0:=Tryz.zeroValue0
 t3:=Tryz.underlying3
 a3:=Tryz.isAgg3
 z3:=Tryz.sizeOf3
 v3:=Tryz.zeroValue3
 t4:=Tryz.underlying4
 a4:=Tryz.isAgg4
 z4:=Tryz.sizeOf4
 v4:=Tryz.zeroValue4
 t5:=Tryz.underlying5
 a5:=Tryz.isAgg5
 z5:=Tryz.sizeOf5
 v5:=Tryz.zeroValue5
 t9:=Tryz.underlying9
 a9:=Tryz.isAgg9
 z9:=Tryz.sizeOf9
 v9:=Tryz.zeroValue9
 t21:=Tryz.underlying21
 a21:=Tryz.isAgg21
 z21:=Tryz.sizeOf21
 v21:=Tryz.zeroValue21
 t46:=Tryz.underlying126
 a46:=Tryz.isAgg126
 z46:=Tryz.sizeOf126
 v46:=Tryz.zeroValue126
 t105:=Tryz.underlying118
 a105:=Tryz.isAgg118
 z105:=Tryz.sizeOf118
 v105:=Tryz.zeroValue118
 t119:=Tryz.underlying162
 a119:=Tryz.isAgg162
 z119:=Tryz.sizeOf162
 t138:=Tryz.underlying164
 a138:=Tryz.isAgg164
 z138:=Tryz.sizeOf164
 v138:=Tryz.zeroValue164
 t139:=Tryz.underlying165
 a139:=Tryz.isAgg165
 z139:=Tryz.sizeOf165
 v139:=Tryz.zeroValue165
 g3:=by kernel_rfl
 g4:=by kernel_rfl}
open Go.RowKit Go.Lib in
theorem Tryz.utf8_DecodeRuneInString(s:ByteArray)(w:World)(hT:Lib.Utf8Tabs 2 3 w):
  Calls Tryz.prog 86 #[.string s] w fun e w'=>e= .returned (.tuple #[.int .i32 (Lib.decodeGo s).1,.int .i64 (Lib.decodeGo s).2])∧Below w.heap.size w w':=Any.utf8_DecodeRuneInString Tryz.lays197 s w hT
def Tryz.lays230_ren:Go.Shelf.Ren:=⟨fun|230=>203|197=>86|118=>242|165=>243|166=>244|168=>245|270=>246|167=>247|169=>248|260=>105|240=>256|241=>257|242=>126|276=>263|277=>264|278=>190|n=>n,fun|107=>176|9=>9|72=>217|0=>0|4=>4|3=>3|21=>21|105=>118|76=>219|5=>5|75=>38|70=>215|20=>20|37=>74|127=>166|119=>162|46=>126|139=>165|138=>164|164=>128|51=>107|80=>97|n=>n,fun|3=>2|4=>3|n=>n⟩
theorem Tryz.lays230:Go.Proofs.Lays.n230 Tryz.prog Tryz.lays230_ren:={
 mixed:=by kernel_rfl
 f118:=Tryz.func242.trans (congrArg some (by kernel_rfl))
 f165:=Tryz.func243.trans (congrArg some (by kernel_rfl))
 f166:=Tryz.func244.trans (congrArg some (by kernel_rfl))
 f167:=Tryz.func247.trans (congrArg some (by kernel_rfl))
 f168:=Tryz.func245.trans (congrArg some (by kernel_rfl))
 f169:=Tryz.func248.trans (congrArg some (by kernel_rfl))
 f197:=Tryz.func86.trans (congrArg some (by kernel_rfl))
 f230:=Tryz.func203.trans (congrArg some (by kernel_rfl))
 f240:=Tryz.func256.trans (congrArg some (by kernel_rfl))
 f241:=Tryz.func257.trans (congrArg some (by kernel_rfl))
 f242:=Tryz.func126.trans (congrArg some (by kernel_rfl))
 f260:=Tryz.func105.trans (congrArg some (by kernel_rfl))
 f270:=Tryz.func246.trans (congrArg some (by kernel_rfl))
 f276:=Tryz.func263.trans (congrArg some (by kernel_rfl))
 f277:=Tryz.func264.trans (congrArg some (by kernel_rfl))
 f278:=Tryz.func190.trans (congrArg some (by kernel_rfl))
 t0:=Tryz.underlying0
 a0:=Tryz.isAgg0
 z0:=Tryz.sizeOf0
 v0:=Tryz.zeroValue0
 t3:=Tryz.underlying3
 a3:=Tryz.isAgg3
 z3:=Tryz.sizeOf3
 v3:=Tryz.zeroValue3
 t4:=Tryz.underlying4
 a4:=Tryz.isAgg4
 z4:=Tryz.sizeOf4
 v4:=Tryz.zeroValue4
 t5:=Tryz.underlying5
 a5:=Tryz.isAgg5
 z5:=Tryz.sizeOf5
 v5:=Tryz.zeroValue5
 t9:=Tryz.underlying9
 a9:=Tryz.isAgg9
 z9:=Tryz.sizeOf9
 v9:=Tryz.zeroValue9
 t20:=Tryz.underlying20
 a20:=Tryz.isAgg20
 z20:=Tryz.sizeOf20
 v20:=Tryz.zeroValue20
 t21:=Tryz.underlying21
 a21:=Tryz.isAgg21
 z21:=Tryz.sizeOf21
 v21:=Tryz.zeroValue21
 t37:=Tryz.underlying74
 a37:=Tryz.isAgg74
 z37:=Tryz.sizeOf74
 v37:=Tryz.zeroValue74
 t46:=Tryz.underlying126
 a46:=Tryz.isAgg126
 z46:=Tryz.sizeOf126
 v46:=Tryz.zeroValue126
 t51:=Tryz.underlying107
 a51:=Tryz.isAgg107
 z51:=Tryz.sizeOf107
 v51:=Tryz.zeroValue107
 t70:=Tryz.underlying215
 a70:=Tryz.isAgg215
 z70:=Tryz.sizeOf215
 v70:=Tryz.zeroValue215
 t72:=Tryz.underlying217
 a72:=Tryz.isAgg217
 z72:=Tryz.sizeOf217
 v72:=Tryz.zeroValue217
 t75:=Tryz.underlying38
 a75:=Tryz.isAgg38
 z75:=Tryz.sizeOf38
 v75:=Tryz.zeroValue38
 t76:=Tryz.underlying219
 a76:=Tryz.isAgg219
 z76:=Tryz.sizeOf219
 v76:=Tryz.zeroValue219
 t105:=Tryz.underlying118
 a105:=Tryz.isAgg118
 z105:=Tryz.sizeOf118
 v105:=Tryz.zeroValue118
 t107:=Tryz.underlying176
 a107:=Tryz.isAgg176
 z107:=Tryz.sizeOf176
 v107:=Tryz.zeroValue176
 t119:=Tryz.underlying162
 a119:=Tryz.isAgg162
 z119:=Tryz.sizeOf162
 t127:=Tryz.underlying166
 a127:=Tryz.isAgg166
 z127:=Tryz.sizeOf166
 v127:=Tryz.zeroValue166
 t138:=Tryz.underlying164
 a138:=Tryz.isAgg164
 z138:=Tryz.sizeOf164
 v138:=Tryz.zeroValue164
 t139:=Tryz.underlying165
 a139:=Tryz.isAgg165
 z139:=Tryz.sizeOf165
 v139:=Tryz.zeroValue165
 t164:=Tryz.underlying128
 a164:=Tryz.isAgg128
 z164:=Tryz.sizeOf128
 v164:=Tryz.zeroValue128
 g3:=by kernel_rfl
 g4:=by kernel_rfl}
theorem Tryz.Builder_Extra_230:Builder.Extra Tryz.prog Tryz.lays230_ren:={
 sizeBuilder:=by kernel_rfl
 liesBuilder:=by kernel_rfl
 t5:=Tryz.underlying5
 a5:=Tryz.isAgg5
 z5:=Tryz.sizeOf5
 v5:=Tryz.zeroValue5
 infoByte:=by kernel_rfl
 cellsByte:=by kernel_rfl
 sizeByte:=by kernel_rfl
 neB5:=by decide}
open Go.RowKit Go.Lib in
theorem Tryz.strings_Map_runes(g:Nat)(lb:Array Value)(eg:∀args w,(callFunc g args).run Tryz.prog w= .ok (.enter g args) w)(f:Int→Int)(s:ByteArray)(w:World)(hs:s.size<35184372088832)(hf:MapAtRunes Tryz.prog g lb f w)(hnn:∀x:Nat,x≤1114111→0≤f x∧f x≤2147483647)(hT:Lib.Utf8Tabs 2 3 w):
  Calls Tryz.prog 203 #[.func (.func g) #[] lb,.string s] w fun e w'=>e= .returned (.string ⟨(Lib.mapD f s.data.toList).toArray⟩)∧Below w.heap.size w w':=Any.strings_Map_runes Tryz.lays230 Tryz.Builder_Extra_230 g lb eg f s w hs hf hnn hT
end Go.Proofs
namespace Go.Proofs.YtdfmapcnfficlaaGreatDoor
open Go.Proofs.Tryz
open Go Go.RowKit
section
variable{w0:World}{aj:Nat→Prop}{b:Nat}{s:TS}{ex:List Item}{w:World}{R:n9}
theorem Tk.more{w':World}(h:Tk w0 aj b s ex w)(hm:More w w'):Tk w0 aj b s ex w':=by
 obtain⟨R,hR⟩:=h.reg
 exact(Nh hR hm).tk
theorem More.of_below{w':World}(h:Below w.heap.size w w'):More w w':=⟨h.os,h.tape,h.output,h.size,h.block⟩
def np(s:TS)(c:Int):Int×TS:=
 if br c=true∨fc c=true then(1,{s with state:=32})
 else if c=35 then(0,{mv s [35]with state:=34})
 else(1,kc s)
theorem N5(c:Int)(hc:Rn c)(hr:N4 s)(h:Tk w0 aj b s ex w)(hs:sz s+128≤lim):
  Calls prog 159 #[.pointer (some ⟨b,0,none⟩),.int .i32 c] w fun e w'=>e= .returned (.int .i64 (np s c).1)∧Tk w0 aj b (np s c).2 ex w':=by
 have HL:=hide (fun w=>lb c w hc)
 have HD:=hide (fun w=>uw c w)
 have HT:=hide h
 cases hl:br c
 ·rw[hl]at HL
  cases hd:fc c
  ·rw[hd]at HD
   by_cases Q6:c=35
   ·subst Q6
    have hfin:np s 35=(0,{mv s [35]with state:=34}):=by simp[np,hl,hd]
    rw[hfin]
    have c1:=Cg h
    have f1:=h.frozen
    have H2:=hide (U2 h [35])
    clear hfin h hs hr
    go_enter func159,ntmps159
    go_wp2_with(first
     |(go_at_call 191;refine(ae HL _).mono ?_;rintro e w1⟨rfl,rfl⟩)
     |(go_at_call 216;refine(ae HD _).mono ?_;rintro e w1⟨rfl,rfl⟩))
    refine(mr 34 (ae H2)).mono ?_
    rintro e w3⟨rfl,h3⟩
    go_wp2
    go_ret
    exact⟨rfl,h3⟩
   ·have e35:(c==35)=false:=af.2 Q6
    have hfin:np s c=(1,kc s):=by simp[np,hl,hd,Q6]
    rw[hfin]
    have HE:=hide (Cf hr.at' h (by have:=hr.come;omega))
    clear hfin h hs hr
    go_enter func159,ntmps159
    go_wp2_with(first
     |(go_at_call 191;refine(ae HL _).mono ?_;rintro e w1⟨rfl,rfl⟩)
     |(go_at_call 216;refine(ae HD _).mono ?_;rintro e w1⟨rfl,rfl⟩)
     |(go_at_call 219;refine(ae HE).mono ?_;rintro e w3⟨rfl,h3⟩))
    go_ret
    exact⟨rfl,h3⟩
  ·rw[hd]at HD
   have hfin:np s c=(1,{s with state:=32}):=by simp[np,hl,hd]
   rw[hfin]
   clear hfin h hs hr
   go_enter func159,ntmps159
   go_wp2_with(first
    |(go_at_call 191;refine(ae HL _).mono ?_;rintro e w1⟨rfl,rfl⟩)
    |(go_at_call 216;refine(ae HD _).mono ?_;rintro e w1⟨rfl,rfl⟩))
   refine(ic 32 (ae HT)).mono ?_
   rintro e w3⟨rfl,h3⟩
   go_wp2
   go_ret
   exact⟨rfl,h3⟩
 ·rw[hl]at HL
  have hfin:np s c=(1,{s with state:=32}):=by simp[np,hl]
  rw[hfin]
  clear hfin h hs hr
  go_enter func159,ntmps159
  go_wp2_with(go_at_call 191;refine(ae HL _).mono ?_;rintro e w1⟨rfl,rfl⟩)
  refine(ic 32 (ae HT)).mono ?_
  rintro e w3⟨rfl,h3⟩
  go_wp2
  go_ret
  exact⟨rfl,h3⟩
def gp(s:TS)(c:Int):Int×TS:=
 if br c=true∨fc c=true then(0,cn s (Lib.encodeRune c))
 else if c=59 then(1,{wrong s [117,110,107,110,111,119,110]with state:=s.ev})
 else(1,{s with state:=s.ev})
theorem D7(c:Int)(hc:Rn c)(hr:N4 s)(h:Tk w0 aj b s ex w)(hs:sz s+128≤lim):
  Calls prog 156 #[.pointer (some ⟨b,0,none⟩),.int .i32 c] w fun e w'=>e= .returned (.int .i64 (gp s c).1)∧Tk w0 aj b (gp s c).2 ex w':=by
 have HL:=hide (fun w=>lb c w hc)
 have HD:=hide (fun w=>uw c w)
 have HT:=hide h
 have hcv:∀w,(convert 21 9 (.int .i32 c)).run prog w= .ok (.string ⟨(Lib.encodeRune c).toArray⟩) w:=fun w=>by
  rw[run_convert_int_string w 21 9 .i32 c (by rw[underlying21];rfl) underlying9,Hc]
 have HA:=hide (lj (Lib.encodeRune c) hr.at' h (by have:=oh c;omega))
 have HS:=hide hs
 have c0:=sr h
 clear h hs hr
 cases hl:br c
 ·rw[hl]at HL
  cases hd:fc c
  ·rw[hd]at HD
   by_cases h59:c=59
   ·subst h59
    have hfin:gp s 59=(1,{wrong s [117,110,107,110,111,119,110]with state:=s.ev}):=by simp[gp,hl,hd]
    rw[hfin]
    clear hfin
    go_enter func156,ntmps156
    go_wp2_with(first
     |(go_at_call 191;refine(ae HL _).mono ?_;rintro e w1⟨rfl,rfl⟩)
     |(go_at_call 216;refine(ae HD _).mono ?_;rintro e w1⟨rfl,rfl⟩))
    refine(mb [117,110,107,110,111,119,110] (ae HT) (by have:=ae HS;omega)).mono ?_
    rintro e w2⟨rfl,h2⟩
    have d2:=sr h2
    rw[show(wrong s [117,110,107,110,111,119,110]).ev=s.ev from rfl]at d2
    go_wp2_with fail
    refine(ic s.ev h2).mono ?_
    rintro e w3⟨rfl,h3⟩
    go_wp2
    go_ret
    exact⟨rfl,h3⟩
   ·have e59:(c==59)=false:=af.2 h59
    have hfin:gp s c=(1,{s with state:=s.ev}):=by simp[gp,hl,hd,h59]
    rw[hfin]
    clear hfin
    go_enter func156,ntmps156
    go_wp2_with(first
     |(go_at_call 191;refine(ae HL _).mono ?_;rintro e w1⟨rfl,rfl⟩)
     |(go_at_call 216;refine(ae HD _).mono ?_;rintro e w1⟨rfl,rfl⟩))
    refine(ic s.ev (ae HT)).mono ?_
    rintro e w3⟨rfl,h3⟩
    go_wp2
    go_ret
    exact⟨rfl,h3⟩
  ·rw[hd]at HD
   have hfin:gp s c=(0,cn s (Lib.encodeRune c)):=by simp[gp,hl,hd]
   rw[hfin]
   clear hfin
   go_enter func156,ntmps156
   go_wp2_with(first
    |(go_at_call 191;refine(ae HL _).mono ?_;rintro e w1⟨rfl,rfl⟩)
    |(go_at_call 216;refine(ae HD _).mono ?_;rintro e w1⟨rfl,rfl⟩)
    |(go_at_call 214;refine(ae HA).mono ?_;rintro e w3⟨rfl,h3⟩))
   go_ret
   exact⟨rfl,h3⟩
 ·rw[hl]at HL
  have hfin:gp s c=(0,cn s (Lib.encodeRune c)):=by simp[gp,hl]
  rw[hfin]
  clear hfin
  go_enter func156,ntmps156
  go_wp2_with(first
   |(go_at_call 191;refine(ae HL _).mono ?_;rintro e w1⟨rfl,rfl⟩)
   |(go_at_call 214;refine(ae HA).mono ?_;rintro e w3⟨rfl,h3⟩))
  go_ret
  exact⟨rfl,h3⟩
end
section
variable{w0:World}{aj:Nat→Prop}{b:Nat}{s:TS}{ex:List Item}{w:World}{R:n9}
def C9(x:Str):Int:=(Lib.decodeGo ⟨x.toArray⟩).1
theorem zey(x:Str):Rn (C9 x):=by
 unfold C9 Lib.decodeGo
 split
 ·constructor<;>simp
 ·have:=Lib.rune_le ⟨x.toArray⟩ 0
  constructor<;>omega
def vi(s:TS)(nx:Int):Bool:=l8 s.ev&&(nx==61||br nx||fc nx)
def ku(s:TS)(n:Str×Str)(x:Str)(nx:Int):TS:=
 if vi s nx=true then cn s ([38]++n.1)else cn (bz s [115,101,109,105,99,111,108,111,110] (s.place-x.length)) n.2
def ln(s:TS)(n:Str×Str)(c:Int):TS:=
 {cn (ku s n (s.di.drop n.1.length) (C9 (s.di.drop n.1.length++Lib.encodeRune c))) (s.di.drop n.1.length)with state:=s.ev}
theorem extract_drop(x:Str)(n:Nat):(⟨x.toArray⟩:ByteArray).extract n (⟨x.toArray⟩:ByteArray).size=⟨(x.drop n).toArray⟩:=by
 apply ByteArray.ext
 simp[ByteArray.size]
 rw[List.take_of_length_le (by simp)]
theorem Xz(s:TS)(n:Str×Str)(x:Str)(nx:Int)(h1:n.1.length≤7)(h2:n.2.length≤7):sz (ku s n x nx)≤sz s+33:=by
 unfold ku
 split
 ·have:=n7 s ([38]++n.1)
  rw[aq]at this
  simp only[ai,ak]at this
  omega
 ·have:=n7 (bz s [115,101,109,105,99,111,108,111,110] (s.place-x.length)) n.2
  rw[rk]at this
  omega
theorem N6(s:TS)(n:Str×Str)(x:Str)(nx:Int):(ku s n x nx).ev=s.ev:=by
 unfold ku
 split<;>rw[i9]<;>rfl
theorem Rg{s:TS}(n:Str×Str)(x:Str)(nx:Int)(h:l8 s.ev=true→s.tag.cy≠[]):l8 (ku s n x nx).ev=true→(ku s n x nx).tag.cy≠[]:=by
 unfold ku
 split
 ·exact mz _ h
 ·exact mz (s:=bz s [115,101,109,105,99,111,108,111,110] (s.place-x.length)) _ h
theorem Base.fresh{w1:World}(B:Base w0 aj)(hk:Kept aj w0 w1):Base w1 (yj w0 aj w):=
 ⟨B.at hk,fun g hg=>⟨fun hh=>hh.1.elim (B.out g hg).1 (fun h=>by have:=(B.out g hg).2;omega),ei (B.out g hg).2 hk.size⟩⟩
theorem J3(n:Str×Str)(c:Int)(hc:Rn c)(B:Base w0 aj)(hr:N4 s)(h1:n.1.length≤7)(h2:n.2.length≤7)(hle:n.1.length≤s.di.length)(h:Tk w0 aj b s ex w)(hs:sz s+128≤lim):
  Calls prog 215 #[.pointer (some ⟨b,0,none⟩),Hf n,.int .i32 c] w fun e w'=>e= .returned (.int .i64 1)∧Tk w0 aj b (ln s n c) ex w':=by
 unfold ln Hf
 have hcv:∀w,(convert 21 9 (.int .i32 c)).run prog w= .ok (.string ⟨(Lib.encodeRune c).toArray⟩) w:=fun w=>by
  rw[run_convert_int_string w 21 9 .i32 c (by rw[underlying21];rfl) underlying9,Hc]
 have hsl:∀W,(Instr.slice 9 (.string ⟨s.di.toArray⟩) (some (.int .i64 (n.1.length:Int))) none none).run prog W= .ok (.string ⟨(s.di.drop n.1.length).toArray⟩) W:=fun W=>by
  rw[run_slice_string_from_if W 9 ⟨s.di.toArray⟩ .i64 n.1.length underlying9,au ⟨by omega,by simp[ByteArray.size];omega⟩,Int.toNat_natCast,extract_drop]
 have hdl:(s.di.drop n.1.length).length≤8:=by have:=hr.come;simp;omega
 have zhf:=Cg h
 have hpl:=wk h
 have hp0:=hr.E0
 have hp1:=hr.E1
 have HS:=hide hs
 have HR:=hide hr
 generalize s.di.drop n.1.length=x at*
 have N2:∀w,_:=fun w=>uh x (Lib.encodeRune c) w (by have:=oh c;unfold lim;omega)
 have HDC:=hide (fun(w:World)(hT:Lib.Utf8Tabs 2 3 w)=>utf8_DecodeRuneInString ⟨(x++Lib.encodeRune c).toArray⟩ w hT)
 have hrn:=zey (x++Lib.encodeRune c)
 have HX:C9 (x++Lib.encodeRune c)=(Lib.decodeGo ⟨(x++Lib.encodeRune c).toArray⟩).1:=rfl
 rw[←HX]at HDC
 clear HX
 generalize C9 (x++Lib.encodeRune c)=nx at*
 generalize(Lib.decodeGo ⟨(x++Lib.encodeRune c).toArray⟩).2=nk at*
 have hM1:∀nq,More w ((w.alloc (.cells #[.string ⟨n.1.toArray⟩,.string ⟨n.2.toArray⟩] 198)).drewN nq):=fun nq=>(fun(h:More w (w.alloc (.cells #[.string ⟨n.1.toArray⟩,.string ⟨n.2.toArray⟩] 198)))=>⟨h.os,h.tape,h.output,h.size,h.block⟩) ((More.refl w).alloc _)
 have HT:=hide (fun nq=>h.fresh (hM1 nq))
 have HB:=hide (fun nq=>B.fresh (w:=w) (h.2.more (hM1 nq)))
 have HK:=hide (fun nq=>h.2.more (hM1 nq))
 have hb:=(by obtain⟨R,hR⟩:=h.reg;exact hR.1.yh:b<w.heap.size)
 have HL:=hide (fun w=>lb nx w hrn)
 have HD:=hide (fun w=>uw nx w)
 clear h hs hr B hM1
 go_enter func215,ntmps215
 go_wp2_with fail
 go_quiet (fail)
 have T1:=(ae HT) nq
 have B1:=(ae HB) nq
 have K1:=(ae HK) nq
 have Ln:((w.alloc (.cells #[.string ⟨n.1.toArray⟩,.string ⟨n.2.toArray⟩] 198)).drewN nq).heap[w.heap.size]? =some (.cells #[.string ⟨n.1.toArray⟩,.string ⟨n.2.toArray⟩] 198 (0,0)):=heap_alloc_new w (.cells #[.string ⟨n.1.toArray⟩,.string ⟨n.2.toArray⟩] 198)
 have hlt:w.heap.size<((w.alloc (.cells #[.string ⟨n.1.toArray⟩,.string ⟨n.2.toArray⟩] 198)).drewN nq).heap.size:=(co.1 Ln).1
 clear HT HB HK
 generalize(w.alloc (.cells #[.string ⟨n.1.toArray⟩,.string ⟨n.2.toArray⟩] 198)).drewN nq=W1 at*
 go_wp2_with fail
 refine(ae HDC W1 B1.laid.tabs).mono ?_
 rintro e w2⟨rfl,hb2⟩
 have T2:=T1.more (More.of_below hb2)
 have zhg:=(hb2.block _ hlt).trans Ln
 have bx0:w2.cell? ⟨w.heap.size,0,none⟩=some (.string ⟨n.1.toArray⟩):=bg zhg 0
 have bx1:w2.cell? ⟨w.heap.size,1,none⟩=some (.string ⟨n.2.toArray⟩):=bg zhg 1
 have zpa:∀w,_:=fun w=>uh [38] n.1 w (by simp only[ai,ak];unfold lim;omega)
 have HV:=hide (wd T2)
 clear T1 B1 hb2 HDC zhf hpl N2 hsl hcv zhg
 cases hv:l8 s.ev
 ·skip
  have hg:¬vi s nx=true:=by simp[vi,hv]
  have ho:ku s n x nx=cn (bz s [115,101,109,105,99,111,108,111,110] (s.place-x.length)) n.2:=by rw[ku,ag hg]
  have HO:=hide ho
  rw[hv]at HV
  have HW:=hide (Az [115,101,109,105,99,111,108,111,110] (s.place-x.length) T2 (by have:=ae HS;omega))
  have T2':=hide T2
  have zrx:=wk T2
  clear T2 ho hg
  go_wp2_with(first
   |(go_at_call 250;refine(ae HV).mono ?_;rintro e w3⟨rfl,rfl⟩)
   |(go_at_call 204;refine(ae HW).mono ?_;rintro e w4⟨rfl,h4⟩;have b4:=(h4.stands (cx _) hlt).trans Ln;have e1:w4.cell? ⟨w.heap.size,1,none⟩=some (.string ⟨n.2.toArray⟩):=bg b4 1;clear b4))
  refine(lj (s:=bz s [115,101,109,105,99,111,108,111,110] (s.place-x.length)) n.2 (fun e=>(ae HR).at' e) h4 (by have:=ae HS;rw[rk];omega)).mono ?_
  rintro e w5⟨rfl,h5⟩
  go_wp2_with fail
  refine(lj x (mz (s:=bz s [115,101,109,105,99,111,108,111,110] (s.place-x.length)) _ (fun e=>(ae HR).at' e)) h5 (by have:=ae HS;have:=n7 (bz s [115,101,109,105,99,111,108,111,110] (s.place-x.length)) n.2;rw[rk]at this;omega)).mono ?_
  rintro e w6⟨rfl,h6⟩
  have d5:=sr h6
  rw[i9,i9]at d5
  go_wp2_with fail
  refine(ic s.ev h6).mono ?_
  rintro e w7⟨rfl,h7⟩
  go_wp2
  go_ret
  exact⟨rfl,by rw[ae HO];exact h7.qn K1⟩
 by_cases h61:nx=61
 ·have e61:(nx==61)=true:=by simp[h61]
  have hg:vi s nx=true:=by simp[vi,hv,h61]
  have ho:ku s n x nx=cn s ([38]++n.1):=by rw[ku,au hg]
  have HO:=hide ho
  rw[hv]at HV
  have HA:=hide (lj ([38]++n.1) (ae HR).at' T2 (by have:=ae HS;rw[aq];simp only[ai,ak];omega))
  have T2':=hide T2
  clear T2 ho hg
  go_wp2_with(first
   |(go_at_call 250;refine(ae HV).mono ?_;rintro e w3⟨rfl,rfl⟩))
  refine(ae HA).mono ?_
  rintro e w4⟨rfl,h4⟩
  go_wp2_with fail
  refine(lj x (mz _ (ae HR).at') h4 (by have:=ae HS;have:=n7 s ([38]++n.1);rw[aq]at this;simp only[ai,ak]at this;omega)).mono ?_
  rintro e w5⟨rfl,h5⟩
  have d5:=sr h5
  rw[i9,i9]at d5
  go_wp2_with fail
  refine(ic s.ev h5).mono ?_
  rintro e w6⟨rfl,h6⟩
  go_wp2
  go_ret
  exact⟨rfl,by rw[ae HO];exact h6.qn K1⟩
 have e61:(nx==61)=false:=af.2 h61
 cases hl:br nx
 ·rw[hl]at HL
  cases hd:fc nx
  ·rw[hd]at HD
   have hg:¬vi s nx=true:=by simp[vi,hv,hl,hd,h61]
   have ho:ku s n x nx=cn (bz s [115,101,109,105,99,111,108,111,110] (s.place-x.length)) n.2:=by rw[ku,ag hg]
   have HO:=hide ho
   rw[hv]at HV
   have HW:=hide (Az [115,101,109,105,99,111,108,111,110] (s.place-x.length) T2 (by have:=ae HS;omega))
   have T2':=hide T2
   have zrx:=wk T2
   clear T2 ho hg
   go_wp2_with(first
    |(go_at_call 250;refine(ae HV).mono ?_;rintro e w3⟨rfl,rfl⟩)
    |(go_at_call 191;refine(ae HL _).mono ?_;rintro e w3⟨rfl,rfl⟩)
    |(go_at_call 216;refine(ae HD _).mono ?_;rintro e w3⟨rfl,rfl⟩)
    |(go_at_call 204;refine(ae HW).mono ?_;rintro e w4⟨rfl,h4⟩;have b4:=(h4.stands (cx _) hlt).trans Ln;have e1:w4.cell? ⟨w.heap.size,1,none⟩=some (.string ⟨n.2.toArray⟩):=bg b4 1;clear b4))
   refine(lj (s:=bz s [115,101,109,105,99,111,108,111,110] (s.place-x.length)) n.2 (fun e=>(ae HR).at' e) h4 (by have:=ae HS;rw[rk];omega)).mono ?_
   rintro e w5⟨rfl,h5⟩
   go_wp2_with fail
   refine(lj x (mz (s:=bz s [115,101,109,105,99,111,108,111,110] (s.place-x.length)) _ (fun e=>(ae HR).at' e)) h5 (by have:=ae HS;have:=n7 (bz s [115,101,109,105,99,111,108,111,110] (s.place-x.length)) n.2;rw[rk]at this;omega)).mono ?_
   rintro e w6⟨rfl,h6⟩
   have d5:=sr h6
   rw[i9,i9]at d5
   go_wp2_with fail
   refine(ic s.ev h6).mono ?_
   rintro e w7⟨rfl,h7⟩
   go_wp2
   go_ret
   exact⟨rfl,by rw[ae HO];exact h7.qn K1⟩
  ·rw[hd]at HD
   have hg:vi s nx=true:=by simp[vi,hv,hl,hd]
   have ho:ku s n x nx=cn s ([38]++n.1):=by rw[ku,au hg]
   have HO:=hide ho
   rw[hv]at HV
   have HA:=hide (lj ([38]++n.1) (ae HR).at' T2 (by have:=ae HS;rw[aq];simp only[ai,ak];omega))
   have T2':=hide T2
   clear T2 ho hg
   go_wp2_with(first
    |(go_at_call 250;refine(ae HV).mono ?_;rintro e w3⟨rfl,rfl⟩)
    |(go_at_call 191;refine(ae HL _).mono ?_;rintro e w3⟨rfl,rfl⟩)
    |(go_at_call 216;refine(ae HD _).mono ?_;rintro e w3⟨rfl,rfl⟩))
   refine(ae HA).mono ?_
   rintro e w4⟨rfl,h4⟩
   go_wp2_with fail
   refine(lj x (mz _ (ae HR).at') h4 (by have:=ae HS;have:=n7 s ([38]++n.1);rw[aq]at this;simp only[ai,ak]at this;omega)).mono ?_
   rintro e w5⟨rfl,h5⟩
   have d5:=sr h5
   rw[i9,i9]at d5
   go_wp2_with fail
   refine(ic s.ev h5).mono ?_
   rintro e w6⟨rfl,h6⟩
   go_wp2
   go_ret
   exact⟨rfl,by rw[ae HO];exact h6.qn K1⟩
 ·rw[hl]at HL
  have hg:vi s nx=true:=by simp[vi,hv,hl]
  have ho:ku s n x nx=cn s ([38]++n.1):=by rw[ku,au hg]
  have HO:=hide ho
  rw[hv]at HV
  have HA:=hide (lj ([38]++n.1) (ae HR).at' T2 (by have:=ae HS;rw[aq];simp only[ai,ak];omega))
  have T2':=hide T2
  clear T2 ho hg
  go_wp2_with(first
   |(go_at_call 250;refine(ae HV).mono ?_;rintro e w3⟨rfl,rfl⟩)
   |(go_at_call 191;refine(ae HL _).mono ?_;rintro e w3⟨rfl,rfl⟩))
  refine(ae HA).mono ?_
  rintro e w4⟨rfl,h4⟩
  go_wp2_with fail
  refine(lj x (mz _ (ae HR).at') h4 (by have:=ae HS;have:=n7 s ([38]++n.1);rw[aq]at this;simp only[ai,ak]at this;omega)).mono ?_
  rintro e w5⟨rfl,h5⟩
  have d5:=sr h5
  rw[i9,i9]at d5
  go_wp2_with fail
  refine(ic s.ev h5).mono ?_
  rintro e w6⟨rfl,h6⟩
  go_wp2
  go_ret
  exact⟨rfl,by rw[ae HO];exact h6.qn K1⟩
end
end Go.Proofs.YtdfmapcnfficlaaGreatDoor

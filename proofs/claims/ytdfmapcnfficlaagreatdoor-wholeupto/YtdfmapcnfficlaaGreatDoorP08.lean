import Derived.Test.YtdfmapcnfficlaaGreatDoorP07
import Derived.Test.YtdfmapcnfficlaaGreatDoorP06
import Derived.Deep.RegionHeld3
import Derived.Laws.Runes
set_option linter.all false
set_option maxHeartbeats 2000000
set_option maxRecDepth 1000000
namespace Go.Proofs.YtdfmapcnfficlaaGreatDoor.M
open Go.Proofs.Tryz
open Go Go.RowKit Go.Proofs.YtdfmapcnfficlaaGreatDoor
section
variable{w0:World}{aj:Nat→Prop}{b:Nat}{m m':MS}{R:MR}{ex:List Item}{w w1 w':World}
theorem Bm{a b:Int}(h:a=b):Ending.returned (.int .i64 a)= .returned (.int .i64 b):=by rw[h]
theorem jt{a b:Bool}(h:a=b):Ending.returned (.bool a)= .returned (.bool b):=by rw[h]
theorem My:(prog.info? 144).map (fun i=>(i.zero,i.size,i.bytes))=some (some (.agg #[.int .i64 0,.string ⟨#[]⟩,.slice none 0 0,.string ⟨#[]⟩,.bool false,.int .i64 0]),6,80):=by kernel_rfl
def mj(m:MS):Nat:=m.told.length+m.text.length+m.name.length+m.buf.length+m.key.length+m.value.length+m.attrs.length
theorem xe(n:Str)(p:Int)(h:rh w0 aj b m R ex w)(hs:m.told.length≤lim):
  Calls prog 174 #[.pointer (some ⟨b,0,none⟩),.string ⟨n.toArray⟩,.int .i64 p] w fun e w'=>∃tl ta,e= .returned (.tuple #[])∧rh w0 aj b (wrong m n p) {R with told:=tl,cz:=ta} ex w':=by
 have c3:w.cell? ⟨b,3,none⟩=some (.slice R.told.a m.told.length R.told.cap):=h.cell 3
 have hf:=h.frozen
 obtain⟨i0,hi,hz0,hz1,hz2⟩:=info_parts My
 have HS:=hide hs
 clear hs
 go_enter func174,ntmps174
 go_wp2_with(at_builtin;refine dh _ rfl (.tmp 10) (.tmp 14) 139 rfl 144 i0 _ 6 80 underlying139 hi hz0 hz1 hz2 rfl (by decide) R.told.a m.told.length R.told.cap (eh m.told R.cz) rfl ?own ⟨w.heap.size,0,none⟩ 1 1 (fq {kind:=5,name:=n,place:=p} ⟨none,0⟩) rfl rfl (um _ _ _ _) (r8 _ _) (by decide) (Bi HS.out) (Cy HS.out) ?next)
 case own=>exact bh h.Nk _
 case next=>
  intro a' cap' w' hown hgrow hfresh
  obtain⟨hself,hT⟩:=rh.yl {kind:=5,name:=n,place:=p} ⟨none,0⟩ h.bare ((More.refl w).alloc _) a' cap' hown hgrow (by simpa using hfresh)
  have d3:w'.cell? ⟨b,3,none⟩=some (.slice R.told.a m.told.length R.told.cap):=bg hself 3
  have df:=bn hself
  go_wp2
  go_end0
  exact⟨_,_,rfl,hT⟩
theorem v8(n:Str)(p:Int)(h:Mk w0 aj b m ex w)(hs:m.told.length≤lim):
  Calls prog 174 #[.pointer (some ⟨b,0,none⟩),.string ⟨n.toArray⟩,.int .i64 p] w fun e w'=>e= .returned (.tuple #[])∧Mk w0 aj b (wrong m n p) ex w':=by
 obtain⟨R,h⟩:=h
 refine(xe n p h hs).mono ?_
 rintro e w'⟨tl,ta,rfl,h1⟩
 exact⟨rfl,h1.out⟩
theorem Ks(n:Str)(h:rh w0 aj b m R ex w)(hs:m.told.length≤lim):
  Calls prog 175 #[.pointer (some ⟨b,0,none⟩),.string ⟨n.toArray⟩] w fun e w'=>∃tl ta,e= .returned (.tuple #[])∧rh w0 aj b (err m n) {R with told:=tl,cz:=ta} ex w':=by
 have HW:=hide (xe n m.pos h hs)
 have c1:w.cell? ⟨b,1,none⟩=some (.int .i64 m.pos):=h.cell 1
 go_enter func175,ntmps175
 go_wp2_with(go_at_call 174;refine(ae HW).mono ?_;rintro e w'⟨tl,ta,rfl,h1⟩)
 go_end0
 exact⟨tl,ta,rfl,h1⟩
theorem od(n:Str)(h:Mk w0 aj b m ex w)(hs:m.told.length≤lim):
  Calls prog 175 #[.pointer (some ⟨b,0,none⟩),.string ⟨n.toArray⟩] w fun e w'=>e= .returned (.tuple #[])∧Mk w0 aj b (err m n) ex w':=by
 obtain⟨R,h⟩:=h
 refine(Ks n h hs).mono ?_
 rintro e w'⟨tl,ta,rfl,h1⟩
 exact⟨rfl,h1.out⟩
theorem pp(c:Int)(h:rh w0 aj b m R ex w)(hs:m.told.length≤lim):
  Calls prog 231 #[.pointer (some ⟨b,0,none⟩),.int .i64 c] w fun e w'=>∃tl ta,e= .returned (.int .i64 (bb c))∧rh w0 aj b (lx m c) {R with told:=tl,cz:=ta} ex w':=by
 have HW:=hide (Ks [110,117,108] h hs)
 have HT:=hide h
 clear h hs
 by_cases h0:c=0
 ·subst h0
  go_enter func231,ntmps231
  go_wp2_with(go_at_call 175;refine(ae HW).mono ?_;rintro e w'⟨tl,ta,rfl,h2⟩)
  go_ret
  exact⟨tl,ta,rfl,h2⟩
 ·have e0:(c==0)=false:=by simpa using h0
  go_enter func231,ntmps231
  go_wp2
  go_ret
  exact⟨R.told,R.cz,by simp[bb,h0],by simp only[lx,ag h0];exact ae HT⟩
theorem zgm(c:Int)(h:Mk w0 aj b m ex w)(hs:m.told.length≤lim):
  Calls prog 231 #[.pointer (some ⟨b,0,none⟩),.int .i64 c] w fun e w'=>e= .returned (.int .i64 (bb c))∧Mk w0 aj b (lx m c) ex w':=by
 obtain⟨R,h⟩:=h
 refine(pp c h hs).mono ?_
 rintro e w'⟨tl,ta,rfl,h1⟩
 exact⟨rfl,h1.out⟩
theorem zd(q:Nat)(h:Mk w0 aj b m ex w)(hp:m.pos<m.l.length):
  Calls prog 230 #[.pointer (some ⟨b,0,none⟩),.string ⟨(qc q).toArray⟩] w fun e w'=>e= .returned (.tuple #[])∧Mk w0 aj b (pc m q) ex w':=by
 have h1:=Mk.setPos (m:=st m q) (m.pos+1) hp (h.setState q)
 obtain⟨R,h⟩:=h
 have c5:w.cell? ⟨b,5,none⟩=some (.string ⟨(qc m.state).toArray⟩):=h.cell 5
 have c1:w.cell? ⟨b,1,none⟩=some (.int .i64 m.pos):=h.cell 1
 have hf:=h.frozen
 have hb:(m.pos:Int)≤1099511627776:=by have:=h.ok.ll;have:=h.ok.pl;unfold lim at*;omega
 have HH:=hide h1
 generalize qc q=t at*
 generalize qc m.state=t' at*
 clear h1 h hp
 go_enter func230,ntmps230
 go_wp2
 go_end0
 exact⟨rfl,ae HH⟩
theorem pg(c:Int)(w:World)(h0: -1≤c)(h1:c≤1114111):Calls prog 228 #[.int .i64 c] w fun e w'=>e= .returned (.int .i64 (lw c))∧w'=w:=by
 by_cases h2:65≤c
 ·by_cases h3:c≤90
  ·go_enter func228,ntmps228
   go_wp2
   go_ret
   exact⟨Bm (by unfold lw;rw[au ⟨h2,h3⟩]),rfl⟩
  ·have h3':90<c:=by omega
   go_enter func228,ntmps228
   go_wp2
   go_ret
   exact⟨Bm (by unfold lw;rw[ag (by omega)]),rfl⟩
 ·have h2':c<65:=by omega
  go_enter func228,ntmps228
  go_wp2
  go_ret
  exact⟨Bm (by unfold lw;rw[ag (by omega)]),rfl⟩
theorem eo(c:Int)(w:World):Calls prog 233 #[.int .i64 c] w fun e w'=>e= .returned (.bool (ba c))∧w'=w:=by
 by_cases h1:c=9
 ·subst h1;go_enter func233,ntmps233
  go_wp2
  go_ret
  exact⟨rfl,rfl⟩
 by_cases h2:c=10
 ·subst h2;go_enter func233,ntmps233
  go_wp2
  go_ret
  exact⟨rfl,rfl⟩
 by_cases h3:c=12
 ·subst h3;go_enter func233,ntmps233
  go_wp2
  go_ret
  exact⟨rfl,rfl⟩
 have e1:(c==9)=false:=by simpa using h1
 have e2:(c==10)=false:=by simpa using h2
 have e3:(c==12)=false:=by simpa using h3
 go_enter func233,ntmps233
 go_wp2
 go_ret
 exact⟨by simp[ba,e1,e2,e3],rfl⟩
theorem C3(c:Int)(w:World):Calls prog 167 #[.int .i64 c] w fun e w'=>e= .returned (.bool (fc c))∧w'=w:=by
 by_cases h1:48≤c
 ·by_cases h2:c≤57
  ·go_enter func167,ntmps167
   go_wp2
   go_ret
   exact⟨jt (by simp[fc];omega),rfl⟩
  ·go_enter func167,ntmps167
   go_wp2
   go_ret
   exact⟨jt (by simp[fc];omega),rfl⟩
 ·go_enter func167,ntmps167
  go_wp2
  go_ret
  exact⟨jt (by simp[fc];omega),rfl⟩
theorem nr(c:Int)(w:World):Calls prog 166 #[.int .i64 c] w fun e w'=>e= .returned (.bool (br c))∧w'=w:=by
 by_cases h1:97≤c
 ·by_cases h2:c≤122
  ·go_enter func166,ntmps166
   go_wp2
   go_ret
   exact⟨jt (by simp[br];omega),rfl⟩
  ·have h3:65≤c:=by omega
   have h4:¬c≤90:=by omega
   go_enter func166,ntmps166
   go_wp2
   go_ret
   exact⟨jt (by simp[br];omega),rfl⟩
 ·by_cases h3:65≤c
  ·by_cases h4:c≤90
   ·go_enter func166,ntmps166
    go_wp2
    go_ret
    exact⟨jt (by simp[br];omega),rfl⟩
   ·go_enter func166,ntmps166
    go_wp2
    go_ret
    exact⟨jt (by simp[br];omega),rfl⟩
  ·go_enter func166,ntmps166
   go_wp2
   go_ret
   exact⟨jt (by simp[br];omega),rfl⟩
end
theorem Pt.z{c:Int}(h:Pt c):∀x∈Em c,0≤x∧x≤255:=by
 obtain⟨h0,h1⟩:=h
 intro x hx
 unfold Em at hx
 split at hx
 ·simp at hx;omega
 ·split at hx
  ·simp at hx;omega
  ·split at hx
   ·simp at hx;omega
   ·simp at hx;omega
theorem zd5{c:Int}(h:Pt c):byteCells (utf c)=(Em c).map (Value.int .u8):=by
 unfold byteCells utf
 rw[List.map_map]
 refine List.map_congr_left fun x hx=> ?_
 obtain⟨h0,h1⟩:=h.z x hx
 simp only[Function.comp_apply,Nat.toUInt8,UInt8.toNat_ofNat']
 congr 1
 omega
theorem zjw(c:Int):(utf c).length≤4:=by
 unfold utf Em
 rw[List.length_map]
 split
 ·simp
 ·split
  ·simp
  ·split<;>simp
theorem zgn(l:List Int):(jk l).length≤4*l.length:=by
 induction l with
 |nil=>simp[jk]
 |cons c l ih=>
  have:=zjw c
  unfold jk at*
  rw[List.flatMap_cons,aq,ai];omega
theorem zd6(l:List Int)(c:Int):jk (l++[c])=jk l++utf c:=by simp[jk]
theorem Jp{α:Type}(l:List α)(k:Nat)(c:α)(h:l[k]? =some c):l.take (k+1)=l.take k++[c]:=by
 obtain⟨hk,rfl⟩:=cd.1 h
 rw[List.take_succ_eq_append_getElem hk]
structure Made(w:World)(q:Sl)(x:Str)(W:World):Prop where
 ok:(cq q x).ok W
 more:More w W
 new:∀g,q.a.map (·.block)=some g→w.heap.size≤g
theorem Made.grow{w W w1 w':World}{q:Sl}{x y:Str}(h:Made w q x W)(hm:More W w1)(a':Addr)(cap':Nat)(hown:w'.ownsRow 0 5 1 (.slice (some a') (x.length+y.length) cap') (x.length+y.length) (byteCells x++byteCells y))
  (hg:w1.grownBy w' (q.a.map (·.block))) (hf:some a'.block=q.a.map (·.block)∨w1.heap.size≤a'.block):Made w ⟨some a',cap'⟩ (x++y) w':=by
 have hm1:=h.more.tr hm
 refine⟨by simpa[Item.ok,cq,byteCells]using hown,⟨hg.os.trans hm1.os,hg.tape.trans hm1.tape,hg.output.trans hm1.output,fz hm1.size hg.size,fun k hk=> ?_⟩,fun g e=> ?_⟩
 ·rw[hg.block k (ei hk hm1.size) (fun e=>by have:=h.new k e.symm;omega),hm1.block k hk]
 ·simp only[Option.map_some,Option.some.injEq]at e
  subst e
  rcases hf with hf|hf
  ·exact h.new _ hf.symm
  ·exact fz hm1.size hf
theorem infoByte:(prog.info? 5).map (fun i=>(i.zero,i.size,i.bytes))=some (some (.int .u8 0),1,1):=by kernel_rfl
theorem Un(l:List Int):∀u∈l.map (Value.int .u8),u.oneCell'=true:=by
 intro u hu;obtain⟨c,_,rfl⟩:=List.mem_map.1 hu;rfl
theorem F4{w:World}{it:Item}(h:it.ok w){k:Nat}{u:Value}(hu:it.xs[k]? =some u)(hs:it.size=1):∃g,it.a=some ⟨g,0,none⟩∧g<w.heap.size∧w.cell? ⟨g,k,none⟩=some u:=by
 rcases h.2 with⟨hv,hn⟩|⟨g,cap,cur,hv,hb,hgg,rest⟩
 ·have hl:=h.1
  rw[hn]at hl
  simp only[Nat.zero_mul,List.length_eq_zero_iff]at hl
  rw[hl]at hu
  simp at hu
 ·have ha:it.a=some ⟨g,0,none⟩:=by injection hv
  refine⟨g,ha,(co.1 hgg).1,?_⟩
  have:=World.ownsRow.cells h (g:=g) (by rw[ha];rfl) k u hu
  rw[show((⟨g,0,none⟩:Addr).add k)=⟨g,k,none⟩ by unfold Addr.add;split<;>simp_all]at this
  exact this
theorem pf(r:Sl)(l:List Int)(w:World)(hrow:(ck r l).ok w)(hp:∀c∈l,Pt c)(hl:l.length≤lim):
  Calls prog 123 #[.slice r.a l.length r.cap] w fun e w'=>e= .returned (.string ⟨(jk l).toArray⟩)∧More w w':=by
 have HR:=hide hrow
 have HP:=hide hp
 obtain⟨i0,hi,hz0,hz1,hz2⟩:=info_parts infoByte
 clear hrow hp
 unfold lim at hl
 go_enter func123,ntmps123
 go_wp2
 go_loopw [3,4] (fun bv i wx=>∃(k:Nat)(q:Sl),k≤l.length∧i= .int .i64 k∧bv= .slice q.a (jk (l.take k)).length q.cap∧Hid (Made w q (jk (l.take k)) wx)) (fun _ i _=>l.length-(intOf i).toNat)
 case atStart=>exact⟨0,⟨none,0⟩,da _,rfl,rfl,hide ⟨q9 w,More.refl w,fun g e=>by cases e⟩⟩
 case round=>
  obtain⟨k,q,hk,rfl,rfl,HM⟩:=hrel
  have hxl:=zgn (l.take k)
  have hkl:(l.take k).length=k:=by rw[List.length_take];omega
  by_cases hlt:k<l.length
  ·obtain⟨c,hc⟩:∃c,l[k]? =some c:=⟨l[k],by simp[hlt]⟩
   have hpc:=ae HP c (List.mem_of_getElem? hc)
   obtain⟨g,hra,hg,hcell⟩:=F4 (ae HR) (k:=k) (u:= .int .i64 c) (by simp[ck,hc]) rfl
   have Q5:r.a=some ⟨g,0,none⟩:=hra
   have hcx:wr.cell? ⟨g,k,none⟩=some (.int .i64 c):=by rw[fk (w:=w) ((ae HM).more.block g hg)];exact hcell
   have HN:=hide (zd6 (l.take k) c)
   rw[←Jp l k c hc]at HN
   have HC:=hide (zd5 hpc)
   obtain⟨hc0,hc1⟩:=hpc
   rw[Q5]
   generalize jk (l.take k)=x at*
   have hn1:x.length+4≤maxLen:=by unfold maxLen;omega
   have hn2:x.length+4≤140737488355328:=by omega
   clear hc hra Q5 hcell hxl hkl
   have fin:∀(y:List Int)(n:Nat)(W:World)(a':Addr)(cap':Nat),Em c=y→n=y.length→W.ownsRow 0 5 1 (.slice (some a') (x.length+n) cap') (x.length+n) (byteCells x++y.map (Value.int .u8))→∀o,(wr.alloc o).grownBy W (q.a.map (·.block))→(some a'.block=q.a.map (·.block)∨wr.heap.size+1≤a'.block)→
     ∃(k':Nat)(q':Sl),k'≤l.length∧Value.int .i64 (k+1)= .int .i64 k'∧Value.slice (some a') (x.length+n) cap'= .slice q'.a (jk (l.take k')).length q'.cap∧Hid (Made w q' (jk (l.take k')) W):=by
    intro y n W a' cap' hy hn hown o hgr hfr
    have hyl:(utf c).length=n:=by rw[hn,←hy];simp[utf]
    rw[←hy,←ae HC,←hyl]at hown
    have hM:=Made.grow (ae HM) ((More.refl wr).alloc o) a' cap' hown hgr (by simpa using hfr)
    exact⟨k+1,⟨some a',cap'⟩,hlt,by simp,by rw[ae HN,aq,hyl],by rw[ae HN];exact hide hM⟩
   have FIN:=hide fin
   clear fin HN HC HP HR
   by_cases h1:c<128
   ·go_wp2_with(at_builtin;refine dh _ rfl (.tmp 40) (.tmp 43) 74 rfl 5 i0 _ 1 1 underlying74 hi hz0 hz1 hz2 rfl (by decide) q.a x.length q.cap (byteCells x) rfl (bh (ae HM).ok _) ⟨wr.heap.size,0,none⟩ 1 1 ([c].map (Value.int .u8)) rfl rfl (ii _ _ _ _ rfl) (Un _) (by decide) (by omega) (by omega) ?next)
    case next=>
     intro a' cap' w' hown hgrow hfresh
     have HF:=hide (ae FIN [c] 1 w' a' cap' (by unfold Em;rw[au h1]) rfl hown _ hgrow hfresh)
     clear hown hgrow hfresh FIN HM
     go_wp2
     go_roundw
     case rel=>exact ae HF
     case measure=>simp[intOf];omega
   ·by_cases h2:c<2048
    ·go_wp2_with(at_builtin;refine dh _ rfl (.tmp 48) (.tmp 57) 74 rfl 5 i0 _ 1 1 underlying74 hi hz0 hz1 hz2 rfl (by decide) q.a x.length q.cap (byteCells x) rfl (bh (ae HM).ok _) ⟨wr.heap.size,0,none⟩ 2 2 ([192+c / 64,128+c%64].map (Value.int .u8)) rfl rfl (ii _ _ _ _ rfl) (Un _) (by decide) (by omega) (by omega) ?next)
     case next=>
      intro a' cap' w' hown hgrow hfresh
      have HF:=hide (ae FIN [192+c / 64,128+c%64] 2 w' a' cap' (by unfold Em;rw[ag (by omega),au h2]) rfl hown _ hgrow hfresh)
      clear hown hgrow hfresh FIN HM
      go_wp2
      go_roundw
      case rel=>exact ae HF
      case measure=>simp[intOf];omega
    ·by_cases h3:c<65536
     ·go_wp2_with(at_builtin;refine dh _ rfl (.tmp 62) (.tmp 76) 74 rfl 5 i0 _ 1 1 underlying74 hi hz0 hz1 hz2 rfl (by decide) q.a x.length q.cap (byteCells x) rfl (bh (ae HM).ok _) ⟨wr.heap.size,0,none⟩ 3 3 ([224+c / 4096,128+c / 64%64,128+c%64].map (Value.int .u8)) rfl rfl (ii _ _ _ _ rfl) (Un _) (by decide) (by omega) (by omega) ?next)
      case next=>
       intro a' cap' w' hown hgrow hfresh
       have HF:=hide (ae FIN [224+c / 4096,128+c / 64%64,128+c%64] 3 w' a' cap' (by unfold Em;rw[ag (by omega),ag (by omega),au h3]) rfl hown _ hgrow hfresh)
       clear hown hgrow hfresh FIN HM
       go_wp2
       go_roundw
       case rel=>exact ae HF
       case measure=>simp[intOf];omega
     ·go_wp2_with(at_builtin;refine dh _ rfl (.tmp 16) (.tmp 35) 74 rfl 5 i0 _ 1 1 underlying74 hi hz0 hz1 hz2 rfl (by decide) q.a x.length q.cap (byteCells x) rfl (bh (ae HM).ok _) ⟨wr.heap.size,0,none⟩ 4 4 ([240+c / 262144,128+c / 4096%64,128+c / 64%64,128+c%64].map (Value.int .u8)) rfl rfl (ii _ _ _ _ rfl) (Un _) (by decide) (by omega) (by omega) ?next)
      case next=>
       intro a' cap' w' hown hgrow hfresh
       have HF:=hide (ae FIN [240+c / 262144,128+c / 4096%64,128+c / 64%64,128+c%64] 4 w' a' cap' (by unfold Em;rw[ag (by omega),ag (by omega),ag (by omega)]) rfl hown _ hgrow hfresh)
       clear hown hgrow hfresh FIN HM
       go_wp2
       go_roundw
       case rel=>exact ae HF
       case measure=>simp[intOf];omega
  ·have he:l.take k=l:=List.take_of_length_le (by omega)
   rw[he]at HM
   have hcv:=oe (r:=q) (l:=jk l) (ae HM).ok
   have hM:=hide (ae HM).more
   rw[he]
   clear HM HR HP he hxl hkl
   go_wp2
   go_ret
   exact⟨rfl,ae hM⟩
section
variable{w0:World}{aj:Nat→Prop}{b:Nat}{m m':MS}{R:MR}{ex:List Item}{w w1 w':World}
theorem Nl(h:Mk w0 aj b m ex w)(hs:mj m≤lim):
  Calls prog 104 #[.pointer (some ⟨b,0,none⟩)] w fun e w'=>e= .returned (.tuple #[])∧Mk w0 aj b (flush m) ex w':=by
 obtain⟨R,h⟩:=h
 have c4:w.cell? ⟨b,4,none⟩=some (.slice R.text.a m.text.length R.text.cap):=h.cell 4
 have hlt:=h.obj.lt
 by_cases ht:m.text=[]
 ·have hl:m.text.length=0:=by rw[ht];rfl
  rw[flush,au ht]
  have HT:=hide h.out
  rw[hl]at c4
  clear hl h ht
  go_enter func104,ntmps104
  go_wp2
  go_end0
  exact⟨rfl,ae HT⟩
 ·have hl:0<m.text.length:=by cases hh:m.text with|nil=>exact absurd hh ht|cons=>simp
  rw[flush,ag ht]
  have hl2:(0:Int)<m.text.length:=by omega
  have HSt:=hide (show m.told.length≤lim by unfold mj at hs;omega)
  have HW:=hide (fun W(hm:More w W)=>pf R.text m.text W (Item.more h.px hm) h.ok.text (by unfold mj at hs;omega))
  have c3:w.cell? ⟨b,3,none⟩=some (.slice R.told.a m.told.length R.told.cap):=h.cell 3
  have hf:=h.frozen
  obtain⟨i0,hi,hz0,hz1,hz2⟩:=info_parts My
  clear ht hl hs
  go_enter func104,ntmps104
  go_wp2_with fail
  go_region_law(first
   |(refine fx rfl (.tmp 12) (.tmp 19) 139 rfl 144 i0 _ 6 80 underlying139 hi hz0 hz1 hz2 rfl (by decide) R.told.a m.told.length R.told.cap (eh m.told R.cz) (by simp[Act.eval]) (bh (Item.more h.Nk ((More.refl w).drew.tr hm2)) _) ⟨w2.heap.size,0,none⟩ 1 1 (fq {kind:=0,text:=jk m.text} ⟨none,0⟩) (by simp[Act.eval]) rfl (by exact vv _ _ _ _ _ (by simp)) (r8 _ _) (by decide) (Bi HSt.out) (Cy HSt.out) ?_;intro a' cap' w3 hown hgrow hfresh;obtain⟨hself,hT⟩:=rh.yl {kind:=0,text:=jk m.text} ⟨none,0⟩ h.bare (((More.refl w).drew.tr hm2).alloc _) a' cap' hown hgrow (by simpa using hfresh);have e3:w3.cell? ⟨b,3,none⟩=some (.slice R.told.a m.told.length R.told.cap):=bg hself 3;have ef:=bn hself)
   |(go_simp;go_at_call 123;refine(ae HW _ ?_).mono ?_;(exact(More.refl w).drew);rintro e w2⟨rfl,hm2⟩;have d3:=(hm2.cell (o:=3) hlt).trans c3;have l2:b<w2.heap.size:=ei hlt hm2.size))
  all_goals
   have g4:=hT.cell 4
   have gf:=hT.frozen
   have HE:=hide hT.Nj.out
   simp only[mc,cj]at g4
   clear hT
   go_wp2
   go_end0
   exact⟨rfl,ae HE⟩
end
section
variable{w0:World}{aj:Nat→Prop}{b:Nat}{m m':MS}{R:MR}{ex:List Item}{w w1 w':World}
theorem ub(h:mj m+1≤lim):(flush m).told.length≤lim:=by
 unfold flush
 unfold mj at h
 split
 ·omega
 ·rename_i hne
  have:m.text.length≠0:=fun e=>hne (List.length_eq_zero_iff.1 e)
  simp;omega
theorem qq(t:Tok)(x:Sl)(h:Mk w0 aj b m (lr x t.attrs::ex) w)(hs:mj m+1≤lim):
  Calls prog 229 #[.pointer (some ⟨b,0,none⟩),.agg (fq t x).toArray] w fun e w'=>e= .returned (.tuple #[])∧Mk w0 aj b (tell m t) ex w':=by
 have hm:More w (w.alloc (.cells (fq t x).toArray 144)):=(More.refl w).alloc _
 have hk1:Kept aj w0 (w.alloc (.cells (fq t x).toArray 144)):=h.kept.more hm
 have HC:=hide (Nl (h.fresh hm) (by omega))
 have hln:Hid ((flush m).told.length≤lim):=ub hs
 have Ln:=heap_alloc_new w (.cells (fq t x).toArray 144)
 clear h hs
 simp only[fq]at*
 go_enter func229,ntmps229
 go_wp2_with fail
 refine(ae HC).mono ?_
 rintro e wc⟨rfl,h2⟩
 have hbx:=(h2.stands (g:=w.heap.size) (cx _) (by simp)).trans Ln
 obtain⟨R2,h2⟩:=h2.qn hk1
 have hlt2:=h2.obj.lt
 have hgs:w.heap.size<wc.heap.size:=(co.1 hbx).1
 clear HC Ln
 have c3:wc.cell? ⟨b,3,none⟩=some (.slice R2.told.a (flush m).told.length R2.told.cap):=h2.cell 3
 have hf:=h2.frozen
 have b0:wc.cell? ⟨w.heap.size,0,none⟩=some (.int .i64 t.kind):=bg hbx 0
 have b1:wc.cell? ⟨w.heap.size,1,none⟩=some (.string ⟨t.name.toArray⟩):=bg hbx 1
 have b2:wc.cell? ⟨w.heap.size,2,none⟩=some (.slice x.a t.attrs.length x.cap):=bg hbx 2
 have b3:wc.cell? ⟨w.heap.size,3,none⟩=some (.string ⟨t.text.toArray⟩):=bg hbx 3
 have b4:wc.cell? ⟨w.heap.size,4,none⟩=some (.bool t.flag):=bg hbx 4
 have b5:wc.cell? ⟨w.heap.size,5,none⟩=some (.int .i64 t.place):=bg hbx 5
 have hown0:=h2.Nk
 obtain⟨i0,hi,hz0,hz1,hz2⟩:=info_parts My
 go_wp2_with fail
 go_region_law(refine fx rfl (.tmp 10) (.tmp 12) 139 rfl 144 i0 _ 6 80 underlying139 hi hz0 hz1 hz2 rfl (by decide) R2.told.a (flush m).told.length R2.told.cap (eh (flush m).told R2.cz) (by simp[Act.eval]) (by repeat(first|exact hown0|refine bh ?_ _|refine og ?_)) ⟨wc.heap.size,0,none⟩ 1 1 (fq t x) (by simp[Act.eval]) rfl (by exact vv t x _ _ _ (by simp)) (r8 _ _) (by decide) (Bi hln.out) (Cy hln.out) ?_;intro a' cap' w' hown hgrow hfresh;obtain⟨hself,hT⟩:=rh.yl t x h2 (by repeat(first|exact More.refl _|refine More.alloc ?_ _|refine More.drew ?_)) a' cap' hown hgrow (by simpa using hfresh);have d3:w'.cell? ⟨b,3,none⟩=some (.slice R2.told.a (flush m).told.length R2.told.cap):=bg hself 3;have df:=bn hself)
 all_goals
  go_wp2
  go_end0
  exact⟨rfl,hT.out⟩
theorem qd(w:World)(n:Nat):More w (w.drewN n):=⟨rfl,rfl,rfl,cx _,fun _ _=>rfl⟩
theorem wb(n:Nat)(h:Mk w0 aj b m ex w)(hn:n≤lim):
  Calls prog 118 #[.pointer (some ⟨b,0,none⟩),.int .i64 n] w fun e w'=>e= .returned (.int .i64 (ahead m n))∧∃q,w'=w.drewN q:=by
 obtain⟨R,h⟩:=h
 have c0:w.cell? ⟨b,0,none⟩=some (.slice R.l.a m.l.length R.l.cap):=h.cell 0
 have c1:w.cell? ⟨b,1,none⟩=some (.int .i64 m.pos):=h.cell 1
 have hb1:(m.l.length:Int)≤1099511627776:=by have:=h.ok.ll;unfold lim at this;omega
 have hb2:(m.pos:Int)≤1099511627776:=by have:=h.ok.pl;omega
 have hn':(n:Int)≤1099511627776:=by unfold lim at hn;omega
 by_cases hlt:m.pos+n<m.l.length
 ·obtain⟨c,hc⟩:∃c,m.l[m.pos+n]? =some c:=⟨m.l[m.pos+n],by simp[hlt]⟩
  obtain⟨g,hra,hg,hcell⟩:=F4 h.W8 (k:=m.pos+n) (u:= .int .i64 c) (by simp[ck,hc]) rfl
  have Q5:R.l.a=some ⟨g,0,none⟩:=hra
  have ha:ahead m n=c:=by simp[ahead,hc]
  have hlt':(m.pos:Int)+n<m.l.length:=by omega
  rw[Q5]at c0
  rw[ha]
  clear hra Q5 ha hc h hn
  go_enter func118,ntmps118
  go_wp2_with fail
  go_quiet (fail)
  go_wp2_with fail
  go_quiet (fail)
  go_wp2
  go_ret
  exact⟨rfl,_,World.drewN_drewN _ _ _⟩
 ·have ha:ahead m n= -1:=by simp[ahead,List.getElem?_eq_none (Nat.le_of_not_lt hlt)]
  have hlt':(m.l.length:Int)≤(m.pos:Int)+n:=by omega
  rw[ha]
  clear h hn hlt ha
  go_enter func118,ntmps118
  go_wp2_with fail
  go_quiet (fail)
  go_wp2
  go_ret
  exact⟨rfl,_,rfl⟩
theorem zjx:∀q,q<34→∀k,k<34→k≠32→q≠k→qc q≠qc k:=by decide
theorem zgo:∀k,k<34→k≠32→qc k≠[]:=by decide
theorem zaq{q k:Nat}(h:q≠k)(hk:k<34)(hk':k≠32):(qc q==qc k)=false:=by
 rw[af]
 by_cases hq:q<34
 ·exact zjx q hq k hk hk' h
 ·rw[show qc q=[] by unfold qc;rw[bu,List.getElem?_eq_none (by simp[Hw];omega)];rfl]
  exact fun e=>zgo k hk hk' e.symm
theorem uy(h:Mk w0 aj b m ex w):
  Calls prog 173 #[.pointer (some ⟨b,0,none⟩)] w fun e w'=>e= .returned (.bool (td m))∧w'=w:=by
 obtain⟨R,h⟩:=h
 have c7:w.cell? ⟨b,7,none⟩=some (.string ⟨(qc m.back).toArray⟩):=h.cell 7
 clear h
 by_cases h1:m.back=13
 ·have ha:td m=true:=by simp[td,h1]
  rw[h1,show qc 13=[68,79,85,66,76,69]from rfl]at c7
  rw[ha]
  clear ha h1
  go_enter func173,ntmps173
  go_wp2
  go_ret
  exact⟨rfl,rfl⟩
 by_cases h2:m.back=14
 ·have ha:td m=true:=by simp[td,h2]
  rw[h2,show qc 14=[83,73,78,71,76,69]from rfl]at c7
  rw[ha]
  clear ha h1 h2
  go_enter func173,ntmps173
  go_wp2
  go_ret
  exact⟨rfl,rfl⟩
 by_cases h3:m.back=15
 ·have ha:td m=true:=by simp[td,h3]
  rw[h3,show qc 15=[80,76,65,73,78]from rfl]at c7
  rw[ha]
  clear ha h1 h2 h3
  go_enter func173,ntmps173
  go_wp2
  go_ret
  exact⟨rfl,rfl⟩
 have ha:td m=false:=by simp[td,h1,h2,h3]
 have e1:(qc m.back==[68,79,85,66,76,69])=false:=zaq h1 (by decide) (by decide)
 have e2:(qc m.back==[83,73,78,71,76,69])=false:=zaq h2 (by decide) (by decide)
 have e3:(qc m.back==[80,76,65,73,78])=false:=zaq h3 (by decide) (by decide)
 rw[ha]
 clear ha h1 h2 h3
 generalize qc m.back=t at*
 go_enter func173,ntmps173
 go_wp2
 go_ret
 exact⟨rfl,rfl⟩
theorem W9(h:MOk m)(n:Nat): -1≤ahead m n∧ahead m n≤1114111:=by
 unfold ahead
 cases e:m.l[m.pos+n]? with
 |none=>simp
 |some c=>have:=h.l c (List.mem_of_getElem? e);unfold Pt at this;simp;omega
theorem Mk.drewN(h:Mk w0 aj b m ex w)(q:Nat):Mk w0 aj b m ex (w.drewN q):=h.more (qd w q)
theorem Uo(fold:Bool)(word:Str)(k:Nat)(x:UInt8)(h:word[k]? =some x):ql m fold (word.drop k) k=if(if fold=true then lw (ahead m k)else ahead m k)=x.toNat then ql m fold (word.drop (k+1)) (k+1)else k:=by
 obtain⟨hk,rfl⟩:=cd.1 h
 rw[List.drop_eq_getElem_cons hk,ql]
theorem rm(word:Str)(fold:Bool)(h:Mk w0 aj b m ex w)(hw:word.length≤1000):
  Calls prog 172 #[.pointer (some ⟨b,0,none⟩),.string ⟨word.toArray⟩,.bool fold] w fun e w'=>e= .returned (.int .i64 (ly m word fold))∧∃q,w'=w.drewN q:=by
 have HM:=hide h
 clear h
 go_enter func172,ntmps172
 go_wp2
 go_loopw [7] (fun i wx=>∃(k q:Nat),k≤word.length∧i= .int .i64 k∧Hid (ql m fold (word.drop k) k=ly m word fold)∧wx=w.drewN q) (fun i _=>word.length-(intOf i).toNat)
 case atStart=>exact⟨0,0,da _,rfl,hide rfl,rfl⟩
 case round=>
  obtain⟨k,q,hk,rfl,HQ,rfl⟩:=hrel
  by_cases hlt:k<word.length
  ·obtain⟨x,hx⟩:∃x,word[k]? =some x:=⟨word[k],by simp[hlt]⟩
   have HA:=hide (wb k ((ae HM).drewN q) (by unfold lim;omega))
   have hr:=W9 (ae HM).ok k
   have HF:=hide ((Uo (m:=m) fold word k x hx).symm.trans (ae HQ))
   have hh:k<(⟨word.toArray⟩:ByteArray).size:=by simpa[ByteArray.size]using hlt
   have hy:(⟨word.toArray⟩:ByteArray)[k]'hh=x:=by
    obtain⟨h1,h2⟩:=cd.1 hx
    rw[←h2];rfl
   have hxb:((((⟨word.toArray⟩:ByteArray)[k]'hh).toNat:Nat):Int)≤255:=by have:=((⟨word.toArray⟩:ByteArray)[k]'hh).toNat_lt;omega
   have HL:=fun W=>hide (pg (ahead m k) W hr.1 hr.2)
   have hc:∀c:Int,(c !=((((⟨word.toArray⟩:ByteArray)[k]'hh).toNat:Nat):Int))= !decide (c=x.toNat):=fun c=>by rw[hy];by_cases e:c=x.toNat<;>simp[e,bne]
   clear hx hy HQ hr
   cases fold
   ·simp only[b8,if_false]at HF
    generalize ahead m k=c at*
    by_cases e:c=x.toNat
    ·rw[au e]at HF
     have hcc:=hc c
     rw[gy e]at hcc
     clear hc e HL
     go_wp2_with fail
     refine(ae HA).mono ?_
     rintro e w2⟨rfl,q2,rfl⟩
     go_wp2
     go_roundw
     case rel=>exact⟨k+1,q+q2,hlt,by go_num,HF,by simp⟩
     case measure=>simp[intOf];omega
    ·rw[ag e]at HF
     have hcc:=hc c
     rw[ch e]at hcc
     clear hc e HL
     go_wp2_with fail
     refine(ae HA).mono ?_
     rintro e w2⟨rfl,q2,rfl⟩
     go_wp2
     go_ret
     exact⟨Bm (by rw[←ae HF]),q+q2,by simp⟩
   ·simp only[if_true]at HF
    generalize ahead m k=c at*
    have HL':=fun W=>ae (HL W)
    clear HL
    generalize lw c=d at*
    by_cases e:d=x.toNat
    ·rw[au e]at HF
     have hcc:=hc d
     rw[gy e]at hcc
     clear hc e
     go_wp2_with fail
     refine(ae HA).mono ?_
     rintro e w2⟨rfl,q2,rfl⟩
     go_wp2_with fail
     refine(HL' _).mono ?_
     rintro e w3⟨rfl,rfl⟩
     go_wp2
     go_roundw
     case rel=>exact⟨k+1,q+q2,hlt,by go_num,HF,by simp⟩
     case measure=>simp[intOf];omega
    ·rw[ag e]at HF
     have hcc:=hc d
     rw[ch e]at hcc
     clear hc e
     go_wp2_with fail
     refine(ae HA).mono ?_
     rintro e w2⟨rfl,q2,rfl⟩
     go_wp2_with fail
     refine(HL' _).mono ?_
     rintro e w3⟨rfl,rfl⟩
     go_wp2
     go_ret
     exact⟨Bm (by rw[←ae HF]),q+q2,by simp⟩
  ·rw[List.drop_of_length_le (by omega)]at HQ
   go_wp2
   go_ret
   exact⟨Bm (by rw[←ae HQ];rfl),q,rfl⟩
end
section
variable{w0:World}{aj:Nat→Prop}{b:Nat}{m m':MS}{R:MR}{ex:List Item}{w w1 w':World}
theorem H8(fold:Bool):∀(x:Str)(n:Nat),ql m fold x n≤n+x.length
 |[],n=>by simp[ql]
 |a::x,n=>by
  rw[ql]
  have:=H8 fold x (n+1)
  simp only[ai]
  generalize(if fold=true then lw (ahead m n)else ahead m n)=c
  split<;>omega
theorem Sp(word:Str)(fold:Bool):ly m word fold≤word.length:=by have:=H8 (m:=m) fold word 0;unfold ly;omega
theorem F5(word:Str)(fold:Bool)(h:Mk w0 aj b m ex w)(hw:word.length≤1000):
  Calls prog 171 #[.pointer (some ⟨b,0,none⟩),.string ⟨word.toArray⟩,.bool fold] w fun e w'=>e= .returned (.bool (wait m word fold))∧∃q,w'=w.drewN q:=by
 have HM:=hide (rm word fold h hw)
 have hml:=Sp (m:=m) word fold
 unfold wait
 generalize ly m word fold=k at*
 obtain⟨R,h⟩:=h
 have c0:w.cell? ⟨b,0,none⟩=some (.slice R.l.a m.l.length R.l.cap):=h.cell 0
 have c1:w.cell? ⟨b,1,none⟩=some (.int .i64 m.pos):=h.cell 1
 have c2:w.cell? ⟨b,2,none⟩=some (.bool m.whole):=h.cell 2
 have hb1:(m.l.length:Int)≤1099511627776:=by have:=h.ok.ll;unfold lim at this;omega
 have hb2:(m.pos:Int)≤1099511627776:=by have:=h.ok.pl;omega
 clear h
 cases hwh:m.whole
 ·rw[hwh]at c2
  by_cases h1:k<word.length
  ·go_enter func171,ntmps171
   go_wp2_with fail
   refine(ae HM).mono ?_
   rintro e w2⟨rfl,q2,rfl⟩
   go_wp2_with fail
   go_quiet (fail)
   go_wp2
   go_ret
   exact⟨jt (by rw[Bool.eq_iff_iff];simp[h1];omega),_,World.drewN_drewN _ _ _⟩
  ·go_enter func171,ntmps171
   go_wp2_with fail
   refine(ae HM).mono ?_
   rintro e w2⟨rfl,q2,rfl⟩
   go_wp2_with fail
   refine wp_region_quiet_lit (by kernel_rfl) (by kernel_rfl) (pj.out ?_)
   iterate 12
    refine pj.step (fun K hK=> ?_)
    go_simp
    refine hK _ ?_
    clear hK K
   iterate 12 refine pj.skip (by kernel_rfl) ?_
   iterate 2
    refine pj.step (fun K hK=> ?_)
    go_simp
    refine hK _ ?_
    clear hK K
   refine⟨wpQuiet_nil ?_⟩
   intro _ hw'
   obtain⟨nq,hw''⟩:=hw'
   subst hw''
   go_wp2
   go_ret
   exact⟨jt (by simp;omega),_,World.drewN_drewN _ _ _⟩
 ·rw[hwh]at c2
  go_enter func171,ntmps171
  go_wp2_with fail
  refine(ae HM).mono ?_
  rintro e w2⟨rfl,q2,rfl⟩
  go_wp2_with fail
  refine wp_region_quiet_lit (by kernel_rfl) (by kernel_rfl) (pj.out ?_)
  iterate 6
   refine pj.step (fun K hK=> ?_)
   go_simp
   refine hK _ ?_
   clear hK K
  iterate 4 refine pj.skip (by kernel_rfl) ?_
  iterate 2
   refine pj.step (fun K hK=> ?_)
   go_simp
   refine hK _ ?_
   clear hK K
  iterate 12 refine pj.skip (by kernel_rfl) ?_
  iterate 2
   refine pj.step (fun K hK=> ?_)
   go_simp
   refine hK _ ?_
   clear hK K
  refine⟨wpQuiet_nil ?_⟩
  intro _ hw'
  obtain⟨nq,hw''⟩:=hw'
  subst hw''
  go_wp2
  go_ret
  exact⟨jt (by simp),_,World.drewN_drewN _ _ _⟩
theorem zgp(s:Str):∀c∈n8 s,Pt c:=by
 intro c hc;obtain⟨x,_,rfl⟩:=List.mem_map.1 hc
 have:=x.toNat_lt;unfold Pt;omega
theorem ny{x y:List Int}(hx:∀c∈x,Pt c)(hy:∀c∈y,Pt c):∀c∈x++y,Pt c:=fun c hc=>(List.mem_append.1 hc).elim (hx c) (hy c)
theorem qa:(prog.info? 3).map (fun i=>(i.zero,i.size,i.bytes))=some (some (.int .i64 0),1,8):=by kernel_rfl
theorem vg{n:Nat}(h:n≤lim):n≤maxLen∧n*8≤140737488355328:=by unfold lim at h;unfold maxLen;omega
theorem nu{x y:List Int}{W:World}{a':Addr}{cap':Nat}{r:Sl}{W1:World}(hown:W.ownsRow 0 3 1 (.slice (some a') (x.length+y.length) cap') (x.length+y.length) (x.map (Value.int .i64)++y.map (Value.int .i64)))(hf:some a'.block=r.a.map (·.block)∨W1.heap.size≤a'.block):(ck ⟨some a',cap'⟩ (x++y)).ok W∧o0 W1 r.a (some a'):=by
 refine⟨by simpa[Item.ok,ck]using hown,?_⟩
 rcases hf with hf|hf
 ·exact .inl (by simpa using hf)
 ·exact .inr ⟨_,rfl,hf⟩
theorem Cc(s:Str)(h:Mk w0 aj b m ex w)(hs:mj m+s.length≤lim)(hl:s.length≤1000):
  Calls prog 179 #[.pointer (some ⟨b,0,none⟩),.string ⟨s.toArray⟩] w fun e w'=>e= .returned (.tuple #[])∧Mk w0 aj b (say m s) ex w':=by
 have HM:=hide (show Mk w0 aj b {m with text:=m.text++n8 (s.take 0)} ex w by simpa[n8]using h)
 obtain⟨i0,hi,hz0,hz1,hz2⟩:=info_parts qa
 have HS:=hide hs
 clear h hs
 go_enter func179,ntmps179
 go_wp2
 go_loopw [4] (fun i wx=>∃(k:Nat),k≤s.length∧i= .int .i64 k∧Hid (Mk w0 aj b {m with text:=m.text++n8 (s.take k)} ex wx)) (fun i _=>s.length-(intOf i).toNat)
 case atStart=>exact⟨0,da _,rfl,HM⟩
 case round=>
  obtain⟨k,hk,rfl,HQ⟩:=hrel
  clear HM
  by_cases hlt:k<s.length
  ·obtain⟨x,hx⟩:∃x,s[k]? =some x:=⟨s[k],by simp[hlt]⟩
   have hh:k<(⟨s.toArray⟩:ByteArray).size:=by simpa[ByteArray.size]using hlt
   have hy:(⟨s.toArray⟩:ByteArray)[k]'hh=x:=by
    obtain⟨h1,h2⟩:=cd.1 hx
    rw[←h2];rfl
   have hxb:((((⟨s.toArray⟩:ByteArray)[k]'hh).toNat:Nat):Int)≤255:=by have:=((⟨s.toArray⟩:ByteArray)[k]'hh).toNat_lt;omega
   have HN:=hide (show m.text++n8 (s.take (k+1))=(m.text++n8 (s.take k))++[((((⟨s.toArray⟩:ByteArray)[k]'hh).toNat:Nat):Int)] by rw[Jp s k x hx,hy];simp[n8])
   have HP:=hide (ny (ae HQ).ok.text (zgp [x]))
   rw[show n8 [x]=[((((⟨s.toArray⟩:ByteArray)[k]'hh).toNat:Nat):Int)] by rw[hy];rfl]at HP
   have hkl:(s.take k).length=k:=by rw[List.length_take];omega
   have hz:(m.text++n8 (s.take k)).length+1≤lim:=by have:=ae HS;unfold mj at this;simp only[aq,n8,List.length_map,hkl];omega
   generalize m.text++n8 (s.take k)=y at*
   obtain⟨R,h⟩:=ae HQ
   have c4:wr.cell? ⟨b,4,none⟩=some (.slice R.text.a y.length R.text.cap):=h.cell 4
   have hf:=h.frozen
   have hb:=h.obj.lt
   have hrow:wr.ownsRow 0 3 1 (.slice R.text.a y.length R.text.cap) y.length (y.map (Value.int .i64)):=h.px
   have HZ:=hide (vg hz)
   have HWR:=hide (wrap_small ((((⟨s.toArray⟩:ByteArray)[k]'hh).toNat:Nat):Int) (by omega) (by omega))
   clear hx hy hkl hz HQ
   go_wp2_with fail
   go_region_law(refine fx rfl (.tmp 15) (.tmp 20) 45 rfl 3 i0 _ 1 8 underlying45 hi hz0 hz1 hz2 rfl (by decide) R.text.a y.length R.text.cap (y.map (Value.int .i64)) (by simp[Act.eval]) (by repeat(first|exact hrow|refine bh ?_ _|refine og ?_)) ⟨wr.heap.size,0,none⟩ 1 1 ([((((⟨s.toArray⟩:ByteArray)[k]'hh).toNat:Nat):Int)].map (Value.int .i64)) (by simp[Act.eval]) rfl (by rw[ae HWR];exact ii _ _ _ _ (by rfl)) (km _) (by decide) (ae HZ).1 (ae HZ).2 ?_;intro a' cap' w' hown hgrow hfresh;obtain⟨hok,hfr⟩:=nu (y:=[_]) hown hfresh;obtain⟨hself,hT⟩:=h.po (by repeat(first|exact More.refl _|refine More.alloc ?_ _|refine More.drew ?_)) _ ⟨some a',cap'⟩ hok hgrow (by simpa[o0]using hfr) (ae HP);have d4:w'.cell? ⟨b,4,none⟩=some (.slice R.text.a y.length R.text.cap):=bg hself 4;have df:=bn hself)
   all_goals
    have HT:=hide hT.out
    rw[aq,ai,ak,←ae HN]at HT
    clear hT h hok hfr hown hgrow hfresh
    go_wp2
    go_roundw
    case rel=>exact⟨k+1,hlt,by go_num,HT⟩
    case measure=>simp[intOf];omega
  ·rw[show s.take k=s from List.take_of_length_le (by omega)]at HQ
   go_wp2
   go_end0
   exact⟨rfl,ae HQ⟩
theorem Xa(s:Str)(h:Mk w0 aj b m ex w)(hs:mj m+s.length≤lim)(hl:s.length≤1000):
  Calls prog 176 #[.pointer (some ⟨b,0,none⟩),.string ⟨s.toArray⟩] w fun e w'=>e= .returned (.tuple #[])∧Mk w0 aj b (add m s) ex w':=by
 have HM:=hide (show Mk w0 aj b {m with name:=m.name++n8 (s.take 0)} ex w by simpa[n8]using h)
 obtain⟨i0,hi,hz0,hz1,hz2⟩:=info_parts qa
 have HS:=hide hs
 clear h hs
 go_enter func176,ntmps176
 go_wp2
 go_loopw [4] (fun i wx=>∃(k:Nat),k≤s.length∧i= .int .i64 k∧Hid (Mk w0 aj b {m with name:=m.name++n8 (s.take k)} ex wx)) (fun i _=>s.length-(intOf i).toNat)
 case atStart=>exact⟨0,da _,rfl,HM⟩
 case round=>
  obtain⟨k,hk,rfl,HQ⟩:=hrel
  clear HM
  by_cases hlt:k<s.length
  ·obtain⟨x,hx⟩:∃x,s[k]? =some x:=⟨s[k],by simp[hlt]⟩
   have hh:k<(⟨s.toArray⟩:ByteArray).size:=by simpa[ByteArray.size]using hlt
   have hy:(⟨s.toArray⟩:ByteArray)[k]'hh=x:=by
    obtain⟨h1,h2⟩:=cd.1 hx
    rw[←h2];rfl
   have hxb:((((⟨s.toArray⟩:ByteArray)[k]'hh).toNat:Nat):Int)≤255:=by have:=((⟨s.toArray⟩:ByteArray)[k]'hh).toNat_lt;omega
   have HN:=hide (show m.name++n8 (s.take (k+1))=(m.name++n8 (s.take k))++[((((⟨s.toArray⟩:ByteArray)[k]'hh).toNat:Nat):Int)] by rw[Jp s k x hx,hy];simp[n8])
   have HP:=hide (ny (ae HQ).ok.name (zgp [x]))
   rw[show n8 [x]=[((((⟨s.toArray⟩:ByteArray)[k]'hh).toNat:Nat):Int)] by rw[hy];rfl]at HP
   have hkl:(s.take k).length=k:=by rw[List.length_take];omega
   have hz:(m.name++n8 (s.take k)).length+1≤lim:=by have:=ae HS;unfold mj at this;simp only[aq,n8,List.length_map,hkl];omega
   generalize m.name++n8 (s.take k)=y at*
   obtain⟨R,h⟩:=ae HQ
   have c4:wr.cell? ⟨b,14,none⟩=some (.slice R.name.a y.length R.name.cap):=h.cell 14
   have hf:=h.frozen
   have hb:=h.obj.lt
   have hrow:wr.ownsRow 0 3 1 (.slice R.name.a y.length R.name.cap) y.length (y.map (Value.int .i64)):=h.qx
   have HZ:=hide (vg hz)
   have HWR:=hide (wrap_small ((((⟨s.toArray⟩:ByteArray)[k]'hh).toNat:Nat):Int) (by omega) (by omega))
   clear hx hy hkl hz HQ
   go_wp2_with fail
   go_region_law(refine fx rfl (.tmp 15) (.tmp 20) 45 rfl 3 i0 _ 1 8 underlying45 hi hz0 hz1 hz2 rfl (by decide) R.name.a y.length R.name.cap (y.map (Value.int .i64)) (by simp[Act.eval]) (by repeat(first|exact hrow|refine bh ?_ _|refine og ?_)) ⟨wr.heap.size,0,none⟩ 1 1 ([((((⟨s.toArray⟩:ByteArray)[k]'hh).toNat:Nat):Int)].map (Value.int .i64)) (by simp[Act.eval]) rfl (by rw[ae HWR];exact ii _ _ _ _ (by rfl)) (km _) (by decide) (ae HZ).1 (ae HZ).2 ?_;intro a' cap' w' hown hgrow hfresh;obtain⟨hok,hfr⟩:=nu (y:=[_]) hown hfresh;obtain⟨hself,hT⟩:=h.ux (by repeat(first|exact More.refl _|refine More.alloc ?_ _|refine More.drew ?_)) _ ⟨some a',cap'⟩ hok hgrow (by simpa[o0]using hfr) (ae HP);have d4:w'.cell? ⟨b,14,none⟩=some (.slice R.name.a y.length R.name.cap):=bg hself 14;have df:=bn hself)
   all_goals
    have HT:=hide hT.out
    rw[aq,ai,ak,←ae HN]at HT
    clear hT h hok hfr hown hgrow hfresh
    go_wp2
    go_roundw
    case rel=>exact⟨k+1,hlt,by go_num,HT⟩
    case measure=>simp[intOf];omega
  ·rw[show s.take k=s from List.take_of_length_le (by omega)]at HQ
   go_wp2
   go_end0
   exact⟨rfl,ae HQ⟩
end
end Go.Proofs.YtdfmapcnfficlaaGreatDoor.M

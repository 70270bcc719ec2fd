import Derived.Test.YtdfmapcnfficlaaGreatDoorP20
import Derived.Test.YtdfmapcnfficlaaGreatDoorP06
import Derived.Lib.TrimU
import Derived.Laws.Concat
import Derived.Laws.Runes
set_option linter.all false
set_option maxHeartbeats 2000000
set_option maxRecDepth 1000000
namespace Go.Proofs.YtdfmapcnfficlaaGreatDoor
open Go.Proofs.Tryz
open Go Go.RowKit
section
variable{w0:World}{aj:Nat→Prop}{b:Nat}{s:TS}{ex:List Item}{w:World}{R:n9}
theorem zc4(s:TS):s.text.length≤sz s:=by unfold sz;omega
def ke(s:TS)(c:Int):TS:={dp s c with text:=s.text++Lib.encodeRune (bb c)}
theorem Hb(s:TS)(c:Int):ke s c={dp s c with text:=s.text++Lib.encodeRune (bb c)}:=rfl
def kx(s:TS)(c:Int):Int×TS:=
 if c= -1 then(0,s)else
 if c=38 then(0,(du s))else
 if c=60 then(0,{s with state:=3})else
 if c=0 then(0,(gd (wrong s [110,117,108]) (Lib.encodeRune c)))else
 (0,(gd s (Lib.encodeRune c)))
theorem L4(c:Int)(hc:Rn c)(h:Tk w0 aj b s ex w)(hs:sz s+12≤lim):
  Calls prog 112 #[.pointer (some ⟨b,0,none⟩),.int .i32 c] w fun e w'=>e= .returned (.int .i64 (kx s c).1)∧Tk w0 aj b (kx s c).2 ex w':=by
 have HS:=hide hs
 clear hs
 by_cases nc:c= -1
 ·have y:=nc
  clear nc
  subst y
  have hfin:kx s (-1)=(0,s):=by simp[kx]
  rw[hfin]
  clear hfin
  go_enter func112,ntmps112
  go_wp2
  go_ret
  exact⟨rfl,h⟩
 by_cases n38:c=38
 ·have y:=n38
  clear n38
  subst y
  have hfin:kx s 38=(0,(du s)):=by simp[kx,nc]
  rw[hfin]
  clear hfin
  have Cz:((38:Int)== -1)=false:=af.2 nc
  clear nc
  go_enter func112,ntmps112
  go_wp2_with fail
  refine(sn h (by have:=ae HS;first|omega|(simp only[bw,d8,bd,cr,ai,ak];omega))).mono ?_
  rintro e w2⟨rfl,h1⟩
  go_wp2
  go_ret
  exact⟨rfl,h1⟩
 by_cases n60:c=60
 ·have y:=n60
  clear n60
  subst y
  have hfin:kx s 60=(0,{s with state:=3}):=by simp[kx,nc,n38]
  rw[hfin]
  clear hfin
  have Cz:((60:Int)== -1)=false:=af.2 nc
  have e38:((60:Int)==38)=false:=af.2 n38
  clear nc
  clear n38
  go_enter func112,ntmps112
  go_wp2_with fail
  refine(mr 3 h).mono ?_
  rintro e w2⟨rfl,h1⟩
  go_wp2
  go_ret
  exact⟨rfl,h1⟩
 by_cases n0:c=0
 ·have y:=n0
  clear n0
  subst y
  have hfin:kx s 0=(0,(gd (wrong s [110,117,108]) (Lib.encodeRune 0))):=by simp[kx,nc,n38,n60]
  rw[hfin]
  clear hfin
  have Cz:((0:Int)== -1)=false:=af.2 nc
  have e38:((0:Int)==38)=false:=af.2 n38
  have e60:((0:Int)==60)=false:=af.2 n60
  clear nc
  clear n38
  clear n60
  go_enter func112,ntmps112
  go_wp2_with fail
  refine(mb [110,117,108] h (by have:=ae HS;first|omega|(simp only[bw,d8,bd,cr,ai,ak];omega))).mono ?_
  rintro e w2⟨rfl,h1⟩
  obtain⟨R2,hR2⟩:=Tk.reg h1
  have c2:=xg hR2
  have f2:=hR2.1.frozen
  go_wp2_with fail
  refine(nj R2.text ((wrong s [110,117,108])).text 0 (by have:=hc.1;omega) (by have:=hc.2;omega) _ (px hR2) (by have:=ae HS;have:=zc4 (wrong s [110,117,108]);(try simp only[bw]at this);unfold lim at*;omega)).mono ?_
  rintro e w3⟨r2,o2,rfl,hok2,hg2,hf2⟩
  obtain⟨xy,h2⟩:=ld.po hR2.1 hR2.2 ((More.refl _).alloc o2) _ r2 hok2 hg2 hf2
  have dc2:=bg xy 8
  have df2:=bn xy
  simp only[cellsOf]at dc2
  simp only[aq]at h2
  clear hok2 hg2 hf2
  go_wp2
  go_ret
  exact⟨rfl,h2⟩
 have hfin:kx s c=(0,(gd s (Lib.encodeRune c))):=by simp[kx,nc,n38,n60,n0]
 rw[hfin]
 clear hfin
 have Cz:((c:Int)== -1)=false:=af.2 nc
 have e38:((c:Int)==38)=false:=af.2 n38
 have e60:((c:Int)==60)=false:=af.2 n60
 have e0:((c:Int)==0)=false:=af.2 n0
 clear nc
 clear n38
 clear n60
 clear n0
 go_enter func112,ntmps112
 obtain⟨R1,uu⟩:=Tk.reg h
 have c1:=xg uu
 have f1:=uu.1.frozen
 go_wp2_with fail
 refine(nj R1.text (s).text c (by have:=hc.1;omega) (by have:=hc.2;omega) _ (px uu) (by have:=ae HS;have:=zc4 s;(try simp only[bw]at this);unfold lim at*;omega)).mono ?_
 rintro e w2⟨r1,o1,rfl,hok1,hg1,hf1⟩
 obtain⟨zhb,h1⟩:=ld.po uu.1 uu.2 ((More.refl _).alloc o1) _ r1 hok1 hg1 hf1
 have dc1:=bg zhb 8
 have df1:=bn zhb
 simp only[cellsOf]at dc1
 simp only[aq]at h1
 clear hok1 hg1 hf1
 go_wp2
 go_ret
 exact⟨rfl,h1⟩
def jz(s:TS)(c:Int):Int×TS:=
 if c= -1 then(0,s)else
 if c=38 then(0,(du s))else
 if c=60 then(0,{s with state:=5})else
 (0,(ke s c))
theorem J1(c:Int)(hc:Rn c)(hst:s.state=1)(h:Tk w0 aj b s ex w)(hs:sz s+12≤lim):
  Calls prog 106 #[.pointer (some ⟨b,0,none⟩),.int .i32 c] w fun e w'=>e= .returned (.int .i64 (jz s c).1)∧Tk w0 aj b (jz s c).2 ex w':=by
 have HS:=hide hs
 clear hs
 obtain⟨R0,hR0⟩:=h.reg
 have cst:=hR0.1.cell 5
 simp only[cellsOf,hst]at cst
 by_cases nc:c= -1
 ·have y:=nc
  clear nc
  subst y
  have hfin:jz s (-1)=(0,s):=by simp[jz]
  rw[hfin]
  clear hfin
  go_enter func106,ntmps106
  go_wp2
  go_ret
  exact⟨rfl,h⟩
 by_cases n38:c=38
 ·have y:=n38
  clear n38
  subst y
  have hfin:jz s 38=(0,(du s)):=by simp[jz,nc]
  rw[hfin]
  clear hfin
  have Cz:((38:Int)== -1)=false:=af.2 nc
  clear nc
  go_enter func106,ntmps106
  go_wp2_with fail
  refine(sn h (by have:=ae HS;first|omega|(simp only[bw,d8,bd,cr,ai,ak];omega))).mono ?_
  rintro e w2⟨rfl,h1⟩
  go_wp2
  go_ret
  exact⟨rfl,h1⟩
 by_cases n60:c=60
 ·have y:=n60
  clear n60
  subst y
  have hfin:jz s 60=(0,{s with state:=5}):=by simp[jz,nc,n38]
  rw[hfin]
  clear hfin
  have Cz:((60:Int)== -1)=false:=af.2 nc
  have e38:((60:Int)==38)=false:=af.2 n38
  clear nc
  clear n38
  go_enter func106,ntmps106
  go_wp2_with fail
  refine(mr 5 h).mono ?_
  rintro e w2⟨rfl,h1⟩
  go_wp2
  go_ret
  exact⟨rfl,h1⟩
 have hfin:jz s c=(0,(ke s c)):=by simp[jz,nc,n38,n60]
 rw[hfin]
 clear hfin
 have Cz:((c:Int)== -1)=false:=af.2 nc
 have e38:((c:Int)==38)=false:=af.2 n38
 have e60:((c:Int)==60)=false:=af.2 n60
 clear nc
 clear n38
 clear n60
 obtain⟨R,hR⟩:=h.reg
 have c1:w.cell? ⟨b,8,none⟩=some (.slice R.text.a s.text.length R.text.cap):=hR.1.cell 8
 have HN:=hide (p5 c (qb hR) (by have:=ae HS;unfold sz at this;omega))
 have HR:=hide (sk hc)
 have HL:=hide (ie hc)
 have HP:=hide (C0 (ie hc))
 clear h
 go_enter func106,ntmps106
 go_wp2_with fail
 go_region_with(first
  |(go_at_call 127;refine(ae HN).mono ?_;rintro e w1⟨tl,ta,rfl,h1⟩;have d1:w1.cell? ⟨b,8,none⟩=some (.slice R.text.a s.text.length R.text.cap):=(by rw[h1.1.cell];simp[cellsOf,qt]))
  |(go_at_call 126;refine(nj R.text s.text (bb c) (ae HR).1 (ae HR).2 _ (by have:=h1.1.rows.ok (cq R.text (dp s c).text) (by simp[fe]);rw[qt]at this;exact this) (by have:=ae HS;unfold sz lim at this;omega)).mono ?_;rintro e w2⟨r',o,rfl,hok,hg,hf⟩;obtain⟨hself,hT⟩:=ld.po h1.1 h1.2 ((More.refl _).alloc o) _ r' hok hg hf;have d2:=bg hself 8;have df:=bn hself;simp only[cellsOf]at d2;simp only[aq]at hT))
 all_goals
  go_wp2
  go_ret
  exact⟨rfl,by rw[Hb];exact hT⟩
def l7(s:TS)(c:Int):Int×TS:=
 if c= -1 then(0,s)else
 if c=38 then(0,(ke s c))else
 if c=60 then(0,{s with state:=5})else
 (0,(ke s c))
theorem Nz(c:Int)(hc:Rn c)(hst:s.state=2)(h:Tk w0 aj b s ex w)(hs:sz s+12≤lim):
  Calls prog 106 #[.pointer (some ⟨b,0,none⟩),.int .i32 c] w fun e w'=>e= .returned (.int .i64 (l7 s c).1)∧Tk w0 aj b (l7 s c).2 ex w':=by
 have HS:=hide hs
 clear hs
 obtain⟨R0,hR0⟩:=h.reg
 have cst:=hR0.1.cell 5
 simp only[cellsOf,hst]at cst
 by_cases nc:c= -1
 ·have y:=nc
  clear nc
  subst y
  have hfin:l7 s (-1)=(0,s):=by simp[l7]
  rw[hfin]
  clear hfin
  go_enter func106,ntmps106
  go_wp2
  go_ret
  exact⟨rfl,h⟩
 by_cases n38:c=38
 ·have y:=n38
  clear n38
  subst y
  have hfin:l7 s 38=(0,(ke s 38)):=by simp[l7,nc]
  rw[hfin]
  clear hfin
  have Cz:((38:Int)== -1)=false:=af.2 nc
  clear nc
  obtain⟨R,hR⟩:=h.reg
  have c1:w.cell? ⟨b,8,none⟩=some (.slice R.text.a s.text.length R.text.cap):=hR.1.cell 8
  have HN:=hide (p5 38 (qb hR) (by have:=ae HS;unfold sz at this;omega))
  have HR:=hide (sk hc)
  have HL:=hide (ie hc)
  have HP:=hide (C0 (ie hc))
  clear h
  go_enter func106,ntmps106
  go_wp2_with fail
  go_region_with(first
   |(go_at_call 127;refine(ae HN).mono ?_;rintro e w1⟨tl,ta,rfl,h1⟩;have d1:w1.cell? ⟨b,8,none⟩=some (.slice R.text.a s.text.length R.text.cap):=(by rw[h1.1.cell];simp[cellsOf,qt]))
   |(go_at_call 126;refine(nj R.text s.text (bb 38) (ae HR).1 (ae HR).2 _ (by have:=h1.1.rows.ok (cq R.text (dp s 38).text) (by simp[fe]);rw[qt]at this;exact this) (by have:=ae HS;unfold sz lim at this;omega)).mono ?_;rintro e w2⟨r',o,rfl,hok,hg,hf⟩;obtain⟨hself,hT⟩:=ld.po h1.1 h1.2 ((More.refl _).alloc o) _ r' hok hg hf;have d2:=bg hself 8;have df:=bn hself;simp only[cellsOf]at d2;simp only[aq]at hT))
  all_goals
   go_wp2
   go_ret
   exact⟨rfl,by rw[Hb];exact hT⟩
 by_cases n60:c=60
 ·have y:=n60
  clear n60
  subst y
  have hfin:l7 s 60=(0,{s with state:=5}):=by simp[l7,nc,n38]
  rw[hfin]
  clear hfin
  have Cz:((60:Int)== -1)=false:=af.2 nc
  have e38:((60:Int)==38)=false:=af.2 n38
  clear nc
  clear n38
  go_enter func106,ntmps106
  go_wp2_with fail
  refine(mr 5 h).mono ?_
  rintro e w2⟨rfl,h1⟩
  go_wp2
  go_ret
  exact⟨rfl,h1⟩
 have hfin:l7 s c=(0,(ke s c)):=by simp[l7,nc,n38,n60]
 rw[hfin]
 clear hfin
 have Cz:((c:Int)== -1)=false:=af.2 nc
 have e38:((c:Int)==38)=false:=af.2 n38
 have e60:((c:Int)==60)=false:=af.2 n60
 clear nc
 clear n38
 clear n60
 obtain⟨R,hR⟩:=h.reg
 have c1:w.cell? ⟨b,8,none⟩=some (.slice R.text.a s.text.length R.text.cap):=hR.1.cell 8
 have HN:=hide (p5 c (qb hR) (by have:=ae HS;unfold sz at this;omega))
 have HR:=hide (sk hc)
 have HL:=hide (ie hc)
 have HP:=hide (C0 (ie hc))
 clear h
 go_enter func106,ntmps106
 go_wp2_with fail
 go_region_with(first
  |(go_at_call 127;refine(ae HN).mono ?_;rintro e w1⟨tl,ta,rfl,h1⟩;have d1:w1.cell? ⟨b,8,none⟩=some (.slice R.text.a s.text.length R.text.cap):=(by rw[h1.1.cell];simp[cellsOf,qt]))
  |(go_at_call 126;refine(nj R.text s.text (bb c) (ae HR).1 (ae HR).2 _ (by have:=h1.1.rows.ok (cq R.text (dp s c).text) (by simp[fe]);rw[qt]at this;exact this) (by have:=ae HS;unfold sz lim at this;omega)).mono ?_;rintro e w2⟨r',o,rfl,hok,hg,hf⟩;obtain⟨hself,hT⟩:=ld.po h1.1 h1.2 ((More.refl _).alloc o) _ r' hok hg hf;have d2:=bg hself 8;have df:=bn hself;simp only[cellsOf]at d2;simp only[aq]at hT))
 all_goals
  go_wp2
  go_ret
  exact⟨rfl,by rw[Hb];exact hT⟩
end
section
variable{w0:World}{aj:Nat→Prop}{b:Nat}{s:TS}{ex:List Item}{w:World}{R:n9}
def l8(q:Int):Bool:=q==13||q==14||q==15
theorem wd(h:Tk w0 aj b s ex w):
  Calls prog 250 #[.pointer (some ⟨b,0,none⟩)] w fun e w'=>e= .returned (.bool (l8 s.ev))∧w'=w:=by
 obtain⟨R,hR⟩:=h.reg
 have c0:=hR.1.cell 20
 simp only[cellsOf]at c0
 clear hR h
 generalize s.ev=q at*
 by_cases h1:q=13
 ·subst h1
  go_enter func250,ntmps250
  go_wp2
  go_ret
  exact⟨rfl,rfl⟩
 by_cases h2:q=14
 ·subst h2
  go_enter func250,ntmps250
  go_wp2
  go_ret
  exact⟨rfl,rfl⟩
 by_cases h3:q=15
 ·subst h3
  go_enter func250,ntmps250
  go_wp2
  go_ret
  exact⟨rfl,rfl⟩
 have e1:(q==13)=false:=af.2 h1
 have e2:(q==14)=false:=af.2 h2
 have e3:(q==15)=false:=af.2 h3
 go_enter func250,ntmps250
 go_wp2
 go_ret
 exact⟨by simp[l8,e1,e2,e3],rfl⟩
def lh(t:ByteArray):Nat→Nat→TS→TS
 |0,_,s=>s
 |f+1,pos,s=>if pos<t.size then lh t f (pos+(Utf8.decode t pos).2) (fw s (Utf8.decode t pos).1)else s
theorem U1(t:ByteArray)(f pos:Nat)(s:TS)(h:¬pos<t.size):lh t f pos s=s:=by
 cases f<;>simp[lh,h]
def cn(s:TS)(l:Str):TS:=if l8 s.ev=true then lh ⟨l.toArray⟩ l.length 0 s else gd s l
theorem F8(f:xp→xp)(n:Nat)(hf:∀a,(f a).name.length+(f a).value.length≤a.name.length+a.value.length+n):∀l:List xp,tp (re f l)≤tp l+n
 |[]=>by simp[re,tp]
 |[a]=>by have:=hf a;simp[re,tp];omega
 |a::b::r=>by have:=F8 f n hf (b::r);simp only[re,tp]at*;omega
theorem sq(f:xp→xp):∀l:List xp,(re f l).length=l.length
 |[]=>rfl
 |[a]=>rfl
 |a::b::r=>by have:=sq f (b::r);simp only[re,ai]at*;omega
theorem Bw(s:TS)(c:Int):sz (fw s c)≤sz s+4:=by
 have h1:=F8 (fun a=>if a.twice then a else{a with value:=a.value++Lib.encodeRune c}) 4 (fun a=>by split;omega;have:=oh c;simp;omega) s.tag.cy
 have h2:=sq (fun a=>if a.twice then a else{a with value:=a.value++Lib.encodeRune c}) s.tag.cy
 simp only[sz,fw]at*
 omega
theorem qg{s:TS}(c:Int)(h:s.tag.cy≠[]):(fw s c).tag.cy≠[]:=by
 intro e
 have:=sq (fun a=>if a.twice then a else{a with value:=a.value++Lib.encodeRune c}) s.tag.cy
 simp only[fw]at e
 rw[e]at this
 exact h (List.eq_nil_of_length_eq_zero this.symm)
theorem If(l:Str)(hv:l8 s.ev=true)(hat:s.tag.cy≠[])(h:Tk w0 aj b s ex w)(hs:sz s+4*l.length+8≤lim):
  Calls prog 214 #[.pointer (some ⟨b,0,none⟩),.string ⟨l.toArray⟩] w fun e w'=>e= .returned (.tuple #[])∧Tk w0 aj b (cn s l) ex w':=by
 rw[cn,au hv]
 have hsz:(⟨l.toArray⟩:ByteArray).size=l.length:=by simp[ByteArray.size]
 rw[←hsz]at hs⊢
 generalize(⟨l.toArray⟩:ByteArray)=t at*
 have HV:=hide (wd h)
 rw[hv]at HV
 have HT:=hide h
 have HS:=hide hs
 have hge:=h.2.size
 clear h hs hsz
 go_enter func214,ntmps214
 go_wp2_with(go_at_call 250;refine(ae HV).mono ?_;rintro e w1⟨rfl,rfl⟩)
 go_loopg [] t.size (fun gf wx=>∃(pos:Nat)(s1:TS),wx.heap[w1.heap.size]? =some (.stringIter t pos)∧Tk w0 aj b s1 ex wx∧s1.tag.cy≠[]∧sz s1+4*gf+8≤lim∧lh t gf pos s1=lh t t.size 0 s∧t.size≤pos+gf)
 case atStart=>exact⟨0,s,World.iter_heap w1 t 0,M9 (ae HT) _,hat,ae HS,rfl,by omega⟩
 case round=>
  obtain⟨pos,s1,hit,hT,zo8,hsz,hrun,hfu⟩:=hrel
  by_cases hps:pos<t.size
  ·obtain⟨g',rfl⟩:∃g',gk=g'+1:=⟨gk-1,by omega⟩
   have hnx:∀ty,(Instr.next (.pointer (some ⟨w1.heap.size,0,none⟩)) true ty).run prog wr=_:=fun ty=>Lib.run_next_any_at wr w1.heap.size t pos ty hit hps
   have hwd:=Lib.width_pos t pos
   have hrl:=Lib.rune_le t pos
   simp only[lh,hps,if_true]at hrun
   obtain⟨c,hc⟩:∃c,(Utf8.decode t pos).1=c:=⟨_,rfl⟩
   obtain⟨K,hK⟩:∃K,(Utf8.decode t pos).2=K:=⟨_,rfl⟩
   rw[hc,hK]at hnx hrun
   rw[hK]at hwd
   rw[hc]at hrl
   have hit2:=Lib.iterAt_heap wr w1.heap.size t pos (pos+K) hit
   have hT2:=(hT.other hit hge (C8 wr w1.heap.size t (pos+K)).1 (C8 wr w1.heap.size t (pos+K)).2)
   generalize wr.iterAt w1.heap.size t (pos+K)=W at*
   have hT3:=hT2.zhc hit2
   have HA:=hide (pz c (by constructor<;>omega) zo8 hT3 (by omega))
   have HG:=hide (And.intro hT2.2 (And.intro hit2 (And.intro hrun (And.intro hfu (And.intro hsz (And.intro (Bw s1 c) (qg c zo8)))))))
   clear hT hT2 hT3 hrun hfu hsz hit2
   go_wp2_with(go_at_call 201;refine(ae HA).mono ?_;rintro e w3⟨rfl,h3⟩)
   obtain⟨g1,g2,g3,g4,g5,g6,g7⟩:=ae HG
   go_roundg g'
   case measure=>omega
   case rel=>exact⟨pos+K,fw s1 c,(h3.2.block _ (co.1 g2).1 (fun hh=>hh.2 rfl)).trans g2,h3.zmc g1,g7,by omega,g3,by omega⟩
  ·have hnx:∀ty,(Instr.next (.pointer (some ⟨w1.heap.size,0,none⟩)) true ty).run prog wr=_:=fun ty=>Lib.run_next_end_at wr w1.heap.size t pos ty hit hps
   rw[U1 t gk pos s1 hps]at hrun
   subst hrun
   have HT2:=hide hT
   clear hT
   go_wp2
   go_end0
   exact⟨rfl,ae HT2⟩
end
section
variable{w0:World}{aj:Nat→Prop}{b:Nat}{s:TS}{ex:List Item}{w:World}{R:n9}
theorem uh(x y:Str)(w:World)(h:x.length+y.length≤lim):(Op.stringOp .add ⟨x.toArray⟩ ⟨y.toArray⟩).run prog w= .ok (.string ⟨(x++y).toArray⟩) w:=by
 rw[run_string_add_sum w _ _ (by unfold lim at h;simp[ByteArray.size];omega),ByteArray.mk_append_mk]
theorem J2(l:Str)(hv:l8 s.ev=false)(h:Tk w0 aj b s ex w)(hs:sz s+l.length≤lim):
  Calls prog 214 #[.pointer (some ⟨b,0,none⟩),.string ⟨l.toArray⟩] w fun e w'=>e= .returned (.tuple #[])∧Tk w0 aj b (cn s l) ex w':=by
 rw[cn,ag (by rw[hv];decide)]
 obtain⟨i0,hi,hz0,hz1,hz2⟩:=info_parts Tryz.infoByte
 have HV:=hide (wd h)
 rw[hv]at HV
 obtain⟨R,hR⟩:=h.reg
 have c1:=xg hR
 have f1:=hR.1.frozen
 have X1:=hide (px hR)
 have Y1:=hide (And.intro (Ew (s:=s) (l:=l) hs) (Ce (s:=s) (l:=l) hs))
 clear hs h
 go_enter func214,ntmps214
 go_wp2_with fail
 refine(ae HV).mono ?_
 rintro e w1⟨rfl,rfl⟩
 go_wp2_with(at_builtin;refine pd _ rfl _ _ 74 9 rfl 5 i0 underlying74 underlying9 hi hz0 hz1 hz2 R.text.a s.text.length R.text.cap (byteCells s.text) rfl (ae X1) ⟨l.toArray⟩ rfl (ae Y1).1 (ae Y1).2 ?_)
 intro ao1 za8 w2 hown hgrow hfresh
 obtain⟨hself,h1⟩:=Ay hR l ao1 za8 (by simpa using hown) hgrow hfresh
 have dc:=bg hself 8
 have df:=bn hself
 simp only[cellsOf]at dc
 clear hown hgrow hfresh
 go_wp2
 try simp only[Exit.inBlock,Exit.then]
 refine ap (av rfl _ _ _) rfl ?_
 exact⟨rfl,h1⟩
theorem lj(l:Str)(hat:l8 s.ev=true→s.tag.cy≠[])(h:Tk w0 aj b s ex w)(hs:sz s+4*l.length+8≤lim):
  Calls prog 214 #[.pointer (some ⟨b,0,none⟩),.string ⟨l.toArray⟩] w fun e w'=>e= .returned (.tuple #[])∧Tk w0 aj b (cn s l) ex w':=by
 cases hv:l8 s.ev
 ·exact J2 l hv h (by omega)
 ·exact If l hv (hat hv) h hs
theorem Kw(t:ByteArray):∀(f pos:Nat)(s:TS),sz (lh t f pos s)≤sz s+4*f
 |0,_,s=>by simp[lh]
 |f+1,pos,s=>by
  rw[lh]
  split
  ·have h1:=Kw t f (pos+(Utf8.decode t pos).2) (fw s (Utf8.decode t pos).1)
   have h2:=Bw s (Utf8.decode t pos).1
   omega
  ·omega
theorem n7(s:TS)(l:Str):sz (cn s l)≤sz s+4*l.length:=by
 unfold cn
 split
 ·exact Kw _ _ _ _
 ·rw[yv];omega
theorem Ex(t:ByteArray):∀(f pos:Nat)(s:TS),(lh t f pos s).ev=s.ev
 |0,_,s=>rfl
 |f+1,pos,s=>by
  rw[lh]
  split
  ·rw[Ex t f];rfl
  ·rfl
theorem i9(s:TS)(l:Str):(cn s l).ev=s.ev:=by
 unfold cn
 split
 ·exact Ex _ _ _ _
 ·rfl
theorem Gp(t:ByteArray):∀(f pos:Nat)(s:TS),s.tag.cy≠[]→(lh t f pos s).tag.cy≠[]
 |0,_,s,h=>h
 |f+1,pos,s,h=>by
  rw[lh]
  split
  ·exact Gp t f _ _ (qg _ h)
  ·exact h
theorem mz{s:TS}(l:Str)(h:l8 s.ev=true→s.tag.cy≠[]):l8 (cn s l).ev=true→(cn s l).tag.cy≠[]:=by
 rw[i9]
 intro hv
 rw[cn,au hv]
 exact Gp _ _ _ _ (h hv)
def kc(s:TS):TS:={cn s ([38]++s.di)with state:=s.ev}
theorem Cf(hat:l8 s.ev=true→s.tag.cy≠[])(h:Tk w0 aj b s ex w)(hs:sz s+4*s.di.length+16≤lim):
  Calls prog 219 #[.pointer (some ⟨b,0,none⟩)] w fun e w'=>e= .returned (.int .i64 1)∧Tk w0 aj b (kc s) ex w':=by
 obtain⟨R,hR⟩:=h.reg
 have c1:=hR.1.cell 21
 simp only[cellsOf]at c1
 have HA:=hide (lj ([38]++s.di) hat h (by simp;omega))
 have N2:=uh [38] s.di w (by simp;unfold sz at hs;omega)
 clear hs h
 go_enter func219,ntmps219
 go_wp2_with fail
 refine(ae HA).mono ?_
 rintro e w1⟨rfl,h1⟩
 obtain⟨R1,uu⟩:=Tk.reg h1
 have d1:=uu.1.cell 20
 simp only[cellsOf,i9]at d1
 go_wp2_with fail
 refine(ic s.ev h1).mono ?_
 rintro e w2⟨rfl,h2⟩
 go_wp2
 go_ret
 exact⟨rfl,h2⟩
theorem N3(n:Int)(w:World)(L:Laid w)(h0:0≤n)(h1:n≤17825791):
  Calls prog 252 #[.int .i32 n] w fun e w'=>e= .returned (.tuple #[.int .i32 (meaning n).1,.string ⟨(meaning n).2.toArray⟩])∧w'=w:=by
 by_cases n0:n=0
 ·subst n0
  go_enter func252,ntmps252
  go_wp2
  go_ret2
  exact⟨rfl,rfl⟩
 have e0:(n==0)=false:=af.2 n0
 by_cases n1:1114111<n
 ·have hm:meaning n=(65533,[114,97,110,103,101]):=by simp[meaning,n0,n1]
  rw[hm]
  clear hm
  go_enter func252,ntmps252
  go_wp2
  go_ret2
  exact⟨rfl,rfl⟩
 have n1':n≤1114111:=by omega
 have HU:=hide (Jh n w)
 have HN:=hide (W3 n w h0 n1')
 have HC:=hide (Nc n w)
 cases hs:Ei n
 ·cases hn:Bj n
  ·cases hc:Av n
   ·have hm:meaning n=(n,[]):=by simp[meaning,n0,n1,hs,hn,hc]
    rw[hm]
    rw[hs]at HU
    rw[hn]at HN
    rw[hc]at HC
    clear hm L
    go_enter func252,ntmps252
    go_wp2_with(first
     |(go_at_call 259;refine(ae HU).mono ?_;rintro e w'⟨rfl,rfl⟩)
     |(go_at_call 260;refine(ae HN).mono ?_;rintro e w'⟨rfl,rfl⟩)
     |(go_at_call 261;refine(ae HC).mono ?_;rintro e w'⟨rfl,rfl⟩))
    go_ret2
    exact⟨rfl,rfl⟩
   ·have hm:meaning n=(zam n,[99,111,110,116,114,111,108]):=by simp[meaning,n0,n1,hs,hn,hc]
    rw[hm]
    rw[hs]at HU
    rw[hn]at HN
    rw[hc]at HC
    have zrw:n≤159:=by
     simp only[Av,Bool.or_eq_true,Bool.and_eq_true,decide_eq_true_eq]at hc
     omega
    have HM:=hide (D6 n w L h0 zrw)
    clear hm L
    go_enter func252,ntmps252
    go_wp2_with(first
     |(go_at_call 259;refine(ae HU).mono ?_;rintro e w'⟨rfl,rfl⟩)
     |(go_at_call 260;refine(ae HN).mono ?_;rintro e w'⟨rfl,rfl⟩)
     |(go_at_call 261;refine(ae HC).mono ?_;rintro e w'⟨rfl,rfl⟩)
     |(go_at_call 262;refine(ae HM).mono ?_;rintro e w'⟨rfl,rfl⟩))
    go_ret2
    exact⟨rfl,rfl⟩
  ·have hm:meaning n=(n,[110,111,110,101]):=by simp[meaning,n0,n1,hs,hn]
   rw[hm]
   rw[hs]at HU
   rw[hn]at HN
   clear hm L HC
   go_enter func252,ntmps252
   go_wp2_with(first
    |(go_at_call 259;refine(ae HU).mono ?_;rintro e w'⟨rfl,rfl⟩)
    |(go_at_call 260;refine(ae HN).mono ?_;rintro e w'⟨rfl,rfl⟩))
   go_ret2
   exact⟨rfl,rfl⟩
 ·have hm:meaning n=(65533,[115,117,114,114,111,103,97,116,101]):=by simp[meaning,n0,n1,hs]
  rw[hm]
  rw[hs]at HU
  clear hm L HC HN
  go_enter func252,ntmps252
  go_wp2_with(go_at_call 259;refine(ae HU).mono ?_;rintro e w'⟨rfl,rfl⟩)
  go_ret2
  exact⟨rfl,rfl⟩
end
theorem Hc(r:Int):Utf8.encode r=⟨(Lib.encodeRune r).toArray⟩:=by
 unfold Utf8.encode Lib.encodeRune
 by_cases hv:Utf8.valid r=true
 ·have hv':0≤r∧r≤1114111∧¬(55296≤r∧r≤57343):=by
   simp[Utf8.valid]at hv
   omega
  obtain⟨n,rfl⟩:=Int.eq_ofNat_of_zero_le hv'.1
  simp only[hv,if_true,Int.toNat_natCast]
  by_cases h1:n<128
  ·rw[au h1,Lib.encodeRuneZ_one (by omega) (by omega)]
   rfl
  ·rw[ag h1]
   by_cases h2:n<2048
   ·rw[au h2,Lib.encodeRuneZ_two (by omega) (by omega)]
    rfl
   ·rw[ag h2]
    by_cases h3:n<65536
    ·rw[au h3,Lib.encodeRuneZ_three (by omega)]
     rfl
    ·rw[ag h3,Lib.encodeRuneZ_four (by omega) (by omega)]
     rfl
 ·have hv':¬(0≤r∧r≤1114111∧¬(55296≤r∧r≤57343)):=by
   simp[Utf8.valid]at hv
   omega
  rw[ag hv]
  have:Lib.encodeRuneZ r=[239,191,189]:=by
   unfold Lib.encodeRuneZ
   rw[ag (by omega),ag (by omega),ag (by omega),ag (by omega)]
  rw[this]
  rfl
structure Base(w0:World)(aj:Nat→Prop):Prop where
 laid:Laid w0
 out:∀g,g∈[8,5,2,3,1]→¬aj g∧g<w0.heap.size
section
variable{w0:World}{aj:Nat→Prop}{b:Nat}{s:TS}{ex:List Item}{w:World}{R:n9}
theorem Base.cell(B:Base w0 aj)(hk:Kept aj w0 w){g:Nat}(hg:g∈[8,5,2,3,1])(j:Nat):w.cell? ⟨g,j,none⟩=w0.cell? ⟨g,j,none⟩:=by
 have h:=B.out g hg
 simp[World.cell?,hk.block g h.2 h.1]
theorem Base.at(B:Base w0 aj)(hk:Kept aj w0 w):Laid w:=
 ⟨by
  obtain⟨t,fr,h⟩:=B.laid.names
  have ho:=B.out 5 (by simp)
  exact⟨t,fr,(hk.block _ ho.2 ho.1).trans h⟩,
  ⟨fun c hc=>(B.cell hk (by simp) c).trans (B.laid.tabs.1 c hc),fun i hi=>⟨(B.cell hk (by simp) _).trans (B.laid.tabs.2 i hi).1,(B.cell hk (by simp) _).trans (B.laid.tabs.2 i hi).2⟩⟩,
  fun j v hv=>(B.cell hk (by simp) j).trans (B.laid.win j v hv)⟩
def wi(c:Int):Int:=if fc c=true then c-48 else lw c-87
def wj(six:Bool)(c:Int):Bool:=fc c||(six&&decide (97≤lw c∧lw c≤102))
def ml(s:TS)(c:Int):TS:={s with nb:=true,jx:=if 1114111<s.jx then s.jx else s.jx*(if s.l9=true then 16 else 10)+wi c}
theorem Sv{six:Bool}{c:Int}(h:wj six c=true):0≤wi c∧wi c≤15:=by
 unfold wi
 split
 ·rename_i hd
  simp[fc]at hd
  omega
 ·rename_i hd
  simp only[wj,Bool.or_eq_true,Bool.and_eq_true,decide_eq_true_eq]at h
  rcases h with h|h
  ·exact absurd h hd
  ·omega
def Ey(s:TS):Prop:=0≤s.jx∧s.jx≤17825791
theorem za9{c:Int}(h:wj false c=true):wi c≤9:=by
 simp only[wj,Bool.false_and,Bool.or_false]at h
 unfold wi
 rw[au h]
 simp[fc]at h
 omega
theorem Xx{c:Int}(h:wj s.l9 c=true)(hn:Ey s):Ey (ml s c):=by
 have hd:=Sv h
 obtain⟨h1,h2⟩:=hn
 unfold Ey ml
 simp only
 split
 ·exact⟨h1,h2⟩
 ·split<;>omega
theorem L7(c:Int)(hc:Rn c)(h:Tk w0 aj b s ex w):
  Calls prog 217 #[.pointer (some ⟨b,20,none⟩),.int .i32 c] w fun e w'=>e= .returned (.bool (wj s.l9 c))∧w'=w:=by
 obtain⟨R,hR⟩:=h.reg
 have c1:=hR.1.cell 22
 simp only[cellsOf]at c1
 have HD:=hide (uw c w)
 have HL:=hide (pg c w hc)
 clear hR h
 generalize s.l9=six at*
 unfold wj
 generalize fc c=d at*
 generalize lw c=l at*
 cases d
 ·cases six
  ·go_enter func217,ntmps217
   go_wp2_with(go_at_call 216;refine(ae HD).mono ?_;rintro e w'⟨rfl,rfl⟩)
   go_ret
   exact⟨rfl,rfl⟩
  ·by_cases h1:97≤l
   ·by_cases h2:l≤102
    ·go_enter func217,ntmps217
     go_wp2_with(first
      |(go_at_call 216;refine(ae HD).mono ?_;rintro e w'⟨rfl,rfl⟩)
      |(go_at_call 194;refine(ae HL).mono ?_;rintro e w'⟨rfl,rfl⟩))
     go_ret
     exact⟨jt (by simp;omega),rfl⟩
    ·have h2':102<l:=by omega
     go_enter func217,ntmps217
     go_wp2_with(first
      |(go_at_call 216;refine(ae HD).mono ?_;rintro e w'⟨rfl,rfl⟩)
      |(go_at_call 194;refine(ae HL).mono ?_;rintro e w'⟨rfl,rfl⟩))
     go_ret
     exact⟨jt (by simp;omega),rfl⟩
   ·have h1':l<97:=by omega
    go_enter func217,ntmps217
    go_wp2_with(first
     |(go_at_call 216;refine(ae HD).mono ?_;rintro e w'⟨rfl,rfl⟩)
     |(go_at_call 194;refine(ae HL).mono ?_;rintro e w'⟨rfl,rfl⟩))
    go_ret
    exact⟨jt (by simp;omega),rfl⟩
 ·go_enter func217,ntmps217
  go_wp2_with(go_at_call 216;refine(ae HD).mono ?_;rintro e w'⟨rfl,rfl⟩)
  go_ret
  exact⟨rfl,rfl⟩
theorem Tk.drew(h:Tk w0 aj b s ex w):Tk w0 aj b s ex w.drew:=by
 obtain⟨R,hR⟩:=h.reg
 exact(qb hR).tk
theorem zmd(h:Tk w0 aj b s ex w):Tk w0 aj b {s with nb:=true} ex (w.setCell ⟨b,23,none⟩ (.bool true)):=by
 obtain⟨⟨R,hR⟩,hk⟩:=h
 exact⟨⟨R,hR.setCell 23 _ rfl rfl rfl rfl rfl⟩,hk.setCell _ _ hR.ownB⟩
theorem zme(h:Tk w0 aj b s ex w)(n:Int):Tk w0 aj b {s with jx:=n} ex (w.setCell ⟨b,24,none⟩ (.int .i32 n)):=by
 obtain⟨⟨R,hR⟩,hk⟩:=h
 exact⟨⟨R,hR.setCell 24 _ rfl rfl rfl rfl rfl⟩,hk.setCell _ _ hR.ownB⟩
theorem Rd(c:Int)(hc:Rn c)(hd:wj s.l9 c=true)(hn:Ey s)(h:Tk w0 aj b s ex w):
  Calls prog 218 #[.pointer (some ⟨b,20,none⟩),.int .i32 c] w fun e w'=>e= .returned (.tuple #[])∧Tk w0 aj b (ml s c) ex w':=by
 obtain⟨R,hR⟩:=h.reg
 have c1:=hR.1.cell 22
 have c2:=hR.1.cell 23
 have c3:=hR.1.cell 24
 have f1:=hR.1.frozen
 simp only[cellsOf]at c1 c2 c3
 have hv:=Sv hd
 have h1:=zmd h
 obtain⟨n0,n1⟩:=hn
 by_cases hg:1114111<s.jx
 ·have e:ml s c={s with nb:=true}:=by simp[ml,hg]
  rw[e]
  clear e
  have H1:=hide h1
  clear h1 h hR
  generalize s.jx=n at*
  go_enter func218,ntmps218
  go_wp2
  try simp only[Exit.inBlock,Exit.then]
  refine ap (av rfl _ _ _) rfl ?_
  exact⟨rfl,ae H1⟩
 ·have hg':s.jx≤1114111:=by omega
  have hv0:∀w,Calls prog 251 #[.int .i32 c] w fun e w'=>e= .returned (.int .i32 (wi c))∧w'=w:=fun w=>Lq c w hc
  have HV:=hide hv0
  have H2:=hide fun n=>Tk.drew (zme h1 n)
  obtain⟨v0,v1⟩:=hv
  have v9:s.l9=false→wi c≤9:=fun e=>za9 (by rw[←e];exact hd)
  clear hv0 hd
  have hfin:∀n,n=s.jx*(if s.l9=true then 16 else 10)+wi c→ml s c={s with nb:=true,jx:=n}:=by
   rintro n rfl
   simp[ml,hg]
  have HF:=hide hfin
  clear hfin h1 h hR
  generalize wi c=d at*
  generalize hnn:s.jx=n at*
  cases hx:s.l9
  ·have v9':=v9 hx
   clear v9
   rw[hx]at c1
   go_enter func218,ntmps218
   go_wp2_with fail
   go_region_with(go_at_call 251;refine(ae HV _).mono ?_;rintro e w'⟨rfl,rfl⟩)
   all_goals
    go_wp2
    go_end0
    have ew:IntKind.i32.wrap (IntKind.i32.wrap (n*10)+d)=n*10+d:=by rw[IntKind.wrap_i32,IntKind.wrap_i32];omega
    rw[ew]
    exact⟨rfl,by rw[ae HF (n*10+d) (by rw[hx];simp)];exact(ae H2) (n*10+d)⟩
  ·clear v9
   rw[hx]at c1
   go_enter func218,ntmps218
   go_wp2_with fail
   go_region_with(go_at_call 251;refine(ae HV _).mono ?_;rintro e w'⟨rfl,rfl⟩)
   all_goals
    go_wp2
    go_end0
    have ew:IntKind.i32.wrap (IntKind.i32.wrap (n*16)+d)=n*16+d:=by rw[IntKind.wrap_i32,IntKind.wrap_i32];omega
    rw[ew]
    exact⟨rfl,by rw[ae HF (n*16+d) (by rw[hx];simp)];exact(ae H2) (n*16+d)⟩
end
section
variable{w0:World}{aj:Nat→Prop}{b:Nat}{s:TS}{ex:List Item}{w:World}{R:n9}
def ji(s:TS)(p:Int):TS:=cn (if(meaning s.jx).2=[]then s else bz s (meaning s.jx).2 p) (Lib.encodeRune (meaning s.jx).1)
theorem Az(name:Str)(p:Int)(h:Tk w0 aj b s ex w)(hs:sz s+1≤lim):
  Calls prog 204 #[.pointer (some ⟨b,0,none⟩),.string ⟨name.toArray⟩,.int .i64 p] w fun e w'=>e= .returned (.tuple #[])∧Tk w0 aj b (bz s name p) ex w':=
 Ud name p h (by unfold sz at hs;omega)
theorem Re(n:Int):(meaning n).2=[]∨(meaning n).2=[110,117,108]∨(meaning n).2=[114,97,110,103,101]∨(meaning n).2=[115,117,114,114,111,103,97,116,101]∨(meaning n).2=[110,111,110,101]∨(meaning n).2=[99,111,110,116,114,111,108]:=by
 unfold meaning
 repeat' split
 all_goals simp
theorem Ez(p:Int)(B:Base w0 aj)(hn:Ey s)(hat:l8 s.ev=true→s.tag.cy≠[])(h:Tk w0 aj b s ex w)(hs:sz s+32≤lim):
  Calls prog 220 #[.pointer (some ⟨b,0,none⟩),.int .i64 p] w fun e w'=>e= .returned (.tuple #[])∧Tk w0 aj b (ji s p) ex w':=by
 obtain⟨R,hR⟩:=h.reg
 have c3:=hR.1.cell 24
 simp only[cellsOf]at c3
 have HM:=hide (N3 s.jx w (B.at h.2) hn.1 hn.2)
 have hl:=oh (meaning s.jx).1
 have hnm:=Re s.jx
 unfold ji
 have HW:=hide (fun x=>Az x p h (by omega))
 have HT:=hide h
 have HL:=hide hl
 have HS:=hide hs
 have HA:=hide hat
 clear hR h hl hs hat hn
 generalize hm:meaning s.jx=m at*
 obtain⟨c,pr⟩:=m
 simp only at*
 rcases hnm with rfl|rfl|rfl|rfl|rfl|rfl
 ·rw[au rfl]
  go_enter func220,ntmps220
  go_wp2_with(go_at_call 252;refine(ae HM).mono ?_;rintro e w'⟨rfl,rfl⟩)
  rw[Hc]
  refine(lj (Lib.encodeRune c) (ae HA) (ae HT) (by have:=ae HS;have:=ae HL;omega)).mono ?_
  rintro e w2⟨rfl,h2⟩
  go_wp2
  go_end0
  exact⟨rfl,h2⟩
 all_goals
  rw[ag (by decide)]
  go_enter func220,ntmps220
  go_wp2_with(first
   |(go_at_call 252;refine(ae HM).mono ?_;rintro e w1⟨rfl,rfl⟩)
   |(go_at_call 204;refine(ae HW _).mono ?_;rintro e w1⟨rfl,h1⟩))
  rw[Hc]
  refine(lj (s:=bz s _ p) (Lib.encodeRune c) (fun e=>ae HA e) h1 (by have:=ae HS;have:=ae HL;rw[rk];omega)).mono ?_
  rintro e w2⟨rfl,h2⟩
  go_wp2
  go_end0
  exact⟨rfl,h2⟩
theorem Ig(s:TS)(p:Int):sz (ji s p)≤sz s+20:=by
 unfold ji
 have h1:=n7 (if(meaning s.jx).2=[]then s else bz s (meaning s.jx).2 p) (Lib.encodeRune (meaning s.jx).1)
 have h2:=oh (meaning s.jx).1
 have h3:sz (if(meaning s.jx).2=[]then s else bz s (meaning s.jx).2 p)≤sz s+1:=by
  split
  ·omega
  ·rw[rk];omega
 omega
theorem Dx(s:TS)(p:Int):(ji s p).ev=s.ev:=by
 unfold ji
 rw[i9]
 split<;>rfl
end
section
variable{w0:World}{aj:Nat→Prop}{b:Nat}{s:TS}{ex:List Item}{w:World}{R:n9}
structure N4(s:TS):Prop where
 num:Ey s
 come:s.di.length≤8
 at':l8 s.ev=true→s.tag.cy≠[]
 E0:0≤s.place
 E1:s.place≤1099511627776
def il(s:TS)(c:Int):Int×TS:=
 if wj s.l9 c=true then(0,ml s c)
 else if s.nb=false then(1,kc (wrong s [100,105,103,105,116,115]))
 else if c=59 then(0,{ji s (s.place+1)with state:=s.ev})
 else(1,{ji (wrong s [115,101,109,105,99,111,108,111,110]) s.place with state:=s.ev})
theorem sr(h:Tk w0 aj b s ex w):w.cell? ⟨b,20,none⟩=some (.int .i64 s.ev):=by
 obtain⟨R,hR⟩:=h.reg
 have:=hR.1.cell 20
 exact this
theorem wk(h:Tk w0 aj b s ex w):w.cell? ⟨b,7,none⟩=some (.int .i64 s.place):=by
 obtain⟨R,hR⟩:=h.reg
 have:=hR.1.cell 7
 exact this
theorem E2(c:Int)(hc:Rn c)(B:Base w0 aj)(hr:N4 s)(h:Tk w0 aj b s ex w)(hs:sz s+128≤lim):
  Calls prog 158 #[.pointer (some ⟨b,0,none⟩),.int .i32 c] w fun e w'=>e= .returned (.int .i64 (il s c).1)∧Tk w0 aj b (il s c).2 ex w':=by
 obtain⟨R,hR⟩:=h.reg
 have c1:=hR.1.cell 23
 have c2:=wk h
 simp only[cellsOf]at c1
 have HD:=hide (L7 c hc h)
 have HS:=hide hs
 have HR:=hide hr
 have HT:=hide h
 cases hd:wj s.l9 c
 ·rw[hd]at HD
  cases hx:s.nb
  ·have hfin:il s c=(1,kc (wrong s [100,105,103,105,116,115])):=by simp[il,hd,hx]
   rw[hfin]
   rw[hx]at c1
   clear hfin h hs hR hr
   go_enter func158,ntmps158
   go_wp2_with(go_at_call 217;refine(ae HD).mono ?_;rintro e w1⟨rfl,rfl⟩)
   refine(mb [100,105,103,105,116,115] (ae HT) (by have:=ae HS;omega)).mono ?_
   rintro e w2⟨rfl,h2⟩
   go_wp2_with fail
   refine(Cf (s:=wrong s [100,105,103,105,116,115]) (fun e=>(ae HR).at' e) h2 (by have:=ae HS;have h1:(wrong s [100,105,103,105,116,115]).di.length≤8:=(ae HR).come;rw[bw];omega)).mono ?_
   rintro e w3⟨rfl,h3⟩
   go_wp2
   go_ret
   exact⟨rfl,h3⟩
  ·rw[hx]at c1
   have hp:=hr.E0
   have hp1:=hr.E1
   by_cases h59:c=59
   ·subst h59
    have hfin:il s 59=(0,{ji s (s.place+1)with state:=s.ev}):=by simp[il,hd,hx]
    rw[hfin]
    have HE:=hide (Ez (s.place+1) B hr.num hr.at' h (by omega))
    clear hfin h hs hR hr
    go_enter func158,ntmps158
    go_wp2_with(first
     |(go_at_call 217;refine(ae HD).mono ?_;rintro e w1⟨rfl,rfl⟩)
     |(go_at_call 220;refine(ae HE).mono ?_;rintro e w2⟨rfl,h2⟩;have d2:=sr h2;rw[Dx]at d2))
    refine(mr s.ev h2).mono ?_
    rintro e w3⟨rfl,h3⟩
    go_wp2
    go_ret
    exact⟨rfl,h3⟩
   ·have e59:(c==59)=false:=af.2 h59
    have hfin:il s c=(1,{ji (wrong s [115,101,109,105,99,111,108,111,110]) s.place with state:=s.ev}):=by simp[il,hd,hx,h59]
    rw[hfin]
    clear hfin h hs hR hr
    go_enter func158,ntmps158
    go_wp2_with(go_at_call 217;refine(ae HD).mono ?_;rintro e w1⟨rfl,rfl⟩)
    refine(mb [115,101,109,105,99,111,108,111,110] (ae HT) (by have:=ae HS;omega)).mono ?_
    rintro e w2⟨rfl,h2⟩
    have d2:=wk h2
    rw[show(wrong s [115,101,109,105,99,111,108,111,110]).place=s.place from rfl]at d2
    go_wp2_with fail
    refine(Ez (s:=wrong s [115,101,109,105,99,111,108,111,110]) s.place B (ae HR).num (fun e=>(ae HR).at' e) h2 (by have:=ae HS;rw[bw];omega)).mono ?_
    rintro e w3⟨rfl,h3⟩
    have d3:=sr h3
    rw[Dx]at d3
    go_wp2_with fail
    refine(ic (wrong s [115,101,109,105,99,111,108,111,110]).ev h3).mono ?_
    rintro e w4⟨rfl,h4⟩
    go_wp2
    go_ret
    exact⟨rfl,h4⟩
 ·have hfin:il s c=(0,ml s c):=by simp[il,hd]
  rw[hfin]
  have HE:=hide (Rd c hc hd hr.num h)
  rw[hd]at HD
  clear hfin h hs hR hr
  go_enter func158,ntmps158
  go_wp2_with(first
   |(go_at_call 217;refine(ae HD).mono ?_;rintro e w1⟨rfl,rfl⟩)
   |(go_at_call 218;refine(ae HE).mono ?_;rintro e w2⟨rfl,h2⟩))
  go_ret
  exact⟨rfl,h2⟩
def mv(s:TS)(l:Str):TS:={s with di:=l}
theorem U2(h:Tk w0 aj b s ex w)(l:Str):Tk w0 aj b (mv s l) ex (w.setCell ⟨b,21,none⟩ (.string ⟨l.toArray⟩)):=by
 obtain⟨⟨R,hR⟩,hk⟩:=h
 exact⟨⟨R,hR.setCell 21 _ rfl rfl rfl rfl rfl⟩,hk.setCell _ _ hR.ownB⟩
theorem zmf(h:Tk w0 aj b s ex w):Tk w0 aj b {s with l9:=true} ex (w.setCell ⟨b,22,none⟩ (.bool true)):=by
 obtain⟨⟨R,hR⟩,hk⟩:=h
 exact⟨⟨R,hR.setCell 22 _ rfl rfl rfl rfl rfl⟩,hk.setCell _ _ hR.ownB⟩
theorem Cg(h:Tk w0 aj b s ex w):w.cell? ⟨b,21,none⟩=some (.string ⟨s.di.toArray⟩):=by
 obtain⟨R,hR⟩:=h.reg
 have:=hR.1.cell 21
 exact this
theorem zhd(h:Tk w0 aj b s ex w):w.cell? ⟨b,22,none⟩=some (.bool s.l9):=by
 obtain⟨R,hR⟩:=h.reg
 have:=hR.1.cell 22
 exact this
theorem Tk.frozen(h:Tk w0 aj b s ex w)(o:Nat):w.frozen? ⟨b,o,none⟩=false:=by
 obtain⟨R,hR⟩:=h.reg
 exact hR.1.frozen o
def lc(s:TS)(c:Int):Int×TS:=
 if c=120∨c=88 then(0,{mv s (s.di++Lib.encodeRune c)with l9:=true,state:=35})else(1,{s with state:=35})
theorem zo9(c:Int):(lw c=120)↔(c=120∨c=88):=by unfold lw;split<;>omega
theorem Hd(c:Int)(hc:Rn c)(hr:N4 s)(h:Tk w0 aj b s ex w)(hs:sz s+128≤lim):
  Calls prog 157 #[.pointer (some ⟨b,0,none⟩),.int .i32 c] w fun e w'=>e= .returned (.int .i64 (lc s c).1)∧Tk w0 aj b (lc s c).2 ex w':=by
 have HL:=hide (fun w=>pg c w hc)
 have HT:=hide h
 have hx:=zo9 c
 by_cases h1:lw c=120
 ·rw[h1]at HL
  have hfin:lc s c=(0,{mv s (s.di++Lib.encodeRune c)with l9:=true,state:=35}):=by rw[lc,au (hx.1 h1)]
  rw[hfin]
  have c1:=Cg h
  have c2:=zhd h
  have f1:=h.frozen
  have hcv:∀w,(convert 21 9 (.int .i32 c)).run prog w= .ok (.string ⟨(Lib.encodeRune c).toArray⟩) w:=fun w=>by
   rw[run_convert_int_string w 21 9 .i32 c (by rw[underlying21];rfl) underlying9,Hc]
  have N2:∀w,_:=fun w=>uh s.di (Lib.encodeRune c) w (by have:=oh c;have:=hr.come;unfold lim;omega)
  have H2:=hide (zmf (U2 h (s.di++Lib.encodeRune c)))
  clear hfin hs h hr
  go_enter func157,ntmps157
  go_wp2_with(go_at_call 194;refine(ae HL _).mono ?_;rintro e w1⟨rfl,rfl⟩)
  refine(mr 35 (ae H2)).mono ?_
  rintro e w3⟨rfl,h3⟩
  go_wp2
  go_ret
  exact⟨rfl,h3⟩
 ·have hfin:lc s c=(1,{s with state:=35}):=by rw[lc,ag (fun e=>h1 (hx.2 e))]
  rw[hfin]
  have e1:(lw c==120)=false:=af.2 h1
  generalize lw c=d at*
  clear hfin hs h hr
  go_enter func157,ntmps157
  go_wp2_with(go_at_call 194;refine(ae HL _).mono ?_;rintro e w1⟨rfl,rfl⟩)
  refine(ic 35 (ae HT)).mono ?_
  rintro e w3⟨rfl,h3⟩
  go_wp2
  go_ret
  exact⟨rfl,h3⟩
end
end Go.Proofs.YtdfmapcnfficlaaGreatDoor

import Derived.Test.YtdfmapcnfficlaaGreatDoorP02
import Derived.Deep.RegionWith
set_option linter.all false
set_option maxHeartbeats 1000000
set_option maxRecDepth 1000000
namespace Go.Proofs.YtdfmapcnfficlaaGreatDoor
open Go.Proofs.Tryz
open Go Go.RowKit
def Rn(c:Int):Prop:= -1≤c∧c≤1114111
def lw(c:Int):Int:=if 65≤c∧c≤90 then c+32 else c
def ba(c:Int):Bool:=c==9||c==10||c==12||c==32
def br(c:Int):Bool:=decide ((65≤c∧c≤90)∨(97≤c∧c≤122))
theorem Hx{c:Int}(h:Rn c):Rn (lw c):=by unfold lw Rn at*;split<;>omega
theorem F2{a b:Int}(h:a=b):Ending.returned (.int .i32 a)= .returned (.int .i32 b):=by rw[h]
theorem pg(c:Int)(w:World)(h:Rn c):Calls prog 194 #[.int .i32 c] w fun e w'=>e= .returned (.int .i32 (lw c))∧w'=w:=by
 obtain⟨h0,h1⟩:=h
 by_cases h2:65≤c
 ·by_cases h3:c≤90
  ·go_enter func194,ntmps194
   go_wp2
   go_ret
   exact⟨F2 (by unfold lw;rw[au ⟨h2,h3⟩];omega),rfl⟩
  ·have h3':90<c:=by omega
   go_enter func194,ntmps194
   go_wp2
   go_ret
   exact⟨F2 (by unfold lw;rw[ag (by omega)]),rfl⟩
 ·have h2':c<65:=by omega
  go_enter func194,ntmps194
  go_wp2
  go_ret
  exact⟨F2 (by unfold lw;rw[ag (by omega)]),rfl⟩
theorem cg(c:Int)(w:World):Calls prog 195 #[.int .i32 c] w fun e w'=>e= .returned (.bool (ba c))∧w'=w:=by
 by_cases h1:c=9
 ·subst h1
  go_enter func195,ntmps195
  go_wp2
  go_ret
  exact⟨rfl,rfl⟩
 by_cases h2:c=10
 ·subst h2
  go_enter func195,ntmps195
  go_wp2
  go_ret
  exact⟨rfl,rfl⟩
 by_cases h3:c=12
 ·subst h3
  go_enter func195,ntmps195
  go_wp2
  go_ret
  exact⟨rfl,rfl⟩
 have e1:(c==9)=false:=by simpa using h1
 have e2:(c==10)=false:=by simpa using h2
 have e3:(c==12)=false:=by simpa using h3
 go_enter func195,ntmps195
 go_wp2
 go_ret
 exact⟨by simp[ba,e1,e2,e3],rfl⟩
theorem lb(c:Int)(w:World)(h:Rn c):Calls prog 191 #[.int .i32 c] w fun e w'=>e= .returned (.bool (br c))∧w'=w:=by
 have hl:=pg c w h
 have e:br c=decide (97≤lw c∧lw c≤122):=by
  unfold br lw
  split<;>(rw[decide_eq_decide];omega)
 rw[e]
 generalize lw c=d at*
 have HL:=hide hl
 clear hl e
 by_cases h2:97≤d
 ·by_cases h3:d≤122
  ·go_enter func191,ntmps191
   go_wp2_with(go_at_call 194;refine(ae HL).mono ?_;rintro e w'⟨rfl,rfl⟩)
   go_ret
   exact⟨by simp[h2,h3],rfl⟩
  ·have h3':122<d:=by omega
   go_enter func191,ntmps191
   go_wp2_with(go_at_call 194;refine(ae HL).mono ?_;rintro e w'⟨rfl,rfl⟩)
   go_ret
   exact⟨by simp;omega,rfl⟩
 ·have h2':d<97:=by omega
  go_enter func191,ntmps191
  go_wp2_with(go_at_call 194;refine(ae HL).mono ?_;rintro e w'⟨rfl,rfl⟩)
  go_ret
  exact⟨by simp;omega,rfl⟩
section
variable{w0:World}{aj:Nat→Prop}{b:Nat}{s:TS}{ex:List Item}{w:World}
theorem ic(q:Int)(h:Tk w0 aj b s ex w):
  Calls prog 192 #[.pointer (some ⟨b,0,none⟩),.int .i64 q] w fun e w'=>e= .returned (.int .i64 1)∧Tk w0 aj b {s with state:=q} ex w':=by
 obtain⟨⟨R,hR⟩,hk⟩:=h
 have c4:w.cell? ⟨b,5,none⟩=some (.int .i64 s.state):=hR.cell 5
 have hf:=hR.frozen
 go_enter func192,ntmps192
 go_wp2
 go_ret
 exact⟨rfl,⟨R,hR.setCell 5 _ rfl rfl rfl rfl rfl⟩,hk.setCell 5 _ hR.ownB⟩
theorem xf(q:Int)(h:Tk w0 aj b s ex w):
  Calls prog 239 #[.pointer (some ⟨b,0,none⟩),.int .i64 q] w fun e w'=>e= .returned (.int .i64 0)∧Tk w0 aj b {s with base:=q,state:=q} ex w':=by
 obtain⟨⟨R,hR⟩,hk⟩:=h
 have c4:w.cell? ⟨b,6,none⟩=some (.int .i64 s.base):=hR.cell 6
 have hf:=hR.frozen
 have h1:Tk w0 aj b {s with base:=q} ex (w.setCell ⟨b,6,none⟩ (.int .i64 q)):=⟨⟨R,hR.setCell 6 _ rfl rfl rfl rfl rfl⟩,hk.setCell 6 _ hR.ownB⟩
 go_enter func239,ntmps239
 go_wp2_with(go_at_call 125;refine(mr q h1).mono ?_;rintro e w'⟨rfl,h2⟩)
 go_ret
 exact⟨rfl,h2⟩
def rj:Str:=[110,117,108]
def bb(c:Int):Int:=if c=0 then 65533 else c
def dp(s:TS)(c:Int):TS:=if c=0 then wrong s rj else s
theorem p5{R:n9}(c:Int)(h:Al w0 aj b s R ex w)(hs:s.told.length≤lim):
  Calls prog 127 #[.pointer (some ⟨b,0,none⟩),.int .i32 c] w fun e w'=>∃tl ta,e= .returned (.int .i32 (bb c))∧Al w0 aj b (dp s c) {R with told:=tl,cz:=ta} ex w':=by
 have HW:=hide (xe rj h hs)
 have HT:=hide h
 clear h hs
 by_cases h0:c=0
 ·subst h0
  go_enter func127,ntmps127
  go_wp2_with(go_at_call 160;refine(ae HW).mono ?_;rintro e w'⟨tl,ta,rfl,h2⟩)
  go_ret
  exact⟨tl,ta,rfl,h2⟩
 ·have e0:(c==0)=false:=by simpa using h0
  go_enter func127,ntmps127
  go_wp2
  go_ret
  exact⟨R.told,R.cz,by simp[bb,h0],by simp only[dp,ag h0];exact ae HT⟩
theorem Lp(c:Int)(h:Tk w0 aj b s ex w)(hs:s.told.length≤lim):
  Calls prog 127 #[.pointer (some ⟨b,0,none⟩),.int .i32 c] w fun e w'=>e= .returned (.int .i32 (bb c))∧Tk w0 aj b (dp s c) ex w':=by
 obtain⟨R,hR⟩:=h.reg
 refine(p5 c hR hs).mono ?_
 rintro e w'⟨tl,ta,rfl,h1⟩
 exact⟨rfl,h1.tk⟩
end
section
variable{w0:World}{aj:Nat→Prop}{b:Nat}{s:TS}{ex:List Item}{w:World}
theorem Eg(l:Str):Lib.strCells ⟨l.toArray⟩=byteCells l:=by simp[Lib.strCells,byteCells]
theorem Uf{n m:Nat}(h:n+m≤lim):n+m≤maxLen∧n+m≤140737488355328:=by unfold lim at h;unfold maxLen;omega
theorem Eh(l:Str):(⟨l.toArray⟩:ByteArray).size=l.length:=by simp[ByteArray.size]
def bq(s:TS)(l:Str):TS:={s with comment:=s.comment++l}
theorem Hy(l:Str)(h:Tk w0 aj b s ex w)(hs:s.comment.length+l.length≤lim):
  Calls prog 205 #[.pointer (some ⟨b,0,none⟩),.string ⟨l.toArray⟩] w fun e w'=>e= .returned (.tuple #[])∧Tk w0 aj b (bq s l) ex w':=by
 obtain⟨R,hR,hk⟩:=h.reg
 have c1:w.cell? ⟨b,17,none⟩=some (.slice R.comment.a s.comment.length R.comment.cap):=hR.cell 17
 have hf:=hR.frozen
 obtain⟨i0,hi,hz0,hz1,hz2⟩:=info_parts Tryz.infoByte
 have HS:=hide (Uf hs)
 clear hs
 go_enter func205,ntmps205
 go_wp2_with(at_builtin;refine pd _ rfl _ _ 74 9 rfl 5 i0 underlying74 underlying9 hi hz0 hz1 hz2 R.comment.a s.comment.length R.comment.cap (byteCells s.comment) rfl (by exact hR.rows.ok (cq R.comment s.comment) (by simp[fe])) ⟨l.toArray⟩ rfl (by rw[Eh];exact(ae HS).1) (by rw[Eh];exact(ae HS).2) ?next)
 case next=>
  intro Hv cap' w' hown hgrow hfresh
  rw[Eg]at hown
  obtain⟨hself,hT⟩:=hR.Cx hk (More.refl w) (s.comment++l) ⟨Hv,cap'⟩ (by simpa[Item.ok,cq,byteCells]using hown) hgrow hfresh
  have d1:=bg hself 17
  have df:=bn hself
  simp only[aq]at hT
  simp only[cellsOf]at d1
  go_wp2
  go_end0
  exact⟨rfl,hT⟩
def dt(s:TS):TS:={tell s {kind:=3,text:=s.comment}with comment:=[]}
def dx(s:TS):TS:={dt s with state:=0}
def dy(s:TS):TS:=dt (wrong s [101,110,100,45,105,110,45,99,111,109,109,101,110,116])
theorem ym(h:Tk w0 aj b s ex w)(hs:sz s+2≤lim):
  Calls prog 207 #[.pointer (some ⟨b,0,none⟩)] w fun e w'=>e= .returned (.tuple #[])∧Tk w0 aj b (dt s) ex w':=by
 obtain⟨R,hR,hk⟩:=h.reg
 have c1:w.cell? ⟨b,17,none⟩=some (.slice R.comment.a s.comment.length R.comment.cap):=hR.cell 17
 have hf:=hR.frozen
 have hcv:=oe (r:=R.comment) (l:=s.comment) (hR.rows.ok (cq R.comment s.comment) (by simp[fe]))
 have HC:=hide (qq (ex:=ex) {kind:=3,text:=s.comment} ⟨none,0⟩ (Al.tk ⟨hR.bare,hk⟩) (by unfold sz at hs;omega))
 simp only[fq]at HC
 clear hs
 go_enter func207,ntmps207
 go_wp2_with(go_at_call 37;refine(ae HC).mono ?_;rintro e w'⟨rfl,h1⟩;obtain⟨R1,uu⟩:=h1.reg;have d1:=uu.1.cell 17;have df:=uu.1.frozen;simp only[cellsOf]at d1)
 go_end0
 exact⟨rfl,Lm h1⟩
end
end Go.Proofs.YtdfmapcnfficlaaGreatDoor
namespace Go.Proofs.YtdfmapcnfficlaaGreatDoor
open Go Go.RowKit
theorem G6(s:TS)(t:Tok):sz (cj s t)=sz s+1:=by simp[sz,cj];omega
theorem bw(s:TS)(n:Str):sz (wrong s n)=sz s+1:=G6 _ _
theorem rk(s:TS)(n:Str)(p:Int):sz (bz s n p)=sz s+1:=G6 _ _
theorem W2(s:TS):sz (flush s)≤sz s:=by
 unfold flush
 split
 ·exact cx _
 ·rename_i h
  have:0<s.text.length:=by cases hh:s.text with|nil=>exact absurd hh h|cons=>simp
  simp[sz,cj];omega
theorem Mv(s:TS)(t:Tok):sz (tell s t)≤sz s+1:=by
 have:=W2 s
 rw[tell,G6];omega
theorem d8(s:TS)(q:Int):sz {s with state:=q}=sz s:=rfl
theorem my(s:TS)(c:Int):sz (dp s c)≤sz s+1:=by
 unfold dp;split
 ·rw[bw];omega
 ·omega
theorem bd(s:TS)(l:Str):sz (bq s l)=sz s+l.length:=by simp[sz,bq];omega
theorem Nb(s:TS):sz {s with comment:=[]}≤sz s:=by simp[sz]
theorem Au(s:TS):sz (dt s)≤sz s+1:=by
 have h1:=Mv s {kind:=3,text:=s.comment}
 have h2:=Nb (tell s {kind:=3,text:=s.comment})
 exact fz h2 h1
theorem Qs(s:TS):sz (dx s)≤sz s+1:=Au s
theorem Qt(s:TS):sz (dy s)≤sz s+2:=by
 have h1:=Au (wrong s [101,110,100,45,105,110,45,99,111,109,109,101,110,116])
 rw[bw]at h1
 unfold dy;omega
theorem oh(r:Int):(Lib.encodeRune r).length≤4:=by
 unfold Lib.encodeRune Lib.encodeRuneZ
 repeat' split
 all_goals simp
theorem sk{c:Int}(h:Rn c): -2147483648≤bb c∧bb c≤2147483647:=by
 unfold bb Rn at*;split<;>omega
theorem qk(s:TS)(c:Int):(dp s c).comment=s.comment:=by unfold dp;split<;>rfl
theorem qt(s:TS)(c:Int):(dp s c).text=s.text:=by unfold dp;split<;>rfl
theorem yn(s:TS)(c:Int):(dp s c).jw=s.jw:=by unfold dp;split<;>rfl
theorem mp(s:TS)(c:Int):(dp s c).tag=s.tag:=by unfold dp;split<;>rfl
section
variable{w0:World}{aj:Nat→Prop}{b:Nat}{s:TS}{R:n9}{ex:List Item}{w:World}
theorem qb(h:Al w0 aj b s R ex w):Al w0 aj b s R ex w.drew:=
 ⟨⟨h.1.self,h.1.ownB,⟨h.1.rows.ok,h.1.rows.nodup,h.1.rows.own⟩,qj h.1.map (fun _ _=>rfl),h.1.sj,h.1.la,h.1.lv,h.1.lt⟩,⟨h.2.os,h.2.tape,h.2.output,h.2.size,h.2.block⟩⟩
end
end Go.Proofs.YtdfmapcnfficlaaGreatDoor
namespace Go.Proofs.YtdfmapcnfficlaaGreatDoor
open Go.Proofs.Tryz
open Go Go.RowKit
section
variable{w0:World}{aj:Nat→Prop}{b:Nat}{s:TS}{ex:List Item}{w:World}
theorem tq(h:Tk w0 aj b s ex w)(hs:sz s+2≤lim):
  Calls prog 206 #[.pointer (some ⟨b,0,none⟩)] w fun e w'=>e= .returned (.int .i64 0)∧Tk w0 aj b (dx s) ex w':=by
 have HS:=hide hs
 clear hs
 go_enter func206,ntmps206
 go_wp2_with(first|(go_at_call 207;refine(ym h (ae HS)).mono ?_;rintro e w'⟨rfl,h1⟩)|(go_at_call 125;refine(mr _ h1).mono ?_;rintro e w''⟨rfl,h2⟩))
 go_ret
 exact⟨rfl,h2⟩
theorem vw(h:Tk w0 aj b s ex w)(hs:sz s+4≤lim):
  Calls prog 208 #[.pointer (some ⟨b,0,none⟩)] w fun e w'=>e= .returned (.int .i64 0)∧Tk w0 aj b (dy s) ex w':=by
 have HS:=hide hs
 clear hs
 go_enter func208,ntmps208
 go_wp2_with(first|(go_at_call 160;refine(v8 [101,110,100,45,105,110,45,99,111,109,109,101,110,116] h (by have:=ae HS;unfold sz at this;omega)).mono ?_;rintro e w'⟨rfl,h1⟩)|(go_at_call 207;refine(ym h1 (by rw[bw];have:=ae HS;omega)).mono ?_;rintro e w''⟨rfl,h2⟩))
 go_ret
 exact⟨rfl,h2⟩
def eg(s:TS)(c:Int):TS:=bq (dp s c) (Lib.encodeRune (bb c))
def mo(s:TS)(c:Int):Int×TS:=
 if c=62 then(0,dx s)else if c= -1 then(0,dt s)else(0,eg s c)
theorem Ji(c:Int)(hc:Rn c)(h:Tk w0 aj b s ex w)(hs:sz s+10≤lim):
  Calls prog 143 #[.pointer (some ⟨b,0,none⟩),.int .i32 c] w fun e w'=>e= .returned (.int .i64 (mo s c).1)∧Tk w0 aj b (mo s c).2 ex w':=by
 have HS:=hide hs
 clear hs
 by_cases h1:c=62
 ·subst h1
  go_enter func143,ntmps143
  go_wp2_with(go_at_call 206;refine(tq h (by have:=ae HS;omega)).mono ?_;rintro e w'⟨rfl,h1⟩)
  go_ret
  exact⟨rfl,h1⟩
 by_cases h2:c= -1
 ·subst h2
  go_enter func143,ntmps143
  go_wp2_with(go_at_call 207;refine(ym h (by have:=ae HS;omega)).mono ?_;rintro e w'⟨rfl,h1⟩)
  go_ret
  exact⟨rfl,h1⟩
 have e1:(c==62)=false:=by simpa using h1
 have e2:(c== -1)=false:=by simpa using h2
 have hfin:mo s c=(0,eg s c):=by simp[mo,h1,h2]
 rw[hfin]
 clear hfin h1 h2
 obtain⟨R,hR⟩:=h.reg
 have c1:w.cell? ⟨b,17,none⟩=some (.slice R.comment.a s.comment.length R.comment.cap):=hR.1.cell 17
 have HN:=hide (p5 c (qb hR) (by have:=ae HS;unfold sz at this;omega))
 have HR:=hide (sk hc)
 clear h
 go_enter func143,ntmps143
 go_wp2_with fail
 go_region_with(first
  |(go_at_call 127;refine(ae HN).mono ?_;rintro e w1⟨tl,ta,rfl,h1⟩;have d1:w1.cell? ⟨b,17,none⟩=some (.slice R.comment.a s.comment.length R.comment.cap):=(by rw[h1.1.cell];simp[cellsOf,qk]))
  |(go_at_call 126;refine(nj R.comment s.comment (bb c) (ae HR).1 (ae HR).2 _ (by have:=h1.1.rows.ok (cq R.comment (dp s c).comment) (by simp[fe]);rw[qk]at this;exact this) (by have:=ae HS;unfold sz lim at this;omega)).mono ?_;rintro e w2⟨r',o,rfl,hok,hg,hf⟩;obtain⟨hself,hT⟩:=ld.Cx h1.1 h1.2 ((More.refl _).alloc o) _ r' hok hg hf;have d2:=bg hself 17;have df:=bn hself;simp only[cellsOf]at d2;simp only[aq]at hT))
 all_goals
  go_wp2
  go_ret
  exact⟨rfl,by rw[eg,bq,qk];exact hT⟩
end
section
variable{w0:World}{aj:Nat→Prop}{b:Nat}{s:TS}{ex:List Item}{w:World}
theorem mb(name:Str)(h:Tk w0 aj b s ex w)(hs:sz s+1≤lim):
  Calls prog 160 #[.pointer (some ⟨b,0,none⟩),.string ⟨name.toArray⟩] w fun e w'=>e= .returned (.tuple #[])∧Tk w0 aj b (wrong s name) ex w':=
 v8 name h (by unfold sz at hs;omega)
theorem qu(l:Str)(h:Tk w0 aj b s ex w)(hs:sz s+l.length≤lim):
  Calls prog 205 #[.pointer (some ⟨b,0,none⟩),.string ⟨l.toArray⟩] w fun e w'=>e= .returned (.tuple #[])∧Tk w0 aj b (bq s l) ex w':=
 Hy l h (by unfold sz at hs;omega)
theorem cr(s:TS):sz {s with odd:=true}=sz s:=rfl
def kn(s:TS)(c:Int):Int×TS:=
 if c=45 then(0,{s with state:=21})else
 if c=62 then(0,(dx (wrong s [97,98,114,117,112,116])))else
 (1,{s with state:=22})
theorem Jj(c:Int)(hc:Rn c)(h:Tk w0 aj b s ex w)(hs:sz s+12≤lim):
  Calls prog 144 #[.pointer (some ⟨b,0,none⟩),.int .i32 c] w fun e w'=>e= .returned (.int .i64 (kn s c).1)∧Tk w0 aj b (kn s c).2 ex w':=by
 have HS:=hide hs
 clear hs
 by_cases n45:c=45
 ·have y:=n45
  clear n45
  subst y
  have hfin:kn s 45=(0,{s with state:=21}):=by simp[kn]
  rw[hfin]
  clear hfin
  go_enter func144,ntmps144
  go_wp2_with fail
  refine(mr 21 h).mono ?_
  rintro e w2⟨rfl,h1⟩
  go_wp2
  go_ret
  exact⟨rfl,h1⟩
 by_cases n62:c=62
 ·have y:=n62
  clear n62
  subst y
  have hfin:kn s 62=(0,(dx (wrong s [97,98,114,117,112,116]))):=by simp[kn,n45]
  rw[hfin]
  clear hfin
  have e45:((62:Int)==45)=false:=af.2 n45
  clear n45
  go_enter func144,ntmps144
  go_wp2_with fail
  refine(mb [97,98,114,117,112,116] h (by have:=ae HS;first|omega|(simp only[bw,d8,bd,cr,ai,ak];omega))).mono ?_
  rintro e w2⟨rfl,h1⟩
  go_wp2_with fail
  refine(tq h1 (by have:=ae HS;first|omega|(simp only[bw,d8,bd,cr,ai,ak];omega))).mono ?_
  rintro e w3⟨rfl,h2⟩
  go_wp2
  go_ret
  exact⟨rfl,h2⟩
 have hfin:kn s c=(1,{s with state:=22}):=by simp[kn,n45,n62]
 rw[hfin]
 clear hfin
 have e45:((c:Int)==45)=false:=af.2 n45
 have e62:((c:Int)==62)=false:=af.2 n62
 clear n45
 clear n62
 go_enter func144,ntmps144
 go_wp2_with fail
 refine(ic 22 h).mono ?_
 rintro e w2⟨rfl,h1⟩
 go_wp2
 go_ret
 exact⟨rfl,h1⟩
def dk(s:TS)(c:Int):Int×TS:=
 if c=45 then(0,{s with state:=24})else
 if c= -1 then(0,(dy s))else
 (1,{(bq s [45])with state:=22})
theorem Du(c:Int)(hc:Rn c)(h:Tk w0 aj b s ex w)(hs:sz s+12≤lim):
  Calls prog 146 #[.pointer (some ⟨b,0,none⟩),.int .i32 c] w fun e w'=>e= .returned (.int .i64 (dk s c).1)∧Tk w0 aj b (dk s c).2 ex w':=by
 have HS:=hide hs
 clear hs
 by_cases n45:c=45
 ·have y:=n45
  clear n45
  subst y
  have hfin:dk s 45=(0,{s with state:=24}):=by simp[dk]
  rw[hfin]
  clear hfin
  go_enter func146,ntmps146
  go_wp2_with fail
  refine(mr 24 h).mono ?_
  rintro e w2⟨rfl,h1⟩
  go_wp2
  go_ret
  exact⟨rfl,h1⟩
 by_cases nc:c= -1
 ·have y:=nc
  clear nc
  subst y
  have hfin:dk s (-1)=(0,(dy s)):=by simp[dk,n45]
  rw[hfin]
  clear hfin
  have e45:((-1:Int)==45)=false:=af.2 n45
  clear n45
  go_enter func146,ntmps146
  go_wp2_with fail
  refine(vw h (by have:=ae HS;first|omega|(simp only[bw,d8,bd,cr,ai,ak];omega))).mono ?_
  rintro e w2⟨rfl,h1⟩
  go_wp2
  go_ret
  exact⟨rfl,h1⟩
 have hfin:dk s c=(1,{(bq s [45])with state:=22}):=by simp[dk,n45,nc]
 rw[hfin]
 clear hfin
 have e45:((c:Int)==45)=false:=af.2 n45
 have Cz:((c:Int)== -1)=false:=af.2 nc
 clear n45
 clear nc
 go_enter func146,ntmps146
 go_wp2_with fail
 refine(qu [45] h (by have:=ae HS;first|omega|(simp only[bw,d8,bd,cr,ai,ak];omega))).mono ?_
 rintro e w2⟨rfl,h1⟩
 go_wp2_with fail
 refine(ic 22 h1).mono ?_
 rintro e w3⟨rfl,h2⟩
 go_wp2
 go_ret
 exact⟨rfl,h2⟩
def ik(s:TS)(c:Int):Int×TS:=
 if c=62 then(0,(dx (wrong s [97,98,114,117,112,116])))else
 dk s c
theorem Ej(c:Int)(hc:Rn c)(h:Tk w0 aj b s ex w)(hs:sz s+12≤lim):
  Calls prog 145 #[.pointer (some ⟨b,0,none⟩),.int .i32 c] w fun e w'=>e= .returned (.int .i64 (ik s c).1)∧Tk w0 aj b (ik s c).2 ex w':=by
 have HS:=hide hs
 clear hs
 by_cases n62:c=62
 ·have y:=n62
  clear n62
  subst y
  have hfin:ik s 62=(0,(dx (wrong s [97,98,114,117,112,116]))):=by simp[ik]
  rw[hfin]
  clear hfin
  go_enter func145,ntmps145
  go_wp2_with fail
  refine(mb [97,98,114,117,112,116] h (by have:=ae HS;first|omega|(simp only[bw,d8,bd,cr,ai,ak];omega))).mono ?_
  rintro e w2⟨rfl,h1⟩
  go_wp2_with fail
  refine(tq h1 (by have:=ae HS;first|omega|(simp only[bw,d8,bd,cr,ai,ak];omega))).mono ?_
  rintro e w3⟨rfl,h2⟩
  go_wp2
  go_ret
  exact⟨rfl,h2⟩
 have hfin:ik s c=dk s c:=by simp[ik,n62]
 rw[hfin]
 clear hfin
 have e62:((c:Int)==62)=false:=af.2 n62
 clear n62
 go_enter func145,ntmps145
 go_wp2_with fail
 refine(Du c hc h (by have:=ae HS;first|omega|(simp only[bw,d8,bd,cr,ai,ak];omega))).mono ?_
 rintro e w2⟨rfl,h1⟩
 go_wp2
 go_ret
 exact⟨rfl,h1⟩
def iw(s:TS)(c:Int):Int×TS:=
 if c=62 then(0,(dx s))else
 if c=33 then(0,{s with state:=25})else
 if c=45 then(0,(bq s [45]))else
 if c= -1 then(0,(dy s))else
 (1,{(bq s [45,45])with state:=22})
theorem Hz(c:Int)(hc:Rn c)(h:Tk w0 aj b s ex w)(hs:sz s+12≤lim):
  Calls prog 147 #[.pointer (some ⟨b,0,none⟩),.int .i32 c] w fun e w'=>e= .returned (.int .i64 (iw s c).1)∧Tk w0 aj b (iw s c).2 ex w':=by
 have HS:=hide hs
 clear hs
 by_cases n62:c=62
 ·have y:=n62
  clear n62
  subst y
  have hfin:iw s 62=(0,(dx s)):=by simp[iw]
  rw[hfin]
  clear hfin
  go_enter func147,ntmps147
  go_wp2_with fail
  refine(tq h (by have:=ae HS;first|omega|(simp only[bw,d8,bd,cr,ai,ak];omega))).mono ?_
  rintro e w2⟨rfl,h1⟩
  go_wp2
  go_ret
  exact⟨rfl,h1⟩
 by_cases n33:c=33
 ·have y:=n33
  clear n33
  subst y
  have hfin:iw s 33=(0,{s with state:=25}):=by simp[iw,n62]
  rw[hfin]
  clear hfin
  have e62:((33:Int)==62)=false:=af.2 n62
  clear n62
  go_enter func147,ntmps147
  go_wp2_with fail
  refine(mr 25 h).mono ?_
  rintro e w2⟨rfl,h1⟩
  go_wp2
  go_ret
  exact⟨rfl,h1⟩
 by_cases n45:c=45
 ·have y:=n45
  clear n45
  subst y
  have hfin:iw s 45=(0,(bq s [45])):=by simp[iw,n62,n33]
  rw[hfin]
  clear hfin
  have e62:((45:Int)==62)=false:=af.2 n62
  have e33:((45:Int)==33)=false:=af.2 n33
  clear n62
  clear n33
  go_enter func147,ntmps147
  go_wp2_with fail
  refine(qu [45] h (by have:=ae HS;first|omega|(simp only[bw,d8,bd,cr,ai,ak];omega))).mono ?_
  rintro e w2⟨rfl,h1⟩
  go_wp2
  go_ret
  exact⟨rfl,h1⟩
 by_cases nc:c= -1
 ·have y:=nc
  clear nc
  subst y
  have hfin:iw s (-1)=(0,(dy s)):=by simp[iw,n62,n33,n45]
  rw[hfin]
  clear hfin
  have e62:((-1:Int)==62)=false:=af.2 n62
  have e33:((-1:Int)==33)=false:=af.2 n33
  have e45:((-1:Int)==45)=false:=af.2 n45
  clear n62
  clear n33
  clear n45
  go_enter func147,ntmps147
  go_wp2_with fail
  refine(vw h (by have:=ae HS;first|omega|(simp only[bw,d8,bd,cr,ai,ak];omega))).mono ?_
  rintro e w2⟨rfl,h1⟩
  go_wp2
  go_ret
  exact⟨rfl,h1⟩
 have hfin:iw s c=(1,{(bq s [45,45])with state:=22}):=by simp[iw,n62,n33,n45,nc]
 rw[hfin]
 clear hfin
 have e62:((c:Int)==62)=false:=af.2 n62
 have e33:((c:Int)==33)=false:=af.2 n33
 have e45:((c:Int)==45)=false:=af.2 n45
 have Cz:((c:Int)== -1)=false:=af.2 nc
 clear n62
 clear n33
 clear n45
 clear nc
 go_enter func147,ntmps147
 go_wp2_with fail
 refine(qu [45,45] h (by have:=ae HS;first|omega|(simp only[bw,d8,bd,cr,ai,ak];omega))).mono ?_
 rintro e w2⟨rfl,h1⟩
 go_wp2_with fail
 refine(ic 22 h1).mono ?_
 rintro e w3⟨rfl,h2⟩
 go_wp2
 go_ret
 exact⟨rfl,h2⟩
def lf(s:TS)(c:Int):Int×TS:=
 if c=45 then(0,{(bq s [45,45,33])with state:=23})else
 if c=62 then(0,(dx (wrong s [98,97,110,103])))else
 if c= -1 then(0,(dy s))else
 (1,{(bq s [45,45,33])with state:=22})
theorem Lr(c:Int)(hc:Rn c)(h:Tk w0 aj b s ex w)(hs:sz s+12≤lim):
  Calls prog 148 #[.pointer (some ⟨b,0,none⟩),.int .i32 c] w fun e w'=>e= .returned (.int .i64 (lf s c).1)∧Tk w0 aj b (lf s c).2 ex w':=by
 have HS:=hide hs
 clear hs
 by_cases n45:c=45
 ·have y:=n45
  clear n45
  subst y
  have hfin:lf s 45=(0,{(bq s [45,45,33])with state:=23}):=by simp[lf]
  rw[hfin]
  clear hfin
  go_enter func148,ntmps148
  go_wp2_with fail
  refine(qu [45,45,33] h (by have:=ae HS;first|omega|(simp only[bw,d8,bd,cr,ai,ak];omega))).mono ?_
  rintro e w2⟨rfl,h1⟩
  go_wp2_with fail
  refine(mr 23 h1).mono ?_
  rintro e w3⟨rfl,h2⟩
  go_wp2
  go_ret
  exact⟨rfl,h2⟩
 by_cases n62:c=62
 ·have y:=n62
  clear n62
  subst y
  have hfin:lf s 62=(0,(dx (wrong s [98,97,110,103]))):=by simp[lf,n45]
  rw[hfin]
  clear hfin
  have e45:((62:Int)==45)=false:=af.2 n45
  clear n45
  go_enter func148,ntmps148
  go_wp2_with fail
  refine(mb [98,97,110,103] h (by have:=ae HS;first|omega|(simp only[bw,d8,bd,cr,ai,ak];omega))).mono ?_
  rintro e w2⟨rfl,h1⟩
  go_wp2_with fail
  refine(tq h1 (by have:=ae HS;first|omega|(simp only[bw,d8,bd,cr,ai,ak];omega))).mono ?_
  rintro e w3⟨rfl,h2⟩
  go_wp2
  go_ret
  exact⟨rfl,h2⟩
 by_cases nc:c= -1
 ·have y:=nc
  clear nc
  subst y
  have hfin:lf s (-1)=(0,(dy s)):=by simp[lf,n45,n62]
  rw[hfin]
  clear hfin
  have e45:((-1:Int)==45)=false:=af.2 n45
  have e62:((-1:Int)==62)=false:=af.2 n62
  clear n45
  clear n62
  go_enter func148,ntmps148
  go_wp2_with fail
  refine(vw h (by have:=ae HS;first|omega|(simp only[bw,d8,bd,cr,ai,ak];omega))).mono ?_
  rintro e w2⟨rfl,h1⟩
  go_wp2
  go_ret
  exact⟨rfl,h1⟩
 have hfin:lf s c=(1,{(bq s [45,45,33])with state:=22}):=by simp[lf,n45,n62,nc]
 rw[hfin]
 clear hfin
 have e45:((c:Int)==45)=false:=af.2 n45
 have e62:((c:Int)==62)=false:=af.2 n62
 have Cz:((c:Int)== -1)=false:=af.2 nc
 clear n45
 clear n62
 clear nc
 go_enter func148,ntmps148
 go_wp2_with fail
 refine(qu [45,45,33] h (by have:=ae HS;first|omega|(simp only[bw,d8,bd,cr,ai,ak];omega))).mono ?_
 rintro e w2⟨rfl,h1⟩
 go_wp2_with fail
 refine(ic 22 h1).mono ?_
 rintro e w3⟨rfl,h2⟩
 go_wp2
 go_ret
 exact⟨rfl,h2⟩
end
section
variable{w0:World}{aj:Nat→Prop}{b:Nat}{s:TS}{ex:List Item}{w:World}
theorem ie{c:Int}(h:Rn c):Rn (bb c):=by unfold bb Rn at*;split<;>omega
theorem C0{c:Int}(h:Rn c): -2147483648≤lw c∧lw c≤2147483647:=by unfold lw Rn at*;split<;>omega
theorem Qu(s:TS)(c:Int):eg s c={dp s c with comment:=s.comment++Lib.encodeRune (bb c)}:=by rw[eg,bq,qk]
def jh(s:TS)(c:Int):Int×TS:=
 if c=45 then(0,{s with state:=23})else
 if c= -1 then(0,(dy s))else
 (0,(eg s c))
theorem G7(c:Int)(hc:Rn c)(h:Tk w0 aj b s ex w)(hs:sz s+12≤lim):
  Calls prog 149 #[.pointer (some ⟨b,0,none⟩),.int .i32 c] w fun e w'=>e= .returned (.int .i64 (jh s c).1)∧Tk w0 aj b (jh s c).2 ex w':=by
 have HS:=hide hs
 clear hs
 by_cases n45:c=45
 ·have y:=n45
  clear n45
  subst y
  have hfin:jh s 45=(0,{s with state:=23}):=by simp[jh]
  rw[hfin]
  clear hfin
  go_enter func149,ntmps149
  go_wp2_with fail
  refine(mr 23 h).mono ?_
  rintro e w2⟨rfl,h1⟩
  go_wp2
  go_ret
  exact⟨rfl,h1⟩
 by_cases nc:c= -1
 ·have y:=nc
  clear nc
  subst y
  have hfin:jh s (-1)=(0,(dy s)):=by simp[jh,n45]
  rw[hfin]
  clear hfin
  have e45:((-1:Int)==45)=false:=af.2 n45
  clear n45
  go_enter func149,ntmps149
  go_wp2_with fail
  refine(vw h (by have:=ae HS;first|omega|(simp only[bw,d8,bd,cr,ai,ak];omega))).mono ?_
  rintro e w2⟨rfl,h1⟩
  go_wp2
  go_ret
  exact⟨rfl,h1⟩
 have hfin:jh s c=(0,(eg s c)):=by simp[jh,n45,nc]
 rw[hfin]
 clear hfin
 have e45:((c:Int)==45)=false:=af.2 n45
 have Cz:((c:Int)== -1)=false:=af.2 nc
 clear n45
 clear nc
 obtain⟨R,hR⟩:=h.reg
 have c1:w.cell? ⟨b,17,none⟩=some (.slice R.comment.a s.comment.length R.comment.cap):=hR.1.cell 17
 have HN:=hide (p5 c (qb hR) (by have:=ae HS;unfold sz at this;omega))
 have HR:=hide (sk hc)
 have HL:=hide (ie hc)
 have HP:=hide (C0 (ie hc))
 clear h
 go_enter func149,ntmps149
 go_wp2_with fail
 go_region_with(first
  |(go_at_call 127;refine(ae HN).mono ?_;rintro e w1⟨tl,ta,rfl,h1⟩;have d1:w1.cell? ⟨b,17,none⟩=some (.slice R.comment.a s.comment.length R.comment.cap):=(by rw[h1.1.cell];simp[cellsOf,qk]))
  |(go_at_call 126;refine(nj R.comment s.comment (bb c) (ae HR).1 (ae HR).2 _ (by have:=h1.1.rows.ok (cq R.comment (dp s c).comment) (by simp[fe]);rw[qk]at this;exact this) (by have:=ae HS;unfold sz lim at this;omega)).mono ?_;rintro e w2⟨r',o,rfl,hok,hg,hf⟩;obtain⟨hself,hT⟩:=ld.Cx h1.1 h1.2 ((More.refl _).alloc o) _ r' hok hg hf;have d2:=bg hself 17;have df:=bn hself;simp only[cellsOf]at d2;simp only[aq]at hT))
 all_goals
  go_wp2
  go_ret
  exact⟨rfl,by rw[Qu];exact hT⟩
end
section
variable{w0:World}{aj:Nat→Prop}{b:Nat}{s:TS}{ex:List Item}{w:World}
def ko(s:TS)(c:Int):TS:={dp s c with jw:=s.jw++Lib.encodeRune (lw (bb c))}
def dj(s:TS):TS:={tell s {kind:=4,name:=s.jw,flag:=s.odd}with jw:=[],odd:=false}
def d9(s:TS):TS:={dj s with state:=0}
def dz(s:TS):TS:=dj {wrong s [101,110,100,45,105,110,45,100,111,99,116,121,112,101]with odd:=true}
theorem Aw(s:TS):sz (dj s)≤sz s+1:=by
 have h1:=Mv s {kind:=4,name:=s.jw,flag:=s.odd}
 have h2:sz (dj s)≤sz (tell s {kind:=4,name:=s.jw,flag:=s.odd}):=by simp[sz,dj]
 omega
theorem Ug(s:TS)(c:Int):sz (ko s c)≤sz s+5:=by
 have h1:=my s c
 have h2:=oh (lw (bb c))
 have h3:sz (ko s c)=sz (dp s c)+(Lib.encodeRune (lw (bb c))).length:=by simp[sz,ko,yn];omega
 omega
theorem Qv(h:Tk w0 aj b s ex w):Tk w0 aj b {s with jw:=[]} ex (w.setCell ⟨b,18,none⟩ (.slice none 0 0)):=by
 obtain⟨⟨R,hR⟩,hk⟩:=h
 refine⟨⟨{R with jw:=⟨none,0⟩},?_⟩,hk.setCell 18 _ hR.ownB⟩
 refine hR.anew (by rw[set_self hR.self];rfl) (fun k hk=>kj _ hk) ([cq R.text s.text,cq R.fi s.tag.name,cq R.buffer s.tag.buffer,(⟨210,3,R.cy.a,s.tag.cy.length,R.cy.cap,jl s.tag.cy R.kg R.jb⟩:Item),cq R.comment s.comment]++([(⟨34,6,R.told.a,s.told.length,R.told.cap,eh s.told R.cz⟩:Item)]++(ma s.tag.cy R.kg R.jb++cw s.told R.cz)++ex)) [cq R.jw s.jw] [cq ⟨none,0⟩ []] (qw [cq R.text s.text,cq R.fi s.tag.name,cq R.buffer s.tag.buffer,(⟨210,3,R.cy.a,s.tag.cy.length,R.cy.cap,jl s.tag.cy R.kg R.jb⟩:Item),cq R.comment s.comment] ([(⟨34,6,R.told.a,s.told.length,R.told.cap,eh s.told R.cz⟩:Item)]++(ma s.tag.cy R.kg R.jb++cw s.told R.cz)++ex) (cq R.jw s.jw)) ?_ (qw [cq R.text s.text,cq R.fi s.tag.name,cq R.buffer s.tag.buffer,(⟨210,3,R.cy.a,s.tag.cy.length,R.cy.cap,jl s.tag.cy R.kg R.jb⟩:Item),cq R.comment s.comment] ([(⟨34,6,R.told.a,s.told.length,R.told.cap,eh s.told R.cz⟩:Item)]++(ma s.tag.cy R.kg R.jb++cw s.told R.cz)++ex) (cq ⟨none,0⟩ [])) (.inl ⟨rfl,rfl⟩) hR.la hR.lv hR.lt
 intro it hi
 rw[de.1 hi]
 exact⟨q9 w,rfl⟩
theorem zgi(h:Tk w0 aj b s ex w)(q:Bool):Tk w0 aj b {s with odd:=q} ex (w.setCell ⟨b,19,none⟩ (.bool q)):=by
 obtain⟨R,hR⟩:=h.reg
 exact⟨⟨R,hR.1.setCell 19 _ rfl rfl rfl rfl rfl⟩,hR.2.setCell 19 _ hR.1.ownB⟩
theorem Ek(c:Int)(hc:Rn c)(h:Tk w0 aj b s ex w)(hs:sz s+8≤lim):
  Calls prog 211 #[.pointer (some ⟨b,0,none⟩),.int .i32 c] w fun e w'=>e= .returned (.tuple #[])∧Tk w0 aj b (ko s c) ex w':=by
 have HS:=hide hs
 clear hs
 obtain⟨R,hR⟩:=h.reg
 have c1:w.cell? ⟨b,18,none⟩=some (.slice R.jw.a s.jw.length R.jw.cap):=hR.1.cell 18
 have HN:=hide (p5 c (qb hR) (by have:=ae HS;unfold sz at this;omega))
 have HL:=hide (ie hc)
 have HP:=hide (C0 (ie hc))
 clear h
 go_enter func211,ntmps211
 go_wp2_with fail
 go_region_with(first
  |(go_at_call 127;refine(ae HN).mono ?_;rintro e w1⟨tl,ta,rfl,h1⟩;have d1:w1.cell? ⟨b,18,none⟩=some (.slice R.jw.a s.jw.length R.jw.cap):=(by rw[h1.1.cell];simp[cellsOf,yn]))
  |(go_at_call 194;refine(pg (bb c) _ (ae HL)).mono ?_;rintro e w4⟨rfl,rfl⟩)
  |(go_at_call 126;refine(nj R.jw s.jw (lw (bb c)) (ae HP).1 (ae HP).2 _ (by have:=h1.1.rows.ok (cq R.jw (dp s c).jw) (by simp[fe]);rw[yn]at this;exact this) (by have:=ae HS;unfold sz lim at this;omega)).mono ?_;rintro e w2⟨r',o,rfl,hok,hg,hf⟩;obtain⟨hself,hT⟩:=ld.zak h1.1 h1.2 ((More.refl _).alloc o) _ r' hok hg hf;have d2:=bg hself 18;have df:=bn hself;simp only[cellsOf]at d2;simp only[aq]at hT))
 all_goals
  go_wp2
  go_end0
  exact⟨rfl,hT⟩
theorem yp(h:Tk w0 aj b s ex w)(hs:sz s+2≤lim):
  Calls prog 212 #[.pointer (some ⟨b,0,none⟩)] w fun e w'=>e= .returned (.tuple #[])∧Tk w0 aj b (dj s) ex w':=by
 obtain⟨R,hR⟩:=h.reg
 have c1:w.cell? ⟨b,18,none⟩=some (.slice R.jw.a s.jw.length R.jw.cap):=hR.1.cell 18
 have c2:w.cell? ⟨b,19,none⟩=some (.bool s.odd):=hR.1.cell 19
 have hcv:=oe (w:=w.drew) (r:=R.jw) (l:=s.jw) (hR.1.rows.ok (cq R.jw s.jw) (by simp[fe]))
 have HC:=hide (qq (ex:=ex) {kind:=4,name:=s.jw,flag:=s.odd} ⟨none,0⟩ (Al.tk ⟨(qb hR).1.bare,(qb hR).2⟩) (by unfold sz at hs;omega))
 simp only[fq]at HC
 clear hs h
 go_enter func212,ntmps212
 go_wp2_with fail
 go_region_with(go_at_call 37;refine(ae HC).mono ?_;rintro e w'⟨rfl,h1⟩;obtain⟨R1,uu⟩:=h1.reg;have d1:=uu.1.cell 18;have d2:=uu.1.cell 19;have df:=uu.1.frozen;simp only[cellsOf]at d1;simp only[cellsOf]at d2)
 all_goals
  go_wp2
  go_end0
  exact⟨rfl,zgi (Qv h1) false⟩
theorem vx(h:Tk w0 aj b s ex w)(hs:sz s+2≤lim):
  Calls prog 209 #[.pointer (some ⟨b,0,none⟩)] w fun e w'=>e= .returned (.int .i64 0)∧Tk w0 aj b (d9 s) ex w':=by
 have HS:=hide hs
 clear hs
 go_enter func209,ntmps209
 go_wp2_with fail
 refine(yp h (ae HS)).mono ?_
 rintro e w'⟨rfl,h1⟩
 go_wp2_with fail
 refine(mr _ h1).mono ?_
 rintro e w''⟨rfl,h2⟩
 go_wp2
 go_ret
 exact⟨rfl,h2⟩
theorem vy(h:Tk w0 aj b s ex w)(hs:sz s+4≤lim):
  Calls prog 210 #[.pointer (some ⟨b,0,none⟩)] w fun e w'=>e= .returned (.int .i64 0)∧Tk w0 aj b (dz s) ex w':=by
 have HS:=hide hs
 clear hs
 go_enter func210,ntmps210
 go_wp2_with fail
 refine(mb [101,110,100,45,105,110,45,100,111,99,116,121,112,101] h (by have:=ae HS;omega)).mono ?_
 rintro e w1⟨rfl,h1⟩
 obtain⟨R1,uu⟩:=h1.reg
 have d2:=uu.1.cell 19
 have df:=uu.1.frozen
 simp only[cellsOf]at d2
 have h2:=zgi h1 true
 go_wp2_with fail
 refine(yp h2 (by rw[cr,bw];have:=ae HS;omega)).mono ?_
 rintro e w''⟨rfl,h3⟩
 go_wp2
 go_ret
 exact⟨rfl,h3⟩
def ix(s:TS)(c:Int):Int×TS:=
 if ba c=true then(0,{s with state:=27})else
 if c=62 then(1,{s with state:=27})else
 if c= -1 then(0,(dz s))else
 (1,{(wrong s [110,111,45,98,108,97,110,107])with state:=27})
theorem G8(c:Int)(hc:Rn c)(h:Tk w0 aj b s ex w)(hs:sz s+12≤lim):
  Calls prog 154 #[.pointer (some ⟨b,0,none⟩),.int .i32 c] w fun e w'=>e= .returned (.int .i64 (ix s c).1)∧Tk w0 aj b (ix s c).2 ex w':=by
 have HS:=hide hs
 clear hs
 by_cases be:ba c=true
 ·have y:=be
  clear be
  have hfin:ix s c=(0,{s with state:=27}):=by simp[ix,y]
  rw[hfin]
  clear hfin
  go_enter func154,ntmps154
  go_wp2_with fail
  refine(cg c _).mono ?_
  rintro e w1⟨rfl,rfl⟩
  go_wp2_with fail
  refine(mr 27 h).mono ?_
  rintro e w2⟨rfl,h1⟩
  go_wp2
  go_ret
  exact⟨rfl,h1⟩
 by_cases n62:c=62
 ·have y:=n62
  clear n62
  subst y
  have hfin:ix s 62=(1,{s with state:=27}):=by simp[ix,be]
  rw[hfin]
  clear hfin
  have gj:ba 62=false:=az.2 be
  clear be
  go_enter func154,ntmps154
  go_wp2_with fail
  refine(cg 62 _).mono ?_
  rintro e w1⟨rfl,rfl⟩
  go_wp2_with fail
  refine(ic 27 h).mono ?_
  rintro e w2⟨rfl,h1⟩
  go_wp2
  go_ret
  exact⟨rfl,h1⟩
 by_cases nc:c= -1
 ·have y:=nc
  clear nc
  subst y
  have hfin:ix s (-1)=(0,(dz s)):=by simp[ix,be,n62]
  rw[hfin]
  clear hfin
  have gj:ba (-1)=false:=az.2 be
  have e62:((-1:Int)==62)=false:=af.2 n62
  clear be
  clear n62
  go_enter func154,ntmps154
  go_wp2_with fail
  refine(cg (-1) _).mono ?_
  rintro e w1⟨rfl,rfl⟩
  go_wp2_with fail
  refine(vy h (by have:=ae HS;first|omega|(simp only[bw,d8,bd,cr,ai,ak];omega))).mono ?_
  rintro e w2⟨rfl,h1⟩
  go_wp2
  go_ret
  exact⟨rfl,h1⟩
 have hfin:ix s c=(1,{(wrong s [110,111,45,98,108,97,110,107])with state:=27}):=by simp[ix,be,n62,nc]
 rw[hfin]
 clear hfin
 have gj:ba c=false:=az.2 be
 have e62:((c:Int)==62)=false:=af.2 n62
 have Cz:((c:Int)== -1)=false:=af.2 nc
 clear be
 clear n62
 clear nc
 go_enter func154,ntmps154
 go_wp2_with fail
 refine(cg c _).mono ?_
 rintro e w1⟨rfl,rfl⟩
 go_wp2_with fail
 refine(mb [110,111,45,98,108,97,110,107] h (by have:=ae HS;first|omega|(simp only[bw,d8,bd,cr,ai,ak];omega))).mono ?_
 rintro e w2⟨rfl,h1⟩
 go_wp2_with fail
 refine(ic 27 h1).mono ?_
 rintro e w3⟨rfl,h2⟩
 go_wp2
 go_ret
 exact⟨rfl,h2⟩
def ki(s:TS)(c:Int):Int×TS:=
 if ba c=true then(0,s)else
 if c=62 then(0,(d9 {(wrong s [110,111,45,110,97,109,101])with odd:=true}))else
 if c= -1 then(0,(dz s))else
 (0,{(ko s c)with state:=28})
theorem Ls(c:Int)(hc:Rn c)(h:Tk w0 aj b s ex w)(hs:sz s+12≤lim):
  Calls prog 150 #[.pointer (some ⟨b,0,none⟩),.int .i32 c] w fun e w'=>e= .returned (.int .i64 (ki s c).1)∧Tk w0 aj b (ki s c).2 ex w':=by
 have HS:=hide hs
 clear hs
 by_cases be:ba c=true
 ·have y:=be
  clear be
  have hfin:ki s c=(0,s):=by simp[ki,y]
  rw[hfin]
  clear hfin
  go_enter func150,ntmps150
  go_wp2_with fail
  refine(cg c _).mono ?_
  rintro e w1⟨rfl,rfl⟩
  go_wp2
  go_ret
  exact⟨rfl,h⟩
 by_cases n62:c=62
 ·have y:=n62
  clear n62
  subst y
  have hfin:ki s 62=(0,(d9 {(wrong s [110,111,45,110,97,109,101])with odd:=true})):=by simp[ki,be]
  rw[hfin]
  clear hfin
  have gj:ba 62=false:=az.2 be
  clear be
  go_enter func150,ntmps150
  go_wp2_with fail
  refine(cg 62 _).mono ?_
  rintro e w1⟨rfl,rfl⟩
  go_wp2_with fail
  refine(mb [110,111,45,110,97,109,101] h (by have:=ae HS;first|omega|(simp only[bw,d8,bd,cr,ai,ak];omega))).mono ?_
  rintro e w2⟨rfl,h1⟩
  obtain⟨R2,hR2⟩:=Tk.reg h1
  have c2:=hR2.1.cell 19
  have f2:=hR2.1.frozen
  simp only[cellsOf]at c2
  have h2:Tk w0 aj b {(wrong s [110,111,45,110,97,109,101])with odd:=true} ex (World.setCell _ ⟨b,19,none⟩ (.bool true)):=⟨⟨R2,hR2.1.setCell 19 _ rfl rfl rfl rfl rfl⟩,hR2.2.setCell 19 _ hR2.1.ownB⟩
  go_wp2_with fail
  refine(vx h2 (by have:=ae HS;first|omega|(simp only[bw,d8,bd,cr,ai,ak];omega))).mono ?_
  rintro e w4⟨rfl,h3⟩
  go_wp2
  go_ret
  exact⟨rfl,h3⟩
 by_cases nc:c= -1
 ·have y:=nc
  clear nc
  subst y
  have hfin:ki s (-1)=(0,(dz s)):=by simp[ki,be,n62]
  rw[hfin]
  clear hfin
  have gj:ba (-1)=false:=az.2 be
  have e62:((-1:Int)==62)=false:=af.2 n62
  clear be
  clear n62
  go_enter func150,ntmps150
  go_wp2_with fail
  refine(cg (-1) _).mono ?_
  rintro e w1⟨rfl,rfl⟩
  go_wp2_with fail
  refine(vy h (by have:=ae HS;first|omega|(simp only[bw,d8,bd,cr,ai,ak];omega))).mono ?_
  rintro e w2⟨rfl,h1⟩
  go_wp2
  go_ret
  exact⟨rfl,h1⟩
 have hfin:ki s c=(0,{(ko s c)with state:=28}):=by simp[ki,be,n62,nc]
 rw[hfin]
 clear hfin
 have gj:ba c=false:=az.2 be
 have e62:((c:Int)==62)=false:=af.2 n62
 have Cz:((c:Int)== -1)=false:=af.2 nc
 clear be
 clear n62
 clear nc
 go_enter func150,ntmps150
 go_wp2_with fail
 refine(cg c _).mono ?_
 rintro e w1⟨rfl,rfl⟩
 go_wp2_with fail
 refine(Ek c hc h (by have:=ae HS;first|omega|(simp only[bw,d8,bd,cr,ai,ak];omega))).mono ?_
 rintro e w2⟨rfl,h1⟩
 go_wp2_with fail
 refine(mr 28 h1).mono ?_
 rintro e w3⟨rfl,h2⟩
 go_wp2
 go_ret
 exact⟨rfl,h2⟩
def g8(s:TS)(c:Int):Int×TS:=
 if ba c=true then(0,{s with state:=29})else
 if c=62 then(0,(d9 s))else
 if c= -1 then(0,(dz s))else
 (0,(ko s c))
theorem Gf(c:Int)(hc:Rn c)(h:Tk w0 aj b s ex w)(hs:sz s+12≤lim):
  Calls prog 151 #[.pointer (some ⟨b,0,none⟩),.int .i32 c] w fun e w'=>e= .returned (.int .i64 (g8 s c).1)∧Tk w0 aj b (g8 s c).2 ex w':=by
 have HS:=hide hs
 clear hs
 by_cases be:ba c=true
 ·have y:=be
  clear be
  have hfin:g8 s c=(0,{s with state:=29}):=by simp[g8,y]
  rw[hfin]
  clear hfin
  go_enter func151,ntmps151
  go_wp2_with fail
  refine(cg c _).mono ?_
  rintro e w1⟨rfl,rfl⟩
  go_wp2_with fail
  refine(mr 29 h).mono ?_
  rintro e w2⟨rfl,h1⟩
  go_wp2
  go_ret
  exact⟨rfl,h1⟩
 by_cases n62:c=62
 ·have y:=n62
  clear n62
  subst y
  have hfin:g8 s 62=(0,(d9 s)):=by simp[g8,be]
  rw[hfin]
  clear hfin
  have gj:ba 62=false:=az.2 be
  clear be
  go_enter func151,ntmps151
  go_wp2_with fail
  refine(cg 62 _).mono ?_
  rintro e w1⟨rfl,rfl⟩
  go_wp2_with fail
  refine(vx h (by have:=ae HS;first|omega|(simp only[bw,d8,bd,cr,ai,ak];omega))).mono ?_
  rintro e w2⟨rfl,h1⟩
  go_wp2
  go_ret
  exact⟨rfl,h1⟩
 by_cases nc:c= -1
 ·have y:=nc
  clear nc
  subst y
  have hfin:g8 s (-1)=(0,(dz s)):=by simp[g8,be,n62]
  rw[hfin]
  clear hfin
  have gj:ba (-1)=false:=az.2 be
  have e62:((-1:Int)==62)=false:=af.2 n62
  clear be
  clear n62
  go_enter func151,ntmps151
  go_wp2_with fail
  refine(cg (-1) _).mono ?_
  rintro e w1⟨rfl,rfl⟩
  go_wp2_with fail
  refine(vy h (by have:=ae HS;first|omega|(simp only[bw,d8,bd,cr,ai,ak];omega))).mono ?_
  rintro e w2⟨rfl,h1⟩
  go_wp2
  go_ret
  exact⟨rfl,h1⟩
 have hfin:g8 s c=(0,(ko s c)):=by simp[g8,be,n62,nc]
 rw[hfin]
 clear hfin
 have gj:ba c=false:=az.2 be
 have e62:((c:Int)==62)=false:=af.2 n62
 have Cz:((c:Int)== -1)=false:=af.2 nc
 clear be
 clear n62
 clear nc
 go_enter func151,ntmps151
 go_wp2_with fail
 refine(cg c _).mono ?_
 rintro e w1⟨rfl,rfl⟩
 go_wp2_with fail
 refine(Ek c hc h (by have:=ae HS;first|omega|(simp only[bw,d8,bd,cr,ai,ak];omega))).mono ?_
 rintro e w2⟨rfl,h1⟩
 go_wp2
 go_ret
 exact⟨rfl,h1⟩
def iy(s:TS)(c:Int):Int×TS:=
 if ba c=true then(0,s)else
 if c=62 then(0,(d9 s))else
 if c= -1 then(0,(dz s))else
 (1,{{(wrong s [107,105,110,100])with odd:=true}with state:=30})
theorem G9(c:Int)(hc:Rn c)(h:Tk w0 aj b s ex w)(hs:sz s+12≤lim):
  Calls prog 152 #[.pointer (some ⟨b,0,none⟩),.int .i32 c] w fun e w'=>e= .returned (.int .i64 (iy s c).1)∧Tk w0 aj b (iy s c).2 ex w':=by
 have HS:=hide hs
 clear hs
 by_cases be:ba c=true
 ·have y:=be
  clear be
  have hfin:iy s c=(0,s):=by simp[iy,y]
  rw[hfin]
  clear hfin
  go_enter func152,ntmps152
  go_wp2_with fail
  refine(cg c _).mono ?_
  rintro e w1⟨rfl,rfl⟩
  go_wp2
  go_ret
  exact⟨rfl,h⟩
 by_cases n62:c=62
 ·have y:=n62
  clear n62
  subst y
  have hfin:iy s 62=(0,(d9 s)):=by simp[iy,be]
  rw[hfin]
  clear hfin
  have gj:ba 62=false:=az.2 be
  clear be
  go_enter func152,ntmps152
  go_wp2_with fail
  refine(cg 62 _).mono ?_
  rintro e w1⟨rfl,rfl⟩
  go_wp2_with fail
  refine(vx h (by have:=ae HS;first|omega|(simp only[bw,d8,bd,cr,ai,ak];omega))).mono ?_
  rintro e w2⟨rfl,h1⟩
  go_wp2
  go_ret
  exact⟨rfl,h1⟩
 by_cases nc:c= -1
 ·have y:=nc
  clear nc
  subst y
  have hfin:iy s (-1)=(0,(dz s)):=by simp[iy,be,n62]
  rw[hfin]
  clear hfin
  have gj:ba (-1)=false:=az.2 be
  have e62:((-1:Int)==62)=false:=af.2 n62
  clear be
  clear n62
  go_enter func152,ntmps152
  go_wp2_with fail
  refine(cg (-1) _).mono ?_
  rintro e w1⟨rfl,rfl⟩
  go_wp2_with fail
  refine(vy h (by have:=ae HS;first|omega|(simp only[bw,d8,bd,cr,ai,ak];omega))).mono ?_
  rintro e w2⟨rfl,h1⟩
  go_wp2
  go_ret
  exact⟨rfl,h1⟩
 have hfin:iy s c=(1,{{(wrong s [107,105,110,100])with odd:=true}with state:=30}):=by simp[iy,be,n62,nc]
 rw[hfin]
 clear hfin
 have gj:ba c=false:=az.2 be
 have e62:((c:Int)==62)=false:=af.2 n62
 have Cz:((c:Int)== -1)=false:=af.2 nc
 clear be
 clear n62
 clear nc
 go_enter func152,ntmps152
 go_wp2_with fail
 refine(cg c _).mono ?_
 rintro e w1⟨rfl,rfl⟩
 go_wp2_with fail
 refine(mb [107,105,110,100] h (by have:=ae HS;first|omega|(simp only[bw,d8,bd,cr,ai,ak];omega))).mono ?_
 rintro e w2⟨rfl,h1⟩
 obtain⟨R2,hR2⟩:=Tk.reg h1
 have c2:=hR2.1.cell 19
 have f2:=hR2.1.frozen
 simp only[cellsOf]at c2
 have h2:Tk w0 aj b {(wrong s [107,105,110,100])with odd:=true} ex (World.setCell _ ⟨b,19,none⟩ (.bool true)):=⟨⟨R2,hR2.1.setCell 19 _ rfl rfl rfl rfl rfl⟩,hR2.2.setCell 19 _ hR2.1.ownB⟩
 go_wp2_with fail
 refine(ic 30 h2).mono ?_
 rintro e w4⟨rfl,h3⟩
 go_wp2
 go_ret
 exact⟨rfl,h3⟩
def g9(s:TS)(c:Int):Int×TS:=
 if c=62 then(0,(d9 s))else
 if c=0 then(0,(wrong s [110,117,108]))else
 if c= -1 then(0,(dj s))else
 (0,s)
theorem Gg(c:Int)(hc:Rn c)(h:Tk w0 aj b s ex w)(hs:sz s+12≤lim):
  Calls prog 153 #[.pointer (some ⟨b,0,none⟩),.int .i32 c] w fun e w'=>e= .returned (.int .i64 (g9 s c).1)∧Tk w0 aj b (g9 s c).2 ex w':=by
 have HS:=hide hs
 clear hs
 by_cases n62:c=62
 ·have y:=n62
  clear n62
  subst y
  have hfin:g9 s 62=(0,(d9 s)):=by simp[g9]
  rw[hfin]
  clear hfin
  go_enter func153,ntmps153
  go_wp2_with fail
  refine(vx h (by have:=ae HS;first|omega|(simp only[bw,d8,bd,cr,ai,ak];omega))).mono ?_
  rintro e w2⟨rfl,h1⟩
  go_wp2
  go_ret
  exact⟨rfl,h1⟩
 by_cases n0:c=0
 ·have y:=n0
  clear n0
  subst y
  have hfin:g9 s 0=(0,(wrong s [110,117,108])):=by simp[g9,n62]
  rw[hfin]
  clear hfin
  have e62:((0:Int)==62)=false:=af.2 n62
  clear n62
  go_enter func153,ntmps153
  go_wp2_with fail
  refine(mb [110,117,108] h (by have:=ae HS;first|omega|(simp only[bw,d8,bd,cr,ai,ak];omega))).mono ?_
  rintro e w2⟨rfl,h1⟩
  go_wp2
  go_ret
  exact⟨rfl,h1⟩
 by_cases nc:c= -1
 ·have y:=nc
  clear nc
  subst y
  have hfin:g9 s (-1)=(0,(dj s)):=by simp[g9,n62,n0]
  rw[hfin]
  clear hfin
  have e62:((-1:Int)==62)=false:=af.2 n62
  have e0:((-1:Int)==0)=false:=af.2 n0
  clear n62
  clear n0
  go_enter func153,ntmps153
  go_wp2_with fail
  refine(yp h (by have:=ae HS;first|omega|(simp only[bw,d8,bd,cr,ai,ak];omega))).mono ?_
  rintro e w2⟨rfl,h1⟩
  go_wp2
  go_ret
  exact⟨rfl,h1⟩
 have hfin:g9 s c=(0,s):=by simp[g9,n62,n0,nc]
 rw[hfin]
 clear hfin
 have e62:((c:Int)==62)=false:=af.2 n62
 have e0:((c:Int)==0)=false:=af.2 n0
 have Cz:((c:Int)== -1)=false:=af.2 nc
 clear n62
 clear n0
 clear nc
 go_enter func153,ntmps153
 go_wp2
 go_ret
 exact⟨rfl,h⟩
end
end Go.Proofs.YtdfmapcnfficlaaGreatDoor

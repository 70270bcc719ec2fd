import Derived.Test.YtdfmapcnfficlaaGreatDoorP29
set_option linter.all false
namespace Go.Proofs.YtdfmapcnfficlaaGreatDoor
open Go Go.RowKit
theorem le_step{a b k m N:Nat}(h:a≤b+k)(h2:b+(k+m)≤N):a+m≤N:=by omega
theorem Yt{a N:Nat}(h:a+0≤N):a≤N:=h
theorem S0(s:TS)(n:Str):sz (wrong s n)≤sz s+1:=Nat.le_of_eq (bw s n)
theorem Yu(s:TS)(l:Str):sz (gd s l)≤sz s+l.length:=Nat.le_of_eq (yv s l)
theorem Ka(s:TS)(l:Str):sz (bq s l)≤sz s+l.length:=Nat.le_of_eq (bd s l)
theorem Cj(s:TS)(c:Int):sz (bq s (Lib.encodeRune c))≤sz s+4:=by have:=oh c;rw[bd];omega
theorem Rr(s:TS)(c:Int):sz (eg s c)≤sz s+5:=by
 unfold eg
 exact Yt (le_step (Cj _ _) (le_step (my s c) (by omega)))
theorem Vo(s:TS)(c:Int):sz (kr s c)≤sz s+4:=by
 have h1:=F8 (fun a=>{a with name:=a.name++Lib.encodeRune c}) 4 (fun a=>by have:=oh c;simp;omega) s.tag.cy
 have h2:=sq (fun a=>{a with name:=a.name++Lib.encodeRune c}) s.tag.cy
 simp only[sz,kr]at*
 omega
theorem zbm(s:TS):sz (mg s)≤sz s+2:=by
 unfold mg p6
 split
 ·have h1:=F8 (fun a=>{a with twice:=true}) 0 (fun a=>by simp) s.tag.cy
  have h2:=sq (fun a=>{a with twice:=true}) s.tag.cy
  simp only[sz,wrong,bz,cj,aq,ai,ak]at*
  omega
 ·simp only[sz,fb,aq,ai,ak]
  omega
theorem zbn(s:TS):sz (iq s)≤sz s+1:=by
 simp[sz,iq,wrong,bz,cj,tp]
 omega
theorem S7(s:TS)(k:Int):sz {s with tag:={kind:=k}}≤sz s+0:=by
 simp[sz,tp]
 omega
theorem ze2(s:TS):sz {s with tag:={s.tag with closes:=true}}≤sz s+0:=cx _
theorem zbo(s:TS):sz (lp s)≤sz s+1:=Nat.le_of_eq (ft s)
theorem zbp(s:TS):sz (mh s)≤sz s+4:=by
 have h0:=Ib s
 unfold mh
 split
 ·have h1:=Mv (rg s) {kind:=1,name:=s.tag.name,attrs:=mu s.tag.cy,flag:=s.tag.closes}
  have h2:sz (startTag s)=sz (tell (rg s) {kind:=1,name:=s.tag.name,attrs:=mu s.tag.cy,flag:=s.tag.closes}):=rfl
  omega
 ·unfold ti
  have e:∀x:TS,sz {tell x {kind:=2,name:=s.tag.name}with base:=0,state:=0}=sz (tell x {kind:=2,name:=s.tag.name}):=fun x=>rfl
  rw[e]
  refine fz (Mv _ _) ?_
  have k1:sz (if s.tag.cy=[]then rg s else wrong (rg s) [101,110,100,45,97,116,116,114,105,98,117,116,101,115])≤sz s+1:=by
   split
   ·omega
   ·rw[bw];omega
  generalize(if s.tag.cy=[]then rg s else wrong (rg s) [101,110,100,45,97,116,116,114,105,98,117,116,101,115])=s1 at*
  have k2:sz (if s.tag.closes=true then wrong s1 [101,110,100,45,115,108,97,115,104]else s1)≤sz s1+1:=by
   split
   ·rw[bw];omega
   ·omega
  dsimp only at*
  omega
theorem ze3(s:TS)(c:Int):sz (lg s c)≤sz s+5:=by
 have h1:=my s c
 have h2:=oh (lw (bb c))
 have h3:(dp s c).tag=s.tag:=mp s c
 simp only[sz,lg,h3,aq]at*
 omega
theorem zbq(s:TS)(c:Int):sz (ke s c)≤sz s+5:=by
 have h1:=my s c
 have h2:=oh (bb c)
 have h3:(dp s c).text=s.text:=qt s c
 simp only[sz,ke,h3,aq]at*
 omega
theorem Yw(s:TS)(c:Int):sz (ob s c)≤sz s+8:=by
 have h1:=oh (lw c)
 have h2:=oh c
 simp only[sz,ob,aq]
 omega
theorem Oz(s:TS):sz (du s)≤sz s+0:=by
 simp[sz,du,zeroRef]
theorem zhn(s:TS):sz {s with odd:=true}≤sz s+0:=cx _
theorem Rs(s:TS):sz (d9 s)≤sz s+1:=Aw s
theorem Rt(s:TS):sz (dz s)≤sz s+2:=by
 unfold dz
 exact Yt (le_step (Aw _) (le_step (zhn _) (le_step (S0 _ _) (by omega))))
theorem Yx(s:TS):sz (gd {s with tag:={}} ([60,47]++s.tag.buffer))≤sz s+2:=by
 rw[yv]
 simp[sz,tp]
 omega
theorem O0(s:TS)(c:Int):sz (mv s (s.di++Lib.encodeRune c))≤sz s+4:=by
 have:=oh c
 simp only[sz,mv,aq]
 omega
theorem zbr(s:TS):sz (mv s [35])≤sz s+1:=by
 simp[sz,mv]
 omega
theorem zbs(s:TS)(c:Int):sz {s with declared:=s.declared++Lib.encodeRune c}≤sz s+4:=by
 have:=oh c
 simp only[sz,aq]
 omega
def G1(t s:TS)(n:Nat):Prop:=sz t≤sz s+40*n
theorem G1.step{t u s:TS}{k n:Nat}(h:sz t≤sz u+k)(hk:k≤40)(h2:G1 u s n):G1 t s (n+1):=by unfold G1 at*;omega
theorem G1.st(t s:TS)(q:Int)(n:Nat):G1 {t with state:=q} s n↔G1 t s n:=Iff.rfl
theorem G1.out{t s:TS}(h:G1 t s 3):sz t≤sz s+128:=by unfold G1 at h;omega
section
variable{s:TS}{c:Int}
theorem zli:sz (kx s c).2≤sz s+128:=by
 unfold kx
 repeat' split
 ·show sz s≤sz s+128
  omega
 ·have:=Oz s
  show sz (du s)≤sz s+128
  omega
 ·have:sz ({s with state:=3}:TS)=sz (s):=rfl
  show sz ({s with state:=3}:TS)≤sz s+128
  omega
 ·have:=S0 s ([110,117,108])
  have:=Yu ((wrong s ([110,117,108]))) (Lib.encodeRune c)
  have:=oh c
  show sz (gd ((wrong s ([110,117,108]))) (Lib.encodeRune c))≤sz s+128
  omega
 ·have:=Yu s (Lib.encodeRune c)
  have:=oh c
  show sz (gd s (Lib.encodeRune c))≤sz s+128
  omega
theorem zjq:sz (jz s c).2≤sz s+128:=by
 unfold jz
 repeat' split
 ·show sz s≤sz s+128
  omega
 ·have:=Oz s
  show sz (du s)≤sz s+128
  omega
 ·have:sz ({s with state:=5}:TS)=sz (s):=rfl
  show sz ({s with state:=5}:TS)≤sz s+128
  omega
 ·have:=zbq s (c)
  show sz (ke s (c))≤sz s+128
  omega
theorem zl7:sz (l7 s c).2≤sz s+128:=by
 unfold l7
 repeat' split
 ·show sz s≤sz s+128
  omega
 ·have:=zbq s (c)
  show sz (ke s (c))≤sz s+128
  omega
 ·have:sz ({s with state:=5}:TS)=sz (s):=rfl
  show sz ({s with state:=5}:TS)≤sz s+128
  omega
 ·have:=zbq s (c)
  show sz (ke s (c))≤sz s+128
  omega
theorem zlj:sz (ju s c).2≤sz s+128:=by
 unfold ju
 repeat' split
 ·have:sz ({s with state:=18}:TS)=sz (s):=rfl
  show sz ({s with state:=18}:TS)≤sz s+128
  omega
 ·have:sz ({s with state:=4}:TS)=sz (s):=rfl
  show sz ({s with state:=4}:TS)≤sz s+128
  omega
 ·have:sz ({s with tag:={kind:=1}}:TS)≤sz (s)+0:=S7 _ _
  have:sz ({({s with tag:={kind:=1}}:TS)with state:=8}:TS)=sz (({s with tag:={kind:=1}}:TS)):=rfl
  show sz ({({s with tag:={kind:=1}}:TS)with state:=8}:TS)≤sz s+128
  omega
 ·have:=S0 s ([113,117,101,115,116,105,111,110])
  have:sz ({(wrong s ([113,117,101,115,116,105,111,110]))with state:=19}:TS)=sz ((wrong s ([113,117,101,115,116,105,111,110]))):=rfl
  show sz ({(wrong s ([113,117,101,115,116,105,111,110]))with state:=19}:TS)≤sz s+128
  omega
 ·have:=S0 s ([101,110,100,45,105,110,45,116,97,103])
  have:=Yu ((wrong s ([101,110,100,45,105,110,45,116,97,103]))) ([60])
  have:([60]:Str).length≤40:=by decide
  show sz (gd ((wrong s ([101,110,100,45,105,110,45,116,97,103]))) ([60]))≤sz s+128
  omega
 ·have:=S0 s ([102,105,114,115,116])
  have:=Yu ((wrong s ([102,105,114,115,116]))) ([60])
  have:([60]:Str).length≤40:=by decide
  have:sz ({(gd ((wrong s ([102,105,114,115,116]))) ([60]))with state:=0}:TS)=sz ((gd ((wrong s ([102,105,114,115,116]))) ([60]))):=rfl
  show sz ({(gd ((wrong s ([102,105,114,115,116]))) ([60]))with state:=0}:TS)≤sz s+128
  omega
theorem zjr:sz (kb s c).2≤sz s+128:=by
 unfold kb
 repeat' split
 ·have:sz ({s with tag:={kind:=2}}:TS)≤sz (s)+0:=S7 _ _
  have:sz ({({s with tag:={kind:=2}}:TS)with state:=8}:TS)=sz (({s with tag:={kind:=2}}:TS)):=rfl
  show sz ({({s with tag:={kind:=2}}:TS)with state:=8}:TS)≤sz s+128
  omega
 ·have:=S0 s ([110,111,45,110,97,109,101])
  have:sz ({(wrong s ([110,111,45,110,97,109,101]))with state:=0}:TS)=sz ((wrong s ([110,111,45,110,97,109,101]))):=rfl
  show sz ({(wrong s ([110,111,45,110,97,109,101]))with state:=0}:TS)≤sz s+128
  omega
 ·have:=S0 s ([101,110,100,45,105,110,45,116,97,103])
  have:=Yu ((wrong s ([101,110,100,45,105,110,45,116,97,103]))) ([60,47])
  have:([60,47]:Str).length≤40:=by decide
  show sz (gd ((wrong s ([101,110,100,45,105,110,45,116,97,103]))) ([60,47]))≤sz s+128
  omega
 ·have:=S0 s ([102,105,114,115,116])
  have:sz ({(wrong s ([102,105,114,115,116]))with state:=19}:TS)=sz ((wrong s ([102,105,114,115,116]))):=rfl
  show sz ({(wrong s ([102,105,114,115,116]))with state:=19}:TS)≤sz s+128
  omega
theorem zmb:sz (lu s c).2≤sz s+128:=by
 unfold lu
 repeat' split
 ·have:sz ({s with state:=9}:TS)=sz (s):=rfl
  show sz ({s with state:=9}:TS)≤sz s+128
  omega
 ·have:sz ({s with state:=17}:TS)=sz (s):=rfl
  show sz ({s with state:=17}:TS)≤sz s+128
  omega
 ·have:=zbp s
  show sz (mh s)≤sz s+128
  omega
 ·have:=zbn s
  show sz (iq s)≤sz s+128
  omega
 ·have:=ze3 s (c)
  show sz (lg s (c))≤sz s+128
  omega
theorem zlk:sz (ka s c).2≤sz s+128:=by
 unfold ka
 repeat' split
 ·show sz s≤sz s+128
  omega
 ·have:sz ({s with state:=11}:TS)=sz (s):=rfl
  show sz ({s with state:=11}:TS)≤sz s+128
  omega
 ·have:=S0 s ([101,113,117,97,108,115])
  have:=zbo ((wrong s ([101,113,117,97,108,115])))
  have:=Vo ((lp ((wrong s ([101,113,117,97,108,115]))))) (61)
  have:sz ({(kr ((lp ((wrong s ([101,113,117,97,108,115]))))) (61))with state:=10}:TS)=sz ((kr ((lp ((wrong s ([101,113,117,97,108,115]))))) (61))):=rfl
  show sz ({(kr ((lp ((wrong s ([101,113,117,97,108,115]))))) (61))with state:=10}:TS)≤sz s+128
  omega
 ·have:=zbo s
  have:sz ({(lp s)with state:=10}:TS)=sz ((lp s)):=rfl
  show sz ({(lp s)with state:=10}:TS)≤sz s+128
  omega
theorem zln:sz (jf s c).2≤sz s+128:=by
 unfold jf
 repeat' split
 ·have:=zbm s
  have:sz ({(mg s)with state:=11}:TS)=sz ((mg s)):=rfl
  show sz ({(mg s)with state:=11}:TS)≤sz s+128
  omega
 ·have:=zbm s
  have:sz ({(mg s)with state:=12}:TS)=sz ((mg s)):=rfl
  show sz ({(mg s)with state:=12}:TS)≤sz s+128
  omega
 ·have:=S0 s ([115,105,103,110])
  have:=my ((wrong s ([115,105,103,110]))) (c)
  have:=Vo ((dp ((wrong s ([115,105,103,110]))) (c))) (lw (bb c))
  show sz (kr ((dp ((wrong s ([115,105,103,110]))) (c))) (lw (bb c)))≤sz s+128
  omega
 ·have:=my s (c)
  have:=Vo ((dp s (c))) (lw (bb c))
  show sz (kr ((dp s (c))) (lw (bb c)))≤sz s+128
  omega
theorem zjs:sz (iu s c).2≤sz s+128:=by
 unfold iu
 repeat' split
 ·show sz s≤sz s+128
  omega
 ·have:sz ({s with state:=17}:TS)=sz (s):=rfl
  show sz ({s with state:=17}:TS)≤sz s+128
  omega
 ·have:sz ({s with state:=12}:TS)=sz (s):=rfl
  show sz ({s with state:=12}:TS)≤sz s+128
  omega
 ·have:=zbp s
  show sz (mh s)≤sz s+128
  omega
 ·have:=zbn s
  show sz (iq s)≤sz s+128
  omega
 ·have:=zbo s
  have:sz ({(lp s)with state:=10}:TS)=sz ((lp s)):=rfl
  show sz ({(lp s)with state:=10}:TS)≤sz s+128
  omega
theorem zgd:sz (iz s c).2≤sz s+128:=by
 unfold iz
 repeat' split
 ·show sz s≤sz s+128
  omega
 ·have:sz ({s with state:=13}:TS)=sz (s):=rfl
  show sz ({s with state:=13}:TS)≤sz s+128
  omega
 ·have:sz ({s with state:=14}:TS)=sz (s):=rfl
  show sz ({s with state:=14}:TS)≤sz s+128
  omega
 ·have:=S0 s ([110,111,45,118,97,108,117,101])
  have:=zbp ((wrong s ([110,111,45,118,97,108,117,101])))
  show sz (mh ((wrong s ([110,111,45,118,97,108,117,101]))))≤sz s+128
  omega
 ·have:sz ({s with state:=15}:TS)=sz (s):=rfl
  show sz ({s with state:=15}:TS)≤sz s+128
  omega
theorem zge:sz (jm s c).2≤sz s+128:=by
 unfold jm
 repeat' split
 ·have:sz ({s with state:=16}:TS)=sz (s):=rfl
  show sz ({s with state:=16}:TS)≤sz s+128
  omega
 ·have:=Oz s
  show sz (du s)≤sz s+128
  omega
 ·have:=zbn s
  show sz (iq s)≤sz s+128
  omega
 ·have:=my s (c)
  have:=Bw ((dp s (c))) (bb c)
  show sz (fw ((dp s (c))) (bb c))≤sz s+128
  omega
theorem zh0:sz (jn s c).2≤sz s+128:=by
 unfold jn
 repeat' split
 ·have:sz ({s with state:=16}:TS)=sz (s):=rfl
  show sz ({s with state:=16}:TS)≤sz s+128
  omega
 ·have:=Oz s
  show sz (du s)≤sz s+128
  omega
 ·have:=zbn s
  show sz (iq s)≤sz s+128
  omega
 ·have:=my s (c)
  have:=Bw ((dp s (c))) (bb c)
  show sz (fw ((dp s (c))) (bb c))≤sz s+128
  omega
theorem zj1:sz (f8 s c).2≤sz s+128:=by
 unfold f8
 repeat' split
 ·have:sz ({s with state:=9}:TS)=sz (s):=rfl
  show sz ({s with state:=9}:TS)≤sz s+128
  omega
 ·have:=Oz s
  show sz (du s)≤sz s+128
  omega
 ·have:=zbp s
  show sz (mh s)≤sz s+128
  omega
 ·have:=zbn s
  show sz (iq s)≤sz s+128
  omega
 ·have:=S0 s ([115,105,103,110])
  have:=my ((wrong s ([115,105,103,110]))) (c)
  have:=Bw ((dp ((wrong s ([115,105,103,110]))) (c))) (bb c)
  show sz (fw ((dp ((wrong s ([115,105,103,110]))) (c))) (bb c))≤sz s+128
  omega
 ·have:=my s (c)
  have:=Bw ((dp s (c))) (bb c)
  show sz (fw ((dp s (c))) (bb c))≤sz s+128
  omega
theorem zj5:sz (jr s c).2≤sz s+128:=by
 unfold jr
 repeat' split
 ·have:sz ({s with state:=9}:TS)=sz (s):=rfl
  show sz ({s with state:=9}:TS)≤sz s+128
  omega
 ·have:sz ({s with state:=17}:TS)=sz (s):=rfl
  show sz ({s with state:=17}:TS)≤sz s+128
  omega
 ·have:=zbp s
  show sz (mh s)≤sz s+128
  omega
 ·have:=zbn s
  show sz (iq s)≤sz s+128
  omega
 ·have:=S0 s ([110,111,45,98,108,97,110,107])
  have:sz ({(wrong s ([110,111,45,98,108,97,110,107]))with state:=9}:TS)=sz ((wrong s ([110,111,45,98,108,97,110,107]))):=rfl
  show sz ({(wrong s ([110,111,45,98,108,97,110,107]))with state:=9}:TS)≤sz s+128
  omega
theorem zlp:sz (lq s c).2≤sz s+128:=by
 unfold lq
 repeat' split
 ·have:sz ({s with tag:={s.tag with closes:=true}}:TS)≤sz (s)+0:=ze2 _
  have:=zbp (({s with tag:={s.tag with closes:=true}}:TS))
  show sz (mh (({s with tag:={s.tag with closes:=true}}:TS)))≤sz s+128
  omega
 ·have:=zbn s
  show sz (iq s)≤sz s+128
  omega
 ·have:=S0 s ([115,108,97,115,104])
  have:sz ({(wrong s ([115,108,97,115,104]))with state:=9}:TS)=sz ((wrong s ([115,108,97,115,104]))):=rfl
  show sz ({(wrong s ([115,108,97,115,104]))with state:=9}:TS)≤sz s+128
  omega
theorem zkn:sz (mo s c).2≤sz s+128:=by
 unfold mo
 repeat' split
 ·have:=Qs s
  show sz (dx s)≤sz s+128
  omega
 ·have:=Au s
  show sz (dt s)≤sz s+128
  omega
 ·have:=Rr s (c)
  show sz (eg s (c))≤sz s+128
  omega
theorem zkq:sz (kn s c).2≤sz s+128:=by
 unfold kn
 repeat' split
 ·have:sz ({s with state:=21}:TS)=sz (s):=rfl
  show sz ({s with state:=21}:TS)≤sz s+128
  omega
 ·have:=S0 s ([97,98,114,117,112,116])
  have:=Qs ((wrong s ([97,98,114,117,112,116])))
  show sz (dx ((wrong s ([97,98,114,117,112,116]))))≤sz s+128
  omega
 ·have:sz ({s with state:=22}:TS)=sz (s):=rfl
  show sz ({s with state:=22}:TS)≤sz s+128
  omega
theorem zah:sz (ik s c).2≤sz s+128:=by
 unfold ik dk
 repeat' split
 ·have:=S0 s ([97,98,114,117,112,116])
  have:=Qs ((wrong s ([97,98,114,117,112,116])))
  show sz (dx ((wrong s ([97,98,114,117,112,116]))))≤sz s+128
  omega
 ·have:sz ({s with state:=24}:TS)=sz (s):=rfl
  show sz ({s with state:=24}:TS)≤sz s+128
  omega
 ·have:=Qt s
  show sz (dy s)≤sz s+128
  omega
 ·have:=Ka s ([45])
  have:([45]:Str).length≤40:=by decide
  have:sz ({(bq s ([45]))with state:=22}:TS)=sz ((bq s ([45]))):=rfl
  show sz ({(bq s ([45]))with state:=22}:TS)≤sz s+128
  omega
theorem zdm:sz (jh s c).2≤sz s+128:=by
 unfold jh
 repeat' split
 ·have:sz ({s with state:=23}:TS)=sz (s):=rfl
  show sz ({s with state:=23}:TS)≤sz s+128
  omega
 ·have:=Qt s
  show sz (dy s)≤sz s+128
  omega
 ·have:=Rr s (c)
  show sz (eg s (c))≤sz s+128
  omega
theorem zlr:sz (dk s c).2≤sz s+128:=by
 unfold dk
 repeat' split
 ·have:sz ({s with state:=24}:TS)=sz (s):=rfl
  show sz ({s with state:=24}:TS)≤sz s+128
  omega
 ·have:=Qt s
  show sz (dy s)≤sz s+128
  omega
 ·have:=Ka s ([45])
  have:([45]:Str).length≤40:=by decide
  have:sz ({(bq s ([45]))with state:=22}:TS)=sz ((bq s ([45]))):=rfl
  show sz ({(bq s ([45]))with state:=22}:TS)≤sz s+128
  omega
theorem ziu:sz (iw s c).2≤sz s+128:=by
 unfold iw
 repeat' split
 ·have:=Qs s
  show sz (dx s)≤sz s+128
  omega
 ·have:sz ({s with state:=25}:TS)=sz (s):=rfl
  show sz ({s with state:=25}:TS)≤sz s+128
  omega
 ·have:=Ka s ([45])
  have:([45]:Str).length≤40:=by decide
  show sz (bq s ([45]))≤sz s+128
  omega
 ·have:=Qt s
  show sz (dy s)≤sz s+128
  omega
 ·have:=Ka s ([45,45])
  have:([45,45]:Str).length≤40:=by decide
  have:sz ({(bq s ([45,45]))with state:=22}:TS)=sz ((bq s ([45,45]))):=rfl
  show sz ({(bq s ([45,45]))with state:=22}:TS)≤sz s+128
  omega
theorem zls:sz (lf s c).2≤sz s+128:=by
 unfold lf
 repeat' split
 ·have:=Ka s ([45,45,33])
  have:([45,45,33]:Str).length≤40:=by decide
  have:sz ({(bq s ([45,45,33]))with state:=23}:TS)=sz ((bq s ([45,45,33]))):=rfl
  show sz ({(bq s ([45,45,33]))with state:=23}:TS)≤sz s+128
  omega
 ·have:=S0 s ([98,97,110,103])
  have:=Qs ((wrong s ([98,97,110,103])))
  show sz (dx ((wrong s ([98,97,110,103]))))≤sz s+128
  omega
 ·have:=Qt s
  show sz (dy s)≤sz s+128
  omega
 ·have:=Ka s ([45,45,33])
  have:([45,45,33]:Str).length≤40:=by decide
  have:sz ({(bq s ([45,45,33]))with state:=22}:TS)=sz ((bq s ([45,45,33]))):=rfl
  show sz ({(bq s ([45,45,33]))with state:=22}:TS)≤sz s+128
  omega
theorem zf2:sz (ix s c).2≤sz s+128:=by
 unfold ix
 repeat' split
 ·have:sz ({s with state:=27}:TS)=sz (s):=rfl
  show sz ({s with state:=27}:TS)≤sz s+128
  omega
 ·have:sz ({s with state:=27}:TS)=sz (s):=rfl
  show sz ({s with state:=27}:TS)≤sz s+128
  omega
 ·have:=Rt s
  show sz (dz s)≤sz s+128
  omega
 ·have:=S0 s ([110,111,45,98,108,97,110,107])
  have:sz ({(wrong s ([110,111,45,98,108,97,110,107]))with state:=27}:TS)=sz ((wrong s ([110,111,45,98,108,97,110,107]))):=rfl
  show sz ({(wrong s ([110,111,45,98,108,97,110,107]))with state:=27}:TS)≤sz s+128
  omega
theorem zlu:sz (ki s c).2≤sz s+128:=by
 unfold ki
 repeat' split
 ·show sz s≤sz s+128
  omega
 ·have:=S0 s ([110,111,45,110,97,109,101])
  have:sz ({(wrong s ([110,111,45,110,97,109,101]))with odd:=true}:TS)=sz ((wrong s ([110,111,45,110,97,109,101]))):=rfl
  have:=Rs (({(wrong s ([110,111,45,110,97,109,101]))with odd:=true}:TS))
  show sz (d9 (({(wrong s ([110,111,45,110,97,109,101]))with odd:=true}:TS)))≤sz s+128
  omega
 ·have:=Rt s
  show sz (dz s)≤sz s+128
  omega
 ·have:=Ug s (c)
  have:sz ({(ko s (c))with state:=28}:TS)=sz ((ko s (c))):=rfl
  show sz ({(ko s (c))with state:=28}:TS)≤sz s+128
  omega
theorem zc1:sz (g8 s c).2≤sz s+128:=by
 unfold g8
 repeat' split
 ·have:sz ({s with state:=29}:TS)=sz (s):=rfl
  show sz ({s with state:=29}:TS)≤sz s+128
  omega
 ·have:=Rs s
  show sz (d9 s)≤sz s+128
  omega
 ·have:=Rt s
  show sz (dz s)≤sz s+128
  omega
 ·have:=Ug s (c)
  show sz (ko s (c))≤sz s+128
  omega
theorem zf5:sz (iy s c).2≤sz s+128:=by
 unfold iy
 repeat' split
 ·show sz s≤sz s+128
  omega
 ·have:=Rs s
  show sz (d9 s)≤sz s+128
  omega
 ·have:=Rt s
  show sz (dz s)≤sz s+128
  omega
 ·have:=S0 s ([107,105,110,100])
  have:sz ({(wrong s ([107,105,110,100]))with odd:=true}:TS)=sz ((wrong s ([107,105,110,100]))):=rfl
  have:sz ({({(wrong s ([107,105,110,100]))with odd:=true}:TS)with state:=30}:TS)=sz (({(wrong s ([107,105,110,100]))with odd:=true}:TS)):=rfl
  show sz ({({(wrong s ([107,105,110,100]))with odd:=true}:TS)with state:=30}:TS)≤sz s+128
  omega
theorem zc3:sz (g9 s c).2≤sz s+128:=by
 unfold g9
 repeat' split
 ·have:=Rs s
  show sz (d9 s)≤sz s+128
  omega
 ·have:=S0 s ([110,117,108])
  show sz (wrong s ([110,117,108]))≤sz s+128
  omega
 ·have:=Aw s
  show sz (dj s)≤sz s+128
  omega
 ·show sz s≤sz s+128
  omega
theorem zag:sz (gp s c).2≤sz s+128:=by
 unfold gp
 repeat' split
 ·have:=n7 s (Lib.encodeRune c)
  have:=oh c
  show sz (cn s (Lib.encodeRune c))≤sz s+128
  omega
 ·have:=S0 s ([117,110,107,110,111,119,110])
  have:sz ({(wrong s ([117,110,107,110,111,119,110]))with state:=s.ev}:TS)=sz ((wrong s ([117,110,107,110,111,119,110]))):=rfl
  show sz ({(wrong s ([117,110,107,110,111,119,110]))with state:=s.ev}:TS)≤sz s+128
  omega
 ·have:sz ({s with state:=s.ev}:TS)=sz (s):=rfl
  show sz ({s with state:=s.ev}:TS)≤sz s+128
  omega
theorem ze4:sz (mw s c).2≤sz s+128:=by
 unfold mw jy
 split
 ·exact Nat.le_add_right (sz s) 128
 ·show sz (gd s [60])≤_
  rw[yv];simp
theorem O1:sz (jc s c).2≤sz s+128:=by
 unfold jc jy
 split
 ·have:=S7 s 2
  show sz {s with tag:={kind:=2}}≤_
  omega
 ·show sz (gd s [60,47])≤_
  rw[yv];simp
theorem Ru:sz (jo s c).2≤sz s+128:=by
 unfold jo jy
 repeat' split
 ·have:=Yw s c
  show sz (ob s c)≤_
  omega
 ·exact Nat.le_add_right (sz s) 128
 ·have:=Yx s
  show sz (gd {s with tag:={}} ([60,47]++s.tag.buffer))≤_
  omega
theorem Vp:sz (lc s c).2≤sz s+128:=by
 unfold lc
 split
 ·have:=O0 s c
  show sz (mv s (s.di++Lib.encodeRune c))≤_
  omega
 ·exact Nat.le_add_right (sz s) 128
theorem Yy(h:s.di.length≤8):sz (kc s)≤sz s+36:=by
 have:=n7 s ([38]++s.di)
 rw[aq]at this
 simp only[ai,ak]at this
 show sz (cn s ([38]++s.di))≤_
 omega
theorem zho(h:s.di.length≤8):sz (np s c).2≤sz s+128:=by
 unfold np
 repeat' split
 ·exact Nat.le_add_right (sz s) 128
 ·have:=zbr s
  show sz (mv s [35])≤_
  omega
 ·have:=Yy h
  show sz (kc s)≤_
  omega
theorem O2(h:s.di.length≤8):sz (il s c).2≤sz s+128:=by
 unfold il
 repeat' split
 ·exact Nat.le_add_right (sz s) 128
 ·have h1:=Yy (s:=wrong s [100,105,103,105,116,115]) h
  rw[bw]at h1
  show sz (kc (wrong s [100,105,103,105,116,115]))≤_
  omega
 ·have:=Ig s (s.place+1)
  show sz (ji s (s.place+1))≤_
  omega
 ·have:=Ig (wrong s [115,101,109,105,99,111,108,111,110]) s.place
  rw[bw]at this
  show sz (ji (wrong s [115,101,109,105,99,111,108,111,110]) s.place)≤_
  omega
theorem ze5(h:s.declared.length≤8):sz (lz s c).2≤sz s+128:=by
 have h0:=Ch s
 unfold lz
 repeat' split
 ·have:=zbs s c
  show sz {s with declared:=s.declared++Lib.encodeRune c}≤_
  omega
 ·show sz (mx s)≤_
  omega
 ·show sz (mx s)≤_
  omega
 ·show sz (bq (bz (mx s) [99,100,97,116,97] (s.place-s.declared.length)) [91,67,68,65,84,65,91])≤_
  rw[bd,rk]
  simp only[ai,ak]
  omega
 ·show sz (bq (bz (mx s) [100,101,99,108,97,114,97,116,105,111,110] (s.place-s.declared.length)) s.declared)≤_
  rw[bd,rk]
  omega
theorem Vq{x:Str}(h:¬(kz x).2=true):(kz x).1.1.length≤7∧(kz x).1.2.length≤7:=by
 have h0:oa x om ([],[])=((kz x).1,false):=by
  have:(kz x).2=false:=by simpa using h
  rw[←this];rfl
 rcases z9 x om ([],[]) (kz x).1 h0 with h1|h1
 ·rw[h1];simp
 ·have:=(E4 _ h1.1).2
  exact⟨Ao _ h1.1,by omega⟩
theorem Vr(h:s.di.length≤8):sz (jv s c).2≤sz s+128:=by
 have h4:=oh c
 unfold jv
 split
 ·have:=O0 s c
  show sz (mv s (s.di++Lib.encodeRune c))≤_
  omega
 ·rename_i hw
  have hn:=Vq hw
  split
  ·have:=n7 s (38::s.di)
   rw[ai]at this
   show sz (cn s (38::s.di))≤_
   omega
  ·split
   ·have:=n7 s (kz (s.di++Lib.encodeRune c)).1.2
    show sz (cn s (kz (s.di++Lib.encodeRune c)).1.2)≤_
    omega
   ·unfold ln
    generalize(kz (s.di++Lib.encodeRune c)).1=n at*
    generalize C9 (s.di.drop n.1.length++Lib.encodeRune c)=nx
    have h1:=Xz s n (s.di.drop n.1.length) nx hn.1 hn.2
    have h2:=n7 (ku s n (s.di.drop n.1.length) nx) (s.di.drop n.1.length)
    have h3:(s.di.drop n.1.length).length≤8:=by rw[fj];omega
    show sz (cn (ku s n (s.di.drop n.1.length) nx) (s.di.drop n.1.length))≤_
    omega
theorem Yz(g:Good s c):sz (bm s c).2≤sz s+128:=by
 generalize hr:bm s c=r
 unfold bm at hr
 rcases zad hr with⟨e,hr⟩|⟨e,hr⟩
 ·subst hr;exact zjq
 rcases zad hr with⟨e,hr⟩|⟨e,hr⟩
 ·subst hr;exact zl7
 rcases zad hr with⟨e,hr⟩|⟨e,hr⟩
 ·subst hr;exact zlj
 rcases zad hr with⟨e,hr⟩|⟨e,hr⟩
 ·subst hr;exact zjr
 rcases zad hr with⟨e,hr⟩|⟨e,hr⟩
 ·subst hr;exact ze4
 rcases zad hr with⟨e,hr⟩|⟨e,hr⟩
 ·subst hr;exact O1
 rcases zad hr with⟨e,hr⟩|⟨e,hr⟩
 ·subst hr;exact Ru
 rcases zad hr with⟨e,hr⟩|⟨e,hr⟩
 ·subst hr;exact zmb
 rcases zad hr with⟨e,hr⟩|⟨e,hr⟩
 ·subst hr;exact zlk
 rcases zad hr with⟨e,hr⟩|⟨e,hr⟩
 ·subst hr;exact zln
 rcases zad hr with⟨e,hr⟩|⟨e,hr⟩
 ·subst hr;exact zjs
 rcases zad hr with⟨e,hr⟩|⟨e,hr⟩
 ·subst hr;exact zgd
 rcases zad hr with⟨e,hr⟩|⟨e,hr⟩
 ·subst hr;exact zge
 rcases zad hr with⟨e,hr⟩|⟨e,hr⟩
 ·subst hr;exact zh0
 rcases zad hr with⟨e,hr⟩|⟨e,hr⟩
 ·subst hr;exact zj1
 rcases zad hr with⟨e,hr⟩|⟨e,hr⟩
 ·subst hr;exact zj5
 rcases zad hr with⟨e,hr⟩|⟨e,hr⟩
 ·subst hr;exact zlp
 rcases zad hr with⟨e,hr⟩|⟨e,hr⟩
 ·subst hr;exact ze5 g.decl
 rcases zad hr with⟨e,hr⟩|⟨e,hr⟩
 ·subst hr;exact zkn
 rcases zad hr with⟨e,hr⟩|⟨e,hr⟩
 ·subst hr;exact zkq
 rcases zad hr with⟨e,hr⟩|⟨e,hr⟩
 ·subst hr;exact zah
 rcases zad hr with⟨e,hr⟩|⟨e,hr⟩
 ·subst hr;exact zdm
 rcases zad hr with⟨e,hr⟩|⟨e,hr⟩
 ·subst hr;exact zlr
 rcases zad hr with⟨e,hr⟩|⟨e,hr⟩
 ·subst hr;exact ziu
 rcases zad hr with⟨e,hr⟩|⟨e,hr⟩
 ·subst hr;exact zls
 rcases zad hr with⟨e,hr⟩|⟨e,hr⟩
 ·subst hr;exact zf2
 rcases zad hr with⟨e,hr⟩|⟨e,hr⟩
 ·subst hr;exact zlu
 rcases zad hr with⟨e,hr⟩|⟨e,hr⟩
 ·subst hr;exact zc1
 rcases zad hr with⟨e,hr⟩|⟨e,hr⟩
 ·subst hr;exact zf5
 rcases zad hr with⟨e,hr⟩|⟨e,hr⟩
 ·subst hr;exact zc3
 rcases zad hr with⟨e,hr⟩|⟨e,hr⟩
 ·subst hr;exact zho (g.come (by rw[e];rfl))
 rcases zad hr with⟨e,hr⟩|⟨e,hr⟩
 ·subst hr;exact Vr (g.come (by rw[e];rfl))
 rcases zad hr with⟨e,hr⟩|⟨e,hr⟩
 ·subst hr;exact zag
 rcases zad hr with⟨e,hr⟩|⟨e,hr⟩
 ·subst hr;exact Vp
 rcases zad hr with⟨e,hr⟩|⟨e,hr⟩
 ·subst hr;exact O2 (g.come (by rw[e];rfl))
 subst hr;exact zli
end
end Go.Proofs.YtdfmapcnfficlaaGreatDoor

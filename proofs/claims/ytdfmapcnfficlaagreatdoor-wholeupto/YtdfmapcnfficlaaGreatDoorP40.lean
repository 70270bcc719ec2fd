import Derived.Test.YtdfmapcnfficlaaGreatDoorP39
set_option linter.all false
namespace Go.Proofs.YtdfmapcnfficlaaGreatDoor.Si
open Go Go.RowKit
variable{s:TS}{m m':M.MS}{c:Int}{d:Int}{n:Nat}{p:List Int}{a:Bool}
theorem zik:∀(f:Nat)(b:Bool)(r:Str),s9 (pts f b r).1
 |0,b,r=>s9.nil
 |f+1,b,r=>by
  rw[pts]
  split
  ·exact s9.nil
  ·have ih:=zik f ((fv r).1==13) (r.drop (fv r).2)
   have fs:=Py r
   show s9 (if _ then _ else _)
   split
   ·exact ih
   ·refine jd.2 ⟨?_,ih⟩
    split
    ·unfold Sc;omega
    ·exact fs
theorem Wd:∀(f:Nat)(b:Bool)(r:Str),(pts f b r).1.length≤r.length
 |0,b,r=>by simp[pts]
 |f+1,b,r=>by
  rw[pts]
  split
  ·simp
  ·next z=>
   have ih:=Wd f ((fv r).1==13) (r.drop (fv r).2)
   rw[fj]at ih
   have hne:r≠[]:=by intro e;rw[e]at z;exact z (by decide)
   have:=List.length_pos_iff.2 hne
   show(if _ then _ else _:List Int).length≤_
   split
   ·omega
   ·simp;omega
def m0(l:List Int)(w:Bool):M.MS:={l:=l,whole:=w}
theorem inv0(l:List Int)(w:Bool):MInv (m0 l w):=⟨.inl (by simp[m0]),by simp[m0],by simp[m0],by simp[m0],by simp[m0]⟩
theorem zr9(l:List Int)(w:Bool)(lm:Int):RelA 0 false {limit:=lm} (m0 l w):=by
 refine .inl ⟨rfl,rfl,s9.nil,rfl,rfl,rfl,.inl (by simp[m0]),?_,?_,?_,rfl,?_,?_,?_,?_,?_⟩<;>simp[m0]
def z4(x:Str)(w:Bool):List Int:=(pts x.length false x).1++(if w=true∧(pts x.length false x).2.1≠[]then[65533]else[])
theorem Wg(x:Str)(w:Bool):s9 (z4 x w):=by
 unfold z4
 refine(zik _ _ _).cat ?_
 split
 ·exact s9.one (by unfold Sc;omega)
 ·exact s9.nil
theorem zil(x:Str)(w:Bool):(z4 x w).length≤x.length+1:=by
 have:=Wd x.length false x
 unfold z4
 rw[aq]
 split<;>simp<;>omega
theorem zkv(h s:TS):over h [] s=hd s {h with behind:=s.behind}:=by simp[over,hd]
theorem zkw(x:Str)(w:Bool):(pts x.length false x).1<+:z4 x w:=⟨_,rfl⟩
theorem Zx(x:Str)(w:Bool)(lm:Int):
  ∃i m',i≤36*x.length∧Steps i (m0 (z4 x w) w) m'∧RelA 0 false (put {limit:=lm} x) m'∧(∀c,Good (put {limit:=lm} x) c)∧(put {limit:=lm} x).place=(pts x.length false x).1.length∧(put {limit:=lm} x).begun=(pts x.length false x).2.1:=by
 obtain⟨i,m1,h1,h2,h3,h4,h5,h6,h7⟩:=Pz x.length {limit:=lm} (m0 (z4 x w) w) x (zr9 _ _ _) (Zj lm) (Wg x w) (inv0 _ _) (by show(0:Int)≤0;omega) (zkw x w)
 have hl:=Wd x.length false x
 have e:put {limit:=lm} x=hd (ni 4 x.length {limit:=lm} x).1 {({limit:=lm,begun:=(ni 4 x.length {limit:=lm} x).2,bytes:=0+x.length}:TS)with behind:=(ni 4 x.length {limit:=lm} x).1.behind}:=by
  rw[put_eq];exact zkv _ _
 rw[e]
 refine⟨i,m1,?_,h2,h3.hd _,fun c=>Good.hd (h4 c) _,?_,?_⟩
 ·have:(pts x.length ({limit:=lm}:TS).behind x).1.length≤x.length:=hl
  omega
 ·show(ni 4 x.length {limit:=lm} x).1.place=_
  rw[h5];exact Int.zero_add _
 ·exact h7
theorem P0(x:Str)(lm:Int):∃i m',i≤36*x.length∧Steps i (m0 (z4 x false) false) m'∧M.step m'=none∧M.final m'=m'∧pk (put {limit:=lm} x) m':=by
 obtain⟨i,m1,h1,h2,h3,h4,h5,h6⟩:=Zx x false lm
 obtain⟨b1,b2,b3,b4⟩:=xj i (inv0 _ _) h2
 have hl:m1.l.length=(pts x.length false x).1.length:=by rw[b3];simp[m0,z4]
 obtain⟨k1,k2⟩:=zij h3 (by rw[h5,hl]) b1.pos b4
 refine⟨i,m1,h1,h2,k1,?_,k2⟩
 unfold M.final
 rw[ag (by rw[b4];simp[m0])]
theorem P1(h:pk s m):(flush s).told=(M.flush m).told:=by
 rw[kv,gv,h.1,h.2.1]
 simp[ci]
theorem Tr(x:Str)(lm:Int):∃i m',i≤36*x.length+72∧Steps i (m0 (z4 x true) true) m'∧M.step m'=none∧(qh (put {limit:=lm} x)).told=(M.flush (M.final m')).told:=by
 obtain⟨i,m1,h1,h2,h3,h4,h5,h6⟩:=Zx x true lm
 obtain⟨b1,b2,b3,b4⟩:=xj i (inv0 _ _) h2
 unfold qh
 generalize put {limit:=lm} x=s1 at*
 have hsc:s9 m1.l:=by rw[b3];exact Wg x true
 have hc:=h3.hd {s1 with closed:=true}
 have gc:∀c,Good (hd s1 {s1 with closed:=true}) c:=fun c=>Good.hd (h4 c) _
 have ec:hd s1 {s1 with closed:=true}={s1 with closed:=true}:=rfl
 rw[ec]at hc gc
 unfold pq
 by_cases z:s1.begun=[]
 ·rw[au z]
  have hl:m1.l.length=(pts x.length false x).1.length:=by
   rw[b3];simp[m0,z4,←h6,z]
  obtain⟨j,m2,k1,k2,k3,k4⟩:=Wc 4 {s1 with closed:=true} m1 false hc (gc _) (by have:=M3 ({s1 with closed:=true}:TS).state (-1);omega) hsc b1 (by show s1.place=_;rw[h5,hl]) (by rw[b4];rfl)
  exact⟨i+j,m2,by omega,h2.cat k2,k3,P1 k4⟩
 ·rw[ag z]
  have hl:m1.l=(pts x.length false x).1++[65533]:=by
   rw[b3]
   show z4 x true=_
   unfold z4
   rw[au ⟨rfl,by rw[←h6];exact z⟩]
  unfold pass
  rw[ag (by simp),ag (by omega)]
  have hb:=h3.hd (gu {({s1 with closed:=true}:TS)with begun:=[]} 65533)
  have gb:∀c,Good (hd s1 (gu {({s1 with closed:=true}:TS)with begun:=[]} 65533)) c:=fun c=>Good.hd (h4 c) _
  have eb:hd s1 (gu {({s1 with closed:=true}:TS)with begun:=[]} 65533)=gu {({s1 with closed:=true}:TS)with begun:=[]} 65533:=rfl
  rw[eb]at hb gb
  have hat:At (gu {({s1 with closed:=true}:TS)with begun:=[]} 65533) m1 65533:=by
   refine⟨?_,by show 0≤s1.place;rw[h5];omega⟩
   show(m1.l[s1.place.toNat]?).getD (-1)=_
   rw[hl,h5];simp
  obtain⟨j,m2,k1,k2,k3,k4,k5,k6⟩:=Zw (c:=65533) (by unfold Sc;omega) hb gb hsc b1 hat
  obtain⟨d1,d2,d3,d4⟩:=xj j b1 k2
  obtain⟨j2,m3,n1,n2,n3,n4⟩:=Wc 4 _ m2 false k3 (k4 _) (by have:=M3 (ky 4 (gu {({s1 with closed:=true}:TS)with begun:=[]} 65533) 65533).state (-1);omega) (by rw[d3];exact hsc) d1 (by
   rw[k5];show s1.place+1=_;rw[d3,hl,h5];simp) (by rw[d4,b4];rfl)
  exact⟨i+j+j2,m3,by omega,(h2.cat k2).cat n2,n3,P1 n4⟩
theorem P2:∀{l:List Int},s9 l→runeCount (M.jk l)=l.length
 |[],_=>by rfl
 |c::r,h=>by
  have hc:=(jd.1 h).1
  have ih:=P2 (jd.1 h).2
  have w:=Ki c
  rw[sy,gw hc,w.step,ih];simp;omega
end Go.Proofs.YtdfmapcnfficlaaGreatDoor.Si

import Derived.Test.YtdfmapcnfficlaaGreatDoorP09
import Derived.Lib.SlBytesRow
set_option linter.all false
set_option maxHeartbeats 8000000
set_option maxRecDepth 1000000
namespace Go.Proofs.YtdfmapcnfficlaaGreatDoor.M
open Go.Proofs.Tryz
open Go Go.RowKit Go.Proofs.YtdfmapcnfficlaaGreatDoor
structure Mz(w0:World)(aj:Nat→Prop)(b:Nat)(ex:List Item)(g:Bool)(k:Nat)(m:MS)(w:World):Prop where
 rep:Mk w0 aj b m ex w
 sz:mj m+k≤lim
 ps:m.pos<m.l.length
 gn:g=true→m.gone=false
section
variable{w0:World}{aj:Nat→Prop}{b:Nat}{m:MS}{ex:List Item}{w:World}{g:Bool}{k:Nat}
theorem Mz.told(h:Mz w0 aj b ex g k m w):m.told.length≤lim:=Eq h.sz
theorem qe(n:Str)(h:Mz w0 aj b ex g (k+1) m w):
  Calls prog 175 #[.pointer (some ⟨b,0,none⟩),.string ⟨n.toArray⟩] w fun e w'=>e= .returned (.tuple #[])∧Mz w0 aj b ex g k (err m n) w':=
 (od n h.rep h.told).mono fun e w'⟨he,h1⟩=>⟨he,h1,by have:=h.sz;rw[qs];omega,h.ps,h.gn⟩
theorem p8(q:Nat)(h:Mz w0 aj b ex g k m w):
  Calls prog 230 #[.pointer (some ⟨b,0,none⟩),.string ⟨(qc q).toArray⟩] w fun e w'=>e= .returned (.tuple #[])∧Mk w0 aj b (pc m q) ex w':=zd q h.rep h.ps
theorem Nm(i:Int)(h:Mz w0 aj b ex g k m w):
  Calls prog 232 #[.pointer (some ⟨b,0,none⟩),.int .i64 i] w fun e w'=>e= .returned (.tuple #[])∧Mz w0 aj b ex true k (newTag m i) w':=
 (Xb i h.rep).mono fun e w'⟨he,h1⟩=>⟨he,h1,by have:=h.sz;unfold mj newTag at*;simp;omega,h.ps,fun _=>rfl⟩
theorem Jr(h:Mz w0 aj b ex true (k+2) m w):
  Calls prog 235 #[.pointer (some ⟨b,0,none⟩)] w fun e w'=>e= .returned (.tuple #[])∧Mz w0 aj b ex true k (qp m) w':=by
 obtain⟨f1,f2,f3,f4,f5,f6,f7⟩:=ri m
 have hz:=h.sz
 refine(Up h.rep (h.gn rfl) (by omega)).mono fun e w'⟨he,h1⟩=>⟨he,h1,?_,?_,fun _=>f1.trans (h.gn rfl)⟩
 ·unfold qp mj at*;simp;omega
 ·show(ep m).pos<(ep m).l.length;rw[f2,f3];exact h.ps
theorem F6(h:Mz w0 aj b ex true (k+2) m w):
  Calls prog 180 #[.pointer (some ⟨b,0,none⟩)] w fun e w'=>e= .returned (.tuple #[])∧Mz w0 aj b ex true k (ol m) w':=by
 have hz:=h.sz
 refine(H9 h.rep (h.gn rfl) (by omega)).mono fun e w'⟨he,h1⟩=>⟨he,h1,?_,?_,?_⟩
 ·unfold ol;split
  ·rw[qs];show mj m+1+k≤lim;omega
  ·show mj m+k≤lim;omega
 ·unfold ol;split<;>exact h.ps
 ·intro _;unfold ol;split<;>exact h.gn rfl
theorem An(h:Mz w0 aj b ex true (k+8) m w):
  Calls prog 234 #[.pointer (some ⟨b,0,none⟩)] w fun e w'=>e= .returned (.tuple #[])∧Mk w0 aj b (ot m) ex w':=
 Uq h.rep (h.gn rfl) (by have:=h.sz;omega) h.ps
theorem Xc(m:MS)(t:Tok):mj (tell m t)≤mj m+2:=by
 unfold tell flush mj;split<;>simp<;>omega
theorem Sr(m:MS)(t:Tok):(tell m t).gone=m.gone∧(tell m t).name=m.name:=by unfold tell flush;split<;>exact⟨rfl,rfl⟩
theorem zcy(m:MS)(t:Tok)(h:m.pos<m.l.length):(tell m t).pos<(tell m t).l.length:=by rw[(p7 m t).1,(p7 m t).2.1];exact h
theorem vn(h:Mz w0 aj b ex g (k+2) m w):
  Calls prog 178 #[.pointer (some ⟨b,0,none⟩)] w fun e w'=>e= .returned (.tuple #[])∧Mz w0 aj b ex g k (dm m) w':=by
 have hz:=h.sz
 refine(yr h.rep (by omega)).mono fun e w'⟨he,h1⟩=>⟨he,h1,?_,?_,?_⟩
 ·have:=Xc m {kind:=3,text:=jk m.name};unfold dm mj at*;simp;omega
 ·exact zcy m {kind:=3,text:=jk m.name} h.ps
 ·intro hg;exact(Sr m {kind:=3,text:=jk m.name}).1.trans (h.gn hg)
theorem y8(odd:Bool)(h:Mz w0 aj b ex g (k+2) m w):
  Calls prog 177 #[.pointer (some ⟨b,0,none⟩),.bool odd] w fun e w'=>e= .returned (.tuple #[])∧Mz w0 aj b ex g k (dw m odd) w':=by
 have hz:=h.sz
 refine(yt odd h.rep (by omega)).mono fun e w'⟨he,h1⟩=>⟨he,h1,?_,?_,?_⟩
 ·have:=Xc m {kind:=4,name:=jk m.name,flag:=odd};unfold dw mj at*;simp;omega
 ·exact zcy m {kind:=4,name:=jk m.name,flag:=odd} h.ps
 ·intro hg;exact(Sr m {kind:=4,name:=jk m.name,flag:=odd}).1.trans (h.gn hg)
theorem Nn(s:Str)(hl:s.length≤8)(h:Mz w0 aj b ex g (k+8) m w):
  Calls prog 179 #[.pointer (some ⟨b,0,none⟩),.string ⟨s.toArray⟩] w fun e w'=>e= .returned (.tuple #[])∧Mz w0 aj b ex g k (say m s) w':=
 (Cc s h.rep (by have:=h.sz;omega) (by omega)).mono fun e w'⟨he,h1⟩=>⟨he,h1,by have:=h.sz;unfold mj say n8 at*;simp;omega,h.ps,h.gn⟩
theorem No(s:Str)(hl:s.length≤8)(h:Mz w0 aj b ex g (k+8) m w):
  Calls prog 176 #[.pointer (some ⟨b,0,none⟩),.string ⟨s.toArray⟩] w fun e w'=>e= .returned (.tuple #[])∧Mz w0 aj b ex g k (add m s) w':=
 (Xa s h.rep (by have:=h.sz;omega) (by omega)).mono fun e w'⟨he,h1⟩=>⟨he,h1,by have:=h.sz;unfold mj add n8 at*;simp;omega,h.ps,h.gn⟩
theorem Mz.setState(q:Nat)(h:Mz w0 aj b ex g k m w):Mz w0 aj b ex g k (st m q) (w.setCell ⟨b,5,none⟩ (.string ⟨(qc q).toArray⟩)):=⟨h.rep.setState q,h.sz,h.ps,h.gn⟩
theorem Mz.C2(q:Nat)(h:Mz w0 aj b ex g k m w):Mz w0 aj b ex g k {m with back:=q} (w.setCell ⟨b,7,none⟩ (.string ⟨(qc q).toArray⟩)):=⟨h.rep.C2 q,h.sz,h.ps,h.gn⟩
theorem Mz.Mw(q:Nat)(h:Mz w0 aj b ex g k m w):Mz w0 aj b ex g k {m with base:=q} (w.setCell ⟨b,6,none⟩ (.string ⟨(qc q).toArray⟩)):=⟨h.rep.Mw q,h.sz,h.ps,h.gn⟩
theorem Mz.Ul(v:Bool)(h:Mz w0 aj b ex g k m w):Mz w0 aj b ex g k {m with flag:=v} (w.setCell ⟨b,12,none⟩ (.bool v)):=⟨h.rep.Ul v,h.sz,h.ps,h.gn⟩
theorem Mz.Um(v:Bool)(h:Mz w0 aj b ex g k m w):Mz w0 aj b ex g k {m with odd:=v} (w.setCell ⟨b,21,none⟩ (.bool v)):=⟨h.rep.Um v,h.sz,h.ps,h.gn⟩
theorem Mz.qy(h:Mz w0 aj b ex g k m w):Mz w0 aj b ex g k {m with name:=[]} (w.setCell ⟨b,14,none⟩ (.slice none 0 0)):=⟨h.rep.qy,by have:=h.sz;unfold mj at*;simp;omega,h.ps,h.gn⟩
theorem Mz.on(h:Mz w0 aj b ex g k m w):Mk w0 aj b (on m) ex (w.setCell ⟨b,1,none⟩ (.int .i64 ((m.pos:Int)+1))):=by
 have h1:=Mk.setPos (m.pos+1) h.ps h.rep
 exact h1
theorem Mz.c5(h:Mz w0 aj b ex g k m w):w.cell? ⟨b,5,none⟩=some (.string ⟨(qc m.state).toArray⟩):=by obtain⟨R,q⟩:=h.rep;exact q.cell 5
theorem Mz.c1(h:Mz w0 aj b ex g k m w):w.cell? ⟨b,1,none⟩=some (.int .i64 m.pos):=by obtain⟨R,q⟩:=h.rep;exact q.cell 1
theorem Mz.frozen(h:Mz w0 aj b ex g k m w)(o:Nat):w.frozen? ⟨b,o,none⟩=false:=by obtain⟨R,q⟩:=h.rep;exact q.frozen o
theorem Mz.pos(h:Mz w0 aj b ex g k m w):(m.pos:Int)≤1099511627776:=by have:=h.rep.ok.ll;have:=h.ps;unfold lim at*;omega
theorem Mz.one(h:Mz w0 aj b ex g k m w)(v:MS→Value)(o:Nat)(hv:∀R,(mc m R)[o]? =some (v m)):w.cell? ⟨b,o,none⟩=some (v m):=by obtain⟨R,q⟩:=h.rep;exact(q.cell o).trans (hv R)
section
variable{w0:World}{aj:Nat→Prop}{b:Nat}{m:MS}{ex:List Item}{w:World}{g:Bool}{k:Nat}
theorem Xd(m:MS)(R:MR):(mc m R).size=22:=rfl
theorem Mz.some(h:Mz w0 aj b ex g k m w)(o:Nat)(ho:o<22):∃v,w.cell? ⟨b,o,none⟩=Option.some v:=by
 obtain⟨R,q⟩:=h.rep
 exact⟨(mc m R)[o]'(by rw[Xd];exact ho),(q.cell o).trans (Array.getElem?_eq_getElem _)⟩
theorem Mz.c6(h:Mz w0 aj b ex g k m w):w.cell? ⟨b,6,none⟩=Option.some (.string ⟨(qc m.base).toArray⟩):=by obtain⟨R,q⟩:=h.rep;exact q.cell 6
theorem Mz.c21(h:Mz w0 aj b ex g k m w):w.cell? ⟨b,21,none⟩=Option.some (.bool m.odd):=by obtain⟨R,q⟩:=h.rep;exact q.cell 21
theorem nz(m:MS)(c:Int):(lx m c).name=m.name∧(lx m c).key=m.key∧(lx m c).value=m.value∧(lx m c).pos=m.pos∧(lx m c).l=m.l∧(lx m c).gone=m.gone:=by
 unfold lx;split<;>exact⟨rfl,rfl,rfl,rfl,rfl,rfl⟩
theorem Xe(c:Int)(h:Mz w0 aj b ex g (k+1) m w):
  Calls prog 231 #[.pointer (Option.some ⟨b,0,none⟩),.int .i64 c] w fun e w'=>e= .returned (.int .i64 (bb c))∧Mz w0 aj b ex g k (lx m c) w':=by
 refine(zgm c h.rep h.told).mono fun e w'⟨he,h1⟩=>⟨he,h1,?_,?_,?_⟩
 ·have:=h.sz;unfold lx;split
  ·rw[qs];omega
  ·omega
 ·rw[(nz m c).2.2.2.1,(nz m c).2.2.2.2.1];exact h.ps
 ·intro hg;rw[(nz m c).2.2.2.2.2];exact h.gn hg
theorem fy{c:Int}(h:Pt c):Pt (bb c):=by unfold bb;split;exact⟨by omega,by omega⟩;exact h
theorem Er{c:Int}(h:Pt c):Pt (lw c):=by unfold lw Pt at*;split<;>omega
end
end
section
variable{w0:World}{aj:Nat→Prop}{b:Nat}{m:MS}{ex:List Item}{w:World}{g:Bool}{k:Nat}
theorem Xf(six:Bool)(c:Int)(w:World)(h0: -1≤c)(h1:c≤1114111):Calls prog 226 #[.int .i64 c,.int .i64 (if six=true then 16 else 10)] w fun e w'=>e= .returned (.int .i64 (Q0 six c))∧w'=w:=by
 have H:c<48∨(48≤c∧c≤57)∨(57<c∧c<65)∨(65≤c∧c≤70)∨(70<c∧c<97)∨(97≤c∧c≤102)∨102<c:=by omega
 cases six
 ·simp only[b8,if_false]
  rcases H with h|⟨h,h'⟩|⟨h,h'⟩|⟨h,h'⟩|⟨h,h'⟩|⟨h,h'⟩|h
  all_goals
   go_enter func226,ntmps226
   go_wp2
   go_ret
   exact⟨Bm (by unfold Q0;simp<;>omega),rfl⟩
 ·simp only[if_true]
  rcases H with h|⟨h,h'⟩|⟨h,h'⟩|⟨h,h'⟩|⟨h,h'⟩|⟨h,h'⟩|h
  all_goals
   go_enter func226,ntmps226
   go_wp2
   go_ret
   exact⟨Bm (by unfold Q0;simp<;>omega),rfl⟩
def Xg:Array Value:=#[.int .i64 8364,.int .i64 0,.int .i64 8218,.int .i64 402,.int .i64 8222,.int .i64 8230,.int .i64 8224,.int .i64 8225,.int .i64 710,.int .i64 8240,.int .i64 352,.int .i64 8249,.int .i64 338,.int .i64 0,.int .i64 381,.int .i64 0,.int .i64 0,.int .i64 8216,.int .i64 8217,.int .i64 8220,.int .i64 8221,.int .i64 8226,.int .i64 8211,.int .i64 8212,.int .i64 732,.int .i64 8482,.int .i64 353,.int .i64 8250,.int .i64 339,.int .i64 0,.int .i64 382,.int .i64 376]
theorem zjy(j:Nat)(hj:j<32):Xg[j]? =some (.int .i64 (yo.getD j 0)):=by
 have h:∀j,j<32→Xg[j]? =some (.int .i64 (yo.getD j 0)):=by
  intro j hj
  match j,hj with
  |0,_=>rfl
  |1,_=>rfl
  |2,_=>rfl
  |3,_=>rfl
  |4,_=>rfl
  |5,_=>rfl
  |6,_=>rfl
  |7,_=>rfl
  |8,_=>rfl
  |9,_=>rfl
  |10,_=>rfl
  |11,_=>rfl
  |12,_=>rfl
  |13,_=>rfl
  |14,_=>rfl
  |15,_=>rfl
  |16,_=>rfl
  |17,_=>rfl
  |18,_=>rfl
  |19,_=>rfl
  |20,_=>rfl
  |21,_=>rfl
  |22,_=>rfl
  |23,_=>rfl
  |24,_=>rfl
  |25,_=>rfl
  |26,_=>rfl
  |27,_=>rfl
  |28,_=>rfl
  |29,_=>rfl
  |30,_=>rfl
  |31,_=>rfl
  |n+32,h=>exact absurd h (by omega)
 exact h j hj
theorem Ia(x:Int)(h0:0≤x)(h1:x≤1114112)(h:Mk w0 aj b m ex w)(hs:m.told.length≤lim):
  Calls prog 227 #[.pointer (some ⟨b,0,none⟩),.int .i64 x] w fun e w'=>e= .returned (.int .i64 (meant x).1)∧Mk w0 aj b (meaning m x) ex w':=by
 have hm:=(More.refl w).alloc (.cells Xg 3)
 have hk1:=h.kept.more hm
 have HE:=hide (fun n=>v8 n m.pos (h.fresh hm) hs)
 have HK:=hide (fun(m':MS)(w2:World)(h2:Mk (w.alloc (.cells Xg 3)) (yj w0 aj w) b m' ex w2)=>h2.qn hk1)
 have HM:=hide (h.more hm)
 have HT:=hide (fun(m':MS)(w2:World)(h2:Mk (w.alloc (.cells Xg 3)) (yj w0 aj w) b m' ex w2)=>(h2.stands (g:=w.heap.size) (cx _) (by simp)).trans (heap_alloc_new w (.cells Xg 3)))
 have c1:w.cell? ⟨b,1,none⟩=some (.int .i64 m.pos):=by obtain⟨R,q⟩:=h;exact q.cell 1
 have hlt:b<w.heap.size:=by obtain⟨R,q⟩:=h;exact q.obj.lt
 have hfin:∀n:Str,n≠[]→(meant x).2=n→meaning m x=wrong m n m.pos:=fun n hn e=>by unfold meaning;rw[ag (by rw[e];exact hn),e];rfl
 have zlf:(meant x).2=[]→meaning m x=m:=fun e=>by unfold meaning;rw[au e]
 have HF:=hide hfin
 have HF0:=hide zlf
 clear hm hk1 h hs hfin zlf
 simp only[Xg]at HE HK HM HT
 by_cases a0:x=0
 ·subst a0
  rw[ae HF [110,117,108] (by decide) rfl,show(meant 0).1=65533 from rfl]
  go_enter func227,ntmps227
  go_wp2_with fail
  refine(ae HE [110,117,108]).mono ?_
  rintro e w2⟨rfl,h2⟩
  go_wp2
  go_ret
  exact⟨rfl,ae HK _ _ h2⟩
 have e0:(x==0)=false:=by simpa using a0
 by_cases a1:1114111<x
 ·rw[ae HF [114,97,110,103,101] (by decide) (by unfold meant;rw[ag a0,au a1]),show(meant x).1=65533 by unfold meant;rw[ag a0,au a1]]
  go_enter func227,ntmps227
  go_wp2_with fail
  refine(ae HE [114,97,110,103,101]).mono ?_
  rintro e w2⟨rfl,h2⟩
  go_wp2
  go_ret
  exact⟨rfl,ae HK _ _ h2⟩
 have a1':x≤1114111:=by omega
 by_cases a2:55296≤x∧x≤57343
 ·rw[ae HF [115,117,114,114,111,103,97,116,101] (by decide) (by unfold meant;rw[ag a0,ag a1,au a2]),show(meant x).1=65533 by unfold meant;rw[ag a0,ag a1,au a2]]
  obtain⟨a2,a2'⟩:=a2
  go_enter func227,ntmps227
  go_wp2_with fail
  refine(ae HE [115,117,114,114,111,103,97,116,101]).mono ?_
  rintro e w2⟨rfl,h2⟩
  go_wp2
  go_ret
  exact⟨rfl,ae HK _ _ h2⟩
 by_cases a3:(64976≤x∧x≤65007)∨65534≤x%65536
 ·rw[ae HF [110,111,110,101] (by decide) (by unfold meant;rw[ag a0,ag a1,ag a2,au a3]),show(meant x).1=x by unfold meant;rw[ag a0,ag a1,ag a2,au a3]]
  have H:(64976≤x∧x≤65007)∨(65007<x∧65534≤x%65536):=by omega
  have b3:57343<x:=by omega
  clear a2 a3
  rcases H with⟨b1,b2⟩|⟨b1,b2⟩
  all_goals
   go_enter func227,ntmps227
   go_wp2_with fail
   refine(ae HE [110,111,110,101]).mono ?_
   rintro e w2⟨rfl,h2⟩
   go_wp2
   go_ret
   exact⟨rfl,ae HK _ _ h2⟩
 by_cases a4:(1≤x∧x≤31∧x≠9∧x≠10∧x≠12)∨(127≤x∧x≤159)
 ·rw[ae HF [99,111,110,116,114,111,108] (by decide) (by unfold meant;rw[ag a0,ag a1,ag a2,ag a3,au a4]),show(meant x).1=if 128≤x∧0<yo.getD (x-128).toNat 0 then yo.getD (x-128).toNat 0 else x by unfold meant;rw[ag a0,ag a1,ag a2,ag a3,au a4]]
  have b3:¬55296≤x:=by omega
  have b4:¬64976≤x:=by omega
  have b5:x%65536<65534:=by omega
  by_cases a5:x<128
  ·rw[ag (by omega)]
   have H:(x≤31∧x≠9∧x≠10∧x≠12)∨x=127:=by omega
   clear a2 a3 a4
   rcases H with⟨g1,g2,g3,g4⟩|rfl
   ·have e9:(x !=9)=true:=by simpa using g2
    have e10:(x !=10)=true:=by simpa using g3
    have e12:(x !=12)=true:=by simpa using g4
    go_enter func227,ntmps227
    go_wp2_with fail
    refine(ae HE [99,111,110,116,114,111,108]).mono ?_
    rintro e w2⟨rfl,h2⟩
    go_wp2
    go_ret
    exact⟨rfl,ae HK _ _ h2⟩
   ·go_enter func227,ntmps227
    go_wp2_with fail
    refine(ae HE [99,111,110,116,114,111,108]).mono ?_
    rintro e w2⟨rfl,h2⟩
    go_wp2
    go_ret
    exact⟨rfl,ae HK _ _ h2⟩
  ·have a6:x≤159:=by omega
   have a7:128≤x:=by omega
   have HW:=hide (zjy (x-128).toNat (by omega))
   simp only[Xg]at HW
   clear a2 a3 a4
   generalize yo.getD (x-128).toNat 0=v at*
   by_cases hv:0<v
   ·rw[au ⟨a7,hv⟩]
    go_enter func227,ntmps227
    go_wp2_with fail
    refine(ae HE [99,111,110,116,114,111,108]).mono ?_
    rintro e w2⟨rfl,h2⟩
    have d:=(bg (ae HT _ _ h2) (x-128).toNat).trans (ae HW)
    go_wp2
    go_ret
    exact⟨rfl,ae HK _ _ h2⟩
   ·rw[ag (fun e=>hv e.2)]
    go_enter func227,ntmps227
    go_wp2_with fail
    refine(ae HE [99,111,110,116,114,111,108]).mono ?_
    rintro e w2⟨rfl,h2⟩
    have d:=(bg (ae HT _ _ h2) (x-128).toNat).trans (ae HW)
    go_wp2
    go_ret
    exact⟨rfl,ae HK _ _ h2⟩
 ·rw[ae HF0 (by unfold meant;rw[ag a0,ag a1,ag a2,ag a3,ag a4]),show(meant x).1=x by unfold meant;rw[ag a0,ag a1,ag a2,ag a3,ag a4]]
  have b5:x%65536<65534:=by omega
  have H:x=9∨x=10∨x=12∨(31<x∧¬127≤x)∨(159<x∧¬55296≤x)∨(57343<x∧¬64976≤x)∨65007<x:=by omega
  clear a2 a3 a4
  rcases H with rfl|rfl|rfl|⟨g1,g2⟩|⟨g1,g2⟩|⟨g1,g2⟩|g1
  all_goals
   go_enter func227,ntmps227
   go_wp2
   go_ret
   exact⟨rfl,ae HM⟩
end
section
variable{w0:World}{aj:Nat→Prop}{b:Nat}{m:MS}{ex:List Item}{w:World}{g:Bool}{k:Nat}
theorem Xh(m:MS)(six:Bool)(f n:Nat)(x:Int):digits m six (f+1) n x=if Q0 six (ahead m n)<0 then(n,x)else digits m six f (n+1) (cap ((if six=true then 16 else 10)*x+Q0 six (ahead m n))):=rfl
theorem zlz(six:Bool)(c:Int): -1≤Q0 six c∧Q0 six c≤15:=by unfold Q0;split;omega;split;omega;split<;>omega
theorem zjz(six:Bool):Q0 six (-1)<0:=by unfold Q0;simp
theorem zl0{x:Int}(h:0≤x):0≤cap x∧cap x≤1114112:=by unfold cap;split<;>omega
theorem Xi{x:Int}(h0:0≤x)(h1:x≤1114112):Pt (meant x).1:=by
 unfold meant Pt
 split;simp
 split;simp
 split;simp
 split;·simp;omega
 split
 ·have h:∀j,j<40→0≤yo.getD j 0∧yo.getD j 0≤1114111:=by decide
  simp only
  split
  ·exact h _ (by omega)
  ·omega
 ·simp;omega
theorem Xj(m:MS)(x:List Int):mj (give m x)=mj m+x.length:=by unfold give mj;split<;>simp<;>omega
theorem sa(m:MS)(x:List Int):(give m x).pos=m.pos∧(give m x).l=m.l∧(give m x).back=m.back∧(give m x).state=m.state∧(give m x).whole=m.whole∧(give m x).gone=m.gone∧(give m x).told=m.told:=by
 unfold give;split<;>exact⟨rfl,rfl,rfl,rfl,rfl,rfl,rfl⟩
theorem Es(m:MS)(x:Int):(meaning m x).pos=m.pos∧(meaning m x).l=m.l∧(meaning m x).back=m.back∧mj (meaning m x)≤mj m+1:=by
 unfold meaning;split
 ·exact⟨rfl,rfl,rfl,by omega⟩
 ·exact⟨rfl,rfl,rfl,by rw[qs];omega⟩
theorem vo(c:Int)(hp:Pt c)(h:Mk w0 aj b m ex w)(hs:mj m+1≤lim):
  Calls prog 169 #[.pointer (some ⟨b,0,none⟩),.slice (some ⟨w.heap.size,0,none⟩) 1 1] (w.alloc (.cells #[.int .i64 c] 3)) fun e w'=>e= .returned (.tuple #[])∧Mk w0 aj b (give m [c]) ex w':=
 Jq [c] ⟨w.heap.size,0,none⟩ 1 (ii w [.int .i64 c] 3 _ rfl) (by simp) (fun d hd=>by rw[de.1 hd];exact hp) (h.more ((More.refl w).alloc _)) hs
theorem Ku{r:Sl}{l:List Int}(h:(ck r l).ok w)(p n:Nat)(hn:p+n≤l.length)(h0:0<n):∃gg,r.a=some ⟨gg,0,none⟩∧∀(j:Nat)u,(((l.drop p).take n).map (Value.int .i64))[j]? =some u→w.cell? ((⟨gg,p,none⟩:Addr).add j)=some u:=by
 obtain⟨ad,ha,hc⟩:=(show ∃gg,r.a=some ⟨gg,0,none⟩∧∀j u,(l.map (Value.int .i64))[j]? =some u→w.cell? ⟨gg,j,none⟩=some u by
  obtain⟨c,hc⟩:∃c,l[0]? =some c:=⟨l[0]'(by omega),by simp⟩
  obtain⟨gg,hra,hg,_⟩:=F4 h (k:=0) (u:= .int .i64 c) (by simp[ck,hc]) rfl
  refine⟨gg,hra,fun j u hu=> ?_⟩
  obtain⟨gg',Q5,hg',hcell⟩:=F4 h (k:=j) (u:=u) (by simpa[ck]using hu) rfl
  have e1:(ck r l).a=some ⟨gg,0,none⟩:=hra
  rw[Q5]at e1
  have e2:gg'=gg:=by injection e1 with e;injection e
  rw[←e2];exact hcell)
 refine⟨ad,ha,fun j u hu=> ?_⟩
 rw[show((⟨ad,p,none⟩:Addr).add j)=⟨ad,p+j,none⟩ by unfold Addr.add;split<;>simp_all]
 refine hc (p+j) u ?_
 rw[List.getElem?_map]at hu⊢
 rw[List.getElem?_take]at hu
 split at hu
 ·rw[List.getElem?_drop]at hu;exact hu
 ·simp at hu
theorem tt{n:Nat}(h:0≤ahead m n):m.pos+n<m.l.length:=by
 unfold ahead at h
 cases e:m.l[m.pos+n]? with
 |none=>rw[e]at h;simp at h
 |some c=>exact(cd.1 e).1
theorem Xk{w:World}{it:Item}(h:it.ok w):it.n≤it.cap∧it.cap≤maxLen:=by
 rcases h.2 with⟨hv,h0⟩|⟨g,cap,cur,hv,_,hgg,hc,hm,_⟩
 ·injection hv with _ _ h3;exact⟨by omega,by rw[h3];exact da _⟩
 ·injection hv with h1 h2 h3;rw[h3];exact⟨hc,hm⟩
theorem zgs(w:World):(Go.sizeOf 3).run prog w= .ok 1 w:=by kernel_rfl
theorem Np(gg len cap p n:Nat)(hn:0<n)(hc:p+n≤cap)(W:World):(Instr.slice 45 (.slice (some ⟨gg,0,none⟩) len cap) (some (.int .i64 (p:Int))) (some (.int .i64 ((p:Int)+n))) none).run prog W= .ok (.slice (some ⟨gg,p,none⟩) n (cap-p)) W:=by
 have h:=Lib.run_slice_window (P:=prog) W 45 3 underlying45 zgs gg 0 len cap p (p+n) (by omega) hc
 rw[ja,Nat.add_sub_cancel_left]at h
 exact h
theorem Xl(h:Mk w0 aj b m ex w)(hs:mj m+16≤lim)(Q6:ahead m 0=35):
  Calls prog 168 #[.pointer (some ⟨b,0,none⟩)] w fun e w'=>e= .returned (.bool (number m).isSome)∧Mk w0 aj b ((number m).getD m) ex w':=by
 have hp0:=tt (m:=m) (n:=0) (by omega)
 have hp1:m.pos+o9 m≤m.l.length∧1≤o9 m∧o9 m≤2:=by
  unfold o9 vf
  split
  ·rename_i h6
   have:0≤ahead m 1:=by simp at h6;omega
   have:=tt this;omega
  ·omega
 have HA:=hide (fun(n q:Nat)(hn:n≤lim)=>wb n (h.drewN q) hn)
 have HA1:=hide (wb 1 h (by unfold lim;omega))
 have HM:=hide h
 have hll:m.l.length≤1099511627776:=h.ok.ll
 have HS:=hide hs
 have HRN:=hide (fun n=>W9 h.ok n)
 have HR:Hid (∀n x,pe m=(n,x)→(ahead m n<0→m.whole=false→number m=none)∧(¬(ahead m n<0∧m.whole=false)→n=o9 m→number m=some {give (give (wrong (st m m.back) [100,105,103,105,116,115] (m.pos+n:Nat)) [38]) ((m.l.drop m.pos).take n)with pos:=m.pos+n})∧
   (¬(ahead m n<0∧m.whole=false)→n≠o9 m→ahead m n=59→number m=some (give (meaning {st m m.back with pos:=m.pos+n+1} x) [(meant x).1]))∧
   (¬(ahead m n<0∧m.whole=false)→n≠o9 m→ahead m n≠59→number m=some (give (meaning {wrong (st m m.back) [115,101,109,105,99,111,108,111,110] (m.pos+n:Nat)with pos:=m.pos+n} x) [(meant x).1]))):=by
  intro n x e
  refine⟨fun h1 h2=> ?_,fun h1 h2=> ?_,fun h1 h2 h3=> ?_,fun h1 h2 h3=> ?_⟩
  ·unfold number;rw[e,au ⟨h1,h2⟩]
  ·unfold number;rw[e,ag h1,au h2,h2]
  ·unfold number;rw[e,ag h1,ag h2,au h3]
  ·unfold number;rw[e,ag h1,ag h2,ag h3]
 rw[show pe m=digits m (vf m) (m.l.length+1) (o9 m) 0 from rfl]at HR
 have HFG:=hide (fun c W h0 h1=>Xf (vf m) c W h0 h1)
 have HFR:=hide (fun c=>zlz (vf m) c)
 have HNE:=hide (zjz (vf m))
 have HD:=hide (Xh m (vf m))
 have hc1:(ahead m 1=120∨ahead m 1=88∨(ahead m 1≠120∧ahead m 1≠88)):=by omega
 obtain⟨six,zj0⟩:∃six,vf m=six:=⟨_,rfl⟩
 have hfd:o9 m=if six=true then 2 else 1:=by rw[←zj0];rfl
 have h6:six=(ahead m 1==120||ahead m 1==88):=by rw[←zj0];rfl
 rw[zj0]at HR HFG HFR HNE HD
 generalize digits m six=D at*
 generalize Q0 six=F at*
 obtain⟨hp1,hf1,hf2⟩:=hp1
 generalize o9 m=fd at*
 generalize number m=res at*
 obtain⟨R,hR⟩:=h
 have c2:∀q,(w.drewN q).cell? ⟨b,2,none⟩=some (.bool m.whole):=fun q=>hR.cell 2
 have c7:∀q,(w.drewN q).cell? ⟨b,7,none⟩=some (.string ⟨(qc m.back).toArray⟩):=fun q=>hR.cell 7
 have c5:∀q,(w.drewN q).cell? ⟨b,5,none⟩=some (.string ⟨(qc m.state).toArray⟩):=fun q=>hR.cell 5
 have cf:∀q o,(w.drewN q).frozen? ⟨b,o,none⟩=false:=fun q o=>hR.frozen o
 clear hR R hs zj0 Q6
 have zox:((ahead m 1==120)=true∧six=true)∨((ahead m 1==120)=false∧(ahead m 1==88)=true∧six=true)∨((ahead m 1==120)=false∧(ahead m 1==88)=false∧six=false):=by
  rw[h6]
  cases(ahead m 1==120)<;>cases(ahead m 1==88)<;>simp
 have hB:(six=true∧fd=2∧(if six=true then(16:Int)else 10)=16)∨(six=false∧fd=1∧(if six=true then(16:Int)else 10)=10):=by cases six<;>simp[hfd]
 clear hc1 hfd h6
 generalize(if six=true then(16:Int)else 10)=B at*
 have zoy:=hide zox
 have HWB:=hide hB
 have hB':10≤B∧B≤16:=by omega
 obtain⟨hB1,hB2⟩:=hB'
 clear zox hB
 go_enter func168,ntmps168
 go_wp2_with fail
 refine(ae HA1).mono ?_
 rintro e w1⟨rfl,q1,rfl⟩
 go_upto_region 4 with fail
 go_cut[16] (fun a16 wx=>a16= .bool six∧wx=w.drewN q1)
 case first=>
  rcases ae zoy with⟨e1,rfl⟩|⟨e1,e2,rfl⟩|⟨e1,e2,rfl⟩
  all_goals
   go_wp2
   go_meet
   case rel=>exact⟨rfl,rfl⟩
 case rest=>
 obtain⟨rfl,rfl⟩:=hcut
 go_upto_if 16 with fail
 go_cut[3,4] (fun a3 a4 wx=>a3= .int .i64 fd∧a4= .int .i64 B∧wx=w.drewN q1)
 case first=>
  rcases ae HWB with⟨rfl,rfl,rfl⟩|⟨rfl,rfl,rfl⟩
  all_goals
   go_wp2
   go_meet
   case rel=>exact⟨rfl,rfl,rfl⟩
 case rest=>
  obtain⟨rfl,rfl,rfl⟩:=hcut
  clear zoy HWB HA1
  go_wp2
  go_loopw [3,7] (fun a3 a7 wx=>∃(n f q:Nat)(x:Int),a3= .int .i64 n∧a7= .int .i64 x∧wx=w.drewN q∧fd≤n∧m.pos+n≤m.l.length∧n+f=fd+m.l.length+1∧Hid (D f n x=D (m.l.length+1) fd 0)∧0≤x∧x≤1114112) (fun a3 _ _=>m.l.length+3-(intOf a3).toNat)
  case atStart=>exact⟨fd,m.l.length+1,q1,0,rfl,rfl,rfl,by omega,hp1,by omega,hide rfl,by omega,by omega⟩
  case round=>
   obtain⟨n,f,q,x,rfl,rfl,rfl,hn1,hn2,hnf,HQ,hx0,hx1⟩:=hrel
   have hrn:=ae HRN n
   have HAn:=hide (ae HA n q (by unfold lim;omega))
   have HFn:=hide (fun W=>ae HFG (ahead m n) W hrn.1 hrn.2)
   have hdr:=ae HFR (ahead m n)
   obtain⟨f',rfl⟩:∃f',f=f'+1:=⟨f-1,by omega⟩
   have HS1:=hide (ae HD f' n x)
   by_cases hd:F (ahead m n)<0
   ·rw[au hd]at HS1
    have zj2:=hide (ae HR n x (((ae HQ).symm.trans (ae HS1))))
    clear HS1 HQ HD HFG HFR HNE HR HA
    have hw2:=m.whole
    obtain⟨Z,hZ⟩:∃Z,Z=decide (ahead m n<0∧m.whole=false):=⟨_,rfl⟩
    have HZ:=hide hZ
    clear hZ
    go_wp2_with fail
    refine(ae HAn).mono ?_
    rintro e w1⟨rfl,q2,rfl⟩
    go_wp2_with fail
    refine(ae HFn _).mono ?_
    rintro e w2⟨rfl,zoz⟩
    rw[zoz]
    clear zoz
    go_upto_region 16 with fail
    go_cut[43] (fun a43 wx=>a43= .bool Z∧wx=w.drewN (q+q2))
    case first=>
     by_cases hc0:ahead m n<0
     ·cases hwh:m.whole
      ·have e2:=c2 (q+q2)
       rw[hwh]at e2
       clear c2
       go_wp2
       go_meet
       case rel=>exact⟨by rw[ae HZ];simp[hc0,hwh],rfl⟩
      ·have e2:=c2 (q+q2)
       rw[hwh]at e2
       clear c2
       go_wp2
       go_meet
       case rel=>exact⟨by rw[ae HZ];simp[hwh],rfl⟩
     ·go_wp2
      go_meet
      case rel=>exact⟨by rw[ae HZ,ch (by omega)],rfl⟩
    case rest=>
    obtain⟨rfl,rfl⟩:=hcut
    cases Z
    ·have HG:=hide (show ¬(ahead m n<0∧m.whole=false)from fun e=>by have:=ae HZ;rw[gy e]at this;cases this)
     obtain⟨_,HR1,HR2,HR3⟩:=ae zj2
     have HR1:=hide (HR1 (ae HG))
     have HR2:=hide (HR2 (ae HG))
     have HR3:=hide (HR3 (ae HG))
     clear zj2 HZ HG
     have H5:=hide (show Mk w0 aj b (st m m.back) ex _ from((ae HM).drewN (q+q2)).setState m.back)
     have hbk:(m.pos:Int)+n≤1099511627776:=by omega
     have hpl:m.pos≤m.l.length:=by omega
     have d5:=c5 (q+q2)
     have d7:=c7 (q+q2)
     have df:=cf (q+q2)
     have d1:(w.drewN (q+q2)).cell? ⟨b,1,none⟩=some (.int .i64 m.pos):=by obtain⟨R,r⟩:=ae HM;exact r.cell 1
     clear c2 c5 c7 cf
     by_cases hn:n=fd
     ·have HF:=hide (ae HR1 hn)
      have en:((n:Int)==(fd:Int))=true:=by simp[hn]
      have hn3:n≤2:=by omega
      have HW:=hide (v8 [100,105,103,105,116,115] ((m.pos:Int)+n) (ae H5) (by have:=ae HS;unfold mj at this;show m.told.length≤lim;omega))
      clear hn HR1 HR2 HR3
      go_wp2_with fail
      refine(ae HW).mono ?_
      rintro e w3⟨rfl,h3⟩
      clear HW H5
      have HG1:=hide (vo 38 ⟨by omega,by omega⟩ h3 (by have:=ae HS;rw[Cd];show mj m+1+1≤lim;omega))
      go_wp2_with fail
      refine(ae HG1).mono ?_
      rintro e w4⟨rfl,h4⟩
      have hgf:=sa (wrong (st m m.back) [100,105,103,105,116,115] ((m.pos:Int)+n)) [38]
      have HSZ:Hid (mj (give (wrong (st m m.back) [100,105,103,105,116,115] ((m.pos:Int)+n)) [38])+n≤lim):=by
       have:=ae HS;rw[Xj,Cd];show mj m+1+1+n≤lim;omega
      have HFin:=hide (show{give (give (wrong (st m m.back) [100,105,103,105,116,115] ((m.pos+n:Nat):Int)) [38]) ((m.l.drop m.pos).take n)with pos:=m.pos+n}={give (give (wrong (st m m.back) [100,105,103,105,116,115] ((m.pos:Int)+n)) [38]) ((m.l.drop m.pos).take n)with pos:=m.pos+n}from rfl)
      generalize hm4:give (wrong (st m m.back) [100,105,103,105,116,115] ((m.pos:Int)+n)) [38]=m4 at*
      obtain⟨g1,g2,g3,g4,g5,g6,g7⟩:=hgf
      have e1:m4.pos=m.pos:=g1
      have e2:m4.l=m.l:=g2
      clear g1 g2 g3 g4 g5 g6 g7 h3 HG1 HR1
      obtain⟨R4,r4⟩:=h4
      have k0:w4.cell? ⟨b,0,none⟩=some (.slice R4.l.a m4.l.length R4.l.cap):=r4.cell 0
      have k1:w4.cell? ⟨b,1,none⟩=some (.int .i64 m4.pos):=r4.cell 1
      obtain⟨rc1,rc2⟩:=Xk r4.W8
      obtain⟨gg,hgg,hcells⟩:=Ku r4.W8 m4.pos n (by rw[e1,e2];omega) (by omega)
      have hlen:((m4.l.drop m4.pos).take n).length=n:=by rw[List.length_take,fj,e1,e2];omega
      have HV:=hide (fun W(hm:More w4 W)(cp:Nat)(hc:∀j u,(((m4.l.drop m4.pos).take n).map (Value.int .i64))[j]? =some u→W.cell? ((⟨gg,m4.pos,none⟩:Addr).add j)=some u)=>Jq (w:=W) ((m4.l.drop m4.pos).take n) ⟨gg,m4.pos,none⟩ cp hc (by intro e;rw[e]at hlen;simp at hlen;omega) (fun c hc=>r4.ok.l c (List.mem_of_mem_drop (List.mem_of_mem_take hc))) (r4.more hm).out (by rw[hlen];exact ae HSZ))
      rw[hlen]at HV
      have HE:=hide e1
      rw[hgg]at k0
      have hl1:(m4.pos:Int)+n≤m4.l.length:=by rw[e1,e2];omega
      have hl2:(m4.l.length:Int)≤R4.l.cap:=by have:m4.l.length≤R4.l.cap:=rc1;omega
      have hl3:(R4.l.cap:Int)≤9223372036854775807:=by have:R4.l.cap≤maxLen:=rc2;unfold maxLen at this;omega
      have hl4:(m4.pos:Int)≤1099511627776:=by rw[e1];omega
      have hsl:=Np gg m4.l.length R4.l.cap m4.pos n (by omega) (by omega)
      have HCE:=hide hcells
      have hps:Hid (m4.pos+n≤m4.l.length):=by rw[e1,e2];exact hide (by omega)
      have hn4:(n:Int)≤2:=by omega
      have hn5:(0:Int)≤n:=by omega
      have hwp:IntKind.i64.wrap ((m4.pos:Int)+n)=(m4.pos:Int)+n:=wrap_small _ (by omega) (by omega)
      have HX:=hide (show{give (give (wrong (st m m.back) [100,105,103,105,116,115] ((m.pos+n:Nat):Int)) [38]) ((m.l.drop m.pos).take n)with pos:=m.pos+n}={give m4 ((m4.l.drop m4.pos).take n)with pos:=m4.pos+n} by rw[←hm4]at e1 e2⊢;rw[e1,e2];rfl)
      clear hcells hlen hm4 hgg rc1 rc2 e1 e2
      go_wp2_with fail
      go_region_with(go_at_call 169;refine(ae HV _ ?_ _ ?_).mono ?_;(exact(More.refl w4).drew);(exact ae HCE);rintro e w5⟨rfl,h5⟩)
      all_goals
       have f5:=sa m4 ((m4.l.drop m4.pos).take n)
       have HP5:=hide (Mk.setPos (m4.pos+n) (by rw[f5.2.1];exact ae hps) h5)
       obtain⟨R5,r5⟩:=h5
       have s1:w5.cell? ⟨b,1,none⟩=some (.int .i64 (give m4 ((m4.l.drop m4.pos).take n)).pos):=r5.cell 1
       rw[f5.1]at s1
       have sf:=r5.frozen
       clear r5 f5
       go_wp2
       go_ret
       refine⟨jt (by rw[ae HF];rfl),?_⟩
       rw[ae HF]
       have h9:=ae HP5
       rw[←ae HX]at h9
       exact h9
     ·have en:((n:Int)==(fd:Int))=false:=by simp;omega
      by_cases hc:ahead m n=59
      ·have HF:=hide (ae HR2 hn hc)
       have e59:(ahead m n==59)=true:=by simp[hc]
       have hlt:=tt (m:=m) (n:=n) (by omega)
       have H6:=hide (show Mk w0 aj b {st m m.back with pos:=m.pos+n+1} ex _ from Mk.setPos (m:=st m m.back) (m.pos+n+1) (by show m.pos+n+1≤m.l.length;omega) (ae H5))
       have HMe:=hide (Ia x hx0 hx1 (ae H6) (by have:=ae HS;unfold mj at this;show m.told.length≤lim;omega))
       have hmf:=Es {st m m.back with pos:=m.pos+n+1} x
       have HZ5:Hid (mj (meaning {st m m.back with pos:=m.pos+n+1} x)+1≤lim):=by have:=ae HS;have:=hmf.2.2.2;show _≤lim;have h8:mj {st m m.back with pos:=m.pos+n+1}=mj m:=rfl;omega
       have HPt:=hide (Xi hx0 hx1)
       clear hn hc HR1 HR2 HR3 hmf H6
       generalize meaning {st m m.back with pos:=m.pos+n+1} x=m6 at*
       generalize(meant x).1=y at*
       go_wp2_with fail
       refine(ae HMe).mono ?_
       rintro e w3⟨rfl,h3⟩
       go_wp2_with fail
       refine(vo y (ae HPt) h3 (ae HZ5)).mono ?_
       rintro e w4⟨rfl,h4⟩
       go_wp2
       go_ret
       exact⟨jt (by rw[ae HF];rfl),by rw[ae HF];exact h4⟩
      ·have HF:=hide (ae HR3 hn hc)
       have e59:(ahead m n==59)=false:=by simpa using hc
       have HW:=hide (v8 [115,101,109,105,99,111,108,111,110] ((m.pos:Int)+n) (ae H5) (by have:=ae HS;unfold mj at this;show m.told.length≤lim;omega))
       have HMe:=hide (fun W hW=>Ia (w:=W) x hx0 hx1 (m:={wrong (st m m.back) [115,101,109,105,99,111,108,111,110] ((m.pos:Int)+n)with pos:=m.pos+n}) (w0:=w0) (aj:=aj) (b:=b) (ex:=ex) hW (by have:=ae HS;unfold mj at this;show(m.told++_).length≤lim;rw[aq];simp;omega))
       have hmf:=Es {wrong (st m m.back) [115,101,109,105,99,111,108,111,110] ((m.pos:Int)+n)with pos:=m.pos+n} x
       have HZ5:Hid (mj (meaning {wrong (st m m.back) [115,101,109,105,99,111,108,111,110] ((m.pos:Int)+n)with pos:=m.pos+n} x)+1≤lim):=by have:=ae HS;have:=hmf.2.2.2;show _≤lim;have h8:mj {wrong (st m m.back) [115,101,109,105,99,111,108,111,110] ((m.pos:Int)+n)with pos:=m.pos+n}=mj m+1:=Cd (st m m.back) _ _;omega
       have HPt:=hide (Xi hx0 hx1)
       clear hn hc HR1 HR2 HR3 hmf
       go_wp2_with fail
       refine(ae HW).mono ?_
       rintro e w3⟨rfl,h3⟩
       have h4:=Mk.setPos (m:=wrong (st m m.back) [115,101,109,105,99,111,108,111,110] ((m.pos:Int)+n)) (m.pos+n) (by show m.pos+n≤m.l.length;omega) h3
       have k1:w3.cell? ⟨b,1,none⟩=some (.int .i64 m.pos):=by obtain⟨Q,r⟩:=h3;exact r.cell 1
       have kf:∀o,w3.frozen? ⟨b,o,none⟩=false:=by obtain⟨Q,r⟩:=h3;exact r.frozen
       have HMf:=hide (ae HMe _ h4)
       clear HMe HW h4 h3
       generalize(meant x).1=y at*
       go_wp2_with fail
       refine(ae HMf).mono ?_
       rintro e w4⟨rfl,h4⟩
       go_wp2_with fail
       refine(vo y (ae HPt) h4 (ae HZ5)).mono ?_
       rintro e w5⟨rfl,h5⟩
       go_wp2
       go_ret
       exact⟨jt (by rw[ae HF];rfl),by rw[ae HF];exact h5⟩
    ·have HN:=(ae zj2).1 (of_decide_eq_true (ae HZ).symm).1 (of_decide_eq_true (ae HZ).symm).2
     have HN':=hide HN
     clear zj2 HZ HN
     go_wp2
     go_ret
     exact⟨jt (by rw[ae HN'];rfl),by rw[ae HN'];exact(ae HM).drewN _⟩
   ·rw[ag hd]at HS1
    have hc0:0≤ahead m n:=by
     by_cases hh:ahead m n<0
     ·exact absurd (by rw[show ahead m n= -1 by omega];exact ae HNE) hd
     ·omega
    have hlt:=tt hc0
    obtain⟨zuc,zud⟩:=zl0 (x:=B*x+F (ahead m n)) (by have:0≤B*x:=Int.mul_nonneg (by omega) hx0;omega)
    have HC:=hide (show cap (B*x+F (ahead m n))=if 1114112<B*x+F (ahead m n)then 1114112 else B*x+F (ahead m n)from rfl)
    have hbx:B*x≤16*1114112:=Int.le_trans (Int.mul_le_mul_of_nonneg_right hB2 hx0) (by omega)
    have hbx0:0≤B*x:=Int.mul_nonneg (by omega) hx0
    have HS2:=hide ((ae HS1).symm.trans (ae HQ))
    clear HS1 HQ HR
    generalize ahead m n=c at*
    generalize F c=d at*
    have hd':0≤d:=by omega
    go_wp2_with fail
    refine(ae HAn).mono ?_
    rintro e w1⟨rfl,q2,rfl⟩
    go_wp2_with fail
    refine(ae HFn _).mono ?_
    rintro e w2⟨rfl,rfl⟩
    by_cases hbig:1114112<B*x+d
    ·rw[au hbig]at HC
     go_wp2
     go_roundw
     case rel=>exact⟨n+1,f',q+q2,1114112,by go_num,rfl,by simp,by omega,by omega,by omega,by rw[ae HC]at HS2;exact HS2,by omega,by omega⟩
     case measure=>simp[intOf];omega
    ·rw[ag hbig]at HC
     go_wp2
     go_roundw
     case rel=>exact⟨n+1,f',q+q2,B*x+d,by go_num,rfl,by simp,by omega,by omega,by omega,by rw[ae HC]at HS2;exact HS2,by omega,by omega⟩
     case measure=>simp[intOf];omega
end
section
variable{w0:World}{aj:Nat→Prop}{b:Nat}{m:MS}{ex:List Item}{w:World}{g:Bool}{k:Nat}
def Js:Array Value:=(oc.flatMap fun n=>[Value.string ⟨n.1.toArray⟩,Value.int .i64 n.2]).toArray
theorem zau:Js=#[.string ⟨#[104,101,108,108,105,112,59]⟩,.int .i64 8230,.string ⟨#[110,111,116,105,110,59]⟩,.int .i64 8713,.string ⟨#[110,98,115,112,59]⟩,.int .i64 160,.string ⟨#[99,111,112,121,59]⟩,.int .i64 169,.string ⟨#[113,117,111,116,59]⟩,.int .i64 34,.string ⟨#[97,112,111,115,59]⟩,.int .i64 39,.string ⟨#[110,98,115,112]⟩,.int .i64 160,.string ⟨#[99,111,112,121]⟩,.int .i64 169,.string ⟨#[113,117,111,116]⟩,.int .i64 34,.string ⟨#[97,109,112,59]⟩,.int .i64 38,.string ⟨#[65,77,80,59]⟩,.int .i64 38,.string ⟨#[110,111,116,59]⟩,.int .i64 172,.string ⟨#[97,109,112]⟩,.int .i64 38,.string ⟨#[65,77,80]⟩,.int .i64 38,.string ⟨#[110,111,116]⟩,.int .i64 172,.string ⟨#[108,116,59]⟩,.int .i64 60,.string ⟨#[76,84,59]⟩,.int .i64 60,.string ⟨#[103,116,59]⟩,.int .i64 62,.string ⟨#[108,116]⟩,.int .i64 60,.string ⟨#[76,84]⟩,.int .i64 60,.string ⟨#[103,116]⟩,.int .i64 62]:=rfl
theorem zcz:∀(l:List (Str×Int))(k:Nat)(n:Str×Int),l[k]? =some n→(l.flatMap fun n=>[Value.string ⟨n.1.toArray⟩,Value.int .i64 n.2])[k*2]? =some (.string ⟨n.1.toArray⟩)∧(l.flatMap fun n=>[Value.string ⟨n.1.toArray⟩,Value.int .i64 n.2])[k*2+1]? =some (.int .i64 n.2)
 |[],k,n,h=>by simp at h
 |a::l,0,n,h=>by simp at h;subst h;simp
 |a::l,k+1,n,h=>by
  have:=zcz l k n (by simpa using h)
  rw[show(k+1)*2=k*2+1+1 by omega]
  simpa using this
theorem zav(w:World):Calls prog 170 #[] w fun e w'=>e= .returned (.slice (some ⟨w.heap.size,0,none⟩) 21 21)∧w'=w.alloc (.cells Js 190):=by
 rw[zau]
 go_enter func170,ntmps170
 go_wp2
 go_ret
 exact⟨rfl,rfl⟩
end
end Go.Proofs.YtdfmapcnfficlaaGreatDoor.M

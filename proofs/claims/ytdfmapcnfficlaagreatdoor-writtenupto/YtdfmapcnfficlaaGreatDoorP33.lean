import Derived.Test.YtdfmapcnfficlaaGreatDoorP30
import Derived.Test.YtdfmapcnfficlaaGreatDoorP31
set_option linter.all false
set_option maxHeartbeats 1600000
set_option maxRecDepth 1000000
namespace Go.Proofs.YtdfmapcnfficlaaGreatDoor
open Go Go.RowKit
section
variable{w0:World}{aj:Nat→Prop}{b:Nat}{s:TS}{ex:List Item}{w:World}{R:n9}{c:Int}
theorem tw.refl(s:TS):tw s s:=⟨rfl,rfl,rfl,rfl,rfl,rfl⟩
theorem tw.trans{s t u:TS}(h:tw s t)(k:tw t u):tw s u:=
 ⟨k.1.trans h.1,k.2.1.trans h.2.1,k.2.2.1.trans h.2.2.1,k.2.2.2.1.trans h.2.2.2.1,k.2.2.2.2.1.trans h.2.2.2.2.1,k.2.2.2.2.2.trans h.2.2.2.2.2⟩
theorem zhv(B:Base w0 aj)(hc:Rn c)(g:Good s c)(h0:0≤s.place)(h1:s.place≤1099511627776)(hs:sz s+128≤lim):Pre w0 aj s c:=
 ⟨hc,B,fun h=>⟨g.num h,g.come h,g.val h,h0,h1⟩,g.Gq,g.decl,h0,h1,hs⟩
theorem zc8(hc:Rn c):∀(n:Nat)(s:TS),Good s c→0≤s.place→s.place≤1099511627776→sz s+128*n≤lim→rank s.state c<n→
  ((Base w0 aj→Runs w0 aj n s c)∧sz (jg n s c)≤sz s+128*n∧tw s (jg n s c)∧(c≠ -1→∀c',Good (jg n s c) c'))
 |0,s,g,h0,h1,hs,hr=>by omega
 |n+1,s,g,h0,h1,hs,hr=>by
  have hl:=zb g
  have hh:=vr (s:=s) (c:=c)
  have hz:=Yz g
  rw[jg]
  rcases hl with⟨e,hg⟩|⟨e,hg,hk⟩
  ·rw[au e]
   exact⟨fun B=>⟨zhv B hc g h0 h1 (by omega),g.st0,g.st1,.inl e⟩,by omega,hh,hg⟩
  ·rw[ag (by rw[e];decide)]
   have hp:(bm s c).2.place=s.place:=hh.2.2.2.2.2
   obtain⟨i1,i2,i3,i4⟩:=zc8 hc n (bm s c).2 hg (by omega) (by omega) (by omega) (by omega)
   exact⟨fun B=>⟨zhv B hc g h0 h1 (by omega),g.st0,g.st1,.inr ⟨e,i1 B⟩⟩,by omega,hh.trans i3,i4⟩
def Ck(s:TS):Prop:=(∀c,Good s c)∧0≤s.place
theorem Ck.head{s t:TS}(h:Ck s)(h1:t.state=s.state)(h2:t.base=s.base)(h3:t.declared=s.declared)(h4:t.jx=s.jx)(h5:t.di=s.di)(h6:t.ev=s.ev)(h7:t.tag=s.tag)(h8:t.place=s.place):Ck t:=by
 refine⟨fun c=> ?_,by rw[h8];exact h.2⟩
 have g:=h.1 c
 exact⟨by rw[h1];exact g.st0,by rw[h1];exact g.st1,by rw[h2];exact g.base,by rw[h3];exact g.decl,by unfold Ey;rw[h1,h4];exact g.num,by rw[h1,h5];exact g.come,by rw[h1,h6];exact g.back,by rw[h1,h6,h7];exact g.val,by rw[h1,h7];exact g.Gq,by rw[h1,h7];exact g.after,by rw[h1,h5];exact g.hash⟩
theorem zc9(hf:Ck s)(hc:Rn c)(h1:s.place≤1099511627776)(hs:sz s+512≤lim):
  (Base w0 aj→May w0 aj 4 s c)∧sz (jg 4 s c)≤sz s+512∧tw s (jg 4 s c)∧(c≠ -1→Ck (jg 4 s c)):=by
 obtain⟨i1,i2,i3,i4⟩:=zc8 (w0:=w0) (aj:=aj) hc 4 s (hf.1 c) hf.2 h1 (by omega) (by have:=M3 s.state c;omega)
 have hp:(jg 4 s c).place=s.place:=i3.2.2.2.2.2
 exact⟨fun B=>⟨i1 B,by rw[hp];exact hf.2,by rw[hp];exact h1⟩,by omega,i3,fun h=>⟨i4 h,by rw[hp];exact hf.2⟩⟩
theorem zbv(x:Str):0≤(fv x).1∧(fv x).1≤1114111:=by
 unfold fv
 split
 ·simp
 ·split
  ·simp
  ·unfold Lib.decodeGo
   split
   ·simp
   ·have:=Lib.rune_le ⟨x.toArray⟩ 0
    constructor
    ·exact Int.natCast_nonneg _
    ·omega
theorem Tb{c:Int}(hf:Ck s)(h0:0≤c)(h2:c≤1114111)(h1:s.place≤1099511627776)(hs:sz s+512≤lim):
  (¬(c=10∧s.behind=true)→Base w0 aj→May w0 aj 4 (gu s c) (if c=13 then 10 else c))∧sz (pass 4 s c)≤sz s+512∧Ck (pass 4 s c)∧(pass 4 s c).place≤s.place+1∧(pass 4 s c).begun=s.begun∧(pass 4 s c).bytes=s.bytes∧(pass 4 s c).limit=s.limit∧(pass 4 s c).closed=s.closed:=by
 have hf':Ck (gu s c):=hf.head rfl rfl rfl rfl rfl rfl rfl rfl
 have hz:sz (gu s c)=sz s:=rfl
 have hp:(gu s c).place=s.place:=rfl
 have key:∀d:Int,0≤d→d≤1114111→(Base w0 aj→May w0 aj 4 (gu s c) d)∧sz (ky 4 (gu s c) d)≤sz s+512∧Ck (ky 4 (gu s c) d)∧(ky 4 (gu s c) d).place≤s.place+1∧(ky 4 (gu s c) d).begun=s.begun∧(ky 4 (gu s c) d).bytes=s.bytes∧(ky 4 (gu s c) d).limit=s.limit∧(ky 4 (gu s c) d).closed=s.closed:=by
  intro d hd0 hd1
  obtain⟨i1,i2,i3,i4⟩:=zc9 (w0:=w0) (aj:=aj) hf' (c:=d) ⟨by omega,hd1⟩ h1 (by omega)
  have i5:=i4 (by omega)
  have hp':(jg 4 (gu s c) d).place=s.place:=i3.2.2.2.2.2
  refine⟨i1,i2,⟨fun c'=> ?_,?_⟩,?_,i3.1,i3.2.2.2.1,i3.2.2.1,i3.2.2.2.2.1⟩
  ·have g:=i5.1 c'
   exact⟨g.st0,g.st1,g.base,g.decl,g.num,g.come,g.back,g.val,g.Gq,g.after,g.hash⟩
  ·show 0≤(jg 4 (gu s c) d).place+1
   have:=hf.2
   omega
  ·show(jg 4 (gu s c) d).place+1≤s.place+1
   omega
 unfold pass
 by_cases h10:c=10∧s.behind=true
 ·rw[au h10]
  exact⟨fun h=>absurd h10 h,by omega,hf',by omega,rfl,rfl,rfl,rfl⟩
 ·rw[ag h10]
  by_cases me:c=13
  ·rw[au me,au me]
   have k:=key 10 (by decide) (by decide)
   exact⟨fun _=>k.1,k.2⟩
  ·rw[ag me,ag me]
   have k:=key c h0 h2
   exact⟨fun _=>k.1,k.2⟩
theorem Zb:∀(f:Nat)(s:TS)(r:Str),r.length≤f→Ck s→s.place+r.length≤1099511627776→sz s+512*r.length≤lim→
  (Base w0 aj→Reads w0 aj 4 f s r)∧sz (ni 4 f s r).1+512*(ni 4 f s r).2.length≤sz s+512*r.length∧Ck (ni 4 f s r).1∧(ni 4 f s r).1.place+(ni 4 f s r).2.length≤s.place+r.length∧(ni 4 f s r).1.begun=s.begun∧(ni 4 f s r).1.bytes=s.bytes∧(ni 4 f s r).1.limit=s.limit∧(ni 4 f s r).1.closed=s.closed∧(ni 4 f s r).2.length≤r.length∧(fv (ni 4 f s r).2).2=0
 |0,s,r,hl,hf,hp,hz=>by
  have hr:r=[]:=List.length_eq_zero_iff.1 (by omega)
  subst hr
  have h0:(fv []).2=0:=by have:=us [];simpa using this
  rw[ni]
  exact⟨fun _=>h0,cx _,hf,Int.le_refl _,rfl,rfl,rfl,rfl,cx _,h0⟩
 |f+1,s,r,hl,hf,hp,hz=>by
  rw[ni]
  by_cases h0:(fv r).2=0
  ·rw[au h0]
   exact⟨fun _=> .inl h0,cx _,hf,Int.le_refl _,rfl,rfl,rfl,rfl,cx _,h0⟩
  ·rw[ag h0]
   have hle:=us r
   have hd:(r.drop (fv r).2).length=r.length-(fv r).2:=fj
   obtain⟨c0,c1⟩:=zbv r
   obtain⟨i1,i2,i3,i4,i5,i6,i7,i8⟩:=Tb (w0:=w0) (aj:=aj) hf c0 c1 (by omega) (by omega)
   obtain⟨j1,j2,j3,j4,j5,j6,j7,j8,j9,j10⟩:=Zb f (pass 4 s (fv r).1) (r.drop (fv r).2) (by omega) i3 (by omega) (by omega)
   exact⟨fun B=> .inr ⟨h0,fun h=>i1 h B,j1 B⟩,by omega,j3,by omega,j5.trans i5,j6.trans i6,j7.trans i7,j8.trans i8,by omega,j10⟩
end
end Go.Proofs.YtdfmapcnfficlaaGreatDoor
namespace Go.Proofs.YtdfmapcnfficlaaGreatDoor
open Go.Proofs.Tryz
open Go Go.RowKit
section
variable{w0:World}{aj:Nat→Prop}{b:Nat}{s:TS}{ex:List Item}{w:World}{R:n9}{c:Int}
theorem ze8(h:Tk w0 aj b s ex w)(v:Bool):Tk w0 aj b {s with closed:=v} ex (w.setCell ⟨b,4,none⟩ (.bool v)):=by
 obtain⟨⟨R,hR⟩,hk⟩:=h
 exact⟨⟨R,hR.setCell 4 _ rfl rfl rfl rfl rfl⟩,hk.setCell _ _ hR.ownB⟩
theorem Zh(h:Tk w0 aj b s ex w)(v:Int):Tk w0 aj b {s with bytes:=v} ex (w.setCell ⟨b,3,none⟩ (.int .i64 v)):=by
 obtain⟨⟨R,hR⟩,hk⟩:=h
 exact⟨⟨R,hR.setCell 3 _ rfl rfl rfl rfl rfl⟩,hk.setCell _ _ hR.ownB⟩
theorem Hi(h:Tk w0 aj b s ex w):w.cell? ⟨b,3,none⟩=some (.int .i64 s.bytes):=by
 obtain⟨R,hR⟩:=h.reg
 have:=hR.1.cell 3
 exact this
theorem Hj(h:Tk w0 aj b s ex w):w.cell? ⟨b,2,none⟩=some (.int .i64 s.limit):=by
 obtain⟨R,hR⟩:=h.reg
 have:=hR.1.cell 2
 exact this
theorem Zi(h:Tk w0 aj b s ex w):w.cell? ⟨b,4,none⟩=some (.bool s.closed):=by
 obtain⟨R,hR⟩:=h.reg
 have:=hR.1.cell 4
 exact this
def qh(s:TS):TS:=flush (jg 4 (pq 4 {s with closed:=true}) (-1))
theorem A8(hf:Ck s)(h1:s.place+1≤1099511627776)(hs:sz s+512≤lim):
  (s.begun≠[]→Base w0 aj→May w0 aj 4 (gu {s with begun:=[]} 65533) 65533)∧Ck (pq 4 s)∧sz (pq 4 s)≤sz s+512∧(pq 4 s).place≤s.place+1∧(pq 4 s).bytes=s.bytes∧(pq 4 s).limit=s.limit∧(pq 4 s).closed=s.closed:=by
 have hz:sz {s with begun:=[]}≤sz s:=by simp[sz]
 have hf':Ck {s with begun:=[]}:=hf.head rfl rfl rfl rfl rfl rfl rfl rfl
 obtain⟨i1,i2,i3,i4,i5,i6,i7,i8⟩:=Tb (w0:=w0) (aj:=aj) (c:=65533) hf' (by decide) (by decide) (show s.place≤1099511627776 by omega) (by omega)
 refine⟨fun _=>i1 (by simp),?_⟩
 unfold pq
 split
 ·exact⟨hf,by omega,by omega,rfl,rfl,rfl⟩
 ·exact⟨i3,by omega,i4,i6,i7,i8⟩
theorem K7(B:Base w0 aj)(hf:Ck s)(h1:s.place+1≤1099511627776)(hs:sz s+2048≤lim)(h:Tk w0 aj b s ex w):
  Calls prog 35 #[.pointer (some ⟨b,0,none⟩)] w fun e w'=>e= .returned (.tuple #[])∧Tk w0 aj b (qh s) ex w':=by
 have hz:sz {s with closed:=true}=sz s:=rfl
 have hf':Ck {s with closed:=true}:=hf.head rfl rfl rfl rfl rfl rfl rfl rfl
 obtain⟨i1,i2,i3,i4,_⟩:=A8 (w0:=w0) (aj:=aj) hf' h1 (by omega)
 obtain⟨j1,j2,j3,_⟩:=zc9 (w0:=w0) (aj:=aj) i2 (c:= -1) ⟨by decide,by decide⟩ (by have:({s with closed:=true}:TS).place=s.place:=rfl;omega) (by omega)
 have c1:=Zi h
 have f1:=h.frozen
 have H1:=hide (fun W(hW:Tk w0 aj b {s with closed:=true} ex W)=>zhu (s:={s with closed:=true}) 4 (fun hh=>i1 hh B) hW)
 have H2:=hide (fun W(hW:Tk w0 aj b (pq 4 {s with closed:=true}) ex W)=>F7 (-1) 4 (j1 B).runs hW)
 have H3:=hide (fun W(hW:Tk w0 aj b (jg 4 (pq 4 {s with closed:=true}) (-1)) ex W)=>Gm hW (by unfold sz at j2 i3 hz hs;omega))
 have HT:=hide (ze8 h true)
 unfold qh
 unfold Fd at H1
 clear h B hf hf' i1 i2 i3 i4 j1 j2 j3 hz hs
 generalize pq 4 {s with closed:=true}=s1 at*
 generalize jg 4 s1 (-1)=s2 at*
 go_enter func35,ntmps35
 go_wp2_with fail
 refine(ae H1 _ (ae HT)).mono ?_
 rintro e w1⟨rfl,h1⟩
 go_wp2_with fail
 refine(ae H2 _ h1).mono ?_
 rintro e w2⟨rfl,h2⟩
 go_wp2_with fail
 refine(ae H3 _ h2).mono ?_
 rintro e w3⟨rfl,h3⟩
 go_wp2
 go_end0
 exact⟨rfl,h3⟩
def put(s:TS)(chunk:Str):TS:=read 4 (s.begun++chunk).length {s with bytes:=s.bytes+chunk.length} chunk
structure Open(s:TS)(n:Nat):Prop where
 fine:Ck s
 cl:s.closed=false
 by':s.bytes=n
 wait:(fv s.begun).2=0
 place:s.place+s.begun.length≤n
 size:sz {s with begun:=[]}+512*s.begun.length≤512*n
theorem Open.short{s:TS}{n:Nat}(h:Open s n):s.begun.length≤3:=V3 h.wait
theorem Open.small{s:TS}{n:Nat}(h:Open s n):sz s≤512*n+3:=by
 have:=h.size
 have:=h.short
 have e:sz s=sz {s with begun:=[]}+s.begun.length:=by simp[sz];omega
 omega
theorem Te(s:TS):sz s=sz {s with begun:=[]}+s.begun.length:=by simp[sz];omega
theorem Fh{n:Nat}(h:Open s n)(x:Str)(hn:n+x.length≤1073741824):
  (Base w0 aj→Reads w0 aj 4 (s.begun++x).length {s with bytes:=s.bytes+x.length} (s.begun++x))∧Open (put s x) (n+x.length)∧(put s x).limit=s.limit:=by
 have h3:=h.short
 have hf:Ck {s with bytes:=s.bytes+x.length}:=h.fine.head rfl rfl rfl rfl rfl rfl rfl rfl
 have hl:(s.begun++x).length=s.begun.length+x.length:=aq
 have hz:sz ({s with bytes:=s.bytes+x.length}:TS)=sz s:=rfl
 have hp:({s with bytes:=s.bytes+x.length}:TS).place=s.place:=rfl
 have hpl:=h.place
 have hsz:=h.small
 have hs1:=h.size
 have hs2:=Te s
 obtain⟨j1,j2,j3,j4,j5,j6,j7,j8,j9,j10⟩:=Zb (w0:=w0) (aj:=aj) (s.begun++x).length {s with bytes:=s.bytes+x.length} (s.begun++x) (cx _) hf (by omega) (by unfold lim;omega)
 refine⟨j1,?_,?_⟩
 ·unfold put read
  generalize hr:ni 4 (s.begun++x).length {s with bytes:=s.bytes+x.length} (s.begun++x)=r at*
  obtain⟨r1,r2⟩:=r
  dsimp only at*
  have hs3:=Te r1
  have j5':r1.begun=s.begun:=j5
  refine⟨j3.head rfl rfl rfl rfl rfl rfl rfl rfl,j8.trans h.cl,?_,j10,?_,?_⟩
  ·show r1.bytes=_
   rw[j6]
   show s.bytes+(x.length:Int)=_
   rw[h.by']
   omega
  ·show r1.place+r2.length≤_
   omega
  ·show sz {r1 with begun:=[]}+512*r2.length≤_
   rw[j5']at hs3
   omega
 ·exact j7
theorem ze9{n:Nat}(h:Open s n):Open (take s) n:=by
 refine⟨h.fine.head rfl rfl rfl rfl rfl rfl rfl rfl,h.cl,h.by',h.wait,h.place,?_⟩
 have:=h.size
 have e:sz {take s with begun:=[]}≤sz {s with begun:=[]}:=by simp[sz,take]
 show sz {take s with begun:=[]}+512*s.begun.length≤_
 omega
theorem I1(w0:World){n:Nat}(h:Open s n)(hn:n≤1073741824):(qh s).told.length≤512*n+1028:=by
 have hz:sz {s with closed:=true}=sz s:=rfl
 have hf':Ck {s with closed:=true}:=h.fine.head rfl rfl rfl rfl rfl rfl rfl rfl
 have hsz:=h.small
 have hpl:=h.place
 obtain⟨i1,i2,i3,i4,_⟩:=A8 (w0:=w0) (aj:=fun _=>False) hf' (by show s.place+1≤_;omega) (by unfold lim;omega)
 have hp:({s with closed:=true}:TS).place=s.place:=rfl
 obtain⟨j1,j2,j3,_⟩:=zc9 (w0:=w0) (aj:=fun _=>False) i2 (c:= -1) ⟨by decide,by decide⟩ (by omega) (by unfold lim;omega)
 have k1:=W2 (jg 4 (pq 4 {s with closed:=true}) (-1))
 have k2:(qh s).told.length≤sz (qh s):=by unfold sz;omega
 unfold qh at*
 omega
theorem zkh(h:Tk w0 aj b s ex w):Tk w0 aj b s (lr ⟨none,0⟩ []::ex) w:=by
 obtain⟨⟨R,hR⟩,hk⟩:=h
 exact⟨⟨R,hR.bare⟩,hk⟩
theorem Zj(l c:Int):Good {limit:=l} c:=by
 refine⟨?_,?_,.inl rfl,?_,(fun h=>by cases h),(fun h=>by cases h),(fun h=>by cases h),(fun h=>by cases h),(fun h=>by cases h),(fun h=>by cases h),(fun h=>by cases h)⟩
 ·show(0:Int)≤0
  decide
 ·show(0:Int)≤35
  decide
 ·show([]:Str).length≤8
  decide
theorem Open.new(l:Int):Open {limit:=l} 0:=by
 refine⟨⟨Zj l,by simp⟩,rfl,rfl,?_,by simp,by simp[sz,tp]⟩
 have:=us []
 simpa using this
def Co:n9:=⟨⟨none,0⟩,⟨none,0⟩,⟨none,0⟩,⟨none,0⟩,none,⟨none,0⟩,⟨none,0⟩,⟨none,0⟩,[],[],[]⟩
theorem zmj(w:World)(aj:Nat→Prop)(l:Int):Tk w aj w.heap.size {limit:=l} [] (w.alloc (.cells (cellsOf {limit:=l} Co) 84)):=by
 refine⟨⟨Co,heap_alloc_new w _,.inr (cx _),⟨?_,?_,?_⟩,trivial,?_,rfl,rfl,rfl⟩,?_⟩
 ·intro it hi
  simp only[fe,Co,ma,cw,jl,eh,cq,byteCells,gq,List.map_nil,List.mem_cons,List.not_mem_nil,or_false]at hi
  rcases hi with rfl|rfl|rfl|rfl|rfl|rfl|rfl<;>exact World.ownsRow_nil _ _ _ _
 ·exact(List.nodup_nil:([]:List Nat).Nodup)
 ·intro k hk
  cases(show k∈([]:List Nat)from hk)
 ·intro g hg
  cases hg
 ·have hm:=(More.refl w).alloc (.cells (cellsOf {limit:=l} Co) 84)
  exact⟨hm.os,hm.tape,hm.output,hm.size,fun k hk _=>hm.block k hk⟩
theorem zhy(l:Int)(w:World)(aj:Nat→Prop):
  Calls prog 16 #[.int .i64 l] w fun e w'=>e= .returned (.pointer (some ⟨w.heap.size,0,none⟩))∧Tk w aj w.heap.size {limit:=max l 0} [] w':=by
 have H:=hide (zmj w aj (max l 0))
 simp only[cellsOf,Co]at H
 go_enter func16,ntmps16
 go_wp2
 go_ret
 exact⟨rfl,ae H⟩
end
end Go.Proofs.YtdfmapcnfficlaaGreatDoor
namespace Go.Proofs.YtdfmapcnfficlaaGreatDoor
open Go Go.RowKit
def over(h:TS)(p:List Tok)(s:TS):TS:={s with begun:=h.begun,limit:=h.limit,bytes:=h.bytes,closed:=h.closed,told:=p++s.told}
section
variable{s:TS}{c:Int}(h:TS)(p:List Tok)
theorem Ke(s:TS):(over h p s).behind=s.behind:=rfl
theorem O8(s:TS):(over h p s).state=s.state:=rfl
theorem zda(s:TS):(over h p s).base=s.base:=rfl
theorem O9(s:TS):(over h p s).place=s.place:=rfl
theorem V1(s:TS):(over h p s).text=s.text:=rfl
theorem Kf(s:TS):(over h p s).tag=s.tag:=rfl
theorem Dj(s:TS):(over h p s).lastStart=s.lastStart:=rfl
theorem K2(s:TS):(over h p s).declared=s.declared:=rfl
theorem Pa(s:TS):(over h p s).comment=s.comment:=rfl
theorem Zc(s:TS):(over h p s).jw=s.jw:=rfl
theorem zhw(s:TS):(over h p s).odd=s.odd:=rfl
theorem Fe(s:TS):(over h p s).ev=s.ev:=rfl
theorem It(s:TS):(over h p s).di=s.di:=rfl
theorem zdb(s:TS):(over h p s).l9=s.l9:=rfl
theorem zdc(s:TS):(over h p s).nb=s.nb:=rfl
theorem V2(s:TS):(over h p s).jx=s.jx:=rfl
theorem zdd(s:TS)(q:Int):{over h p s with state:=q}=over h p {s with state:=q}:=rfl
theorem Ae(s:TS)(t:Tok):cj (over h p s) t=over h p (cj s t):=by simp[over,cj]
theorem Af(s:TS)(n:Str)(q:Int):bz (over h p s) n q=over h p (bz s n q):=Ae h p s _
theorem qv(s:TS)(n:Str):wrong (over h p s) n=over h p (wrong s n):=Ae h p s _
theorem Pb(s:TS):flush (over h p s)=over h p (flush s):=by
 unfold flush
 rw[V1]
 split
 ·rfl
 ·rw[Ae];rfl
theorem yy(s:TS)(t:Tok):tell (over h p s) t=over h p (tell s t):=by unfold tell;rw[Pb,Ae]
theorem r7(s:TS)(c:Int):dp (over h p s) c=over h p (dp s c):=by
 unfold dp
 split
 ·exact qv h p s _
 ·rfl
theorem Iu(s:TS)(l:Str):gd (over h p s) l=over h p (gd s l):=rfl
theorem ya(s:TS)(l:Str):bq (over h p s) l=over h p (bq s l):=rfl
theorem u9(s:TS):dt (over h p s)=over h p (dt s):=by unfold dt;rw[yy];rfl
theorem Dy(s:TS):dy (over h p s)=over h p (dy s):=by unfold dy;rw[qv,u9]
theorem Dz(s:TS):dx (over h p s)=over h p (dx s):=by unfold dx;rw[u9];rfl
theorem va(s:TS):dj (over h p s)=over h p (dj s):=by unfold dj;rw[yy];rfl
theorem Iv(s:TS):{over h p s with odd:=true}=over h p {s with odd:=true}:=rfl
theorem zv(s:TS):dz (over h p s)=over h p (dz s):=by unfold dz;rw[qv,Iv,va]
theorem zw(s:TS):d9 (over h p s)=over h p (d9 s):=by unfold d9;rw[va];rfl
theorem A7(s:TS)(c:Int):ko (over h p s) c=over h p (ko s c):=by unfold ko;rw[r7];rfl
theorem D0(s:TS)(c:Int):eg (over h p s) c=over h p (eg s c):=by unfold eg;rw[r7,ya]
theorem Iw(s:TS)(c:Int):ke (over h p s) c=over h p (ke s c):=by unfold ke;rw[r7];rfl
theorem K3(s:TS)(c:Int):lg (over h p s) c=over h p (lg s c):=by unfold lg;rw[r7];rfl
theorem Ff(s:TS)(c:Int):kr (over h p s) c=over h p (kr s c):=rfl
theorem zx(s:TS)(c:Int):fw (over h p s) c=over h p (fw s c):=rfl
theorem K4(s:TS):lp (over h p s)=over h p (lp s):=rfl
theorem Ix(s:TS):mg (over h p s)=over h p (mg s):=by
 unfold mg p6
 rw[show uq (over h p s)=uq s from rfl,Kf]
 split
 ·rw[qv];rfl
 ·rfl
theorem Dk(s:TS):iq (over h p s)=over h p (iq s):=by unfold iq;rw[qv];rfl
theorem G2(t:ByteArray):∀(f pos:Nat)(s:TS),lh t f pos (over h p s)=over h p (lh t f pos s)
 |0,_,s=>rfl
 |f+1,pos,s=>by
  rw[lh,lh]
  split
  ·rw[zx,G2 t f]
  ·rfl
theorem p9(s:TS)(l:Str):cn (over h p s) l=over h p (cn s l):=by
 unfold cn
 rw[Fe]
 split
 ·exact G2 h p _ _ _ _
 ·rfl
theorem Fg(s:TS)(q:Int):ji (over h p s) q=over h p (ji s q):=by
 unfold ji
 rw[V2]
 split
 ·exact p9 h p _ _
 ·rw[Af,p9]
theorem Sb(s:TS)(n:Str×Str)(x:Str)(nx:Int):ku (over h p s) n x nx=over h p (ku s n x nx):=by
 unfold ku
 rw[show vi (over h p s) nx=vi s nx from rfl,O9]
 split
 ·exact p9 h p _ _
 ·rw[Af,p9]
theorem Cl(s:TS):kc (over h p s)=over h p (kc s):=by unfold kc;rw[It,Fe,p9];rfl
theorem Cm(s:TS)(n:Str×Str)(c:Int):ln (over h p s) n c=over h p (ln s n c):=by unfold ln;rw[It,Fe,Sb,p9];rfl
theorem Tc(s:TS):rg (over h p s)=over h p (rg s):=rfl
theorem Sd(s:TS):startTag (over h p s)=over h p (startTag s):=by unfold startTag;rw[Tc,yy];rfl
theorem Zd(s:TS):ti (over h p s)=over h p (ti s):=by
 unfold ti
 rw[Kf,Tc]
 dsimp only
 by_cases h1:s.tag.cy=[]
 ·rw[au h1,au h1]
  by_cases h2:s.tag.closes=true
  ·rw[au h2,au h2,qv,yy];rfl
  ·rw[ag h2,ag h2,yy];rfl
 ·rw[ag h1,ag h1,qv]
  by_cases h2:s.tag.closes=true
  ·rw[au h2,au h2,qv,yy];rfl
  ·rw[ag h2,ag h2,yy];rfl
theorem Dl(s:TS):mh (over h p s)=over h p (mh s):=by
 unfold mh
 rw[Kf]
 split
 ·exact Sd h p s
 ·exact Zd h p s
theorem K5(s:TS):mx (over h p s)=over h p (mx s):=rfl
theorem Iy(s:TS)(l:Str):mv (over h p s) l=over h p (mv s l):=rfl
theorem G3(s:TS)(c:Int):ml (over h p s) c=over h p (ml s c):=rfl
theorem Cn(s:TS):du (over h p s)=over h p (du s):=rfl
theorem K6(s:TS)(g:zd0):{over h p s with tag:=g}=over h p {s with tag:=g}:=rfl
theorem OV:type_of% @Ke∧type_of% @O8∧type_of% @zda∧type_of% @O9∧type_of% @V1∧type_of% @Kf∧type_of% @Dj∧type_of% @K2∧type_of% @Pa∧type_of% @Zc∧type_of% @zhw∧type_of% @Fe∧type_of% @It∧type_of% @zdb∧type_of% @zdc∧type_of% @V2:=
 ⟨@Ke,@O8,@zda,@O9,@V1,@Kf,@Dj,@K2,@Pa,@Zc,@zhw,@Fe,@It,@zdb,@zdc,@V2⟩
theorem OW:type_of% @zdd∧type_of% @qv∧type_of% @Iu∧type_of% @Iv∧type_of% @Cn∧type_of% @K6∧type_of% @Iw∧type_of% @K3∧type_of% @Dk∧type_of% @Dl∧type_of% @Ff∧type_of% @K4∧type_of% @r7∧type_of% @Ix∧type_of% @zx∧type_of% @Af∧type_of% @ya∧type_of% @K5∧type_of% @u9∧type_of% @Dz∧type_of% @D0∧type_of% @Dy∧type_of% @zv∧type_of% @zw∧type_of% @A7∧type_of% @va∧type_of% @Cl∧type_of% @Iy∧type_of% @p9∧type_of% @Cm∧type_of% @Fg∧type_of% @G3:=
 ⟨@zdd,@qv,@Iu,@Iv,@Cn,@K6,@Iw,@K3,@Dk,@Dl,@Ff,@K4,@r7,@Ix,@zx,@Af,@ya,@K5,@u9,@Dz,@D0,@Dy,@zv,@zw,@A7,@va,@Cl,@Iy,@p9,@Cm,@Fg,@G3⟩
theorem Mt:jo (over h p s) c=((jo s c).1,over h p (jo s c).2):=by
 unfold jo jy
 rw[Kf,Dj]
 by_cases h1:br c=true
 ·rw[au h1,au h1];rfl
 ·rw[ag h1,ag h1]
  by_cases h2:(ba c=true∨c=47∨c=62)∧s.tag.name=s.lastStart
  ·rw[au h2,au h2];rfl
  ·rw[ag h2,ag h2];rfl
theorem Ze:lq (over h p s) c=((lq s c).1,over h p (lq s c).2):=by
 unfold lq
 by_cases h1:c=62
 ·rw[au h1,au h1]
  show(0,mh (over h p {s with tag:={s.tag with closes:=true}}))=_
  rw[Dl]
 ·rw[ag h1,ag h1]
  by_cases h2:c= -1
  ·rw[au h2,au h2,Dk]
  ·rw[ag h2,ag h2,qv];rfl
theorem Zf:ki (over h p s) c=((ki s c).1,over h p (ki s c).2):=by
 unfold ki
 by_cases h1:ba c=true
 ·rw[au h1,au h1]
 ·rw[ag h1,ag h1]
  by_cases h2:c=62
  ·rw[au h2,au h2,qv,Iv,zw]
  ·rw[ag h2,ag h2]
   by_cases h3:c= -1
   ·rw[au h3,au h3,zv]
   ·rw[ag h3,ag h3,A7];rfl
theorem zhx:∀f∈[kx,jz,l7,ju,kb,mw,jc,lu,ka,jf,iu,iz,jm,jn,f8,jr,lz,mo,kn,ik,jh,dk,iw,lf,ix,g8,iy,g9,np,jv,gp,lc,il],f (over h p s) c=((f s c).1,over h p (f s c).2):=by
 intro f hf
 simp only[List.mem_cons,List.not_mem_nil,or_false]at hf
 rcases hf with rfl|rfl|rfl|rfl|rfl|rfl|rfl|rfl|rfl|rfl|rfl|rfl|rfl|rfl|rfl|rfl|rfl|rfl|rfl|rfl|rfl|rfl|rfl|rfl|rfl|rfl|rfl|rfl|rfl|rfl|rfl|rfl|rfl
 all_goals first|unfold kx|unfold jz|unfold l7|unfold ju|unfold kb|unfold mw jy|unfold jc jy|unfold lu|unfold ka|unfold jf|unfold iu|unfold iz|unfold jm|unfold jn|unfold f8|unfold jr|unfold lz|unfold mo|unfold kn|unfold ik dk|unfold jh|unfold dk|unfold iw|unfold lf|unfold ix|unfold g8|unfold iy|unfold g9|unfold np|unfold jv|unfold gp|unfold lc|unfold il
 all_goals simp only[OW,OV]
 all_goals repeat' split
 all_goals first|rfl|(simp only[OW];done)|(simp only[OW];rfl)
theorem Se:bm (over h p s) c=((bm s c).1,over h p (bm s c).2):=by
 generalize h1:bm s c=r
 generalize h2:bm (over h p s) c=r2
 unfold bm at h1 h2
 rw[O8]at h2
 iterate 35
  rcases zad h1 with⟨e,h1⟩|⟨e,h1⟩
  ·rw[au e]at h2;subst h1 h2;first|with_reducible exact Mt h p|with_reducible exact Ze h p|with_reducible exact Zf h p|exact zhx h p _ (by simp)
  rw[ag e]at h2
 subst h1 h2;exact zhx h p _ (by simp)
theorem Hh:∀(n:Nat)(s:TS),jg n (over h p s) c=over h p (jg n s c)
 |0,s=>rfl
 |n+1,s=>by
  rw[jg,jg,Se]
  dsimp only
  split
  ·rfl
  ·exact Hh n _
theorem D1(n:Nat)(s:TS)(c:Int):ky n (over h p s) c=over h p (ky n s c):=by unfold ky;rw[Hh];rfl
theorem Pc(s:TS)(c:Int):gu (over h p s) c=over h p (gu s c):=rfl
theorem Td(n:Nat)(s:TS)(c:Int):pass n (over h p s) c=over h p (pass n s c):=by
 unfold pass
 rw[Ke,Pc]
 split
 ·rfl
 ·split
  ·exact D1 h p _ _ _
  ·exact D1 h p _ _ _
theorem Dm(n:Nat):∀(f:Nat)(s:TS)(r:Str),ni n f (over h p s) r=(over h p (ni n f s r).1,(ni n f s r).2)
 |0,s,r=>rfl
 |f+1,s,r=>by
  rw[ni,ni]
  split
  ·rfl
  ·rw[Td]
   exact Dm n f _ _
end
theorem wl(n f:Nat)(s:TS){r:Str}(h:(fv r).2=0):ni n f s r=(s,r):=by
 cases f with
 |zero=>rfl
 |succ f=>rw[ni,au h]
theorem Do(n:Nat):∀(k f g:Nat)(s:TS)(r:Str),r.length≤k→r.length≤f→r.length≤g→ni n f s r=ni n g s r
 |0,f,g,s,r,h1,h2,h3=>by
  have hx:r=[]:=List.length_eq_zero_iff.1 (by omega)
  subst hx
  have h0:(fv []).2=0:=by have:=us [];simpa using this
  rw[wl n f s h0,wl n g s h0]
 |k+1,f,g,s,r,h1,h2,h3=>by
  by_cases h0:(fv r).2=0
  ·rw[wl n f s h0,wl n g s h0]
  ·have hle:=us r
   cases f with
   |zero=>omega
   |succ f=>
    cases g with
    |zero=>omega
    |succ g=>
     rw[ni,ni,ag h0,ag h0]
     exact Do n k f g _ _ (by rw[fj];omega) (by rw[fj];omega) (by rw[fj];omega)
theorem Tf(n:Nat)(y:Str):∀(k f g l:Nat)(s:TS)(x:Str),x.length≤k→x.length≤f→x.length+y.length≤g→x.length+y.length≤l→ni n g s (x++y)=ni n l (ni n f s x).1 ((ni n f s x).2++y)
 |0,f,g,l,s,x,h1,h2,h3,h4=>by
  have hx:x=[]:=List.length_eq_zero_iff.1 (by omega)
  subst hx
  have h0:(fv []).2=0:=by have:=us [];simpa using this
  rw[wl n f s h0]
  exact Do n y.length g l s y (cx _) (by simpa using h3) (by simpa using h4)
 |k+1,f,g,l,s,x,h1,h2,h3,h4=>by
  by_cases h0:(fv x).2=0
  ·rw[wl n f s h0]
   exact Do n (x++y).length g l s (x++y) (cx _) (by simpa using h3) (by simpa using h4)
  ·have hle:=us x
   have hs:=Pe y h0
   cases f with
   |zero=>omega
   |succ f=>
    cases g with
    |zero=>omega
    |succ g=>
     rw[ni,ni,hs,ag h0,ag h0,List.drop_append_of_le_length hle]
     exact Tf n y k f g l _ _ (by rw[fj];omega) (by rw[fj];omega) (by rw[fj];omega) (by rw[fj];omega)
def ahead(p:List Tok)(s:TS):TS:={s with told:=p++s.told}
theorem Pf(p:List Tok)(s:TS):ahead p s=over s p s:=rfl
def zy(s:TS):TS:=tell (qh s) {kind:=6}
theorem Pg(h:TS)(p:List Tok)(n:Nat)(s:TS)(hb:h.begun=s.begun):pq n (over h p s)=over (if s.begun=[]then h else{h with begun:=[]}) p (pq n s):=by
 unfold pq
 rw[show(over h p s).begun=s.begun from hb]
 split
 ·rfl
 ·rw[show({over h p s with begun:=[]}:TS)=over {h with begun:=[]} p {s with begun:=[]}from rfl,Td]
theorem K8(h:TS)(p:List Tok)(s:TS)(hb:h.begun=s.begun):∃h',qh (over h p s)=over h' p (qh s)∧h'.limit=h.limit∧h'.bytes=h.bytes∧h'.closed=true:=by
 unfold qh
 rw[show({over h p s with closed:=true}:TS)=over {h with closed:=true} p {s with closed:=true}from rfl,Pg _ _ _ _ (by exact hb),Hh,Pb]
 refine⟨_,rfl,?_⟩
 split<;>exact⟨rfl,rfl,rfl⟩
theorem I2(p:List Tok)(s:TS):(qh (ahead p s)).told=p++(qh s).told:=by
 rw[Pf]
 obtain⟨h',e,_⟩:=K8 s p s rfl
 rw[e]
 rfl
theorem Bq(s:TS):(qh s).text=[]:=by
 unfold qh flush
 split
 ·assumption
 ·rfl
theorem Tg{s:TS}(h:s.text=[]):flush s=s:=by unfold flush;rw[au h]
theorem Fi(s:TS):(zy s).told=(qh s).told++[{kind:=6}]:=by
 unfold zy tell
 rw[Tg (Bq s)]
 rfl
theorem V4(p:List Tok)(s:TS):(zy (ahead p s)).told=p++(zy s).told:=by
 rw[Fi,Fi,I2,fm]
theorem put_eq(s:TS)(x:Str):put s x=over {s with begun:=(ni 4 (s.begun++x).length s (s.begun++x)).2,bytes:=s.bytes+x.length} [] (ni 4 (s.begun++x).length s (s.begun++x)).1:=by
 unfold put read
 rw[show({s with bytes:=s.bytes+x.length}:TS)=over {s with bytes:=s.bytes+x.length} [] s from rfl,Dm]
 rfl
theorem Ti(p:List Tok)(s:TS)(x:Str):put (ahead p s) x=ahead p (put s x):=by
 rw[put_eq,put_eq,Pf,Dm]
 simp[over,ahead]
theorem Ph(n:Nat):∀(f:Nat)(s:TS)(r:Str),(ni n f s r).2.length≤r.length
 |0,s,r=>cx _
 |f+1,s,r=>by
  rw[ni]
  split
  ·exact cx _
  ·have:=Ph n f (pass n s (fv r).1) (r.drop (fv r).2)
   rw[fj]at this
   omega
theorem zde(s:TS)(x y:Str):put (put s x) y=put s (x++y):=by
 rw[put_eq s x,put_eq s (x++y),←fm]
 generalize hA:ni 4 (s.begun++x).length s (s.begun++x)=A
 have hl:=Tf 4 y (s.begun++x).length (s.begun++x).length (s.begun++x++y).length (s.begun++x++y).length s (s.begun++x) (cx _) (cx _) (by simp only[aq];omega) (by simp only[aq];omega)
 rw[hA]at hl
 have hle:A.2.length≤(s.begun++x).length:=by rw[←hA];exact Ph 4 _ _ _
 have hfu:=Do 4 (A.2++y).length (s.begun++x++y).length (A.2++y).length A.1 (A.2++y) (cx _) (by simp only[aq]at*;omega) (cx _)
 rw[hl,hfu]
 generalize hD:ni 4 (A.2++y).length A.1 (A.2++y)=D
 generalize hP:over {s with begun:=A.2,bytes:=s.bytes+(x.length:Int)} [] A.1=P
 have hb:P.begun=A.2:=by rw[←hP];rfl
 have hb2:P.bytes=s.bytes+(x.length:Int):=by rw[←hP];rfl
 have hb3:P.limit=s.limit:=by rw[←hP];rfl
 have hb4:P.closed=s.closed:=by rw[←hP];rfl
 have hr:ni 4 (A.2++y).length P (A.2++y)=(over {s with begun:=A.2,bytes:=s.bytes+(x.length:Int)} [] D.1,D.2):=by rw[←hP,Dm,hD]
 rw[put_eq P y,hb,hr]
 simp only[over,hb2,hb3,hb4,List.nil_append,aq]
 rw[show s.bytes+(x.length:Int)+(y.length:Int)=s.bytes+((x.length+y.length:Nat):Int) by omega]
theorem zki(s:TS)(h:(fv s.begun).2=0):put s []=s:=by
 rw[put_eq,gq,wl 4 _ s h]
 simp[over]
end Go.Proofs.YtdfmapcnfficlaaGreatDoor
namespace Go.Proofs.YtdfmapcnfficlaaGreatDoor
open Go.Proofs.Tryz
open Go Go.RowKit
section
variable{w0:World}{aj:Nat→Prop}{b:Nat}{s:TS}{ex:List Item}{w:World}{R:n9}{c:Int}
theorem Tk.drewN(h:Tk w0 aj b s ex w)(n:Nat):Tk w0 aj b s ex (w.drewN n):=h.more ⟨rfl,rfl,rfl,cx _,fun _ _=>rfl⟩
theorem extract_all(x:Str):(⟨x.toArray⟩:ByteArray).extract 0 x.length=⟨x.toArray⟩:=by
 apply ByteArray.ext
 simp
theorem ziq{n:Nat}(ho:Open s n)(x:Str)(hn:n+x.length≤1073741824)(hl:(n+x.length:Int)≤s.limit)(hl2:s.limit≤9223372036854775807)(B:Base w0 aj)(h:Tk w0 aj b s ex w):
  Calls prog 17 #[.pointer (some ⟨b,0,none⟩),.string ⟨x.toArray⟩] w fun e w'=>e= .returned .nilIface∧Tk w0 aj b (put s x) ex w':=by
 obtain⟨hr,_,_⟩:=Fh (w0:=w0) (aj:=aj) ho x hn
 have hby:=ho.by'
 have c1:=Hj h
 have c2:=Hi h
 have f1:=h.frozen
 have HI:=hide (vt h)
 rw[ho.cl]at HI
 have hsh:=ho.short
 have H1:=hide (fun W(hW:Tk w0 aj b {s with bytes:=s.bytes+x.length} ex W)=>Ta (s:={s with bytes:=s.bytes+x.length}) 4 (s.begun++x).length x B (by show s.begun.length+x.length≤lim;unfold lim;omega) (hr B) hW)
 have HT:=hide (fun nq=>Zh (h.drewN nq) (s.bytes+x.length))
 have hmin:min (x.length:Int) (s.limit-s.bytes)=x.length:=by omega
 have hsl:∀W,(Instr.slice 9 (.string ⟨x.toArray⟩) none (some (.int .i64 (x.length:Int))) none).run prog W= .ok (.string ⟨x.toArray⟩) W:=fun W=>by
  rw[run_slice_string_to_if W 9 ⟨x.toArray⟩ .i64 x.length underlying9,au ⟨by omega,by simp[ByteArray.size]⟩,Int.toNat_natCast,extract_all]
 have hle:(x.length:Int)≤s.limit-s.bytes:=by omega
 unfold put
 unfold Fd at H1
 clear ho hr B h
 simp only[hby]at H1 HT c2 hmin hle⊢
 clear hby
 go_enter func17,ntmps17
 go_wp2_with fail
 refine(ae HI).mono ?_
 rintro e w1⟨rfl,rfl⟩
 go_wp2_with fail
 go_quiet (fail)
 go_wp2_with fail
 have HT1:=hide (ae HT nq)
 clear HT HI c1 c2
 try simp only[hmin]
 generalize(w1.drewN nq).setCell ⟨b,3,none⟩ (.int .i64 ((n:Int)+(x.length:Int)))=W at*
 have HT2:=hide (ae HT1).drew
 clear f1
 go_region_with(go_at_call 33;refine(ae H1 _ (by first|exact ae HT1|exact ae HT2)).mono ?_;rintro e w2⟨rfl,h2⟩)
 all_goals
  go_wp2
  go_ret
  exact⟨rfl,h2⟩
theorem zir{n:Nat}(ho:Open s n)(hn:n≤1073741824)(B:Base w0 aj)(h:Tk w0 aj b s ex w):
  Calls prog 22 #[.pointer (some ⟨b,0,none⟩)] w fun e w'=>e= .returned .nilIface∧Tk w0 aj b (zy s) ex w':=by
 have HI:=hide (vt h)
 rw[ho.cl]at HI
 have hsz:=ho.small
 have hpl:=ho.place
 have H1:=hide (K7 B ho.fine (by omega) (by unfold lim;omega) h)
 have hez:=I1 w0 ho hn
 have H2:=hide (fun W(hW:Tk w0 aj b (qh s) ex W)=>qq {kind:=6} ⟨none,0⟩ (zkh hW) (by unfold lim;omega:(qh s).told.length+1≤lim))
 simp only[fq]at H2
 unfold zy
 clear ho B h
 go_enter func22,ntmps22
 go_wp2_with fail
 refine(ae HI).mono ?_
 rintro e w1⟨rfl,rfl⟩
 go_wp2_with fail
 refine(ae H1).mono ?_
 rintro e w2⟨rfl,h2⟩
 go_wp2_with fail
 refine(ae H2 _ h2).mono ?_
 rintro e w3⟨rfl,h3⟩
 go_wp2
 go_ret
 exact⟨rfl,h3⟩
end
end Go.Proofs.YtdfmapcnfficlaaGreatDoor
namespace Go.Proofs.YtdfmapcnfficlaaGreatDoor
open Go Go.RowKit
theorem ve{w:World}{it:Item}(h:it.ok w){g:Nat}(hg:it.a=some ⟨g,0,none⟩):∀j u,it.xs[j]? =some u→w.cell? ⟨g,j,none⟩=some u:=by
 intro j u hu
 have:=World.ownsRow.cells h (g:=g) (by rw[hg];rfl) j u hu
 rw[show((⟨g,0,none⟩:Addr).add j)=⟨g,j,none⟩ by unfold Addr.add;split<;>simp_all]at this
 exact this
theorem Fx{w:World}{it:Item}(h:it.ok w)(hn:it.n≠0):∃g,it.a=some ⟨g,0,none⟩∧g<w.heap.size∧it.n≤it.cap:=by
 rcases h.2 with⟨_,h0⟩|⟨g,cap,cur,hv,_,hgg,hc,_⟩
 ·exact absurd h0 hn
 ·injection hv with h1 h2 h3
  exact⟨g,h1,(co.1 hgg).1,by rw[h3];exact hc⟩
theorem Wi{w:World}{it:Item}(h:it.ok w):it.n≤it.cap:=by
 rcases h.2 with⟨_,h0⟩|⟨g,cap,cur,hv,_,hgg,hc,_⟩
 ·omega
 ·injection hv with h1 h2 h3
  rw[h3];exact hc
theorem Wj{w:World}{it:Item}(h:it.ok w):it.n≤maxLen:=by
 rcases h.2 with⟨_,h0⟩|⟨g,cap,cur,hv,_,hgg,hc,hm,_⟩
 ·omega
 ·exact fz hc hm
theorem yf:∀(l:List Tok)(ta:List Sl)(k:Nat)(t:Tok)(x:Sl),l[k]? =some t→ta[k]? =some x→∀i,i<6→(eh l ta)[k*6+i]? =(fq t x)[i]?
 |[],_,k,t,x,h,_,_,_=>by simp at h
 |_::_,[],k,t,x,_,h,_,_=>by simp at h
 |a::l,y::ta,0,t,x,h,h',i,hi=>by
  have e1:a=t:=by simpa using h
  have e2:y=x:=by simpa using h'
  subst e1 e2
  rw[eh,List.getElem?_append_left (by simpa[fq]using hi)]
  simp
 |a::l,y::ta,k+1,t,x,h,h',i,hi=>by
  rw[eh,List.getElem?_append_right (by simp[fq];omega)]
  have:=yf l ta k t x (by simpa using h) (by simpa using h') i hi
  rw[←this]
  congr 1
  simp[fq]
  omega
theorem Ah:∀(l:List Tok)(ta:List Sl)(k:Nat)(t:Tok)(x:Sl),l[k]? =some t→ta[k]? =some x→lr x t.attrs∈cw l ta
 |[],_,k,t,x,h,_=>by simp at h
 |_::_,[],k,t,x,_,h=>by simp at h
 |a::l,y::ta,0,t,x,h,h'=>by
  have e1:a=t:=by simpa using h
  have e2:y=x:=by simpa using h'
  subst e1 e2
  simp[cw]
 |a::l,y::ta,k+1,t,x,h,h'=>by
  have:=Ah l ta k t x (by simpa using h) (by simpa using h')
  simp[cw,this]
theorem Tx{w:World}{x:Sl}{l:List Str}(h:(lr x l).ok w):Ko w x l:=by
 intro j y hy
 have hl:l.length≠0:=fun e=>by have:=List.length_eq_zero_iff.1 e;subst this;simp at hy
 obtain⟨g,hg,hlt,_⟩:=Fx h hl
 exact⟨g,hg,hlt,ve h hg j _ (by simp[lr,str,hy])⟩
theorem zis{w:World}{r:Sl}{l:List Tok}{ta:List Sl}(h:(rq r l ta).ok w)(h2:∀it∈cw l ta,it.ok w)(hl:ta.length=l.length):Z3 w (.slice r.a l.length r.cap) l:=by
 refine⟨r.a,r.cap,rfl,fun hne=> ?_,Wi h,fun t ht=> ?_⟩
 rotate_left
 ·obtain⟨k,hk,rfl⟩:=List.mem_iff_getElem.1 ht
  have hk':k<ta.length:=by rw[hl];exact hk
  exact Wj (h2 _ (Ah l ta k l[k] ta[k] (by simp[hk]) (by simp[hk'])))
 obtain⟨g,hg,hlt,_⟩:=Fx h (fun e=>hne (List.length_eq_zero_iff.1 e))
 refine⟨g,hg,fun k t hk=> ?_,hlt⟩
 have hk':k<ta.length:=by rw[hl];exact(cd.1 hk).1
 obtain⟨x,hx⟩:∃x,ta[k]? =some x:=⟨ta[k],by simp[hk']⟩
 have hc:∀i u,i<6→(fq t x)[i]? =some u→w.cell? ⟨g,k*6+i,none⟩=some u:=fun i u hi hu=>ve h hg _ _ ((yf l ta k t x hk hx i hi).trans hu)
 exact⟨x,hc 0 _ (by decide) rfl,hc 1 _ (by decide) rfl,hc 2 _ (by decide) rfl,hc 3 _ (by decide) rfl,hc 4 _ (by decide) rfl,hc 5 _ (by decide) rfl,Tx (h2 _ (Ah l ta k t x hk hx))⟩
section
variable{w0:World}{aj:Nat→Prop}{b:Nat}{s:TS}{ex:List Item}{w:World}
end
end Go.Proofs.YtdfmapcnfficlaaGreatDoor

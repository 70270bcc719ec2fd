import Derived.Test.YtdfmapcnfficlaaGreatDoorP13
import Derived.Test.YtdfmapcnfficlaaGreatDoorP14
import Derived.Test.YtdfmapcnfficlaaGreatDoorP15
import Derived.Test.YtdfmapcnfficlaaGreatDoorP16
import Derived.Test.YtdfmapcnfficlaaGreatDoorP17
set_option linter.all false
set_option maxHeartbeats 4000000
set_option maxRecDepth 1000000
namespace Go.Proofs.YtdfmapcnfficlaaGreatDoor.M
open Go.Proofs.Tryz
open Go Go.RowKit Go.Proofs.YtdfmapcnfficlaaGreatDoor
section
variable{w0:World}{aj:Nat→Prop}{b:Nat}{m:MS}{ex:List Item}{w:World}{g:Bool}{k:Nat}
theorem Rb(c:Int)(hc:Pt c)(hst:m.state=7)(h:Mz w0 aj b ex g 64 m w):
  Calls prog 183 #[.pointer (some ⟨b,0,none⟩),.int .i64 c] w fun e w'=>e= .returned (.tuple #[])∧Mk w0 aj b (less m c) ex w':=by
 cases hl:br c
 ·by_cases hb:ba c=true∨c=47∨c=62
  ·exact zen c hc hst hl hb h
  ·exact zeo c hc hst hl (az.2 fun e=>hb (.inl e)) (fun e=>hb (.inr (.inl e))) (fun e=>hb (.inr (.inr e))) h
 ·exact Xm c hc hst hl h
theorem zep(c:Int)(hc:Pt c)(q:Nat)(hst:m.state=q)(hq:q=0∨q=1∨q=2)(h:Mz w0 aj b ex g 64 m w):
  Calls prog 122 #[.pointer (some ⟨b,0,none⟩),.int .i64 c] w fun e w'=>e= .returned (.tuple #[])∧Mk w0 aj b (look m c) ex w':=by
 have c5:=h.c5
 rw[hst]at c5
 have HST:=hide hst
 rcases hq with rfl|rfl|rfl
 all_goals
  rw[show look m c=text m c by unfold look;simp[hst]]
  simp only[qc,Hw,bu,cv,dd,fb]at c5
  clear hst
  go_enter func122,ntmps122
  go_wp2_with fail
  first
   |refine(zel c hc (ae HST) h).mono ?_
   |refine(za1 c hc (ae HST) h).mono ?_
   |refine(zg0 c hc (ae HST) h).mono ?_
  rintro e w2⟨rfl,h2⟩
  go_wp2
  first|go_end0|((try simp only[Exit.inBlock,Exit.then]);refine ap (av rfl _ _ _) rfl ?_)
  exact⟨rfl,h2⟩
theorem za2(c:Int)(hc:Pt c)(q:Nat)(hst:m.state=q)(hq:q=3∨q=4)(h:Mz w0 aj b ex g 64 m w):
  Calls prog 122 #[.pointer (some ⟨b,0,none⟩),.int .i64 c] w fun e w'=>e= .returned (.tuple #[])∧Mk w0 aj b (look m c) ex w':=by
 have c5:=h.c5
 rw[hst]at c5
 have HST:=hide hst
 rcases hq with rfl|rfl
 all_goals
  rw[show look m c=opens m c by unfold look;simp[hst]]
  simp only[qc,Hw,bu,cv,dd,fb]at c5
  clear hst
  go_enter func122,ntmps122
  go_wp2_with fail
  first
   |refine(za0 c hc (ae HST) h).mono ?_
   |refine(Xr c hc (ae HST) h).mono ?_
  rintro e w2⟨rfl,h2⟩
  go_wp2
  first|go_end0|((try simp only[Exit.inBlock,Exit.then]);refine ap (av rfl _ _ _) rfl ?_)
  exact⟨rfl,h2⟩
theorem zeq(c:Int)(hc:Pt c)(q:Nat)(hst:m.state=q)(hq:q=5∨q=6∨q=7)(h:Mz w0 aj b ex g 64 m w):
  Calls prog 122 #[.pointer (some ⟨b,0,none⟩),.int .i64 c] w fun e w'=>e= .returned (.tuple #[])∧Mk w0 aj b (look m c) ex w':=by
 have c5:=h.c5
 rw[hst]at c5
 have HST:=hide hst
 rcases hq with rfl|rfl|rfl
 all_goals
  rw[show look m c=less m c by unfold look;simp[hst]]
  simp only[qc,Hw,bu,cv,dd,fb]at c5
  clear hst
  go_enter func122,ntmps122
  go_wp2_with fail
  first
   |refine(zem c hc (ae HST) h).mono ?_
   |refine(Nt c hc (ae HST) h).mono ?_
   |refine(Rb c hc (ae HST) h).mono ?_
  rintro e w2⟨rfl,h2⟩
  go_wp2
  first|go_end0|((try simp only[Exit.inBlock,Exit.then]);refine ap (av rfl _ _ _) rfl ?_)
  exact⟨rfl,h2⟩
theorem zg1(c:Int)(hc:Pt c)(q:Nat)(hst:m.state=q)(hq:q=8∨q=9∨q=10∨q=11)(h:Mz w0 aj b ex true 64 m w):
  Calls prog 122 #[.pointer (some ⟨b,0,none⟩),.int .i64 c] w fun e w'=>e= .returned (.tuple #[])∧Mk w0 aj b (look m c) ex w':=by
 have c5:=h.c5
 rw[hst]at c5
 have HST:=hide hst
 rcases hq with rfl|rfl|rfl|rfl
 all_goals
  rw[show look m c=tag m c by unfold look;simp[hst]]
  simp only[qc,Hw,bu,cv,dd,fb]at c5
  clear hst
  go_enter func122,ntmps122
  go_wp2_with fail
  first
   |refine(zj9 c hc (ae HST) h).mono ?_
   |refine(zgy c hc (ae HST) h).mono ?_
   |refine(zgz c hc (ae HST) h).mono ?_
   |refine(zek c hc (ae HST) h).mono ?_
  rintro e w2⟨rfl,h2⟩
  go_wp2
  first|go_end0|((try simp only[Exit.inBlock,Exit.then]);refine ap (av rfl _ _ _) rfl ?_)
  exact⟨rfl,h2⟩
theorem Xs(c:Int)(hc:Pt c)(q:Nat)(hst:m.state=q)(hq:q=12∨q=16∨q=17)(h:Mz w0 aj b ex true 64 m w):
  Calls prog 122 #[.pointer (some ⟨b,0,none⟩),.int .i64 c] w fun e w'=>e= .returned (.tuple #[])∧Mk w0 aj b (look m c) ex w':=by
 have c5:=h.c5
 rw[hst]at c5
 have HST:=hide hst
 rcases hq with rfl|rfl|rfl
 all_goals
  rw[show look m c=around m c by unfold look;simp[hst]]
  simp only[qc,Hw,bu,cv,dd,fb]at c5
  clear hst
  go_enter func122,ntmps122
  go_wp2_with fail
  first
   |refine(Ra c hc (ae HST) h).mono ?_
   |refine(Uv c hc (ae HST) h).mono ?_
   |refine(Xp c hc (ae HST) h).mono ?_
  rintro e w2⟨rfl,h2⟩
  go_wp2
  first|go_end0|((try simp only[Exit.inBlock,Exit.then]);refine ap (av rfl _ _ _) rfl ?_)
  exact⟨rfl,h2⟩
theorem za3(c:Int)(hc:Pt c)(q:Nat)(hst:m.state=q)(hq:q=13∨q=14∨q=15)(h:Mz w0 aj b ex true 64 m w):
  Calls prog 122 #[.pointer (some ⟨b,0,none⟩),.int .i64 c] w fun e w'=>e= .returned (.tuple #[])∧Mk w0 aj b (look m c) ex w':=by
 have c5:=h.c5
 rw[hst]at c5
 have HST:=hide hst
 rcases hq with rfl|rfl|rfl
 all_goals
  rw[show look m c=value m c by unfold look;simp[hst]]
  simp only[qc,Hw,bu,cv,dd,fb]at c5
  clear hst
  go_enter func122,ntmps122
  go_wp2_with fail
  first
   |refine(Uw c hc (ae HST) h).mono ?_
   |refine(Ux c hc (ae HST) h).mono ?_
   |refine(Xq c hc (ae HST) h).mono ?_
  rintro e w2⟨rfl,h2⟩
  go_wp2
  first|go_end0|((try simp only[Exit.inBlock,Exit.then]);refine ap (av rfl _ _ _) rfl ?_)
  exact⟨rfl,h2⟩
theorem Uz(c:Int)(hc:Pt c)(q:Nat)(hst:m.state=q)(hq:q=19∨q=22)(h:Mz w0 aj b ex g 64 m w):
  Calls prog 122 #[.pointer (some ⟨b,0,none⟩),.int .i64 c] w fun e w'=>e= .returned (.tuple #[])∧Mk w0 aj b (look m c) ex w':=by
 have c5:=h.c5
 rw[hst]at c5
 have HST:=hide hst
 rcases hq with rfl|rfl
 all_goals
  rw[show look m c=comment m c by unfold look;simp[hst]]
  simp only[qc,Hw,bu,cv,dd,fb]at c5
  clear hst
  go_enter func122,ntmps122
  go_wp2_with fail
  first
   |refine(Q8 c hc (ae HST) h).mono ?_
   |refine(Lx c hc (ae HST) h).mono ?_
  rintro e w2⟨rfl,h2⟩
  go_wp2
  first|go_end0|((try simp only[Exit.inBlock,Exit.then]);refine ap (av rfl _ _ _) rfl ?_)
  exact⟨rfl,h2⟩
theorem Xt(c:Int)(hc:Pt c)(q:Nat)(hst:m.state=q)(hq:q=20∨q=21∨q=23∨q=24∨q=25)(h:Mz w0 aj b ex g 64 m w):
  Calls prog 122 #[.pointer (some ⟨b,0,none⟩),.int .i64 c] w fun e w'=>e= .returned (.tuple #[])∧Mk w0 aj b (look m c) ex w':=by
 have c5:=h.c5
 rw[hst]at c5
 have HST:=hide hst
 rcases hq with rfl|rfl|rfl|rfl|rfl
 all_goals
  rw[show look m c=dashes m c by unfold look;simp[hst]]
  simp only[qc,Hw,bu,cv,dd,fb]at c5
  clear hst
  go_enter func122,ntmps122
  go_wp2_with fail
  first
   |refine(Uu c hc (ae HST) h).mono ?_
   |refine(Jt c hc (ae HST) h).mono ?_
   |refine(Xn c hc (ae HST) h).mono ?_
   |refine(Q9 c hc (ae HST) h).mono ?_
   |refine(Xo c hc (ae HST) h).mono ?_
  rintro e w2⟨rfl,h2⟩
  go_wp2
  first|go_end0|((try simp only[Exit.inBlock,Exit.then]);refine ap (av rfl _ _ _) rfl ?_)
  exact⟨rfl,h2⟩
theorem U0(c:Int)(hc:Pt c)(q:Nat)(hst:m.state=q)(hq:q=26∨q=27∨q=28∨q=29∨q=30)(h:Mz w0 aj b ex g 64 m w):
  Calls prog 122 #[.pointer (some ⟨b,0,none⟩),.int .i64 c] w fun e w'=>e= .returned (.tuple #[])∧Mk w0 aj b (look m c) ex w':=by
 have c5:=h.c5
 rw[hst]at c5
 have HST:=hide hst
 rcases hq with rfl|rfl|rfl|rfl|rfl
 all_goals
  rw[show look m c=js m c by unfold look;simp[hst]]
  simp only[qc,Hw,bu,cv,dd,fb]at c5
  clear hst
  go_enter func122,ntmps122
  go_wp2_with fail
  first
   |refine(Ly c hc (ae HST) h).mono ?_
   |refine(Uy c hc (ae HST) h).mono ?_
   |refine(Ju c hc (ae HST) h).mono ?_
   |refine(Lz c hc (ae HST) h).mono ?_
   |refine(Jv c hc (ae HST) h).mono ?_
  rintro e w2⟨rfl,h2⟩
  go_wp2
  first|go_end0|((try simp only[Exit.inBlock,Exit.then]);refine ap (av rfl _ _ _) rfl ?_)
  exact⟨rfl,h2⟩
end
section
variable{w0:World}{aj:Nat→Prop}{b:Nat}{m:MS}{ex:List Item}{w:World}{g:Bool}{k:Nat}
theorem za4(c:Int)(hc:Pt c)(hst:m.state=33)(h:Mz w0 aj b ex g 64 m w):
  Calls prog 122 #[.pointer (some ⟨b,0,none⟩),.int .i64 c] w fun e w'=>e= .returned (.tuple #[])∧Mk w0 aj b (look m c) ex w':=by
 have c5:=h.c5
 rw[hst]at c5
 simp only[qc,Hw,bu,cv,dd,fb]at c5
 have HL:=hide (fun W=>nr c W)
 have HD:=hide (fun W=>C3 c W)
 have c7:w.cell? ⟨b,7,none⟩=some (.string ⟨(qc m.back).toArray⟩):=by obtain⟨R,r⟩:=h.rep;exact r.cell 7
 have cf:=h.frozen
 cases hl:br c
 ·rw[hl]at HL
  cases hd:fc c
  ·rw[hd]at HD
   by_cases h59:c=59
   ·rw[show look m c=st (err m [117,110,107,110,111,119,110]) m.back by unfold look En;rw[ag (by omega),au hst,ag (by rw[hl,hd];decide),au h59]]
    have e59:(c==59)=true:=by simpa using h59
    clear h59 hst
    go_enter func122,ntmps122
    go_wp2_with fail
    refine(ae HL _).mono ?_
    rintro e w1⟨rfl,hw1⟩
    rw[hw1]
    clear hw1
    go_wp2_with fail
    refine(ae HD _).mono ?_
    rintro e w1⟨rfl,hw1⟩
    rw[hw1]
    clear hw1
    go_wp2_with fail
    refine(qe [117,110,107,110,111,119,110] h).mono ?_
    rintro e w3⟨rfl,h3⟩
    have HE:=hide (h3.rep.setState m.back)
    have k7:w3.cell? ⟨b,7,none⟩=some (.string ⟨(qc m.back).toArray⟩):=by obtain⟨R,r⟩:=h3.rep;exact r.cell 7
    obtain⟨v5,k5⟩:=h3.some 5 (by decide)
    have kf:=h3.frozen
    go_wp2
    first|go_end0|((try simp only[Exit.inBlock,Exit.then]);refine ap (av rfl _ _ _) rfl ?_)
    exact⟨rfl,ae HE⟩
   ·rw[show look m c=st m m.back by unfold look En;rw[ag (by omega),au hst,ag (by rw[hl,hd];decide),ag h59]]
    have e59:(c==59)=false:=by simpa using h59
    have HE:=hide (h.rep.setState m.back)
    clear h59 hst
    go_enter func122,ntmps122
    go_wp2_with fail
    refine(ae HL _).mono ?_
    rintro e w1⟨rfl,hw1⟩
    rw[hw1]
    clear hw1
    go_wp2_with fail
    refine(ae HD _).mono ?_
    rintro e w1⟨rfl,hw1⟩
    rw[hw1]
    clear hw1
    go_wp2
    first|go_end0|((try simp only[Exit.inBlock,Exit.then]);refine ap (av rfl _ _ _) rfl ?_)
    exact⟨rfl,ae HE⟩
  ·rw[show look m c=on (give m [c]) by unfold look;simp[hst,En,hl,hd]]
   rw[hd]at HD
   clear hst
   go_enter func122,ntmps122
   go_wp2_with fail
   refine(ae HL _).mono ?_
   rintro e w1⟨rfl,hw1⟩
   rw[hw1]
   clear hw1
   go_wp2_with fail
   refine(ae HD _).mono ?_
   rintro e w1⟨rfl,hw1⟩
   rw[hw1]
   clear hw1
   go_wp2_with fail
   refine(vo c hc h.rep (by have:=h.sz;omega)).mono ?_
   rintro e w3⟨rfl,h3⟩
   obtain⟨g1,g2,g3,g4,g5,g6,g7⟩:=sa m [c]
   have HE:=hide (Mk.setPos ((give m [c]).pos+1) (by rw[g1,g2];exact h.ps) h3)
   have k1:w3.cell? ⟨b,1,none⟩=some (.int .i64 (give m [c]).pos):=by obtain⟨R,r⟩:=h3;exact r.cell 1
   have kf:∀o,w3.frozen? ⟨b,o,none⟩=false:=fun o=>by obtain⟨R,r⟩:=h3;exact r.frozen o
   have hpb:((give m [c]).pos:Int)≤1099511627776:=by rw[g1];exact h.pos
   clear h3 g1 g2 g3 g4 g5 g6 g7
   go_wp2
   first|go_end0|((try simp only[Exit.inBlock,Exit.then]);refine ap (av rfl _ _ _) rfl ?_)
   exact⟨rfl,ae HE⟩
 ·rw[show look m c=on (give m [c]) by unfold look;simp[hst,En,hl]]
  rw[hl]at HL
  clear hst
  go_enter func122,ntmps122
  go_wp2_with fail
  refine(ae HL _).mono ?_
  rintro e w1⟨rfl,hw1⟩
  rw[hw1]
  clear hw1
  go_wp2_with fail
  refine(ae HD _).mono ?_
  rintro e w1⟨rfl,hw1⟩
  rw[hw1]
  clear hw1
  go_wp2_with fail
  refine(vo c hc h.rep (by have:=h.sz;omega)).mono ?_
  rintro e w3⟨rfl,h3⟩
  obtain⟨g1,g2,g3,g4,g5,g6,g7⟩:=sa m [c]
  have HE:=hide (Mk.setPos ((give m [c]).pos+1) (by rw[g1,g2];exact h.ps) h3)
  have k1:w3.cell? ⟨b,1,none⟩=some (.int .i64 (give m [c]).pos):=by obtain⟨R,r⟩:=h3;exact r.cell 1
  have kf:∀o,w3.frozen? ⟨b,o,none⟩=false:=fun o=>by obtain⟨R,r⟩:=h3;exact r.frozen o
  have hpb:((give m [c]).pos:Int)≤1099511627776:=by rw[g1];exact h.pos
  clear h3 g1 g2 g3 g4 g5 g6 g7
  go_wp2
  first|go_end0|((try simp only[Exit.inBlock,Exit.then]);refine ap (av rfl _ _ _) rfl ?_)
  exact⟨rfl,ae HE⟩
def za5(q:Nat):Prop:=q≤31∨q=33
theorem F7(c:Int)(hc:Pt c)(hq:za5 m.state)(h31:m.state≠31)(h18:m.state≠18)(hg:8≤m.state→m.state≤17→m.gone=false)(h:Mz w0 aj b ex false 64 m w):
  Calls prog 122 #[.pointer (some ⟨b,0,none⟩),.int .i64 c] w fun e w'=>e= .returned (.tuple #[])∧Mk w0 aj b (look m c) ex w':=by
 have ht:8≤m.state→m.state≤17→Mz w0 aj b ex true 64 m w:=fun a b=>⟨h.rep,h.sz,h.ps,fun _=>hg a b⟩
 unfold za5 at hq
 generalize hs:m.state=q at*
 by_cases a:q≤2;·exact zep c hc q hs (by omega) h
 by_cases a:q≤4;·exact za2 c hc q hs (by omega) h
 by_cases a:q≤7;·exact zeq c hc q hs (by omega) h
 by_cases a:q≤11;·exact zg1 c hc q hs (by omega) (ht (by omega) (by omega))
 by_cases a:q=12∨q=16∨q=17;·exact Xs c hc q hs a (ht (by omega) (by omega))
 by_cases a:q≤15;·exact za3 c hc q hs (by omega) (ht (by omega) (by omega))
 by_cases a:q=19∨q=22;·exact Uz c hc q hs a h
 by_cases a:q≤25;·exact Xt c hc q hs (by omega) h
 by_cases a:q≤30;·exact U0 c hc q hs (by omega) h
 exact za4 c hc (by omega) h
theorem zer(h:Mk w0 aj b m ex w)(hs:mj m+16≤lim)(hq:za5 m.state)(h31:m.state≠31)(h18:m.state≠18)(hg:m.state=10→m.gone=false):
  Calls prog 121 #[.pointer (some ⟨b,0,none⟩)] w fun e w'=>e= .returned (.tuple #[])∧Mk w0 aj b (ends m) ex w':=by
 unfold za5 at hq
 generalize he:m.state=q at*
 by_cases a:q≤2;·exact zef h hs q he (by omega)
 by_cases a:q=3;·exact zeh h hs q he a
 by_cases a:q=4;·exact zaz h hs q he a
 by_cases a:q=5;·exact zei h hs q he a
 by_cases a:q=6;·exact Ns h hs q he a
 by_cases a:q=7;·exact Q7 h hs q he a
 by_cases a:q=10;·exact zej h hs q he a (hg a)
 by_cases a:q≤17;·exact zgx h hs q he (by omega)
 by_cases a:q=19;·exact zay h hs q he a
 by_cases a:q≤25;·exact Us h hs q he (by omega)
 by_cases a:q≤29;·exact Ut h hs q he (by omega)
 by_cases a:q=30;·exact zeg h hs q he a
 exact zax h hs q he (by omega)
end
structure Fits(m:MS):Prop where
 ok:za5 m.state
 gn:8≤m.state→m.state≤17→m.gone=false
 sz:mj m+64≤lim
def Xu:Nat→MS→MS→Prop
 |0,m,m'=>Fits m∧step m=none∧m'=m
 |n+1,m,m'=>Fits m∧∃m1,step m=some m1∧Xu n m1 m'
theorem za6:∀{n:Nat}{m m':MS},Xu n m m'→Fits m
 |0,_,_,h=>h.1
 |_+1,_,_,h=>h.1
theorem zes{q:Nat}(h:za5 q)(h31:q≠31)(h18:q≠18):∃sx:ByteArray,(⟨(qc q).toArray⟩:ByteArray)=sx∧(sx.toList==[82,69,70])=false∧(sx.toList==[68,69,67,76])=false:=by
 have key:∀q:Fin 34,q.1≠31→q.1≠18→q.1≠32→qc q.1≠[82,69,70]∧qc q.1≠[68,69,67,76]:=by decide
 unfold za5 at h
 have k:=key ⟨q,by omega⟩ h31 h18 (by show q≠32;omega)
 refine⟨_,rfl,?_,?_⟩
 ·rw[ByteArray.toList_eq];simpa using k.1
 ·rw[ByteArray.toList_eq];simpa using k.2
section
variable{w0:World}{aj:Nat→Prop}{b:Nat}{m:MS}{ex:List Item}{w:World}{g:Bool}{k:Nat}
theorem zg2{n:Nat}(h:Mk w0 aj b m ex w)(ha:0≤ahead m n):Pt (ahead m n):=by
 obtain⟨R,r⟩:=h
 unfold ahead at*
 cases e:m.l[m.pos+n]? with
 |none=>rw[e]at ha;simp at ha
 |some c=>exact r.ok.l c (List.mem_of_getElem? e)
theorem Nu(h:Mk w0 aj b m ex w)(hs:mj m+32≤lim):
  Calls prog 119 #[.pointer (some ⟨b,0,none⟩)] w fun e w'=>e= .returned (.bool (reference m).isSome)∧Mk w0 aj b ((reference m).getD m) ex w':=by
 by_cases a:ahead m 0<0
 ·exact Et h (by omega) (.inl a)
 by_cases a2:ahead m 0=35
 ·exact Et h (by omega) (.inr (.inl a2))
 cases a3:br (ahead m 0)with
 |true=>exact Kv h hs (by omega) a2 (.inl a3)
 |false=>
  cases a4:fc (ahead m 0)with
  |true=>exact Kv h hs (by omega) a2 (.inr ⟨a3,a4⟩)
  |false=>exact Et h (by omega) (.inr (.inr ⟨a3,a4⟩))
theorem zg3(n:Nat)(m':MS)(hr:Xu n m m')(h:Mk w0 aj b m ex w):
  Calls prog 103 #[.pointer (some ⟨b,0,none⟩)] w fun e w'=>e= .returned (.tuple #[])∧Mk w0 aj b (final m') ex w':=by
 have HT:=hide h
 have HR:=hide hr
 clear h hr
 go_enter func103,ntmps103
 go_wp2
 go_loopg [] n (fun gf wx=>∃m1:MS,Xu gf m1 m'∧Mk w0 aj b m1 ex wx)
 case atStart=>exact⟨m,ae HR,ae HT⟩
 case round=>
  obtain⟨m1,hr1,h1⟩:=hrel
  clear HR HT
  have hf:=za6 hr1
  have HA:=hide (wb 0 h1 (by unfold lim;omega))
  by_cases h31:m1.state=31
  ·have c5:=fun q=>(h1.drewN q).c5 31 h31
   simp only[qc,Hw,bu,cv,dd,fb]at c5
   have HC:=hide (fun q=>Nu (h1.drewN q) (by have:=hf.sz;omega))
   have hst:step m1=reference m1:=by unfold step;rw[au h31]
   cases gk with
   |zero=>
    obtain⟨_,hn,rfl⟩:=hr1
    rw[hst]at hn
    rw[hn]at HC
    have HF:=hide (show final m'=m' by unfold final;rw[ag (by rw[h31];simp)])
    clear hst hn hf h1
    go_wp2_with(go_at_call 118;refine(ae HA).mono ?_;rintro e w2⟨rfl,q,rfl⟩;have c5:=c5 q)
    refine(ae HC q).mono ?_
    rintro e w3⟨rfl,h3⟩
    go_wp2
    first|go_end0|((try simp only[Exit.inBlock,Exit.then]);refine ap (av rfl _ _ _) rfl ?_)
    exact⟨rfl,by rw[ae HF];exact h3⟩
   |succ g'=>
    obtain⟨_,m2,hn,hr2⟩:=hr1
    rw[hst]at hn
    rw[hn]at HC
    have HR2:=hide hr2
    clear hst hn hf h1 hr2
    go_wp2_with(go_at_call 118;refine(ae HA).mono ?_;rintro e w2⟨rfl,q,rfl⟩;have c5:=c5 q)
    refine(ae HC q).mono ?_
    rintro e w3⟨rfl,h3⟩
    go_wp2
    go_roundg g'
    case measure=>omega
    case rel=>exact⟨_,ae HR2,h3⟩
  by_cases h18:m1.state=18
  ·have c5:=fun q=>(h1.drewN q).c5 18 h18
   simp only[qc,Hw,bu,cv,dd,fb]at c5
   have HC:=hide (fun q=>zee (h1.drewN q) (by have:=hf.sz;omega))
   have hst:step m1=decl m1:=by unfold step;rw[ag h31,au h18]
   cases gk with
   |zero=>
    obtain⟨_,hn,rfl⟩:=hr1
    rw[hst]at hn
    rw[hn]at HC
    have HF:=hide (show final m'=m' by unfold final;rw[ag (by rw[h18];simp)])
    clear hst hn hf h1
    go_wp2_with(go_at_call 118;refine(ae HA).mono ?_;rintro e w2⟨rfl,q,rfl⟩;have c5:=c5 q)
    refine(ae HC q).mono ?_
    rintro e w3⟨rfl,h3⟩
    go_wp2
    first|go_end0|((try simp only[Exit.inBlock,Exit.then]);refine ap (av rfl _ _ _) rfl ?_)
    exact⟨rfl,by rw[ae HF];exact h3⟩
   |succ g'=>
    obtain⟨_,m2,hn,hr2⟩:=hr1
    rw[hst]at hn
    rw[hn]at HC
    have HR2:=hide hr2
    clear hst hn hf h1 hr2
    go_wp2_with(go_at_call 118;refine(ae HA).mono ?_;rintro e w2⟨rfl,q,rfl⟩;have c5:=c5 q)
    refine(ae HC q).mono ?_
    rintro e w3⟨rfl,h3⟩
    go_wp2
    go_roundg g'
    case measure=>omega
    case rel=>exact⟨_,ae HR2,h3⟩
  obtain⟨sx,hsx,hn1,hn2⟩:=zes hf.ok h31 h18
  have c5:=fun q=>(h1.drewN q).c5 _ rfl
  rw[hsx]at c5
  have c2:∀q,(wr.drewN q).cell? ⟨b,2,none⟩=some (.bool m1.whole):=fun q=>by obtain⟨R,r⟩:=h1.drewN q;exact r.cell 2
  clear hsx
  by_cases ha:ahead m1 0<0
  ·have hst:step m1=none:=by unfold step;rw[ag h31,ag h18,au ha]
   cases gk with
   |succ g'=>obtain⟨_,m2,hn,_⟩:=hr1;rw[hst]at hn;exact absurd hn (by simp)
   |zero=>
    obtain⟨_,_,rfl⟩:=hr1
    have HC:=hide (fun q=>zer (h1.drewN q) (by have:=hf.sz;omega) hf.ok h31 h18 (fun e=>hf.gn (by omega) (by omega)))
    have HM:=hide (fun q=>h1.drewN q)
    cases hw:m'.whole with
    |true=>
     have HF:=hide (show final m'=ends m' by unfold final;rw[au ⟨h31,h18,hw⟩])
     rw[hw]at c2
     clear hst hf h1 h31 h18 hw
     go_wp2_with(go_at_call 118;refine(ae HA).mono ?_;rintro e w2⟨rfl,q,rfl⟩;have c5:=c5 q;have c2:=c2 q)
     refine(ae HC q).mono ?_
     rintro e w3⟨rfl,h3⟩
     go_wp2
     first|go_end0|((try simp only[Exit.inBlock,Exit.then]);refine ap (av rfl _ _ _) rfl ?_)
     exact⟨rfl,by rw[ae HF];exact h3⟩
    |false=>
     have HF:=hide (show final m'=m' by unfold final;rw[ag (by rw[hw];simp)])
     rw[hw]at c2
     clear hst hf h1 h31 h18 hw
     go_wp2_with(go_at_call 118;refine(ae HA).mono ?_;rintro e w2⟨rfl,q,rfl⟩;have c5:=c5 q;have c2:=c2 q)
     first|go_end0|((try simp only[Exit.inBlock,Exit.then]);refine ap (av rfl _ _ _) rfl ?_)
     exact⟨rfl,by rw[ae HF];exact ae HM q⟩
  ·have hst:step m1=some (look m1 (ahead m1 0)):=by unfold step;rw[ag h31,ag h18,ag ha]
   have ha0:0≤ahead m1 0:=by omega
   cases gk with
   |zero=>obtain⟨_,hn,_⟩:=hr1;rw[hst]at hn;exact absurd hn (by simp)
   |succ g'=>
    obtain⟨_,m2,hn,hr2⟩:=hr1
    rw[hst]at hn
    obtain rfl:=Option.some.inj hn
    have hpt:Pt (ahead m1 0):=zg2 h1 ha0
    have HC:=hide (fun q=>F7 (ahead m1 0) hpt hf.ok h31 h18 hf.gn ⟨h1.drewN q,hf.sz,(by have:=tt ha0;omega),fun e=>absurd e (by simp)⟩)
    have HR2:=hide hr2
    clear hst hn hf h1 hr2 h31 h18 hpt
    go_wp2_with(go_at_call 118;refine(ae HA).mono ?_;rintro e w2⟨rfl,q,rfl⟩;have c5:=c5 q)
    refine(ae HC q).mono ?_
    rintro e w3⟨rfl,h3⟩
    go_wp2
    go_roundg g'
    case measure=>omega
    case rel=>exact⟨_,ae HR2,h3⟩
end
def nh(c:Int):Int×Int×Int:=
 if c<128 then(1,0,0)else if c<194 then(0,0,0)else if c≤223 then(2,128,191)else if c=224 then(3,160,191)
 else if c=237 then(3,128,159)else if c≤239 then(3,128,191)else if c=240 then(4,144,191)else if c=244 then(4,128,143)
 else if c≤243 then(4,128,191)else(0,0,0)
theorem za7(c:Int)(w:World)(h0:0≤c)(h1:c≤255):
  Calls prog 165 #[.int .i64 c] w fun e w'=>e= .returned (.tuple #[.int .i64 (nh c).1,.int .i64 (nh c).2.1,.int .i64 (nh c).2.2])∧w'=w:=by
 have H:c<128∨(128≤c∧c<194)∨(194≤c∧c≤223)∨c=224∨(225≤c∧c≤236)∨c=237∨(238≤c∧c≤239)∨c=240∨(241≤c∧c≤243)∨c=244∨245≤c:=by omega
 rcases H with h|⟨h,h'⟩|⟨h,h'⟩|rfl|⟨h,h'⟩|rfl|⟨h,h'⟩|rfl|⟨h,h'⟩|rfl|h
 ·rw[show nh c=(1,0,0) by unfold nh;rw[au h]]
  go_enter func165,ntmps165
  go_wp2
  (try simp only[Exit.inBlock,Exit.then]);refine ap (results_tmp3 rfl _ _ _) rfl ?_
  exact⟨rfl,rfl⟩
 ·rw[show nh c=(0,0,0) by unfold nh;rw[ag (by omega),au h']]
  go_enter func165,ntmps165
  go_wp2
  (try simp only[Exit.inBlock,Exit.then]);refine ap (results_tmp3 rfl _ _ _) rfl ?_
  exact⟨rfl,rfl⟩
 ·rw[show nh c=(2,128,191) by unfold nh;rw[ag (by omega),ag (by omega),au h']]
  go_enter func165,ntmps165
  go_wp2
  (try simp only[Exit.inBlock,Exit.then]);refine ap (results_tmp3 rfl _ _ _) rfl ?_
  exact⟨rfl,rfl⟩
 ·rw[show nh 224=(3,160,191) by decide]
  go_enter func165,ntmps165
  go_wp2
  (try simp only[Exit.inBlock,Exit.then]);refine ap (results_tmp3 rfl _ _ _) rfl ?_
  exact⟨rfl,rfl⟩
 ·rw[show nh c=(3,128,191) by unfold nh;rw[ag (by omega),ag (by omega),ag (by omega),ag (by omega),ag (by omega),au (by omega)]]
  go_enter func165,ntmps165
  go_wp2
  (try simp only[Exit.inBlock,Exit.then]);refine ap (results_tmp3 rfl _ _ _) rfl ?_
  exact⟨rfl,rfl⟩
 ·rw[show nh 237=(3,128,159) by decide]
  go_enter func165,ntmps165
  go_wp2
  (try simp only[Exit.inBlock,Exit.then]);refine ap (results_tmp3 rfl _ _ _) rfl ?_
  exact⟨rfl,rfl⟩
 ·rw[show nh c=(3,128,191) by unfold nh;rw[ag (by omega),ag (by omega),ag (by omega),ag (by omega),ag (by omega),au (by omega)]]
  go_enter func165,ntmps165
  go_wp2
  (try simp only[Exit.inBlock,Exit.then]);refine ap (results_tmp3 rfl _ _ _) rfl ?_
  exact⟨rfl,rfl⟩
 ·rw[show nh 240=(4,144,191) by decide]
  go_enter func165,ntmps165
  go_wp2
  (try simp only[Exit.inBlock,Exit.then]);refine ap (results_tmp3 rfl _ _ _) rfl ?_
  exact⟨rfl,rfl⟩
 ·rw[show nh c=(4,128,191) by unfold nh;rw[ag (by omega),ag (by omega),ag (by omega),ag (by omega),ag (by omega),ag (by omega),ag (by omega),ag (by omega),au (by omega)]]
  go_enter func165,ntmps165
  go_wp2
  (try simp only[Exit.inBlock,Exit.then]);refine ap (results_tmp3 rfl _ _ _) rfl ?_
  exact⟨rfl,rfl⟩
 ·rw[show nh 244=(4,128,143) by decide]
  go_enter func165,ntmps165
  go_wp2
  (try simp only[Exit.inBlock,Exit.then]);refine ap (results_tmp3 rfl _ _ _) rfl ?_
  exact⟨rfl,rfl⟩
 ·rw[show nh c=(0,0,0) by unfold nh;rw[ag (by omega),ag (by omega),ag (by omega),ag (by omega),ag (by omega),ag (by omega),ag (by omega),ag (by omega),ag (by omega)]]
  go_enter func165,ntmps165
  go_wp2
  (try simp only[Exit.inBlock,Exit.then]);refine ap (results_tmp3 rfl _ _ _) rfl ?_
  exact⟨rfl,rfl⟩
def qz(t:ByteArray)(k:Nat):Int:=if h:k<t.size then((t[k]'h).toNat:Nat)else 0
def rf(t:ByteArray)(i n:Nat):Nat→Nat→Int→Int→Int→Int×Int×Bool
 |0,k,c,lo,hi=>(c,n,true)
 |f+1,k,c,lo,hi=>
  if t.size≤i+k then(65533,k,false)
  else if qz t (i+k)<lo∨hi<qz t (i+k)then(65533,k,true)
  else rf t i n f (k+1) (64*c+qz t (i+k)-128) 128 191
def Jw(n:Int)(c:Int):Int:=if n=2 then c-192 else if n=3 then c-224 else if n=4 then c-240 else c
def zf(t:ByteArray)(i:Nat):Int×Int×Bool:=
 if(nh (qz t i)).1=0 then(65533,1,true)
 else rf t i (nh (qz t i)).1.toNat ((nh (qz t i)).1.toNat-1) 1 (Jw (nh (qz t i)).1 (qz t i)) (nh (qz t i)).2.1 (nh (qz t i)).2.2
theorem Xv(c:Int)(h0:0≤c)(h1:c≤255):nh c=(0,0,0)∨∃n lo hi,nh c=(n,lo,hi)∧((n=1∧c<128)∨(n=2∧194≤c∧c≤223)∨(n=3∧224≤c∧c≤239)∨(n=4∧240≤c∧c≤244))∧(n=1∨128≤lo)∧0≤lo∧lo≤191∧0≤hi∧hi≤191:=by
 unfold nh
 repeat' split
 all_goals first|exact .inl rfl|(refine .inr ⟨_,_,_,rfl,?_⟩;omega)
theorem Nv(t:ByteArray)(k:Nat):0≤qz t k∧qz t k≤255:=by
 unfold qz
 split
 ·have:=(t[k]).toNat_lt;omega
 ·omega
theorem zg4(t:ByteArray)(i:Nat)(w:World)(hi:i<t.size)(ht:t.size≤lim):
  Calls prog 117 #[.string t,.int .i64 i] w fun e w'=>e= .returned (.tuple #[.int .i64 (zf t i).1,.int .i64 (zf t i).2.1,.bool (zf t i).2.2])∧w'=w:=by
 have hb0:0≤qz t i:=by unfold qz;split<;>omega
 have hb1:qz t i≤255:=by unfold qz;split;(have:=(t[i]'hi).toNat_lt;omega);omega
 have hbe:(((t[i]'hi).toNat:Nat):Int)=qz t i:=by unfold qz;rw[dif_pos hi]
 have HF:=hide (fun W=>za7 (qz t i) W hb0 hb1)
 have hO:zf t i=zf t i:=rfl
 conv at hO=>rhs;unfold zf
 have hts:t.size≤1099511627776:=by unfold lim at ht;omega
 go_enter func117,ntmps117
 go_wp2_with fail
 refine(ae HF _).mono ?_
 rintro e w2⟨rfl,hw2⟩
 rw[hw2]
 clear hw2 HF
 rcases Xv _ hb0 hb1 with hf|⟨n,lo,hi',hf,hn,hlo,hl0,hl1,hh0,hh1⟩
 ·rw[hf]at hO⊢
  rw[au rfl]at hO
  have HO:=hide hO
  clear hO hf
  go_wp2
  (try simp only[Exit.inBlock,Exit.then]);refine ap (results_tmp3 rfl _ _ _) rfl ?_
  exact⟨by rw[ae HO];rfl,rfl⟩
 ·rw[hf]at hO⊢
  generalize qz t i=c at*
  have HO:=hide hO
  clear hO hf
  rcases hn with⟨rfl,hc⟩|⟨rfl,hc,hc'⟩|⟨rfl,hc,hc'⟩|⟨rfl,hc,hc'⟩
  ·have HP:Hid (rf t i 1 (1-1) 1 c lo hi'=zf t i):=hide (by rw[ae HO];rfl)
   clear HO
   go_wp2
   go_loopw [7,9,10,11] (fun vc vl vh vk wx=>∃(C L H:Int)(k:Nat),1≤k∧k≤1∧vc= .int .i64 C∧vl= .int .i64 L∧vh= .int .i64 H∧vk= .int .i64 k∧0≤C∧(k=1∧C≤127∨k=2∧C≤8191∨k=3∧C≤524287∨k=4∧C≤33554431)∧(1=1∨128≤L)∧0≤L∧L≤191∧0≤H∧H≤191∧Hid (rf t i 1 (1-k) k C L H=zf t i)∧wx=w) (fun _ _ _ vk _=>1-(intOf vk).toNat)
   case atStart=>exact⟨_,_,_,1,by omega,by omega,rfl,rfl,rfl,rfl,by omega,by omega,by omega,by omega,by omega,by omega,by omega,HP,rfl⟩
   case round=>
    obtain⟨C,L,H,k,hk1,hk2,rfl,rfl,rfl,rfl,hC0,hC1,hL,hL0,hL1,hH0,hH1,HQ,rfl⟩:=hrel
    clear HP hlo hl0 hl1 hh0 hh1
    by_cases hlt:k<1
    ·exact absurd hlt (by omega)
    ·have hke:k=1:=by omega
     subst hke
     rw[show 1-1=0 from rfl,rf]at HQ
     go_wp2
     (try simp only[Exit.inBlock,Exit.then]);refine ap (results_tmp3 rfl _ _ _) rfl ?_
     exact⟨by rw[←ae HQ];rfl,rfl⟩
  ·have HP:Hid (rf t i 2 (2-1) 1 (c-192) lo hi'=zf t i):=hide (by rw[ae HO];rfl)
   clear HO
   go_wp2
   go_loopw [7,9,10,11] (fun vc vl vh vk wx=>∃(C L H:Int)(k:Nat),1≤k∧k≤2∧vc= .int .i64 C∧vl= .int .i64 L∧vh= .int .i64 H∧vk= .int .i64 k∧0≤C∧(k=1∧C≤127∨k=2∧C≤8191∨k=3∧C≤524287∨k=4∧C≤33554431)∧(2=1∨128≤L)∧0≤L∧L≤191∧0≤H∧H≤191∧Hid (rf t i 2 (2-k) k C L H=zf t i)∧wx=w) (fun _ _ _ vk _=>2-(intOf vk).toNat)
   case atStart=>exact⟨_,_,_,1,by omega,by omega,rfl,rfl,rfl,rfl,by omega,by omega,by omega,by omega,by omega,by omega,by omega,HP,rfl⟩
   case round=>
    obtain⟨C,L,H,k,hk1,hk2,rfl,rfl,rfl,rfl,hC0,hC1,hL,hL0,hL1,hH0,hH1,HQ,rfl⟩:=hrel
    clear HP hlo hl0 hl1 hh0 hh1
    by_cases hlt:k<2
    ·obtain⟨f,hf⟩:∃f,2-k=f+1:=⟨2-k-1,by omega⟩
     rw[hf,rf]at HQ
     by_cases hsz:t.size≤i+k
     ·rw[au hsz]at HQ
      go_wp2
      (try simp only[Exit.inBlock,Exit.then]);refine ap (results_tmp3 rfl _ _ _) rfl ?_
      exact⟨by rw[←ae HQ];rfl,rfl⟩
     ·rw[ag hsz]at HQ
      have hik:i+k<t.size:=by omega
      have hd:=Nv t (i+k)
      have hde:(((t[i+k]'hik).toNat:Nat):Int)=qz t (i+k):=by unfold qz;rw[dif_pos hik]
      generalize qz t (i+k)=d at*
      by_cases hbad:d<L∨H<d
      ·rw[au hbad]at HQ
       rcases(by omega:d<L∨(L≤d∧H<d))with hx|⟨hx,hx'⟩
       all_goals
        clear hbad
        go_wp2
        (try simp only[Exit.inBlock,Exit.then]);refine ap (results_tmp3 rfl _ _ _) rfl ?_
        exact⟨by rw[←ae HQ];rfl,rfl⟩
      ·rw[ag hbad]at HQ
       have hx:L≤d:=by omega
       have hx':d≤H:=by omega
       have hff:f=2-(k+1):=by omega
       rw[hff]at HQ
       clear hbad hf hff
       go_wp2
       go_roundw
       case rel=>exact⟨64*C+d-128,128,191,k+1,by omega,by omega,by go_num,rfl,rfl,by go_num,by omega,by omega,by omega,by omega,by omega,by omega,by omega,HQ,by simp⟩
       case measure=>simp[intOf];omega
    ·have hke:k=2:=by omega
     subst hke
     rw[show 2-2=0 from rfl,rf]at HQ
     go_wp2
     (try simp only[Exit.inBlock,Exit.then]);refine ap (results_tmp3 rfl _ _ _) rfl ?_
     exact⟨by rw[←ae HQ];rfl,rfl⟩
  ·have HP:Hid (rf t i 3 (3-1) 1 (c-224) lo hi'=zf t i):=hide (by rw[ae HO];rfl)
   clear HO
   go_wp2
   go_loopw [7,9,10,11] (fun vc vl vh vk wx=>∃(C L H:Int)(k:Nat),1≤k∧k≤3∧vc= .int .i64 C∧vl= .int .i64 L∧vh= .int .i64 H∧vk= .int .i64 k∧0≤C∧(k=1∧C≤127∨k=2∧C≤8191∨k=3∧C≤524287∨k=4∧C≤33554431)∧(3=1∨128≤L)∧0≤L∧L≤191∧0≤H∧H≤191∧Hid (rf t i 3 (3-k) k C L H=zf t i)∧wx=w) (fun _ _ _ vk _=>3-(intOf vk).toNat)
   case atStart=>exact⟨_,_,_,1,by omega,by omega,rfl,rfl,rfl,rfl,by omega,by omega,by omega,by omega,by omega,by omega,by omega,HP,rfl⟩
   case round=>
    obtain⟨C,L,H,k,hk1,hk2,rfl,rfl,rfl,rfl,hC0,hC1,hL,hL0,hL1,hH0,hH1,HQ,rfl⟩:=hrel
    clear HP hlo hl0 hl1 hh0 hh1
    by_cases hlt:k<3
    ·obtain⟨f,hf⟩:∃f,3-k=f+1:=⟨3-k-1,by omega⟩
     rw[hf,rf]at HQ
     by_cases hsz:t.size≤i+k
     ·rw[au hsz]at HQ
      go_wp2
      (try simp only[Exit.inBlock,Exit.then]);refine ap (results_tmp3 rfl _ _ _) rfl ?_
      exact⟨by rw[←ae HQ];rfl,rfl⟩
     ·rw[ag hsz]at HQ
      have hik:i+k<t.size:=by omega
      have hd:=Nv t (i+k)
      have hde:(((t[i+k]'hik).toNat:Nat):Int)=qz t (i+k):=by unfold qz;rw[dif_pos hik]
      generalize qz t (i+k)=d at*
      by_cases hbad:d<L∨H<d
      ·rw[au hbad]at HQ
       rcases(by omega:d<L∨(L≤d∧H<d))with hx|⟨hx,hx'⟩
       all_goals
        clear hbad
        go_wp2
        (try simp only[Exit.inBlock,Exit.then]);refine ap (results_tmp3 rfl _ _ _) rfl ?_
        exact⟨by rw[←ae HQ];rfl,rfl⟩
      ·rw[ag hbad]at HQ
       have hx:L≤d:=by omega
       have hx':d≤H:=by omega
       have hff:f=3-(k+1):=by omega
       rw[hff]at HQ
       clear hbad hf hff
       go_wp2
       go_roundw
       case rel=>exact⟨64*C+d-128,128,191,k+1,by omega,by omega,by go_num,rfl,rfl,by go_num,by omega,by omega,by omega,by omega,by omega,by omega,by omega,HQ,by simp⟩
       case measure=>simp[intOf];omega
    ·have hke:k=3:=by omega
     subst hke
     rw[show 3-3=0 from rfl,rf]at HQ
     go_wp2
     (try simp only[Exit.inBlock,Exit.then]);refine ap (results_tmp3 rfl _ _ _) rfl ?_
     exact⟨by rw[←ae HQ];rfl,rfl⟩
  ·have HP:Hid (rf t i 4 (4-1) 1 (c-240) lo hi'=zf t i):=hide (by rw[ae HO];rfl)
   clear HO
   go_wp2
   go_loopw [7,9,10,11] (fun vc vl vh vk wx=>∃(C L H:Int)(k:Nat),1≤k∧k≤4∧vc= .int .i64 C∧vl= .int .i64 L∧vh= .int .i64 H∧vk= .int .i64 k∧0≤C∧(k=1∧C≤127∨k=2∧C≤8191∨k=3∧C≤524287∨k=4∧C≤33554431)∧(4=1∨128≤L)∧0≤L∧L≤191∧0≤H∧H≤191∧Hid (rf t i 4 (4-k) k C L H=zf t i)∧wx=w) (fun _ _ _ vk _=>4-(intOf vk).toNat)
   case atStart=>exact⟨_,_,_,1,by omega,by omega,rfl,rfl,rfl,rfl,by omega,by omega,by omega,by omega,by omega,by omega,by omega,HP,rfl⟩
   case round=>
    obtain⟨C,L,H,k,hk1,hk2,rfl,rfl,rfl,rfl,hC0,hC1,hL,hL0,hL1,hH0,hH1,HQ,rfl⟩:=hrel
    clear HP hlo hl0 hl1 hh0 hh1
    by_cases hlt:k<4
    ·obtain⟨f,hf⟩:∃f,4-k=f+1:=⟨4-k-1,by omega⟩
     rw[hf,rf]at HQ
     by_cases hsz:t.size≤i+k
     ·rw[au hsz]at HQ
      go_wp2
      (try simp only[Exit.inBlock,Exit.then]);refine ap (results_tmp3 rfl _ _ _) rfl ?_
      exact⟨by rw[←ae HQ];rfl,rfl⟩
     ·rw[ag hsz]at HQ
      have hik:i+k<t.size:=by omega
      have hd:=Nv t (i+k)
      have hde:(((t[i+k]'hik).toNat:Nat):Int)=qz t (i+k):=by unfold qz;rw[dif_pos hik]
      generalize qz t (i+k)=d at*
      by_cases hbad:d<L∨H<d
      ·rw[au hbad]at HQ
       rcases(by omega:d<L∨(L≤d∧H<d))with hx|⟨hx,hx'⟩
       all_goals
        clear hbad
        go_wp2
        (try simp only[Exit.inBlock,Exit.then]);refine ap (results_tmp3 rfl _ _ _) rfl ?_
        exact⟨by rw[←ae HQ];rfl,rfl⟩
      ·rw[ag hbad]at HQ
       have hx:L≤d:=by omega
       have hx':d≤H:=by omega
       have hff:f=4-(k+1):=by omega
       rw[hff]at HQ
       clear hbad hf hff
       go_wp2
       go_roundw
       case rel=>exact⟨64*C+d-128,128,191,k+1,by omega,by omega,by go_num,rfl,rfl,by go_num,by omega,by omega,by omega,by omega,by omega,by omega,by omega,HQ,by simp⟩
       case measure=>simp[intOf];omega
    ·have hke:k=4:=by omega
     subst hke
     rw[show 4-4=0 from rfl,rf]at HQ
     go_wp2
     (try simp only[Exit.inBlock,Exit.then]);refine ap (results_tmp3 rfl _ _ _) rfl ?_
     exact⟨by rw[←ae HQ];rfl,rfl⟩
end Go.Proofs.YtdfmapcnfficlaaGreatDoor.M

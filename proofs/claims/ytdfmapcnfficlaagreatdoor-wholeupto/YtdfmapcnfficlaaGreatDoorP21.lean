import Derived.Test.YtdfmapcnfficlaaGreatDoorP20
import Derived.Test.YtdfmapcnfficlaaGreatDoorP06
set_option linter.all false
set_option maxHeartbeats 1000000
set_option maxRecDepth 1000000
namespace Go.Proofs.YtdfmapcnfficlaaGreatDoor
open Go.Proofs.Tryz
open Go Go.RowKit
section
variable{w0:World}{aj:Nat→Prop}{b:Nat}{s:TS}{ex:List Item}{w:World}{R:n9}
def mw(s:TS)(c:Int):Int×TS:=
 if c=47 then(0,{s with state:=6})else
 (1,(jy s [60]).2)
theorem Mc(c:Int)(hc:Rn c)(h:Tk w0 aj b s ex w)(hs:sz s+12≤lim):
  Calls prog 130 #[.pointer (some ⟨b,0,none⟩),.int .i32 c] w fun e w'=>e= .returned (.int .i64 (mw s c).1)∧Tk w0 aj b (mw s c).2 ex w':=by
 have HS:=hide hs
 clear hs
 by_cases n47:c=47
 ·have y:=n47
  clear n47
  subst y
  have hfin:mw s 47=(0,{s with state:=6}):=by simp[mw]
  rw[hfin]
  clear hfin
  go_enter func130,ntmps130
  go_wp2_with fail
  refine(mr 6 h).mono ?_
  rintro e w2⟨rfl,h1⟩
  go_wp2
  go_ret
  exact⟨rfl,h1⟩
 have hfin:mw s c=(1,(jy s [60]).2):=by simp[mw,n47]
 rw[hfin]
 clear hfin
 have e47:((c:Int)==47)=false:=af.2 n47
 clear n47
 go_enter func130,ntmps130
 go_wp2_with fail
 refine(r6 [60] h (by have:=ae HS;simp only[ai,ak];omega)).mono ?_
 rintro e w2⟨rfl,h1⟩
 go_wp2
 go_ret
 exact⟨rfl,h1⟩
def jc(s:TS)(c:Int):Int×TS:=
 if br c=true then(1,{{s with tag:={kind:=2}}with state:=7})else
 (1,(jy s [60,47]).2)
theorem E5(c:Int)(hc:Rn c)(h:Tk w0 aj b s ex w)(hs:sz s+12≤lim):
  Calls prog 131 #[.pointer (some ⟨b,0,none⟩),.int .i32 c] w fun e w'=>e= .returned (.int .i64 (jc s c).1)∧Tk w0 aj b (jc s c).2 ex w':=by
 have HS:=hide hs
 clear hs
 by_cases k9:br c=true
 ·have y:=k9
  clear k9
  have hfin:jc s c=(1,{{s with tag:={kind:=2}}with state:=7}):=by simp[jc,y]
  rw[hfin]
  clear hfin
  go_enter func131,ntmps131
  go_wp2_with fail
  refine(lb c _ hc).mono ?_
  rintro e w1⟨rfl,rfl⟩
  obtain⟨R1,uu⟩:=Tk.reg h
  have zg5:=uu.1.cell 9
  have zg6:=uu.1.cell 10
  have zg7:=uu.1.cell 11
  have zg8:=uu.1.cell 12
  have zg9:=uu.1.cell 13
  have zha:=uu.1.cell 14
  have f1:=uu.1.frozen
  simp only[cellsOf]at zg5 zg6 zg7 zg8 zg9 zha
  have h1:=yu uu 2
  unfold tv at h1
  go_wp2_with fail
  refine(ic 7 h1).mono ?_
  rintro e w3⟨rfl,h2⟩
  go_wp2
  go_ret
  exact⟨rfl,h2⟩
 have hfin:jc s c=(1,(jy s [60,47]).2):=by simp[jc,k9]
 rw[hfin]
 clear hfin
 have ug:br c=false:=az.2 k9
 clear k9
 go_enter func131,ntmps131
 go_wp2_with fail
 refine(lb c _ hc).mono ?_
 rintro e w1⟨rfl,rfl⟩
 go_wp2_with fail
 refine(r6 [60,47] h (by have:=ae HS;simp only[ai,ak];omega)).mono ?_
 rintro e w2⟨rfl,h1⟩
 go_wp2
 go_ret
 exact⟨rfl,h1⟩
def ob(s:TS)(c:Int):TS:={s with tag:={s.tag with name:=s.tag.name++Lib.encodeRune (lw c),buffer:=s.tag.buffer++Lib.encodeRune c}}
def jo(s:TS)(c:Int):Int×TS:=
 if br c=true then(0,ob s c)
 else if(ba c=true∨c=47∨c=62)∧s.tag.name=s.lastStart then(1,{s with state:=8})
 else jy {s with tag:={}} ([60,47]++s.tag.buffer)
theorem Md(c:Int)(hc:Rn c)(hl:br c=true)(h:Tk w0 aj b s ex w)(hs:sz s+12≤lim):
  Calls prog 132 #[.pointer (some ⟨b,0,none⟩),.int .i32 c] w fun e w'=>e= .returned (.int .i64 0)∧Tk w0 aj b (ob s c) ex w':=by
 have HS:=hide hs
 clear hs
 obtain⟨R,hR⟩:=h.reg
 have c1:w.cell? ⟨b,10,none⟩=some (.slice R.fi.a s.tag.name.length R.fi.cap):=hR.1.cell 10
 have HP:=hide (C0 hc)
 have HA:=hide (nj R.fi s.tag.name (lw c) (ae HP).1 (ae HP).2 w.drew (hR.1.rows.ok (cq R.fi s.tag.name) (by simp[fe])) (by have:=ae HS;unfold sz lim at this;omega))
 clear h
 go_enter func132,ntmps132
 go_wp2_with fail
 refine(lb c _ hc).mono ?_
 rintro e w1⟨rfl,rfl⟩
 go_wp2_with fail
 go_region_with(first
  |(go_at_call 194;refine(pg c _ hc).mono ?_;rintro e w4⟨rfl,rfl⟩)
  |(go_at_call 126;refine(ae HA).mono ?_;rintro e w2⟨r',o,rfl,hok,hg,hf⟩;obtain⟨hself,hT⟩:=ld.M8 (qb hR).1 (qb hR).2 ((More.refl _).alloc o) _ r' hok hg hf;have d2:=bg hself 10;have df:=bn hself;simp only[cellsOf]at d2;simp only[aq]at hT;clear hok hg hf))
 all_goals
  obtain⟨R2,hR2⟩:=hT.reg
  have e1:(w2.setCell ⟨b,10,none⟩ (.slice r'.a (s.tag.name.length+(Lib.encodeRune (lw c)).length) r'.cap)).cell? ⟨b,11,none⟩=some (.slice R2.buffer.a s.tag.buffer.length R2.buffer.cap):=hR2.1.cell 11
  go_wp2_with fail
  refine(nj R2.buffer s.tag.buffer c (by have:=hc.1;omega) (by have:=hc.2;omega) _ (hR2.1.rows.ok (cq R2.buffer s.tag.buffer) (by simp[fe])) (by have:=ae HS;unfold sz lim at this;omega)).mono ?_
  rintro e w5⟨r2,o2,rfl,hok2,hg2,hf2⟩
  obtain⟨xy,hT2⟩:=ld.W0 hR2.1 hR2.2 ((More.refl _).alloc o2) _ r2 hok2 hg2 hf2
  have d3:=bg xy 11
  have df2:=bn xy
  simp only[cellsOf]at d3
  simp only[aq]at hT2
  clear hok2 hg2 hf2
  go_wp2
  go_ret
  exact⟨rfl,hT2⟩
end
section
variable{w0:World}{aj:Nat→Prop}{b:Nat}{s:TS}{ex:List Item}{w:World}{R:n9}
theorem qd(w:World)(q:Nat):More w (w.drewN q):=⟨rfl,rfl,rfl,cx _,fun _ _=>rfl⟩
theorem vp{it:Item}(q:Nat)(h:it.ok w):it.ok (w.drewN q):=Item.Bh h fun _ _=>rfl
theorem yw(q:Nat)(h:Al w0 aj b s R ex w):Al w0 aj b s R ex (w.drewN q):=Nh h (qd w q)
theorem Ih(c:Int)(hc:Rn c)(hl:br c=false)(hb:ba c=true)(heq:s.tag.name=s.lastStart)(h:Tk w0 aj b s ex w)(hs:sz s+12≤lim):
  Calls prog 132 #[.pointer (some ⟨b,0,none⟩),.int .i32 c] w fun e w'=>e= .returned (.int .i64 1)∧Tk w0 aj b {s with state:=8} ex w':=by
 have HS:=hide hs
 clear hs
 obtain⟨R,hR⟩:=h.reg
 have c1:w.cell? ⟨b,10,none⟩=some (.slice R.fi.a s.tag.name.length R.fi.cap):=hR.1.cell 10
 have c2:w.cell? ⟨b,15,none⟩=some (.string ⟨s.lastStart.toArray⟩):=hR.1.cell 15
 have hcv:∀q,(convert 74 9 (.slice R.fi.a s.tag.name.length R.fi.cap)).run prog (w.drewN q)= .ok (.string ⟨s.tag.name.toArray⟩) (w.drewN q):=fun q=>oe (w:=w.drewN q) (r:=R.fi) (l:=s.tag.name) (vp q (hR.1.rows.ok (cq R.fi s.tag.name) (by simp[fe])))
 have H0:=hide hR
 have ee:(s.tag.name==s.lastStart)=true:=beq_iff_eq.2 heq
 clear heq
 clear h hR
 go_enter func132,ntmps132
 go_wp2_with fail
 refine(lb c _ hc).mono ?_
 rintro e w1⟨rfl,rfl⟩
 go_wp2_with fail
 go_quiet ((go_at_call 195;exact Calls.quiet_of_same (cg c _)))
 all_goals
  go_wp2_with fail
  refine(ic 8 (yw nq (ae H0)).tk).mono ?_
  rintro e w3⟨rfl,h4⟩
  go_wp2
  go_ret
  exact⟨rfl,h4⟩
theorem Ii(c:Int)(hc:Rn c)(hl:br c=false)(hb:ba c=true)(heq:s.tag.name≠s.lastStart)(h:Tk w0 aj b s ex w)(hs:sz s+12≤lim):
  Calls prog 132 #[.pointer (some ⟨b,0,none⟩),.int .i32 c] w fun e w'=>e= .returned (.int .i64 1)∧Tk w0 aj b (jy {s with tag:={}} ([60,47]++s.tag.buffer)).2 ex w':=by
 have HS:=hide hs
 clear hs
 obtain⟨R,hR⟩:=h.reg
 have c1:w.cell? ⟨b,10,none⟩=some (.slice R.fi.a s.tag.name.length R.fi.cap):=hR.1.cell 10
 have c2:w.cell? ⟨b,15,none⟩=some (.string ⟨s.lastStart.toArray⟩):=hR.1.cell 15
 have hcv:∀q,(convert 74 9 (.slice R.fi.a s.tag.name.length R.fi.cap)).run prog (w.drewN q)= .ok (.string ⟨s.tag.name.toArray⟩) (w.drewN q):=fun q=>oe (w:=w.drewN q) (r:=R.fi) (l:=s.tag.name) (vp q (hR.1.rows.ok (cq R.fi s.tag.name) (by simp[fe])))
 have H0:=hide hR
 have ee:(s.tag.name==s.lastStart)=false:=af.2 heq
 clear heq
 have t1:w.cell? ⟨b,11,none⟩=some (.slice R.buffer.a s.tag.buffer.length R.buffer.cap):=hR.1.cell 11
 have t0:w.cell? ⟨b,9,none⟩=some (.int .i64 s.tag.kind):=hR.1.cell 9
 have t3:w.cell? ⟨b,12,none⟩=some (.slice R.cy.a s.tag.cy.length R.cy.cap):=hR.1.cell 12
 have t4:w.cell? ⟨b,13,none⟩=some (.map R.names):=hR.1.cell 13
 have t5:w.cell? ⟨b,14,none⟩=some (.bool s.tag.closes):=hR.1.cell 14
 have hf:=hR.1.frozen
 have hbl:s.tag.buffer.length≤1099511627776:=by have:=ae HS;unfold sz lim at this;omega
 have zgk:∀q,(convert 74 9 (.slice R.buffer.a s.tag.buffer.length R.buffer.cap)).run prog (w.drewN q)= .ok (.string ⟨s.tag.buffer.toArray⟩) (w.drewN q):=fun q=>oe (w:=w.drewN q) (r:=R.buffer) (l:=s.tag.buffer) (vp q (hR.1.rows.ok (cq R.buffer s.tag.buffer) (by simp[fe])))
 clear h hR
 go_enter func132,ntmps132
 go_wp2_with fail
 refine(lb c _ hc).mono ?_
 rintro e w1⟨rfl,rfl⟩
 go_wp2_with fail
 go_quiet ((go_at_call 195;exact Calls.quiet_of_same (cg c _)))
 all_goals
  have h3:=yu (yw nq (ae H0)) 0
  unfold tv at h3
  go_wp2_with fail
  refine(r6 ([60,47]++s.tag.buffer) h3 (by have:=ae HS;unfold sz at*;simp[tp];omega)).mono ?_
  rintro e w3⟨rfl,h4⟩
  go_wp2
  go_ret
  exact⟨rfl,h4⟩
theorem Ij(heq:s.tag.name=s.lastStart)(h:Tk w0 aj b s ex w)(hs:sz s+12≤lim):
  Calls prog 132 #[.pointer (some ⟨b,0,none⟩),.int .i32 47] w fun e w'=>e= .returned (.int .i64 1)∧Tk w0 aj b {s with state:=8} ex w':=by
 have hc:Rn 47:=by unfold Rn;omega
 have hl:br 47=false:=by decide
 have hb:ba 47=false:=by decide
 have HS:=hide hs
 clear hs
 obtain⟨R,hR⟩:=h.reg
 have c1:w.cell? ⟨b,10,none⟩=some (.slice R.fi.a s.tag.name.length R.fi.cap):=hR.1.cell 10
 have c2:w.cell? ⟨b,15,none⟩=some (.string ⟨s.lastStart.toArray⟩):=hR.1.cell 15
 have hcv:∀q,(convert 74 9 (.slice R.fi.a s.tag.name.length R.fi.cap)).run prog (w.drewN q)= .ok (.string ⟨s.tag.name.toArray⟩) (w.drewN q):=fun q=>oe (w:=w.drewN q) (r:=R.fi) (l:=s.tag.name) (vp q (hR.1.rows.ok (cq R.fi s.tag.name) (by simp[fe])))
 have H0:=hide hR
 have ee:(s.tag.name==s.lastStart)=true:=beq_iff_eq.2 heq
 clear heq
 clear h hR
 go_enter func132,ntmps132
 go_wp2_with fail
 refine(lb 47 _ hc).mono ?_
 rintro e w1⟨rfl,rfl⟩
 go_wp2_with fail
 go_quiet ((go_at_call 195;exact Calls.quiet_of_same (cg 47 _)))
 all_goals
  go_wp2_with fail
  refine(ic 8 (yw nq (ae H0)).tk).mono ?_
  rintro e w3⟨rfl,h4⟩
  go_wp2
  go_ret
  exact⟨rfl,h4⟩
theorem Ik(heq:s.tag.name≠s.lastStart)(h:Tk w0 aj b s ex w)(hs:sz s+12≤lim):
  Calls prog 132 #[.pointer (some ⟨b,0,none⟩),.int .i32 47] w fun e w'=>e= .returned (.int .i64 1)∧Tk w0 aj b (jy {s with tag:={}} ([60,47]++s.tag.buffer)).2 ex w':=by
 have hc:Rn 47:=by unfold Rn;omega
 have hl:br 47=false:=by decide
 have hb:ba 47=false:=by decide
 have HS:=hide hs
 clear hs
 obtain⟨R,hR⟩:=h.reg
 have c1:w.cell? ⟨b,10,none⟩=some (.slice R.fi.a s.tag.name.length R.fi.cap):=hR.1.cell 10
 have c2:w.cell? ⟨b,15,none⟩=some (.string ⟨s.lastStart.toArray⟩):=hR.1.cell 15
 have hcv:∀q,(convert 74 9 (.slice R.fi.a s.tag.name.length R.fi.cap)).run prog (w.drewN q)= .ok (.string ⟨s.tag.name.toArray⟩) (w.drewN q):=fun q=>oe (w:=w.drewN q) (r:=R.fi) (l:=s.tag.name) (vp q (hR.1.rows.ok (cq R.fi s.tag.name) (by simp[fe])))
 have H0:=hide hR
 have ee:(s.tag.name==s.lastStart)=false:=af.2 heq
 clear heq
 have t1:w.cell? ⟨b,11,none⟩=some (.slice R.buffer.a s.tag.buffer.length R.buffer.cap):=hR.1.cell 11
 have t0:w.cell? ⟨b,9,none⟩=some (.int .i64 s.tag.kind):=hR.1.cell 9
 have t3:w.cell? ⟨b,12,none⟩=some (.slice R.cy.a s.tag.cy.length R.cy.cap):=hR.1.cell 12
 have t4:w.cell? ⟨b,13,none⟩=some (.map R.names):=hR.1.cell 13
 have t5:w.cell? ⟨b,14,none⟩=some (.bool s.tag.closes):=hR.1.cell 14
 have hf:=hR.1.frozen
 have hbl:s.tag.buffer.length≤1099511627776:=by have:=ae HS;unfold sz lim at this;omega
 have zgk:∀q,(convert 74 9 (.slice R.buffer.a s.tag.buffer.length R.buffer.cap)).run prog (w.drewN q)= .ok (.string ⟨s.tag.buffer.toArray⟩) (w.drewN q):=fun q=>oe (w:=w.drewN q) (r:=R.buffer) (l:=s.tag.buffer) (vp q (hR.1.rows.ok (cq R.buffer s.tag.buffer) (by simp[fe])))
 clear h hR
 go_enter func132,ntmps132
 go_wp2_with fail
 refine(lb 47 _ hc).mono ?_
 rintro e w1⟨rfl,rfl⟩
 go_wp2_with fail
 go_quiet ((go_at_call 195;exact Calls.quiet_of_same (cg 47 _)))
 all_goals
  have h3:=yu (yw nq (ae H0)) 0
  unfold tv at h3
  go_wp2_with fail
  refine(r6 ([60,47]++s.tag.buffer) h3 (by have:=ae HS;unfold sz at*;simp[tp];omega)).mono ?_
  rintro e w3⟨rfl,h4⟩
  go_wp2
  go_ret
  exact⟨rfl,h4⟩
theorem N7(heq:s.tag.name=s.lastStart)(h:Tk w0 aj b s ex w)(hs:sz s+12≤lim):
  Calls prog 132 #[.pointer (some ⟨b,0,none⟩),.int .i32 62] w fun e w'=>e= .returned (.int .i64 1)∧Tk w0 aj b {s with state:=8} ex w':=by
 have hc:Rn 62:=by unfold Rn;omega
 have hl:br 62=false:=by decide
 have hb:ba 62=false:=by decide
 have HS:=hide hs
 clear hs
 obtain⟨R,hR⟩:=h.reg
 have c1:w.cell? ⟨b,10,none⟩=some (.slice R.fi.a s.tag.name.length R.fi.cap):=hR.1.cell 10
 have c2:w.cell? ⟨b,15,none⟩=some (.string ⟨s.lastStart.toArray⟩):=hR.1.cell 15
 have hcv:∀q,(convert 74 9 (.slice R.fi.a s.tag.name.length R.fi.cap)).run prog (w.drewN q)= .ok (.string ⟨s.tag.name.toArray⟩) (w.drewN q):=fun q=>oe (w:=w.drewN q) (r:=R.fi) (l:=s.tag.name) (vp q (hR.1.rows.ok (cq R.fi s.tag.name) (by simp[fe])))
 have H0:=hide hR
 have ee:(s.tag.name==s.lastStart)=true:=beq_iff_eq.2 heq
 clear heq
 clear h hR
 go_enter func132,ntmps132
 go_wp2_with fail
 refine(lb 62 _ hc).mono ?_
 rintro e w1⟨rfl,rfl⟩
 go_wp2_with fail
 go_quiet ((go_at_call 195;exact Calls.quiet_of_same (cg 62 _)))
 all_goals
  go_wp2_with fail
  refine(ic 8 (yw nq (ae H0)).tk).mono ?_
  rintro e w3⟨rfl,h4⟩
  go_wp2
  go_ret
  exact⟨rfl,h4⟩
theorem N8(heq:s.tag.name≠s.lastStart)(h:Tk w0 aj b s ex w)(hs:sz s+12≤lim):
  Calls prog 132 #[.pointer (some ⟨b,0,none⟩),.int .i32 62] w fun e w'=>e= .returned (.int .i64 1)∧Tk w0 aj b (jy {s with tag:={}} ([60,47]++s.tag.buffer)).2 ex w':=by
 have hc:Rn 62:=by unfold Rn;omega
 have hl:br 62=false:=by decide
 have hb:ba 62=false:=by decide
 have HS:=hide hs
 clear hs
 obtain⟨R,hR⟩:=h.reg
 have c1:w.cell? ⟨b,10,none⟩=some (.slice R.fi.a s.tag.name.length R.fi.cap):=hR.1.cell 10
 have c2:w.cell? ⟨b,15,none⟩=some (.string ⟨s.lastStart.toArray⟩):=hR.1.cell 15
 have hcv:∀q,(convert 74 9 (.slice R.fi.a s.tag.name.length R.fi.cap)).run prog (w.drewN q)= .ok (.string ⟨s.tag.name.toArray⟩) (w.drewN q):=fun q=>oe (w:=w.drewN q) (r:=R.fi) (l:=s.tag.name) (vp q (hR.1.rows.ok (cq R.fi s.tag.name) (by simp[fe])))
 have H0:=hide hR
 have ee:(s.tag.name==s.lastStart)=false:=af.2 heq
 clear heq
 have t1:w.cell? ⟨b,11,none⟩=some (.slice R.buffer.a s.tag.buffer.length R.buffer.cap):=hR.1.cell 11
 have t0:w.cell? ⟨b,9,none⟩=some (.int .i64 s.tag.kind):=hR.1.cell 9
 have t3:w.cell? ⟨b,12,none⟩=some (.slice R.cy.a s.tag.cy.length R.cy.cap):=hR.1.cell 12
 have t4:w.cell? ⟨b,13,none⟩=some (.map R.names):=hR.1.cell 13
 have t5:w.cell? ⟨b,14,none⟩=some (.bool s.tag.closes):=hR.1.cell 14
 have hf:=hR.1.frozen
 have hbl:s.tag.buffer.length≤1099511627776:=by have:=ae HS;unfold sz lim at this;omega
 have zgk:∀q,(convert 74 9 (.slice R.buffer.a s.tag.buffer.length R.buffer.cap)).run prog (w.drewN q)= .ok (.string ⟨s.tag.buffer.toArray⟩) (w.drewN q):=fun q=>oe (w:=w.drewN q) (r:=R.buffer) (l:=s.tag.buffer) (vp q (hR.1.rows.ok (cq R.buffer s.tag.buffer) (by simp[fe])))
 clear h hR
 go_enter func132,ntmps132
 go_wp2_with fail
 refine(lb 62 _ hc).mono ?_
 rintro e w1⟨rfl,rfl⟩
 go_wp2_with fail
 go_quiet ((go_at_call 195;exact Calls.quiet_of_same (cg 62 _)))
 all_goals
  have h3:=yu (yw nq (ae H0)) 0
  unfold tv at h3
  go_wp2_with fail
  refine(r6 ([60,47]++s.tag.buffer) h3 (by have:=ae HS;unfold sz at*;simp[tp];omega)).mono ?_
  rintro e w3⟨rfl,h4⟩
  go_wp2
  go_ret
  exact⟨rfl,h4⟩
end
section
variable{w0:World}{aj:Nat→Prop}{b:Nat}{s:TS}{ex:List Item}{w:World}{R:n9}
theorem E6(c:Int)(hc:Rn c)(hl:br c=false)(hb:ba c=false)(e47:(c==47)=false)(e62:(c==62)=false)(h:Tk w0 aj b s ex w)(hs:sz s+12≤lim):
  Calls prog 132 #[.pointer (some ⟨b,0,none⟩),.int .i32 c] w fun e w'=>e= .returned (.int .i64 1)∧Tk w0 aj b (jy {s with tag:={}} ([60,47]++s.tag.buffer)).2 ex w':=by
 have HS:=hide hs
 clear hs
 obtain⟨R,hR⟩:=h.reg
 have H0:=hide hR
 have c1:w.cell? ⟨b,10,none⟩=some (.slice R.fi.a s.tag.name.length R.fi.cap):=hR.1.cell 10
 have t1:w.cell? ⟨b,11,none⟩=some (.slice R.buffer.a s.tag.buffer.length R.buffer.cap):=hR.1.cell 11
 have t0:w.cell? ⟨b,9,none⟩=some (.int .i64 s.tag.kind):=hR.1.cell 9
 have t3:w.cell? ⟨b,12,none⟩=some (.slice R.cy.a s.tag.cy.length R.cy.cap):=hR.1.cell 12
 have t4:w.cell? ⟨b,13,none⟩=some (.map R.names):=hR.1.cell 13
 have t5:w.cell? ⟨b,14,none⟩=some (.bool s.tag.closes):=hR.1.cell 14
 have hf:=hR.1.frozen
 have hbl:s.tag.buffer.length≤1099511627776:=by have:=ae HS;unfold sz lim at this;omega
 have zgk:∀q,(convert 74 9 (.slice R.buffer.a s.tag.buffer.length R.buffer.cap)).run prog (w.drewN q)= .ok (.string ⟨s.tag.buffer.toArray⟩) (w.drewN q):=fun q=>oe (w:=w.drewN q) (r:=R.buffer) (l:=s.tag.buffer) (vp q (hR.1.rows.ok (cq R.buffer s.tag.buffer) (by simp[fe])))
 have HB:=hide (fun w=>cg c w)
 rw[hb]at HB
 clear hb
 clear h hR
 go_enter func132,ntmps132
 go_wp2_with fail
 refine(lb c _ hc).mono ?_
 rintro e w1⟨rfl,rfl⟩
 rw[hl]
 go_wp2_with fail
 clear hl
 refine wp_region_quiet_lit (by kernel_rfl) (by kernel_rfl) (pj.out ?_)
 iterate 11
  refine pj.step (fun K hK=> ?_)
  go_simp
  first
   |(refine hK _ ?_;clear hK K)
   |(apply Exists.intro
     refine⟨fun _=> ?_,hK _ ?_⟩
     (go_at_call 195;exact Calls.quiet_of_same (ae HB _))
     clear hK K)
 iterate 11 refine pj.skip (by kernel_rfl) ?_
 iterate 2
  refine pj.step (fun K hK=> ?_)
  go_simp
  refine hK _ ?_
  clear hK K
 refine⟨wpQuiet_nil ?_⟩
 intro _ hw'
 obtain⟨nq,hw''⟩:=hw'
 subst hw''
 have h3:=yu (yw nq (ae H0)) 0
 unfold tv at h3
 go_wp2_with fail
 refine(r6 ([60,47]++s.tag.buffer) h3 (by have:=ae HS;unfold sz at*;simp[tp];omega)).mono ?_
 rintro e w3⟨rfl,h4⟩
 go_wp2
 go_ret
 exact⟨rfl,h4⟩
theorem Gi(c:Int)(hc:Rn c)(h:Tk w0 aj b s ex w)(hs:sz s+12≤lim):
  Calls prog 132 #[.pointer (some ⟨b,0,none⟩),.int .i32 c] w fun e w'=>e= .returned (.int .i64 (jo s c).1)∧Tk w0 aj b (jo s c).2 ex w':=by
 unfold jo
 cases hl:br c
 ·rw[ag (by decide)]
  by_cases heq:s.tag.name=s.lastStart
  ·cases hb:ba c
   ·by_cases h47:c=47
    ·subst h47
     rw[au ⟨by simp,heq⟩]
     exact Ij heq h hs
    ·by_cases h62:c=62
     ·subst h62
      rw[au ⟨by simp,heq⟩]
      exact N7 heq h hs
     ·rw[ag (by simp[h47,h62])]
      exact E6 c hc hl hb (af.2 h47) (af.2 h62) h hs
   ·rw[au ⟨by simp,heq⟩]
    exact Ih c hc hl hb heq h hs
  ·rw[ag (fun hh=>heq hh.2)]
   cases hb:ba c
   ·by_cases h47:c=47
    ·subst h47
     exact Ik heq h hs
    ·by_cases h62:c=62
     ·subst h62
      exact N8 heq h hs
     ·exact E6 c hc hl hb (af.2 h47) (af.2 h62) h hs
   ·exact Ii c hc hl hb heq h hs
 ·rw[au rfl]
  exact Md c hc hl h hs
end
end Go.Proofs.YtdfmapcnfficlaaGreatDoor

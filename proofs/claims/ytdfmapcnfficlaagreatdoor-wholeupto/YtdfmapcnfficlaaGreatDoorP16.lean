import Derived.Test.YtdfmapcnfficlaaGreatDoorP10
set_option linter.all false
set_option maxHeartbeats 4000000
set_option maxRecDepth 1000000
namespace Go.Proofs.YtdfmapcnfficlaaGreatDoor.M
open Go.Proofs.Tryz
open Go Go.RowKit Go.Proofs.YtdfmapcnfficlaaGreatDoor
section
variable{w0:World}{aj:Nat→Prop}{b:Nat}{m:MS}{ex:List Item}{w:World}{g:Bool}
theorem Ly(c:Int)(hc:Pt c)(hst:m.state=26)(h:Mz w0 aj b ex g 64 m w):
  Calls prog 189 #[.pointer (some ⟨b,0,none⟩),.int .i64 c] w fun e w'=>e= .returned (.tuple #[])∧Mk w0 aj b (js m c) ex w':=by
 have c5:=h.c5
 rw[hst,show qc 26=[68,79,67,84,89,80,69]from rfl]at c5
 by_cases be:ba c=true
 ·rw[show js m c=pc m 27 by simp[js,hst,be]]
  go_enter func189,ntmps189
  go_wp2_with fail
  refine(eo c _).mono ?_
  rintro e w1⟨rfl,rfl⟩
  go_wp2_with fail
  refine(p8 27 h).mono ?_
  rintro e w2⟨rfl,h1⟩
  go_wp2
  first|go_end0|((try simp only[Exit.inBlock,Exit.then]);refine ap (av rfl _ _ _) rfl ?_)
  exact⟨rfl,h1⟩
 by_cases n62:c=62
 ·subst n62
  rw[show js m 62=st m 27 by simp[js,hst,be]]
  have gj:ba 62=false:=rfl
  clear be
  go_enter func189,ntmps189
  go_wp2_with fail
  refine(eo 62 _).mono ?_
  rintro e w1⟨rfl,rfl⟩
  have f1:=h.frozen
  obtain⟨zj7,zj8⟩:=h.some 5 (by decide)
  have h1:=h.setState 27
  go_wp2
  first|go_end0|((try simp only[Exit.inBlock,Exit.then]);refine ap (av rfl _ _ _) rfl ?_)
  exact⟨rfl,h1.rep⟩
 rw[show js m c=st (err m [110,111,45,98,108,97,110,107]) 27 by simp[js,hst,be,n62]]
 have gj:=az.2 be
 have e62:(c==62)=false:=af.2 n62
 clear be n62
 go_enter func189,ntmps189
 go_wp2_with fail
 refine(eo c _).mono ?_
 rintro e w1⟨rfl,rfl⟩
 go_wp2_with fail
 refine(qe [110,111,45,98,108,97,110,107] h).mono ?_
 rintro e w2⟨rfl,h1⟩
 have f2:=h1.frozen
 obtain⟨Eu,Ev⟩:=h1.some 5 (by decide)
 have h2:=h1.setState 27
 go_wp2
 first|go_end0|((try simp only[Exit.inBlock,Exit.then]);refine ap (av rfl _ _ _) rfl ?_)
 exact⟨rfl,h2.rep⟩
theorem Uy(c:Int)(hc:Pt c)(hst:m.state=27)(h:Mz w0 aj b ex g 64 m w):
  Calls prog 189 #[.pointer (some ⟨b,0,none⟩),.int .i64 c] w fun e w'=>e= .returned (.tuple #[])∧Mk w0 aj b (js m c) ex w':=by
 have c5:=h.c5
 rw[hst,show qc 27=[75,73,78,68]from rfl]at c5
 obtain⟨i0,hi,hz0,hz1,hz2⟩:=info_parts qa
 by_cases be:ba c=true
 ·rw[show js m c=on m by simp[js,hst,be]]
  go_enter func189,ntmps189
  go_wp2_with fail
  refine(eo c _).mono ?_
  rintro e w1⟨rfl,rfl⟩
  have f1:=h.frozen
  have p1:=h.c1
  have q1:=h.pos
  have h1:=h.on
  go_wp2
  first|go_end0|((try simp only[Exit.inBlock,Exit.then]);refine ap (av rfl _ _ _) rfl ?_)
  exact⟨rfl,h1⟩
 by_cases n62:c=62
 ·subst n62
  rw[show js m 62=pc (dw (err m [110,111,45,110,97,109,101]) true) 0 by simp[js,hst,be]]
  have gj:ba 62=false:=rfl
  clear be
  go_enter func189,ntmps189
  go_wp2_with fail
  refine(eo 62 _).mono ?_
  rintro e w1⟨rfl,rfl⟩
  go_wp2_with fail
  refine(qe [110,111,45,110,97,109,101] h).mono ?_
  rintro e w2⟨rfl,h1⟩
  go_wp2_with fail
  refine(y8 true h1).mono ?_
  rintro e w3⟨rfl,h2⟩
  go_wp2_with fail
  refine(p8 0 h2).mono ?_
  rintro e w4⟨rfl,h3⟩
  go_wp2
  first|go_end0|((try simp only[Exit.inBlock,Exit.then]);refine ap (av rfl _ _ _) rfl ?_)
  exact⟨rfl,h3⟩
 rw[show js m c={je (lx m c) (lw (bb c))with state:=28} by simp[js,hst,be,n62]]
 have gj:=az.2 be
 have e62:(c==62)=false:=af.2 n62
 clear be n62
 go_enter func189,ntmps189
 go_wp2_with fail
 refine(eo c _).mono ?_
 rintro e w1⟨rfl,rfl⟩
 obtain⟨R,hR⟩:=h.rep
 obtain⟨n1,n2,n3,n4,n5,n6⟩:=nz m c
 have cN:w1.cell? ⟨b,14,none⟩=some (.slice R.name.a (lx m c).name.length R.name.cap):=by rw[n1];exact hR.cell 14
 have cf:=hR.frozen
 have hlt:=hR.obj.lt
 have hpo:=h.pos
 have HN:=hide (pp c (hR.more (More.refl _).drew) h.told)
 have HZ:=hide (vg (n:=(lx m c).name.length+1) (by have:=h.sz;rw[n1];unfold mj at this;omega))
 have HX:=hide (Er (fy hc))
 have HP:Hid ((lx m c).pos+1≤(lx m c).l.length):=by rw[n4,n5];exact hide h.ps
 rw[←n4]at hpo
 have HL:=hide (fy hc)
 clear n1 n2 n3 n4 n5 n6 h
 go_wp2_with fail
 go_region_law(first
  |(refine fx rfl (.tmp 111) (.tmp 116) 45 rfl 3 i0 _ 1 8 underlying45 hi hz0 hz1 hz2 rfl (by decide) R.name.a (lx m c).name.length R.name.cap ((lx m c).name.map (Value.int .i64)) (by simp[Act.eval]) (bh h1.qx _) ⟨w1.heap.size,0,none⟩ 1 1 ([(lw (bb c))].map (Value.int .i64)) (by simp[Act.eval]) rfl (by exact ii _ _ _ _ (by rfl)) (km _) (by decide) (ae HZ).1 (ae HZ).2 ?_;intro a' cap' w3 hown hgrow hfresh;obtain⟨hok,hfr⟩:=nu (y:=[_]) hown hfresh;obtain⟨hself,hT⟩:=h1.ux ((More.refl _).alloc _) _ ⟨some a',cap'⟩ hok hgrow (by simpa[o0]using hfr) (ny h1.ok.name (fun d hd=>by rw[de.1 hd];exact ae HX));have eN:w3.cell? ⟨b,14,none⟩=some (.slice R.name.a (lx m c).name.length R.name.cap):=bg hself 14;have ef:=bn hself)
  |(go_simp;go_at_call 231;refine(ae HN).mono ?_;rintro e w1⟨tl,ta,rfl,h1⟩;have d1:w1.cell? ⟨b,14,none⟩=some (.slice R.name.a (lx m c).name.length R.name.cap):=h1.cell 14;have l1:=h1.obj.lt)
  |(go_simp;go_at_call 228;refine(pg (bb c) _ (by have:=(ae HL).1;omega) (ae HL).2).mono ?_;rintro e w2⟨rfl,hw2⟩;rw[hw2]))
 all_goals
  simp only[aq,ai,ak,ja]at hT
  have t1:=hT.cell 1
  simp only[mc]at t1
  have tf:=hT.frozen
  have HE:=hide (zd 28 hT.out (by exact ae HP))
  clear hT h1 hok hfr hown hgrow hfresh
  go_wp2_with fail
  refine(ae HE).mono ?_
  rintro e w9⟨rfl,h9⟩
  go_wp2
  first|go_end0|((try simp only[Exit.inBlock,Exit.then]);refine ap (av rfl _ _ _) rfl ?_)
  exact⟨rfl,h9⟩
theorem Ju(c:Int)(hc:Pt c)(hst:m.state=28)(h:Mz w0 aj b ex g 64 m w):
  Calls prog 189 #[.pointer (some ⟨b,0,none⟩),.int .i64 c] w fun e w'=>e= .returned (.tuple #[])∧Mk w0 aj b (js m c) ex w':=by
 have c5:=h.c5
 rw[hst,show qc 28=[75,73,78,68,78,65,77,69]from rfl]at c5
 obtain⟨i0,hi,hz0,hz1,hz2⟩:=info_parts qa
 by_cases n62:c=62
 ·subst n62
  rw[show js m 62=pc (dw m m.odd) 0 by simp[js,hst]]
  have gj:ba 62=false:=rfl
  go_enter func189,ntmps189
  go_wp2_with fail
  refine(eo 62 _).mono ?_
  rintro e w1⟨rfl,rfl⟩
  have c21:=h.c21
  go_wp2_with fail
  refine(y8 m.odd h).mono ?_
  rintro e w2⟨rfl,h1⟩
  go_wp2_with fail
  refine(p8 0 h1).mono ?_
  rintro e w3⟨rfl,h2⟩
  go_wp2
  first|go_end0|((try simp only[Exit.inBlock,Exit.then]);refine ap (av rfl _ _ _) rfl ?_)
  exact⟨rfl,h2⟩
 by_cases be:ba c=true
 ·rw[show js m c=pc m 29 by simp[js,hst,n62,be]]
  have e62:(c==62)=false:=af.2 n62
  clear n62
  go_enter func189,ntmps189
  go_wp2_with fail
  refine(eo c _).mono ?_
  rintro e w1⟨rfl,rfl⟩
  go_wp2_with fail
  refine(p8 29 h).mono ?_
  rintro e w2⟨rfl,h1⟩
  go_wp2
  first|go_end0|((try simp only[Exit.inBlock,Exit.then]);refine ap (av rfl _ _ _) rfl ?_)
  exact⟨rfl,h1⟩
 rw[show js m c=je (lx m c) (lw (bb c)) by simp[js,hst,n62,be]]
 have e62:(c==62)=false:=af.2 n62
 have gj:=az.2 be
 clear n62 be
 go_enter func189,ntmps189
 go_wp2_with fail
 refine(eo c _).mono ?_
 rintro e w1⟨rfl,rfl⟩
 obtain⟨R,hR⟩:=h.rep
 obtain⟨n1,n2,n3,n4,n5,n6⟩:=nz m c
 have cN:w1.cell? ⟨b,14,none⟩=some (.slice R.name.a (lx m c).name.length R.name.cap):=by rw[n1];exact hR.cell 14
 have cf:=hR.frozen
 have hlt:=hR.obj.lt
 have hpo:=h.pos
 have HN:=hide (pp c (hR.more (More.refl _).drew) h.told)
 have HZ:=hide (vg (n:=(lx m c).name.length+1) (by have:=h.sz;rw[n1];unfold mj at this;omega))
 have HX:=hide (Er (fy hc))
 have HP:Hid ((lx m c).pos+1≤(lx m c).l.length):=by rw[n4,n5];exact hide h.ps
 rw[←n4]at hpo
 have HL:=hide (fy hc)
 clear n1 n2 n3 n4 n5 n6 h
 go_wp2_with fail
 go_region_law(first
  |(refine fx rfl (.tmp 67) (.tmp 72) 45 rfl 3 i0 _ 1 8 underlying45 hi hz0 hz1 hz2 rfl (by decide) R.name.a (lx m c).name.length R.name.cap ((lx m c).name.map (Value.int .i64)) (by simp[Act.eval]) (bh h1.qx _) ⟨w1.heap.size,0,none⟩ 1 1 ([(lw (bb c))].map (Value.int .i64)) (by simp[Act.eval]) rfl (by exact ii _ _ _ _ (by rfl)) (km _) (by decide) (ae HZ).1 (ae HZ).2 ?_;intro a' cap' w3 hown hgrow hfresh;obtain⟨hok,hfr⟩:=nu (y:=[_]) hown hfresh;obtain⟨hself,hT⟩:=h1.ux ((More.refl _).alloc _) _ ⟨some a',cap'⟩ hok hgrow (by simpa[o0]using hfr) (ny h1.ok.name (fun d hd=>by rw[de.1 hd];exact ae HX));have eN:w3.cell? ⟨b,14,none⟩=some (.slice R.name.a (lx m c).name.length R.name.cap):=bg hself 14;have ef:=bn hself)
  |(go_simp;go_at_call 231;refine(ae HN).mono ?_;rintro e w1⟨tl,ta,rfl,h1⟩;have d1:w1.cell? ⟨b,14,none⟩=some (.slice R.name.a (lx m c).name.length R.name.cap):=h1.cell 14;have l1:=h1.obj.lt)
  |(go_simp;go_at_call 228;refine(pg (bb c) _ (by have:=(ae HL).1;omega) (ae HL).2).mono ?_;rintro e w2⟨rfl,hw2⟩;rw[hw2]))
 all_goals
  simp only[aq,ai,ak,ja]at hT
  have t1:=hT.cell 1
  simp only[mc]at t1
  have tf:=hT.frozen
  have HE:=hide (Mk.setPos ((lx m c).pos+1) (by exact ae HP) hT.out)
  clear hT h1 hok hfr hown hgrow hfresh
  go_wp2
  first|go_end0|((try simp only[Exit.inBlock,Exit.then]);refine ap (av rfl _ _ _) rfl ?_)
  exact⟨rfl,ae HE⟩
theorem Lz(c:Int)(hc:Pt c)(hst:m.state=29)(h:Mz w0 aj b ex g 64 m w):
  Calls prog 189 #[.pointer (some ⟨b,0,none⟩),.int .i64 c] w fun e w'=>e= .returned (.tuple #[])∧Mk w0 aj b (js m c) ex w':=by
 have c5:=h.c5
 rw[hst,show qc 29=[75,73,78,68,69,78,68]from rfl]at c5
 by_cases n62:c=62
 ·subst n62
  rw[show js m 62=pc (dw m m.odd) 0 by simp[js,hst]]
  have gj:ba 62=false:=rfl
  go_enter func189,ntmps189
  go_wp2_with fail
  refine(eo 62 _).mono ?_
  rintro e w1⟨rfl,rfl⟩
  have c21:=h.c21
  go_wp2_with fail
  refine(y8 m.odd h).mono ?_
  rintro e w2⟨rfl,h1⟩
  go_wp2_with fail
  refine(p8 0 h1).mono ?_
  rintro e w3⟨rfl,h2⟩
  go_wp2
  first|go_end0|((try simp only[Exit.inBlock,Exit.then]);refine ap (av rfl _ _ _) rfl ?_)
  exact⟨rfl,h2⟩
 by_cases be:ba c=true
 ·rw[show js m c=on m by simp[js,hst,n62,be]]
  have e62:(c==62)=false:=af.2 n62
  clear n62
  go_enter func189,ntmps189
  go_wp2_with fail
  refine(eo c _).mono ?_
  rintro e w1⟨rfl,rfl⟩
  have f1:=h.frozen
  have p1:=h.c1
  have q1:=h.pos
  have h1:=h.on
  go_wp2
  first|go_end0|((try simp only[Exit.inBlock,Exit.then]);refine ap (av rfl _ _ _) rfl ?_)
  exact⟨rfl,h1⟩
 rw[show js m c=st ({err m [107,105,110,100]with odd:=true}) 30 by simp[js,hst,n62,be]]
 have e62:(c==62)=false:=af.2 n62
 have gj:=az.2 be
 clear n62 be
 go_enter func189,ntmps189
 go_wp2_with fail
 refine(eo c _).mono ?_
 rintro e w1⟨rfl,rfl⟩
 go_wp2_with fail
 refine(qe [107,105,110,100] h).mono ?_
 rintro e w2⟨rfl,h1⟩
 have f2:=h1.frozen
 obtain⟨ztd,zte⟩:=h1.some 21 (by decide)
 have h2:=h1.Um true
 have f3:=h2.frozen
 obtain⟨zl9,zma⟩:=h2.some 5 (by decide)
 have h3:=h2.setState 30
 go_wp2
 first|go_end0|((try simp only[Exit.inBlock,Exit.then]);refine ap (av rfl _ _ _) rfl ?_)
 exact⟨rfl,h3.rep⟩
theorem Jv(c:Int)(hc:Pt c)(hst:m.state=30)(h:Mz w0 aj b ex g 64 m w):
  Calls prog 189 #[.pointer (some ⟨b,0,none⟩),.int .i64 c] w fun e w'=>e= .returned (.tuple #[])∧Mk w0 aj b (js m c) ex w':=by
 have c5:=h.c5
 rw[hst,show qc 30=[75,73,78,68,82,69,83,84]from rfl]at c5
 by_cases n62:c=62
 ·subst n62
  rw[show js m 62=pc (dw m m.odd) 0 by simp[js,hst]]
  have gj:ba 62=false:=rfl
  go_enter func189,ntmps189
  go_wp2_with fail
  refine(eo 62 _).mono ?_
  rintro e w1⟨rfl,rfl⟩
  have c21:=h.c21
  go_wp2_with fail
  refine(y8 m.odd h).mono ?_
  rintro e w2⟨rfl,h1⟩
  go_wp2_with fail
  refine(p8 0 h1).mono ?_
  rintro e w3⟨rfl,h2⟩
  go_wp2
  first|go_end0|((try simp only[Exit.inBlock,Exit.then]);refine ap (av rfl _ _ _) rfl ?_)
  exact⟨rfl,h2⟩
 rw[show js m c=on (lx m c) by simp[js,hst,n62]]
 have e62:(c==62)=false:=af.2 n62
 clear n62
 go_enter func189,ntmps189
 go_wp2_with fail
 refine(eo c _).mono ?_
 rintro e w1⟨rfl,rfl⟩
 go_wp2_with fail
 refine(Xe c h).mono ?_
 rintro e w2⟨rfl,h1⟩
 have f2:=h1.frozen
 have p2:=h1.c1
 have q2:=h1.pos
 have h2:=h1.on
 go_wp2
 first|go_end0|((try simp only[Exit.inBlock,Exit.then]);refine ap (av rfl _ _ _) rfl ?_)
 exact⟨rfl,h2⟩
theorem Xr(c:Int)(hc:Pt c)(hst:m.state=4)(h:Mz w0 aj b ex g 64 m w):
  Calls prog 182 #[.pointer (some ⟨b,0,none⟩),.int .i64 c] w fun e w'=>e= .returned (.tuple #[])∧Mk w0 aj b (opens m c) ex w':=by
 have c5:=h.c5
 rw[hst,show qc 4=[67,76,79,83,69]from rfl]at c5
 by_cases k9:br c=true
 ·rw[show opens m c=st (newTag m 2) 8 by simp[opens,hst,k9]]
  go_enter func182,ntmps182
  go_wp2_with fail
  refine(nr c _).mono ?_
  rintro e w1⟨rfl,rfl⟩
  go_wp2_with fail
  refine(Nm 2 h).mono ?_
  rintro e w2⟨rfl,h1⟩
  have f2:=h1.frozen
  obtain⟨Eu,Ev⟩:=h1.some 5 (by decide)
  have h2:=h1.setState 8
  go_wp2
  first|go_end0|((try simp only[Exit.inBlock,Exit.then]);refine ap (av rfl _ _ _) rfl ?_)
  exact⟨rfl,h2.rep⟩
 by_cases n62:c=62
 ·subst n62
  rw[show opens m 62=pc (err m [110,111,45,110,97,109,101]) 0 by simp[opens,hst,k9]]
  have ug:br 62=false:=rfl
  clear k9
  go_enter func182,ntmps182
  go_wp2_with fail
  refine(nr 62 _).mono ?_
  rintro e w1⟨rfl,rfl⟩
  go_wp2_with fail
  refine(qe [110,111,45,110,97,109,101] h).mono ?_
  rintro e w2⟨rfl,h1⟩
  go_wp2_with fail
  refine(p8 0 h1).mono ?_
  rintro e w3⟨rfl,h2⟩
  go_wp2
  first|go_end0|((try simp only[Exit.inBlock,Exit.then]);refine ap (av rfl _ _ _) rfl ?_)
  exact⟨rfl,h2⟩
 rw[show opens m c=st ({err m [102,105,114,115,116]with name:=[]}) 19 by simp[opens,hst,k9,n62]]
 have ug:=az.2 k9
 have e62:(c==62)=false:=af.2 n62
 clear k9 n62
 go_enter func182,ntmps182
 go_wp2_with fail
 refine(nr c _).mono ?_
 rintro e w1⟨rfl,rfl⟩
 go_wp2_with fail
 refine(qe [102,105,114,115,116] h).mono ?_
 rintro e w2⟨rfl,h1⟩
 have f2:=h1.frozen
 obtain⟨zo4,zo5⟩:=h1.some 14 (by decide)
 have h2:=h1.qy
 have f3:=h2.frozen
 obtain⟨zl9,zma⟩:=h2.some 5 (by decide)
 have h3:=h2.setState 19
 go_wp2
 first|go_end0|((try simp only[Exit.inBlock,Exit.then]);refine ap (av rfl _ _ _) rfl ?_)
 exact⟨rfl,h3.rep⟩
theorem za0(c:Int)(hc:Pt c)(hst:m.state=3)(h:Mz w0 aj b ex g 64 m w):
  Calls prog 182 #[.pointer (some ⟨b,0,none⟩),.int .i64 c] w fun e w'=>e= .returned (.tuple #[])∧Mk w0 aj b (opens m c) ex w':=by
 have c5:=h.c5
 rw[hst,show qc 3=[79,80,69,78]from rfl]at c5
 by_cases n33:c=33
 ·subst n33
  rw[show opens m 33=pc m 18 by simp[opens,hst]]
  have ug:br 33=false:=rfl
  go_enter func182,ntmps182
  go_wp2_with fail
  refine(nr 33 _).mono ?_
  rintro e w1⟨rfl,rfl⟩
  go_wp2_with fail
  refine(p8 18 h).mono ?_
  rintro e w2⟨rfl,h1⟩
  go_wp2
  first|go_end0|((try simp only[Exit.inBlock,Exit.then]);refine ap (av rfl _ _ _) rfl ?_)
  exact⟨rfl,h1⟩
 by_cases n47:c=47
 ·subst n47
  rw[show opens m 47=pc m 4 by simp[opens,hst]]
  have ug:br 47=false:=rfl
  go_enter func182,ntmps182
  go_wp2_with fail
  refine(nr 47 _).mono ?_
  rintro e w1⟨rfl,rfl⟩
  go_wp2_with fail
  refine(p8 4 h).mono ?_
  rintro e w2⟨rfl,h1⟩
  go_wp2
  first|go_end0|((try simp only[Exit.inBlock,Exit.then]);refine ap (av rfl _ _ _) rfl ?_)
  exact⟨rfl,h1⟩
 by_cases k9:br c=true
 ·rw[show opens m c=st (newTag m 1) 8 by simp[opens,hst,n33,n47,k9]]
  have e33:(c==33)=false:=af.2 n33
  have e47:(c==47)=false:=af.2 n47
  clear n33 n47
  go_enter func182,ntmps182
  go_wp2_with fail
  refine(nr c _).mono ?_
  rintro e w1⟨rfl,rfl⟩
  go_wp2_with fail
  refine(Nm 1 h).mono ?_
  rintro e w2⟨rfl,h1⟩
  have f2:=h1.frozen
  obtain⟨Eu,Ev⟩:=h1.some 5 (by decide)
  have h2:=h1.setState 8
  go_wp2
  first|go_end0|((try simp only[Exit.inBlock,Exit.then]);refine ap (av rfl _ _ _) rfl ?_)
  exact⟨rfl,h2.rep⟩
 by_cases n63:c=63
 ·subst n63
  rw[show opens m 63=st ({err m [113,117,101,115,116,105,111,110]with name:=[]}) 19 by simp[opens,hst,k9]]
  have ug:br 63=false:=rfl
  clear k9
  go_enter func182,ntmps182
  go_wp2_with fail
  refine(nr 63 _).mono ?_
  rintro e w1⟨rfl,rfl⟩
  go_wp2_with fail
  refine(qe [113,117,101,115,116,105,111,110] h).mono ?_
  rintro e w2⟨rfl,h1⟩
  have f2:=h1.frozen
  obtain⟨zo4,zo5⟩:=h1.some 14 (by decide)
  have h2:=h1.qy
  have f3:=h2.frozen
  obtain⟨zl9,zma⟩:=h2.some 5 (by decide)
  have h3:=h2.setState 19
  go_wp2
  first|go_end0|((try simp only[Exit.inBlock,Exit.then]);refine ap (av rfl _ _ _) rfl ?_)
  exact⟨rfl,h3.rep⟩
 rw[show opens m c=st (say (err m [102,105,114,115,116]) [60]) 0 by simp[opens,hst,n33,n47,k9,n63]]
 have e33:(c==33)=false:=af.2 n33
 have e47:(c==47)=false:=af.2 n47
 have ug:=az.2 k9
 have e63:(c==63)=false:=af.2 n63
 clear n33 n47 k9 n63
 go_enter func182,ntmps182
 go_wp2_with fail
 refine(nr c _).mono ?_
 rintro e w1⟨rfl,rfl⟩
 go_wp2_with fail
 refine(qe [102,105,114,115,116] h).mono ?_
 rintro e w2⟨rfl,h1⟩
 go_wp2_with fail
 refine(Nn [60] (by decide) h1).mono ?_
 rintro e w3⟨rfl,h2⟩
 have f3:=h2.frozen
 obtain⟨zl9,zma⟩:=h2.some 5 (by decide)
 have h3:=h2.setState 0
 go_wp2
 first|go_end0|((try simp only[Exit.inBlock,Exit.then]);refine ap (av rfl _ _ _) rfl ?_)
 exact⟨rfl,h3.rep⟩
theorem zel(c:Int)(hc:Pt c)(hst:m.state=0)(h:Mz w0 aj b ex g 64 m w):
  Calls prog 181 #[.pointer (some ⟨b,0,none⟩),.int .i64 c] w fun e w'=>e= .returned (.tuple #[])∧Mk w0 aj b (text m c) ex w':=by
 have c5:=h.c5
 rw[hst,show qc 0=[68,65,84,65]from rfl]at c5
 obtain⟨i0,hi,hz0,hz1,hz2⟩:=info_parts qa
 by_cases n38:c=38
 ·subst n38
  rw[show text m 38=pc ({m with back:=0}) 31 by simp[text,hst]]
  go_enter func181,ntmps181
  have f1:=h.frozen
  obtain⟨zka,zkb⟩:=h.some 7 (by decide)
  have h1:=h.C2 0
  go_wp2_with fail
  refine(p8 31 h1).mono ?_
  rintro e w3⟨rfl,h2⟩
  go_wp2
  first|go_end0|((try simp only[Exit.inBlock,Exit.then]);refine ap (av rfl _ _ _) rfl ?_)
  exact⟨rfl,h2⟩
 by_cases n60:c=60
 ·subst n60
  rw[show text m 60=pc m 3 by simp[text,hst]]
  go_enter func181,ntmps181
  go_wp2_with fail
  refine(p8 3 h).mono ?_
  rintro e w2⟨rfl,h1⟩
  go_wp2
  first|go_end0|((try simp only[Exit.inBlock,Exit.then]);refine ap (av rfl _ _ _) rfl ?_)
  exact⟨rfl,h1⟩
 rw[show text m c=ke (lx m c) c by simp[text,hst,n38,n60]]
 have e38:(c==38)=false:=af.2 n38
 have e60:(c==60)=false:=af.2 n60
 clear n38 n60
 go_enter func181,ntmps181
 go_wp2_with fail
 refine(Xe c h).mono ?_
 rintro e w2⟨rfl,h1⟩
 obtain⟨R,hR⟩:=h1.rep
 have cN:w2.cell? ⟨b,4,none⟩=some (.slice R.text.a (lx m c).text.length R.text.cap):=hR.cell 4
 have cf:=hR.frozen
 have HR:=hide hR.px
 have HZ:=hide (vg (n:=(lx m c).text.length+1) (by have:=h1.sz;unfold mj at this;omega))
 have hpo:=h1.pos
 go_wp2_with(at_builtin;refine dh _ rfl (.tmp 59) (.tmp 61) 45 rfl 3 i0 _ 1 8 underlying45 hi hz0 hz1 hz2 rfl (by decide) R.text.a (lx m c).text.length R.text.cap ((lx m c).text.map (Value.int .i64)) rfl (bh (ae HR) _) ⟨w2.heap.size,0,none⟩ 1 1 ([c].map (Value.int .i64)) rfl rfl (ii _ _ _ _ rfl) (km _) (by decide) (ae HZ).1 (ae HZ).2 ?next)
 case next=>
  intro a' cap' w8 hown hgrow hfresh
  obtain⟨hok,hfr⟩:=nu (y:=[_]) (r:=R.text) (W1:=w2.alloc (.cells #[.int .i64 c] 3)) hown (by simpa using hfresh)
  obtain⟨hself,hT⟩:=hR.po ((More.refl _).alloc _) _ ⟨some a',cap'⟩ hok hgrow (by simpa[o0]using hfr) (ny hR.ok.text (fun d hd=>by rw[de.1 hd];exact hc))
  have eN:w8.cell? ⟨b,4,none⟩=some (.slice R.text.a (lx m c).text.length R.text.cap):=bg hself 4
  have ef:=bn hself
  simp only[aq,ai,ak,ja]at hT
  have t1:=hT.cell 1
  have tf:=hT.frozen
  simp only[mc]at t1
  have HE:=hide (Mk.setPos ((lx m c).pos+1) (by exact h1.ps) hT.out)
  clear hT hok hfr hown hgrow hfresh
  go_wp2
  first|go_end0|((try simp only[Exit.inBlock,Exit.then]);refine ap (av rfl _ _ _) rfl ?_)
  exact⟨rfl,ae HE⟩
theorem za1(c:Int)(hc:Pt c)(hst:m.state=1)(h:Mz w0 aj b ex g 64 m w):
  Calls prog 181 #[.pointer (some ⟨b,0,none⟩),.int .i64 c] w fun e w'=>e= .returned (.tuple #[])∧Mk w0 aj b (text m c) ex w':=by
 have c5:=h.c5
 rw[hst,show qc 1=[84,73,84,76,69]from rfl]at c5
 obtain⟨i0,hi,hz0,hz1,hz2⟩:=info_parts qa
 by_cases n38:c=38
 ·subst n38
  rw[show text m 38=pc ({m with back:=1}) 31 by simp[text,hst]]
  go_enter func181,ntmps181
  have f1:=h.frozen
  obtain⟨zka,zkb⟩:=h.some 7 (by decide)
  have h1:=h.C2 1
  go_wp2_with fail
  refine(p8 31 h1).mono ?_
  rintro e w3⟨rfl,h2⟩
  go_wp2
  first|go_end0|((try simp only[Exit.inBlock,Exit.then]);refine ap (av rfl _ _ _) rfl ?_)
  exact⟨rfl,h2⟩
 by_cases n60:c=60
 ·subst n60
  rw[show text m 60=pc ({m with base:=1}) 5 by simp[text,hst]]
  go_enter func181,ntmps181
  have f1:=h.frozen
  obtain⟨zrr,zrs⟩:=h.some 6 (by decide)
  have h1:=h.Mw 1
  go_wp2_with fail
  refine(p8 5 h1).mono ?_
  rintro e w3⟨rfl,h2⟩
  go_wp2
  first|go_end0|((try simp only[Exit.inBlock,Exit.then]);refine ap (av rfl _ _ _) rfl ?_)
  exact⟨rfl,h2⟩
 rw[show text m c=ke (lx m c) (bb c) by simp[text,hst,n38,n60]]
 have e38:(c==38)=false:=af.2 n38
 have e60:(c==60)=false:=af.2 n60
 clear n38 n60
 go_enter func181,ntmps181
 go_wp2_with fail
 refine(Xe c h).mono ?_
 rintro e w2⟨rfl,h1⟩
 obtain⟨R,hR⟩:=h1.rep
 have cN:w2.cell? ⟨b,4,none⟩=some (.slice R.text.a (lx m c).text.length R.text.cap):=hR.cell 4
 have cf:=hR.frozen
 have HR:=hide hR.px
 have HZ:=hide (vg (n:=(lx m c).text.length+1) (by have:=h1.sz;unfold mj at this;omega))
 have hpo:=h1.pos
 go_wp2_with(at_builtin;refine dh _ rfl (.tmp 59) (.tmp 61) 45 rfl 3 i0 _ 1 8 underlying45 hi hz0 hz1 hz2 rfl (by decide) R.text.a (lx m c).text.length R.text.cap ((lx m c).text.map (Value.int .i64)) rfl (bh (ae HR) _) ⟨w2.heap.size,0,none⟩ 1 1 ([(bb c)].map (Value.int .i64)) rfl rfl (ii _ _ _ _ rfl) (km _) (by decide) (ae HZ).1 (ae HZ).2 ?next)
 case next=>
  intro a' cap' w8 hown hgrow hfresh
  obtain⟨hok,hfr⟩:=nu (y:=[_]) (r:=R.text) (W1:=w2.alloc (.cells #[.int .i64 (bb c)] 3)) hown (by simpa using hfresh)
  obtain⟨hself,hT⟩:=hR.po ((More.refl _).alloc _) _ ⟨some a',cap'⟩ hok hgrow (by simpa[o0]using hfr) (ny hR.ok.text (fun d hd=>by rw[de.1 hd];exact fy hc))
  have eN:w8.cell? ⟨b,4,none⟩=some (.slice R.text.a (lx m c).text.length R.text.cap):=bg hself 4
  have ef:=bn hself
  simp only[aq,ai,ak,ja]at hT
  have t1:=hT.cell 1
  have tf:=hT.frozen
  simp only[mc]at t1
  have HE:=hide (Mk.setPos ((lx m c).pos+1) (by exact h1.ps) hT.out)
  clear hT hok hfr hown hgrow hfresh
  go_wp2
  first|go_end0|((try simp only[Exit.inBlock,Exit.then]);refine ap (av rfl _ _ _) rfl ?_)
  exact⟨rfl,ae HE⟩
theorem zg0(c:Int)(hc:Pt c)(hst:m.state=2)(h:Mz w0 aj b ex g 64 m w):
  Calls prog 181 #[.pointer (some ⟨b,0,none⟩),.int .i64 c] w fun e w'=>e= .returned (.tuple #[])∧Mk w0 aj b (text m c) ex w':=by
 have c5:=h.c5
 rw[hst,show qc 2=[82,65,87]from rfl]at c5
 obtain⟨i0,hi,hz0,hz1,hz2⟩:=info_parts qa
 by_cases n38:c=38
 ·subst n38
  rw[show text m 38=ke (lx m 38) (bb 38) by simp[text,hst]]
  go_enter func181,ntmps181
  go_wp2_with fail
  refine(Xe 38 h).mono ?_
  rintro e w2⟨rfl,h1⟩
  obtain⟨R,hR⟩:=h1.rep
  have cN:w2.cell? ⟨b,4,none⟩=some (.slice R.text.a (lx m 38).text.length R.text.cap):=hR.cell 4
  have cf:=hR.frozen
  have HR:=hide hR.px
  have HZ:=hide (vg (n:=(lx m 38).text.length+1) (by have:=h1.sz;unfold mj at this;omega))
  have hpo:=h1.pos
  go_wp2_with(at_builtin;refine dh _ rfl (.tmp 59) (.tmp 61) 45 rfl 3 i0 _ 1 8 underlying45 hi hz0 hz1 hz2 rfl (by decide) R.text.a (lx m 38).text.length R.text.cap ((lx m 38).text.map (Value.int .i64)) rfl (bh (ae HR) _) ⟨w2.heap.size,0,none⟩ 1 1 ([(bb 38)].map (Value.int .i64)) rfl rfl (ii _ _ _ _ rfl) (km _) (by decide) (ae HZ).1 (ae HZ).2 ?next)
  case next=>
   intro a' cap' w8 hown hgrow hfresh
   obtain⟨hok,hfr⟩:=nu (y:=[_]) (r:=R.text) (W1:=w2.alloc (.cells #[.int .i64 (bb 38)] 3)) hown (by simpa using hfresh)
   obtain⟨hself,hT⟩:=hR.po ((More.refl _).alloc _) _ ⟨some a',cap'⟩ hok hgrow (by simpa[o0]using hfr) (ny hR.ok.text (fun d hd=>by rw[de.1 hd];exact fy hc))
   have eN:w8.cell? ⟨b,4,none⟩=some (.slice R.text.a (lx m 38).text.length R.text.cap):=bg hself 4
   have ef:=bn hself
   simp only[aq,ai,ak,ja]at hT
   have t1:=hT.cell 1
   have tf:=hT.frozen
   simp only[mc]at t1
   have HE:=hide (Mk.setPos ((lx m 38).pos+1) (by exact h1.ps) hT.out)
   clear hT hok hfr hown hgrow hfresh
   go_wp2
   first|go_end0|((try simp only[Exit.inBlock,Exit.then]);refine ap (av rfl _ _ _) rfl ?_)
   exact⟨rfl,ae HE⟩
 by_cases n60:c=60
 ·subst n60
  rw[show text m 60=pc ({m with base:=2}) 5 by simp[text,hst]]
  go_enter func181,ntmps181
  have f1:=h.frozen
  obtain⟨zrr,zrs⟩:=h.some 6 (by decide)
  have h1:=h.Mw 2
  go_wp2_with fail
  refine(p8 5 h1).mono ?_
  rintro e w3⟨rfl,h2⟩
  go_wp2
  first|go_end0|((try simp only[Exit.inBlock,Exit.then]);refine ap (av rfl _ _ _) rfl ?_)
  exact⟨rfl,h2⟩
 rw[show text m c=ke (lx m c) (bb c) by simp[text,hst,n38,n60]]
 have e38:(c==38)=false:=af.2 n38
 have e60:(c==60)=false:=af.2 n60
 clear n38 n60
 go_enter func181,ntmps181
 go_wp2_with fail
 refine(Xe c h).mono ?_
 rintro e w2⟨rfl,h1⟩
 obtain⟨R,hR⟩:=h1.rep
 have cN:w2.cell? ⟨b,4,none⟩=some (.slice R.text.a (lx m c).text.length R.text.cap):=hR.cell 4
 have cf:=hR.frozen
 have HR:=hide hR.px
 have HZ:=hide (vg (n:=(lx m c).text.length+1) (by have:=h1.sz;unfold mj at this;omega))
 have hpo:=h1.pos
 go_wp2_with(at_builtin;refine dh _ rfl (.tmp 59) (.tmp 61) 45 rfl 3 i0 _ 1 8 underlying45 hi hz0 hz1 hz2 rfl (by decide) R.text.a (lx m c).text.length R.text.cap ((lx m c).text.map (Value.int .i64)) rfl (bh (ae HR) _) ⟨w2.heap.size,0,none⟩ 1 1 ([(bb c)].map (Value.int .i64)) rfl rfl (ii _ _ _ _ rfl) (km _) (by decide) (ae HZ).1 (ae HZ).2 ?next)
 case next=>
  intro a' cap' w8 hown hgrow hfresh
  obtain⟨hok,hfr⟩:=nu (y:=[_]) (r:=R.text) (W1:=w2.alloc (.cells #[.int .i64 (bb c)] 3)) hown (by simpa using hfresh)
  obtain⟨hself,hT⟩:=hR.po ((More.refl _).alloc _) _ ⟨some a',cap'⟩ hok hgrow (by simpa[o0]using hfr) (ny hR.ok.text (fun d hd=>by rw[de.1 hd];exact fy hc))
  have eN:w8.cell? ⟨b,4,none⟩=some (.slice R.text.a (lx m c).text.length R.text.cap):=bg hself 4
  have ef:=bn hself
  simp only[aq,ai,ak,ja]at hT
  have t1:=hT.cell 1
  have tf:=hT.frozen
  simp only[mc]at t1
  have HE:=hide (Mk.setPos ((lx m c).pos+1) (by exact h1.ps) hT.out)
  clear hT hok hfr hown hgrow hfresh
  go_wp2
  first|go_end0|((try simp only[Exit.inBlock,Exit.then]);refine ap (av rfl _ _ _) rfl ?_)
  exact⟨rfl,ae HE⟩
theorem zem(c:Int)(hc:Pt c)(hst:m.state=5)(h:Mz w0 aj b ex g 64 m w):
  Calls prog 183 #[.pointer (some ⟨b,0,none⟩),.int .i64 c] w fun e w'=>e= .returned (.tuple #[])∧Mk w0 aj b (less m c) ex w':=by
 have c5:=h.c5
 rw[hst,show qc 5=[76,69,83,83]from rfl]at c5
 by_cases n47:c=47
 ·subst n47
  rw[show less m 47=pc m 6 by simp[less,hst]]
  have ug:br 47=false:=rfl
  go_enter func183,ntmps183
  go_wp2_with fail
  refine(nr 47 _).mono ?_
  rintro e w1⟨rfl,rfl⟩
  go_wp2_with fail
  refine(p8 6 h).mono ?_
  rintro e w2⟨rfl,h1⟩
  go_wp2
  first|go_end0|((try simp only[Exit.inBlock,Exit.then]);refine ap (av rfl _ _ _) rfl ?_)
  exact⟨rfl,h1⟩
 rw[show less m c=st (say m [60]) m.base by simp[less,hst,n47]]
 have e47:(c==47)=false:=af.2 n47
 clear n47
 go_enter func183,ntmps183
 go_wp2_with fail
 refine(nr c _).mono ?_
 rintro e w1⟨rfl,rfl⟩
 go_wp2_with fail
 refine(Nn [60] (by decide) h).mono ?_
 rintro e w2⟨rfl,h1⟩
 have f2:=h1.frozen
 obtain⟨Eu,Ev⟩:=h1.some 5 (by decide)
 have b2:=h1.c6
 have h2:=h1.setState m.base
 go_wp2
 first|go_end0|((try simp only[Exit.inBlock,Exit.then]);refine ap (av rfl _ _ _) rfl ?_)
 exact⟨rfl,h2.rep⟩
theorem Nt(c:Int)(hc:Pt c)(hst:m.state=6)(h:Mz w0 aj b ex g 64 m w):
  Calls prog 183 #[.pointer (some ⟨b,0,none⟩),.int .i64 c] w fun e w'=>e= .returned (.tuple #[])∧Mk w0 aj b (less m c) ex w':=by
 have c5:=h.c5
 rw[hst,show qc 6=[76,69,83,83,67,76,79,83,69]from rfl]at c5
 by_cases k9:br c=true
 ·rw[show less m c=st (newTag m 2) 7 by simp[less,hst,k9]]
  go_enter func183,ntmps183
  go_wp2_with fail
  refine(nr c _).mono ?_
  rintro e w1⟨rfl,rfl⟩
  go_wp2_with fail
  refine(Nm 2 h).mono ?_
  rintro e w2⟨rfl,h1⟩
  have f2:=h1.frozen
  obtain⟨Eu,Ev⟩:=h1.some 5 (by decide)
  have h2:=h1.setState 7
  go_wp2
  first|go_end0|((try simp only[Exit.inBlock,Exit.then]);refine ap (av rfl _ _ _) rfl ?_)
  exact⟨rfl,h2.rep⟩
 rw[show less m c=st (say m [60,47]) m.base by simp[less,hst,k9]]
 have ug:=az.2 k9
 clear k9
 go_enter func183,ntmps183
 go_wp2_with fail
 refine(nr c _).mono ?_
 rintro e w1⟨rfl,rfl⟩
 go_wp2_with fail
 refine(Nn [60,47] (by decide) h).mono ?_
 rintro e w2⟨rfl,h1⟩
 have f2:=h1.frozen
 obtain⟨Eu,Ev⟩:=h1.some 5 (by decide)
 have b2:=h1.c6
 have h2:=h1.setState m.base
 go_wp2
 first|go_end0|((try simp only[Exit.inBlock,Exit.then]);refine ap (av rfl _ _ _) rfl ?_)
 exact⟨rfl,h2.rep⟩
end
end Go.Proofs.YtdfmapcnfficlaaGreatDoor.M

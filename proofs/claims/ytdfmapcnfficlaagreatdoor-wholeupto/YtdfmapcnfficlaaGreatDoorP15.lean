import Derived.Test.YtdfmapcnfficlaaGreatDoorP10
set_option linter.all false
set_option maxHeartbeats 4000000
set_option maxRecDepth 1000000
namespace Go.Proofs.YtdfmapcnfficlaaGreatDoor.M
open Go.Proofs.Tryz
open Go Go.RowKit Go.Proofs.YtdfmapcnfficlaaGreatDoor
section
variable{w0:World}{aj:Nat→Prop}{b:Nat}{m:MS}{ex:List Item}{w:World}{g:Bool}
theorem Ra(c:Int)(hc:Pt c)(hst:m.state=12)(h:Mz w0 aj b ex true 64 m w):
  Calls prog 185 #[.pointer (some ⟨b,0,none⟩),.int .i64 c] w fun e w'=>e= .returned (.tuple #[])∧Mk w0 aj b (around m c) ex w':=by
 have c5:=h.c5
 rw[hst,show qc 12=[69,81,85,65,76,83]from rfl]at c5
 by_cases be:ba c=true
 ·rw[show around m c=on m by simp[around,hst,be]]
  go_enter func185,ntmps185
  go_wp2_with fail
  refine(eo c _).mono ?_
  rintro e w1⟨rfl,rfl⟩
  have f1:=h.frozen
  have p1:=h.c1
  have q1:=h.pos
  have h1:=h.on
  go_wp2
  first|go_end0|((try simp only[Exit.inBlock,Exit.then]);refine ap (av rfl _ _ _) rfl ?_)
  exact⟨rfl,h1⟩
 by_cases n34:c=34
 ·subst n34
  rw[show around m 34=pc m 13 by simp[around,hst,be]]
  have gj:ba 34=false:=rfl
  clear be
  go_enter func185,ntmps185
  go_wp2_with fail
  refine(eo 34 _).mono ?_
  rintro e w1⟨rfl,rfl⟩
  go_wp2_with fail
  refine(p8 13 h).mono ?_
  rintro e w2⟨rfl,h1⟩
  go_wp2
  first|go_end0|((try simp only[Exit.inBlock,Exit.then]);refine ap (av rfl _ _ _) rfl ?_)
  exact⟨rfl,h1⟩
 by_cases n39:c=39
 ·subst n39
  rw[show around m 39=pc m 14 by simp[around,hst,be]]
  have gj:ba 39=false:=rfl
  clear be
  go_enter func185,ntmps185
  go_wp2_with fail
  refine(eo 39 _).mono ?_
  rintro e w1⟨rfl,rfl⟩
  go_wp2_with fail
  refine(p8 14 h).mono ?_
  rintro e w2⟨rfl,h1⟩
  go_wp2
  first|go_end0|((try simp only[Exit.inBlock,Exit.then]);refine ap (av rfl _ _ _) rfl ?_)
  exact⟨rfl,h1⟩
 by_cases n62:c=62
 ·subst n62
  rw[show around m 62=ot (err m [110,111,45,118,97,108,117,101]) by simp[around,hst,be]]
  have gj:ba 62=false:=rfl
  clear be
  go_enter func185,ntmps185
  go_wp2_with fail
  refine(eo 62 _).mono ?_
  rintro e w1⟨rfl,rfl⟩
  go_wp2_with fail
  refine(qe [110,111,45,118,97,108,117,101] h).mono ?_
  rintro e w2⟨rfl,h1⟩
  go_wp2_with fail
  refine(An h1).mono ?_
  rintro e w3⟨rfl,h2⟩
  go_wp2
  first|go_end0|((try simp only[Exit.inBlock,Exit.then]);refine ap (av rfl _ _ _) rfl ?_)
  exact⟨rfl,h2⟩
 rw[show around m c=st m 15 by simp[around,hst,be,n34,n39,n62]]
 have gj:=az.2 be
 have e34:(c==34)=false:=af.2 n34
 have e39:(c==39)=false:=af.2 n39
 have e62:(c==62)=false:=af.2 n62
 clear be n34 n39 n62
 go_enter func185,ntmps185
 go_wp2_with fail
 refine(eo c _).mono ?_
 rintro e w1⟨rfl,rfl⟩
 have f1:=h.frozen
 obtain⟨zj7,zj8⟩:=h.some 5 (by decide)
 have h1:=h.setState 15
 go_wp2
 first|go_end0|((try simp only[Exit.inBlock,Exit.then]);refine ap (av rfl _ _ _) rfl ?_)
 exact⟨rfl,h1.rep⟩
theorem Uv(c:Int)(hc:Pt c)(hst:m.state=16)(h:Mz w0 aj b ex true 64 m w):
  Calls prog 185 #[.pointer (some ⟨b,0,none⟩),.int .i64 c] w fun e w'=>e= .returned (.tuple #[])∧Mk w0 aj b (around m c) ex w':=by
 have c5:=h.c5
 rw[hst,show qc 16=[86,65,76,85,69]from rfl]at c5
 by_cases be:ba c=true
 ·rw[show around m c=pc m 9 by simp[around,hst,be]]
  go_enter func185,ntmps185
  go_wp2_with fail
  refine(eo c _).mono ?_
  rintro e w1⟨rfl,rfl⟩
  go_wp2_with fail
  refine(p8 9 h).mono ?_
  rintro e w2⟨rfl,h1⟩
  go_wp2
  first|go_end0|((try simp only[Exit.inBlock,Exit.then]);refine ap (av rfl _ _ _) rfl ?_)
  exact⟨rfl,h1⟩
 by_cases n47:c=47
 ·subst n47
  rw[show around m 47=pc m 17 by simp[around,hst,be]]
  have gj:ba 47=false:=rfl
  clear be
  go_enter func185,ntmps185
  go_wp2_with fail
  refine(eo 47 _).mono ?_
  rintro e w1⟨rfl,rfl⟩
  go_wp2_with fail
  refine(p8 17 h).mono ?_
  rintro e w2⟨rfl,h1⟩
  go_wp2
  first|go_end0|((try simp only[Exit.inBlock,Exit.then]);refine ap (av rfl _ _ _) rfl ?_)
  exact⟨rfl,h1⟩
 by_cases n62:c=62
 ·subst n62
  rw[show around m 62=ot m by simp[around,hst,be]]
  have gj:ba 62=false:=rfl
  clear be
  go_enter func185,ntmps185
  go_wp2_with fail
  refine(eo 62 _).mono ?_
  rintro e w1⟨rfl,rfl⟩
  go_wp2_with fail
  refine(An h).mono ?_
  rintro e w2⟨rfl,h1⟩
  go_wp2
  first|go_end0|((try simp only[Exit.inBlock,Exit.then]);refine ap (av rfl _ _ _) rfl ?_)
  exact⟨rfl,h1⟩
 rw[show around m c=st (err m [110,111,45,98,108,97,110,107]) 9 by simp[around,hst,be,n47,n62]]
 have gj:=az.2 be
 have e47:(c==47)=false:=af.2 n47
 have e62:(c==62)=false:=af.2 n62
 clear be n47 n62
 go_enter func185,ntmps185
 go_wp2_with fail
 refine(eo c _).mono ?_
 rintro e w1⟨rfl,rfl⟩
 go_wp2_with fail
 refine(qe [110,111,45,98,108,97,110,107] h).mono ?_
 rintro e w2⟨rfl,h1⟩
 have f2:=h1.frozen
 obtain⟨Eu,Ev⟩:=h1.some 5 (by decide)
 have h2:=h1.setState 9
 go_wp2
 first|go_end0|((try simp only[Exit.inBlock,Exit.then]);refine ap (av rfl _ _ _) rfl ?_)
 exact⟨rfl,h2.rep⟩
theorem Xp(c:Int)(hc:Pt c)(hst:m.state=17)(h:Mz w0 aj b ex true 64 m w):
  Calls prog 185 #[.pointer (some ⟨b,0,none⟩),.int .i64 c] w fun e w'=>e= .returned (.tuple #[])∧Mk w0 aj b (around m c) ex w':=by
 have c5:=h.c5
 rw[hst,show qc 17=[83,69,76,70]from rfl]at c5
 by_cases n62:c=62
 ·subst n62
  rw[show around m 62=ot ({m with flag:=true}) by simp[around,hst]]
  have gj:ba 62=false:=rfl
  go_enter func185,ntmps185
  go_wp2_with fail
  refine(eo 62 _).mono ?_
  rintro e w1⟨rfl,rfl⟩
  have f1:=h.frozen
  obtain⟨ztb,ztc⟩:=h.some 12 (by decide)
  have h1:=h.Ul true
  go_wp2_with fail
  refine(An h1).mono ?_
  rintro e w3⟨rfl,h2⟩
  go_wp2
  first|go_end0|((try simp only[Exit.inBlock,Exit.then]);refine ap (av rfl _ _ _) rfl ?_)
  exact⟨rfl,h2⟩
 rw[show around m c=st (err m [115,108,97,115,104]) 9 by simp[around,hst,n62]]
 have e62:(c==62)=false:=af.2 n62
 clear n62
 go_enter func185,ntmps185
 go_wp2_with fail
 refine(eo c _).mono ?_
 rintro e w1⟨rfl,rfl⟩
 go_wp2_with fail
 refine(qe [115,108,97,115,104] h).mono ?_
 rintro e w2⟨rfl,h1⟩
 have f2:=h1.frozen
 obtain⟨Eu,Ev⟩:=h1.some 5 (by decide)
 have h2:=h1.setState 9
 go_wp2
 first|go_end0|((try simp only[Exit.inBlock,Exit.then]);refine ap (av rfl _ _ _) rfl ?_)
 exact⟨rfl,h2.rep⟩
theorem Uw(c:Int)(hc:Pt c)(hst:m.state=13)(h:Mz w0 aj b ex true 64 m w):
  Calls prog 186 #[.pointer (some ⟨b,0,none⟩),.int .i64 c] w fun e w'=>e= .returned (.tuple #[])∧Mk w0 aj b (value m c) ex w':=by
 have c5:=h.c5
 rw[hst,show qc 13=[68,79,85,66,76,69]from rfl]at c5
 obtain⟨i0,hi,hz0,hz1,hz2⟩:=info_parts qa
 by_cases n34:c=34
 ·subst n34
  rw[show value m 34=pc m 16 by simp[value,hst]]
  have gj:ba 34=false:=rfl
  go_enter func186,ntmps186
  go_wp2_with fail
  refine(eo 34 _).mono ?_
  rintro e w1⟨rfl,rfl⟩
  go_wp2_with fail
  refine(p8 16 h).mono ?_
  rintro e w2⟨rfl,h1⟩
  go_wp2
  first|go_end0|((try simp only[Exit.inBlock,Exit.then]);refine ap (av rfl _ _ _) rfl ?_)
  exact⟨rfl,h1⟩
 by_cases n38:c=38
 ·subst n38
  rw[show value m 38=pc ({m with back:=13}) 31 by simp[value,hst]]
  have gj:ba 38=false:=rfl
  go_enter func186,ntmps186
  go_wp2_with fail
  refine(eo 38 _).mono ?_
  rintro e w1⟨rfl,rfl⟩
  have f1:=h.frozen
  obtain⟨zka,zkb⟩:=h.some 7 (by decide)
  have h1:=h.C2 13
  go_wp2_with fail
  refine(p8 31 h1).mono ?_
  rintro e w3⟨rfl,h2⟩
  go_wp2
  first|go_end0|((try simp only[Exit.inBlock,Exit.then]);refine ap (av rfl _ _ _) rfl ?_)
  exact⟨rfl,h2⟩
 rw[show value m c=im (lx m c) (bb c) by simp[value,hst,n34,n38]]
 have e34:(c==34)=false:=af.2 n34
 have e38:(c==38)=false:=af.2 n38
 clear n34 n38
 go_enter func186,ntmps186
 go_wp2_with fail
 refine(eo c _).mono ?_
 rintro e w1⟨rfl,rfl⟩
 obtain⟨R,hR⟩:=h.rep
 obtain⟨n1,n2,n3,n4,n5,n6⟩:=nz m c
 have cN:w1.cell? ⟨b,17,none⟩=some (.slice R.value.a (lx m c).value.length R.value.cap):=by rw[n3];exact hR.cell 17
 have cf:=hR.frozen
 have hlt:=hR.obj.lt
 have hpo:=h.pos
 have HN:=hide (pp c (hR.more (More.refl _).drew) h.told)
 have HZ:=hide (vg (n:=(lx m c).value.length+1) (by have:=h.sz;rw[n3];unfold mj at this;omega))
 have HX:=hide (fy hc)
 have HP:Hid ((lx m c).pos+1≤(lx m c).l.length):=by rw[n4,n5];exact hide h.ps
 rw[←n4]at hpo
 have HL:=hide (fy hc)
 clear n1 n2 n3 n4 n5 n6 h
 go_wp2_with fail
 go_region_law(first
  |(refine fx rfl (.tmp 40) (.tmp 44) 45 rfl 3 i0 _ 1 8 underlying45 hi hz0 hz1 hz2 rfl (by decide) R.value.a (lx m c).value.length R.value.cap ((lx m c).value.map (Value.int .i64)) (by simp[Act.eval]) (bh h1.uc _) ⟨w1.heap.size,0,none⟩ 1 1 ([(bb c)].map (Value.int .i64)) (by simp[Act.eval]) rfl (by exact ii _ _ _ _ (by rfl)) (km _) (by decide) (ae HZ).1 (ae HZ).2 ?_;intro a' cap' w3 hown hgrow hfresh;obtain⟨hok,hfr⟩:=nu (y:=[_]) hown hfresh;obtain⟨hself,hT⟩:=h1.rl ((More.refl _).alloc _) _ ⟨some a',cap'⟩ hok hgrow (by simpa[o0]using hfr) (ny h1.ok.value (fun d hd=>by rw[de.1 hd];exact ae HX));have eN:w3.cell? ⟨b,17,none⟩=some (.slice R.value.a (lx m c).value.length R.value.cap):=bg hself 17;have ef:=bn hself)
  |(go_simp;go_at_call 231;refine(ae HN).mono ?_;rintro e w1⟨tl,ta,rfl,h1⟩;have d1:w1.cell? ⟨b,17,none⟩=some (.slice R.value.a (lx m c).value.length R.value.cap):=h1.cell 17;have l1:=h1.obj.lt))
 all_goals
  simp only[aq,ai,ak,ja]at hT
  have t1:=hT.cell 1
  simp only[mc]at t1
  have tf:=hT.frozen
  have HE:=hide (Mk.setPos ((lx m c).pos+1) (by exact ae HP) hT.out)
  clear hT h1 hok hfr hown hgrow hfresh
  go_wp2
  first|go_end0|((try simp only[Exit.inBlock,Exit.then]);refine ap (av rfl _ _ _) rfl ?_)
  exact⟨rfl,ae HE⟩
theorem Ux(c:Int)(hc:Pt c)(hst:m.state=14)(h:Mz w0 aj b ex true 64 m w):
  Calls prog 186 #[.pointer (some ⟨b,0,none⟩),.int .i64 c] w fun e w'=>e= .returned (.tuple #[])∧Mk w0 aj b (value m c) ex w':=by
 have c5:=h.c5
 rw[hst,show qc 14=[83,73,78,71,76,69]from rfl]at c5
 obtain⟨i0,hi,hz0,hz1,hz2⟩:=info_parts qa
 by_cases n39:c=39
 ·subst n39
  rw[show value m 39=pc m 16 by simp[value,hst]]
  have gj:ba 39=false:=rfl
  go_enter func186,ntmps186
  go_wp2_with fail
  refine(eo 39 _).mono ?_
  rintro e w1⟨rfl,rfl⟩
  go_wp2_with fail
  refine(p8 16 h).mono ?_
  rintro e w2⟨rfl,h1⟩
  go_wp2
  first|go_end0|((try simp only[Exit.inBlock,Exit.then]);refine ap (av rfl _ _ _) rfl ?_)
  exact⟨rfl,h1⟩
 by_cases n38:c=38
 ·subst n38
  rw[show value m 38=pc ({m with back:=14}) 31 by simp[value,hst]]
  have gj:ba 38=false:=rfl
  go_enter func186,ntmps186
  go_wp2_with fail
  refine(eo 38 _).mono ?_
  rintro e w1⟨rfl,rfl⟩
  have f1:=h.frozen
  obtain⟨zka,zkb⟩:=h.some 7 (by decide)
  have h1:=h.C2 14
  go_wp2_with fail
  refine(p8 31 h1).mono ?_
  rintro e w3⟨rfl,h2⟩
  go_wp2
  first|go_end0|((try simp only[Exit.inBlock,Exit.then]);refine ap (av rfl _ _ _) rfl ?_)
  exact⟨rfl,h2⟩
 rw[show value m c=im (lx m c) (bb c) by simp[value,hst,n39,n38]]
 have e39:(c==39)=false:=af.2 n39
 have e38:(c==38)=false:=af.2 n38
 clear n39 n38
 go_enter func186,ntmps186
 go_wp2_with fail
 refine(eo c _).mono ?_
 rintro e w1⟨rfl,rfl⟩
 obtain⟨R,hR⟩:=h.rep
 obtain⟨n1,n2,n3,n4,n5,n6⟩:=nz m c
 have cN:w1.cell? ⟨b,17,none⟩=some (.slice R.value.a (lx m c).value.length R.value.cap):=by rw[n3];exact hR.cell 17
 have cf:=hR.frozen
 have hlt:=hR.obj.lt
 have hpo:=h.pos
 have HN:=hide (pp c (hR.more (More.refl _).drew) h.told)
 have HZ:=hide (vg (n:=(lx m c).value.length+1) (by have:=h.sz;rw[n3];unfold mj at this;omega))
 have HX:=hide (fy hc)
 have HP:Hid ((lx m c).pos+1≤(lx m c).l.length):=by rw[n4,n5];exact hide h.ps
 rw[←n4]at hpo
 have HL:=hide (fy hc)
 clear n1 n2 n3 n4 n5 n6 h
 go_wp2_with fail
 go_region_law(first
  |(refine fx rfl (.tmp 40) (.tmp 44) 45 rfl 3 i0 _ 1 8 underlying45 hi hz0 hz1 hz2 rfl (by decide) R.value.a (lx m c).value.length R.value.cap ((lx m c).value.map (Value.int .i64)) (by simp[Act.eval]) (bh h1.uc _) ⟨w1.heap.size,0,none⟩ 1 1 ([(bb c)].map (Value.int .i64)) (by simp[Act.eval]) rfl (by exact ii _ _ _ _ (by rfl)) (km _) (by decide) (ae HZ).1 (ae HZ).2 ?_;intro a' cap' w3 hown hgrow hfresh;obtain⟨hok,hfr⟩:=nu (y:=[_]) hown hfresh;obtain⟨hself,hT⟩:=h1.rl ((More.refl _).alloc _) _ ⟨some a',cap'⟩ hok hgrow (by simpa[o0]using hfr) (ny h1.ok.value (fun d hd=>by rw[de.1 hd];exact ae HX));have eN:w3.cell? ⟨b,17,none⟩=some (.slice R.value.a (lx m c).value.length R.value.cap):=bg hself 17;have ef:=bn hself)
  |(go_simp;go_at_call 231;refine(ae HN).mono ?_;rintro e w1⟨tl,ta,rfl,h1⟩;have d1:w1.cell? ⟨b,17,none⟩=some (.slice R.value.a (lx m c).value.length R.value.cap):=h1.cell 17;have l1:=h1.obj.lt))
 all_goals
  simp only[aq,ai,ak,ja]at hT
  have t1:=hT.cell 1
  simp only[mc]at t1
  have tf:=hT.frozen
  have HE:=hide (Mk.setPos ((lx m c).pos+1) (by exact ae HP) hT.out)
  clear hT h1 hok hfr hown hgrow hfresh
  go_wp2
  first|go_end0|((try simp only[Exit.inBlock,Exit.then]);refine ap (av rfl _ _ _) rfl ?_)
  exact⟨rfl,ae HE⟩
theorem Xq(c:Int)(hc:Pt c)(hst:m.state=15)(h:Mz w0 aj b ex true 64 m w):
  Calls prog 186 #[.pointer (some ⟨b,0,none⟩),.int .i64 c] w fun e w'=>e= .returned (.tuple #[])∧Mk w0 aj b (value m c) ex w':=by
 have c5:=h.c5
 rw[hst,show qc 15=[80,76,65,73,78]from rfl]at c5
 obtain⟨i0,hi,hz0,hz1,hz2⟩:=info_parts qa
 by_cases n38:c=38
 ·subst n38
  rw[show value m 38=pc ({m with back:=15}) 31 by simp[value,hst]]
  have gj:ba 38=false:=rfl
  go_enter func186,ntmps186
  go_wp2_with fail
  refine(eo 38 _).mono ?_
  rintro e w1⟨rfl,rfl⟩
  have f1:=h.frozen
  obtain⟨zka,zkb⟩:=h.some 7 (by decide)
  have h1:=h.C2 15
  go_wp2_with fail
  refine(p8 31 h1).mono ?_
  rintro e w3⟨rfl,h2⟩
  go_wp2
  first|go_end0|((try simp only[Exit.inBlock,Exit.then]);refine ap (av rfl _ _ _) rfl ?_)
  exact⟨rfl,h2⟩
 by_cases be:ba c=true
 ·rw[show value m c=pc m 9 by simp[value,hst,n38,be]]
  have e38:(c==38)=false:=af.2 n38
  clear n38
  go_enter func186,ntmps186
  go_wp2_with fail
  refine(eo c _).mono ?_
  rintro e w1⟨rfl,rfl⟩
  go_wp2_with fail
  refine(p8 9 h).mono ?_
  rintro e w2⟨rfl,h1⟩
  go_wp2
  first|go_end0|((try simp only[Exit.inBlock,Exit.then]);refine ap (av rfl _ _ _) rfl ?_)
  exact⟨rfl,h1⟩
 by_cases n62:c=62
 ·subst n62
  rw[show value m 62=ot m by simp[value,hst,be]]
  have gj:ba 62=false:=rfl
  clear be
  go_enter func186,ntmps186
  go_wp2_with fail
  refine(eo 62 _).mono ?_
  rintro e w1⟨rfl,rfl⟩
  go_wp2_with fail
  refine(An h).mono ?_
  rintro e w2⟨rfl,h1⟩
  go_wp2
  first|go_end0|((try simp only[Exit.inBlock,Exit.then]);refine ap (av rfl _ _ _) rfl ?_)
  exact⟨rfl,h1⟩
 by_cases n34:c=34
 ·subst n34
  rw[show value m 34=im (lx (err m [115,105,103,110]) 34) (bb 34) by simp[value,hst,be]]
  have gj:ba 34=false:=rfl
  clear be
  go_enter func186,ntmps186
  go_wp2_with fail
  refine(eo 34 _).mono ?_
  rintro e w1⟨rfl,rfl⟩
  go_wp2_with fail
  refine(qe [115,105,103,110] h).mono ?_
  rintro e w2⟨rfl,h1⟩
  obtain⟨R,hR⟩:=h1.rep
  obtain⟨n1,n2,n3,n4,n5,n6⟩:=nz (err m [115,105,103,110]) 34
  have cN:w2.cell? ⟨b,17,none⟩=some (.slice R.value.a (lx (err m [115,105,103,110]) 34).value.length R.value.cap):=by rw[n3];exact hR.cell 17
  have cf:=hR.frozen
  have hlt:=hR.obj.lt
  have hpo:=h1.pos
  have HN:=hide (pp 34 (hR.more (More.refl _).drew) h1.told)
  have HZ:=hide (vg (n:=(lx (err m [115,105,103,110]) 34).value.length+1) (by have:=h1.sz;rw[n3];unfold mj at this;omega))
  have HX:=hide (fy hc)
  have HP:Hid ((lx (err m [115,105,103,110]) 34).pos+1≤(lx (err m [115,105,103,110]) 34).l.length):=by rw[n4,n5];exact hide h1.ps
  rw[←n4]at hpo
  have HL:=hide (fy hc)
  clear n1 n2 n3 n4 n5 n6 h1
  go_wp2_with fail
  go_region_law(first
   |(refine fx rfl (.tmp 40) (.tmp 44) 45 rfl 3 i0 _ 1 8 underlying45 hi hz0 hz1 hz2 rfl (by decide) R.value.a (lx (err m [115,105,103,110]) 34).value.length R.value.cap ((lx (err m [115,105,103,110]) 34).value.map (Value.int .i64)) (by simp[Act.eval]) (bh h1.uc _) ⟨w1.heap.size,0,none⟩ 1 1 ([(bb 34)].map (Value.int .i64)) (by simp[Act.eval]) rfl (by exact ii _ _ _ _ (by rfl)) (km _) (by decide) (ae HZ).1 (ae HZ).2 ?_;intro a' cap' w3 hown hgrow hfresh;obtain⟨hok,hfr⟩:=nu (y:=[_]) hown hfresh;obtain⟨hself,hT⟩:=h1.rl ((More.refl _).alloc _) _ ⟨some a',cap'⟩ hok hgrow (by simpa[o0]using hfr) (ny h1.ok.value (fun d hd=>by rw[de.1 hd];exact ae HX));have eN:w3.cell? ⟨b,17,none⟩=some (.slice R.value.a (lx (err m [115,105,103,110]) 34).value.length R.value.cap):=bg hself 17;have ef:=bn hself)
   |(go_simp;go_at_call 231;refine(ae HN).mono ?_;rintro e w1⟨tl,ta,rfl,h1⟩;have d1:w1.cell? ⟨b,17,none⟩=some (.slice R.value.a (lx (err m [115,105,103,110]) 34).value.length R.value.cap):=h1.cell 17;have l1:=h1.obj.lt))
  all_goals
   simp only[aq,ai,ak,ja]at hT
   have t1:=hT.cell 1
   simp only[mc]at t1
   have tf:=hT.frozen
   have HE:=hide (Mk.setPos ((lx (err m [115,105,103,110]) 34).pos+1) (by exact ae HP) hT.out)
   clear hT h1 hok hfr hown hgrow hfresh
   go_wp2
   first|go_end0|((try simp only[Exit.inBlock,Exit.then]);refine ap (av rfl _ _ _) rfl ?_)
   exact⟨rfl,ae HE⟩
 by_cases n39:c=39
 ·subst n39
  rw[show value m 39=im (lx (err m [115,105,103,110]) 39) (bb 39) by simp[value,hst,be]]
  have gj:ba 39=false:=rfl
  clear be
  go_enter func186,ntmps186
  go_wp2_with fail
  refine(eo 39 _).mono ?_
  rintro e w1⟨rfl,rfl⟩
  go_wp2_with fail
  refine(qe [115,105,103,110] h).mono ?_
  rintro e w2⟨rfl,h1⟩
  obtain⟨R,hR⟩:=h1.rep
  obtain⟨n1,n2,n3,n4,n5,n6⟩:=nz (err m [115,105,103,110]) 39
  have cN:w2.cell? ⟨b,17,none⟩=some (.slice R.value.a (lx (err m [115,105,103,110]) 39).value.length R.value.cap):=by rw[n3];exact hR.cell 17
  have cf:=hR.frozen
  have hlt:=hR.obj.lt
  have hpo:=h1.pos
  have HN:=hide (pp 39 (hR.more (More.refl _).drew) h1.told)
  have HZ:=hide (vg (n:=(lx (err m [115,105,103,110]) 39).value.length+1) (by have:=h1.sz;rw[n3];unfold mj at this;omega))
  have HX:=hide (fy hc)
  have HP:Hid ((lx (err m [115,105,103,110]) 39).pos+1≤(lx (err m [115,105,103,110]) 39).l.length):=by rw[n4,n5];exact hide h1.ps
  rw[←n4]at hpo
  have HL:=hide (fy hc)
  clear n1 n2 n3 n4 n5 n6 h1
  go_wp2_with fail
  go_region_law(first
   |(refine fx rfl (.tmp 40) (.tmp 44) 45 rfl 3 i0 _ 1 8 underlying45 hi hz0 hz1 hz2 rfl (by decide) R.value.a (lx (err m [115,105,103,110]) 39).value.length R.value.cap ((lx (err m [115,105,103,110]) 39).value.map (Value.int .i64)) (by simp[Act.eval]) (bh h1.uc _) ⟨w1.heap.size,0,none⟩ 1 1 ([(bb 39)].map (Value.int .i64)) (by simp[Act.eval]) rfl (by exact ii _ _ _ _ (by rfl)) (km _) (by decide) (ae HZ).1 (ae HZ).2 ?_;intro a' cap' w3 hown hgrow hfresh;obtain⟨hok,hfr⟩:=nu (y:=[_]) hown hfresh;obtain⟨hself,hT⟩:=h1.rl ((More.refl _).alloc _) _ ⟨some a',cap'⟩ hok hgrow (by simpa[o0]using hfr) (ny h1.ok.value (fun d hd=>by rw[de.1 hd];exact ae HX));have eN:w3.cell? ⟨b,17,none⟩=some (.slice R.value.a (lx (err m [115,105,103,110]) 39).value.length R.value.cap):=bg hself 17;have ef:=bn hself)
   |(go_simp;go_at_call 231;refine(ae HN).mono ?_;rintro e w1⟨tl,ta,rfl,h1⟩;have d1:w1.cell? ⟨b,17,none⟩=some (.slice R.value.a (lx (err m [115,105,103,110]) 39).value.length R.value.cap):=h1.cell 17;have l1:=h1.obj.lt))
  all_goals
   simp only[aq,ai,ak,ja]at hT
   have t1:=hT.cell 1
   simp only[mc]at t1
   have tf:=hT.frozen
   have HE:=hide (Mk.setPos ((lx (err m [115,105,103,110]) 39).pos+1) (by exact ae HP) hT.out)
   clear hT h1 hok hfr hown hgrow hfresh
   go_wp2
   first|go_end0|((try simp only[Exit.inBlock,Exit.then]);refine ap (av rfl _ _ _) rfl ?_)
   exact⟨rfl,ae HE⟩
 by_cases n60:c=60
 ·subst n60
  rw[show value m 60=im (lx (err m [115,105,103,110]) 60) (bb 60) by simp[value,hst,be]]
  have gj:ba 60=false:=rfl
  clear be
  go_enter func186,ntmps186
  go_wp2_with fail
  refine(eo 60 _).mono ?_
  rintro e w1⟨rfl,rfl⟩
  go_wp2_with fail
  refine(qe [115,105,103,110] h).mono ?_
  rintro e w2⟨rfl,h1⟩
  obtain⟨R,hR⟩:=h1.rep
  obtain⟨n1,n2,n3,n4,n5,n6⟩:=nz (err m [115,105,103,110]) 60
  have cN:w2.cell? ⟨b,17,none⟩=some (.slice R.value.a (lx (err m [115,105,103,110]) 60).value.length R.value.cap):=by rw[n3];exact hR.cell 17
  have cf:=hR.frozen
  have hlt:=hR.obj.lt
  have hpo:=h1.pos
  have HN:=hide (pp 60 (hR.more (More.refl _).drew) h1.told)
  have HZ:=hide (vg (n:=(lx (err m [115,105,103,110]) 60).value.length+1) (by have:=h1.sz;rw[n3];unfold mj at this;omega))
  have HX:=hide (fy hc)
  have HP:Hid ((lx (err m [115,105,103,110]) 60).pos+1≤(lx (err m [115,105,103,110]) 60).l.length):=by rw[n4,n5];exact hide h1.ps
  rw[←n4]at hpo
  have HL:=hide (fy hc)
  clear n1 n2 n3 n4 n5 n6 h1
  go_wp2_with fail
  go_region_law(first
   |(refine fx rfl (.tmp 40) (.tmp 44) 45 rfl 3 i0 _ 1 8 underlying45 hi hz0 hz1 hz2 rfl (by decide) R.value.a (lx (err m [115,105,103,110]) 60).value.length R.value.cap ((lx (err m [115,105,103,110]) 60).value.map (Value.int .i64)) (by simp[Act.eval]) (bh h1.uc _) ⟨w1.heap.size,0,none⟩ 1 1 ([(bb 60)].map (Value.int .i64)) (by simp[Act.eval]) rfl (by exact ii _ _ _ _ (by rfl)) (km _) (by decide) (ae HZ).1 (ae HZ).2 ?_;intro a' cap' w3 hown hgrow hfresh;obtain⟨hok,hfr⟩:=nu (y:=[_]) hown hfresh;obtain⟨hself,hT⟩:=h1.rl ((More.refl _).alloc _) _ ⟨some a',cap'⟩ hok hgrow (by simpa[o0]using hfr) (ny h1.ok.value (fun d hd=>by rw[de.1 hd];exact ae HX));have eN:w3.cell? ⟨b,17,none⟩=some (.slice R.value.a (lx (err m [115,105,103,110]) 60).value.length R.value.cap):=bg hself 17;have ef:=bn hself)
   |(go_simp;go_at_call 231;refine(ae HN).mono ?_;rintro e w1⟨tl,ta,rfl,h1⟩;have d1:w1.cell? ⟨b,17,none⟩=some (.slice R.value.a (lx (err m [115,105,103,110]) 60).value.length R.value.cap):=h1.cell 17;have l1:=h1.obj.lt))
  all_goals
   simp only[aq,ai,ak,ja]at hT
   have t1:=hT.cell 1
   simp only[mc]at t1
   have tf:=hT.frozen
   have HE:=hide (Mk.setPos ((lx (err m [115,105,103,110]) 60).pos+1) (by exact ae HP) hT.out)
   clear hT h1 hok hfr hown hgrow hfresh
   go_wp2
   first|go_end0|((try simp only[Exit.inBlock,Exit.then]);refine ap (av rfl _ _ _) rfl ?_)
   exact⟨rfl,ae HE⟩
 by_cases n61:c=61
 ·subst n61
  rw[show value m 61=im (lx (err m [115,105,103,110]) 61) (bb 61) by simp[value,hst,be]]
  have gj:ba 61=false:=rfl
  clear be
  go_enter func186,ntmps186
  go_wp2_with fail
  refine(eo 61 _).mono ?_
  rintro e w1⟨rfl,rfl⟩
  go_wp2_with fail
  refine(qe [115,105,103,110] h).mono ?_
  rintro e w2⟨rfl,h1⟩
  obtain⟨R,hR⟩:=h1.rep
  obtain⟨n1,n2,n3,n4,n5,n6⟩:=nz (err m [115,105,103,110]) 61
  have cN:w2.cell? ⟨b,17,none⟩=some (.slice R.value.a (lx (err m [115,105,103,110]) 61).value.length R.value.cap):=by rw[n3];exact hR.cell 17
  have cf:=hR.frozen
  have hlt:=hR.obj.lt
  have hpo:=h1.pos
  have HN:=hide (pp 61 (hR.more (More.refl _).drew) h1.told)
  have HZ:=hide (vg (n:=(lx (err m [115,105,103,110]) 61).value.length+1) (by have:=h1.sz;rw[n3];unfold mj at this;omega))
  have HX:=hide (fy hc)
  have HP:Hid ((lx (err m [115,105,103,110]) 61).pos+1≤(lx (err m [115,105,103,110]) 61).l.length):=by rw[n4,n5];exact hide h1.ps
  rw[←n4]at hpo
  have HL:=hide (fy hc)
  clear n1 n2 n3 n4 n5 n6 h1
  go_wp2_with fail
  go_region_law(first
   |(refine fx rfl (.tmp 40) (.tmp 44) 45 rfl 3 i0 _ 1 8 underlying45 hi hz0 hz1 hz2 rfl (by decide) R.value.a (lx (err m [115,105,103,110]) 61).value.length R.value.cap ((lx (err m [115,105,103,110]) 61).value.map (Value.int .i64)) (by simp[Act.eval]) (bh h1.uc _) ⟨w1.heap.size,0,none⟩ 1 1 ([(bb 61)].map (Value.int .i64)) (by simp[Act.eval]) rfl (by exact ii _ _ _ _ (by rfl)) (km _) (by decide) (ae HZ).1 (ae HZ).2 ?_;intro a' cap' w3 hown hgrow hfresh;obtain⟨hok,hfr⟩:=nu (y:=[_]) hown hfresh;obtain⟨hself,hT⟩:=h1.rl ((More.refl _).alloc _) _ ⟨some a',cap'⟩ hok hgrow (by simpa[o0]using hfr) (ny h1.ok.value (fun d hd=>by rw[de.1 hd];exact ae HX));have eN:w3.cell? ⟨b,17,none⟩=some (.slice R.value.a (lx (err m [115,105,103,110]) 61).value.length R.value.cap):=bg hself 17;have ef:=bn hself)
   |(go_simp;go_at_call 231;refine(ae HN).mono ?_;rintro e w1⟨tl,ta,rfl,h1⟩;have d1:w1.cell? ⟨b,17,none⟩=some (.slice R.value.a (lx (err m [115,105,103,110]) 61).value.length R.value.cap):=h1.cell 17;have l1:=h1.obj.lt))
  all_goals
   simp only[aq,ai,ak,ja]at hT
   have t1:=hT.cell 1
   simp only[mc]at t1
   have tf:=hT.frozen
   have HE:=hide (Mk.setPos ((lx (err m [115,105,103,110]) 61).pos+1) (by exact ae HP) hT.out)
   clear hT h1 hok hfr hown hgrow hfresh
   go_wp2
   first|go_end0|((try simp only[Exit.inBlock,Exit.then]);refine ap (av rfl _ _ _) rfl ?_)
   exact⟨rfl,ae HE⟩
 by_cases n96:c=96
 ·subst n96
  rw[show value m 96=im (lx (err m [115,105,103,110]) 96) (bb 96) by simp[value,hst,be]]
  have gj:ba 96=false:=rfl
  clear be
  go_enter func186,ntmps186
  go_wp2_with fail
  refine(eo 96 _).mono ?_
  rintro e w1⟨rfl,rfl⟩
  go_wp2_with fail
  refine(qe [115,105,103,110] h).mono ?_
  rintro e w2⟨rfl,h1⟩
  obtain⟨R,hR⟩:=h1.rep
  obtain⟨n1,n2,n3,n4,n5,n6⟩:=nz (err m [115,105,103,110]) 96
  have cN:w2.cell? ⟨b,17,none⟩=some (.slice R.value.a (lx (err m [115,105,103,110]) 96).value.length R.value.cap):=by rw[n3];exact hR.cell 17
  have cf:=hR.frozen
  have hlt:=hR.obj.lt
  have hpo:=h1.pos
  have HN:=hide (pp 96 (hR.more (More.refl _).drew) h1.told)
  have HZ:=hide (vg (n:=(lx (err m [115,105,103,110]) 96).value.length+1) (by have:=h1.sz;rw[n3];unfold mj at this;omega))
  have HX:=hide (fy hc)
  have HP:Hid ((lx (err m [115,105,103,110]) 96).pos+1≤(lx (err m [115,105,103,110]) 96).l.length):=by rw[n4,n5];exact hide h1.ps
  rw[←n4]at hpo
  have HL:=hide (fy hc)
  clear n1 n2 n3 n4 n5 n6 h1
  go_wp2_with fail
  go_region_law(first
   |(refine fx rfl (.tmp 40) (.tmp 44) 45 rfl 3 i0 _ 1 8 underlying45 hi hz0 hz1 hz2 rfl (by decide) R.value.a (lx (err m [115,105,103,110]) 96).value.length R.value.cap ((lx (err m [115,105,103,110]) 96).value.map (Value.int .i64)) (by simp[Act.eval]) (bh h1.uc _) ⟨w1.heap.size,0,none⟩ 1 1 ([(bb 96)].map (Value.int .i64)) (by simp[Act.eval]) rfl (by exact ii _ _ _ _ (by rfl)) (km _) (by decide) (ae HZ).1 (ae HZ).2 ?_;intro a' cap' w3 hown hgrow hfresh;obtain⟨hok,hfr⟩:=nu (y:=[_]) hown hfresh;obtain⟨hself,hT⟩:=h1.rl ((More.refl _).alloc _) _ ⟨some a',cap'⟩ hok hgrow (by simpa[o0]using hfr) (ny h1.ok.value (fun d hd=>by rw[de.1 hd];exact ae HX));have eN:w3.cell? ⟨b,17,none⟩=some (.slice R.value.a (lx (err m [115,105,103,110]) 96).value.length R.value.cap):=bg hself 17;have ef:=bn hself)
   |(go_simp;go_at_call 231;refine(ae HN).mono ?_;rintro e w1⟨tl,ta,rfl,h1⟩;have d1:w1.cell? ⟨b,17,none⟩=some (.slice R.value.a (lx (err m [115,105,103,110]) 96).value.length R.value.cap):=h1.cell 17;have l1:=h1.obj.lt))
  all_goals
   simp only[aq,ai,ak,ja]at hT
   have t1:=hT.cell 1
   simp only[mc]at t1
   have tf:=hT.frozen
   have HE:=hide (Mk.setPos ((lx (err m [115,105,103,110]) 96).pos+1) (by exact ae HP) hT.out)
   clear hT h1 hok hfr hown hgrow hfresh
   go_wp2
   first|go_end0|((try simp only[Exit.inBlock,Exit.then]);refine ap (av rfl _ _ _) rfl ?_)
   exact⟨rfl,ae HE⟩
 rw[show value m c=im (lx m c) (bb c) by simp[value,hst,n38,be,n62,n34,n39,n60,n61,n96]]
 have e38:(c==38)=false:=af.2 n38
 have gj:=az.2 be
 have e62:(c==62)=false:=af.2 n62
 have e34:(c==34)=false:=af.2 n34
 have e39:(c==39)=false:=af.2 n39
 have e60:(c==60)=false:=af.2 n60
 have e61:(c==61)=false:=af.2 n61
 have e96:(c==96)=false:=af.2 n96
 clear n38 be n62 n34 n39 n60 n61 n96
 go_enter func186,ntmps186
 go_wp2_with fail
 refine(eo c _).mono ?_
 rintro e w1⟨rfl,rfl⟩
 obtain⟨R,hR⟩:=h.rep
 obtain⟨n1,n2,n3,n4,n5,n6⟩:=nz m c
 have cN:w1.cell? ⟨b,17,none⟩=some (.slice R.value.a (lx m c).value.length R.value.cap):=by rw[n3];exact hR.cell 17
 have cf:=hR.frozen
 have hlt:=hR.obj.lt
 have hpo:=h.pos
 have HN:=hide (pp c (hR.more (More.refl _).drew) h.told)
 have HZ:=hide (vg (n:=(lx m c).value.length+1) (by have:=h.sz;rw[n3];unfold mj at this;omega))
 have HX:=hide (fy hc)
 have HP:Hid ((lx m c).pos+1≤(lx m c).l.length):=by rw[n4,n5];exact hide h.ps
 rw[←n4]at hpo
 have HL:=hide (fy hc)
 clear n1 n2 n3 n4 n5 n6 h
 go_wp2_with fail
 go_region_law(first
  |(refine fx rfl (.tmp 40) (.tmp 44) 45 rfl 3 i0 _ 1 8 underlying45 hi hz0 hz1 hz2 rfl (by decide) R.value.a (lx m c).value.length R.value.cap ((lx m c).value.map (Value.int .i64)) (by simp[Act.eval]) (bh h1.uc _) ⟨w1.heap.size,0,none⟩ 1 1 ([(bb c)].map (Value.int .i64)) (by simp[Act.eval]) rfl (by exact ii _ _ _ _ (by rfl)) (km _) (by decide) (ae HZ).1 (ae HZ).2 ?_;intro a' cap' w3 hown hgrow hfresh;obtain⟨hok,hfr⟩:=nu (y:=[_]) hown hfresh;obtain⟨hself,hT⟩:=h1.rl ((More.refl _).alloc _) _ ⟨some a',cap'⟩ hok hgrow (by simpa[o0]using hfr) (ny h1.ok.value (fun d hd=>by rw[de.1 hd];exact ae HX));have eN:w3.cell? ⟨b,17,none⟩=some (.slice R.value.a (lx m c).value.length R.value.cap):=bg hself 17;have ef:=bn hself)
  |(go_simp;go_at_call 231;refine(ae HN).mono ?_;rintro e w1⟨tl,ta,rfl,h1⟩;have d1:w1.cell? ⟨b,17,none⟩=some (.slice R.value.a (lx m c).value.length R.value.cap):=h1.cell 17;have l1:=h1.obj.lt))
 all_goals
  simp only[aq,ai,ak,ja]at hT
  have t1:=hT.cell 1
  simp only[mc]at t1
  have tf:=hT.frozen
  have HE:=hide (Mk.setPos ((lx m c).pos+1) (by exact ae HP) hT.out)
  clear hT h1 hok hfr hown hgrow hfresh
  go_wp2
  first|go_end0|((try simp only[Exit.inBlock,Exit.then]);refine ap (av rfl _ _ _) rfl ?_)
  exact⟨rfl,ae HE⟩
end
end Go.Proofs.YtdfmapcnfficlaaGreatDoor.M

import Derived.Test.YtdfmapcnfficlaaGreatDoorP10
set_option linter.all false
set_option maxHeartbeats 4000000
set_option maxRecDepth 1000000
namespace Go.Proofs.YtdfmapcnfficlaaGreatDoor.M
open Go.Proofs.Tryz
open Go Go.RowKit Go.Proofs.YtdfmapcnfficlaaGreatDoor
section
variable{w0:World}{aj:Nat→Prop}{b:Nat}{m:MS}{ex:List Item}{w:World}{g:Bool}
theorem zj9(c:Int)(hc:Pt c)(hst:m.state=8)(h:Mz w0 aj b ex true 64 m w):
  Calls prog 184 #[.pointer (some ⟨b,0,none⟩),.int .i64 c] w fun e w'=>e= .returned (.tuple #[])∧Mk w0 aj b (tag m c) ex w':=by
 have c5:=h.c5
 rw[hst,show qc 8=[84,65,71]from rfl]at c5
 obtain⟨i0,hi,hz0,hz1,hz2⟩:=info_parts qa
 by_cases be:ba c=true
 ·rw[show tag m c=pc m 9 by simp[tag,hst,be]]
  go_enter func184,ntmps184
  go_wp2_with fail
  refine(eo c _).mono ?_
  rintro e w1⟨rfl,rfl⟩
  go_wp2_with fail
  refine(p8 9 h).mono ?_
  rintro e w2⟨rfl,h1⟩
  go_wp2
  first|go_end0|((try simp only[Exit.inBlock,Exit.then]);refine ap (av rfl _ _ _) rfl ?_)
  exact⟨rfl,h1⟩
 by_cases n47:c=47
 ·subst n47
  rw[show tag m 47=pc m 17 by simp[tag,hst,be]]
  have gj:ba 47=false:=rfl
  clear be
  go_enter func184,ntmps184
  go_wp2_with fail
  refine(eo 47 _).mono ?_
  rintro e w1⟨rfl,rfl⟩
  go_wp2_with fail
  refine(p8 17 h).mono ?_
  rintro e w2⟨rfl,h1⟩
  go_wp2
  first|go_end0|((try simp only[Exit.inBlock,Exit.then]);refine ap (av rfl _ _ _) rfl ?_)
  exact⟨rfl,h1⟩
 by_cases n62:c=62
 ·subst n62
  rw[show tag m 62=ot m by simp[tag,hst,be]]
  have gj:ba 62=false:=rfl
  clear be
  go_enter func184,ntmps184
  go_wp2_with fail
  refine(eo 62 _).mono ?_
  rintro e w1⟨rfl,rfl⟩
  go_wp2_with fail
  refine(An h).mono ?_
  rintro e w2⟨rfl,h1⟩
  go_wp2
  first|go_end0|((try simp only[Exit.inBlock,Exit.then]);refine ap (av rfl _ _ _) rfl ?_)
  exact⟨rfl,h1⟩
 rw[show tag m c=je (lx m c) (lw (bb c)) by simp[tag,hst,be,n47,n62]]
 have gj:=az.2 be
 have e47:(c==47)=false:=af.2 n47
 have e62:(c==62)=false:=af.2 n62
 clear be n47 n62
 go_enter func184,ntmps184
 go_wp2_with fail
 refine(eo c _).mono ?_
 rintro e w1⟨rfl,rfl⟩
 obtain⟨R,hR⟩:=h.rep
 obtain⟨n1,n2,n3,n4,n5,n6⟩:=nz m c
 have cN:w1.cell? ⟨b,14,none⟩=some (.slice R.name.a (lx m c).name.length R.name.cap):=by rw[n1];exact hR.cell 14
 have cf:=hR.frozen
 have hlt:=hR.obj.lt
 have hpo:=h.pos
 have HN:=hide (pp c (hR.more (More.refl _).drew) h.told)
 have HZ:=hide (vg (n:=(lx m c).name.length+1) (by have:=h.sz;rw[n1];unfold mj at this;omega))
 have HX:=hide (Er (fy hc))
 have HP:Hid ((lx m c).pos+1≤(lx m c).l.length):=by rw[n4,n5];exact hide h.ps
 rw[←n4]at hpo
 have HL:=hide (fy hc)
 clear n1 n2 n3 n4 n5 n6 h
 go_wp2_with fail
 go_region_law(first
  |(refine fx rfl (.tmp 56) (.tmp 61) 45 rfl 3 i0 _ 1 8 underlying45 hi hz0 hz1 hz2 rfl (by decide) R.name.a (lx m c).name.length R.name.cap ((lx m c).name.map (Value.int .i64)) (by simp[Act.eval]) (bh h1.qx _) ⟨w1.heap.size,0,none⟩ 1 1 ([(lw (bb c))].map (Value.int .i64)) (by simp[Act.eval]) rfl (by exact ii _ _ _ _ (by rfl)) (km _) (by decide) (ae HZ).1 (ae HZ).2 ?_;intro a' cap' w3 hown hgrow hfresh;obtain⟨hok,hfr⟩:=nu (y:=[_]) hown hfresh;obtain⟨hself,hT⟩:=h1.ux ((More.refl _).alloc _) _ ⟨some a',cap'⟩ hok hgrow (by simpa[o0]using hfr) (ny h1.ok.name (fun d hd=>by rw[de.1 hd];exact ae HX));have eN:w3.cell? ⟨b,14,none⟩=some (.slice R.name.a (lx m c).name.length R.name.cap):=bg hself 14;have ef:=bn hself)
  |(go_simp;go_at_call 231;refine(ae HN).mono ?_;rintro e w1⟨tl,ta,rfl,h1⟩;have d1:w1.cell? ⟨b,14,none⟩=some (.slice R.name.a (lx m c).name.length R.name.cap):=h1.cell 14;have l1:=h1.obj.lt)
  |(go_simp;go_at_call 228;refine(pg (bb c) _ (by have:=(ae HL).1;omega) (ae HL).2).mono ?_;rintro e w2⟨rfl,hw2⟩;rw[hw2]))
 all_goals
  simp only[aq,ai,ak,ja]at hT
  have t1:=hT.cell 1
  simp only[mc]at t1
  have tf:=hT.frozen
  have HE:=hide (Mk.setPos ((lx m c).pos+1) (by exact ae HP) hT.out)
  clear hT h1 hok hfr hown hgrow hfresh
  go_wp2
  first|go_end0|((try simp only[Exit.inBlock,Exit.then]);refine ap (av rfl _ _ _) rfl ?_)
  exact⟨rfl,ae HE⟩
theorem zgy(c:Int)(hc:Pt c)(hst:m.state=9)(h:Mz w0 aj b ex true 64 m w):
  Calls prog 184 #[.pointer (some ⟨b,0,none⟩),.int .i64 c] w fun e w'=>e= .returned (.tuple #[])∧Mk w0 aj b (tag m c) ex w':=by
 have c5:=h.c5
 rw[hst,show qc 9=[65,84,84,82]from rfl]at c5
 obtain⟨i0,hi,hz0,hz1,hz2⟩:=info_parts qa
 by_cases be:ba c=true
 ·rw[show tag m c=on m by simp[tag,hst,be]]
  go_enter func184,ntmps184
  go_wp2_with fail
  refine(eo c _).mono ?_
  rintro e w1⟨rfl,rfl⟩
  have f1:=h.frozen
  have p1:=h.c1
  have q1:=h.pos
  have h1:=h.on
  go_wp2
  first|go_end0|((try simp only[Exit.inBlock,Exit.then]);refine ap (av rfl _ _ _) rfl ?_)
  exact⟨rfl,h1⟩
 by_cases n47:c=47
 ·subst n47
  rw[show tag m 47=st m 11 by simp[tag,hst,be]]
  have gj:ba 47=false:=rfl
  clear be
  go_enter func184,ntmps184
  go_wp2_with fail
  refine(eo 47 _).mono ?_
  rintro e w1⟨rfl,rfl⟩
  have f1:=h.frozen
  obtain⟨zj7,zj8⟩:=h.some 5 (by decide)
  have h1:=h.setState 11
  go_wp2
  first|go_end0|((try simp only[Exit.inBlock,Exit.then]);refine ap (av rfl _ _ _) rfl ?_)
  exact⟨rfl,h1.rep⟩
 by_cases n62:c=62
 ·subst n62
  rw[show tag m 62=st m 11 by simp[tag,hst,be]]
  have gj:ba 62=false:=rfl
  clear be
  go_enter func184,ntmps184
  go_wp2_with fail
  refine(eo 62 _).mono ?_
  rintro e w1⟨rfl,rfl⟩
  have f1:=h.frozen
  obtain⟨zj7,zj8⟩:=h.some 5 (by decide)
  have h1:=h.setState 11
  go_wp2
  first|go_end0|((try simp only[Exit.inBlock,Exit.then]);refine ap (av rfl _ _ _) rfl ?_)
  exact⟨rfl,h1.rep⟩
 by_cases n61:c=61
 ·subst n61
  rw[show tag m 61=pc ({qp (err m [101,113,117,97,108,115])with key:=[61]}) 10 by simp[tag,hst,be]]
  have gj:ba 61=false:=rfl
  clear be
  go_enter func184,ntmps184
  go_wp2_with fail
  refine(eo 61 _).mono ?_
  rintro e w1⟨rfl,rfl⟩
  go_wp2_with fail
  refine(qe [101,113,117,97,108,115] h).mono ?_
  rintro e w2⟨rfl,h1⟩
  go_wp2_with fail
  refine(Jr h1).mono ?_
  rintro e w3⟨rfl,h2⟩
  obtain⟨R,hR⟩:=h2.rep
  have cN:w3.cell? ⟨b,16,none⟩=some (.slice R.key.a (qp (err m [101,113,117,97,108,115])).key.length R.key.cap):=hR.cell 16
  have cf:=hR.frozen
  have HR:=hide hR.C1
  have HZ:=hide (vg (n:=(qp (err m [101,113,117,97,108,115])).key.length+1) (by have:=h2.sz;unfold mj at this;omega))
  have hpo:=h2.pos
  go_wp2_with(at_builtin;refine dh _ rfl (.tmp 118) (.tmp 120) 45 rfl 3 i0 _ 1 8 underlying45 hi hz0 hz1 hz2 rfl (by decide) R.key.a (qp (err m [101,113,117,97,108,115])).key.length R.key.cap ((qp (err m [101,113,117,97,108,115])).key.map (Value.int .i64)) rfl (bh (ae HR) _) ⟨w3.heap.size,0,none⟩ 1 1 ([61].map (Value.int .i64)) rfl rfl (ii _ _ _ _ rfl) (km _) (by decide) (ae HZ).1 (ae HZ).2 ?next)
  case next=>
   intro a' cap' w8 hown hgrow hfresh
   obtain⟨hok,hfr⟩:=nu (y:=[_]) (r:=R.key) (W1:=w3.alloc (.cells #[.int .i64 61] 3)) hown (by simpa using hfresh)
   obtain⟨hself,hT⟩:=hR.Eo ((More.refl _).alloc _) _ ⟨some a',cap'⟩ hok hgrow (by simpa[o0]using hfr) (ny hR.ok.key (fun d hd=>by rw[de.1 hd];exact⟨by omega,by omega⟩))
   have eN:w8.cell? ⟨b,16,none⟩=some (.slice R.key.a (qp (err m [101,113,117,97,108,115])).key.length R.key.cap):=bg hself 16
   have ef:=bn hself
   simp only[aq,ai,ak,ja]at hT
   have t1:=hT.cell 1
   have tf:=hT.frozen
   simp only[mc]at t1
   have HE:=hide (zd 10 hT.out (by exact h2.ps))
   clear hT hok hfr hown hgrow hfresh
   go_wp2_with fail
   refine(ae HE).mono ?_
   rintro e w9⟨rfl,h9⟩
   go_wp2
   first|go_end0|((try simp only[Exit.inBlock,Exit.then]);refine ap (av rfl _ _ _) rfl ?_)
   exact⟨rfl,h9⟩
 rw[show tag m c=st (qp m) 10 by simp[tag,hst,be,n47,n62,n61]]
 have gj:=az.2 be
 have e47:(c==47)=false:=af.2 n47
 have e62:(c==62)=false:=af.2 n62
 have e61:(c==61)=false:=af.2 n61
 clear be n47 n62 n61
 go_enter func184,ntmps184
 go_wp2_with fail
 refine(eo c _).mono ?_
 rintro e w1⟨rfl,rfl⟩
 go_wp2_with fail
 refine(Jr h).mono ?_
 rintro e w2⟨rfl,h1⟩
 have f2:=h1.frozen
 obtain⟨Eu,Ev⟩:=h1.some 5 (by decide)
 have h2:=h1.setState 10
 go_wp2
 first|go_end0|((try simp only[Exit.inBlock,Exit.then]);refine ap (av rfl _ _ _) rfl ?_)
 exact⟨rfl,h2.rep⟩
theorem zgz(c:Int)(hc:Pt c)(hst:m.state=10)(h:Mz w0 aj b ex true 64 m w):
  Calls prog 184 #[.pointer (some ⟨b,0,none⟩),.int .i64 c] w fun e w'=>e= .returned (.tuple #[])∧Mk w0 aj b (tag m c) ex w':=by
 have c5:=h.c5
 rw[hst,show qc 10=[78,65,77,69]from rfl]at c5
 obtain⟨i0,hi,hz0,hz1,hz2⟩:=info_parts qa
 by_cases be:ba c=true
 ·rw[show tag m c=st (ol m) 11 by simp[tag,hst,be]]
  go_enter func184,ntmps184
  go_wp2_with fail
  refine(eo c _).mono ?_
  rintro e w1⟨rfl,rfl⟩
  go_wp2_with fail
  refine(F6 h).mono ?_
  rintro e w2⟨rfl,h1⟩
  have f2:=h1.frozen
  obtain⟨Eu,Ev⟩:=h1.some 5 (by decide)
  have h2:=h1.setState 11
  go_wp2
  first|go_end0|((try simp only[Exit.inBlock,Exit.then]);refine ap (av rfl _ _ _) rfl ?_)
  exact⟨rfl,h2.rep⟩
 by_cases n47:c=47
 ·subst n47
  rw[show tag m 47=st (ol m) 11 by simp[tag,hst,be]]
  have gj:ba 47=false:=rfl
  clear be
  go_enter func184,ntmps184
  go_wp2_with fail
  refine(eo 47 _).mono ?_
  rintro e w1⟨rfl,rfl⟩
  go_wp2_with fail
  refine(F6 h).mono ?_
  rintro e w2⟨rfl,h1⟩
  have f2:=h1.frozen
  obtain⟨Eu,Ev⟩:=h1.some 5 (by decide)
  have h2:=h1.setState 11
  go_wp2
  first|go_end0|((try simp only[Exit.inBlock,Exit.then]);refine ap (av rfl _ _ _) rfl ?_)
  exact⟨rfl,h2.rep⟩
 by_cases n62:c=62
 ·subst n62
  rw[show tag m 62=st (ol m) 11 by simp[tag,hst,be]]
  have gj:ba 62=false:=rfl
  clear be
  go_enter func184,ntmps184
  go_wp2_with fail
  refine(eo 62 _).mono ?_
  rintro e w1⟨rfl,rfl⟩
  go_wp2_with fail
  refine(F6 h).mono ?_
  rintro e w2⟨rfl,h1⟩
  have f2:=h1.frozen
  obtain⟨Eu,Ev⟩:=h1.some 5 (by decide)
  have h2:=h1.setState 11
  go_wp2
  first|go_end0|((try simp only[Exit.inBlock,Exit.then]);refine ap (av rfl _ _ _) rfl ?_)
  exact⟨rfl,h2.rep⟩
 by_cases n61:c=61
 ·subst n61
  rw[show tag m 61=pc (ol m) 12 by simp[tag,hst,be]]
  have gj:ba 61=false:=rfl
  clear be
  go_enter func184,ntmps184
  go_wp2_with fail
  refine(eo 61 _).mono ?_
  rintro e w1⟨rfl,rfl⟩
  go_wp2_with fail
  refine(F6 h).mono ?_
  rintro e w2⟨rfl,h1⟩
  go_wp2_with fail
  refine(p8 12 h1).mono ?_
  rintro e w3⟨rfl,h2⟩
  go_wp2
  first|go_end0|((try simp only[Exit.inBlock,Exit.then]);refine ap (av rfl _ _ _) rfl ?_)
  exact⟨rfl,h2⟩
 by_cases n34:c=34
 ·subst n34
  rw[show tag m 34=putKey (lx (err m [115,105,103,110]) 34) (lw (bb 34)) by simp[tag,hst,be]]
  have gj:ba 34=false:=rfl
  clear be
  go_enter func184,ntmps184
  go_wp2_with fail
  refine(eo 34 _).mono ?_
  rintro e w1⟨rfl,rfl⟩
  go_wp2_with fail
  refine(qe [115,105,103,110] h).mono ?_
  rintro e w2⟨rfl,h1⟩
  obtain⟨R,hR⟩:=h1.rep
  obtain⟨n1,n2,n3,n4,n5,n6⟩:=nz (err m [115,105,103,110]) 34
  have cN:w2.cell? ⟨b,16,none⟩=some (.slice R.key.a (lx (err m [115,105,103,110]) 34).key.length R.key.cap):=by rw[n2];exact hR.cell 16
  have cf:=hR.frozen
  have hlt:=hR.obj.lt
  have hpo:=h1.pos
  have HN:=hide (pp 34 (hR.more (More.refl _).drew) h1.told)
  have HZ:=hide (vg (n:=(lx (err m [115,105,103,110]) 34).key.length+1) (by have:=h1.sz;rw[n2];unfold mj at this;omega))
  have HX:=hide (Er (fy hc))
  have HP:Hid ((lx (err m [115,105,103,110]) 34).pos+1≤(lx (err m [115,105,103,110]) 34).l.length):=by rw[n4,n5];exact hide h1.ps
  rw[←n4]at hpo
  have HL:=hide (fy hc)
  clear n1 n2 n3 n4 n5 n6 h1
  go_wp2_with fail
  go_region_law(first
   |(refine fx rfl (.tmp 144) (.tmp 149) 45 rfl 3 i0 _ 1 8 underlying45 hi hz0 hz1 hz2 rfl (by decide) R.key.a (lx (err m [115,105,103,110]) 34).key.length R.key.cap ((lx (err m [115,105,103,110]) 34).key.map (Value.int .i64)) (by simp[Act.eval]) (bh h1.C1 _) ⟨w1.heap.size,0,none⟩ 1 1 ([(lw (bb 34))].map (Value.int .i64)) (by simp[Act.eval]) rfl (by exact ii _ _ _ _ (by rfl)) (km _) (by decide) (ae HZ).1 (ae HZ).2 ?_;intro a' cap' w3 hown hgrow hfresh;obtain⟨hok,hfr⟩:=nu (y:=[_]) hown hfresh;obtain⟨hself,hT⟩:=h1.Eo ((More.refl _).alloc _) _ ⟨some a',cap'⟩ hok hgrow (by simpa[o0]using hfr) (ny h1.ok.key (fun d hd=>by rw[de.1 hd];exact ae HX));have eN:w3.cell? ⟨b,16,none⟩=some (.slice R.key.a (lx (err m [115,105,103,110]) 34).key.length R.key.cap):=bg hself 16;have ef:=bn hself)
   |(go_simp;go_at_call 231;refine(ae HN).mono ?_;rintro e w1⟨tl,ta,rfl,h1⟩;have d1:w1.cell? ⟨b,16,none⟩=some (.slice R.key.a (lx (err m [115,105,103,110]) 34).key.length R.key.cap):=h1.cell 16;have l1:=h1.obj.lt)
   |(go_simp;go_at_call 228;refine(pg (bb 34) _ (by have:=(ae HL).1;omega) (ae HL).2).mono ?_;rintro e w2⟨rfl,hw2⟩;rw[hw2]))
  all_goals
   simp only[aq,ai,ak,ja]at hT
   have t1:=hT.cell 1
   simp only[mc]at t1
   have tf:=hT.frozen
   have HE:=hide (Mk.setPos ((lx (err m [115,105,103,110]) 34).pos+1) (by exact ae HP) hT.out)
   clear hT h1 hok hfr hown hgrow hfresh
   go_wp2
   first|go_end0|((try simp only[Exit.inBlock,Exit.then]);refine ap (av rfl _ _ _) rfl ?_)
   exact⟨rfl,ae HE⟩
 by_cases n39:c=39
 ·subst n39
  rw[show tag m 39=putKey (lx (err m [115,105,103,110]) 39) (lw (bb 39)) by simp[tag,hst,be]]
  have gj:ba 39=false:=rfl
  clear be
  go_enter func184,ntmps184
  go_wp2_with fail
  refine(eo 39 _).mono ?_
  rintro e w1⟨rfl,rfl⟩
  go_wp2_with fail
  refine(qe [115,105,103,110] h).mono ?_
  rintro e w2⟨rfl,h1⟩
  obtain⟨R,hR⟩:=h1.rep
  obtain⟨n1,n2,n3,n4,n5,n6⟩:=nz (err m [115,105,103,110]) 39
  have cN:w2.cell? ⟨b,16,none⟩=some (.slice R.key.a (lx (err m [115,105,103,110]) 39).key.length R.key.cap):=by rw[n2];exact hR.cell 16
  have cf:=hR.frozen
  have hlt:=hR.obj.lt
  have hpo:=h1.pos
  have HN:=hide (pp 39 (hR.more (More.refl _).drew) h1.told)
  have HZ:=hide (vg (n:=(lx (err m [115,105,103,110]) 39).key.length+1) (by have:=h1.sz;rw[n2];unfold mj at this;omega))
  have HX:=hide (Er (fy hc))
  have HP:Hid ((lx (err m [115,105,103,110]) 39).pos+1≤(lx (err m [115,105,103,110]) 39).l.length):=by rw[n4,n5];exact hide h1.ps
  rw[←n4]at hpo
  have HL:=hide (fy hc)
  clear n1 n2 n3 n4 n5 n6 h1
  go_wp2_with fail
  go_region_law(first
   |(refine fx rfl (.tmp 144) (.tmp 149) 45 rfl 3 i0 _ 1 8 underlying45 hi hz0 hz1 hz2 rfl (by decide) R.key.a (lx (err m [115,105,103,110]) 39).key.length R.key.cap ((lx (err m [115,105,103,110]) 39).key.map (Value.int .i64)) (by simp[Act.eval]) (bh h1.C1 _) ⟨w1.heap.size,0,none⟩ 1 1 ([(lw (bb 39))].map (Value.int .i64)) (by simp[Act.eval]) rfl (by exact ii _ _ _ _ (by rfl)) (km _) (by decide) (ae HZ).1 (ae HZ).2 ?_;intro a' cap' w3 hown hgrow hfresh;obtain⟨hok,hfr⟩:=nu (y:=[_]) hown hfresh;obtain⟨hself,hT⟩:=h1.Eo ((More.refl _).alloc _) _ ⟨some a',cap'⟩ hok hgrow (by simpa[o0]using hfr) (ny h1.ok.key (fun d hd=>by rw[de.1 hd];exact ae HX));have eN:w3.cell? ⟨b,16,none⟩=some (.slice R.key.a (lx (err m [115,105,103,110]) 39).key.length R.key.cap):=bg hself 16;have ef:=bn hself)
   |(go_simp;go_at_call 231;refine(ae HN).mono ?_;rintro e w1⟨tl,ta,rfl,h1⟩;have d1:w1.cell? ⟨b,16,none⟩=some (.slice R.key.a (lx (err m [115,105,103,110]) 39).key.length R.key.cap):=h1.cell 16;have l1:=h1.obj.lt)
   |(go_simp;go_at_call 228;refine(pg (bb 39) _ (by have:=(ae HL).1;omega) (ae HL).2).mono ?_;rintro e w2⟨rfl,hw2⟩;rw[hw2]))
  all_goals
   simp only[aq,ai,ak,ja]at hT
   have t1:=hT.cell 1
   simp only[mc]at t1
   have tf:=hT.frozen
   have HE:=hide (Mk.setPos ((lx (err m [115,105,103,110]) 39).pos+1) (by exact ae HP) hT.out)
   clear hT h1 hok hfr hown hgrow hfresh
   go_wp2
   first|go_end0|((try simp only[Exit.inBlock,Exit.then]);refine ap (av rfl _ _ _) rfl ?_)
   exact⟨rfl,ae HE⟩
 by_cases n60:c=60
 ·subst n60
  rw[show tag m 60=putKey (lx (err m [115,105,103,110]) 60) (lw (bb 60)) by simp[tag,hst,be]]
  have gj:ba 60=false:=rfl
  clear be
  go_enter func184,ntmps184
  go_wp2_with fail
  refine(eo 60 _).mono ?_
  rintro e w1⟨rfl,rfl⟩
  go_wp2_with fail
  refine(qe [115,105,103,110] h).mono ?_
  rintro e w2⟨rfl,h1⟩
  obtain⟨R,hR⟩:=h1.rep
  obtain⟨n1,n2,n3,n4,n5,n6⟩:=nz (err m [115,105,103,110]) 60
  have cN:w2.cell? ⟨b,16,none⟩=some (.slice R.key.a (lx (err m [115,105,103,110]) 60).key.length R.key.cap):=by rw[n2];exact hR.cell 16
  have cf:=hR.frozen
  have hlt:=hR.obj.lt
  have hpo:=h1.pos
  have HN:=hide (pp 60 (hR.more (More.refl _).drew) h1.told)
  have HZ:=hide (vg (n:=(lx (err m [115,105,103,110]) 60).key.length+1) (by have:=h1.sz;rw[n2];unfold mj at this;omega))
  have HX:=hide (Er (fy hc))
  have HP:Hid ((lx (err m [115,105,103,110]) 60).pos+1≤(lx (err m [115,105,103,110]) 60).l.length):=by rw[n4,n5];exact hide h1.ps
  rw[←n4]at hpo
  have HL:=hide (fy hc)
  clear n1 n2 n3 n4 n5 n6 h1
  go_wp2_with fail
  go_region_law(first
   |(refine fx rfl (.tmp 144) (.tmp 149) 45 rfl 3 i0 _ 1 8 underlying45 hi hz0 hz1 hz2 rfl (by decide) R.key.a (lx (err m [115,105,103,110]) 60).key.length R.key.cap ((lx (err m [115,105,103,110]) 60).key.map (Value.int .i64)) (by simp[Act.eval]) (bh h1.C1 _) ⟨w1.heap.size,0,none⟩ 1 1 ([(lw (bb 60))].map (Value.int .i64)) (by simp[Act.eval]) rfl (by exact ii _ _ _ _ (by rfl)) (km _) (by decide) (ae HZ).1 (ae HZ).2 ?_;intro a' cap' w3 hown hgrow hfresh;obtain⟨hok,hfr⟩:=nu (y:=[_]) hown hfresh;obtain⟨hself,hT⟩:=h1.Eo ((More.refl _).alloc _) _ ⟨some a',cap'⟩ hok hgrow (by simpa[o0]using hfr) (ny h1.ok.key (fun d hd=>by rw[de.1 hd];exact ae HX));have eN:w3.cell? ⟨b,16,none⟩=some (.slice R.key.a (lx (err m [115,105,103,110]) 60).key.length R.key.cap):=bg hself 16;have ef:=bn hself)
   |(go_simp;go_at_call 231;refine(ae HN).mono ?_;rintro e w1⟨tl,ta,rfl,h1⟩;have d1:w1.cell? ⟨b,16,none⟩=some (.slice R.key.a (lx (err m [115,105,103,110]) 60).key.length R.key.cap):=h1.cell 16;have l1:=h1.obj.lt)
   |(go_simp;go_at_call 228;refine(pg (bb 60) _ (by have:=(ae HL).1;omega) (ae HL).2).mono ?_;rintro e w2⟨rfl,hw2⟩;rw[hw2]))
  all_goals
   simp only[aq,ai,ak,ja]at hT
   have t1:=hT.cell 1
   simp only[mc]at t1
   have tf:=hT.frozen
   have HE:=hide (Mk.setPos ((lx (err m [115,105,103,110]) 60).pos+1) (by exact ae HP) hT.out)
   clear hT h1 hok hfr hown hgrow hfresh
   go_wp2
   first|go_end0|((try simp only[Exit.inBlock,Exit.then]);refine ap (av rfl _ _ _) rfl ?_)
   exact⟨rfl,ae HE⟩
 rw[show tag m c=putKey (lx m c) (lw (bb c)) by simp[tag,hst,be,n47,n62,n61,n34,n39,n60]]
 have gj:=az.2 be
 have e47:(c==47)=false:=af.2 n47
 have e62:(c==62)=false:=af.2 n62
 have e61:(c==61)=false:=af.2 n61
 have e34:(c==34)=false:=af.2 n34
 have e39:(c==39)=false:=af.2 n39
 have e60:(c==60)=false:=af.2 n60
 clear be n47 n62 n61 n34 n39 n60
 go_enter func184,ntmps184
 go_wp2_with fail
 refine(eo c _).mono ?_
 rintro e w1⟨rfl,rfl⟩
 obtain⟨R,hR⟩:=h.rep
 obtain⟨n1,n2,n3,n4,n5,n6⟩:=nz m c
 have cN:w1.cell? ⟨b,16,none⟩=some (.slice R.key.a (lx m c).key.length R.key.cap):=by rw[n2];exact hR.cell 16
 have cf:=hR.frozen
 have hlt:=hR.obj.lt
 have hpo:=h.pos
 have HN:=hide (pp c (hR.more (More.refl _).drew) h.told)
 have HZ:=hide (vg (n:=(lx m c).key.length+1) (by have:=h.sz;rw[n2];unfold mj at this;omega))
 have HX:=hide (Er (fy hc))
 have HP:Hid ((lx m c).pos+1≤(lx m c).l.length):=by rw[n4,n5];exact hide h.ps
 rw[←n4]at hpo
 have HL:=hide (fy hc)
 clear n1 n2 n3 n4 n5 n6 h
 go_wp2_with fail
 go_region_law(first
  |(refine fx rfl (.tmp 144) (.tmp 149) 45 rfl 3 i0 _ 1 8 underlying45 hi hz0 hz1 hz2 rfl (by decide) R.key.a (lx m c).key.length R.key.cap ((lx m c).key.map (Value.int .i64)) (by simp[Act.eval]) (bh h1.C1 _) ⟨w1.heap.size,0,none⟩ 1 1 ([(lw (bb c))].map (Value.int .i64)) (by simp[Act.eval]) rfl (by exact ii _ _ _ _ (by rfl)) (km _) (by decide) (ae HZ).1 (ae HZ).2 ?_;intro a' cap' w3 hown hgrow hfresh;obtain⟨hok,hfr⟩:=nu (y:=[_]) hown hfresh;obtain⟨hself,hT⟩:=h1.Eo ((More.refl _).alloc _) _ ⟨some a',cap'⟩ hok hgrow (by simpa[o0]using hfr) (ny h1.ok.key (fun d hd=>by rw[de.1 hd];exact ae HX));have eN:w3.cell? ⟨b,16,none⟩=some (.slice R.key.a (lx m c).key.length R.key.cap):=bg hself 16;have ef:=bn hself)
  |(go_simp;go_at_call 231;refine(ae HN).mono ?_;rintro e w1⟨tl,ta,rfl,h1⟩;have d1:w1.cell? ⟨b,16,none⟩=some (.slice R.key.a (lx m c).key.length R.key.cap):=h1.cell 16;have l1:=h1.obj.lt)
  |(go_simp;go_at_call 228;refine(pg (bb c) _ (by have:=(ae HL).1;omega) (ae HL).2).mono ?_;rintro e w2⟨rfl,hw2⟩;rw[hw2]))
 all_goals
  simp only[aq,ai,ak,ja]at hT
  have t1:=hT.cell 1
  simp only[mc]at t1
  have tf:=hT.frozen
  have HE:=hide (Mk.setPos ((lx m c).pos+1) (by exact ae HP) hT.out)
  clear hT h1 hok hfr hown hgrow hfresh
  go_wp2
  first|go_end0|((try simp only[Exit.inBlock,Exit.then]);refine ap (av rfl _ _ _) rfl ?_)
  exact⟨rfl,ae HE⟩
theorem zek(c:Int)(hc:Pt c)(hst:m.state=11)(h:Mz w0 aj b ex true 64 m w):
  Calls prog 184 #[.pointer (some ⟨b,0,none⟩),.int .i64 c] w fun e w'=>e= .returned (.tuple #[])∧Mk w0 aj b (tag m c) ex w':=by
 have c5:=h.c5
 rw[hst,show qc 11=[65,70,84,69,82]from rfl]at c5
 by_cases be:ba c=true
 ·rw[show tag m c=on m by simp[tag,hst,be]]
  go_enter func184,ntmps184
  go_wp2_with fail
  refine(eo c _).mono ?_
  rintro e w1⟨rfl,rfl⟩
  have f1:=h.frozen
  have p1:=h.c1
  have q1:=h.pos
  have h1:=h.on
  go_wp2
  first|go_end0|((try simp only[Exit.inBlock,Exit.then]);refine ap (av rfl _ _ _) rfl ?_)
  exact⟨rfl,h1⟩
 by_cases n47:c=47
 ·subst n47
  rw[show tag m 47=pc m 17 by simp[tag,hst,be]]
  have gj:ba 47=false:=rfl
  clear be
  go_enter func184,ntmps184
  go_wp2_with fail
  refine(eo 47 _).mono ?_
  rintro e w1⟨rfl,rfl⟩
  go_wp2_with fail
  refine(p8 17 h).mono ?_
  rintro e w2⟨rfl,h1⟩
  go_wp2
  first|go_end0|((try simp only[Exit.inBlock,Exit.then]);refine ap (av rfl _ _ _) rfl ?_)
  exact⟨rfl,h1⟩
 by_cases n61:c=61
 ·subst n61
  rw[show tag m 61=pc m 12 by simp[tag,hst,be]]
  have gj:ba 61=false:=rfl
  clear be
  go_enter func184,ntmps184
  go_wp2_with fail
  refine(eo 61 _).mono ?_
  rintro e w1⟨rfl,rfl⟩
  go_wp2_with fail
  refine(p8 12 h).mono ?_
  rintro e w2⟨rfl,h1⟩
  go_wp2
  first|go_end0|((try simp only[Exit.inBlock,Exit.then]);refine ap (av rfl _ _ _) rfl ?_)
  exact⟨rfl,h1⟩
 by_cases n62:c=62
 ·subst n62
  rw[show tag m 62=ot m by simp[tag,hst,be]]
  have gj:ba 62=false:=rfl
  clear be
  go_enter func184,ntmps184
  go_wp2_with fail
  refine(eo 62 _).mono ?_
  rintro e w1⟨rfl,rfl⟩
  go_wp2_with fail
  refine(An h).mono ?_
  rintro e w2⟨rfl,h1⟩
  go_wp2
  first|go_end0|((try simp only[Exit.inBlock,Exit.then]);refine ap (av rfl _ _ _) rfl ?_)
  exact⟨rfl,h1⟩
 rw[show tag m c=st (qp m) 10 by simp[tag,hst,be,n47,n61,n62]]
 have gj:=az.2 be
 have e47:(c==47)=false:=af.2 n47
 have e61:(c==61)=false:=af.2 n61
 have e62:(c==62)=false:=af.2 n62
 clear be n47 n61 n62
 go_enter func184,ntmps184
 go_wp2_with fail
 refine(eo c _).mono ?_
 rintro e w1⟨rfl,rfl⟩
 go_wp2_with fail
 refine(Jr h).mono ?_
 rintro e w2⟨rfl,h1⟩
 have f2:=h1.frozen
 obtain⟨Eu,Ev⟩:=h1.some 5 (by decide)
 have h2:=h1.setState 10
 go_wp2
 first|go_end0|((try simp only[Exit.inBlock,Exit.then]);refine ap (av rfl _ _ _) rfl ?_)
 exact⟨rfl,h2.rep⟩
end
end Go.Proofs.YtdfmapcnfficlaaGreatDoor.M

import Derived.Test.YtdfmapcnfficlaaGreatDoorP10
set_option linter.all false
set_option maxHeartbeats 4000000
set_option maxRecDepth 1000000
namespace Go.Proofs.YtdfmapcnfficlaaGreatDoor.M
open Go.Proofs.Tryz
open Go Go.RowKit Go.Proofs.YtdfmapcnfficlaaGreatDoor
section
variable{w0:World}{aj:Nat→Prop}{b:Nat}{m:MS}{ex:List Item}{w:World}{g:Bool}
theorem Q8(c:Int)(hc:Pt c)(hst:m.state=19)(h:Mz w0 aj b ex g 64 m w):
  Calls prog 187 #[.pointer (some ⟨b,0,none⟩),.int .i64 c] w fun e w'=>e= .returned (.tuple #[])∧Mk w0 aj b (comment m c) ex w':=by
 have c5:=h.c5
 rw[hst,show qc 19=[66,79,71,85,83]from rfl]at c5
 obtain⟨i0,hi,hz0,hz1,hz2⟩:=info_parts qa
 by_cases n62:c=62
 ·subst n62
  rw[show comment m 62=pc (dm m) 0 by simp[comment,hst]]
  go_enter func187,ntmps187
  go_wp2_with fail
  refine(vn h).mono ?_
  rintro e w2⟨rfl,h1⟩
  go_wp2_with fail
  refine(p8 0 h1).mono ?_
  rintro e w3⟨rfl,h2⟩
  go_wp2
  first|go_end0|((try simp only[Exit.inBlock,Exit.then]);refine ap (av rfl _ _ _) rfl ?_)
  exact⟨rfl,h2⟩
 rw[show comment m c=je (lx m c) (bb c) by simp[comment,hst,n62]]
 have e62:(c==62)=false:=af.2 n62
 clear n62
 go_enter func187,ntmps187
 obtain⟨R,hR⟩:=h.rep
 obtain⟨n1,n2,n3,n4,n5,n6⟩:=nz m c
 have cN:w.cell? ⟨b,14,none⟩=some (.slice R.name.a (lx m c).name.length R.name.cap):=by rw[n1];exact hR.cell 14
 have cf:=hR.frozen
 have hlt:=hR.obj.lt
 have hpo:=h.pos
 have HN:=hide (pp c (hR.more (More.refl _).drew) h.told)
 have HZ:=hide (vg (n:=(lx m c).name.length+1) (by have:=h.sz;rw[n1];unfold mj at this;omega))
 have HX:=hide (fy hc)
 have HP:Hid ((lx m c).pos+1≤(lx m c).l.length):=by rw[n4,n5];exact hide h.ps
 rw[←n4]at hpo
 have HL:=hide (fy hc)
 clear n1 n2 n3 n4 n5 n6 h
 go_wp2_with fail
 go_region_law(first
  |(refine fx rfl (.tmp 8) (.tmp 12) 45 rfl 3 i0 _ 1 8 underlying45 hi hz0 hz1 hz2 rfl (by decide) R.name.a (lx m c).name.length R.name.cap ((lx m c).name.map (Value.int .i64)) (by simp[Act.eval]) (bh h1.qx _) ⟨w1.heap.size,0,none⟩ 1 1 ([(bb c)].map (Value.int .i64)) (by simp[Act.eval]) rfl (by exact ii _ _ _ _ (by rfl)) (km _) (by decide) (ae HZ).1 (ae HZ).2 ?_;intro a' cap' w3 hown hgrow hfresh;obtain⟨hok,hfr⟩:=nu (y:=[_]) hown hfresh;obtain⟨hself,hT⟩:=h1.ux ((More.refl _).alloc _) _ ⟨some a',cap'⟩ hok hgrow (by simpa[o0]using hfr) (ny h1.ok.name (fun d hd=>by rw[de.1 hd];exact ae HX));have eN:w3.cell? ⟨b,14,none⟩=some (.slice R.name.a (lx m c).name.length R.name.cap):=bg hself 14;have ef:=bn hself)
  |(go_simp;go_at_call 231;refine(ae HN).mono ?_;rintro e w1⟨tl,ta,rfl,h1⟩;have d1:w1.cell? ⟨b,14,none⟩=some (.slice R.name.a (lx m c).name.length R.name.cap):=h1.cell 14;have l1:=h1.obj.lt))
 all_goals
  simp only[aq,ai,ak,ja]at hT
  have t1:=hT.cell 1
  simp only[mc]at t1
  have tf:=hT.frozen
  have HE:=hide (Mk.setPos ((lx m c).pos+1) (by exact ae HP) hT.out)
  clear hT h1 hok hfr hown hgrow hfresh
  go_wp2
  first|go_end0|((try simp only[Exit.inBlock,Exit.then]);refine ap (av rfl _ _ _) rfl ?_)
  exact⟨rfl,ae HE⟩
theorem Lx(c:Int)(hc:Pt c)(hst:m.state=22)(h:Mz w0 aj b ex g 64 m w):
  Calls prog 187 #[.pointer (some ⟨b,0,none⟩),.int .i64 c] w fun e w'=>e= .returned (.tuple #[])∧Mk w0 aj b (comment m c) ex w':=by
 have c5:=h.c5
 rw[hst,show qc 22=[67,79,77,77,69,78,84]from rfl]at c5
 obtain⟨i0,hi,hz0,hz1,hz2⟩:=info_parts qa
 by_cases n45:c=45
 ·subst n45
  rw[show comment m 45=pc m 23 by simp[comment,hst]]
  go_enter func187,ntmps187
  go_wp2_with fail
  refine(p8 23 h).mono ?_
  rintro e w2⟨rfl,h1⟩
  go_wp2
  first|go_end0|((try simp only[Exit.inBlock,Exit.then]);refine ap (av rfl _ _ _) rfl ?_)
  exact⟨rfl,h1⟩
 rw[show comment m c=je (lx m c) (bb c) by simp[comment,hst,n45]]
 have e45:(c==45)=false:=af.2 n45
 clear n45
 go_enter func187,ntmps187
 obtain⟨R,hR⟩:=h.rep
 obtain⟨n1,n2,n3,n4,n5,n6⟩:=nz m c
 have cN:w.cell? ⟨b,14,none⟩=some (.slice R.name.a (lx m c).name.length R.name.cap):=by rw[n1];exact hR.cell 14
 have cf:=hR.frozen
 have hlt:=hR.obj.lt
 have hpo:=h.pos
 have HN:=hide (pp c (hR.more (More.refl _).drew) h.told)
 have HZ:=hide (vg (n:=(lx m c).name.length+1) (by have:=h.sz;rw[n1];unfold mj at this;omega))
 have HX:=hide (fy hc)
 have HP:Hid ((lx m c).pos+1≤(lx m c).l.length):=by rw[n4,n5];exact hide h.ps
 rw[←n4]at hpo
 have HL:=hide (fy hc)
 clear n1 n2 n3 n4 n5 n6 h
 go_wp2_with fail
 go_region_law(first
  |(refine fx rfl (.tmp 8) (.tmp 12) 45 rfl 3 i0 _ 1 8 underlying45 hi hz0 hz1 hz2 rfl (by decide) R.name.a (lx m c).name.length R.name.cap ((lx m c).name.map (Value.int .i64)) (by simp[Act.eval]) (bh h1.qx _) ⟨w1.heap.size,0,none⟩ 1 1 ([(bb c)].map (Value.int .i64)) (by simp[Act.eval]) rfl (by exact ii _ _ _ _ (by rfl)) (km _) (by decide) (ae HZ).1 (ae HZ).2 ?_;intro a' cap' w3 hown hgrow hfresh;obtain⟨hok,hfr⟩:=nu (y:=[_]) hown hfresh;obtain⟨hself,hT⟩:=h1.ux ((More.refl _).alloc _) _ ⟨some a',cap'⟩ hok hgrow (by simpa[o0]using hfr) (ny h1.ok.name (fun d hd=>by rw[de.1 hd];exact ae HX));have eN:w3.cell? ⟨b,14,none⟩=some (.slice R.name.a (lx m c).name.length R.name.cap):=bg hself 14;have ef:=bn hself)
  |(go_simp;go_at_call 231;refine(ae HN).mono ?_;rintro e w1⟨tl,ta,rfl,h1⟩;have d1:w1.cell? ⟨b,14,none⟩=some (.slice R.name.a (lx m c).name.length R.name.cap):=h1.cell 14;have l1:=h1.obj.lt))
 all_goals
  simp only[aq,ai,ak,ja]at hT
  have t1:=hT.cell 1
  simp only[mc]at t1
  have tf:=hT.frozen
  have HE:=hide (Mk.setPos ((lx m c).pos+1) (by exact ae HP) hT.out)
  clear hT h1 hok hfr hown hgrow hfresh
  go_wp2
  first|go_end0|((try simp only[Exit.inBlock,Exit.then]);refine ap (av rfl _ _ _) rfl ?_)
  exact⟨rfl,ae HE⟩
theorem Uu(c:Int)(hc:Pt c)(hst:m.state=20)(h:Mz w0 aj b ex g 64 m w):
  Calls prog 188 #[.pointer (some ⟨b,0,none⟩),.int .i64 c] w fun e w'=>e= .returned (.tuple #[])∧Mk w0 aj b (dashes m c) ex w':=by
 have c5:=h.c5
 rw[hst,show qc 20=[66,69,71,73,78]from rfl]at c5
 by_cases n45:c=45
 ·subst n45
  rw[show dashes m 45=pc m 21 by simp[dashes,hst]]
  go_enter func188,ntmps188
  go_wp2_with fail
  refine(p8 21 h).mono ?_
  rintro e w2⟨rfl,h1⟩
  go_wp2
  first|go_end0|((try simp only[Exit.inBlock,Exit.then]);refine ap (av rfl _ _ _) rfl ?_)
  exact⟨rfl,h1⟩
 by_cases n62:c=62
 ·subst n62
  rw[show dashes m 62=pc (dm (err m [97,98,114,117,112,116])) 0 by simp[dashes,hst]]
  go_enter func188,ntmps188
  go_wp2_with fail
  refine(qe [97,98,114,117,112,116] h).mono ?_
  rintro e w2⟨rfl,h1⟩
  go_wp2_with fail
  refine(vn h1).mono ?_
  rintro e w3⟨rfl,h2⟩
  go_wp2_with fail
  refine(p8 0 h2).mono ?_
  rintro e w4⟨rfl,h3⟩
  go_wp2
  first|go_end0|((try simp only[Exit.inBlock,Exit.then]);refine ap (av rfl _ _ _) rfl ?_)
  exact⟨rfl,h3⟩
 rw[show dashes m c=st m 22 by simp[dashes,hst,n45,n62]]
 have e45:(c==45)=false:=af.2 n45
 have e62:(c==62)=false:=af.2 n62
 clear n45 n62
 go_enter func188,ntmps188
 have f1:=h.frozen
 obtain⟨zj7,zj8⟩:=h.some 5 (by decide)
 have h1:=h.setState 22
 go_wp2
 first|go_end0|((try simp only[Exit.inBlock,Exit.then]);refine ap (av rfl _ _ _) rfl ?_)
 exact⟨rfl,h1.rep⟩
theorem Jt(c:Int)(hc:Pt c)(hst:m.state=21)(h:Mz w0 aj b ex g 64 m w):
  Calls prog 188 #[.pointer (some ⟨b,0,none⟩),.int .i64 c] w fun e w'=>e= .returned (.tuple #[])∧Mk w0 aj b (dashes m c) ex w':=by
 have c5:=h.c5
 rw[hst,show qc 21=[66,69,71,73,78,68,65,83,72]from rfl]at c5
 by_cases n62:c=62
 ·subst n62
  rw[show dashes m 62=pc (dm (err m [97,98,114,117,112,116])) 0 by simp[dashes,hst]]
  go_enter func188,ntmps188
  go_wp2_with fail
  refine(qe [97,98,114,117,112,116] h).mono ?_
  rintro e w2⟨rfl,h1⟩
  go_wp2_with fail
  refine(vn h1).mono ?_
  rintro e w3⟨rfl,h2⟩
  go_wp2_with fail
  refine(p8 0 h2).mono ?_
  rintro e w4⟨rfl,h3⟩
  go_wp2
  first|go_end0|((try simp only[Exit.inBlock,Exit.then]);refine ap (av rfl _ _ _) rfl ?_)
  exact⟨rfl,h3⟩
 by_cases n45:c=45
 ·subst n45
  rw[show dashes m 45=pc m 24 by simp[dashes,hst]]
  go_enter func188,ntmps188
  go_wp2_with fail
  refine(p8 24 h).mono ?_
  rintro e w2⟨rfl,h1⟩
  go_wp2
  first|go_end0|((try simp only[Exit.inBlock,Exit.then]);refine ap (av rfl _ _ _) rfl ?_)
  exact⟨rfl,h1⟩
 rw[show dashes m c=st (add m [45]) 22 by simp[dashes,hst,n62,n45]]
 have e62:(c==62)=false:=af.2 n62
 have e45:(c==45)=false:=af.2 n45
 clear n62 n45
 go_enter func188,ntmps188
 go_wp2_with fail
 refine(No [45] (by decide) h).mono ?_
 rintro e w2⟨rfl,h1⟩
 have f2:=h1.frozen
 obtain⟨Eu,Ev⟩:=h1.some 5 (by decide)
 have h2:=h1.setState 22
 go_wp2
 first|go_end0|((try simp only[Exit.inBlock,Exit.then]);refine ap (av rfl _ _ _) rfl ?_)
 exact⟨rfl,h2.rep⟩
theorem Xn(c:Int)(hc:Pt c)(hst:m.state=23)(h:Mz w0 aj b ex g 64 m w):
  Calls prog 188 #[.pointer (some ⟨b,0,none⟩),.int .i64 c] w fun e w'=>e= .returned (.tuple #[])∧Mk w0 aj b (dashes m c) ex w':=by
 have c5:=h.c5
 rw[hst,show qc 23=[68,65,83,72]from rfl]at c5
 by_cases n45:c=45
 ·subst n45
  rw[show dashes m 45=pc m 24 by simp[dashes,hst]]
  go_enter func188,ntmps188
  go_wp2_with fail
  refine(p8 24 h).mono ?_
  rintro e w2⟨rfl,h1⟩
  go_wp2
  first|go_end0|((try simp only[Exit.inBlock,Exit.then]);refine ap (av rfl _ _ _) rfl ?_)
  exact⟨rfl,h1⟩
 by_cases n62:c=62
 ·subst n62
  rw[show dashes m 62=st (add m [45]) 22 by simp[dashes,hst]]
  go_enter func188,ntmps188
  go_wp2_with fail
  refine(No [45] (by decide) h).mono ?_
  rintro e w2⟨rfl,h1⟩
  have f2:=h1.frozen
  obtain⟨Eu,Ev⟩:=h1.some 5 (by decide)
  have h2:=h1.setState 22
  go_wp2
  first|go_end0|((try simp only[Exit.inBlock,Exit.then]);refine ap (av rfl _ _ _) rfl ?_)
  exact⟨rfl,h2.rep⟩
 rw[show dashes m c=st (add m [45]) 22 by simp[dashes,hst,n45,n62]]
 have e45:(c==45)=false:=af.2 n45
 have e62:(c==62)=false:=af.2 n62
 clear n45 n62
 go_enter func188,ntmps188
 go_wp2_with fail
 refine(No [45] (by decide) h).mono ?_
 rintro e w2⟨rfl,h1⟩
 have f2:=h1.frozen
 obtain⟨Eu,Ev⟩:=h1.some 5 (by decide)
 have h2:=h1.setState 22
 go_wp2
 first|go_end0|((try simp only[Exit.inBlock,Exit.then]);refine ap (av rfl _ _ _) rfl ?_)
 exact⟨rfl,h2.rep⟩
theorem Q9(c:Int)(hc:Pt c)(hst:m.state=24)(h:Mz w0 aj b ex g 64 m w):
  Calls prog 188 #[.pointer (some ⟨b,0,none⟩),.int .i64 c] w fun e w'=>e= .returned (.tuple #[])∧Mk w0 aj b (dashes m c) ex w':=by
 have c5:=h.c5
 rw[hst,show qc 24=[68,65,83,72,69,83]from rfl]at c5
 by_cases n62:c=62
 ·subst n62
  rw[show dashes m 62=pc (dm m) 0 by simp[dashes,hst]]
  go_enter func188,ntmps188
  go_wp2_with fail
  refine(vn h).mono ?_
  rintro e w2⟨rfl,h1⟩
  go_wp2_with fail
  refine(p8 0 h1).mono ?_
  rintro e w3⟨rfl,h2⟩
  go_wp2
  first|go_end0|((try simp only[Exit.inBlock,Exit.then]);refine ap (av rfl _ _ _) rfl ?_)
  exact⟨rfl,h2⟩
 by_cases n33:c=33
 ·subst n33
  rw[show dashes m 33=pc m 25 by simp[dashes,hst]]
  go_enter func188,ntmps188
  go_wp2_with fail
  refine(p8 25 h).mono ?_
  rintro e w2⟨rfl,h1⟩
  go_wp2
  first|go_end0|((try simp only[Exit.inBlock,Exit.then]);refine ap (av rfl _ _ _) rfl ?_)
  exact⟨rfl,h1⟩
 by_cases n45:c=45
 ·subst n45
  rw[show dashes m 45=on (add m [45]) by simp[dashes,hst]]
  go_enter func188,ntmps188
  go_wp2_with fail
  refine(No [45] (by decide) h).mono ?_
  rintro e w2⟨rfl,h1⟩
  have f2:=h1.frozen
  have p2:=h1.c1
  have q2:=h1.pos
  have h2:=h1.on
  go_wp2
  first|go_end0|((try simp only[Exit.inBlock,Exit.then]);refine ap (av rfl _ _ _) rfl ?_)
  exact⟨rfl,h2⟩
 rw[show dashes m c=st (add m [45,45]) 22 by simp[dashes,hst,n62,n33,n45]]
 have e62:(c==62)=false:=af.2 n62
 have e33:(c==33)=false:=af.2 n33
 have e45:(c==45)=false:=af.2 n45
 clear n62 n33 n45
 go_enter func188,ntmps188
 go_wp2_with fail
 refine(No [45,45] (by decide) h).mono ?_
 rintro e w2⟨rfl,h1⟩
 have f2:=h1.frozen
 obtain⟨Eu,Ev⟩:=h1.some 5 (by decide)
 have h2:=h1.setState 22
 go_wp2
 first|go_end0|((try simp only[Exit.inBlock,Exit.then]);refine ap (av rfl _ _ _) rfl ?_)
 exact⟨rfl,h2.rep⟩
theorem Xo(c:Int)(hc:Pt c)(hst:m.state=25)(h:Mz w0 aj b ex g 64 m w):
  Calls prog 188 #[.pointer (some ⟨b,0,none⟩),.int .i64 c] w fun e w'=>e= .returned (.tuple #[])∧Mk w0 aj b (dashes m c) ex w':=by
 have c5:=h.c5
 rw[hst,show qc 25=[66,65,78,71]from rfl]at c5
 by_cases n45:c=45
 ·subst n45
  rw[show dashes m 45=pc (add m [45,45,33]) 23 by simp[dashes,hst]]
  go_enter func188,ntmps188
  go_wp2_with fail
  refine(No [45,45,33] (by decide) h).mono ?_
  rintro e w2⟨rfl,h1⟩
  go_wp2_with fail
  refine(p8 23 h1).mono ?_
  rintro e w3⟨rfl,h2⟩
  go_wp2
  first|go_end0|((try simp only[Exit.inBlock,Exit.then]);refine ap (av rfl _ _ _) rfl ?_)
  exact⟨rfl,h2⟩
 by_cases n62:c=62
 ·subst n62
  rw[show dashes m 62=pc (dm (err m [98,97,110,103])) 0 by simp[dashes,hst]]
  go_enter func188,ntmps188
  go_wp2_with fail
  refine(qe [98,97,110,103] h).mono ?_
  rintro e w2⟨rfl,h1⟩
  go_wp2_with fail
  refine(vn h1).mono ?_
  rintro e w3⟨rfl,h2⟩
  go_wp2_with fail
  refine(p8 0 h2).mono ?_
  rintro e w4⟨rfl,h3⟩
  go_wp2
  first|go_end0|((try simp only[Exit.inBlock,Exit.then]);refine ap (av rfl _ _ _) rfl ?_)
  exact⟨rfl,h3⟩
 rw[show dashes m c=st (add m [45,45,33]) 22 by simp[dashes,hst,n45,n62]]
 have e45:(c==45)=false:=af.2 n45
 have e62:(c==62)=false:=af.2 n62
 clear n45 n62
 go_enter func188,ntmps188
 go_wp2_with fail
 refine(No [45,45,33] (by decide) h).mono ?_
 rintro e w2⟨rfl,h1⟩
 have f2:=h1.frozen
 obtain⟨Eu,Ev⟩:=h1.some 5 (by decide)
 have h2:=h1.setState 22
 go_wp2
 first|go_end0|((try simp only[Exit.inBlock,Exit.then]);refine ap (av rfl _ _ _) rfl ?_)
 exact⟨rfl,h2.rep⟩
end
end Go.Proofs.YtdfmapcnfficlaaGreatDoor.M

import Derived.Test.YtdfmapcnfficlaaGreatDoorP11
set_option linter.all false
set_option maxHeartbeats 4000000
set_option maxRecDepth 1000000
namespace Go.Proofs.YtdfmapcnfficlaaGreatDoor.M
open Go.Proofs.Tryz
open Go Go.RowKit Go.Proofs.YtdfmapcnfficlaaGreatDoor
theorem tu{P:Program}{ops:Array Oper}{o:Oper}{a:Act}{w:World}{K:Act→World→Prop}{Q:Exit→Act→World→Prop}{E:Prop}
  (hg:o.guard=none) (s x:Operand) (t:TypeId) (ho:o.op=Op.call {callee:=Callee.builtin Builtin.append,args:=#[s,x],argTypes:=#[t,t]})
  (e:TypeId) (i:TypeInfo) (z:Value) (size bytes:Nat) (ht:P.underlying t=some (.slice e)) (hi:P.info? e=some i) (hz:i.zero=some z)
  (hsize:i.size=size) (hby:i.bytes=bytes) (hzs:z.cells.size=size) (hsz:0<size)
  (ao:Option Addr) (n cap:Nat) (xs:List Value) (hs:a.eval s= .slice ao n cap) (hown:w.ownsRow 0 e size (.slice ao n cap) n xs)
  (ax:Option Addr) (m c:Nat) (news:List Value) (hx:a.eval x= .slice ax m c) (hl:news.length=m*size) (hnews:0<m→∃ad,ax=some ad∧∀j u,news[j]? =some u→w.cell? (ad.add j)=some u) (h1:∀u∈news,u.oneCell'=true)
  (h63:n+m≤maxLen) (hbytes:(n+m)*bytes≤140737488355328)
  (hK:∀Hv cap' w',w'.ownsRow 0 e size (.slice Hv (n+m) cap') (n+m) (xs++news)→w.grownBy w' (ao.map (·.block))→o0 w ao Hv→K (a.put o.dst (.slice Hv (n+m) cap')) w'):
  if Region.wanted o (yielded ops a.tmps)=true then Oper.wp P o a w K Q else E:=by
 by_cases hm:m=0
 ·subst hm
  have hn:news=[]:=List.length_eq_zero_iff.1 (by simpa using hl)
  subst hn
  have hw:Region.wanted o (yielded ops a.tmps)=true:=by simp[Region.wanted,hg]
  rw[au hw]
  have hr:=Lw (P:=P) w t o.type e i size ht hi ao n cap xs hown ax c
  unfold Oper.wp execOp
  simp only[ho,resolve,invoke,builtin,Sem.run_bind,Sem.run_pure,Result.andThen_ok,List.map_toArray,List.map_cons,List.map_nil,hs,hx,hr]
  exact hK ao cap w (by simpa using hown) ⟨rfl,rfl,rfl,cx _,fun _ _ _=>rfl⟩ (.inl rfl)
 ·obtain⟨ad,rfl,hc⟩:=hnews (by omega)
  refine fx hg s x t ho e i z size bytes ht hi hz hsize hby hzs hsz ao n cap xs hs hown ad m c news hx hl hc h1 (by omega) h63 hbytes ?_
  intro a' cap' w' h2 h3 h4
  refine hK (some a') cap' w' h2 h3 ?_
  rcases h4 with h4|h4
  ·exact .inl (by simpa using h4)
  ·exact .inr ⟨a'.block,rfl,h4⟩
section
variable{w0:World}{aj:Nat→Prop}{b:Nat}{m:MS}{ex:List Item}{w:World}{g:Bool}{k:Nat}
theorem ze{r:Sl}{l:List Int}(h:(ck r l).ok w)(h0:0<l.length):∃ad,r.a=some ad∧∀(j:Nat)u,(l.map (Value.int .i64))[j]? =some u→w.cell? (ad.add j)=some u:=by
 rcases h.2 with⟨_,hn⟩|⟨gg,cap,cur,hv,_⟩
 ·have:l.length=0:=hn
  omega
 ·injection hv with e1 e2 e3
  have e1':r.a=some ⟨gg,0,none⟩:=e1
  exact⟨_,e1',World.ownsRow.cells h (g:=gg) (by show(Value.slice r.a l.length r.cap).ownBlock=some gg;rw[e1'];rfl)⟩
theorem Xm(c:Int)(hc:Pt c)(hst:m.state=7)(hl:br c=true)(h:Mz w0 aj b ex g 64 m w):
  Calls prog 183 #[.pointer (some ⟨b,0,none⟩),.int .i64 c] w fun e w'=>e= .returned (.tuple #[])∧Mk w0 aj b (less m c) ex w':=by
 have c5:=h.c5
 rw[hst,show qc 7=[76,69,83,83,78,65,77,69]from rfl]at c5
 obtain⟨i0,hi,hz0,hz1,hz2⟩:=info_parts qa
 rw[show less m c={m with name:=m.name++[lw c],buf:=m.buf++[c],pos:=m.pos+1} by simp[less,hst,hl]]
 obtain⟨R,hR⟩:=h.rep
 have cN:w.cell? ⟨b,14,none⟩=some (.slice R.name.a m.name.length R.name.cap):=hR.cell 14
 have cB:w.cell? ⟨b,15,none⟩=some (.slice R.buf.a m.buf.length R.buf.cap):=hR.cell 15
 have cf:=hR.frozen
 have hlt:=hR.obj.lt
 have hpo:=h.pos
 have HZ:=hide (vg (n:=m.name.length+1) (by have:=h.sz;unfold mj at this;omega))
 have HY:=hide (vg (n:=m.buf.length+1) (by have:=h.sz;unfold mj at this;omega))
 have HX:=hide (Er hc)
 have HC:=hide hc
 have HP:=hide h.ps
 have HLe:=hide (fun W=>nr c W)
 rw[hl]at HLe
 clear h hl hst
 go_enter func183,ntmps183
 go_wp2_with fail
 refine(ae HLe _).mono ?_
 rintro e w1⟨rfl,hw1⟩
 rw[hw1]
 clear hw1
 go_wp2_with fail
 go_region_law(first
  |(refine fx rfl (.tmp 17) (.tmp 20) 45 rfl 3 i0 _ 1 8 underlying45 hi hz0 hz1 hz2 rfl (by decide) R.name.a m.name.length R.name.cap (m.name.map (Value.int .i64)) (by simp[Act.eval]) (by repeat(first|exact hR.qx|refine bh ?_ _|refine og ?_)) ⟨w.heap.size,0,none⟩ 1 1 ([lw c].map (Value.int .i64)) (by simp[Act.eval]) rfl (by exact ii _ _ _ _ (by rfl)) (km _) (by decide) (ae HZ).1 (ae HZ).2 ?_;intro a' cap' w3 hown hgrow hfresh;obtain⟨hok,hfr⟩:=nu (y:=[_]) hown hfresh;obtain⟨hself,hT⟩:=hR.ux (by repeat(first|exact More.refl _|refine More.alloc ?_ _|refine More.drew ?_)) _ ⟨some a',cap'⟩ hok hgrow (by simpa[o0]using hfr) (ny hR.ok.name (fun d hd=>by rw[de.1 hd];exact ae HX));have eN:w3.cell? ⟨b,14,none⟩=some (.slice R.name.a m.name.length R.name.cap):=bg hself 14;have ef:=bn hself)
  |(go_simp;go_at_call 228;refine(pg c _ (by have:=(ae HC).1;omega) (ae HC).2).mono ?_;rintro e w2⟨rfl,hw2⟩;rw[hw2]))
 all_goals
  simp only[aq,ai,ak,ja]at hT
  have hT5:=hT
  clear hok hfr hown hgrow hfresh eN ef hself hT
  generalize(w3.setCell ⟨b,14,none⟩ (Value.slice (some a') (m.name.length+1) cap'))=w5 at*
  have t15:=hT5.cell 15
  have t1:=hT5.cell 1
  have tf:=hT5.frozen
  simp only[mc]at t15 t1
  go_wp2_with(at_builtin;refine dh _ rfl (.tmp 28) (.tmp 30) 45 rfl 3 i0 _ 1 8 underlying45 hi hz0 hz1 hz2 rfl (by decide) R.buf.a m.buf.length R.buf.cap (m.buf.map (Value.int .i64)) rfl (bh hT5.F3 _) ⟨w5.heap.size,0,none⟩ 1 1 ([c].map (Value.int .i64)) rfl rfl (ii _ _ _ _ rfl) (km _) (by decide) (ae HY).1 (ae HY).2 ?next)
  case next=>
   intro a2 cap2 w6 hown hgrow hfresh
   obtain⟨hok,hfr⟩:=nu (y:=[_]) (r:=R.buf) (W1:=w5.alloc (.cells #[.int .i64 c] 3)) hown (by simpa using hfresh)
   obtain⟨hself,hT⟩:=hT5.zgl ((More.refl _).alloc _) _ ⟨some a2,cap2⟩ hok hgrow (by simpa[o0]using hfr) (ny hT5.ok.buf (fun d hd=>by rw[de.1 hd];exact ae HC))
   have eN:w6.cell? ⟨b,15,none⟩=some (.slice R.buf.a m.buf.length R.buf.cap):=bg hself 15
   have ef:=bn hself
   simp only[aq,ai,ak,ja]at hT
   have s1:=hT.cell 1
   have sf:=hT.frozen
   simp only[mc]at s1
   have HE:=hide (Mk.setPos (m.pos+1) (by exact ae HP) hT.out)
   clear hT hok hfr hown hgrow hfresh hT5
   go_wp2
   first|go_end0|((try simp only[Exit.inBlock,Exit.then]);refine ap (av rfl _ _ _) rfl ?_)
   exact⟨rfl,ae HE⟩
end
theorem Ur(m:MS)(h:mj m+16≤lim):(ol m).told.length≤lim:=by
 unfold mj at h
 unfold ol
 split
 ·show(m.told++_).length≤lim
  simp;omega
 ·show m.told.length≤lim
  omega
theorem zaw(m:MS)(x:Tok):(tell m x).state=m.state:=by unfold tell flush;split<;>rfl
theorem Mk.c5{w0:World}{aj:Nat→Prop}{b:Nat}{m:MS}{ex:List Item}{w:World}(h:Mk w0 aj b m ex w)(q:Nat)(hq:m.state=q):w.cell? ⟨b,5,none⟩=some (.string ⟨(qc q).toArray⟩):=by obtain⟨R,r⟩:=h;rw[←hq];exact r.cell 5
section
variable{w0:World}{aj:Nat→Prop}{b:Nat}{m:MS}{ex:List Item}{w:World}{g:Bool}{k:Nat}
theorem zef(h:Mk w0 aj b m ex w)(hs:mj m+16≤lim)(q:Nat)(hst:m.state=q)(hq:q=0∨q=1∨q=2):
  Calls prog 121 #[.pointer (some ⟨b,0,none⟩)] w fun e w'=>e= .returned (.tuple #[])∧Mk w0 aj b (ends m) ex w':=by
 have c5:w.cell? ⟨b,5,none⟩=some (.string ⟨(qc q).toArray⟩):=by obtain⟨R,r⟩:=h;rw[←hst];exact r.cell 5
 have HS:=hide hs
 clear hs
 rcases hq with rfl|rfl|rfl
 all_goals
  rw[show ends m=m by unfold ends;simp[hst]]
  simp only[qc,Hw,bu,cv,dd,fb]at c5
  clear hst
  go_enter func121,ntmps121
  go_wp2_with fail
  refine(uy h).mono ?_
  rintro e w1⟨rfl,hw1⟩
  rw[hw1]
  clear hw1
  go_wp2
  first|go_end0|((try simp only[Exit.inBlock,Exit.then]);refine ap (av rfl _ _ _) rfl ?_)
  exact⟨rfl,h⟩
theorem zax(h:Mk w0 aj b m ex w)(hs:mj m+16≤lim)(q:Nat)(hst:m.state=q)(hq:q=33):
  Calls prog 121 #[.pointer (some ⟨b,0,none⟩)] w fun e w'=>e= .returned (.tuple #[])∧Mk w0 aj b (ends m) ex w':=by
 have c5:w.cell? ⟨b,5,none⟩=some (.string ⟨(qc q).toArray⟩):=by obtain⟨R,r⟩:=h;rw[←hst];exact r.cell 5
 have HS:=hide hs
 clear hs
 subst hq
 simp only[qc,Hw,bu,cv,dd,fb]at c5
 have HI:=hide (uy h)
 have HE:=hide (od [101,110,100,45,105,110,45,116,97,103] h (by have:=ae HS;unfold mj at this;omega))
 have HST:=hide hst
 by_cases hi:td m=true
 ·rw[show ends m=err m [101,110,100,45,105,110,45,116,97,103] by unfold ends;simp[hst,hi]]
  rw[hi]at HI
  clear hst hi
  go_enter func121,ntmps121
  go_wp2_with fail
  refine(ae HI).mono ?_
  rintro e w1⟨rfl,hw1⟩
  rw[hw1]
  clear hw1
  go_wp2_with fail
  refine(ae HE).mono ?_
  rintro e w2⟨rfl,h2⟩
  have zl8:=Mk.c5 h2 33 (ae HST)
  simp only[qc,Hw,bu,cv,dd,fb]at zl8
  go_wp2
  first|go_end0|((try simp only[Exit.inBlock,Exit.then]);refine ap (av rfl _ _ _) rfl ?_)
  exact⟨rfl,h2⟩
 ·rw[show ends m=m by unfold ends;simp[hst,hi]]
  rw[az.2 hi]at HI
  clear hst hi
  go_enter func121,ntmps121
  go_wp2_with fail
  refine(ae HI).mono ?_
  rintro e w1⟨rfl,hw1⟩
  rw[hw1]
  clear hw1
  go_wp2
  first|go_end0|((try simp only[Exit.inBlock,Exit.then]);refine ap (av rfl _ _ _) rfl ?_)
  exact⟨rfl,h⟩
theorem zeg(h:Mk w0 aj b m ex w)(hs:mj m+16≤lim)(q:Nat)(hst:m.state=q)(hq:q=30):
  Calls prog 121 #[.pointer (some ⟨b,0,none⟩)] w fun e w'=>e= .returned (.tuple #[])∧Mk w0 aj b (ends m) ex w':=by
 have c5:w.cell? ⟨b,5,none⟩=some (.string ⟨(qc q).toArray⟩):=by obtain⟨R,r⟩:=h;rw[←hst];exact r.cell 5
 have HS:=hide hs
 clear hs
 have HST:=hide hst
 subst hq
 rw[show ends m=dw m m.odd by unfold ends;simp[hst]]
 simp only[qc,Hw,bu,cv,dd,fb]at c5
 clear hst
 go_enter func121,ntmps121
 go_wp2_with fail
 refine(uy h).mono ?_
 rintro e w1⟨rfl,hw1⟩
 rw[hw1]
 clear hw1
 have c21:w.cell? ⟨b,21,none⟩=some (.bool m.odd):=by obtain⟨R,r⟩:=h;exact r.cell 21
 go_wp2_with fail
 refine(yt m.odd h (by have:=ae HS;omega)).mono ?_
 rintro e w2⟨rfl,h2⟩
 have zl8:=Mk.c5 h2 30 ((zaw m {kind:=4,name:=jk m.name,flag:=m.odd}).trans (ae HST))
 simp only[qc,Hw,bu,cv,dd,fb]at zl8
 go_wp2
 first|go_end0|((try simp only[Exit.inBlock,Exit.then]);refine ap (av rfl _ _ _) rfl ?_)
 exact⟨rfl,h2⟩
theorem zay(h:Mk w0 aj b m ex w)(hs:mj m+16≤lim)(q:Nat)(hst:m.state=q)(hq:q=19):
  Calls prog 121 #[.pointer (some ⟨b,0,none⟩)] w fun e w'=>e= .returned (.tuple #[])∧Mk w0 aj b (ends m) ex w':=by
 have c5:w.cell? ⟨b,5,none⟩=some (.string ⟨(qc q).toArray⟩):=by obtain⟨R,r⟩:=h;rw[←hst];exact r.cell 5
 have HS:=hide hs
 clear hs
 have HST:=hide hst
 subst hq
 rw[show ends m=dm m by unfold ends;simp[hst]]
 simp only[qc,Hw,bu,cv,dd,fb]at c5
 clear hst
 go_enter func121,ntmps121
 go_wp2_with fail
 refine(uy h).mono ?_
 rintro e w1⟨rfl,hw1⟩
 rw[hw1]
 clear hw1
 go_wp2_with fail
 refine(yr h (by have:=ae HS;omega)).mono ?_
 rintro e w2⟨rfl,h2⟩
 go_wp2
 first|go_end0|((try simp only[Exit.inBlock,Exit.then]);refine ap (av rfl _ _ _) rfl ?_)
 exact⟨rfl,h2⟩
theorem zeh(h:Mk w0 aj b m ex w)(hs:mj m+16≤lim)(q:Nat)(hst:m.state=q)(hq:q=3):
  Calls prog 121 #[.pointer (some ⟨b,0,none⟩)] w fun e w'=>e= .returned (.tuple #[])∧Mk w0 aj b (ends m) ex w':=by
 have c5:w.cell? ⟨b,5,none⟩=some (.string ⟨(qc q).toArray⟩):=by obtain⟨R,r⟩:=h;rw[←hst];exact r.cell 5
 have HS:=hide hs
 clear hs
 have HST:=hide hst
 subst hq
 rw[show ends m=say (err m [101,110,100,45,105,110,45,116,97,103]) [60] by unfold ends;simp[hst]]
 simp only[qc,Hw,bu,cv,dd,fb]at c5
 clear hst
 go_enter func121,ntmps121
 go_wp2_with fail
 refine(od [101,110,100,45,105,110,45,116,97,103] h (by have:=ae HS;unfold mj at this;omega)).mono ?_
 rintro e w2⟨rfl,h2⟩
 go_wp2_with fail
 refine(Cc [60] h2 (by have:=ae HS;(try rw[qs]);simp;omega) (by decide)).mono ?_
 rintro e w3⟨rfl,h3⟩
 go_wp2
 first|go_end0|((try simp only[Exit.inBlock,Exit.then]);refine ap (av rfl _ _ _) rfl ?_)
 exact⟨rfl,h3⟩
theorem zaz(h:Mk w0 aj b m ex w)(hs:mj m+16≤lim)(q:Nat)(hst:m.state=q)(hq:q=4):
  Calls prog 121 #[.pointer (some ⟨b,0,none⟩)] w fun e w'=>e= .returned (.tuple #[])∧Mk w0 aj b (ends m) ex w':=by
 have c5:w.cell? ⟨b,5,none⟩=some (.string ⟨(qc q).toArray⟩):=by obtain⟨R,r⟩:=h;rw[←hst];exact r.cell 5
 have HS:=hide hs
 clear hs
 have HST:=hide hst
 subst hq
 rw[show ends m=say (err m [101,110,100,45,105,110,45,116,97,103]) [60,47] by unfold ends;simp[hst]]
 simp only[qc,Hw,bu,cv,dd,fb]at c5
 clear hst
 go_enter func121,ntmps121
 go_wp2_with fail
 refine(od [101,110,100,45,105,110,45,116,97,103] h (by have:=ae HS;unfold mj at this;omega)).mono ?_
 rintro e w2⟨rfl,h2⟩
 go_wp2_with fail
 refine(Cc [60,47] h2 (by have:=ae HS;(try rw[qs]);simp;omega) (by decide)).mono ?_
 rintro e w3⟨rfl,h3⟩
 go_wp2
 first|go_end0|((try simp only[Exit.inBlock,Exit.then]);refine ap (av rfl _ _ _) rfl ?_)
 exact⟨rfl,h3⟩
theorem zei(h:Mk w0 aj b m ex w)(hs:mj m+16≤lim)(q:Nat)(hst:m.state=q)(hq:q=5):
  Calls prog 121 #[.pointer (some ⟨b,0,none⟩)] w fun e w'=>e= .returned (.tuple #[])∧Mk w0 aj b (ends m) ex w':=by
 have c5:w.cell? ⟨b,5,none⟩=some (.string ⟨(qc q).toArray⟩):=by obtain⟨R,r⟩:=h;rw[←hst];exact r.cell 5
 have HS:=hide hs
 clear hs
 have HST:=hide hst
 subst hq
 rw[show ends m=say m [60] by unfold ends;simp[hst]]
 simp only[qc,Hw,bu,cv,dd,fb]at c5
 clear hst
 go_enter func121,ntmps121
 go_wp2_with fail
 refine(Cc [60] h (by have:=ae HS;(try rw[qs]);simp;omega) (by decide)).mono ?_
 rintro e w3⟨rfl,h3⟩
 go_wp2
 first|go_end0|((try simp only[Exit.inBlock,Exit.then]);refine ap (av rfl _ _ _) rfl ?_)
 exact⟨rfl,h3⟩
theorem Ns(h:Mk w0 aj b m ex w)(hs:mj m+16≤lim)(q:Nat)(hst:m.state=q)(hq:q=6):
  Calls prog 121 #[.pointer (some ⟨b,0,none⟩)] w fun e w'=>e= .returned (.tuple #[])∧Mk w0 aj b (ends m) ex w':=by
 have c5:w.cell? ⟨b,5,none⟩=some (.string ⟨(qc q).toArray⟩):=by obtain⟨R,r⟩:=h;rw[←hst];exact r.cell 5
 have HS:=hide hs
 clear hs
 have HST:=hide hst
 subst hq
 rw[show ends m=say m [60,47] by unfold ends;simp[hst]]
 simp only[qc,Hw,bu,cv,dd,fb]at c5
 clear hst
 go_enter func121,ntmps121
 go_wp2_with fail
 refine(Cc [60,47] h (by have:=ae HS;(try rw[qs]);simp;omega) (by decide)).mono ?_
 rintro e w3⟨rfl,h3⟩
 go_wp2
 first|go_end0|((try simp only[Exit.inBlock,Exit.then]);refine ap (av rfl _ _ _) rfl ?_)
 exact⟨rfl,h3⟩
theorem Us(h:Mk w0 aj b m ex w)(hs:mj m+16≤lim)(q:Nat)(hst:m.state=q)(hq:q=20∨q=21∨q=22∨q=23∨q=24∨q=25):
  Calls prog 121 #[.pointer (some ⟨b,0,none⟩)] w fun e w'=>e= .returned (.tuple #[])∧Mk w0 aj b (ends m) ex w':=by
 have c5:w.cell? ⟨b,5,none⟩=some (.string ⟨(qc q).toArray⟩):=by obtain⟨R,r⟩:=h;rw[←hst];exact r.cell 5
 have HS:=hide hs
 clear hs
 have HST:=hide hst
 rcases hq with rfl|rfl|rfl|rfl|rfl|rfl
 all_goals
  rw[show ends m=dm (err m [101,110,100,45,105,110,45,99,111,109,109,101,110,116]) by unfold ends;simp[hst]]
  simp only[qc,Hw,bu,cv,dd,fb]at c5
  clear hst
  go_enter func121,ntmps121
  go_wp2_with fail
  refine(od [101,110,100,45,105,110,45,99,111,109,109,101,110,116] h (by have:=ae HS;unfold mj at this;omega)).mono ?_
  rintro e w2⟨rfl,h2⟩
  go_wp2_with fail
  refine(yr h2 (by have:=ae HS;rw[qs];omega)).mono ?_
  rintro e w3⟨rfl,h3⟩
  go_wp2
  first|go_end0|((try simp only[Exit.inBlock,Exit.then]);refine ap (av rfl _ _ _) rfl ?_)
  exact⟨rfl,h3⟩
theorem Ut(h:Mk w0 aj b m ex w)(hs:mj m+16≤lim)(q:Nat)(hst:m.state=q)(hq:q=26∨q=27∨q=28∨q=29):
  Calls prog 121 #[.pointer (some ⟨b,0,none⟩)] w fun e w'=>e= .returned (.tuple #[])∧Mk w0 aj b (ends m) ex w':=by
 have c5:w.cell? ⟨b,5,none⟩=some (.string ⟨(qc q).toArray⟩):=by obtain⟨R,r⟩:=h;rw[←hst];exact r.cell 5
 have HS:=hide hs
 clear hs
 have HST:=hide hst
 rcases hq with rfl|rfl|rfl|rfl
 all_goals
  rw[show ends m=dw (err m [101,110,100,45,105,110,45,100,111,99,116,121,112,101]) true by unfold ends;simp[hst]]
  simp only[qc,Hw,bu,cv,dd,fb]at c5
  clear hst
  go_enter func121,ntmps121
  go_wp2_with fail
  refine(od [101,110,100,45,105,110,45,100,111,99,116,121,112,101] h (by have:=ae HS;unfold mj at this;omega)).mono ?_
  rintro e w2⟨rfl,h2⟩
  go_wp2_with fail
  refine(yt true h2 (by have:=ae HS;rw[qs];omega)).mono ?_
  rintro e w3⟨rfl,h3⟩
  go_wp2
  first|go_end0|((try simp only[Exit.inBlock,Exit.then]);refine ap (av rfl _ _ _) rfl ?_)
  exact⟨rfl,h3⟩
theorem zgx(h:Mk w0 aj b m ex w)(hs:mj m+16≤lim)(q:Nat)(hst:m.state=q)(hq:q=8∨q=9∨q=11∨q=12∨q=13∨q=14∨q=15∨q=16∨q=17):
  Calls prog 121 #[.pointer (some ⟨b,0,none⟩)] w fun e w'=>e= .returned (.tuple #[])∧Mk w0 aj b (ends m) ex w':=by
 have c5:w.cell? ⟨b,5,none⟩=some (.string ⟨(qc q).toArray⟩):=by obtain⟨R,r⟩:=h;rw[←hst];exact r.cell 5
 have HS:=hide hs
 clear hs
 have HST:=hide hst
 rcases hq with rfl|rfl|rfl|rfl|rfl|rfl|rfl|rfl|rfl
 all_goals
  rw[show ends m=err m [101,110,100,45,105,110,45,116,97,103] by unfold ends;simp[hst]]
  simp only[qc,Hw,bu,cv,dd,fb]at c5
  clear hst
  go_enter func121,ntmps121
  go_wp2_with fail
  refine(od [101,110,100,45,105,110,45,116,97,103] h (by have:=ae HS;unfold mj at this;omega)).mono ?_
  rintro e w2⟨rfl,h2⟩
  go_wp2
  first|go_end0|((try simp only[Exit.inBlock,Exit.then]);refine ap (av rfl _ _ _) rfl ?_)
  exact⟨rfl,h2⟩
theorem zej(h:Mk w0 aj b m ex w)(hs:mj m+16≤lim)(q:Nat)(hst:m.state=q)(hq:q=10)(hg:m.gone=false):
  Calls prog 121 #[.pointer (some ⟨b,0,none⟩)] w fun e w'=>e= .returned (.tuple #[])∧Mk w0 aj b (ends m) ex w':=by
 have c5:w.cell? ⟨b,5,none⟩=some (.string ⟨(qc q).toArray⟩):=by obtain⟨R,r⟩:=h;rw[←hst];exact r.cell 5
 have HS:=hide hs
 clear hs
 have HST:=hide hst
 subst hq
 rw[show ends m=err (ol m) [101,110,100,45,105,110,45,116,97,103] by unfold ends;simp[hst]]
 simp only[qc,Hw,bu,cv,dd,fb]at c5
 clear hst
 go_enter func121,ntmps121
 go_wp2_with fail
 refine(H9 h hg (by have:=ae HS;omega)).mono ?_
 rintro e w2⟨rfl,h2⟩
 clear hg
 go_wp2_with fail
 refine(od [101,110,100,45,105,110,45,116,97,103] h2 (Ur m (ae HS))).mono ?_
 rintro e w3⟨rfl,h3⟩
 go_wp2
 first|go_end0|((try simp only[Exit.inBlock,Exit.then]);refine ap (av rfl _ _ _) rfl ?_)
 exact⟨rfl,h3⟩
theorem Q7(h:Mk w0 aj b m ex w)(hs:mj m+16≤lim)(q:Nat)(hst:m.state=q)(hq:q=7):
  Calls prog 121 #[.pointer (some ⟨b,0,none⟩)] w fun e w'=>e= .returned (.tuple #[])∧Mk w0 aj b (ends m) ex w':=by
 have c5:w.cell? ⟨b,5,none⟩=some (.string ⟨(qc q).toArray⟩):=by obtain⟨R,r⟩:=h;rw[←hst];exact r.cell 5
 have HS:=hide hs
 clear hs
 have HST:=hide hst
 subst hq
 rw[show ends m={say m [60,47]with text:=(say m [60,47]).text++m.buf} by unfold ends;simp[hst]]
 simp only[qc,Hw,bu,cv,dd,fb]at c5
 clear hst
 go_enter func121,ntmps121
 go_wp2_with fail
 refine(Cc [60,47] h (by have:=ae HS;(try rw[qs]);simp;omega) (by decide)).mono ?_
 rintro e w4⟨rfl,h4⟩
 have h5:=h4
 obtain⟨R4,q4⟩:=h5
 have u4:w4.cell? ⟨b,4,none⟩=some (.slice R4.text.a (say m [60,47]).text.length R4.text.cap):=q4.cell 4
 have u15:w4.cell? ⟨b,15,none⟩=some (.slice R4.buf.a m.buf.length R4.buf.cap):=q4.cell 15
 have uf:=q4.frozen
 have ult:=q4.obj.lt
 have HZ:=hide (vg (n:=(say m [60,47]).text.length+m.buf.length) (by have:=(ae HS);unfold mj at this;simp[say,n8];omega))
 obtain⟨i0,hi,hz0,hz1,hz2⟩:=info_parts qa
 have hbr:(ck R4.buf m.buf).ok w4:=q4.F3
 clear h4
 go_wp2_with fail
 go_region_law(refine tu rfl (.tmp 74) (.tmp 78) 45 rfl 3 i0 _ 1 8 underlying45 hi hz0 hz1 hz2 rfl (by decide) R4.text.a (say m [60,47]).text.length R4.text.cap ((say m [60,47]).text.map (Value.int .i64)) (by simp[Act.eval]) (by repeat(first|exact q4.px|refine og ?_)) R4.buf.a m.buf.length R4.buf.cap (m.buf.map (Value.int .i64)) (by simp[Act.eval]) (by simp) (fun h0=>ze (w:=w4) hbr h0) (km _) (ae HZ).1 (ae HZ).2 ?_;intro Hv cap' w6 hown hgrow hfresh;obtain⟨hself,hT⟩:=q4.po (by repeat(first|exact More.refl _|refine More.drew ?_)) ((say m [60,47]).text++m.buf) ⟨Hv,cap'⟩ (by simpa[Item.ok,ck]using hown) hgrow hfresh (ny q4.ok.text q4.ok.buf);have e4:w6.cell? ⟨b,4,none⟩=some (.slice R4.text.a (say m [60,47]).text.length R4.text.cap):=bg hself 4;have ef:=bn hself)
 all_goals
  rw[aq]at hT
  have sf:=hT.frozen
  have HE:=hide hT.out
  clear hT hown hgrow hfresh
  go_wp2
  first|go_end0|((try simp only[Exit.inBlock,Exit.then]);refine ap (av rfl _ _ _) rfl ?_)
  exact⟨rfl,ae HE⟩
end
end Go.Proofs.YtdfmapcnfficlaaGreatDoor.M

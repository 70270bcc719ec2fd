import Derived.Test.YtdfmapcnfficlaaGreatDoorP08
set_option linter.all false
set_option maxHeartbeats 6000000
set_option maxRecDepth 1000000
namespace Go.Proofs.YtdfmapcnfficlaaGreatDoor.M
open Go.Proofs.Tryz
open Go Go.RowKit Go.Proofs.YtdfmapcnfficlaaGreatDoor
section
variable{w0:World}{aj:Nat→Prop}{b:Nat}{m m':MS}{R:MR}{ex:List Item}{w w1 w':World}
theorem rh.Sq(h:rh w0 aj b m R ex w)(hg0:m.gone=false):(lr R.attrs m.attrs).ok w:=h.obj.ok (by simp[kt,m8,hg0])
theorem rh.zar(h:rh w0 aj b m R ex w)(hg0:m.gone=false)(hm:More w w1)(x:List Str)(r':Sl)(hok:(lr r' x).ok w')(hg:w1.grownBy w' (R.attrs.a.map (·.block)))(hf:o0 w1 R.attrs.a r'.a):
  w'.heap[b]? =some (.cells (mc m R) 161 (0,0))∧rh w0 aj b {m with attrs:=x} {R with attrs:=r'} ex (w'.setCell ⟨b,10,none⟩ (.slice r'.a x.length r'.cap)):=by
 have hit:lr R.attrs m.attrs∈kt m R++ex:=by simp[kt,m8,hg0]
 refine⟨h.obj.mid hm hit hg,?_,h.lt,⟨h.ok.l,h.ok.text,h.ok.name,h.ok.buf,h.ok.key,h.ok.value,h.ok.ll,h.ok.pl⟩,(h.kept.grown hm hg fun k hk=>(h.obj.qm hit k hk).1).setCell 10 _ h.obj.ownB⟩
 exact h.obj.grow hm (Na h.kept) [ck R.l m.l,ck R.text m.text,ck R.name m.name,ck R.buf m.buf,ck R.key m.key,ck R.value m.value,pi R.told m.told R.cz] (cw m.told R.cz++ex) (lr R.attrs m.attrs) (lr r' x) (by simp[kt,m8,hg0]) (by simp[kt,m8,hg0]) hok hg hf 10 _ rfl
theorem rh.zd7(h:rh w0 aj b m R ex w):rh w0 aj b {m with attrs:=[],gone:=false} {R with attrs:=⟨none,0⟩} ex (w.setCell ⟨b,10,none⟩ (.slice none 0 0)):=by
 refine⟨?_,h.lt,⟨h.ok.l,h.ok.text,h.ok.name,h.ok.buf,h.ok.key,h.ok.value,h.ok.ll,h.ok.pl⟩,h.kept.setCell 10 _ h.obj.ownB⟩
 refine(h.obj.less ([ck R.l m.l,ck R.text m.text,ck R.name m.name,ck R.buf m.buf,ck R.key m.key,ck R.value m.value,pi R.told m.told R.cz]++(cw m.told R.cz++ex)) (m8 m.gone R.attrs m.attrs) [lr ⟨none,0⟩ []] ?_ ?_ ?_).set 10 _ rfl
 ·have p:(m8 m.gone R.attrs m.attrs++(cw m.told R.cz++ex)).Perm ((cw m.told R.cz++ex)++m8 m.gone R.attrs m.attrs):=List.perm_append_comm
  simpa[kt]using p
 ·intro it hi;rw[de.1 hi];exact⟨xq w,rfl⟩
 ·have p:([lr ⟨none,0⟩ []]++(cw m.told R.cz++ex)).Perm ((cw m.told R.cz++ex)++[lr ⟨none,0⟩ []]):=List.perm_append_comm
  simpa[kt,m8]using p
theorem zd8(k:Int)(h:Mk w0 aj b m ex w):Mk w0 aj b (newTag m k) ex (((((((((w.setCell ⟨b,8,none⟩ (.int .i64 k)).setCell ⟨b,9,none⟩ (.string ⟨#[]⟩)).setCell ⟨b,10,none⟩ (.slice none 0 0)).setCell ⟨b,11,none⟩ (.string ⟨#[]⟩)).setCell ⟨b,12,none⟩ (.bool false)).setCell ⟨b,13,none⟩ (.int .i64 0)).setCell ⟨b,14,none⟩ (.slice none 0 0)).setCell ⟨b,15,none⟩ (.slice none 0 0)).setCell ⟨b,18,none⟩ (.bool false)):=by
 obtain⟨R,h⟩:=h
 have o:∀{m:MS},MOk m→MOk m:=fun h=>h
 have h1:rh w0 aj b {m with kind:=k} R ex _:=h.set 8 (.int .i64 k) rfl rfl rfl ⟨h.ok.l,h.ok.text,h.ok.name,h.ok.buf,h.ok.key,h.ok.value,h.ok.ll,h.ok.pl⟩
 have h2:rh w0 aj b {m with kind:=k,fi:=[]} R ex _:=h1.set 9 (.string ⟨#[]⟩) rfl rfl rfl ⟨h.ok.l,h.ok.text,h.ok.name,h.ok.buf,h.ok.key,h.ok.value,h.ok.ll,h.ok.pl⟩
 have h3:=h2.zd7
 have h4:rh w0 aj b {m with kind:=k,fi:=[],attrs:=[],gone:=false} _ ex _:=h3.set 11 (.string ⟨#[]⟩) rfl rfl rfl h3.ok
 have h5:rh w0 aj b {m with kind:=k,fi:=[],attrs:=[],gone:=false,flag:=false} _ ex _:=h4.set 12 (.bool false) rfl rfl rfl ⟨h.ok.l,h.ok.text,h.ok.name,h.ok.buf,h.ok.key,h.ok.value,h.ok.ll,h.ok.pl⟩
 have h6:=h5.set 13 (.int .i64 0) (m':={m with kind:=k,fi:=[],attrs:=[],gone:=false,flag:=false}) rfl rfl rfl h5.ok
 exact(Mk.Uj (Mk.qy h6.out)).Mx false
theorem Xb(k:Int)(h:Mk w0 aj b m ex w):
  Calls prog 232 #[.pointer (some ⟨b,0,none⟩),.int .i64 k] w fun e w'=>e= .returned (.tuple #[])∧Mk w0 aj b (newTag m k) ex w':=by
 have HF:=hide (zd8 k h)
 obtain⟨R,h⟩:=h
 have c8:w.cell? ⟨b,8,none⟩=some (.int .i64 m.kind):=h.cell 8
 have c9:w.cell? ⟨b,9,none⟩=some (.string ⟨m.fi.toArray⟩):=h.cell 9
 have c10:w.cell? ⟨b,10,none⟩=some (.slice R.attrs.a m.attrs.length R.attrs.cap):=h.cell 10
 have c11:w.cell? ⟨b,11,none⟩=some (.string ⟨#[]⟩):=h.cell 11
 have c12:w.cell? ⟨b,12,none⟩=some (.bool m.flag):=h.cell 12
 have c13:w.cell? ⟨b,13,none⟩=some (.int .i64 0):=h.cell 13
 have c14:w.cell? ⟨b,14,none⟩=some (.slice R.name.a m.name.length R.name.cap):=h.cell 14
 have c15:w.cell? ⟨b,15,none⟩=some (.slice R.buf.a m.buf.length R.buf.cap):=h.cell 15
 have c18:w.cell? ⟨b,18,none⟩=some (.bool m.opn):=h.cell 18
 have hf:=h.frozen
 clear h
 go_enter func232,ntmps232
 go_wp2
 go_end0
 exact⟨rfl,ae HF⟩
theorem Jq(x:List Int)(ad:Addr)(cp:Nat)(hx:∀j u,(x.map (Value.int .i64))[j]? =some u→w.cell? (ad.add j)=some u)(hne:x≠[])(hp:∀c∈x,Pt c)(h:Mk w0 aj b m ex w)(hs:mj m+x.length≤lim):
  Calls prog 169 #[.pointer (some ⟨b,0,none⟩),.slice (some ad) x.length cp] w fun e w'=>e= .returned (.tuple #[])∧Mk w0 aj b (give m x) ex w':=by
 have HV:=hide (uy h)
 obtain⟨i0,hi,hz0,hz1,hz2⟩:=info_parts qa
 have hxl:0<x.length:=List.length_pos_iff.2 hne
 obtain⟨R,h⟩:=h
 have hf:=h.frozen
 have HS:=hide hs
 have HX:=hide hx
 have HP:=hide hp
 clear hs hx hne hp
 unfold give
 by_cases hv:td m=true
 ·rw[au hv]
  rw[hv]at HV
  have c17:w.cell? ⟨b,17,none⟩=some (.slice R.value.a m.value.length R.value.cap):=h.cell 17
  have hz:=vg (n:=m.value.length+x.length) (by have:=ae HS;unfold mj at this;omega)
  have HZ:=hide hz
  clear hv hz
  go_enter func169,ntmps169
  go_wp2_with fail
  refine(ae HV).mono ?_
  rintro e w1⟨rfl,rfl⟩
  go_wp2_with(at_builtin;refine dh _ rfl (.tmp 12) (.tmp 13) 45 rfl 3 i0 _ 1 8 underlying45 hi hz0 hz1 hz2 rfl (by decide) R.value.a m.value.length R.value.cap (m.value.map (Value.int .i64)) rfl ?own ad x.length cp (x.map (Value.int .i64)) rfl (by simp) (ae HX) (km _) hxl (ae HZ).1 (ae HZ).2 ?next)
  case own=>exact h.uc
  case next=>
   intro a' cap' w' hown hgrow hfresh
   obtain⟨hok,hfr⟩:=nu hown hfresh
   obtain⟨hself,hT⟩:=h.rl (More.refl _) _ ⟨some a',cap'⟩ hok hgrow hfr (ny h.ok.value (ae HP))
   have d:w'.cell? ⟨b,17,none⟩=some (.slice R.value.a m.value.length R.value.cap):=bg hself 17
   have df:=bn hself
   have HT:=hide hT.out
   rw[aq]at HT
   clear hT hok hfr hown hgrow hfresh
   go_wp2
   try simp only[Exit.inBlock,Exit.then]
   refine ap (av rfl _ _ _) rfl ?_
   exact⟨rfl,ae HT⟩
 ·rw[ag hv]
  rw[az.2 hv]at HV
  have c4:w.cell? ⟨b,4,none⟩=some (.slice R.text.a m.text.length R.text.cap):=h.cell 4
  have hz:=vg (n:=m.text.length+x.length) (by have:=ae HS;unfold mj at this;omega)
  have HZ:=hide hz
  clear hv hz
  go_enter func169,ntmps169
  go_wp2_with fail
  refine(ae HV).mono ?_
  rintro e w1⟨rfl,rfl⟩
  go_wp2_with(at_builtin;refine dh _ rfl (.tmp 21) (.tmp 22) 45 rfl 3 i0 _ 1 8 underlying45 hi hz0 hz1 hz2 rfl (by decide) R.text.a m.text.length R.text.cap (m.text.map (Value.int .i64)) rfl ?own ad x.length cp (x.map (Value.int .i64)) rfl (by simp) (ae HX) (km _) hxl (ae HZ).1 (ae HZ).2 ?next)
  case own=>exact h.px
  case next=>
   intro a' cap' w' hown hgrow hfresh
   obtain⟨hok,hfr⟩:=nu hown hfresh
   obtain⟨hself,hT⟩:=h.po (More.refl _) _ ⟨some a',cap'⟩ hok hgrow hfr (ny h.ok.text (ae HP))
   have d:w'.cell? ⟨b,4,none⟩=some (.slice R.text.a m.text.length R.text.cap):=bg hself 4
   have df:=bn hself
   have HT:=hide hT.out
   rw[aq]at HT
   clear hT hok hfr hown hgrow hfresh
   go_wp2
   go_end0
   exact⟨rfl,ae HT⟩
end
section
variable{w0:World}{aj:Nat→Prop}{b:Nat}{m m':MS}{R:MR}{ex:List Item}{w w1 w':World}
theorem infoStr:(prog.info? 9).map (fun i=>(i.zero,i.size,i.bytes))=some (some (.string ⟨#[]⟩),1,16):=by kernel_rfl
theorem zow{n:Nat}(h:n≤lim):n≤maxLen∧n*16≤140737488355328:=by unfold lim at h;unfold maxLen;omega
theorem zgq(l:List Str):∀u∈l.map str,u.oneCell'=true:=by
 intro u hu;obtain⟨c,_,rfl⟩:=List.mem_map.1 hu;rfl
theorem zas{x y:List Str}{W:World}{a':Addr}{cap':Nat}{r:Sl}{W1:World}(hown:W.ownsRow 0 9 1 (.slice (some a') (x.length+y.length) cap') (x.length+y.length) (x.map str++y.map str))(hf:some a'.block=r.a.map (·.block)∨W1.heap.size≤a'.block):(lr ⟨some a',cap'⟩ (x++y)).ok W∧o0 W1 r.a (some a'):=by
 refine⟨by simpa[Item.ok,lr]using hown,?_⟩
 rcases hf with hf|hf
 ·exact .inl (by simpa using hf)
 ·exact .inr ⟨_,rfl,hf⟩
theorem Ax(h:Mk w0 aj b m ex w)(hg0:m.gone=false)(hs:mj m+2≤lim):
  Calls prog 255 #[.pointer (some ⟨b,0,none⟩)] w fun e w'=>e= .returned (.tuple #[])∧Mk w0 aj b (ep m) ex w':=by
 have HO:=hide (h.Mx false)
 have HG0:=hide hg0
 clear hg0
 obtain⟨R,h⟩:=h
 have c18:w.cell? ⟨b,18,none⟩=some (.bool m.opn):=h.cell 18
 have c19:w.cell? ⟨b,19,none⟩=some (.bool m.drop):=h.cell 19
 have hf:=h.frozen
 unfold ep
 by_cases ho:m.opn=true
 ·by_cases hd:m.drop=false
  ·rw[au ⟨ho,hd⟩]
   rw[ho]at c18
   rw[hd]at c19
   have c10:w.cell? ⟨b,10,none⟩=some (.slice R.attrs.a m.attrs.length R.attrs.cap):=h.cell 10
   have c16:w.cell? ⟨b,16,none⟩=some (.slice R.key.a m.key.length R.key.cap):=h.cell 16
   have c17:w.cell? ⟨b,17,none⟩=some (.slice R.value.a m.value.length R.value.cap):=h.cell 17
   have hlt:=h.obj.lt
   have HK:=hide (fun W(hm:More w W)=>pf R.key m.key W (Item.more h.C1 hm) h.ok.key (by unfold mj at hs;omega))
   have HV:=hide (fun W(hm:More w W)=>pf R.value m.value W (Item.more h.uc hm) h.ok.value (by unfold mj at hs;omega))
   have HZ:=hide (zow (n:=m.attrs.length+2) (by unfold mj at hs;omega))
   obtain⟨i0,hi,hz0,hz1,hz2⟩:=info_parts infoStr
   clear ho hd HO hs
   go_enter func255,ntmps255
   go_wp2_with fail
   go_region_law(first
    |(refine fx rfl (.tmp 18) (.tmp 29) 23 rfl 9 i0 _ 1 16 underlying23 hi hz0 hz1 hz2 rfl (by decide) R.attrs.a m.attrs.length R.attrs.cap (m.attrs.map str) (by simp[Act.eval]) (bh (Item.more (h.Sq (ae HG0)) hmm) _) ⟨wm.heap.size,0,none⟩ 2 2 ([jk m.key,jk m.value].map str) (by simp[Act.eval]) rfl (by exact ii _ _ _ _ (by rfl)) (zgq _) (by decide) (ae HZ).1 (ae HZ).2 ?_;intro a' cap' w3 hown hgrow hfresh;obtain⟨hok,hfr⟩:=zas (y:=[_,_]) hown hfresh;obtain⟨hself,hT⟩:=h.zar (ae HG0) (hmm.alloc _) _ ⟨some a',cap'⟩ hok hgrow (by simpa[o0]using hfr);have e10:w3.cell? ⟨b,10,none⟩=some (.slice R.attrs.a m.attrs.length R.attrs.cap):=bg hself 10;have ef:=bn hself)
    |(go_simp;go_at_call_of 123 (Value.slice R.value.a m.value.length R.value.cap);refine(ae HV _ ?_).mono ?_;(first|exact(More.refl w).drew|exact hmm);rintro e wm⟨rfl,hmv⟩;have hmm:More w wm:=(by first|exact(More.refl w).drew.tr hmv|exact hmm.tr hmv);have d10:=(hmm.cell (o:=10) hlt).trans c10;have d16:=(hmm.cell (o:=16) hlt).trans c16;have l2:b<wm.heap.size:=ei hlt hmm.size)
    |(go_simp;go_at_call_of 123 (Value.slice R.key.a m.key.length R.key.cap);refine(ae HK _ ?_).mono ?_;(first|exact(More.refl w).drew|exact hmm);rintro e wm⟨rfl,hmk⟩;have hmm:More w wm:=(by first|exact(More.refl w).drew.tr hmk|exact hmm.tr hmk);have d10:=(hmm.cell (o:=10) hlt).trans c10;have d17:=(hmm.cell (o:=17) hlt).trans c17;have l2:b<wm.heap.size:=ei hlt hmm.size))
   all_goals
    rw[show(m.attrs++[jk m.key,jk m.value]).length=m.attrs.length+2 by simp]at hT
    have g18:=hT.cell 18
    have gf:=hT.frozen
    have HE:=hide (hT.out.Mx false)
    simp only[mc]at g18
    clear hT
    go_wp2
    go_end0
    exact⟨rfl,ae HE⟩
  ·rw[ag (fun e=>hd e.2)]
   rw[ho]at c18
   rw[show m.drop=true by simpa using hd]at c19
   clear ho hd hs h
   go_enter func255,ntmps255
   go_wp2
   go_end0
   exact⟨rfl,ae HO⟩
 ·rw[ag (fun e=>ho e.1)]
  rw[az.2 ho]at c18
  clear ho hs h
  go_enter func255,ntmps255
  go_wp2
  go_end0
  exact⟨rfl,ae HO⟩
end
section
variable{w0:World}{aj:Nat→Prop}{b:Nat}{m m':MS}{R:MR}{ex:List Item}{w w1 w':World}
theorem Up(h:Mk w0 aj b m ex w)(hg0:m.gone=false)(hs:mj m+2≤lim):
  Calls prog 235 #[.pointer (some ⟨b,0,none⟩)] w fun e w'=>e= .returned (.tuple #[])∧Mk w0 aj b (qp m) ex w':=by
 have HC:=hide (Ax h hg0 hs)
 clear h hg0 hs
 unfold qp
 generalize ep m=m1 at*
 go_enter func235,ntmps235
 go_wp2_with fail
 refine(ae HC).mono ?_
 rintro e w1⟨rfl,h1⟩
 have HE:=hide (Mk.Jo (Mk.Uk ((h1.Mx true).zcx false)))
 obtain⟨R,h⟩:=h1
 have c16:w1.cell? ⟨b,16,none⟩=some (.slice R.key.a m1.key.length R.key.cap):=h.cell 16
 have c17:w1.cell? ⟨b,17,none⟩=some (.slice R.value.a m1.value.length R.value.cap):=h.cell 17
 have c18:w1.cell? ⟨b,18,none⟩=some (.bool m1.opn):=h.cell 18
 have c19:w1.cell? ⟨b,19,none⟩=some (.bool m1.drop):=h.cell 19
 have hf:=h.frozen
 clear h HC
 go_wp2
 go_end0
 exact⟨rfl,ae HE⟩
theorem Kt:∀(j:Nat)(l:List Str)(k y:Str),l[2*j]? =some y→ur (l.take (2*j+2)) k=(ur (l.take (2*j)) k||y==k)
 |0,[],k,y,h=>by simp at h
 |0,[a],k,y,h=>by simp at h;subst h;simp[ur]
 |0,a::c::l,k,y,h=>by simp at h;subst h;simp[ur]
 |j+1,[],k,y,h=>by simp at h
 |j+1,[a],k,y,h=>by simp[Nat.mul_add]at h
 |j+1,a::c::l,k,y,h=>by
  have e:2*(j+1)=2*j+1+1:=by omega
  rw[e]at h⊢
  simp only[cv]at h
  have:=Kt j l k y h
  rw[show 2*j+1+1+2=(2*j+2)+1+1 by omega]
  simp only[List.take_succ_cons,ur,this,Bool.or_assoc]
theorem H9(h:Mk w0 aj b m ex w)(hg0:m.gone=false)(hs:mj m+2≤lim):
  Calls prog 180 #[.pointer (some ⟨b,0,none⟩)] w fun e w'=>e= .returned (.tuple #[])∧Mk w0 aj b (ol m) ex w':=by
 obtain⟨R,h⟩:=h
 have c16:w.cell? ⟨b,16,none⟩=some (.slice R.key.a m.key.length R.key.cap):=h.cell 16
 have HW:=hide (pf R.key m.key w h.C1 h.ok.key (by unfold mj at hs;omega))
 have HH:=hide h.out
 have HS:=hide hs
 have HG0:=hide hg0
 clear hg0
 have hal:m.attrs.length≤1099511627776:=by unfold mj lim at hs;omega
 clear h hs
 unfold ol Bk
 generalize jk m.key=key at*
 go_enter func180,ntmps180
 go_wp2_with fail
 refine(ae HW).mono ?_
 rintro e w1⟨rfl,hm1⟩
 have HH1:=hide ((ae HH).more hm1)
 clear HH HW hm1 c16
 go_wp2
 go_loopw [3] (fun i wx=>∃(j:Nat),2*j≤m.attrs.length+1∧i= .int .i64 ((2*j:Nat):Int)∧Hid (Mk w0 aj b {m with drop:=m.drop||ur (m.attrs.take (2*j)) key} ex wx)) (fun i _=>m.attrs.length+1-(intOf i).toNat)
 case atStart=>exact⟨0,by omega,rfl,by simpa[ur]using HH1⟩
 case round=>
  obtain⟨j,hj,rfl,HQ⟩:=hrel
  clear HH1
  by_cases hlt:2*j<m.attrs.length
  ·obtain⟨y,hy⟩:∃y,m.attrs[2*j]? =some y:=⟨m.attrs[2*j],by simp[hlt]⟩
   have HN:=hide (Kt j m.attrs key y hy)
   obtain⟨R,h⟩:=ae HQ
   obtain⟨g,hra,hg,hcell⟩:=F4 (h.Sq (ae HG0)) (k:=2*j) (u:= .string ⟨y.toArray⟩) (by simp[lr,hy,str]) rfl
   have Q5:R.attrs.a=some ⟨g,0,none⟩:=hra
   have c10:wr.cell? ⟨b,10,none⟩=some (.slice R.attrs.a m.attrs.length R.attrs.cap):=h.cell 10
   rw[Q5]at c10
   have c19:wr.cell? ⟨b,19,none⟩=some (.bool (m.drop||ur (m.attrs.take (2*j)) key)):=h.cell 19
   have hf:=h.frozen
   have HF:=hide (fun d=>h.out.zcx d)
   have hlt':(2:Int)*(j:Int)<m.attrs.length:=by omega
   have hj0:(0:Int)≤(j:Int):=by omega
   have fin:∀d W,Hid (Mk w0 aj b {m with drop:=d} ex W)→d=((m.drop||ur (m.attrs.take (2*j)) key)||y==key)→∃(j':Nat),2*j'≤m.attrs.length+1∧Value.int .i64 (2*(j:Int)+2)= .int .i64 ((2*j':Nat):Int)∧Hid (Mk w0 aj b {m with drop:=m.drop||ur (m.attrs.take (2*j')) key} ex W):=by
    intro d W hW hd
    refine⟨j+1,by omega,by congr 1,?_⟩
    rw[show 2*(j+1)=2*j+2 by omega,ae HN,←Bool.or_assoc,←hd]
    exact hW
   have FIN:=hide fin
   clear h hra Q5 hy HN HQ fin
   generalize(m.drop||ur (m.attrs.take (2*j)) key)=d0 at*
   cases d0
   ·by_cases e:y=key
    ·have e1:(y==key)=true:=by simpa using e
     have HT:=hide (ae HF true)
     rw[e1]at FIN
     clear HF e
     go_wp2
     go_roundw
     case rel=>exact ae FIN true _ HT rfl
     case measure=>simp[intOf];omega
    ·have e1:(y==key)=false:=by simpa using e
     have HT:=hide (ae HF false)
     rw[e1]at FIN
     clear HF e
     go_wp2
     go_roundw
     case rel=>exact ae FIN false _ HT rfl
     case measure=>simp[intOf];omega
   ·have HT:=hide (ae HF true)
    clear HF
    go_wp2
    go_roundw
    case rel=>exact ae FIN true _ HT rfl
    case measure=>simp[intOf];omega
  ·have ht:m.attrs.take (2*j)=m.attrs:=List.take_of_length_le (by omega)
   rw[ht]at HQ
   have hge:(m.attrs.length:Int)≤2*(j:Int):=by omega
   obtain⟨R,h⟩:=ae HQ
   have c10:wr.cell? ⟨b,10,none⟩=some (.slice R.attrs.a m.attrs.length R.attrs.cap):=h.cell 10
   have c19:wr.cell? ⟨b,19,none⟩=some (.bool (m.drop||ur m.attrs key)):=h.cell 19
   have HE:=hide (od [116,119,105,99,101] (ae HQ) (by have:=ae HS;unfold mj at this;show m.told.length≤lim;omega))
   clear ht h hlt
   by_cases hd:(m.drop||ur m.attrs key)=true
   ·have HD:=hide hd
    rw[hd]at c19
    clear hd
    go_wp2_with fail
    refine(ae HE).mono ?_
    rintro e w2⟨rfl,h2⟩
    go_wp2
    go_end0
    exact⟨rfl,by have h3:=h2;rw[ae HD]at h3;exact h3⟩
   ·have HD:=hide hd
    rw[az.2 hd]at c19
    clear HE hd
    go_wp2
    go_end0
    exact⟨rfl,by have h3:=ae HQ;rw[az.2 (ae HD)]at h3;exact h3⟩
theorem yr(h:Mk w0 aj b m ex w)(hs:mj m+1≤lim):
  Calls prog 178 #[.pointer (some ⟨b,0,none⟩)] w fun e w'=>e= .returned (.tuple #[])∧Mk w0 aj b (dm m) ex w':=by
 obtain⟨R,h⟩:=h
 have c14:w.cell? ⟨b,14,none⟩=some (.slice R.name.a m.name.length R.name.cap):=h.cell 14
 have HW:=hide (pf R.name m.name w h.qx h.ok.name (by unfold mj at hs;omega))
 have HT:=hide (fun W(hm:More w W)=>qq {kind:=3,text:=jk m.name} ⟨none,0⟩ (h.more hm).bare.out hs)
 clear h hs
 simp only[fq]at HT
 go_enter func178,ntmps178
 go_wp2_with fail
 refine(ae HW).mono ?_
 rintro e w1⟨rfl,hm1⟩
 go_wp2_with fail
 refine(ae HT _ hm1).mono ?_
 rintro e w2⟨rfl,h2⟩
 have HE:=hide (Mk.qy h2)
 obtain⟨R2,h2⟩:=h2
 have d14:w2.cell? ⟨b,14,none⟩=some (.slice R2.name.a (tell m {kind:=3,text:=jk m.name}).name.length R2.name.cap):=h2.cell 14
 have hf:=h2.frozen
 clear h2 HT HW
 go_wp2
 go_end0
 exact⟨rfl,ae HE⟩
theorem yt(odd:Bool)(h:Mk w0 aj b m ex w)(hs:mj m+1≤lim):
  Calls prog 177 #[.pointer (some ⟨b,0,none⟩),.bool odd] w fun e w'=>e= .returned (.tuple #[])∧Mk w0 aj b (dw m odd) ex w':=by
 obtain⟨R,h⟩:=h
 have c14:w.cell? ⟨b,14,none⟩=some (.slice R.name.a m.name.length R.name.cap):=h.cell 14
 have HW:=hide (pf R.name m.name w h.qx h.ok.name (by unfold mj at hs;omega))
 have HT:=hide (fun W(hm:More w W)=>qq {kind:=4,name:=jk m.name,flag:=odd} ⟨none,0⟩ (h.more hm).bare.out hs)
 clear h hs
 simp only[fq]at HT
 go_enter func177,ntmps177
 go_wp2_with fail
 refine(ae HW).mono ?_
 rintro e w1⟨rfl,hm1⟩
 go_wp2_with fail
 refine(ae HT _ hm1).mono ?_
 rintro e w2⟨rfl,h2⟩
 have HE:=hide (Mk.qy h2)
 obtain⟨R2,h2⟩:=h2
 have d14:w2.cell? ⟨b,14,none⟩=some (.slice R2.name.a (tell m {kind:=4,name:=jk m.name,flag:=odd}).name.length R2.name.cap):=h2.cell 14
 have hf:=h2.frozen
 clear h2 HT HW
 go_wp2
 go_end0
 exact⟨rfl,ae HE⟩
theorem rh.zat(h:rh w0 aj b m R ex w)(hg0:m.gone=false):rh w0 aj b {m with gone:=true} R (lr R.attrs m.attrs::ex) w:=by
 refine⟨h.obj.perm ?_,h.lt,⟨h.ok.l,h.ok.text,h.ok.name,h.ok.buf,h.ok.key,h.ok.value,h.ok.ll,h.ok.pl⟩,h.kept⟩
 have p:([lr R.attrs m.attrs]++cw m.told R.cz++ex).Perm (cw m.told R.cz++[lr R.attrs m.attrs]++ex):=List.Perm.append_right _ List.perm_append_comm
 simpa[kt,m8,hg0]using p
theorem zd9(m:MS)(t:Tok):tell {m with gone:=true} t={tell m t with gone:=true}:=by
 unfold tell flush;split<;>rfl
theorem p7(m:MS)(t:Tok):(tell m t).pos=m.pos∧(tell m t).l=m.l∧(tell m t).last=m.last∧(tell m t).fi=m.fi:=by
 unfold tell flush;split<;>exact⟨rfl,rfl,rfl,rfl⟩
end
section
variable{w0:World}{aj:Nat→Prop}{b:Nat}{m m':MS}{R:MR}{ex:List Item}{w w1 w':World}
theorem Cd(m:MS)(n:Str)(p:Int):mj (wrong m n p)=mj m+1:=by unfold mj wrong;simp;omega
theorem qs(m:MS)(n:Str):mj (err m n)=mj m+1:=Cd _ _ _
theorem Eq{m:MS}{k:Nat}(h:mj m+k≤lim):m.told.length≤lim:=by unfold mj at h;omega
theorem ri(m:MS):(ep m).gone=m.gone∧(ep m).pos=m.pos∧(ep m).l=m.l∧(ep m).kind=m.kind∧(ep m).flag=m.flag∧(ep m).name=m.name∧mj (ep m)≤mj m+2:=by
 unfold ep mj;split<;>simp<;>omega
theorem Dv(m:MS):(cu m).gone=m.gone∧(cu m).pos=m.pos∧(cu m).l=m.l∧(cu m).kind=m.kind∧(cu m).flag=m.flag∧(cu m).attrs=(ep m).attrs∧mj (cu m)≤mj m+2:=by
 obtain⟨f1,f2,f3,f4,f5,f6,f7⟩:=ri m
 refine⟨f1,f2,f3,f4,f5,rfl,?_⟩
 unfold cu mj at*;simp;omega
theorem zrd:(kh [116,105,116,108,101]).toNat=1:=by decide
theorem zre:(kh [116,101,120,116,97,114,101,97]).toNat=1:=by decide
theorem zrf:(kh [115,99,114,105,112,116]).toNat=2:=by decide
theorem zrg:(kh [115,116,121,108,101]).toNat=2:=by decide
theorem zrh:(kh [120,109,112]).toNat=2:=by decide
theorem zri{n:Str}(h1:n≠[116,105,116,108,101])(h2:n≠[116,101,120,116,97,114,101,97])(h3:n≠[115,99,114,105,112,116])(h4:n≠[115,116,121,108,101])(h5:n≠[120,109,112]):(kh n).toNat=0:=by
 unfold kh;rw[ag (by simp[h1,h2]),ag (by simp[h3,h4,h5])];rfl
theorem zea(h:Mk w0 aj b m ex w)(hg0:m.gone=false)(hk:m.kind=2)(hs:mj m+8≤lim)(hp:m.pos<m.l.length):
  Calls prog 234 #[.pointer (some ⟨b,0,none⟩)] w fun e w'=>e= .returned (.tuple #[])∧Mk w0 aj b (ot m) ex w':=by
 obtain⟨f1,f2,f3,f4,f5,f6,f7⟩:=Dv m
 have HC:=hide (Ax h hg0 (by omega))
 have hp1:(cu m).pos<(cu m).l.length:=by rw[f2,f3];exact hp
 have hs1:mj (cu m)+6≤lim:=by omega
 have hsc:(ep m).name.length≤lim:=by have:=(ri m).2.2.2.2.2.1;rw[this];unfold mj at hs;omega
 have hkc:(ep m).kind=m.kind:=(ri m).2.2.2.1
 rw[show ot m=pc (tell (vm (Bl (cu m))) {kind:=2,name:=(cu m).fi}) 0 by unfold ot;rw[au (f4.trans hk)]]
 rw[hk]at hkc
 have HS:=hide hs1
 have HP:=hide hp1
 have HN:=hide hsc
 have hal:(cu m).attrs.length≤1099511627776:=by unfold mj lim at hs1;omega
 clear f1 f2 f3 f4 f5 f6 f7 h hg0 hk hs hp hs1 hp1 hsc
 by_cases ha:0<(cu m).attrs.length
 ·rw[show Bl (cu m)=err (cu m) [101,110,100,45,97,116,116,114,105,98,117,116,101,115]from au ha]
  have ha':(0:Int)<(cu m).attrs.length:=by omega
  clear ha
  by_cases hfl:(cu m).flag=true
  ·rw[show vm (err (cu m) [101,110,100,45,97,116,116,114,105,98,117,116,101,115])=err (err (cu m) [101,110,100,45,97,116,116,114,105,98,117,116,101,115]) [101,110,100,45,115,108,97,115,104]from au hfl]
   go_enter func234,ntmps234
   go_wp2_with fail
   refine(ae HC).mono ?_
   rintro e w1⟨rfl,h1⟩
   clear HC
   obtain⟨R1,h1⟩:=h1
   have c14:w1.cell? ⟨b,14,none⟩=some (.slice R1.name.a (ep m).name.length R1.name.cap):=h1.cell 14
   have HW:=hide (pf R1.name (ep m).name w1 h1.qx h1.ok.name (ae HN))
   go_wp2_with fail
   refine(ae HW).mono ?_
   rintro e w2⟨rfl,hm2⟩
   have h2:=h1.more hm2
   have c9:w2.cell? ⟨b,9,none⟩=some (.string ⟨(ep m).fi.toArray⟩):=h2.cell 9
   have d14:w2.cell? ⟨b,14,none⟩=some (.slice R1.name.a (ep m).name.length R1.name.cap):=h2.cell 14
   have c8:w2.cell? ⟨b,8,none⟩=some (.int .i64 (ep m).kind):=h2.cell 8
   rw[hkc]at c8
   have c10:w2.cell? ⟨b,10,none⟩=some (.slice R1.attrs.a (cu m).attrs.length R1.attrs.cap):=h2.cell 10
   have c12:w2.cell? ⟨b,12,none⟩=some (.bool (cu m).flag):=h2.cell 12
   have hf:=h2.frozen
   have H3:=hide (show Mk w0 aj b (cu m) ex _ from Mk.qy (h2.out.Ep (jk (ep m).name)))
   rw[hfl]at c12
   go_wp2_with fail
   refine(od [101,110,100,45,97,116,116,114,105,98,117,116,101,115] (ae H3) (Eq (k:=1) (by have:=ae HS;(try simp only[qs]);omega))).mono ?_
   rintro e w3⟨rfl,h3⟩
   have b12:w3.cell? ⟨b,12,none⟩=some (.bool (cu m).flag):=by obtain⟨Q,q⟩:=h3;exact q.cell 12
   rw[hfl]at b12
   have b9:w3.cell? ⟨b,9,none⟩=some (.string ⟨(cu m).fi.toArray⟩):=by obtain⟨Q,q⟩:=h3;exact q.cell 9
   go_wp2_with fail
   refine(od [101,110,100,45,115,108,97,115,104] (ae (hide h3)) (Eq (k:=1) (by have:=ae HS;(try simp only[qs]);omega))).mono ?_
   rintro e w4⟨rfl,h4⟩
   have b9:w4.cell? ⟨b,9,none⟩=some (.string ⟨(cu m).fi.toArray⟩):=by obtain⟨Q,q⟩:=h4;exact q.cell 9
   have HT:=hide (qq (m:=(err (err (cu m) [101,110,100,45,97,116,116,114,105,98,117,116,101,115]) [101,110,100,45,115,108,97,115,104])) {kind:=2,name:=(cu m).fi} ⟨none,0⟩ (by obtain⟨Q,q⟩:=ae (hide h4);exact q.bare.out) (by have:=ae HS;(try simp only[qs]);omega))
   simp only[fq]at HT
   go_wp2_with fail
   refine(ae HT).mono ?_
   rintro e w6⟨rfl,h6⟩
   go_wp2_with fail
   refine(zd 0 h6 (by rw[(p7 _ _).1,(p7 _ _).2.1];exact ae HP)).mono ?_
   rintro e w7⟨rfl,h7⟩
   go_wp2
   go_end0
   exact⟨rfl,h7⟩
  ·rw[show vm (err (cu m) [101,110,100,45,97,116,116,114,105,98,117,116,101,115])=err (cu m) [101,110,100,45,97,116,116,114,105,98,117,116,101,115]from ag hfl]
   have hfl:=az.2 hfl
   go_enter func234,ntmps234
   go_wp2_with fail
   refine(ae HC).mono ?_
   rintro e w1⟨rfl,h1⟩
   clear HC
   obtain⟨R1,h1⟩:=h1
   have c14:w1.cell? ⟨b,14,none⟩=some (.slice R1.name.a (ep m).name.length R1.name.cap):=h1.cell 14
   have HW:=hide (pf R1.name (ep m).name w1 h1.qx h1.ok.name (ae HN))
   go_wp2_with fail
   refine(ae HW).mono ?_
   rintro e w2⟨rfl,hm2⟩
   have h2:=h1.more hm2
   have c9:w2.cell? ⟨b,9,none⟩=some (.string ⟨(ep m).fi.toArray⟩):=h2.cell 9
   have d14:w2.cell? ⟨b,14,none⟩=some (.slice R1.name.a (ep m).name.length R1.name.cap):=h2.cell 14
   have c8:w2.cell? ⟨b,8,none⟩=some (.int .i64 (ep m).kind):=h2.cell 8
   rw[hkc]at c8
   have c10:w2.cell? ⟨b,10,none⟩=some (.slice R1.attrs.a (cu m).attrs.length R1.attrs.cap):=h2.cell 10
   have c12:w2.cell? ⟨b,12,none⟩=some (.bool (cu m).flag):=h2.cell 12
   have hf:=h2.frozen
   have H3:=hide (show Mk w0 aj b (cu m) ex _ from Mk.qy (h2.out.Ep (jk (ep m).name)))
   rw[hfl]at c12
   go_wp2_with fail
   refine(od [101,110,100,45,97,116,116,114,105,98,117,116,101,115] (ae H3) (Eq (k:=1) (by have:=ae HS;(try simp only[qs]);omega))).mono ?_
   rintro e w3⟨rfl,h3⟩
   have b12:w3.cell? ⟨b,12,none⟩=some (.bool (cu m).flag):=by obtain⟨Q,q⟩:=h3;exact q.cell 12
   rw[hfl]at b12
   have b9:w3.cell? ⟨b,9,none⟩=some (.string ⟨(cu m).fi.toArray⟩):=by obtain⟨Q,q⟩:=h3;exact q.cell 9
   have HT:=hide (qq (m:=(err (cu m) [101,110,100,45,97,116,116,114,105,98,117,116,101,115])) {kind:=2,name:=(cu m).fi} ⟨none,0⟩ (by obtain⟨Q,q⟩:=ae (hide h3);exact q.bare.out) (by have:=ae HS;(try simp only[qs]);omega))
   simp only[fq]at HT
   go_wp2_with fail
   refine(ae HT).mono ?_
   rintro e w6⟨rfl,h6⟩
   go_wp2_with fail
   refine(zd 0 h6 (by rw[(p7 _ _).1,(p7 _ _).2.1];exact ae HP)).mono ?_
   rintro e w7⟨rfl,h7⟩
   go_wp2
   go_end0
   exact⟨rfl,h7⟩
 ·rw[show Bl (cu m)=cu m from ag ha]
  have ha':(cu m).attrs.length=0:=by omega
  clear ha
  by_cases hfl:(cu m).flag=true
  ·rw[show vm (cu m)=err (cu m) [101,110,100,45,115,108,97,115,104]from au hfl]
   go_enter func234,ntmps234
   go_wp2_with fail
   refine(ae HC).mono ?_
   rintro e w1⟨rfl,h1⟩
   clear HC
   obtain⟨R1,h1⟩:=h1
   have c14:w1.cell? ⟨b,14,none⟩=some (.slice R1.name.a (ep m).name.length R1.name.cap):=h1.cell 14
   have HW:=hide (pf R1.name (ep m).name w1 h1.qx h1.ok.name (ae HN))
   go_wp2_with fail
   refine(ae HW).mono ?_
   rintro e w2⟨rfl,hm2⟩
   have h2:=h1.more hm2
   have c9:w2.cell? ⟨b,9,none⟩=some (.string ⟨(ep m).fi.toArray⟩):=h2.cell 9
   have d14:w2.cell? ⟨b,14,none⟩=some (.slice R1.name.a (ep m).name.length R1.name.cap):=h2.cell 14
   have c8:w2.cell? ⟨b,8,none⟩=some (.int .i64 (ep m).kind):=h2.cell 8
   rw[hkc]at c8
   have c10:w2.cell? ⟨b,10,none⟩=some (.slice R1.attrs.a (cu m).attrs.length R1.attrs.cap):=h2.cell 10
   have c12:w2.cell? ⟨b,12,none⟩=some (.bool (cu m).flag):=h2.cell 12
   have hf:=h2.frozen
   have H3:=hide (show Mk w0 aj b (cu m) ex _ from Mk.qy (h2.out.Ep (jk (ep m).name)))
   rw[hfl]at c12
   rw[ha']at c10
   go_wp2_with fail
   refine(od [101,110,100,45,115,108,97,115,104] (ae H3) (Eq (k:=1) (by have:=ae HS;(try simp only[qs]);omega))).mono ?_
   rintro e w3⟨rfl,h3⟩
   have b9:w3.cell? ⟨b,9,none⟩=some (.string ⟨(cu m).fi.toArray⟩):=by obtain⟨Q,q⟩:=h3;exact q.cell 9
   have HT:=hide (qq (m:=(err (cu m) [101,110,100,45,115,108,97,115,104])) {kind:=2,name:=(cu m).fi} ⟨none,0⟩ (by obtain⟨Q,q⟩:=ae (hide h3);exact q.bare.out) (by have:=ae HS;(try simp only[qs]);omega))
   simp only[fq]at HT
   go_wp2_with fail
   refine(ae HT).mono ?_
   rintro e w6⟨rfl,h6⟩
   go_wp2_with fail
   refine(zd 0 h6 (by rw[(p7 _ _).1,(p7 _ _).2.1];exact ae HP)).mono ?_
   rintro e w7⟨rfl,h7⟩
   go_wp2
   go_end0
   exact⟨rfl,h7⟩
  ·rw[show vm (cu m)=cu m from ag hfl]
   have hfl:=az.2 hfl
   go_enter func234,ntmps234
   go_wp2_with fail
   refine(ae HC).mono ?_
   rintro e w1⟨rfl,h1⟩
   clear HC
   obtain⟨R1,h1⟩:=h1
   have c14:w1.cell? ⟨b,14,none⟩=some (.slice R1.name.a (ep m).name.length R1.name.cap):=h1.cell 14
   have HW:=hide (pf R1.name (ep m).name w1 h1.qx h1.ok.name (ae HN))
   go_wp2_with fail
   refine(ae HW).mono ?_
   rintro e w2⟨rfl,hm2⟩
   have h2:=h1.more hm2
   have c9:w2.cell? ⟨b,9,none⟩=some (.string ⟨(ep m).fi.toArray⟩):=h2.cell 9
   have d14:w2.cell? ⟨b,14,none⟩=some (.slice R1.name.a (ep m).name.length R1.name.cap):=h2.cell 14
   have c8:w2.cell? ⟨b,8,none⟩=some (.int .i64 (ep m).kind):=h2.cell 8
   rw[hkc]at c8
   have c10:w2.cell? ⟨b,10,none⟩=some (.slice R1.attrs.a (cu m).attrs.length R1.attrs.cap):=h2.cell 10
   have c12:w2.cell? ⟨b,12,none⟩=some (.bool (cu m).flag):=h2.cell 12
   have hf:=h2.frozen
   have H3:=hide (show Mk w0 aj b (cu m) ex _ from Mk.qy (h2.out.Ep (jk (ep m).name)))
   rw[hfl]at c12
   rw[ha']at c10
   have HT:=hide (qq (m:=(cu m)) {kind:=2,name:=(cu m).fi} ⟨none,0⟩ (by obtain⟨Q,q⟩:=ae H3;exact q.bare.out) (by have:=ae HS;(try simp only[qs]);omega))
   simp only[fq]at HT
   go_wp2_with fail
   refine(ae HT).mono ?_
   rintro e w6⟨rfl,h6⟩
   go_wp2_with fail
   refine(zd 0 h6 (by rw[(p7 _ _).1,(p7 _ _).2.1];exact ae HP)).mono ?_
   rintro e w7⟨rfl,h7⟩
   go_wp2
   go_end0
   exact⟨rfl,h7⟩
end
section
variable{w0:World}{aj:Nat→Prop}{b:Nat}{m m':MS}{R:MR}{ex:List Item}{w w1 w':World}
theorem zeb(h:Mk w0 aj b m ex w)(hg0:m.gone=false)(hk:m.kind≠2)(hs:mj m+8≤lim)(hp:m.pos<m.l.length):
  Calls prog 234 #[.pointer (some ⟨b,0,none⟩)] w fun e w'=>e= .returned (.tuple #[])∧Mk w0 aj b (ot m) ex w':=by
 obtain⟨f1,f2,f3,f4,f5,f6,f7⟩:=Dv m
 have HC:=hide (Ax h hg0 (by omega))
 have hp1:(cu m).pos<(cu m).l.length:=by rw[f2,f3];exact hp
 have hs1:mj (cu m)+6≤lim:=by omega
 have hsc:(ep m).name.length≤lim:=by have:=(ri m).2.2.2.2.2.1;rw[this];unfold mj at hs;omega
 have hkc:(ep m).kind=m.kind:=(ri m).2.2.2.1
 rw[show ot m=pc (tell {cu m with last:=(cu m).fi,gone:=true} {kind:=m.kind,name:=(cu m).fi,attrs:=(cu m).attrs,flag:=m.flag}) (kh (cu m).fi).toNat by unfold ot;rw[ag (fun e=>hk (f4.symm.trans e)),←zd9]]
 have HS:=hide hs1
 have HP:=hide hp1
 have HN:=hide hsc
 have HG:=hide (f1.trans hg0)
 have hal:(cu m).attrs.length≤1099511627776:=by unfold mj lim at hs1;omega
 have hke:(m.kind==2)=false:=by simpa using hk
 have HFL:=hide f5
 clear f1 f2 f3 f4 f5 f6 f7 h hg0 hk hs hp hs1 hp1 hsc
 generalize hn:(kh (cu m).fi).toNat=q
 have HQ:=hide hn
 clear hn
 go_enter func234,ntmps234
 go_wp2_with fail
 refine(ae HC).mono ?_
 rintro e w1⟨rfl,h1⟩
 clear HC
 obtain⟨R1,h1⟩:=h1
 have c14:w1.cell? ⟨b,14,none⟩=some (.slice R1.name.a (ep m).name.length R1.name.cap):=h1.cell 14
 have HW:=hide (pf R1.name (ep m).name w1 h1.qx h1.ok.name (ae HN))
 go_wp2_with fail
 refine(ae HW).mono ?_
 rintro e w2⟨rfl,hm2⟩
 have h2:=h1.more hm2
 have c9:w2.cell? ⟨b,9,none⟩=some (.string ⟨(ep m).fi.toArray⟩):=h2.cell 9
 have d14:w2.cell? ⟨b,14,none⟩=some (.slice R1.name.a (ep m).name.length R1.name.cap):=h2.cell 14
 have c8:w2.cell? ⟨b,8,none⟩=some (.int .i64 (ep m).kind):=h2.cell 8
 rw[hkc]at c8
 have c10:w2.cell? ⟨b,10,none⟩=some (.slice R1.attrs.a (cu m).attrs.length R1.attrs.cap):=h2.cell 10
 have c12:w2.cell? ⟨b,12,none⟩=some (.bool (cu m).flag):=h2.cell 12
 have hf:=h2.frozen
 have H3:=hide (show Mk w0 aj b (cu m) ex _ from Mk.qy (h2.out.Ep (jk (ep m).name)))
 have c20:w2.cell? ⟨b,20,none⟩=some (.string ⟨(ep m).last.toArray⟩):=h2.cell 20
 have c11:w2.cell? ⟨b,11,none⟩=some (.string ⟨#[]⟩):=h2.cell 11
 have c13:w2.cell? ⟨b,13,none⟩=some (.int .i64 0):=h2.cell 13
 rw[ae HFL]at c12
 have o2:=h2.ok
 have h3:rh w0 aj b (cu m) {R1 with name:=⟨none,0⟩} ex _:=(h2.set 9 (.string ⟨(jk (ep m).name).toArray⟩) (m':={ep m with fi:=jk (ep m).name}) rfl rfl rfl ⟨o2.l,o2.text,o2.name,o2.buf,o2.key,o2.value,o2.ll,o2.pl⟩).qy
 have o3:=h3.ok
 have h4:=h3.set 20 (.string ⟨(cu m).fi.toArray⟩) (m':={cu m with last:=(cu m).fi}) rfl rfl rfl ⟨o3.l,o3.text,o3.name,o3.buf,o3.key,o3.value,o3.ll,o3.pl⟩
 have HT:=hide (qq {kind:=m.kind,name:=(cu m).fi,attrs:=(cu m).attrs,flag:=m.flag} R1.attrs (h4.zat (ae HG)).out (by have:=ae HS;show mj (cu m)+1≤lim;omega))
 simp only[fq]at HT
 clear h1 h2 h3 h4 H3 o2 o3 HG
 go_wp2_with fail
 refine(ae HT).mono ?_
 rintro e w6⟨rfl,h6⟩
 clear HT HW
 have zgr:w6.cell? ⟨b,20,none⟩=some (.string ⟨(cu m).fi.toArray⟩):=by obtain⟨Q,q⟩:=h6;rw[q.cell 20];show some (Value.string ⟨(tell _ _).last.toArray⟩)=_;rw[(p7 _ _).2.2.1]
 have Qp:=hide (zd q h6 (by rw[(p7 _ _).1,(p7 _ _).2.1];exact ae HP))
 clear h6
 by_cases n0:(cu m).fi=[116,105,116,108,101]
 ·rw[n0]at zgr
  obtain rfl:q=1:=(ae HQ).symm.trans (by rw[n0];exact zrd)
  clear HQ n0
  go_wp2_with fail
  refine(ae Qp).mono ?_
  rintro e w7⟨rfl,h7⟩
  go_wp2
  go_end0
  exact⟨rfl,h7⟩
 by_cases n1:(cu m).fi=[116,101,120,116,97,114,101,97]
 ·rw[n1]at zgr
  obtain rfl:q=1:=(ae HQ).symm.trans (by rw[n1];exact zre)
  clear HQ n1
  go_wp2_with fail
  refine(ae Qp).mono ?_
  rintro e w7⟨rfl,h7⟩
  go_wp2
  go_end0
  exact⟨rfl,h7⟩
 by_cases n2:(cu m).fi=[115,99,114,105,112,116]
 ·rw[n2]at zgr
  obtain rfl:q=2:=(ae HQ).symm.trans (by rw[n2];exact zrf)
  clear HQ n2
  go_wp2_with fail
  refine(ae Qp).mono ?_
  rintro e w7⟨rfl,h7⟩
  go_wp2
  go_end0
  exact⟨rfl,h7⟩
 by_cases n3:(cu m).fi=[115,116,121,108,101]
 ·rw[n3]at zgr
  obtain rfl:q=2:=(ae HQ).symm.trans (by rw[n3];exact zrg)
  clear HQ n3
  go_wp2_with fail
  refine(ae Qp).mono ?_
  rintro e w7⟨rfl,h7⟩
  go_wp2
  go_end0
  exact⟨rfl,h7⟩
 by_cases n4:(cu m).fi=[120,109,112]
 ·rw[n4]at zgr
  obtain rfl:q=2:=(ae HQ).symm.trans (by rw[n4];exact zrh)
  clear HQ n4
  go_wp2_with fail
  refine(ae Qp).mono ?_
  rintro e w7⟨rfl,h7⟩
  go_wp2
  go_end0
  exact⟨rfl,h7⟩
 obtain rfl:q=0:=(ae HQ).symm.trans (zri n0 n1 n2 n3 n4)
 have e0:((cu m).fi==[116,105,116,108,101])=false:=af.2 n0
 have e1:((cu m).fi==[116,101,120,116,97,114,101,97])=false:=af.2 n1
 have e2:((cu m).fi==[115,99,114,105,112,116])=false:=af.2 n2
 have e3:((cu m).fi==[115,116,121,108,101])=false:=af.2 n3
 have e4:((cu m).fi==[120,109,112])=false:=af.2 n4
 clear n0 n1 n2 n3 n4
 go_wp2_with fail
 refine(ae Qp).mono ?_
 rintro e w7⟨rfl,h7⟩
 go_wp2
 go_end0
 exact⟨rfl,h7⟩
theorem Uq(h:Mk w0 aj b m ex w)(hg0:m.gone=false)(hs:mj m+8≤lim)(hp:m.pos<m.l.length):
  Calls prog 234 #[.pointer (some ⟨b,0,none⟩)] w fun e w'=>e= .returned (.tuple #[])∧Mk w0 aj b (ot m) ex w':=by
 by_cases hk:m.kind=2
 ·exact zea h hg0 hk hs hp
 ·exact zeb h hg0 hk hs hp
end
end Go.Proofs.YtdfmapcnfficlaaGreatDoor.M

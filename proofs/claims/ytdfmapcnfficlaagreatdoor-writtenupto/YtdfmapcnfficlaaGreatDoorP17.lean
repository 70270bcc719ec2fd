import Derived.Test.YtdfmapcnfficlaaGreatDoorP12
set_option linter.all false
set_option maxHeartbeats 4000000
set_option maxRecDepth 1000000
namespace Go.Proofs.YtdfmapcnfficlaaGreatDoor.M
open Go.Proofs.Tryz
open Go Go.RowKit Go.Proofs.YtdfmapcnfficlaaGreatDoor
section
variable{w0:World}{aj:Nat→Prop}{b:Nat}{m:MS}{ex:List Item}{w:World}{g:Bool}{k:Nat}
theorem zen(c:Int)(hc:Pt c)(hst:m.state=7)(hl:br c=false)(hb:ba c=true∨c=47∨c=62)(h:Mz w0 aj b ex g 64 m w):
  Calls prog 183 #[.pointer (some ⟨b,0,none⟩),.int .i64 c] w fun e w'=>e= .returned (.tuple #[])∧Mk w0 aj b (less m c) ex w':=by
 have c5:=h.c5
 rw[hst,show qc 7=[76,69,83,83,78,65,77,69]from rfl]at c5
 have Qq:=hide (fun(hn:jk m.name=m.last)=>show less m c=st m 8 by simp[less,hst,hl,hb,hn])
 have HF2:=hide (fun(hn:jk m.name≠m.last)=>show less m c=st {say m [60,47]with text:=(say m [60,47]).text++m.buf} m.base by simp[less,hst,hl,hn])
 obtain⟨R,hR⟩:=h.rep
 have cN:w.cell? ⟨b,14,none⟩=some (.slice R.name.a m.name.length R.name.cap):=hR.cell 14
 have cL:w.cell? ⟨b,20,none⟩=some (.string ⟨m.last.toArray⟩):=hR.cell 20
 have cf:=hR.frozen
 have hlt:=hR.obj.lt
 have HW:=hide (fun W(hm:More w W)=>pf R.name m.name W (Item.more hR.qx hm) hR.ok.name (by have:=h.sz;unfold mj at this;omega))
 have HLe:=hide (fun W=>nr c W)
 rw[hl]at HLe
 have HBl:=hide (fun W=>eo c W)
 have H0:=hide h
 clear h hl hst hR
 by_cases hbl:ba c=true
 ·rw[hbl]at HBl
  clear hbl hb
  go_enter func183,ntmps183
  go_wp2_with fail
  refine(ae HLe _).mono ?_
  rintro e w1⟨rfl,hw1⟩
  rw[hw1]
  clear hw1
  go_wp2_with fail
  refine(ae HBl _).mono ?_
  rintro e w1⟨rfl,hw1⟩
  rw[hw1]
  clear hw1
  go_wp2_with fail
  refine wp_region_held_drew (S:=fun W=>W.cell? ⟨b,14,none⟩=some (.slice R.name.a m.name.length R.name.cap)∧W.cell? ⟨b,20,none⟩=some (.string ⟨m.last.toArray⟩)) (by kernel_rfl) ⟨cN,cL⟩ (fun hS=> ?_)
  refine wpAnyH_take (i:=0) (v:= ?_) rfl (by kernel_rfl) (by kernel_rfl) (by kernel_rfl) (fun _ _ _ h=>h) (Or.inl ⟨by kernel_rfl,?_⟩) hS ?_
  rotate_left
  ·intro W hW;(try dsimp only at hW);go_simp;first|done|with_reducible rfl
  simp only[Act.put,am,aw,ay]
  refine wpAnyH_take (i:=1) (v:= ?_) rfl (by kernel_rfl) (by kernel_rfl) (by kernel_rfl) (fun _ _ _ h=>h) (Or.inl ⟨by kernel_rfl,?_⟩) hS ?_
  rotate_left
  ·intro W hW;(try dsimp only at hW);go_simp;first|done|with_reducible rfl
  simp only[Act.put,am,aw,ay]
  refine wpAnyH_take (i:=2) (v:=undef) rfl (by kernel_rfl) (by kernel_rfl) (by kernel_rfl) (fun _ _ _ h=>h) (Or.inr ⟨by kernel_rfl,rfl⟩) hS ?_
  simp only[Act.put,am,aw,ay]
  refine wpAnyH_take (i:=3) (v:=undef) rfl (by kernel_rfl) (by kernel_rfl) (by kernel_rfl) (fun _ _ _ h=>h) (Or.inr ⟨by kernel_rfl,rfl⟩) hS ?_
  simp only[Act.put,am,aw,ay]
  refine wpAnyH_take (i:=4) (v:= ?_) rfl (by kernel_rfl) (by kernel_rfl) (by kernel_rfl) (fun _ _ _ h=>h) (Or.inl ⟨by kernel_rfl,?_⟩) hS ?_
  rotate_left
  ·intro W hW;(try dsimp only at hW);go_simp;first|done|with_reducible rfl
  simp only[Act.put,am,aw,ay]
  refine wpAnyH_take (i:=5) (v:= ?_) rfl (by kernel_rfl) (by kernel_rfl) (by kernel_rfl) (fun _ _ _ h=>h) (Or.inl ⟨by kernel_rfl,?_⟩) hS ?_
  rotate_left
  ·intro W hW;(try dsimp only at hW);go_simp;first|done|with_reducible rfl
  simp only[Act.put,am,aw,ay]
  refine wpAnyH_take (i:=6) (v:=undef) rfl (by kernel_rfl) (by kernel_rfl) (by kernel_rfl) (fun _ _ _ h=>h) (Or.inr ⟨by kernel_rfl,rfl⟩) hS ?_
  simp only[Act.put,am,aw,ay]
  refine wpAnyH_take (i:=7) (v:=undef) rfl (by kernel_rfl) (by kernel_rfl) (by kernel_rfl) (fun _ _ _ h=>h) (Or.inr ⟨by kernel_rfl,rfl⟩) hS ?_
  simp only[Act.put,am,aw,ay]
  refine wpAnyH_take (i:=8) (v:= ?_) rfl (by kernel_rfl) (by kernel_rfl) (by kernel_rfl) (fun _ _ _ h=>h) (Or.inl ⟨by kernel_rfl,?_⟩) hS ?_
  rotate_left
  ·intro W hW;(try dsimp only at hW);go_simp;first|done|with_reducible rfl
  simp only[Act.put,am,aw,ay]
  refine wpAnyH_take (i:=9) (v:= ?_) rfl (by kernel_rfl) (by kernel_rfl) (by kernel_rfl) (fun _ _ _ h=>h) (Or.inl ⟨by kernel_rfl,?_⟩) hS ?_
  rotate_left
  ·intro W hW;(try dsimp only at hW);go_simp;first|done|with_reducible rfl
  simp only[Act.put,am,aw,ay]
  refine wpAnyH_take (i:=10) (v:= ?_) rfl (by kernel_rfl) (by kernel_rfl) (by kernel_rfl) (fun _ _ _ h=>h) (Or.inl ⟨by kernel_rfl,?_⟩) hS ?_
  rotate_left
  ·intro W hW;(try dsimp only at hW);go_simp;first|done|with_reducible rfl
  simp only[Act.put,am,aw,ay]
  refine wpAnyH_take (i:=11) (v:= ?_) rfl (by kernel_rfl) (by kernel_rfl) (by kernel_rfl) (fun _ _ _ h=>h) (Or.inl ⟨by kernel_rfl,?_⟩) hS ?_
  rotate_left
  ·intro W hW;(try dsimp only at hW);go_simp;first|done|with_reducible rfl
  simp only[Act.put,am,aw,ay]
  refine wpAnyH_take (i:=12) (v:= ?_) rfl (by kernel_rfl) (by kernel_rfl) (by kernel_rfl) (fun _ _ _ h=>h) (Or.inl ⟨by kernel_rfl,?_⟩) hS ?_
  rotate_left
  ·intro W hW;(try dsimp only at hW);go_simp;first|done|with_reducible rfl
  simp only[Act.put,am,aw,ay]
  refine wpAnyH_take (i:=13) (v:= ?_) rfl (by kernel_rfl) (by kernel_rfl) (by kernel_rfl) (fun _ _ _ h=>h) (Or.inl ⟨by kernel_rfl,?_⟩) hS ?_
  rotate_left
  ·intro W hW;(try dsimp only at hW);go_simp;first|done|with_reducible rfl
  simp only[Act.put,am,aw,ay]
  refine wpAnyH_take (i:=15) (v:= ?_) rfl (by kernel_rfl) (by kernel_rfl) (by kernel_rfl) (fun _ _ _ h=>h) (Or.inl ⟨by kernel_rfl,?_⟩) hS ?_
  rotate_left
  ·intro W hW;(try dsimp only at hW);go_simp;first|done|with_reducible rfl
  simp only[Act.put,am,aw,ay]
  refine wpAnyH_take (i:=16) (v:= ?_) rfl (by kernel_rfl) (by kernel_rfl) (by kernel_rfl) (fun _ _ _ h=>h) (Or.inl ⟨by kernel_rfl,?_⟩) hS ?_
  rotate_left
  ·intro W hW;(try dsimp only at hW);go_simp;first|done|with_reducible rfl
  simp only[Act.put,am,aw,ay]
  refine wpAnyH_take (i:=17) (v:= ?_) rfl (by kernel_rfl) (by kernel_rfl) (by kernel_rfl) (fun _ _ _ h=>h) (Or.inl ⟨by kernel_rfl,?_⟩) hS ?_
  rotate_left
  ·intro W hW;(try dsimp only at hW);go_simp;first|done|with_reducible rfl
  simp only[Act.put,am,aw,ay]
  refine wpAnyH_take (i:=18) (v:= ?_) rfl (by kernel_rfl) (by kernel_rfl) (by kernel_rfl) (fun _ _ _ h=>h) (Or.inl ⟨by kernel_rfl,?_⟩) hS ?_
  rotate_left
  ·intro W hW;(try dsimp only at hW);go_simp;first|done|with_reducible rfl
  simp only[Act.put,am,aw,ay]
  refine wpAnyH_ready (rs:=[14]) (by kernel_rfl) (by simp) ?_
  refine AllReadyH.cons rfl (fun K hK=> ?_) AllReadyH.nil
  go_simp
  refine(ae HW _ ?_).mono ?_
  ·exact(More.refl w).drew
  rintro e w2⟨rfl,hm2⟩
  have d14:=(hm2.cell (o:=14) hlt).trans cN
  have d20:=(hm2.cell (o:=20) hlt).trans cL
  refine hK.out _ _ ⟨d14,d20⟩ (fun hS=> ?_)
  clear hK K
  have Wt:More w w2:=(More.refl w).drew.tr hm2
  have H2:Hid (Mz w0 aj b ex g 64 m w2):=hide ⟨(ae H0).rep.more Wt,(ae H0).sz,(ae H0).ps,(ae H0).gn⟩
  have g5:=(ae H2).c5
  have gf:=(ae H2).frozen
  clear hm2 HW
  by_cases hn:jk m.name=m.last
  ·have e0:(jk m.name==m.last)=true:=by simpa using hn
   have HE:=hide (ae H2).rep
   have HF:=hide (ae Qq hn)
   clear hn Qq HF2
   refine wpAnyH_take (i:=19) (v:= ?_) rfl (by kernel_rfl) (by kernel_rfl) (by kernel_rfl) (fun _ _ _ h=>h) (Or.inl ⟨by kernel_rfl,?_⟩) hS ?_
   rotate_left
   ·intro W hW;(try dsimp only at hW);go_simp;first|done|with_reducible rfl
   simp only[Act.put,am,aw,ay]
   refine wpAnyH_take (i:=20) (v:= ?_) rfl (by kernel_rfl) (by kernel_rfl) (by kernel_rfl) (fun _ _ _ h=>h) (Or.inl ⟨by kernel_rfl,?_⟩) hS ?_
   rotate_left
   ·intro W hW;(try dsimp only at hW);go_simp;first|done|with_reducible rfl
   simp only[Act.put,am,aw,ay]
   refine wpAnyH_done (by kernel_rfl) ?_ _
   clear hS
   go_wp2
   first|go_end0|((try simp only[Exit.inBlock,Exit.then]);refine ap (av rfl _ _ _) rfl ?_)
   exact⟨rfl,by rw[ae HF];exact(ae HE).setState 8⟩
  ·have e0:(jk m.name==m.last)=false:=by simpa using hn
   have HF:=hide (ae HF2 hn)
   clear hn Qq HF2
   refine wpAnyH_take (i:=19) (v:= ?_) rfl (by kernel_rfl) (by kernel_rfl) (by kernel_rfl) (fun _ _ _ h=>h) (Or.inl ⟨by kernel_rfl,?_⟩) hS ?_
   rotate_left
   ·intro W hW;(try dsimp only at hW);go_simp;first|done|with_reducible rfl
   simp only[Act.put,am,aw,ay]
   refine wpAnyH_take (i:=20) (v:= ?_) rfl (by kernel_rfl) (by kernel_rfl) (by kernel_rfl) (fun _ _ _ h=>h) (Or.inl ⟨by kernel_rfl,?_⟩) hS ?_
   rotate_left
   ·intro W hW;(try dsimp only at hW);go_simp;first|done|with_reducible rfl
   simp only[Act.put,am,aw,ay]
   refine wpAnyH_done (by kernel_rfl) ?_ _
   clear hS
   go_wp2_with fail
   refine(Nn [60,47] (by decide) (ae H2)).mono ?_
   rintro e w4⟨rfl,h4⟩
   have h5:=h4.rep
   obtain⟨R4,q4⟩:=h5
   have u4:w4.cell? ⟨b,4,none⟩=some (.slice R4.text.a (say m [60,47]).text.length R4.text.cap):=q4.cell 4
   have u15:w4.cell? ⟨b,15,none⟩=some (.slice R4.buf.a m.buf.length R4.buf.cap):=q4.cell 15
   have uf:=q4.frozen
   have ult:=q4.obj.lt
   have HZ:=hide (vg (n:=(say m [60,47]).text.length+m.buf.length) (by have:=(ae H2).sz;unfold mj at this;simp[say,n8];omega))
   obtain⟨i0,hi,hz0,hz1,hz2⟩:=info_parts qa
   have hbr:(ck R4.buf m.buf).ok w4:=q4.F3
   clear h4
   go_wp2_with fail
   go_region_law(refine tu rfl (.tmp 73) (.tmp 77) 45 rfl 3 i0 _ 1 8 underlying45 hi hz0 hz1 hz2 rfl (by decide) R4.text.a (say m [60,47]).text.length R4.text.cap ((say m [60,47]).text.map (Value.int .i64)) (by simp[Act.eval]) (by repeat(first|exact q4.px|refine og ?_)) R4.buf.a m.buf.length R4.buf.cap (m.buf.map (Value.int .i64)) (by simp[Act.eval]) (by simp) (fun h0=>ze (w:=w4) hbr h0) (km _) (ae HZ).1 (ae HZ).2 ?_;intro Hv cap' w6 hown hgrow hfresh;obtain⟨hself,hT⟩:=q4.po (by repeat(first|exact More.refl _|refine More.drew ?_)) ((say m [60,47]).text++m.buf) ⟨Hv,cap'⟩ (by simpa[Item.ok,ck]using hown) hgrow hfresh (ny q4.ok.text q4.ok.buf);have e4:w6.cell? ⟨b,4,none⟩=some (.slice R4.text.a (say m [60,47]).text.length R4.text.cap):=bg hself 4;have ef:=bn hself)
   all_goals
    rw[aq]at hT
    have s5:=hT.cell 5
    have s6:=hT.cell 6
    have sf:=hT.frozen
    simp only[mc]at s5 s6
    have HE:=hide (hT.out.setState m.base)
    clear hT hown hgrow hfresh
    go_wp2
    first|go_end0|((try simp only[Exit.inBlock,Exit.then]);refine ap (av rfl _ _ _) rfl ?_)
    exact⟨rfl,by rw[ae HF];exact ae HE⟩
 ·rw[az.2 hbl]at HBl
  have hb:=hb.resolve_left hbl
  clear hbl
  by_cases h47:c=47
  ·subst h47
   clear hb
   go_enter func183,ntmps183
   go_wp2_with fail
   refine(ae HLe _).mono ?_
   rintro e w1⟨rfl,hw1⟩
   rw[hw1]
   clear hw1
   go_wp2_with fail
   refine(ae HBl _).mono ?_
   rintro e w1⟨rfl,hw1⟩
   rw[hw1]
   clear hw1
   go_wp2_with fail
   refine wp_region_held_drew (S:=fun W=>W.cell? ⟨b,14,none⟩=some (.slice R.name.a m.name.length R.name.cap)∧W.cell? ⟨b,20,none⟩=some (.string ⟨m.last.toArray⟩)) (by kernel_rfl) ⟨cN,cL⟩ (fun hS=> ?_)
   refine wpAnyH_take (i:=0) (v:= ?_) rfl (by kernel_rfl) (by kernel_rfl) (by kernel_rfl) (fun _ _ _ h=>h) (Or.inl ⟨by kernel_rfl,?_⟩) hS ?_
   rotate_left
   ·intro W hW;(try dsimp only at hW);go_simp;first|done|with_reducible rfl
   simp only[Act.put,am,aw,ay]
   refine wpAnyH_take (i:=1) (v:= ?_) rfl (by kernel_rfl) (by kernel_rfl) (by kernel_rfl) (fun _ _ _ h=>h) (Or.inl ⟨by kernel_rfl,?_⟩) hS ?_
   rotate_left
   ·intro W hW;(try dsimp only at hW);go_simp;first|done|with_reducible rfl
   simp only[Act.put,am,aw,ay]
   refine wpAnyH_take (i:=2) (v:= ?_) rfl (by kernel_rfl) (by kernel_rfl) (by kernel_rfl) (fun _ _ _ h=>h) (Or.inl ⟨by kernel_rfl,?_⟩) hS ?_
   rotate_left
   ·intro W hW;(try dsimp only at hW);go_simp;first|done|with_reducible rfl
   simp only[Act.put,am,aw,ay]
   refine wpAnyH_take (i:=3) (v:= ?_) rfl (by kernel_rfl) (by kernel_rfl) (by kernel_rfl) (fun _ _ _ h=>h) (Or.inl ⟨by kernel_rfl,?_⟩) hS ?_
   rotate_left
   ·intro W hW;(try dsimp only at hW);go_simp;first|done|with_reducible rfl
   simp only[Act.put,am,aw,ay]
   refine wpAnyH_take (i:=4) (v:= ?_) rfl (by kernel_rfl) (by kernel_rfl) (by kernel_rfl) (fun _ _ _ h=>h) (Or.inl ⟨by kernel_rfl,?_⟩) hS ?_
   rotate_left
   ·intro W hW;(try dsimp only at hW);go_simp;first|done|with_reducible rfl
   simp only[Act.put,am,aw,ay]
   refine wpAnyH_take (i:=5) (v:= ?_) rfl (by kernel_rfl) (by kernel_rfl) (by kernel_rfl) (fun _ _ _ h=>h) (Or.inl ⟨by kernel_rfl,?_⟩) hS ?_
   rotate_left
   ·intro W hW;(try dsimp only at hW);go_simp;first|done|with_reducible rfl
   simp only[Act.put,am,aw,ay]
   refine wpAnyH_take (i:=6) (v:=undef) rfl (by kernel_rfl) (by kernel_rfl) (by kernel_rfl) (fun _ _ _ h=>h) (Or.inr ⟨by kernel_rfl,rfl⟩) hS ?_
   simp only[Act.put,am,aw,ay]
   refine wpAnyH_take (i:=7) (v:=undef) rfl (by kernel_rfl) (by kernel_rfl) (by kernel_rfl) (fun _ _ _ h=>h) (Or.inr ⟨by kernel_rfl,rfl⟩) hS ?_
   simp only[Act.put,am,aw,ay]
   refine wpAnyH_take (i:=8) (v:= ?_) rfl (by kernel_rfl) (by kernel_rfl) (by kernel_rfl) (fun _ _ _ h=>h) (Or.inl ⟨by kernel_rfl,?_⟩) hS ?_
   rotate_left
   ·intro W hW;(try dsimp only at hW);go_simp;first|done|with_reducible rfl
   simp only[Act.put,am,aw,ay]
   refine wpAnyH_take (i:=9) (v:= ?_) rfl (by kernel_rfl) (by kernel_rfl) (by kernel_rfl) (fun _ _ _ h=>h) (Or.inl ⟨by kernel_rfl,?_⟩) hS ?_
   rotate_left
   ·intro W hW;(try dsimp only at hW);go_simp;first|done|with_reducible rfl
   simp only[Act.put,am,aw,ay]
   refine wpAnyH_take (i:=10) (v:= ?_) rfl (by kernel_rfl) (by kernel_rfl) (by kernel_rfl) (fun _ _ _ h=>h) (Or.inl ⟨by kernel_rfl,?_⟩) hS ?_
   rotate_left
   ·intro W hW;(try dsimp only at hW);go_simp;first|done|with_reducible rfl
   simp only[Act.put,am,aw,ay]
   refine wpAnyH_take (i:=11) (v:= ?_) rfl (by kernel_rfl) (by kernel_rfl) (by kernel_rfl) (fun _ _ _ h=>h) (Or.inl ⟨by kernel_rfl,?_⟩) hS ?_
   rotate_left
   ·intro W hW;(try dsimp only at hW);go_simp;first|done|with_reducible rfl
   simp only[Act.put,am,aw,ay]
   refine wpAnyH_take (i:=12) (v:= ?_) rfl (by kernel_rfl) (by kernel_rfl) (by kernel_rfl) (fun _ _ _ h=>h) (Or.inl ⟨by kernel_rfl,?_⟩) hS ?_
   rotate_left
   ·intro W hW;(try dsimp only at hW);go_simp;first|done|with_reducible rfl
   simp only[Act.put,am,aw,ay]
   refine wpAnyH_take (i:=13) (v:= ?_) rfl (by kernel_rfl) (by kernel_rfl) (by kernel_rfl) (fun _ _ _ h=>h) (Or.inl ⟨by kernel_rfl,?_⟩) hS ?_
   rotate_left
   ·intro W hW;(try dsimp only at hW);go_simp;first|done|with_reducible rfl
   simp only[Act.put,am,aw,ay]
   refine wpAnyH_take (i:=15) (v:= ?_) rfl (by kernel_rfl) (by kernel_rfl) (by kernel_rfl) (fun _ _ _ h=>h) (Or.inl ⟨by kernel_rfl,?_⟩) hS ?_
   rotate_left
   ·intro W hW;(try dsimp only at hW);go_simp;first|done|with_reducible rfl
   simp only[Act.put,am,aw,ay]
   refine wpAnyH_take (i:=16) (v:= ?_) rfl (by kernel_rfl) (by kernel_rfl) (by kernel_rfl) (fun _ _ _ h=>h) (Or.inl ⟨by kernel_rfl,?_⟩) hS ?_
   rotate_left
   ·intro W hW;(try dsimp only at hW);go_simp;first|done|with_reducible rfl
   simp only[Act.put,am,aw,ay]
   refine wpAnyH_take (i:=17) (v:= ?_) rfl (by kernel_rfl) (by kernel_rfl) (by kernel_rfl) (fun _ _ _ h=>h) (Or.inl ⟨by kernel_rfl,?_⟩) hS ?_
   rotate_left
   ·intro W hW;(try dsimp only at hW);go_simp;first|done|with_reducible rfl
   simp only[Act.put,am,aw,ay]
   refine wpAnyH_take (i:=18) (v:= ?_) rfl (by kernel_rfl) (by kernel_rfl) (by kernel_rfl) (fun _ _ _ h=>h) (Or.inl ⟨by kernel_rfl,?_⟩) hS ?_
   rotate_left
   ·intro W hW;(try dsimp only at hW);go_simp;first|done|with_reducible rfl
   simp only[Act.put,am,aw,ay]
   refine wpAnyH_ready (rs:=[14]) (by kernel_rfl) (by simp) ?_
   refine AllReadyH.cons rfl (fun K hK=> ?_) AllReadyH.nil
   go_simp
   refine(ae HW _ ?_).mono ?_
   ·exact(More.refl w).drew
   rintro e w2⟨rfl,hm2⟩
   have d14:=(hm2.cell (o:=14) hlt).trans cN
   have d20:=(hm2.cell (o:=20) hlt).trans cL
   refine hK.out _ _ ⟨d14,d20⟩ (fun hS=> ?_)
   clear hK K
   have Wt:More w w2:=(More.refl w).drew.tr hm2
   have H2:Hid (Mz w0 aj b ex g 64 m w2):=hide ⟨(ae H0).rep.more Wt,(ae H0).sz,(ae H0).ps,(ae H0).gn⟩
   have g5:=(ae H2).c5
   have gf:=(ae H2).frozen
   clear hm2 HW
   by_cases hn:jk m.name=m.last
   ·have e0:(jk m.name==m.last)=true:=by simpa using hn
    have HE:=hide (ae H2).rep
    have HF:=hide (ae Qq hn)
    clear hn Qq HF2
    refine wpAnyH_take (i:=19) (v:= ?_) rfl (by kernel_rfl) (by kernel_rfl) (by kernel_rfl) (fun _ _ _ h=>h) (Or.inl ⟨by kernel_rfl,?_⟩) hS ?_
    rotate_left
    ·intro W hW;(try dsimp only at hW);go_simp;first|done|with_reducible rfl
    simp only[Act.put,am,aw,ay]
    refine wpAnyH_take (i:=20) (v:= ?_) rfl (by kernel_rfl) (by kernel_rfl) (by kernel_rfl) (fun _ _ _ h=>h) (Or.inl ⟨by kernel_rfl,?_⟩) hS ?_
    rotate_left
    ·intro W hW;(try dsimp only at hW);go_simp;first|done|with_reducible rfl
    simp only[Act.put,am,aw,ay]
    refine wpAnyH_done (by kernel_rfl) ?_ _
    clear hS
    go_wp2
    first|go_end0|((try simp only[Exit.inBlock,Exit.then]);refine ap (av rfl _ _ _) rfl ?_)
    exact⟨rfl,by rw[ae HF];exact(ae HE).setState 8⟩
   ·have e0:(jk m.name==m.last)=false:=by simpa using hn
    have HF:=hide (ae HF2 hn)
    clear hn Qq HF2
    refine wpAnyH_take (i:=19) (v:= ?_) rfl (by kernel_rfl) (by kernel_rfl) (by kernel_rfl) (fun _ _ _ h=>h) (Or.inl ⟨by kernel_rfl,?_⟩) hS ?_
    rotate_left
    ·intro W hW;(try dsimp only at hW);go_simp;first|done|with_reducible rfl
    simp only[Act.put,am,aw,ay]
    refine wpAnyH_take (i:=20) (v:= ?_) rfl (by kernel_rfl) (by kernel_rfl) (by kernel_rfl) (fun _ _ _ h=>h) (Or.inl ⟨by kernel_rfl,?_⟩) hS ?_
    rotate_left
    ·intro W hW;(try dsimp only at hW);go_simp;first|done|with_reducible rfl
    simp only[Act.put,am,aw,ay]
    refine wpAnyH_done (by kernel_rfl) ?_ _
    clear hS
    go_wp2_with fail
    refine(Nn [60,47] (by decide) (ae H2)).mono ?_
    rintro e w4⟨rfl,h4⟩
    have h5:=h4.rep
    obtain⟨R4,q4⟩:=h5
    have u4:w4.cell? ⟨b,4,none⟩=some (.slice R4.text.a (say m [60,47]).text.length R4.text.cap):=q4.cell 4
    have u15:w4.cell? ⟨b,15,none⟩=some (.slice R4.buf.a m.buf.length R4.buf.cap):=q4.cell 15
    have uf:=q4.frozen
    have ult:=q4.obj.lt
    have HZ:=hide (vg (n:=(say m [60,47]).text.length+m.buf.length) (by have:=(ae H2).sz;unfold mj at this;simp[say,n8];omega))
    obtain⟨i0,hi,hz0,hz1,hz2⟩:=info_parts qa
    have hbr:(ck R4.buf m.buf).ok w4:=q4.F3
    clear h4
    go_wp2_with fail
    go_region_law(refine tu rfl (.tmp 73) (.tmp 77) 45 rfl 3 i0 _ 1 8 underlying45 hi hz0 hz1 hz2 rfl (by decide) R4.text.a (say m [60,47]).text.length R4.text.cap ((say m [60,47]).text.map (Value.int .i64)) (by simp[Act.eval]) (by repeat(first|exact q4.px|refine og ?_)) R4.buf.a m.buf.length R4.buf.cap (m.buf.map (Value.int .i64)) (by simp[Act.eval]) (by simp) (fun h0=>ze (w:=w4) hbr h0) (km _) (ae HZ).1 (ae HZ).2 ?_;intro Hv cap' w6 hown hgrow hfresh;obtain⟨hself,hT⟩:=q4.po (by repeat(first|exact More.refl _|refine More.drew ?_)) ((say m [60,47]).text++m.buf) ⟨Hv,cap'⟩ (by simpa[Item.ok,ck]using hown) hgrow hfresh (ny q4.ok.text q4.ok.buf);have e4:w6.cell? ⟨b,4,none⟩=some (.slice R4.text.a (say m [60,47]).text.length R4.text.cap):=bg hself 4;have ef:=bn hself)
    all_goals
     rw[aq]at hT
     have s5:=hT.cell 5
     have s6:=hT.cell 6
     have sf:=hT.frozen
     simp only[mc]at s5 s6
     have HE:=hide (hT.out.setState m.base)
     clear hT hown hgrow hfresh
     go_wp2
     first|go_end0|((try simp only[Exit.inBlock,Exit.then]);refine ap (av rfl _ _ _) rfl ?_)
     exact⟨rfl,by rw[ae HF];exact ae HE⟩
  ·have h62:=hb.resolve_left h47
   subst h62
   clear hb h47
   go_enter func183,ntmps183
   go_wp2_with fail
   refine(ae HLe _).mono ?_
   rintro e w1⟨rfl,hw1⟩
   rw[hw1]
   clear hw1
   go_wp2_with fail
   refine(ae HBl _).mono ?_
   rintro e w1⟨rfl,hw1⟩
   rw[hw1]
   clear hw1
   go_wp2_with fail
   refine wp_region_held_drew (S:=fun W=>W.cell? ⟨b,14,none⟩=some (.slice R.name.a m.name.length R.name.cap)∧W.cell? ⟨b,20,none⟩=some (.string ⟨m.last.toArray⟩)) (by kernel_rfl) ⟨cN,cL⟩ (fun hS=> ?_)
   refine wpAnyH_take (i:=0) (v:= ?_) rfl (by kernel_rfl) (by kernel_rfl) (by kernel_rfl) (fun _ _ _ h=>h) (Or.inl ⟨by kernel_rfl,?_⟩) hS ?_
   rotate_left
   ·intro W hW;(try dsimp only at hW);go_simp;first|done|with_reducible rfl
   simp only[Act.put,am,aw,ay]
   refine wpAnyH_take (i:=1) (v:= ?_) rfl (by kernel_rfl) (by kernel_rfl) (by kernel_rfl) (fun _ _ _ h=>h) (Or.inl ⟨by kernel_rfl,?_⟩) hS ?_
   rotate_left
   ·intro W hW;(try dsimp only at hW);go_simp;first|done|with_reducible rfl
   simp only[Act.put,am,aw,ay]
   refine wpAnyH_take (i:=2) (v:= ?_) rfl (by kernel_rfl) (by kernel_rfl) (by kernel_rfl) (fun _ _ _ h=>h) (Or.inl ⟨by kernel_rfl,?_⟩) hS ?_
   rotate_left
   ·intro W hW;(try dsimp only at hW);go_simp;first|done|with_reducible rfl
   simp only[Act.put,am,aw,ay]
   refine wpAnyH_take (i:=3) (v:= ?_) rfl (by kernel_rfl) (by kernel_rfl) (by kernel_rfl) (fun _ _ _ h=>h) (Or.inl ⟨by kernel_rfl,?_⟩) hS ?_
   rotate_left
   ·intro W hW;(try dsimp only at hW);go_simp;first|done|with_reducible rfl
   simp only[Act.put,am,aw,ay]
   refine wpAnyH_take (i:=4) (v:= ?_) rfl (by kernel_rfl) (by kernel_rfl) (by kernel_rfl) (fun _ _ _ h=>h) (Or.inl ⟨by kernel_rfl,?_⟩) hS ?_
   rotate_left
   ·intro W hW;(try dsimp only at hW);go_simp;first|done|with_reducible rfl
   simp only[Act.put,am,aw,ay]
   refine wpAnyH_take (i:=5) (v:= ?_) rfl (by kernel_rfl) (by kernel_rfl) (by kernel_rfl) (fun _ _ _ h=>h) (Or.inl ⟨by kernel_rfl,?_⟩) hS ?_
   rotate_left
   ·intro W hW;(try dsimp only at hW);go_simp;first|done|with_reducible rfl
   simp only[Act.put,am,aw,ay]
   refine wpAnyH_take (i:=6) (v:= ?_) rfl (by kernel_rfl) (by kernel_rfl) (by kernel_rfl) (fun _ _ _ h=>h) (Or.inl ⟨by kernel_rfl,?_⟩) hS ?_
   rotate_left
   ·intro W hW;(try dsimp only at hW);go_simp;first|done|with_reducible rfl
   simp only[Act.put,am,aw,ay]
   refine wpAnyH_take (i:=7) (v:= ?_) rfl (by kernel_rfl) (by kernel_rfl) (by kernel_rfl) (fun _ _ _ h=>h) (Or.inl ⟨by kernel_rfl,?_⟩) hS ?_
   rotate_left
   ·intro W hW;(try dsimp only at hW);go_simp;first|done|with_reducible rfl
   simp only[Act.put,am,aw,ay]
   refine wpAnyH_take (i:=8) (v:= ?_) rfl (by kernel_rfl) (by kernel_rfl) (by kernel_rfl) (fun _ _ _ h=>h) (Or.inl ⟨by kernel_rfl,?_⟩) hS ?_
   rotate_left
   ·intro W hW;(try dsimp only at hW);go_simp;first|done|with_reducible rfl
   simp only[Act.put,am,aw,ay]
   refine wpAnyH_take (i:=9) (v:= ?_) rfl (by kernel_rfl) (by kernel_rfl) (by kernel_rfl) (fun _ _ _ h=>h) (Or.inl ⟨by kernel_rfl,?_⟩) hS ?_
   rotate_left
   ·intro W hW;(try dsimp only at hW);go_simp;first|done|with_reducible rfl
   simp only[Act.put,am,aw,ay]
   refine wpAnyH_take (i:=10) (v:= ?_) rfl (by kernel_rfl) (by kernel_rfl) (by kernel_rfl) (fun _ _ _ h=>h) (Or.inl ⟨by kernel_rfl,?_⟩) hS ?_
   rotate_left
   ·intro W hW;(try dsimp only at hW);go_simp;first|done|with_reducible rfl
   simp only[Act.put,am,aw,ay]
   refine wpAnyH_take (i:=11) (v:= ?_) rfl (by kernel_rfl) (by kernel_rfl) (by kernel_rfl) (fun _ _ _ h=>h) (Or.inl ⟨by kernel_rfl,?_⟩) hS ?_
   rotate_left
   ·intro W hW;(try dsimp only at hW);go_simp;first|done|with_reducible rfl
   simp only[Act.put,am,aw,ay]
   refine wpAnyH_take (i:=12) (v:= ?_) rfl (by kernel_rfl) (by kernel_rfl) (by kernel_rfl) (fun _ _ _ h=>h) (Or.inl ⟨by kernel_rfl,?_⟩) hS ?_
   rotate_left
   ·intro W hW;(try dsimp only at hW);go_simp;first|done|with_reducible rfl
   simp only[Act.put,am,aw,ay]
   refine wpAnyH_take (i:=13) (v:= ?_) rfl (by kernel_rfl) (by kernel_rfl) (by kernel_rfl) (fun _ _ _ h=>h) (Or.inl ⟨by kernel_rfl,?_⟩) hS ?_
   rotate_left
   ·intro W hW;(try dsimp only at hW);go_simp;first|done|with_reducible rfl
   simp only[Act.put,am,aw,ay]
   refine wpAnyH_take (i:=15) (v:= ?_) rfl (by kernel_rfl) (by kernel_rfl) (by kernel_rfl) (fun _ _ _ h=>h) (Or.inl ⟨by kernel_rfl,?_⟩) hS ?_
   rotate_left
   ·intro W hW;(try dsimp only at hW);go_simp;first|done|with_reducible rfl
   simp only[Act.put,am,aw,ay]
   refine wpAnyH_take (i:=16) (v:= ?_) rfl (by kernel_rfl) (by kernel_rfl) (by kernel_rfl) (fun _ _ _ h=>h) (Or.inl ⟨by kernel_rfl,?_⟩) hS ?_
   rotate_left
   ·intro W hW;(try dsimp only at hW);go_simp;first|done|with_reducible rfl
   simp only[Act.put,am,aw,ay]
   refine wpAnyH_take (i:=17) (v:= ?_) rfl (by kernel_rfl) (by kernel_rfl) (by kernel_rfl) (fun _ _ _ h=>h) (Or.inl ⟨by kernel_rfl,?_⟩) hS ?_
   rotate_left
   ·intro W hW;(try dsimp only at hW);go_simp;first|done|with_reducible rfl
   simp only[Act.put,am,aw,ay]
   refine wpAnyH_take (i:=18) (v:= ?_) rfl (by kernel_rfl) (by kernel_rfl) (by kernel_rfl) (fun _ _ _ h=>h) (Or.inl ⟨by kernel_rfl,?_⟩) hS ?_
   rotate_left
   ·intro W hW;(try dsimp only at hW);go_simp;first|done|with_reducible rfl
   simp only[Act.put,am,aw,ay]
   refine wpAnyH_ready (rs:=[14]) (by kernel_rfl) (by simp) ?_
   refine AllReadyH.cons rfl (fun K hK=> ?_) AllReadyH.nil
   go_simp
   refine(ae HW _ ?_).mono ?_
   ·exact(More.refl w).drew
   rintro e w2⟨rfl,hm2⟩
   have d14:=(hm2.cell (o:=14) hlt).trans cN
   have d20:=(hm2.cell (o:=20) hlt).trans cL
   refine hK.out _ _ ⟨d14,d20⟩ (fun hS=> ?_)
   clear hK K
   have Wt:More w w2:=(More.refl w).drew.tr hm2
   have H2:Hid (Mz w0 aj b ex g 64 m w2):=hide ⟨(ae H0).rep.more Wt,(ae H0).sz,(ae H0).ps,(ae H0).gn⟩
   have g5:=(ae H2).c5
   have gf:=(ae H2).frozen
   clear hm2 HW
   by_cases hn:jk m.name=m.last
   ·have e0:(jk m.name==m.last)=true:=by simpa using hn
    have HE:=hide (ae H2).rep
    have HF:=hide (ae Qq hn)
    clear hn Qq HF2
    refine wpAnyH_take (i:=19) (v:= ?_) rfl (by kernel_rfl) (by kernel_rfl) (by kernel_rfl) (fun _ _ _ h=>h) (Or.inl ⟨by kernel_rfl,?_⟩) hS ?_
    rotate_left
    ·intro W hW;(try dsimp only at hW);go_simp;first|done|with_reducible rfl
    simp only[Act.put,am,aw,ay]
    refine wpAnyH_take (i:=20) (v:= ?_) rfl (by kernel_rfl) (by kernel_rfl) (by kernel_rfl) (fun _ _ _ h=>h) (Or.inl ⟨by kernel_rfl,?_⟩) hS ?_
    rotate_left
    ·intro W hW;(try dsimp only at hW);go_simp;first|done|with_reducible rfl
    simp only[Act.put,am,aw,ay]
    refine wpAnyH_done (by kernel_rfl) ?_ _
    clear hS
    go_wp2
    first|go_end0|((try simp only[Exit.inBlock,Exit.then]);refine ap (av rfl _ _ _) rfl ?_)
    exact⟨rfl,by rw[ae HF];exact(ae HE).setState 8⟩
   ·have e0:(jk m.name==m.last)=false:=by simpa using hn
    have HF:=hide (ae HF2 hn)
    clear hn Qq HF2
    refine wpAnyH_take (i:=19) (v:= ?_) rfl (by kernel_rfl) (by kernel_rfl) (by kernel_rfl) (fun _ _ _ h=>h) (Or.inl ⟨by kernel_rfl,?_⟩) hS ?_
    rotate_left
    ·intro W hW;(try dsimp only at hW);go_simp;first|done|with_reducible rfl
    simp only[Act.put,am,aw,ay]
    refine wpAnyH_take (i:=20) (v:= ?_) rfl (by kernel_rfl) (by kernel_rfl) (by kernel_rfl) (fun _ _ _ h=>h) (Or.inl ⟨by kernel_rfl,?_⟩) hS ?_
    rotate_left
    ·intro W hW;(try dsimp only at hW);go_simp;first|done|with_reducible rfl
    simp only[Act.put,am,aw,ay]
    refine wpAnyH_done (by kernel_rfl) ?_ _
    clear hS
    go_wp2_with fail
    refine(Nn [60,47] (by decide) (ae H2)).mono ?_
    rintro e w4⟨rfl,h4⟩
    have h5:=h4.rep
    obtain⟨R4,q4⟩:=h5
    have u4:w4.cell? ⟨b,4,none⟩=some (.slice R4.text.a (say m [60,47]).text.length R4.text.cap):=q4.cell 4
    have u15:w4.cell? ⟨b,15,none⟩=some (.slice R4.buf.a m.buf.length R4.buf.cap):=q4.cell 15
    have uf:=q4.frozen
    have ult:=q4.obj.lt
    have HZ:=hide (vg (n:=(say m [60,47]).text.length+m.buf.length) (by have:=(ae H2).sz;unfold mj at this;simp[say,n8];omega))
    obtain⟨i0,hi,hz0,hz1,hz2⟩:=info_parts qa
    have hbr:(ck R4.buf m.buf).ok w4:=q4.F3
    clear h4
    go_wp2_with fail
    go_region_law(refine tu rfl (.tmp 73) (.tmp 77) 45 rfl 3 i0 _ 1 8 underlying45 hi hz0 hz1 hz2 rfl (by decide) R4.text.a (say m [60,47]).text.length R4.text.cap ((say m [60,47]).text.map (Value.int .i64)) (by simp[Act.eval]) (by repeat(first|exact q4.px|refine og ?_)) R4.buf.a m.buf.length R4.buf.cap (m.buf.map (Value.int .i64)) (by simp[Act.eval]) (by simp) (fun h0=>ze (w:=w4) hbr h0) (km _) (ae HZ).1 (ae HZ).2 ?_;intro Hv cap' w6 hown hgrow hfresh;obtain⟨hself,hT⟩:=q4.po (by repeat(first|exact More.refl _|refine More.drew ?_)) ((say m [60,47]).text++m.buf) ⟨Hv,cap'⟩ (by simpa[Item.ok,ck]using hown) hgrow hfresh (ny q4.ok.text q4.ok.buf);have e4:w6.cell? ⟨b,4,none⟩=some (.slice R4.text.a (say m [60,47]).text.length R4.text.cap):=bg hself 4;have ef:=bn hself)
    all_goals
     rw[aq]at hT
     have s5:=hT.cell 5
     have s6:=hT.cell 6
     have sf:=hT.frozen
     simp only[mc]at s5 s6
     have HE:=hide (hT.out.setState m.base)
     clear hT hown hgrow hfresh
     go_wp2
     first|go_end0|((try simp only[Exit.inBlock,Exit.then]);refine ap (av rfl _ _ _) rfl ?_)
     exact⟨rfl,by rw[ae HF];exact ae HE⟩
end
section
variable{w0:World}{aj:Nat→Prop}{b:Nat}{m:MS}{ex:List Item}{w:World}{g:Bool}{k:Nat}
theorem zeo(c:Int)(hc:Pt c)(hst:m.state=7)(hl:br c=false)(hb:ba c=false)(h47:c≠47)(h62:c≠62)(h:Mz w0 aj b ex g 64 m w):
  Calls prog 183 #[.pointer (some ⟨b,0,none⟩),.int .i64 c] w fun e w'=>e= .returned (.tuple #[])∧Mk w0 aj b (less m c) ex w':=by
 have c5:=h.c5
 rw[hst,show qc 7=[76,69,83,83,78,65,77,69]from rfl]at c5
 rw[show less m c=st {say m [60,47]with text:=(say m [60,47]).text++m.buf} m.base by simp[less,hst,hl,hb,h47,h62]]
 obtain⟨R,hR⟩:=h.rep
 have cN:w.cell? ⟨b,14,none⟩=some (.slice R.name.a m.name.length R.name.cap):=hR.cell 14
 have cL:w.cell? ⟨b,20,none⟩=some (.string ⟨m.last.toArray⟩):=hR.cell 20
 have cf:=hR.frozen
 have hlt:=hR.obj.lt
 have HW:=hide (fun W(hm:More w W)=>pf R.name m.name W (Item.more hR.qx hm) hR.ok.name (by have:=h.sz;unfold mj at this;omega))
 have HLe:=hide (fun W=>nr c W)
 rw[hl]at HLe
 have HBl:=hide (fun W=>eo c W)
 have H0:=hide h
 have e47:(c==47)=false:=af.2 h47
 have e62:(c==62)=false:=af.2 h62
 rw[hb]at HBl
 clear h hl hst hR h47 h62 hb
 go_enter func183,ntmps183
 go_wp2_with fail
 refine(ae HLe _).mono ?_
 rintro e w1⟨rfl,hw1⟩
 rw[hw1]
 clear hw1
 go_wp2_with fail
 refine(ae HBl _).mono ?_
 rintro e w1⟨rfl,hw1⟩
 rw[hw1]
 clear hw1
 go_wp2_with fail
 refine wp_region_quiet_lit (by kernel_rfl) (by kernel_rfl) (pj.out ?_)
 iterate 10
  refine pj.step (fun K hK=> ?_)
  go_simp
  refine hK _ ?_
  clear hK K
 iterate 10 refine pj.skip (by kernel_rfl) ?_
 iterate 1
  refine pj.step (fun K hK=> ?_)
  go_simp
  refine hK _ ?_
  clear hK K
 refine⟨wpQuiet_nil ?_⟩
 intro _ hw'
 obtain⟨nq,hw''⟩:=hw'
 subst hw''
 have H2:Hid (Mz w0 aj b ex g 64 m (w.drewN nq)):=hide ⟨(ae H0).rep.more (qd w nq),(ae H0).sz,(ae H0).ps,(ae H0).gn⟩
 clear HW
 go_wp2_with fail
 refine(Nn [60,47] (by decide) (ae H2)).mono ?_
 rintro e w4⟨rfl,h4⟩
 have h5:=h4.rep
 obtain⟨R4,q4⟩:=h5
 have u4:w4.cell? ⟨b,4,none⟩=some (.slice R4.text.a (say m [60,47]).text.length R4.text.cap):=q4.cell 4
 have u15:w4.cell? ⟨b,15,none⟩=some (.slice R4.buf.a m.buf.length R4.buf.cap):=q4.cell 15
 have uf:=q4.frozen
 have ult:=q4.obj.lt
 have HZ:=hide (vg (n:=(say m [60,47]).text.length+m.buf.length) (by have:=(ae H2).sz;unfold mj at this;simp[say,n8];omega))
 obtain⟨i0,hi,hz0,hz1,hz2⟩:=info_parts qa
 have hbr:(ck R4.buf m.buf).ok w4:=q4.F3
 clear h4
 go_wp2_with fail
 go_region_law(refine tu rfl (.tmp 73) (.tmp 77) 45 rfl 3 i0 _ 1 8 underlying45 hi hz0 hz1 hz2 rfl (by decide) R4.text.a (say m [60,47]).text.length R4.text.cap ((say m [60,47]).text.map (Value.int .i64)) (by simp[Act.eval]) (by repeat(first|exact q4.px|refine og ?_)) R4.buf.a m.buf.length R4.buf.cap (m.buf.map (Value.int .i64)) (by simp[Act.eval]) (by simp) (fun h0=>ze (w:=w4) hbr h0) (km _) (ae HZ).1 (ae HZ).2 ?_;intro Hv cap' w6 hown hgrow hfresh;obtain⟨hself,hT⟩:=q4.po (by repeat(first|exact More.refl _|refine More.drew ?_)) ((say m [60,47]).text++m.buf) ⟨Hv,cap'⟩ (by simpa[Item.ok,ck]using hown) hgrow hfresh (ny q4.ok.text q4.ok.buf);have e4:w6.cell? ⟨b,4,none⟩=some (.slice R4.text.a (say m [60,47]).text.length R4.text.cap):=bg hself 4;have ef:=bn hself)
 all_goals
  rw[aq]at hT
  have s5:=hT.cell 5
  have s6:=hT.cell 6
  have sf:=hT.frozen
  simp only[mc]at s5 s6
  have HE:=hide (hT.out.setState m.base)
  clear hT hown hgrow hfresh
  go_wp2
  first|go_end0|((try simp only[Exit.inBlock,Exit.then]);refine ap (av rfl _ _ _) rfl ?_)
  exact⟨rfl,ae HE⟩
end
end Go.Proofs.YtdfmapcnfficlaaGreatDoor.M

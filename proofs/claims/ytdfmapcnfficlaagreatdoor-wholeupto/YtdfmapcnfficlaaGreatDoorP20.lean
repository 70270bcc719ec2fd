import Derived.Test.YtdfmapcnfficlaaGreatDoorP19
set_option linter.all false
set_option maxHeartbeats 1000000
set_option maxRecDepth 1000000
namespace Go.Proofs.YtdfmapcnfficlaaGreatDoor
open Go.Proofs.Tryz
open Go Go.RowKit
section
variable{w0:World}{aj:Nat→Prop}{b:Nat}{s:TS}{ex:List Item}{w:World}{R:n9}
def gd(s:TS)(l:Str):TS:={s with text:=s.text++l}
def tv(w:World)(b:Nat)(k:Int):World:=
 (((((w.setCell ⟨b,9,none⟩ (.int .i64 k)).setCell ⟨b,10,none⟩ (.slice none 0 0)).setCell ⟨b,11,none⟩ (.slice none 0 0)).setCell ⟨b,12,none⟩ (.slice none 0 0)).setCell ⟨b,13,none⟩ (.map none)).setCell ⟨b,14,none⟩ (.bool false)
theorem Ny{k:Int}(j:Nat)(hk:j≠b):(tv w b k).heap[j]? =w.heap[j]? :=by
 unfold tv
 rw[kj _ hk,kj _ hk,kj _ hk,kj _ hk,kj _ hk,kj _ hk]
theorem yu(h:Al w0 aj b s R ex w)(k:Int):Tk w0 aj b {s with tag:={kind:=k}} ex (tv w b k):=by
 have hself:(tv w b k).heap[b]? =some (.cells (cellsOf {s with tag:={kind:=k}} (So R)) 84 (0,0)):=by
  unfold tv
  rw[set_self (set_self (set_self (set_self (set_self (set_self h.1.self _ _) _ _) _ _) _ _) _ _)]
  rfl
 refine⟨⟨So R,?_⟩,?_⟩
 ·refine h.1.anew hself (fun k hk=>Ny k hk) ([cq R.text s.text,cq R.comment s.comment,cq R.jw s.jw,⟨34,6,R.told.a,s.told.length,R.told.cap,eh s.told R.cz⟩]++cw s.told R.cz++ex) (r9 s R) [cq ⟨none,0⟩ [],cq ⟨none,0⟩ [],⟨210,3,none,0,0,[]⟩] (H7 _ _ _ _ _ _ _ _ _ _) ?_ ?_ (.inr ⟨rfl,rfl⟩) rfl rfl h.1.lt
  ·intro it hi
   simp only[List.mem_cons,List.not_mem_nil,or_false]at hi
   rcases hi with rfl|rfl|rfl
   ·exact⟨q9 w,rfl⟩
   ·exact⟨q9 w,rfl⟩
   ·exact⟨World.ownsRow_nil w 0 210 3,rfl⟩
  ·exact H7 (cq R.text s.text) (cq ⟨none,0⟩ []) (cq ⟨none,0⟩ []) ⟨210,3,none,0,0,[]⟩ (cq R.comment s.comment) (cq R.jw s.jw) ⟨34,6,R.told.a,s.told.length,R.told.cap,eh s.told R.cz⟩ [] (cw s.told R.cz) ex
 ·exact((((((h.2.setCell _ _ h.1.ownB).setCell _ _ h.1.ownB).setCell _ _ h.1.ownB).setCell _ _ h.1.ownB).setCell _ _ h.1.ownB).setCell _ _ h.1.ownB)
theorem xg(h:Al w0 aj b s R ex w):w.cell? ⟨b,8,none⟩=some (.slice R.text.a s.text.length R.text.cap):=h.1.cell _
theorem px(h:Al w0 aj b s R ex w):w.ownsRow 0 5 1 (.slice R.text.a s.text.length R.text.cap) s.text.length (byteCells s.text):=h.1.rows.ok (cq R.text s.text) (by simp[fe])
theorem Ew{l:Str}(h:sz s+l.length≤lim):s.text.length+(⟨l.toArray⟩:ByteArray).size≤maxLen:=by
 rw[Eh];unfold sz at h;exact(Uf (by omega)).1
theorem Ce{l:Str}(h:sz s+l.length≤lim):s.text.length+(⟨l.toArray⟩:ByteArray).size≤140737488355328:=by
 rw[Eh];unfold sz at h;exact(Uf (by omega)).2
theorem Ay(h:Al w0 aj b s R ex w)(l:Str)(Hv:Option Addr)(cap':Nat){w':World}(hown:w'.ownsRow 0 5 1 (.slice Hv (s.text.length+l.length) cap') (s.text.length+l.length) (byteCells s.text++Lib.strCells ⟨l.toArray⟩))(hg:w.grownBy w' (R.text.a.map (·.block)))(hf:o0 w R.text.a Hv):
  w'.heap[b]? =some (.cells (cellsOf s R) 84 (0,0))∧Tk w0 aj b (gd s l) ex (w'.setCell ⟨b,8,none⟩ (.slice Hv (s.text.length+l.length) cap')):=by
 rw[Eg]at hown
 obtain⟨h1,h2⟩:=h.1.po h.2 (More.refl w) (s.text++l) ⟨Hv,cap'⟩ (by simpa[Item.ok,cq,byteCells]using hown) hg hf
 simp only[aq]at h2
 exact⟨h1,h2⟩
def ju(s:TS)(c:Int):Int×TS:=
 if c=33 then(0,{s with state:=18})else
 if c=47 then(0,{s with state:=4})else
 if br c=true then(1,{{s with tag:={kind:=1}}with state:=8})else
 if c=63 then(1,{(wrong s [113,117,101,115,116,105,111,110])with state:=19})else
 if c= -1 then(0,(gd (wrong s [101,110,100,45,105,110,45,116,97,103]) [60]))else
 (1,{(gd (wrong s [102,105,114,115,116]) [60])with state:=0})
theorem L3(c:Int)(hc:Rn c)(h:Tk w0 aj b s ex w)(hs:sz s+12≤lim):
  Calls prog 128 #[.pointer (some ⟨b,0,none⟩),.int .i32 c] w fun e w'=>e= .returned (.int .i64 (ju s c).1)∧Tk w0 aj b (ju s c).2 ex w':=by
 have HS:=hide hs
 clear hs
 obtain⟨i0,hi,hz0,hz1,hz2⟩:=info_parts Tryz.infoByte
 by_cases n33:c=33
 ·have y:=n33
  clear n33
  subst y
  have hfin:ju s 33=(0,{s with state:=18}):=by simp[ju]
  rw[hfin]
  clear hfin
  go_enter func128,ntmps128
  go_wp2_with fail
  refine(mr 18 h).mono ?_
  rintro e w2⟨rfl,h1⟩
  go_wp2
  go_ret
  exact⟨rfl,h1⟩
 by_cases n47:c=47
 ·have y:=n47
  clear n47
  subst y
  have hfin:ju s 47=(0,{s with state:=4}):=by simp[ju,n33]
  rw[hfin]
  clear hfin
  have e33:((47:Int)==33)=false:=af.2 n33
  clear n33
  go_enter func128,ntmps128
  go_wp2_with fail
  refine(mr 4 h).mono ?_
  rintro e w2⟨rfl,h1⟩
  go_wp2
  go_ret
  exact⟨rfl,h1⟩
 by_cases k9:br c=true
 ·have y:=k9
  clear k9
  have hfin:ju s c=(1,{{s with tag:={kind:=1}}with state:=8}):=by simp[ju,n33,n47,y]
  rw[hfin]
  clear hfin
  have e33:((c:Int)==33)=false:=af.2 n33
  have e47:((c:Int)==47)=false:=af.2 n47
  clear n33
  clear n47
  go_enter func128,ntmps128
  go_wp2_with fail
  refine(lb c _ hc).mono ?_
  rintro e w1⟨rfl,rfl⟩
  obtain⟨R1,uu⟩:=Tk.reg h
  have zg5:=uu.1.cell 9
  have zg6:=uu.1.cell 10
  have zg7:=uu.1.cell 11
  have zg8:=uu.1.cell 12
  have zg9:=uu.1.cell 13
  have zha:=uu.1.cell 14
  have f1:=uu.1.frozen
  simp only[cellsOf]at zg5 zg6 zg7 zg8 zg9 zha
  have h1:=yu uu 1
  unfold tv at h1
  go_wp2_with fail
  refine(ic 8 h1).mono ?_
  rintro e w3⟨rfl,h2⟩
  go_wp2
  go_ret
  exact⟨rfl,h2⟩
 by_cases n63:c=63
 ·have y:=n63
  clear n63
  subst y
  have hfin:ju s 63=(1,{(wrong s [113,117,101,115,116,105,111,110])with state:=19}):=by simp[ju,n33,n47,k9]
  rw[hfin]
  clear hfin
  have e33:((63:Int)==33)=false:=af.2 n33
  have e47:((63:Int)==47)=false:=af.2 n47
  have ug:br 63=false:=az.2 k9
  clear n33
  clear n47
  clear k9
  go_enter func128,ntmps128
  go_wp2_with fail
  refine(lb 63 _ hc).mono ?_
  rintro e w1⟨rfl,rfl⟩
  go_wp2_with fail
  refine(mb [113,117,101,115,116,105,111,110] h (by have:=ae HS;first|omega|(simp only[bw,d8,bd,cr,ai,ak];omega))).mono ?_
  rintro e w2⟨rfl,h1⟩
  go_wp2_with fail
  refine(ic 19 h1).mono ?_
  rintro e w3⟨rfl,h2⟩
  go_wp2
  go_ret
  exact⟨rfl,h2⟩
 by_cases nc:c= -1
 ·have y:=nc
  clear nc
  subst y
  have hfin:ju s (-1)=(0,(gd (wrong s [101,110,100,45,105,110,45,116,97,103]) [60])):=by simp[ju,n33,n47,k9,n63]
  rw[hfin]
  clear hfin
  have e33:((-1:Int)==33)=false:=af.2 n33
  have e47:((-1:Int)==47)=false:=af.2 n47
  have ug:br (-1)=false:=az.2 k9
  have e63:((-1:Int)==63)=false:=af.2 n63
  clear n33
  clear n47
  clear k9
  clear n63
  go_enter func128,ntmps128
  go_wp2_with fail
  refine(lb (-1) _ hc).mono ?_
  rintro e w1⟨rfl,rfl⟩
  go_wp2_with fail
  refine(mb [101,110,100,45,105,110,45,116,97,103] h (by have:=ae HS;first|omega|(simp only[bw,d8,bd,cr,ai,ak];omega))).mono ?_
  rintro e w2⟨rfl,h1⟩
  obtain⟨R2,hR2⟩:=Tk.reg h1
  have c2:=xg hR2
  have f2:=hR2.1.frozen
  have X2:=hide (px hR2)
  have Y2:=hide (And.intro (Ew (s:=(wrong s [101,110,100,45,105,110,45,116,97,103])) (l:=[60]) (by have:=ae HS;first|(simp only[ai,ak];omega)|(simp only[bw,ai,ak];omega))) (Ce (s:=(wrong s [101,110,100,45,105,110,45,116,97,103])) (l:=[60]) (by have:=ae HS;first|(simp only[ai,ak];omega)|(simp only[bw,ai,ak];omega))))
  go_wp2_with(at_builtin;refine pd _ rfl _ _ 74 9 rfl 5 i0 underlying74 underlying9 hi hz0 hz1 hz2 R2.text.a ((wrong s [101,110,100,45,105,110,45,116,97,103])).text.length R2.text.cap (byteCells ((wrong s [101,110,100,45,105,110,45,116,97,103])).text) rfl (ae X2) ⟨([60]:Str).toArray⟩ rfl (ae Y2).1 (ae Y2).2 ?_)
  intro ao2 cap2 w3 hown2 hgrow2 Bn
  obtain⟨xy,h2⟩:=Ay hR2 [60] ao2 cap2 (by simpa using hown2) hgrow2 Bn
  have dc2:=bg xy 8
  have df2:=bn xy
  simp only[cellsOf]at dc2
  clear hown2 hgrow2 Bn
  go_wp2
  go_ret
  exact⟨rfl,h2⟩
 have hfin:ju s c=(1,{(gd (wrong s [102,105,114,115,116]) [60])with state:=0}):=by simp[ju,n33,n47,k9,n63,nc]
 rw[hfin]
 clear hfin
 have e33:((c:Int)==33)=false:=af.2 n33
 have e47:((c:Int)==47)=false:=af.2 n47
 have ug:br c=false:=az.2 k9
 have e63:((c:Int)==63)=false:=af.2 n63
 have Cz:((c:Int)== -1)=false:=af.2 nc
 clear n33
 clear n47
 clear k9
 clear n63
 clear nc
 go_enter func128,ntmps128
 go_wp2_with fail
 refine(lb c _ hc).mono ?_
 rintro e w1⟨rfl,rfl⟩
 go_wp2_with fail
 refine(mb [102,105,114,115,116] h (by have:=ae HS;first|omega|(simp only[bw,d8,bd,cr,ai,ak];omega))).mono ?_
 rintro e w2⟨rfl,h1⟩
 obtain⟨R2,hR2⟩:=Tk.reg h1
 have c2:=xg hR2
 have f2:=hR2.1.frozen
 have X2:=hide (px hR2)
 have Y2:=hide (And.intro (Ew (s:=(wrong s [102,105,114,115,116])) (l:=[60]) (by have:=ae HS;first|(simp only[ai,ak];omega)|(simp only[bw,ai,ak];omega))) (Ce (s:=(wrong s [102,105,114,115,116])) (l:=[60]) (by have:=ae HS;first|(simp only[ai,ak];omega)|(simp only[bw,ai,ak];omega))))
 go_wp2_with(at_builtin;refine pd _ rfl _ _ 74 9 rfl 5 i0 underlying74 underlying9 hi hz0 hz1 hz2 R2.text.a ((wrong s [102,105,114,115,116])).text.length R2.text.cap (byteCells ((wrong s [102,105,114,115,116])).text) rfl (ae X2) ⟨([60]:Str).toArray⟩ rfl (ae Y2).1 (ae Y2).2 ?_)
 intro ao2 cap2 w3 hown2 hgrow2 Bn
 obtain⟨xy,h2⟩:=Ay hR2 [60] ao2 cap2 (by simpa using hown2) hgrow2 Bn
 have dc2:=bg xy 8
 have df2:=bn xy
 simp only[cellsOf]at dc2
 clear hown2 hgrow2 Bn
 go_wp2_with fail
 refine(ic 0 h2).mono ?_
 rintro e w4⟨rfl,h3⟩
 go_wp2
 go_ret
 exact⟨rfl,h3⟩
def kb(s:TS)(c:Int):Int×TS:=
 if br c=true then(1,{{s with tag:={kind:=2}}with state:=8})else
 if c=62 then(0,{(wrong s [110,111,45,110,97,109,101])with state:=0})else
 if c= -1 then(0,(gd (wrong s [101,110,100,45,105,110,45,116,97,103]) [60,47]))else
 (1,{(wrong s [102,105,114,115,116])with state:=19})
theorem J0(c:Int)(hc:Rn c)(h:Tk w0 aj b s ex w)(hs:sz s+12≤lim):
  Calls prog 129 #[.pointer (some ⟨b,0,none⟩),.int .i32 c] w fun e w'=>e= .returned (.int .i64 (kb s c).1)∧Tk w0 aj b (kb s c).2 ex w':=by
 have HS:=hide hs
 clear hs
 obtain⟨i0,hi,hz0,hz1,hz2⟩:=info_parts Tryz.infoByte
 by_cases k9:br c=true
 ·have y:=k9
  clear k9
  have hfin:kb s c=(1,{{s with tag:={kind:=2}}with state:=8}):=by simp[kb,y]
  rw[hfin]
  clear hfin
  go_enter func129,ntmps129
  go_wp2_with fail
  refine(lb c _ hc).mono ?_
  rintro e w1⟨rfl,rfl⟩
  obtain⟨R1,uu⟩:=Tk.reg h
  have zg5:=uu.1.cell 9
  have zg6:=uu.1.cell 10
  have zg7:=uu.1.cell 11
  have zg8:=uu.1.cell 12
  have zg9:=uu.1.cell 13
  have zha:=uu.1.cell 14
  have f1:=uu.1.frozen
  simp only[cellsOf]at zg5 zg6 zg7 zg8 zg9 zha
  have h1:=yu uu 2
  unfold tv at h1
  go_wp2_with fail
  refine(ic 8 h1).mono ?_
  rintro e w3⟨rfl,h2⟩
  go_wp2
  go_ret
  exact⟨rfl,h2⟩
 by_cases n62:c=62
 ·have y:=n62
  clear n62
  subst y
  have hfin:kb s 62=(0,{(wrong s [110,111,45,110,97,109,101])with state:=0}):=by simp[kb,k9]
  rw[hfin]
  clear hfin
  have ug:br 62=false:=az.2 k9
  clear k9
  go_enter func129,ntmps129
  go_wp2_with fail
  refine(lb 62 _ hc).mono ?_
  rintro e w1⟨rfl,rfl⟩
  go_wp2_with fail
  refine(mb [110,111,45,110,97,109,101] h (by have:=ae HS;first|omega|(simp only[bw,d8,bd,cr,ai,ak];omega))).mono ?_
  rintro e w2⟨rfl,h1⟩
  go_wp2_with fail
  refine(mr 0 h1).mono ?_
  rintro e w3⟨rfl,h2⟩
  go_wp2
  go_ret
  exact⟨rfl,h2⟩
 by_cases nc:c= -1
 ·have y:=nc
  clear nc
  subst y
  have hfin:kb s (-1)=(0,(gd (wrong s [101,110,100,45,105,110,45,116,97,103]) [60,47])):=by simp[kb,k9,n62]
  rw[hfin]
  clear hfin
  have ug:br (-1)=false:=az.2 k9
  have e62:((-1:Int)==62)=false:=af.2 n62
  clear k9
  clear n62
  go_enter func129,ntmps129
  go_wp2_with fail
  refine(lb (-1) _ hc).mono ?_
  rintro e w1⟨rfl,rfl⟩
  go_wp2_with fail
  refine(mb [101,110,100,45,105,110,45,116,97,103] h (by have:=ae HS;first|omega|(simp only[bw,d8,bd,cr,ai,ak];omega))).mono ?_
  rintro e w2⟨rfl,h1⟩
  obtain⟨R2,hR2⟩:=Tk.reg h1
  have c2:=xg hR2
  have f2:=hR2.1.frozen
  have X2:=hide (px hR2)
  have Y2:=hide (And.intro (Ew (s:=(wrong s [101,110,100,45,105,110,45,116,97,103])) (l:=[60,47]) (by have:=ae HS;first|(simp only[ai,ak];omega)|(simp only[bw,ai,ak];omega))) (Ce (s:=(wrong s [101,110,100,45,105,110,45,116,97,103])) (l:=[60,47]) (by have:=ae HS;first|(simp only[ai,ak];omega)|(simp only[bw,ai,ak];omega))))
  go_wp2_with(at_builtin;refine pd _ rfl _ _ 74 9 rfl 5 i0 underlying74 underlying9 hi hz0 hz1 hz2 R2.text.a ((wrong s [101,110,100,45,105,110,45,116,97,103])).text.length R2.text.cap (byteCells ((wrong s [101,110,100,45,105,110,45,116,97,103])).text) rfl (ae X2) ⟨([60,47]:Str).toArray⟩ rfl (ae Y2).1 (ae Y2).2 ?_)
  intro ao2 cap2 w3 hown2 hgrow2 Bn
  obtain⟨xy,h2⟩:=Ay hR2 [60,47] ao2 cap2 (by simpa using hown2) hgrow2 Bn
  have dc2:=bg xy 8
  have df2:=bn xy
  simp only[cellsOf]at dc2
  clear hown2 hgrow2 Bn
  go_wp2
  go_ret
  exact⟨rfl,h2⟩
 have hfin:kb s c=(1,{(wrong s [102,105,114,115,116])with state:=19}):=by simp[kb,k9,n62,nc]
 rw[hfin]
 clear hfin
 have ug:br c=false:=az.2 k9
 have e62:((c:Int)==62)=false:=af.2 n62
 have Cz:((c:Int)== -1)=false:=af.2 nc
 clear k9
 clear n62
 clear nc
 go_enter func129,ntmps129
 go_wp2_with fail
 refine(lb c _ hc).mono ?_
 rintro e w1⟨rfl,rfl⟩
 go_wp2_with fail
 refine(mb [102,105,114,115,116] h (by have:=ae HS;first|omega|(simp only[bw,d8,bd,cr,ai,ak];omega))).mono ?_
 rintro e w2⟨rfl,h1⟩
 go_wp2_with fail
 refine(ic 19 h1).mono ?_
 rintro e w3⟨rfl,h2⟩
 go_wp2
 go_ret
 exact⟨rfl,h2⟩
def jy(s:TS)(l:Str):Int×TS:=(1,{gd s l with state:=s.base})
theorem yv(s:TS)(l:Str):sz (gd s l)=sz s+l.length:=by simp[sz,gd];omega
theorem r6(l:Str)(h:Tk w0 aj b s ex w)(hs:sz s+l.length≤lim):
  Calls prog 193 #[.pointer (some ⟨b,0,none⟩),.string ⟨l.toArray⟩] w fun e w'=>e= .returned (.int .i64 (jy s l).1)∧Tk w0 aj b (jy s l).2 ex w':=by
 obtain⟨i0,hi,hz0,hz1,hz2⟩:=info_parts Tryz.infoByte
 obtain⟨R,hR⟩:=h.reg
 have c1:=xg hR
 have f1:=hR.1.frozen
 have X1:=hide (px hR)
 have Y1:=hide (And.intro (Ew (s:=s) (l:=l) hs) (Ce (s:=s) (l:=l) hs))
 clear hs h
 go_enter func193,ntmps193
 go_wp2_with(at_builtin;refine pd _ rfl _ _ 74 9 rfl 5 i0 underlying74 underlying9 hi hz0 hz1 hz2 R.text.a s.text.length R.text.cap (byteCells s.text) rfl (ae X1) ⟨l.toArray⟩ rfl (ae Y1).1 (ae Y1).2 ?_)
 intro ao1 za8 w1 hown hgrow hfresh
 obtain⟨hself,h1⟩:=Ay hR l ao1 za8 (by simpa using hown) hgrow hfresh
 have dc:=bg hself 8
 have db:=bg hself 6
 have df:=bn hself
 simp only[cellsOf]at dc db
 clear hown hgrow hfresh
 go_wp2_with fail
 refine(ic s.base h1).mono ?_
 rintro e w2⟨rfl,h2⟩
 go_wp2
 go_ret
 exact⟨rfl,h2⟩
end
end Go.Proofs.YtdfmapcnfficlaaGreatDoor

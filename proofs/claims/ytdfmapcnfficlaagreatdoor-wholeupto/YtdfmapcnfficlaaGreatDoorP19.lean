import Derived.Test.YtdfmapcnfficlaaGreatDoorP05
set_option linter.all false
set_option maxHeartbeats 2000000
set_option maxRecDepth 1000000
namespace Go.Proofs.YtdfmapcnfficlaaGreatDoor
open Go.Proofs.Tryz
open Go Go.RowKit
section
variable{w0:World}{aj:Nat→Prop}{b:Nat}{s:TS}{ex:List Item}{w:World}{R:n9}
theorem Rc(h:Tk w0 aj b s ex w)(hk:s.tag.kind=1)(hne:s.tag.cy≠[])(hs:sz s+4≤lim):
  Calls prog 199 #[.pointer (some ⟨b,0,none⟩)] w fun e w'=>e= .returned (.int .i64 0)∧Tk w0 aj b (startTag s) ex w':=by
 obtain⟨R,hR⟩:=h.reg
 obtain⟨g,hg,hcap,_⟩:=Sm hR.1 hne
 have d0:w.cell? ⟨b,9,none⟩=some (.int .i64 1):=by rw[hR.1.cell,←hk];rfl
 have d1:w.cell? ⟨b,10,none⟩=some (.slice R.fi.a s.tag.name.length R.fi.cap):=hR.1.cell _
 have d2:w.cell? ⟨b,11,none⟩=some (.slice R.buffer.a s.tag.buffer.length R.buffer.cap):=hR.1.cell _
 have d3:w.cell? ⟨b,12,none⟩=some (.slice (some ⟨g,0,none⟩) s.tag.cy.length R.cy.cap):=by rw[←hg];exact hR.1.cell _
 have d4:w.cell? ⟨b,13,none⟩=some (.map R.names):=hR.1.cell _
 have d5:w.cell? ⟨b,14,none⟩=some (.bool s.tag.closes):=hR.1.cell _
 have df:=hR.1.frozen
 have hlt:=hR.1.yh
 have hT:=Am hR
 have hcv:=oe (r:=R.fi) (l:=s.tag.name) (hT.1.rows.ok (cq R.fi s.tag.name) (List.mem_append_right _ (List.mem_append_left _ (by simp[r9]))))
 have hAt:Jm (copied w b s R) g s.tag.cy R.kg R.jb:=zd4 (hT.1.rows.ok (k8 s R) (List.mem_append_right _ (List.mem_append_left _ (by simp[r9])))) (fun it hi=>hT.1.rows.ok it (List.mem_append_right _ (List.mem_append_left _ (by simp[r9,hi])))) hR.1.la hR.1.lv hg
 have hX:=qb (Ca hT)
 have HZ:Hid ((rg s).told.length+1≤lim):=hide (by unfold sz at hs;simp[rg];omega)
 have hB:(copied w b s R).drew.cell? ⟨w.heap.size,5,none⟩=some (.bool s.tag.closes):=by rw[Jn,Ha];simp[pu]
 have hSz:w.heap.size<(copied w b s R).drew.heap.size:=by show _<(copied w b s R).heap.size;rw[W7];omega
 have HN:Hid (Calls prog 238 #[.pointer (some ⟨w.heap.size,0,none⟩)] (copied w b s R).drew fun e w'=>∃x:Sl,e= .returned (.slice x.a (mu s.tag.cy).length x.cap)∧Tk w0 aj b (rg s) (lr x (mu s.tag.cy)::ex) w'∧w'.cell? ⟨w.heap.size,5,none⟩=some (.bool s.tag.closes)):=by
  refine hide ((zao (copied w b s R).drew w.heap.size g R.cy.cap s.tag.cy R.kg R.jb (by rw[Jn,Ha];simp[pu,hg]) (hAt.more (More.refl _).drew) hSz (by unfold sz at hs;omega) hcap).mono ?_)
  rintro e w'⟨x,rfl,hm,hok,hfr⟩
  exact⟨x,rfl,(Ni hX hm hok hfr).tk,by rw[fk (w:=(copied w b s R).drew) (hm.block _ hSz)];exact hB⟩
 unfold startTag
 generalize hat:mu s.tag.cy=ats at HN⊢
 simp only[copied,qr,pu,hk,hg]at hcv HN
 clear h hs hT hR hk hne hat hAt hg hcap hX hB hSz
 go_enter func199,ntmps199
 go_wp2_with fail
 go_region_with(first
  |(go_at_call 238;refine(ae HN).mono ?_;rintro e w1⟨x,rfl,hx,b5⟩;have HTe:=hide (qq (ex:=ex) {kind:=1,name:=s.tag.name,attrs:=ats,flag:=s.tag.closes} x hx (ae HZ));clear hx;simp only[fq]at HTe)
  |(go_at_call 37;refine(ae HTe).mono ?_;rintro e w2⟨rfl,h2⟩))
 all_goals
  obtain⟨R2,hR2⟩:=h2.reg
  have e1:=hR2.1.cell 15
  have ef:=hR2.1.frozen
  simp only[cellsOf]at e1
  have h3:Tk w0 aj b {tell (rg s) {kind:=1,name:=s.tag.name,attrs:=ats,flag:=s.tag.closes}with lastStart:=s.tag.name} ex (w2.setCell ⟨b,15,none⟩ (.string ⟨s.tag.name.toArray⟩)):=⟨⟨R2,hR2.1.setCell 15 _ rfl rfl rfl rfl rfl⟩,hR2.2.setCell 15 _ hR2.1.ownB⟩
  go_wp2_with fail
  refine(Cb s.tag.name _).mono ?_
  rintro e w3⟨rfl,rfl⟩
  go_wp2_with fail
  refine(xf (kh s.tag.name) h3).mono ?_
  rintro e w4⟨rfl,h4⟩
  go_wp2
  go_ret
  exact⟨rfl,h4⟩
end
section
variable{w0:World}{aj:Nat→Prop}{b:Nat}{s:TS}{ex:List Item}{w:World}{R:n9}
def y9(g:Nat)(s:TS)(R:n9):Item:=⟨78,6,some ⟨g,0,none⟩,1,1,(pu s R).toList⟩
theorem C4(h:Al w0 aj b s R ex w):Al w0 aj b (rg s) (So R) (y9 w.heap.size s R::(r9 s R++ex)) (copied w b s R):=by
 have hsz:(qr w b).heap.size=w.heap.size:=by simp[qr,World.setCell]
 refine Ni (El h) ((More.refl _).alloc _) ?_ ?_
 ·refine⟨by simp[y9,pu],.inr ⟨w.heap.size,1,pu s R,rfl,da _,?_,by simp[y9],by simp[maxLen],by simp[y9,pu],by simp[y9,pu]⟩⟩
  have:=heap_alloc_new (qr w b) (.cells (pu s R) 78)
  rw[hsz]at this
  exact this
 ·intro k hk
  simp[Item.blk,y9]at hk
  omega
theorem Xw{g:Nat}{s':TS}{R':n9}(h:ld w (fun k=>aj k∨w0.heap.size≤k) b s' R' (y9 g s R::ex))(i:Nat)(u:Value)(hu:(pu s R)[i]? =some u):w.cell? ⟨g,i,none⟩=some u:=by
 have hok:=h.rows.ok (y9 g s R) (by simp)
 have:=World.ownsRow.cells hok (g:=g) (by simp[y9,Value.ownBlock]) i u (by simpa[y9]using hu)
 have hadd:(⟨g,0,none⟩:Addr).add i=⟨g,i,none⟩:=by unfold Addr.add;split<;>simp_all
 rw[hadd]at this
 exact this
theorem C5{it:Item}(h:Tk w0 aj b s (it::ex) w):Tk w0 aj b s ex w:=by
 obtain⟨R,hR⟩:=h.reg
 exact(Ca (l:=[it]) hR).tk
theorem C6{it:Item}{l:List Item}(h:Al w0 aj b s R (it::(l++ex)) w):Al w0 aj b s R (it::ex) w:=by
 refine⟨⟨h.1.self,h.1.ownB,?_,h.1.map,h.1.sj,h.1.la,h.1.lv,h.1.lt⟩,h.2⟩
 refine h.1.rows.less (fe s R++it::ex) l [] ?_ (by simp) (by simp)
 rw[fm]
 refine List.Perm.append_left _ ?_
 exact List.Perm.cons _ List.perm_append_comm
theorem C7{w0:World}{aj:Nat→Prop}{b:Nat}{s:TS}{ex:List Item}{w:World}(t:Tok)(ht:t.attrs=[])(h:Tk w0 aj b s ex w)(hs:sz s+1≤lim):
  Calls prog 37 #[.pointer (some ⟨b,0,none⟩),.agg #[.int .i64 t.kind,.string ⟨t.name.toArray⟩,.slice none 0 0,.string ⟨t.text.toArray⟩,.bool t.flag,.int .i64 t.place]] w fun e w'=>e= .returned (.tuple #[])∧Tk w0 aj b (tell s t) ex w':=by
 obtain⟨R,hR⟩:=h.reg
 have:=qq (ex:=ex) t ⟨none,0⟩ (by rw[ht];exact Al.tk ⟨hR.1.bare,hR.2⟩) (by unfold sz at hs;omega)
 simpa only[fq,ht,ak]using this
theorem Ib(s:TS):sz (rg s)≤sz s:=by simp[sz,rg,tp];omega
theorem zet(h:Tk w0 aj b s ex w)(hk:s.tag.kind≠1)(hne:s.tag.cy=[])(hcl:s.tag.closes=false)(hs:sz s+6≤lim):
  Calls prog 199 #[.pointer (some ⟨b,0,none⟩)] w fun e w'=>e= .returned (.int .i64 0)∧Tk w0 aj b (ti s) ex w':=by
 obtain⟨R,hR⟩:=h.reg
 have d0:w.cell? ⟨b,9,none⟩=some (.int .i64 s.tag.kind):=hR.1.cell _
 have d1:w.cell? ⟨b,10,none⟩=some (.slice R.fi.a s.tag.name.length R.fi.cap):=hR.1.cell _
 have d2:w.cell? ⟨b,11,none⟩=some (.slice R.buffer.a s.tag.buffer.length R.buffer.cap):=hR.1.cell _
 have d3:w.cell? ⟨b,12,none⟩=some (.slice R.cy.a s.tag.cy.length R.cy.cap):=hR.1.cell _
 have d4:w.cell? ⟨b,13,none⟩=some (.map R.names):=hR.1.cell _
 have d5:w.cell? ⟨b,14,none⟩=some (.bool false):=by rw[hR.1.cell,←hcl];rfl
 have df:=hR.1.frozen
 have hlt:=hR.1.yh
 have hT:=Am hR
 have hcv:=oe (r:=R.fi) (l:=s.tag.name) (hT.1.rows.ok (cq R.fi s.tag.name) (List.mem_append_right _ (List.mem_append_left _ (by simp[r9]))))
 have h0:=(C6 (C4 hR)).tk
 have ek:(s.tag.kind==1)=false:=af.2 hk
 have hal:s.tag.cy.length=0:=by rw[hne];rfl
 have hfin:ti s={tell (rg s) {kind:=2,name:=s.tag.name}with base:=0,state:=0}:=by simp[ti,hne,hcl]
 rw[hfin]
 have HS:Hid (sz (rg s)+6≤lim):=hide (by have:=Ib s;omega)
 have HC:=hide hcl
 simp only[copied,qr,pu,hcl,hal]at hcv h0
 rw[hal]at d3
 clear hfin h hs hT hR hk hcl hne hal
 go_enter func199,ntmps199
 go_wp2_with fail
 refine(C7 {kind:=2,name:=s.tag.name} rfl h0 (by have:=ae HS;first|omega|(simp only[bw];omega))).mono ?_
 rintro e w8⟨rfl,h8⟩
 go_wp2_with fail
 refine(xf 0 h8).mono ?_
 rintro e w9⟨rfl,h9⟩
 go_wp2
 go_ret
 exact⟨rfl,C5 h9⟩
theorem zeu(h:Tk w0 aj b s ex w)(hk:s.tag.kind≠1)(hne:s.tag.cy=[])(hcl:s.tag.closes=true)(hs:sz s+6≤lim):
  Calls prog 199 #[.pointer (some ⟨b,0,none⟩)] w fun e w'=>e= .returned (.int .i64 0)∧Tk w0 aj b (ti s) ex w':=by
 obtain⟨R,hR⟩:=h.reg
 have d0:w.cell? ⟨b,9,none⟩=some (.int .i64 s.tag.kind):=hR.1.cell _
 have d1:w.cell? ⟨b,10,none⟩=some (.slice R.fi.a s.tag.name.length R.fi.cap):=hR.1.cell _
 have d2:w.cell? ⟨b,11,none⟩=some (.slice R.buffer.a s.tag.buffer.length R.buffer.cap):=hR.1.cell _
 have d3:w.cell? ⟨b,12,none⟩=some (.slice R.cy.a s.tag.cy.length R.cy.cap):=hR.1.cell _
 have d4:w.cell? ⟨b,13,none⟩=some (.map R.names):=hR.1.cell _
 have d5:w.cell? ⟨b,14,none⟩=some (.bool true):=by rw[hR.1.cell,←hcl];rfl
 have df:=hR.1.frozen
 have hlt:=hR.1.yh
 have hT:=Am hR
 have hcv:=oe (r:=R.fi) (l:=s.tag.name) (hT.1.rows.ok (cq R.fi s.tag.name) (List.mem_append_right _ (List.mem_append_left _ (by simp[r9]))))
 have h0:=(C6 (C4 hR)).tk
 have ek:(s.tag.kind==1)=false:=af.2 hk
 have hal:s.tag.cy.length=0:=by rw[hne];rfl
 have hfin:ti s={tell (wrong (rg s) [101,110,100,45,115,108,97,115,104]) {kind:=2,name:=s.tag.name}with base:=0,state:=0}:=by simp[ti,hne,hcl]
 rw[hfin]
 have HS:Hid (sz (rg s)+6≤lim):=hide (by have:=Ib s;omega)
 have HC:=hide hcl
 simp only[copied,qr,pu,hcl,hal]at hcv h0
 rw[hal]at d3
 clear hfin h hs hT hR hk hcl hne hal
 go_enter func199,ntmps199
 go_wp2_with fail
 refine(mb [101,110,100,45,115,108,97,115,104] h0 (by have:=ae HS;first|omega|(simp only[bw];omega))).mono ?_
 rintro e w1⟨rfl,h1⟩
 go_wp2_with fail
 refine(C7 {kind:=2,name:=s.tag.name} rfl h1 (by have:=ae HS;first|omega|(simp only[bw];omega))).mono ?_
 rintro e w8⟨rfl,h8⟩
 go_wp2_with fail
 refine(xf 0 h8).mono ?_
 rintro e w9⟨rfl,h9⟩
 go_wp2
 go_ret
 exact⟨rfl,C5 h9⟩
theorem zev(h:Tk w0 aj b s ex w)(hk:s.tag.kind≠1)(hne:s.tag.cy≠[])(hcl:s.tag.closes=false)(hs:sz s+6≤lim):
  Calls prog 199 #[.pointer (some ⟨b,0,none⟩)] w fun e w'=>e= .returned (.int .i64 0)∧Tk w0 aj b (ti s) ex w':=by
 obtain⟨R,hR⟩:=h.reg
 have d0:w.cell? ⟨b,9,none⟩=some (.int .i64 s.tag.kind):=hR.1.cell _
 have d1:w.cell? ⟨b,10,none⟩=some (.slice R.fi.a s.tag.name.length R.fi.cap):=hR.1.cell _
 have d2:w.cell? ⟨b,11,none⟩=some (.slice R.buffer.a s.tag.buffer.length R.buffer.cap):=hR.1.cell _
 have d3:w.cell? ⟨b,12,none⟩=some (.slice R.cy.a s.tag.cy.length R.cy.cap):=hR.1.cell _
 have d4:w.cell? ⟨b,13,none⟩=some (.map R.names):=hR.1.cell _
 have d5:w.cell? ⟨b,14,none⟩=some (.bool false):=by rw[hR.1.cell,←hcl];rfl
 have df:=hR.1.frozen
 have hlt:=hR.1.yh
 have hT:=Am hR
 have hcv:=oe (r:=R.fi) (l:=s.tag.name) (hT.1.rows.ok (cq R.fi s.tag.name) (List.mem_append_right _ (List.mem_append_left _ (by simp[r9]))))
 have h0:=(C6 (C4 hR)).tk
 have ek:(s.tag.kind==1)=false:=af.2 hk
 have hal:0<s.tag.cy.length:=List.length_pos_iff.2 hne
 have hfin:ti s={tell (wrong (rg s) [101,110,100,45,97,116,116,114,105,98,117,116,101,115]) {kind:=2,name:=s.tag.name}with base:=0,state:=0}:=by simp[ti,hne,hcl]
 rw[hfin]
 have HS:Hid (sz (rg s)+6≤lim):=hide (by have:=Ib s;omega)
 have HC:=hide hcl
 simp only[copied,qr,pu,hcl]at hcv h0
 skip
 clear hfin h hs hT hR hk hcl hne
 go_enter func199,ntmps199
 go_wp2_with fail
 refine(mb [101,110,100,45,97,116,116,114,105,98,117,116,101,115] h0 (by have:=ae HS;omega)).mono ?_
 rintro e w1⟨rfl,h1⟩
 have zru:w1.cell? ⟨w.heap.size,5,none⟩=some (.bool false):=by
  obtain⟨R',hR'⟩:=Tk.reg h1
  exact Xw hR'.1 5 _ (by simp[pu,ae HC])
 go_wp2_with fail
 refine(C7 {kind:=2,name:=s.tag.name} rfl h1 (by have:=ae HS;first|omega|(simp only[bw];omega))).mono ?_
 rintro e w8⟨rfl,h8⟩
 go_wp2_with fail
 refine(xf 0 h8).mono ?_
 rintro e w9⟨rfl,h9⟩
 go_wp2
 go_ret
 exact⟨rfl,C5 h9⟩
theorem zew(h:Tk w0 aj b s ex w)(hk:s.tag.kind≠1)(hne:s.tag.cy≠[])(hcl:s.tag.closes=true)(hs:sz s+6≤lim):
  Calls prog 199 #[.pointer (some ⟨b,0,none⟩)] w fun e w'=>e= .returned (.int .i64 0)∧Tk w0 aj b (ti s) ex w':=by
 obtain⟨R,hR⟩:=h.reg
 have d0:w.cell? ⟨b,9,none⟩=some (.int .i64 s.tag.kind):=hR.1.cell _
 have d1:w.cell? ⟨b,10,none⟩=some (.slice R.fi.a s.tag.name.length R.fi.cap):=hR.1.cell _
 have d2:w.cell? ⟨b,11,none⟩=some (.slice R.buffer.a s.tag.buffer.length R.buffer.cap):=hR.1.cell _
 have d3:w.cell? ⟨b,12,none⟩=some (.slice R.cy.a s.tag.cy.length R.cy.cap):=hR.1.cell _
 have d4:w.cell? ⟨b,13,none⟩=some (.map R.names):=hR.1.cell _
 have d5:w.cell? ⟨b,14,none⟩=some (.bool true):=by rw[hR.1.cell,←hcl];rfl
 have df:=hR.1.frozen
 have hlt:=hR.1.yh
 have hT:=Am hR
 have hcv:=oe (r:=R.fi) (l:=s.tag.name) (hT.1.rows.ok (cq R.fi s.tag.name) (List.mem_append_right _ (List.mem_append_left _ (by simp[r9]))))
 have h0:=(C6 (C4 hR)).tk
 have ek:(s.tag.kind==1)=false:=af.2 hk
 have hal:0<s.tag.cy.length:=List.length_pos_iff.2 hne
 have hfin:ti s={tell (wrong (wrong (rg s) [101,110,100,45,97,116,116,114,105,98,117,116,101,115]) [101,110,100,45,115,108,97,115,104]) {kind:=2,name:=s.tag.name}with base:=0,state:=0}:=by simp[ti,hne,hcl]
 rw[hfin]
 have HS:Hid (sz (rg s)+6≤lim):=hide (by have:=Ib s;omega)
 have HC:=hide hcl
 simp only[copied,qr,pu,hcl]at hcv h0
 skip
 clear hfin h hs hT hR hk hcl hne
 go_enter func199,ntmps199
 go_wp2_with fail
 refine(mb [101,110,100,45,97,116,116,114,105,98,117,116,101,115] h0 (by have:=ae HS;omega)).mono ?_
 rintro e w1⟨rfl,h1⟩
 have zru:w1.cell? ⟨w.heap.size,5,none⟩=some (.bool true):=by
  obtain⟨R',hR'⟩:=Tk.reg h1
  exact Xw hR'.1 5 _ (by simp[pu,ae HC])
 go_wp2_with fail
 refine(mb [101,110,100,45,115,108,97,115,104] h1 (by have:=ae HS;first|omega|(simp only[bw];omega))).mono ?_
 rintro e w2⟨rfl,h2⟩
 go_wp2_with fail
 refine(C7 {kind:=2,name:=s.tag.name} rfl h2 (by have:=ae HS;first|omega|(simp only[bw];omega))).mono ?_
 rintro e w8⟨rfl,h8⟩
 go_wp2_with fail
 refine(xf 0 h8).mono ?_
 rintro e w9⟨rfl,h9⟩
 go_wp2
 go_ret
 exact⟨rfl,C5 h9⟩
theorem u6(h:Tk w0 aj b s ex w)(hs:sz s+6≤lim):
  Calls prog 199 #[.pointer (some ⟨b,0,none⟩)] w fun e w'=>e= .returned (.int .i64 0)∧Tk w0 aj b (mh s) ex w':=by
 by_cases hk:s.tag.kind=1
 ·rw[mh,au hk]
  by_cases hne:s.tag.cy=[]
  ·exact Qz h hk hne (by omega)
  ·exact Rc h hk hne (by omega)
 ·rw[mh,ag hk]
  by_cases hne:s.tag.cy=[]
  ·by_cases hcl:s.tag.closes=true
   ·exact zeu h hk hne hcl hs
   ·exact zet h hk hne (by simpa using hcl) hs
  ·by_cases hcl:s.tag.closes=true
   ·exact zew h hk hne hcl hs
   ·exact zev h hk hne (by simpa using hcl) hs
end
section
variable{w0:World}{aj:Nat→Prop}{b:Nat}{s:TS}{ex:List Item}{w:World}
theorem pb(c:Int)(h:Tk w0 aj b s ex w)(hs:sz s+1≤lim):
  Calls prog 127 #[.pointer (some ⟨b,0,none⟩),.int .i32 c] w fun e w'=>e= .returned (.int .i32 (bb c))∧Tk w0 aj b (dp s c) ex w':=
 Lp c h (by unfold sz at hs;omega)
theorem St:∀l:List xp,tp (l++[({}:xp)])=tp l
 |[]=>rfl
 |a::r=>by simp[tp,St r]
theorem ft(s:TS):sz (lp s)=sz s+1:=by simp[sz,lp,St];omega
theorem fa(s:TS):sz {s with tag:={s.tag with closes:=true}}=sz s:=rfl
def lg(s:TS)(c:Int):TS:={dp s c with tag:={s.tag with name:=s.tag.name++Lib.encodeRune (lw (bb c))}}
theorem zex(s:TS)(c:Int):lg s c={dp s c with tag:={(dp s c).tag with name:=s.tag.name++Lib.encodeRune (lw (bb c))}}:=by rw[lg,mp]
def lu(s:TS)(c:Int):Int×TS:=
 if ba c=true then(0,{s with state:=9})else
 if c=47 then(0,{s with state:=17})else
 if c=62 then(0,(mh s))else
 if c= -1 then(0,(iq s))else
 (0,(lg s c))
theorem Nw(c:Int)(hc:Rn c)(h:Tk w0 aj b s ex w)(hs:sz s+12≤lim):
  Calls prog 141 #[.pointer (some ⟨b,0,none⟩),.int .i32 c] w fun e w'=>e= .returned (.int .i64 (lu s c).1)∧Tk w0 aj b (lu s c).2 ex w':=by
 have HS:=hide hs
 clear hs
 by_cases be:ba c=true
 ·have y:=be
  clear be
  have hfin:lu s c=(0,{s with state:=9}):=by simp[lu,y]
  rw[hfin]
  clear hfin
  go_enter func141,ntmps141
  go_wp2_with fail
  refine(cg c _).mono ?_
  rintro e w1⟨rfl,rfl⟩
  go_wp2_with fail
  refine(mr 9 h).mono ?_
  rintro e w2⟨rfl,h1⟩
  go_wp2
  go_ret
  exact⟨rfl,h1⟩
 by_cases n47:c=47
 ·have y:=n47
  clear n47
  subst y
  have hfin:lu s 47=(0,{s with state:=17}):=by simp[lu,be]
  rw[hfin]
  clear hfin
  have gj:ba 47=false:=az.2 be
  clear be
  go_enter func141,ntmps141
  go_wp2_with fail
  refine(cg 47 _).mono ?_
  rintro e w1⟨rfl,rfl⟩
  go_wp2_with fail
  refine(mr 17 h).mono ?_
  rintro e w2⟨rfl,h1⟩
  go_wp2
  go_ret
  exact⟨rfl,h1⟩
 by_cases n62:c=62
 ·have y:=n62
  clear n62
  subst y
  have hfin:lu s 62=(0,(mh s)):=by simp[lu,be,n47]
  rw[hfin]
  clear hfin
  have gj:ba 62=false:=az.2 be
  have e47:((62:Int)==47)=false:=af.2 n47
  clear be
  clear n47
  go_enter func141,ntmps141
  go_wp2_with fail
  refine(cg 62 _).mono ?_
  rintro e w1⟨rfl,rfl⟩
  go_wp2_with fail
  refine(u6 h (by have:=ae HS;first|omega|(simp only[bw,d8,bd,cr,ft,fa,ai,ak];omega))).mono ?_
  rintro e w2⟨rfl,h1⟩
  go_wp2
  go_ret
  exact⟨rfl,h1⟩
 by_cases nc:c= -1
 ·have y:=nc
  clear nc
  subst y
  have hfin:lu s (-1)=(0,(iq s)):=by simp[lu,be,n47,n62]
  rw[hfin]
  clear hfin
  have gj:ba (-1)=false:=az.2 be
  have e47:((-1:Int)==47)=false:=af.2 n47
  have e62:((-1:Int)==62)=false:=af.2 n62
  clear be
  clear n47
  clear n62
  go_enter func141,ntmps141
  go_wp2_with fail
  refine(cg (-1) _).mono ?_
  rintro e w1⟨rfl,rfl⟩
  go_wp2_with fail
  refine(th h (by have:=ae HS;first|omega|(simp only[bw,d8,bd,cr,ft,fa,ai,ak];omega))).mono ?_
  rintro e w2⟨rfl,h1⟩
  go_wp2
  go_ret
  exact⟨rfl,h1⟩
 have hfin:lu s c=(0,(lg s c)):=by simp[lu,be,n47,n62,nc]
 rw[hfin]
 clear hfin
 have gj:ba c=false:=az.2 be
 have e47:((c:Int)==47)=false:=af.2 n47
 have e62:((c:Int)==62)=false:=af.2 n62
 have Cz:((c:Int)== -1)=false:=af.2 nc
 clear be
 clear n47
 clear n62
 clear nc
 obtain⟨R,hR⟩:=h.reg
 have c1:w.cell? ⟨b,10,none⟩=some (.slice R.fi.a s.tag.name.length R.fi.cap):=hR.1.cell 10
 have HN:=hide (p5 c (qb hR) (by have:=ae HS;unfold sz at this;omega))
 have HR:=hide (sk hc)
 have HL:=hide (ie hc)
 have HP:=hide (C0 (ie hc))
 clear h
 go_enter func141,ntmps141
 go_wp2_with fail
 refine(cg c _).mono ?_
 rintro e w1⟨rfl,rfl⟩
 go_wp2_with fail
 go_region_with(first
  |(go_at_call 127;refine(ae HN).mono ?_;rintro e w1⟨tl,ta,rfl,h1⟩;have d1:w1.cell? ⟨b,10,none⟩=some (.slice R.fi.a s.tag.name.length R.fi.cap):=(by rw[h1.1.cell];simp[cellsOf,mp]))
  |(go_at_call 194;refine(pg (bb c) _ (ae HL)).mono ?_;rintro e w4⟨rfl,rfl⟩)
  |(go_at_call 126;refine(nj R.fi s.tag.name (lw (bb c)) (ae HP).1 (ae HP).2 _ (by have:=h1.1.rows.ok (cq R.fi (dp s c).tag.name) (by simp[fe]);rw[mp]at this;exact this) (by have:=ae HS;unfold sz lim at this;omega)).mono ?_;rintro e w2⟨r',o,rfl,hok,hg,hf⟩;obtain⟨hself,hT⟩:=ld.M8 h1.1 h1.2 ((More.refl _).alloc o) _ r' hok hg hf;have d2:=bg hself 10;have df:=bn hself;simp only[cellsOf]at d2;simp only[aq]at hT))
 all_goals
  go_wp2
  go_ret
  exact⟨rfl,by rw[zex];exact hT⟩
def lq(s:TS)(c:Int):Int×TS:=
 if c=62 then(0,(mh {s with tag:={s.tag with closes:=true}}))else
 if c= -1 then(0,(iq s))else
 (1,{(wrong s [115,108,97,115,104])with state:=9})
theorem L0(c:Int)(hc:Rn c)(h:Tk w0 aj b s ex w)(hs:sz s+12≤lim):
  Calls prog 140 #[.pointer (some ⟨b,0,none⟩),.int .i32 c] w fun e w'=>e= .returned (.int .i64 (lq s c).1)∧Tk w0 aj b (lq s c).2 ex w':=by
 have HS:=hide hs
 clear hs
 by_cases n62:c=62
 ·have y:=n62
  clear n62
  subst y
  have hfin:lq s 62=(0,(mh {s with tag:={s.tag with closes:=true}})):=by simp[lq]
  rw[hfin]
  clear hfin
  go_enter func140,ntmps140
  obtain⟨R1,uu⟩:=Tk.reg h
  have c1:=uu.1.cell 14
  have f1:=uu.1.frozen
  simp only[cellsOf]at c1
  have h1:Tk w0 aj b {s with tag:={s.tag with closes:=true}} ex (World.setCell _ ⟨b,14,none⟩ (.bool true)):=⟨⟨R1,uu.1.setCell 14 _ rfl rfl rfl rfl rfl⟩,uu.2.setCell 14 _ uu.1.ownB⟩
  go_wp2_with fail
  refine(u6 h1 (by have:=ae HS;first|omega|(simp only[bw,d8,bd,cr,ft,fa,ai,ak];omega))).mono ?_
  rintro e w3⟨rfl,h2⟩
  go_wp2
  go_ret
  exact⟨rfl,h2⟩
 by_cases nc:c= -1
 ·have y:=nc
  clear nc
  subst y
  have hfin:lq s (-1)=(0,(iq s)):=by simp[lq,n62]
  rw[hfin]
  clear hfin
  have e62:((-1:Int)==62)=false:=af.2 n62
  clear n62
  go_enter func140,ntmps140
  go_wp2_with fail
  refine(th h (by have:=ae HS;first|omega|(simp only[bw,d8,bd,cr,ft,fa,ai,ak];omega))).mono ?_
  rintro e w2⟨rfl,h1⟩
  go_wp2
  go_ret
  exact⟨rfl,h1⟩
 have hfin:lq s c=(1,{(wrong s [115,108,97,115,104])with state:=9}):=by simp[lq,n62,nc]
 rw[hfin]
 clear hfin
 have e62:((c:Int)==62)=false:=af.2 n62
 have Cz:((c:Int)== -1)=false:=af.2 nc
 clear n62
 clear nc
 go_enter func140,ntmps140
 go_wp2_with fail
 refine(mb [115,108,97,115,104] h (by have:=ae HS;first|omega|(simp only[bw,d8,bd,cr,ft,fa,ai,ak];omega))).mono ?_
 rintro e w2⟨rfl,h1⟩
 go_wp2_with fail
 refine(ic 9 h1).mono ?_
 rintro e w3⟨rfl,h2⟩
 go_wp2
 go_ret
 exact⟨rfl,h2⟩
def ka(s:TS)(c:Int):Int×TS:=
 if ba c=true then(0,s)else
 if c=47∨c=62∨c= -1 then(1,{s with state:=11})else
 if c=61 then(0,{(kr (lp (wrong s [101,113,117,97,108,115])) 61)with state:=10})else
 (1,{(lp s)with state:=10})
theorem L1(c:Int)(hc:Rn c)(h:Tk w0 aj b s ex w)(hs:sz s+16≤lim):
  Calls prog 133 #[.pointer (some ⟨b,0,none⟩),.int .i32 c] w fun e w'=>e= .returned (.int .i64 (ka s c).1)∧Tk w0 aj b (ka s c).2 ex w':=by
 have HS:=hide hs
 clear hs
 by_cases be:ba c=true
 ·have y:=be
  clear be
  have hfin:ka s c=(0,s):=by simp[ka,y]
  rw[hfin]
  clear hfin
  go_enter func133,ntmps133
  go_wp2_with fail
  refine(cg c _).mono ?_
  rintro e w1⟨rfl,rfl⟩
  go_wp2
  go_ret
  exact⟨rfl,h⟩
 by_cases n47:c=47
 ·have y:=n47
  clear n47
  subst y
  have hfin:ka s 47=(1,{s with state:=11}):=by simp[ka,be]
  rw[hfin]
  clear hfin
  have gj:ba 47=false:=az.2 be
  clear be
  go_enter func133,ntmps133
  go_wp2_with fail
  refine(cg 47 _).mono ?_
  rintro e w1⟨rfl,rfl⟩
  go_wp2_with fail
  refine(ic 11 h).mono ?_
  rintro e w2⟨rfl,h1⟩
  go_wp2
  go_ret
  exact⟨rfl,h1⟩
 by_cases n62:c=62
 ·have y:=n62
  clear n62
  subst y
  have hfin:ka s 62=(1,{s with state:=11}):=by simp[ka,be,n47]
  rw[hfin]
  clear hfin
  have gj:ba 62=false:=az.2 be
  have e47:((62:Int)==47)=false:=af.2 n47
  clear be
  clear n47
  go_enter func133,ntmps133
  go_wp2_with fail
  refine(cg 62 _).mono ?_
  rintro e w1⟨rfl,rfl⟩
  go_wp2_with fail
  refine(ic 11 h).mono ?_
  rintro e w2⟨rfl,h1⟩
  go_wp2
  go_ret
  exact⟨rfl,h1⟩
 by_cases nc:c= -1
 ·have y:=nc
  clear nc
  subst y
  have hfin:ka s (-1)=(1,{s with state:=11}):=by simp[ka,be,n47,n62]
  rw[hfin]
  clear hfin
  have gj:ba (-1)=false:=az.2 be
  have e47:((-1:Int)==47)=false:=af.2 n47
  have e62:((-1:Int)==62)=false:=af.2 n62
  clear be
  clear n47
  clear n62
  go_enter func133,ntmps133
  go_wp2_with fail
  refine(cg (-1) _).mono ?_
  rintro e w1⟨rfl,rfl⟩
  go_wp2_with fail
  refine(ic 11 h).mono ?_
  rintro e w2⟨rfl,h1⟩
  go_wp2
  go_ret
  exact⟨rfl,h1⟩
 by_cases n61:c=61
 ·have y:=n61
  clear n61
  subst y
  have hfin:ka s 61=(0,{(kr (lp (wrong s [101,113,117,97,108,115])) 61)with state:=10}):=by simp[ka,be,n47,n62,nc]
  rw[hfin]
  clear hfin
  have gj:ba 61=false:=az.2 be
  have e47:((61:Int)==47)=false:=af.2 n47
  have e62:((61:Int)==62)=false:=af.2 n62
  have Cz:((61:Int)== -1)=false:=af.2 nc
  clear be
  clear n47
  clear n62
  clear nc
  go_enter func133,ntmps133
  go_wp2_with fail
  refine(cg 61 _).mono ?_
  rintro e w1⟨rfl,rfl⟩
  go_wp2_with fail
  refine(mb [101,113,117,97,108,115] h (by have:=ae HS;first|omega|(simp only[bw,d8,bd,cr,ft,fa,ai,ak];omega))).mono ?_
  rintro e w2⟨rfl,h1⟩
  go_wp2_with fail
  refine(xu h1 (by have:=ae HS;first|omega|(simp only[bw,d8,bd,cr,ft,fa,ai,ak];omega))).mono ?_
  rintro e w3⟨rfl,h2⟩
  go_wp2_with fail
  refine(uo 61 (by unfold Rn;omega) (by first|exact hat|(simp[lp];done)) h2 (by have:=ae HS;first|omega|(simp only[bw,d8,bd,cr,ft,fa,ai,ak];omega))).mono ?_
  rintro e w4⟨rfl,h3⟩
  go_wp2_with fail
  refine(mr 10 h3).mono ?_
  rintro e w5⟨rfl,h4⟩
  go_wp2
  go_ret
  exact⟨rfl,h4⟩
 have hfin:ka s c=(1,{(lp s)with state:=10}):=by simp[ka,be,n47,n62,nc,n61]
 rw[hfin]
 clear hfin
 have gj:ba c=false:=az.2 be
 have e47:((c:Int)==47)=false:=af.2 n47
 have e62:((c:Int)==62)=false:=af.2 n62
 have Cz:((c:Int)== -1)=false:=af.2 nc
 have e61:((c:Int)==61)=false:=af.2 n61
 clear be
 clear n47
 clear n62
 clear nc
 clear n61
 go_enter func133,ntmps133
 go_wp2_with fail
 refine(cg c _).mono ?_
 rintro e w1⟨rfl,rfl⟩
 go_wp2_with fail
 refine(xu h (by have:=ae HS;first|omega|(simp only[bw,d8,bd,cr,ft,fa,ai,ak];omega))).mono ?_
 rintro e w2⟨rfl,h1⟩
 go_wp2_with fail
 refine(ic 10 h1).mono ?_
 rintro e w3⟨rfl,h2⟩
 go_wp2
 go_ret
 exact⟨rfl,h2⟩
def jf(s:TS)(c:Int):Int×TS:=
 if ba c=true∨c=47∨c=62∨c= -1 then(1,{(mg s)with state:=11})else
 if c=61 then(0,{(mg s)with state:=12})else
 if c=34∨c=39∨c=60 then(0,(kr (dp (wrong s [115,105,103,110]) c) (lw (bb c))))else
 (0,(kr (dp s c) (lw (bb c))))
theorem L2(c:Int)(hc:Rn c)(hat:s.tag.cy≠[])(h:Tk w0 aj b s ex w)(hs:sz s+16≤lim):
  Calls prog 134 #[.pointer (some ⟨b,0,none⟩),.int .i32 c] w fun e w'=>e= .returned (.int .i64 (jf s c).1)∧Tk w0 aj b (jf s c).2 ex w':=by
 have HS:=hide hs
 clear hs
 by_cases be:ba c=true
 ·have y:=be
  clear be
  have hfin:jf s c=(1,{(mg s)with state:=11}):=by simp[jf,y]
  rw[hfin]
  clear hfin
  go_enter func134,ntmps134
  go_wp2_with fail
  refine(cg c _).mono ?_
  rintro e w1⟨rfl,rfl⟩
  go_wp2_with fail
  refine(xw (by first|exact hat|(simp[lp];done)) h (by have:=ae HS;first|omega|(simp only[bw,d8,bd,cr,ft,fa,ai,ak];omega))).mono ?_
  rintro e w2⟨rfl,h1⟩
  go_wp2_with fail
  refine(ic 11 h1).mono ?_
  rintro e w3⟨rfl,h2⟩
  go_wp2
  go_ret
  exact⟨rfl,h2⟩
 by_cases n47:c=47
 ·have y:=n47
  clear n47
  subst y
  have hfin:jf s 47=(1,{(mg s)with state:=11}):=by simp[jf,be]
  rw[hfin]
  clear hfin
  have gj:ba 47=false:=az.2 be
  clear be
  go_enter func134,ntmps134
  go_wp2_with fail
  refine(cg 47 _).mono ?_
  rintro e w1⟨rfl,rfl⟩
  go_wp2_with fail
  refine(xw (by first|exact hat|(simp[lp];done)) h (by have:=ae HS;first|omega|(simp only[bw,d8,bd,cr,ft,fa,ai,ak];omega))).mono ?_
  rintro e w2⟨rfl,h1⟩
  go_wp2_with fail
  refine(ic 11 h1).mono ?_
  rintro e w3⟨rfl,h2⟩
  go_wp2
  go_ret
  exact⟨rfl,h2⟩
 by_cases n62:c=62
 ·have y:=n62
  clear n62
  subst y
  have hfin:jf s 62=(1,{(mg s)with state:=11}):=by simp[jf,be,n47]
  rw[hfin]
  clear hfin
  have gj:ba 62=false:=az.2 be
  have e47:((62:Int)==47)=false:=af.2 n47
  clear be
  clear n47
  go_enter func134,ntmps134
  go_wp2_with fail
  refine(cg 62 _).mono ?_
  rintro e w1⟨rfl,rfl⟩
  go_wp2_with fail
  refine(xw (by first|exact hat|(simp[lp];done)) h (by have:=ae HS;first|omega|(simp only[bw,d8,bd,cr,ft,fa,ai,ak];omega))).mono ?_
  rintro e w2⟨rfl,h1⟩
  go_wp2_with fail
  refine(ic 11 h1).mono ?_
  rintro e w3⟨rfl,h2⟩
  go_wp2
  go_ret
  exact⟨rfl,h2⟩
 by_cases nc:c= -1
 ·have y:=nc
  clear nc
  subst y
  have hfin:jf s (-1)=(1,{(mg s)with state:=11}):=by simp[jf,be,n47,n62]
  rw[hfin]
  clear hfin
  have gj:ba (-1)=false:=az.2 be
  have e47:((-1:Int)==47)=false:=af.2 n47
  have e62:((-1:Int)==62)=false:=af.2 n62
  clear be
  clear n47
  clear n62
  go_enter func134,ntmps134
  go_wp2_with fail
  refine(cg (-1) _).mono ?_
  rintro e w1⟨rfl,rfl⟩
  go_wp2_with fail
  refine(xw (by first|exact hat|(simp[lp];done)) h (by have:=ae HS;first|omega|(simp only[bw,d8,bd,cr,ft,fa,ai,ak];omega))).mono ?_
  rintro e w2⟨rfl,h1⟩
  go_wp2_with fail
  refine(ic 11 h1).mono ?_
  rintro e w3⟨rfl,h2⟩
  go_wp2
  go_ret
  exact⟨rfl,h2⟩
 by_cases n61:c=61
 ·have y:=n61
  clear n61
  subst y
  have hfin:jf s 61=(0,{(mg s)with state:=12}):=by simp[jf,be,n47,n62,nc]
  rw[hfin]
  clear hfin
  have gj:ba 61=false:=az.2 be
  have e47:((61:Int)==47)=false:=af.2 n47
  have e62:((61:Int)==62)=false:=af.2 n62
  have Cz:((61:Int)== -1)=false:=af.2 nc
  clear be
  clear n47
  clear n62
  clear nc
  go_enter func134,ntmps134
  go_wp2_with fail
  refine(cg 61 _).mono ?_
  rintro e w1⟨rfl,rfl⟩
  go_wp2_with fail
  refine(xw (by first|exact hat|(simp[lp];done)) h (by have:=ae HS;first|omega|(simp only[bw,d8,bd,cr,ft,fa,ai,ak];omega))).mono ?_
  rintro e w2⟨rfl,h1⟩
  go_wp2_with fail
  refine(mr 12 h1).mono ?_
  rintro e w3⟨rfl,h2⟩
  go_wp2
  go_ret
  exact⟨rfl,h2⟩
 by_cases n34:c=34
 ·have y:=n34
  clear n34
  subst y
  have hfin:jf s 34=(0,(kr (dp (wrong s [115,105,103,110]) 34) (lw (bb 34)))):=by simp[jf,be,n47,n62,nc,n61]
  rw[hfin]
  clear hfin
  have gj:ba 34=false:=az.2 be
  have e47:((34:Int)==47)=false:=af.2 n47
  have e62:((34:Int)==62)=false:=af.2 n62
  have Cz:((34:Int)== -1)=false:=af.2 nc
  have e61:((34:Int)==61)=false:=af.2 n61
  clear be
  clear n47
  clear n62
  clear nc
  clear n61
  go_enter func134,ntmps134
  go_wp2_with fail
  refine(cg 34 _).mono ?_
  rintro e w1⟨rfl,rfl⟩
  go_wp2_with fail
  refine(mb [115,105,103,110] h (by have:=ae HS;first|omega|(simp only[bw,d8,bd,cr,ft,fa,ai,ak];omega))).mono ?_
  rintro e w2⟨rfl,h1⟩
  go_wp2_with fail
  refine(pb 34 h1 (by have:=ae HS;first|omega|(simp only[bw,d8,bd,cr,ft,fa,ai,ak];omega))).mono ?_
  rintro e v2⟨rfl,h2⟩
  have q2:=my (wrong s [115,105,103,110]) 34
  go_wp2_with fail
  refine(pg (bb 34) _ (ie hc)).mono ?_
  rintro e u2⟨rfl,rfl⟩
  go_wp2_with fail
  refine(uo (lw (bb 34)) (Hx (ie hc)) (by rw[mp];first|exact hat|(simp[lp];done)) h2 (by have:=ae HS;first|omega|(simp only[bw,ft]at q2;omega))).mono ?_
  rintro e w3⟨rfl,h2⟩
  clear q2
  go_wp2
  go_ret
  exact⟨rfl,h2⟩
 by_cases n39:c=39
 ·have y:=n39
  clear n39
  subst y
  have hfin:jf s 39=(0,(kr (dp (wrong s [115,105,103,110]) 39) (lw (bb 39)))):=by simp[jf,be,n47,n62,nc,n61,n34]
  rw[hfin]
  clear hfin
  have gj:ba 39=false:=az.2 be
  have e47:((39:Int)==47)=false:=af.2 n47
  have e62:((39:Int)==62)=false:=af.2 n62
  have Cz:((39:Int)== -1)=false:=af.2 nc
  have e61:((39:Int)==61)=false:=af.2 n61
  have e34:((39:Int)==34)=false:=af.2 n34
  clear be
  clear n47
  clear n62
  clear nc
  clear n61
  clear n34
  go_enter func134,ntmps134
  go_wp2_with fail
  refine(cg 39 _).mono ?_
  rintro e w1⟨rfl,rfl⟩
  go_wp2_with fail
  refine(mb [115,105,103,110] h (by have:=ae HS;first|omega|(simp only[bw,d8,bd,cr,ft,fa,ai,ak];omega))).mono ?_
  rintro e w2⟨rfl,h1⟩
  go_wp2_with fail
  refine(pb 39 h1 (by have:=ae HS;first|omega|(simp only[bw,d8,bd,cr,ft,fa,ai,ak];omega))).mono ?_
  rintro e v2⟨rfl,h2⟩
  have q2:=my (wrong s [115,105,103,110]) 39
  go_wp2_with fail
  refine(pg (bb 39) _ (ie hc)).mono ?_
  rintro e u2⟨rfl,rfl⟩
  go_wp2_with fail
  refine(uo (lw (bb 39)) (Hx (ie hc)) (by rw[mp];first|exact hat|(simp[lp];done)) h2 (by have:=ae HS;first|omega|(simp only[bw,ft]at q2;omega))).mono ?_
  rintro e w3⟨rfl,h2⟩
  clear q2
  go_wp2
  go_ret
  exact⟨rfl,h2⟩
 by_cases n60:c=60
 ·have y:=n60
  clear n60
  subst y
  have hfin:jf s 60=(0,(kr (dp (wrong s [115,105,103,110]) 60) (lw (bb 60)))):=by simp[jf,be,n47,n62,nc,n61,n34,n39]
  rw[hfin]
  clear hfin
  have gj:ba 60=false:=az.2 be
  have e47:((60:Int)==47)=false:=af.2 n47
  have e62:((60:Int)==62)=false:=af.2 n62
  have Cz:((60:Int)== -1)=false:=af.2 nc
  have e61:((60:Int)==61)=false:=af.2 n61
  have e34:((60:Int)==34)=false:=af.2 n34
  have e39:((60:Int)==39)=false:=af.2 n39
  clear be
  clear n47
  clear n62
  clear nc
  clear n61
  clear n34
  clear n39
  go_enter func134,ntmps134
  go_wp2_with fail
  refine(cg 60 _).mono ?_
  rintro e w1⟨rfl,rfl⟩
  go_wp2_with fail
  refine(mb [115,105,103,110] h (by have:=ae HS;first|omega|(simp only[bw,d8,bd,cr,ft,fa,ai,ak];omega))).mono ?_
  rintro e w2⟨rfl,h1⟩
  go_wp2_with fail
  refine(pb 60 h1 (by have:=ae HS;first|omega|(simp only[bw,d8,bd,cr,ft,fa,ai,ak];omega))).mono ?_
  rintro e v2⟨rfl,h2⟩
  have q2:=my (wrong s [115,105,103,110]) 60
  go_wp2_with fail
  refine(pg (bb 60) _ (ie hc)).mono ?_
  rintro e u2⟨rfl,rfl⟩
  go_wp2_with fail
  refine(uo (lw (bb 60)) (Hx (ie hc)) (by rw[mp];first|exact hat|(simp[lp];done)) h2 (by have:=ae HS;first|omega|(simp only[bw,ft]at q2;omega))).mono ?_
  rintro e w3⟨rfl,h2⟩
  clear q2
  go_wp2
  go_ret
  exact⟨rfl,h2⟩
 have hfin:jf s c=(0,(kr (dp s c) (lw (bb c)))):=by simp[jf,be,n47,n62,nc,n61,n34,n39,n60]
 rw[hfin]
 clear hfin
 have gj:ba c=false:=az.2 be
 have e47:((c:Int)==47)=false:=af.2 n47
 have e62:((c:Int)==62)=false:=af.2 n62
 have Cz:((c:Int)== -1)=false:=af.2 nc
 have e61:((c:Int)==61)=false:=af.2 n61
 have e34:((c:Int)==34)=false:=af.2 n34
 have e39:((c:Int)==39)=false:=af.2 n39
 have e60:((c:Int)==60)=false:=af.2 n60
 clear be
 clear n47
 clear n62
 clear nc
 clear n61
 clear n34
 clear n39
 clear n60
 go_enter func134,ntmps134
 go_wp2_with fail
 refine(cg c _).mono ?_
 rintro e w1⟨rfl,rfl⟩
 go_wp2_with fail
 refine(pb c h (by have:=ae HS;first|omega|(simp only[bw,d8,bd,cr,ft,fa,ai,ak];omega))).mono ?_
 rintro e v1⟨rfl,h1⟩
 have q1:=my s c
 go_wp2_with fail
 refine(pg (bb c) _ (ie hc)).mono ?_
 rintro e u1⟨rfl,rfl⟩
 go_wp2_with fail
 refine(uo (lw (bb c)) (Hx (ie hc)) (by rw[mp];first|exact hat|(simp[lp];done)) h1 (by have:=ae HS;first|omega|(simp only[bw,ft]at q1;omega))).mono ?_
 rintro e w2⟨rfl,h1⟩
 clear q1
 go_wp2
 go_ret
 exact⟨rfl,h1⟩
def iu(s:TS)(c:Int):Int×TS:=
 if ba c=true then(0,s)else
 if c=47 then(0,{s with state:=17})else
 if c=61 then(0,{s with state:=12})else
 if c=62 then(0,(mh s))else
 if c= -1 then(0,(iq s))else
 (1,{(lp s)with state:=10})
theorem Jx(c:Int)(hc:Rn c)(h:Tk w0 aj b s ex w)(hs:sz s+12≤lim):
  Calls prog 135 #[.pointer (some ⟨b,0,none⟩),.int .i32 c] w fun e w'=>e= .returned (.int .i64 (iu s c).1)∧Tk w0 aj b (iu s c).2 ex w':=by
 have HS:=hide hs
 clear hs
 by_cases be:ba c=true
 ·have y:=be
  clear be
  have hfin:iu s c=(0,s):=by simp[iu,y]
  rw[hfin]
  clear hfin
  go_enter func135,ntmps135
  go_wp2_with fail
  refine(cg c _).mono ?_
  rintro e w1⟨rfl,rfl⟩
  go_wp2
  go_ret
  exact⟨rfl,h⟩
 by_cases n47:c=47
 ·have y:=n47
  clear n47
  subst y
  have hfin:iu s 47=(0,{s with state:=17}):=by simp[iu,be]
  rw[hfin]
  clear hfin
  have gj:ba 47=false:=az.2 be
  clear be
  go_enter func135,ntmps135
  go_wp2_with fail
  refine(cg 47 _).mono ?_
  rintro e w1⟨rfl,rfl⟩
  go_wp2_with fail
  refine(mr 17 h).mono ?_
  rintro e w2⟨rfl,h1⟩
  go_wp2
  go_ret
  exact⟨rfl,h1⟩
 by_cases n61:c=61
 ·have y:=n61
  clear n61
  subst y
  have hfin:iu s 61=(0,{s with state:=12}):=by simp[iu,be,n47]
  rw[hfin]
  clear hfin
  have gj:ba 61=false:=az.2 be
  have e47:((61:Int)==47)=false:=af.2 n47
  clear be
  clear n47
  go_enter func135,ntmps135
  go_wp2_with fail
  refine(cg 61 _).mono ?_
  rintro e w1⟨rfl,rfl⟩
  go_wp2_with fail
  refine(mr 12 h).mono ?_
  rintro e w2⟨rfl,h1⟩
  go_wp2
  go_ret
  exact⟨rfl,h1⟩
 by_cases n62:c=62
 ·have y:=n62
  clear n62
  subst y
  have hfin:iu s 62=(0,(mh s)):=by simp[iu,be,n47,n61]
  rw[hfin]
  clear hfin
  have gj:ba 62=false:=az.2 be
  have e47:((62:Int)==47)=false:=af.2 n47
  have e61:((62:Int)==61)=false:=af.2 n61
  clear be
  clear n47
  clear n61
  go_enter func135,ntmps135
  go_wp2_with fail
  refine(cg 62 _).mono ?_
  rintro e w1⟨rfl,rfl⟩
  go_wp2_with fail
  refine(u6 h (by have:=ae HS;first|omega|(simp only[bw,d8,bd,cr,ft,fa,ai,ak];omega))).mono ?_
  rintro e w2⟨rfl,h1⟩
  go_wp2
  go_ret
  exact⟨rfl,h1⟩
 by_cases nc:c= -1
 ·have y:=nc
  clear nc
  subst y
  have hfin:iu s (-1)=(0,(iq s)):=by simp[iu,be,n47,n61,n62]
  rw[hfin]
  clear hfin
  have gj:ba (-1)=false:=az.2 be
  have e47:((-1:Int)==47)=false:=af.2 n47
  have e61:((-1:Int)==61)=false:=af.2 n61
  have e62:((-1:Int)==62)=false:=af.2 n62
  clear be
  clear n47
  clear n61
  clear n62
  go_enter func135,ntmps135
  go_wp2_with fail
  refine(cg (-1) _).mono ?_
  rintro e w1⟨rfl,rfl⟩
  go_wp2_with fail
  refine(th h (by have:=ae HS;first|omega|(simp only[bw,d8,bd,cr,ft,fa,ai,ak];omega))).mono ?_
  rintro e w2⟨rfl,h1⟩
  go_wp2
  go_ret
  exact⟨rfl,h1⟩
 have hfin:iu s c=(1,{(lp s)with state:=10}):=by simp[iu,be,n47,n61,n62,nc]
 rw[hfin]
 clear hfin
 have gj:ba c=false:=az.2 be
 have e47:((c:Int)==47)=false:=af.2 n47
 have e61:((c:Int)==61)=false:=af.2 n61
 have e62:((c:Int)==62)=false:=af.2 n62
 have Cz:((c:Int)== -1)=false:=af.2 nc
 clear be
 clear n47
 clear n61
 clear n62
 clear nc
 go_enter func135,ntmps135
 go_wp2_with fail
 refine(cg c _).mono ?_
 rintro e w1⟨rfl,rfl⟩
 go_wp2_with fail
 refine(xu h (by have:=ae HS;first|omega|(simp only[bw,d8,bd,cr,ft,fa,ai,ak];omega))).mono ?_
 rintro e w2⟨rfl,h1⟩
 go_wp2_with fail
 refine(ic 10 h1).mono ?_
 rintro e w3⟨rfl,h2⟩
 go_wp2
 go_ret
 exact⟨rfl,h2⟩
def iz(s:TS)(c:Int):Int×TS:=
 if ba c=true then(0,s)else
 if c=34 then(0,{s with state:=13})else
 if c=39 then(0,{s with state:=14})else
 if c=62 then(0,(mh (wrong s [110,111,45,118,97,108,117,101])))else
 (1,{s with state:=15})
theorem Ic(c:Int)(hc:Rn c)(h:Tk w0 aj b s ex w)(hs:sz s+12≤lim):
  Calls prog 136 #[.pointer (some ⟨b,0,none⟩),.int .i32 c] w fun e w'=>e= .returned (.int .i64 (iz s c).1)∧Tk w0 aj b (iz s c).2 ex w':=by
 have HS:=hide hs
 clear hs
 by_cases be:ba c=true
 ·have y:=be
  clear be
  have hfin:iz s c=(0,s):=by simp[iz,y]
  rw[hfin]
  clear hfin
  go_enter func136,ntmps136
  go_wp2_with fail
  refine(cg c _).mono ?_
  rintro e w1⟨rfl,rfl⟩
  go_wp2
  go_ret
  exact⟨rfl,h⟩
 by_cases n34:c=34
 ·have y:=n34
  clear n34
  subst y
  have hfin:iz s 34=(0,{s with state:=13}):=by simp[iz,be]
  rw[hfin]
  clear hfin
  have gj:ba 34=false:=az.2 be
  clear be
  go_enter func136,ntmps136
  go_wp2_with fail
  refine(cg 34 _).mono ?_
  rintro e w1⟨rfl,rfl⟩
  go_wp2_with fail
  refine(mr 13 h).mono ?_
  rintro e w2⟨rfl,h1⟩
  go_wp2
  go_ret
  exact⟨rfl,h1⟩
 by_cases n39:c=39
 ·have y:=n39
  clear n39
  subst y
  have hfin:iz s 39=(0,{s with state:=14}):=by simp[iz,be,n34]
  rw[hfin]
  clear hfin
  have gj:ba 39=false:=az.2 be
  have e34:((39:Int)==34)=false:=af.2 n34
  clear be
  clear n34
  go_enter func136,ntmps136
  go_wp2_with fail
  refine(cg 39 _).mono ?_
  rintro e w1⟨rfl,rfl⟩
  go_wp2_with fail
  refine(mr 14 h).mono ?_
  rintro e w2⟨rfl,h1⟩
  go_wp2
  go_ret
  exact⟨rfl,h1⟩
 by_cases n62:c=62
 ·have y:=n62
  clear n62
  subst y
  have hfin:iz s 62=(0,(mh (wrong s [110,111,45,118,97,108,117,101]))):=by simp[iz,be,n34,n39]
  rw[hfin]
  clear hfin
  have gj:ba 62=false:=az.2 be
  have e34:((62:Int)==34)=false:=af.2 n34
  have e39:((62:Int)==39)=false:=af.2 n39
  clear be
  clear n34
  clear n39
  go_enter func136,ntmps136
  go_wp2_with fail
  refine(cg 62 _).mono ?_
  rintro e w1⟨rfl,rfl⟩
  go_wp2_with fail
  refine(mb [110,111,45,118,97,108,117,101] h (by have:=ae HS;first|omega|(simp only[bw,d8,bd,cr,ft,fa,ai,ak];omega))).mono ?_
  rintro e w2⟨rfl,h1⟩
  go_wp2_with fail
  refine(u6 h1 (by have:=ae HS;first|omega|(simp only[bw,d8,bd,cr,ft,fa,ai,ak];omega))).mono ?_
  rintro e w3⟨rfl,h2⟩
  go_wp2
  go_ret
  exact⟨rfl,h2⟩
 have hfin:iz s c=(1,{s with state:=15}):=by simp[iz,be,n34,n39,n62]
 rw[hfin]
 clear hfin
 have gj:ba c=false:=az.2 be
 have e34:((c:Int)==34)=false:=af.2 n34
 have e39:((c:Int)==39)=false:=af.2 n39
 have e62:((c:Int)==62)=false:=af.2 n62
 clear be
 clear n34
 clear n39
 clear n62
 go_enter func136,ntmps136
 go_wp2_with fail
 refine(cg c _).mono ?_
 rintro e w1⟨rfl,rfl⟩
 go_wp2_with fail
 refine(ic 15 h).mono ?_
 rintro e w2⟨rfl,h1⟩
 go_wp2
 go_ret
 exact⟨rfl,h1⟩
def f8(s:TS)(c:Int):Int×TS:=
 if ba c=true then(0,{s with state:=9})else
 if c=38 then(0,(du s))else
 if c=62 then(0,(mh s))else
 if c= -1 then(0,(iq s))else
 if c=34∨c=39∨c=60∨c=61∨c=96 then(0,(fw (dp (wrong s [115,105,103,110]) c) (bb c)))else
 (0,(fw (dp s c) (bb c)))
theorem Jy(c:Int)(hc:Rn c)(hat:s.tag.cy≠[])(h:Tk w0 aj b s ex w)(hs:sz s+16≤lim):
  Calls prog 138 #[.pointer (some ⟨b,0,none⟩),.int .i32 c] w fun e w'=>e= .returned (.int .i64 (f8 s c).1)∧Tk w0 aj b (f8 s c).2 ex w':=by
 have HS:=hide hs
 clear hs
 by_cases be:ba c=true
 ·have y:=be
  clear be
  have hfin:f8 s c=(0,{s with state:=9}):=by simp[f8,y]
  rw[hfin]
  clear hfin
  go_enter func138,ntmps138
  go_wp2_with fail
  refine(cg c _).mono ?_
  rintro e w1⟨rfl,rfl⟩
  go_wp2_with fail
  refine(mr 9 h).mono ?_
  rintro e w2⟨rfl,h1⟩
  go_wp2
  go_ret
  exact⟨rfl,h1⟩
 by_cases n38:c=38
 ·have y:=n38
  clear n38
  subst y
  have hfin:f8 s 38=(0,(du s)):=by simp[f8,be]
  rw[hfin]
  clear hfin
  have gj:ba 38=false:=az.2 be
  clear be
  go_enter func138,ntmps138
  go_wp2_with fail
  refine(cg 38 _).mono ?_
  rintro e w1⟨rfl,rfl⟩
  go_wp2_with fail
  refine(sn h (by have:=ae HS;first|omega|(simp only[bw,d8,bd,cr,ft,fa,ai,ak];omega))).mono ?_
  rintro e w2⟨rfl,h1⟩
  go_wp2
  go_ret
  exact⟨rfl,h1⟩
 by_cases n62:c=62
 ·have y:=n62
  clear n62
  subst y
  have hfin:f8 s 62=(0,(mh s)):=by simp[f8,be,n38]
  rw[hfin]
  clear hfin
  have gj:ba 62=false:=az.2 be
  have e38:((62:Int)==38)=false:=af.2 n38
  clear be
  clear n38
  go_enter func138,ntmps138
  go_wp2_with fail
  refine(cg 62 _).mono ?_
  rintro e w1⟨rfl,rfl⟩
  go_wp2_with fail
  refine(u6 h (by have:=ae HS;first|omega|(simp only[bw,d8,bd,cr,ft,fa,ai,ak];omega))).mono ?_
  rintro e w2⟨rfl,h1⟩
  go_wp2
  go_ret
  exact⟨rfl,h1⟩
 by_cases nc:c= -1
 ·have y:=nc
  clear nc
  subst y
  have hfin:f8 s (-1)=(0,(iq s)):=by simp[f8,be,n38,n62]
  rw[hfin]
  clear hfin
  have gj:ba (-1)=false:=az.2 be
  have e38:((-1:Int)==38)=false:=af.2 n38
  have e62:((-1:Int)==62)=false:=af.2 n62
  clear be
  clear n38
  clear n62
  go_enter func138,ntmps138
  go_wp2_with fail
  refine(cg (-1) _).mono ?_
  rintro e w1⟨rfl,rfl⟩
  go_wp2_with fail
  refine(th h (by have:=ae HS;first|omega|(simp only[bw,d8,bd,cr,ft,fa,ai,ak];omega))).mono ?_
  rintro e w2⟨rfl,h1⟩
  go_wp2
  go_ret
  exact⟨rfl,h1⟩
 by_cases n34:c=34
 ·have y:=n34
  clear n34
  subst y
  have hfin:f8 s 34=(0,(fw (dp (wrong s [115,105,103,110]) 34) (bb 34))):=by simp[f8,be,n38,n62,nc]
  rw[hfin]
  clear hfin
  have gj:ba 34=false:=az.2 be
  have e38:((34:Int)==38)=false:=af.2 n38
  have e62:((34:Int)==62)=false:=af.2 n62
  have Cz:((34:Int)== -1)=false:=af.2 nc
  clear be
  clear n38
  clear n62
  clear nc
  go_enter func138,ntmps138
  go_wp2_with fail
  refine(cg 34 _).mono ?_
  rintro e w1⟨rfl,rfl⟩
  go_wp2_with fail
  refine(mb [115,105,103,110] h (by have:=ae HS;first|omega|(simp only[bw,d8,bd,cr,ft,fa,ai,ak];omega))).mono ?_
  rintro e w2⟨rfl,h1⟩
  go_wp2_with fail
  refine(pb 34 h1 (by have:=ae HS;first|omega|(simp only[bw,d8,bd,cr,ft,fa,ai,ak];omega))).mono ?_
  rintro e v2⟨rfl,h2⟩
  have q2:=my (wrong s [115,105,103,110]) 34
  go_wp2_with fail
  refine(pz (bb 34) (ie hc) (by rw[mp];first|exact hat|(simp[lp];done)) h2 (by have:=ae HS;first|omega|(simp only[bw,ft]at q2;omega))).mono ?_
  rintro e w3⟨rfl,h2⟩
  clear q2
  go_wp2
  go_ret
  exact⟨rfl,h2⟩
 by_cases n39:c=39
 ·have y:=n39
  clear n39
  subst y
  have hfin:f8 s 39=(0,(fw (dp (wrong s [115,105,103,110]) 39) (bb 39))):=by simp[f8,be,n38,n62,nc,n34]
  rw[hfin]
  clear hfin
  have gj:ba 39=false:=az.2 be
  have e38:((39:Int)==38)=false:=af.2 n38
  have e62:((39:Int)==62)=false:=af.2 n62
  have Cz:((39:Int)== -1)=false:=af.2 nc
  have e34:((39:Int)==34)=false:=af.2 n34
  clear be
  clear n38
  clear n62
  clear nc
  clear n34
  go_enter func138,ntmps138
  go_wp2_with fail
  refine(cg 39 _).mono ?_
  rintro e w1⟨rfl,rfl⟩
  go_wp2_with fail
  refine(mb [115,105,103,110] h (by have:=ae HS;first|omega|(simp only[bw,d8,bd,cr,ft,fa,ai,ak];omega))).mono ?_
  rintro e w2⟨rfl,h1⟩
  go_wp2_with fail
  refine(pb 39 h1 (by have:=ae HS;first|omega|(simp only[bw,d8,bd,cr,ft,fa,ai,ak];omega))).mono ?_
  rintro e v2⟨rfl,h2⟩
  have q2:=my (wrong s [115,105,103,110]) 39
  go_wp2_with fail
  refine(pz (bb 39) (ie hc) (by rw[mp];first|exact hat|(simp[lp];done)) h2 (by have:=ae HS;first|omega|(simp only[bw,ft]at q2;omega))).mono ?_
  rintro e w3⟨rfl,h2⟩
  clear q2
  go_wp2
  go_ret
  exact⟨rfl,h2⟩
 by_cases n60:c=60
 ·have y:=n60
  clear n60
  subst y
  have hfin:f8 s 60=(0,(fw (dp (wrong s [115,105,103,110]) 60) (bb 60))):=by simp[f8,be,n38,n62,nc,n34,n39]
  rw[hfin]
  clear hfin
  have gj:ba 60=false:=az.2 be
  have e38:((60:Int)==38)=false:=af.2 n38
  have e62:((60:Int)==62)=false:=af.2 n62
  have Cz:((60:Int)== -1)=false:=af.2 nc
  have e34:((60:Int)==34)=false:=af.2 n34
  have e39:((60:Int)==39)=false:=af.2 n39
  clear be
  clear n38
  clear n62
  clear nc
  clear n34
  clear n39
  go_enter func138,ntmps138
  go_wp2_with fail
  refine(cg 60 _).mono ?_
  rintro e w1⟨rfl,rfl⟩
  go_wp2_with fail
  refine(mb [115,105,103,110] h (by have:=ae HS;first|omega|(simp only[bw,d8,bd,cr,ft,fa,ai,ak];omega))).mono ?_
  rintro e w2⟨rfl,h1⟩
  go_wp2_with fail
  refine(pb 60 h1 (by have:=ae HS;first|omega|(simp only[bw,d8,bd,cr,ft,fa,ai,ak];omega))).mono ?_
  rintro e v2⟨rfl,h2⟩
  have q2:=my (wrong s [115,105,103,110]) 60
  go_wp2_with fail
  refine(pz (bb 60) (ie hc) (by rw[mp];first|exact hat|(simp[lp];done)) h2 (by have:=ae HS;first|omega|(simp only[bw,ft]at q2;omega))).mono ?_
  rintro e w3⟨rfl,h2⟩
  clear q2
  go_wp2
  go_ret
  exact⟨rfl,h2⟩
 by_cases n61:c=61
 ·have y:=n61
  clear n61
  subst y
  have hfin:f8 s 61=(0,(fw (dp (wrong s [115,105,103,110]) 61) (bb 61))):=by simp[f8,be,n38,n62,nc,n34,n39,n60]
  rw[hfin]
  clear hfin
  have gj:ba 61=false:=az.2 be
  have e38:((61:Int)==38)=false:=af.2 n38
  have e62:((61:Int)==62)=false:=af.2 n62
  have Cz:((61:Int)== -1)=false:=af.2 nc
  have e34:((61:Int)==34)=false:=af.2 n34
  have e39:((61:Int)==39)=false:=af.2 n39
  have e60:((61:Int)==60)=false:=af.2 n60
  clear be
  clear n38
  clear n62
  clear nc
  clear n34
  clear n39
  clear n60
  go_enter func138,ntmps138
  go_wp2_with fail
  refine(cg 61 _).mono ?_
  rintro e w1⟨rfl,rfl⟩
  go_wp2_with fail
  refine(mb [115,105,103,110] h (by have:=ae HS;first|omega|(simp only[bw,d8,bd,cr,ft,fa,ai,ak];omega))).mono ?_
  rintro e w2⟨rfl,h1⟩
  go_wp2_with fail
  refine(pb 61 h1 (by have:=ae HS;first|omega|(simp only[bw,d8,bd,cr,ft,fa,ai,ak];omega))).mono ?_
  rintro e v2⟨rfl,h2⟩
  have q2:=my (wrong s [115,105,103,110]) 61
  go_wp2_with fail
  refine(pz (bb 61) (ie hc) (by rw[mp];first|exact hat|(simp[lp];done)) h2 (by have:=ae HS;first|omega|(simp only[bw,ft]at q2;omega))).mono ?_
  rintro e w3⟨rfl,h2⟩
  clear q2
  go_wp2
  go_ret
  exact⟨rfl,h2⟩
 by_cases n96:c=96
 ·have y:=n96
  clear n96
  subst y
  have hfin:f8 s 96=(0,(fw (dp (wrong s [115,105,103,110]) 96) (bb 96))):=by simp[f8,be,n38,n62,nc,n34,n39,n60,n61]
  rw[hfin]
  clear hfin
  have gj:ba 96=false:=az.2 be
  have e38:((96:Int)==38)=false:=af.2 n38
  have e62:((96:Int)==62)=false:=af.2 n62
  have Cz:((96:Int)== -1)=false:=af.2 nc
  have e34:((96:Int)==34)=false:=af.2 n34
  have e39:((96:Int)==39)=false:=af.2 n39
  have e60:((96:Int)==60)=false:=af.2 n60
  have e61:((96:Int)==61)=false:=af.2 n61
  clear be
  clear n38
  clear n62
  clear nc
  clear n34
  clear n39
  clear n60
  clear n61
  go_enter func138,ntmps138
  go_wp2_with fail
  refine(cg 96 _).mono ?_
  rintro e w1⟨rfl,rfl⟩
  go_wp2_with fail
  refine(mb [115,105,103,110] h (by have:=ae HS;first|omega|(simp only[bw,d8,bd,cr,ft,fa,ai,ak];omega))).mono ?_
  rintro e w2⟨rfl,h1⟩
  go_wp2_with fail
  refine(pb 96 h1 (by have:=ae HS;first|omega|(simp only[bw,d8,bd,cr,ft,fa,ai,ak];omega))).mono ?_
  rintro e v2⟨rfl,h2⟩
  have q2:=my (wrong s [115,105,103,110]) 96
  go_wp2_with fail
  refine(pz (bb 96) (ie hc) (by rw[mp];first|exact hat|(simp[lp];done)) h2 (by have:=ae HS;first|omega|(simp only[bw,ft]at q2;omega))).mono ?_
  rintro e w3⟨rfl,h2⟩
  clear q2
  go_wp2
  go_ret
  exact⟨rfl,h2⟩
 have hfin:f8 s c=(0,(fw (dp s c) (bb c))):=by simp[f8,be,n38,n62,nc,n34,n39,n60,n61,n96]
 rw[hfin]
 clear hfin
 have gj:ba c=false:=az.2 be
 have e38:((c:Int)==38)=false:=af.2 n38
 have e62:((c:Int)==62)=false:=af.2 n62
 have Cz:((c:Int)== -1)=false:=af.2 nc
 have e34:((c:Int)==34)=false:=af.2 n34
 have e39:((c:Int)==39)=false:=af.2 n39
 have e60:((c:Int)==60)=false:=af.2 n60
 have e61:((c:Int)==61)=false:=af.2 n61
 have e96:((c:Int)==96)=false:=af.2 n96
 clear be
 clear n38
 clear n62
 clear nc
 clear n34
 clear n39
 clear n60
 clear n61
 clear n96
 go_enter func138,ntmps138
 go_wp2_with fail
 refine(cg c _).mono ?_
 rintro e w1⟨rfl,rfl⟩
 go_wp2_with fail
 refine(pb c h (by have:=ae HS;first|omega|(simp only[bw,d8,bd,cr,ft,fa,ai,ak];omega))).mono ?_
 rintro e v1⟨rfl,h1⟩
 have q1:=my s c
 go_wp2_with fail
 refine(pz (bb c) (ie hc) (by rw[mp];first|exact hat|(simp[lp];done)) h1 (by have:=ae HS;first|omega|(simp only[bw,ft]at q1;omega))).mono ?_
 rintro e w2⟨rfl,h1⟩
 clear q1
 go_wp2
 go_ret
 exact⟨rfl,h1⟩
def jr(s:TS)(c:Int):Int×TS:=
 if ba c=true then(0,{s with state:=9})else
 if c=47 then(0,{s with state:=17})else
 if c=62 then(0,(mh s))else
 if c= -1 then(0,(iq s))else
 (1,{(wrong s [110,111,45,98,108,97,110,107])with state:=9})
theorem Jz(c:Int)(hc:Rn c)(h:Tk w0 aj b s ex w)(hs:sz s+12≤lim):
  Calls prog 139 #[.pointer (some ⟨b,0,none⟩),.int .i32 c] w fun e w'=>e= .returned (.int .i64 (jr s c).1)∧Tk w0 aj b (jr s c).2 ex w':=by
 have HS:=hide hs
 clear hs
 by_cases be:ba c=true
 ·have y:=be
  clear be
  have hfin:jr s c=(0,{s with state:=9}):=by simp[jr,y]
  rw[hfin]
  clear hfin
  go_enter func139,ntmps139
  go_wp2_with fail
  refine(cg c _).mono ?_
  rintro e w1⟨rfl,rfl⟩
  go_wp2_with fail
  refine(mr 9 h).mono ?_
  rintro e w2⟨rfl,h1⟩
  go_wp2
  go_ret
  exact⟨rfl,h1⟩
 by_cases n47:c=47
 ·have y:=n47
  clear n47
  subst y
  have hfin:jr s 47=(0,{s with state:=17}):=by simp[jr,be]
  rw[hfin]
  clear hfin
  have gj:ba 47=false:=az.2 be
  clear be
  go_enter func139,ntmps139
  go_wp2_with fail
  refine(cg 47 _).mono ?_
  rintro e w1⟨rfl,rfl⟩
  go_wp2_with fail
  refine(mr 17 h).mono ?_
  rintro e w2⟨rfl,h1⟩
  go_wp2
  go_ret
  exact⟨rfl,h1⟩
 by_cases n62:c=62
 ·have y:=n62
  clear n62
  subst y
  have hfin:jr s 62=(0,(mh s)):=by simp[jr,be,n47]
  rw[hfin]
  clear hfin
  have gj:ba 62=false:=az.2 be
  have e47:((62:Int)==47)=false:=af.2 n47
  clear be
  clear n47
  go_enter func139,ntmps139
  go_wp2_with fail
  refine(cg 62 _).mono ?_
  rintro e w1⟨rfl,rfl⟩
  go_wp2_with fail
  refine(u6 h (by have:=ae HS;first|omega|(simp only[bw,d8,bd,cr,ft,fa,ai,ak];omega))).mono ?_
  rintro e w2⟨rfl,h1⟩
  go_wp2
  go_ret
  exact⟨rfl,h1⟩
 by_cases nc:c= -1
 ·have y:=nc
  clear nc
  subst y
  have hfin:jr s (-1)=(0,(iq s)):=by simp[jr,be,n47,n62]
  rw[hfin]
  clear hfin
  have gj:ba (-1)=false:=az.2 be
  have e47:((-1:Int)==47)=false:=af.2 n47
  have e62:((-1:Int)==62)=false:=af.2 n62
  clear be
  clear n47
  clear n62
  go_enter func139,ntmps139
  go_wp2_with fail
  refine(cg (-1) _).mono ?_
  rintro e w1⟨rfl,rfl⟩
  go_wp2_with fail
  refine(th h (by have:=ae HS;first|omega|(simp only[bw,d8,bd,cr,ft,fa,ai,ak];omega))).mono ?_
  rintro e w2⟨rfl,h1⟩
  go_wp2
  go_ret
  exact⟨rfl,h1⟩
 have hfin:jr s c=(1,{(wrong s [110,111,45,98,108,97,110,107])with state:=9}):=by simp[jr,be,n47,n62,nc]
 rw[hfin]
 clear hfin
 have gj:ba c=false:=az.2 be
 have e47:((c:Int)==47)=false:=af.2 n47
 have e62:((c:Int)==62)=false:=af.2 n62
 have Cz:((c:Int)== -1)=false:=af.2 nc
 clear be
 clear n47
 clear n62
 clear nc
 go_enter func139,ntmps139
 go_wp2_with fail
 refine(cg c _).mono ?_
 rintro e w1⟨rfl,rfl⟩
 go_wp2_with fail
 refine(mb [110,111,45,98,108,97,110,107] h (by have:=ae HS;first|omega|(simp only[bw,d8,bd,cr,ft,fa,ai,ak];omega))).mono ?_
 rintro e w2⟨rfl,h1⟩
 go_wp2_with fail
 refine(ic 9 h1).mono ?_
 rintro e w3⟨rfl,h2⟩
 go_wp2
 go_ret
 exact⟨rfl,h2⟩
def jm(s:TS)(c:Int):Int×TS:=
 if c=34 then(0,{s with state:=16})else
 if c=38 then(0,(du s))else
 if c= -1 then(0,(iq s))else
 (0,(fw (dp s c) (bb c)))
theorem Id(c:Int)(hc:Rn c)(hat:s.tag.cy≠[])(h:Tk w0 aj b s ex w)(hs:sz s+16≤lim):
  Calls prog 137 #[.pointer (some ⟨b,0,none⟩),.int .i32 c,.int .i32 34] w fun e w'=>e= .returned (.int .i64 (jm s c).1)∧Tk w0 aj b (jm s c).2 ex w':=by
 have HS:=hide hs
 clear hs
 by_cases n34:c=34
 ·have y:=n34
  clear n34
  subst y
  have hfin:jm s 34=(0,{s with state:=16}):=by simp[jm]
  rw[hfin]
  clear hfin
  go_enter func137,ntmps137
  go_wp2_with fail
  refine(mr 16 h).mono ?_
  rintro e w2⟨rfl,h1⟩
  go_wp2
  go_ret
  exact⟨rfl,h1⟩
 by_cases n38:c=38
 ·have y:=n38
  clear n38
  subst y
  have hfin:jm s 38=(0,(du s)):=by simp[jm,n34]
  rw[hfin]
  clear hfin
  have e34:((38:Int)==34)=false:=af.2 n34
  clear n34
  go_enter func137,ntmps137
  go_wp2_with fail
  refine(sn h (by have:=ae HS;first|omega|(simp only[bw,d8,bd,cr,ft,fa,ai,ak];omega))).mono ?_
  rintro e w2⟨rfl,h1⟩
  go_wp2
  go_ret
  exact⟨rfl,h1⟩
 by_cases nc:c= -1
 ·have y:=nc
  clear nc
  subst y
  have hfin:jm s (-1)=(0,(iq s)):=by simp[jm,n34,n38]
  rw[hfin]
  clear hfin
  have e34:((-1:Int)==34)=false:=af.2 n34
  have e38:((-1:Int)==38)=false:=af.2 n38
  clear n34
  clear n38
  go_enter func137,ntmps137
  go_wp2_with fail
  refine(th h (by have:=ae HS;first|omega|(simp only[bw,d8,bd,cr,ft,fa,ai,ak];omega))).mono ?_
  rintro e w2⟨rfl,h1⟩
  go_wp2
  go_ret
  exact⟨rfl,h1⟩
 have hfin:jm s c=(0,(fw (dp s c) (bb c))):=by simp[jm,n34,n38,nc]
 rw[hfin]
 clear hfin
 have e34:((c:Int)==34)=false:=af.2 n34
 have e38:((c:Int)==38)=false:=af.2 n38
 have Cz:((c:Int)== -1)=false:=af.2 nc
 clear n34
 clear n38
 clear nc
 go_enter func137,ntmps137
 go_wp2_with fail
 refine(pb c h (by have:=ae HS;first|omega|(simp only[bw,d8,bd,cr,ft,fa,ai,ak];omega))).mono ?_
 rintro e v1⟨rfl,h1⟩
 have q1:=my s c
 go_wp2_with fail
 refine(pz (bb c) (ie hc) (by rw[mp];first|exact hat|(simp[lp];done)) h1 (by have:=ae HS;first|omega|(simp only[bw,ft]at q1;omega))).mono ?_
 rintro e w2⟨rfl,h1⟩
 clear q1
 go_wp2
 go_ret
 exact⟨rfl,h1⟩
def jn(s:TS)(c:Int):Int×TS:=
 if c=39 then(0,{s with state:=16})else
 if c=38 then(0,(du s))else
 if c= -1 then(0,(iq s))else
 (0,(fw (dp s c) (bb c)))
theorem Ie(c:Int)(hc:Rn c)(hat:s.tag.cy≠[])(h:Tk w0 aj b s ex w)(hs:sz s+16≤lim):
  Calls prog 137 #[.pointer (some ⟨b,0,none⟩),.int .i32 c,.int .i32 39] w fun e w'=>e= .returned (.int .i64 (jn s c).1)∧Tk w0 aj b (jn s c).2 ex w':=by
 have HS:=hide hs
 clear hs
 by_cases n39:c=39
 ·have y:=n39
  clear n39
  subst y
  have hfin:jn s 39=(0,{s with state:=16}):=by simp[jn]
  rw[hfin]
  clear hfin
  go_enter func137,ntmps137
  go_wp2_with fail
  refine(mr 16 h).mono ?_
  rintro e w2⟨rfl,h1⟩
  go_wp2
  go_ret
  exact⟨rfl,h1⟩
 by_cases n38:c=38
 ·have y:=n38
  clear n38
  subst y
  have hfin:jn s 38=(0,(du s)):=by simp[jn,n39]
  rw[hfin]
  clear hfin
  have e39:((38:Int)==39)=false:=af.2 n39
  clear n39
  go_enter func137,ntmps137
  go_wp2_with fail
  refine(sn h (by have:=ae HS;first|omega|(simp only[bw,d8,bd,cr,ft,fa,ai,ak];omega))).mono ?_
  rintro e w2⟨rfl,h1⟩
  go_wp2
  go_ret
  exact⟨rfl,h1⟩
 by_cases nc:c= -1
 ·have y:=nc
  clear nc
  subst y
  have hfin:jn s (-1)=(0,(iq s)):=by simp[jn,n39,n38]
  rw[hfin]
  clear hfin
  have e39:((-1:Int)==39)=false:=af.2 n39
  have e38:((-1:Int)==38)=false:=af.2 n38
  clear n39
  clear n38
  go_enter func137,ntmps137
  go_wp2_with fail
  refine(th h (by have:=ae HS;first|omega|(simp only[bw,d8,bd,cr,ft,fa,ai,ak];omega))).mono ?_
  rintro e w2⟨rfl,h1⟩
  go_wp2
  go_ret
  exact⟨rfl,h1⟩
 have hfin:jn s c=(0,(fw (dp s c) (bb c))):=by simp[jn,n39,n38,nc]
 rw[hfin]
 clear hfin
 have e39:((c:Int)==39)=false:=af.2 n39
 have e38:((c:Int)==38)=false:=af.2 n38
 have Cz:((c:Int)== -1)=false:=af.2 nc
 clear n39
 clear n38
 clear nc
 go_enter func137,ntmps137
 go_wp2_with fail
 refine(pb c h (by have:=ae HS;first|omega|(simp only[bw,d8,bd,cr,ft,fa,ai,ak];omega))).mono ?_
 rintro e v1⟨rfl,h1⟩
 have q1:=my s c
 go_wp2_with fail
 refine(pz (bb c) (ie hc) (by rw[mp];first|exact hat|(simp[lp];done)) h1 (by have:=ae HS;first|omega|(simp only[bw,ft]at q1;omega))).mono ?_
 rintro e w2⟨rfl,h1⟩
 clear q1
 go_wp2
 go_ret
 exact⟨rfl,h1⟩
end
end Go.Proofs.YtdfmapcnfficlaaGreatDoor

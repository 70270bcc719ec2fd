import Derived.Test.YtdfmapcnfficlaaGreatDoorP01
import Derived.Laws.IdiomStrings
import Derived.Laws.BytesArg
import Derived.Deep.RegionLaw
import Derived.Deep.DeepCutAuto
set_option linter.all false
set_option maxHeartbeats 1600000
set_option maxRecDepth 1000000
namespace Go.Proofs.YtdfmapcnfficlaaGreatDoor
open Go.Proofs.Tryz
open Go Go.RowKit
theorem ld.map_lt{w:World}{own:Nat→Prop}{b:Nat}{s:TS}{R:n9}{ex:List Item}(h:ld w own b s R ex):∀g,R.names=some g→g<w.heap.size:=by
 intro g hg
 have hm:=h.map
 rw[hg]at hm
 cases hn:s.tag.names with
 |none=>simp[mapOf,hn]at hm
 |some ks=>
  simp only[mapOf,hn]at hm
  obtain⟨es,c,he,_⟩:=hm
  exact(co.1 he).1
theorem ld.up{w:World}{own:Nat→Prop}{b:Nat}{s:TS}{R:n9}{ex:List Item}(h:ld w own b s R ex)(hup:∀k,w.heap.size≤k→own k):∀k,w.heap.size≤k→own k∧k≠b∧some k≠R.names:=
 fun k hk=>⟨hup k hk,fun e=>by have:=h.yh;omega,fun e=>by have:=h.map_lt k e.symm;omega⟩
theorem Items.bare{w:World}{own:Nat→Prop}{l:List Item}(h:Items w own l){it:Item}(hok:it.ok w)(hb:it.blk=none):Items w own (l++[it]):=by
 refine⟨fun x hx=> ?_,?_,?_⟩
 ·rcases List.mem_append.1 hx with hx|hx
  ·exact h.ok x hx
  ·rw[de.1 hx];exact hok
 ·simpa[hb]using h.nodup
 ·simpa[hb]using h.own
theorem Items.perm{w:World}{own:Nat→Prop}{l l':List Item}(h:Items w own l)(p:l.Perm l'):Items w own l':=
 ⟨fun x hx=>h.ok x (p.mem_iff.2 hx),(p.filterMap _).nodup_iff.1 h.nodup,fun k hk=>h.own k ((p.filterMap _).mem_iff.2 hk)⟩
theorem Items.less{w:World}{own:Nat→Prop}{l l':List Item}(h:Items w own l)(l1 l2 n:List Item)(p:l.Perm (l1++l2))(hn:∀it∈n,it.ok w∧it.blk=none)(p':l'.Perm (l1++n)):Items w own l':=by
 have h1:=h.perm p
 have hnb:n.filterMap Item.blk=[]:=by
  rw[List.filterMap_eq_nil_iff];exact fun it hi=>(hn it hi).2
 refine Items.perm ⟨fun x hx=> ?_,?_,?_⟩ p'.symm
 ·rcases List.mem_append.1 hx with hx|hx
  ·exact h1.ok x (List.mem_append_left _ hx)
  ·exact(hn x hx).1
 ·have:=h1.nodup
  rw[ij]at this⊢
  rw[hnb,gq]
  exact(List.nodup_append.1 this).1
 ·intro k hk
  rw[ij,hnb,gq]at hk
  exact h1.own k (by rw[ij];exact List.mem_append_left _ hk)
theorem qw(pre post:List Item)(x:Item):(pre++x::post).Perm ((pre++post)++[x]):=
 (List.perm_middle).trans (List.perm_append_comm (l₁:=[x]))
theorem q9(w:World):(cq ⟨none,0⟩ []).ok w:=World.ownsRow_nil w 0 5 1
theorem zgg{P:Program}{w:World}{a:Option Addr}{cap:Nat}{l:Str}{src dst e:TypeId}(hs:P.underlying src=some (.slice e))(he:P.underlying e=some (.int .u8))(hd:P.underlying dst=some .string)
  (h:w.ownsRow 0 e 1 (.slice a l.length cap) l.length (byteCells l)):(convert src dst (.slice a l.length cap)).run P w= .ok (.string ⟨l.toArray⟩) w:=by
 rcases h.2 with⟨hv,hn⟩|⟨g,cap',cur,hv,_⟩
 ·have hl:l=[]:=List.eq_nil_of_length_eq_zero hn
  subst hl
  injection hv with e1 e2 e3
  subst e1;subst e3
  exact run_convert_bytes_nil w src e hs he 0 0 dst hd
 ·injection hv with e1 e2 e3
  subst e1;subst e3
  refine run_convert_bytes_back w src dst e ⟨g,0,none⟩ _ l hs he hd fun j hj=> ?_
  exact World.ownsRow.cells h (g:=g) rfl j _ (by simp[byteCells,hj])
theorem oe{w:World}{r:Sl}{l:Str}(h:(cq r l).ok w):(convert 74 9 (.slice r.a l.length r.cap)).run prog w= .ok (.string ⟨l.toArray⟩) w:=
 zgg (P:=prog) underlying74 underlying5 underlying9 h
theorem xq(w:World):(lr ⟨none,0⟩ []).ok w:=World.ownsRow_nil w 0 9 1
structure More(w w1:World):Prop where
 os:w1.os=w.os
 tape:w1.tape=w.tape
 output:w1.output=w.output
 size:w.heap.size≤w1.heap.size
 block:∀k,k<w.heap.size→w1.heap[k]? =w.heap[k]?
theorem More.refl(w:World):More w w:=⟨rfl,rfl,rfl,cx _,fun _ _=>rfl⟩
theorem More.alloc{w w1:World}(h:More w w1)(o:Obj):More w (w1.alloc o):=⟨h.os,h.tape,h.output,by have:=h.size;simp;omega,fun k hk=>(Below.heap_alloc _ _ _ (by have:=h.size;omega)).trans (h.block k hk)⟩
theorem More.drew{w w1:World}(h:More w w1):More w w1.drew:=⟨h.os,h.tape,h.output,h.size,h.block⟩
theorem ld.Ub{w:World}{own:Nat→Prop}{b:Nat}{s:TS}{R:n9}{ex:List Item}(h:ld w own b s R ex){it:Item}(hit:it∈fe s R):∀k,(k=b∨some k=R.names)→some k≠it.blk:=by
 intro k hk e
 have:=h.rows.own k (ez.2 ⟨it,List.mem_append_left _ hit,e.symm⟩)
 rcases hk with rfl|hk
 ·exact this.2.1 rfl
 ·exact this.2.2 hk
theorem ld.mid{w w1 w':World}{own:Nat→Prop}{b:Nat}{s:TS}{R:n9}{ex:List Item}(h:ld w own b s R ex)(hm:More w w1){it:Item}(hit:it∈fe s R)(hg:w1.grownBy w' it.blk):w'.heap[b]? =some (.cells (cellsOf s R) 84 (0,0)):=by
 rw[hg.block b (by have:=h.yh;have:=hm.size;omega) (h.Ub hit b (.inl rfl)),hm.block b h.yh];exact h.self
theorem ld.grow{w w1 w':World}{own:Nat→Prop}{b:Nat}{s s':TS}{R R':n9}{ex ex':List Item}(h:ld w own b s R ex)(hm:More w w1)(hup:∀k,w.heap.size≤k→own k)
  (l1 l2:List Item) (it it':Item) (hit:it∈fe s R) (e:(fe s R++ex).Perm (l1++it::l2)) (e':(fe s' R'++ex').Perm (l1++it'::l2)) (hok:it'.ok w') (hg:w1.grownBy w' it.blk) (hf:it'.blk=it.blk∨∃g,it'.blk=some g∧w1.heap.size≤g)
  (o:Nat) (v:Value) (hc:(cellsOf s R).setIfInBounds o v=cellsOf s' R') (hn:R'.names=R.names) (hn':s'.tag.names=s.tag.names)
  (la:R'.kg.length=s'.tag.cy.length) (lv:R'.jb.length=s'.tag.cy.length) (lt:R'.cz.length=s'.told.length):ld (w'.setCell ⟨b,o,none⟩ v) own b s' R' ex':=by
 have hself:=h.mid hm hit hg
 have hI:Items w1 (fun k=>own k∧k≠b∧some k≠R.names) (l1++it::l2):=(h.rows.perm e).kept fun k hk _=>hm.block k hk
 have hI':=hI.step hg hok hf (fun k hk=>h.up hup k (by have:=hm.size;omega))
 refine⟨by rw[set_self hself,hc],h.ownB,?_,?_,by rw[hn];exact h.sj,la,lv,lt⟩
 ·rw[hn]
  exact(hI'.kept fun k _ hk=>kj _ hk.2.1).perm e'.symm
 ·rw[hn,hn']
  refine qj h.map fun g hgn=> ?_
  rw[kj _ (h.sj g hgn).2,hg.block g (by have:=h.map_lt g hgn;have:=hm.size;omega) (h.Ub hit g (.inr hgn.symm)),hm.block g (h.map_lt g hgn)]
theorem ld.anew{w w':World}{own:Nat→Prop}{b:Nat}{s s':TS}{R R':n9}{ex ex':List Item}(h:ld w own b s R ex)(hself:w'.heap[b]? =some (.cells (cellsOf s' R') 84 (0,0)))(hoth:∀k,k≠b→w'.heap[k]? =w.heap[k]?)
  (l1 l2 n:List Item) (p:(fe s R++ex).Perm (l1++l2)) (hn:∀it∈n,it.ok w∧it.blk=none) (p':(fe s' R'++ex').Perm (l1++n))
  (hnm:(R'.names=R.names∧s'.tag.names=s.tag.names)∨(R'.names=none∧s'.tag.names=none))
  (la:R'.kg.length=s'.tag.cy.length) (lv:R'.jb.length=s'.tag.cy.length) (lt:R'.cz.length=s'.told.length):ld w' own b s' R' ex':=by
 have hI:Items w' (fun k=>own k∧k≠b∧some k≠R.names) (fe s' R'++ex'):=(h.rows.less l1 l2 n p hn p').kept fun k _ hk=>hoth k hk.2.1
 rcases hnm with⟨hn1,hn2⟩|⟨hn1,hn2⟩
 ·refine⟨hself,h.ownB,by rw[hn1];exact hI,?_,by rw[hn1];exact h.sj,la,lv,lt⟩
  rw[hn1,hn2]
  exact qj h.map fun g hg=>hoth g (h.sj g hg).2
 ·refine⟨hself,h.ownB,⟨hI.ok,hI.nodup,fun k hk=>⟨(hI.own k hk).1,(hI.own k hk).2.1,by rw[hn1];simp⟩⟩,?_,by rw[hn1];simp,la,lv,lt⟩
  rw[hn1,hn2]
  trivial
theorem Kept.anew{own:Nat→Prop}{w0 w w':World}(h:Kept own w0 w){b:Nat}(hb:own b∨w0.heap.size≤b)(he:w'.os=w.os∧w'.tape=w.tape∧w'.output=w.output∧w'.heap.size=w.heap.size)(hoth:∀k,k≠b→w'.heap[k]? =w.heap[k]?):Kept own w0 w':=
 ⟨he.1.trans h.os,he.2.1.trans h.tape,he.2.2.1.trans h.output,by rw[he.2.2.2];exact h.size,fun k hk hn=>by
  rw[hoth k (fun e=>by subst e;rcases hb with hb|hb;exact hn hb;omega)];exact h.block k hk hn⟩
theorem Kept.grown{own:Nat→Prop}{w0 w w1 w':World}(h:Kept own w0 w)(hm:More w w1){row:Option Nat}(hg:w1.grownBy w' row)(hr:∀k,row=some k→own k∨w0.heap.size≤k):Kept own w0 w':=
 ⟨(hg.os.trans hm.os).trans h.os,(hg.tape.trans hm.tape).trans h.tape,(hg.output.trans hm.output).trans h.output,by have:=h.size;have:=hg.size;have:=hm.size;omega,
  fun k hk hn=>by
  have hs:=h.size
  have hs':=hm.size
  rw[hg.block k (by omega) (fun e=>by rcases hr k e.symm with h1|h1;exact hn h1;omega),hm.block k (by omega)];exact h.block k hk hn⟩
theorem ld.qm{w:World}{own:Nat→Prop}{b:Nat}{s:TS}{R:n9}{ex:List Item}(h:ld w own b s R ex){it:Item}(hit:it∈fe s R):∀k,it.blk=some k→own k:=
 fun k hk=>(h.rows.own k (ez.2 ⟨it,List.mem_append_left _ hit,hk⟩)).1
theorem ld.po{w0 w w1 w':World}{aj:Nat→Prop}{b:Nat}{s:TS}{R:n9}{ex:List Item}(h:ld w (fun k=>aj k∨w0.heap.size≤k) b s R ex)(hk:Kept aj w0 w)(hm:More w w1)
  (l:Str) (r':Sl) (hok:(cq r' l).ok w') (hg:w1.grownBy w' (R.text.a.map (·.block))) (hf:o0 w1 R.text.a r'.a):
  w'.heap[b]? =some (.cells (cellsOf s R) 84 (0,0))∧Tk w0 aj b {s with text:=l} ex (w'.setCell ⟨b,8,none⟩ (.slice r'.a l.length r'.cap)):=by
 have hit:cq R.text s.text∈fe s R:=by simp[fe]
 have hup:∀k,w.heap.size≤k→(aj k∨w0.heap.size≤k):=fun k hh=> .inr (fz hk.size hh)
 refine⟨h.mid hm hit hg,⟨{R with text:=r'},?_⟩,(hk.grown hm hg (h.qm hit)).setCell 8 _ h.ownB⟩
 exact h.grow hm hup [] ([cq R.fi s.tag.name,cq R.buffer s.tag.buffer,⟨210,3,R.cy.a,s.tag.cy.length,R.cy.cap,jl s.tag.cy R.kg R.jb⟩,cq R.comment s.comment,cq R.jw s.jw,⟨34,6,R.told.a,s.told.length,R.told.cap,eh s.told R.cz⟩]++(ma s.tag.cy R.kg R.jb++cw s.told R.cz)++ex) (cq R.text s.text) (cq r' l) hit (by simp[fe]) (by simp[fe]) hok hg hf 8 _ rfl rfl rfl h.la h.lv h.lt
theorem ld.M8{w0 w w1 w':World}{aj:Nat→Prop}{b:Nat}{s:TS}{R:n9}{ex:List Item}(h:ld w (fun k=>aj k∨w0.heap.size≤k) b s R ex)(hk:Kept aj w0 w)(hm:More w w1)
  (l:Str) (r':Sl) (hok:(cq r' l).ok w') (hg:w1.grownBy w' (R.fi.a.map (·.block))) (hf:o0 w1 R.fi.a r'.a):
  w'.heap[b]? =some (.cells (cellsOf s R) 84 (0,0))∧Tk w0 aj b {s with tag:={s.tag with name:=l}} ex (w'.setCell ⟨b,10,none⟩ (.slice r'.a l.length r'.cap)):=by
 have hit:cq R.fi s.tag.name∈fe s R:=by simp[fe]
 have hup:∀k,w.heap.size≤k→(aj k∨w0.heap.size≤k):=fun k hh=> .inr (fz hk.size hh)
 refine⟨h.mid hm hit hg,⟨{R with fi:=r'},?_⟩,(hk.grown hm hg (h.qm hit)).setCell 10 _ h.ownB⟩
 exact h.grow hm hup [cq R.text s.text] ([cq R.buffer s.tag.buffer,⟨210,3,R.cy.a,s.tag.cy.length,R.cy.cap,jl s.tag.cy R.kg R.jb⟩,cq R.comment s.comment,cq R.jw s.jw,⟨34,6,R.told.a,s.told.length,R.told.cap,eh s.told R.cz⟩]++(ma s.tag.cy R.kg R.jb++cw s.told R.cz)++ex) (cq R.fi s.tag.name) (cq r' l) hit (by simp[fe]) (by simp[fe]) hok hg hf 10 _ rfl rfl rfl h.la h.lv h.lt
theorem ld.W0{w0 w w1 w':World}{aj:Nat→Prop}{b:Nat}{s:TS}{R:n9}{ex:List Item}(h:ld w (fun k=>aj k∨w0.heap.size≤k) b s R ex)(hk:Kept aj w0 w)(hm:More w w1)
  (l:Str) (r':Sl) (hok:(cq r' l).ok w') (hg:w1.grownBy w' (R.buffer.a.map (·.block))) (hf:o0 w1 R.buffer.a r'.a):
  w'.heap[b]? =some (.cells (cellsOf s R) 84 (0,0))∧Tk w0 aj b {s with tag:={s.tag with buffer:=l}} ex (w'.setCell ⟨b,11,none⟩ (.slice r'.a l.length r'.cap)):=by
 have hit:cq R.buffer s.tag.buffer∈fe s R:=by simp[fe]
 have hup:∀k,w.heap.size≤k→(aj k∨w0.heap.size≤k):=fun k hh=> .inr (fz hk.size hh)
 refine⟨h.mid hm hit hg,⟨{R with buffer:=r'},?_⟩,(hk.grown hm hg (h.qm hit)).setCell 11 _ h.ownB⟩
 exact h.grow hm hup [cq R.text s.text,cq R.fi s.tag.name] ([⟨210,3,R.cy.a,s.tag.cy.length,R.cy.cap,jl s.tag.cy R.kg R.jb⟩,cq R.comment s.comment,cq R.jw s.jw,⟨34,6,R.told.a,s.told.length,R.told.cap,eh s.told R.cz⟩]++(ma s.tag.cy R.kg R.jb++cw s.told R.cz)++ex) (cq R.buffer s.tag.buffer) (cq r' l) hit (by simp[fe]) (by simp[fe]) hok hg hf 11 _ rfl rfl rfl h.la h.lv h.lt
theorem ld.Cx{w0 w w1 w':World}{aj:Nat→Prop}{b:Nat}{s:TS}{R:n9}{ex:List Item}(h:ld w (fun k=>aj k∨w0.heap.size≤k) b s R ex)(hk:Kept aj w0 w)(hm:More w w1)
  (l:Str) (r':Sl) (hok:(cq r' l).ok w') (hg:w1.grownBy w' (R.comment.a.map (·.block))) (hf:o0 w1 R.comment.a r'.a):
  w'.heap[b]? =some (.cells (cellsOf s R) 84 (0,0))∧Tk w0 aj b {s with comment:=l} ex (w'.setCell ⟨b,17,none⟩ (.slice r'.a l.length r'.cap)):=by
 have hit:cq R.comment s.comment∈fe s R:=by simp[fe]
 have hup:∀k,w.heap.size≤k→(aj k∨w0.heap.size≤k):=fun k hh=> .inr (fz hk.size hh)
 refine⟨h.mid hm hit hg,⟨{R with comment:=r'},?_⟩,(hk.grown hm hg (h.qm hit)).setCell 17 _ h.ownB⟩
 exact h.grow hm hup [cq R.text s.text,cq R.fi s.tag.name,cq R.buffer s.tag.buffer,⟨210,3,R.cy.a,s.tag.cy.length,R.cy.cap,jl s.tag.cy R.kg R.jb⟩] ([cq R.jw s.jw,⟨34,6,R.told.a,s.told.length,R.told.cap,eh s.told R.cz⟩]++(ma s.tag.cy R.kg R.jb++cw s.told R.cz)++ex) (cq R.comment s.comment) (cq r' l) hit (by simp[fe]) (by simp[fe]) hok hg hf 17 _ rfl rfl rfl h.la h.lv h.lt
theorem ld.zak{w0 w w1 w':World}{aj:Nat→Prop}{b:Nat}{s:TS}{R:n9}{ex:List Item}(h:ld w (fun k=>aj k∨w0.heap.size≤k) b s R ex)(hk:Kept aj w0 w)(hm:More w w1)
  (l:Str) (r':Sl) (hok:(cq r' l).ok w') (hg:w1.grownBy w' (R.jw.a.map (·.block))) (hf:o0 w1 R.jw.a r'.a):
  w'.heap[b]? =some (.cells (cellsOf s R) 84 (0,0))∧Tk w0 aj b {s with jw:=l} ex (w'.setCell ⟨b,18,none⟩ (.slice r'.a l.length r'.cap)):=by
 have hit:cq R.jw s.jw∈fe s R:=by simp[fe]
 have hup:∀k,w.heap.size≤k→(aj k∨w0.heap.size≤k):=fun k hh=> .inr (fz hk.size hh)
 refine⟨h.mid hm hit hg,⟨{R with jw:=r'},?_⟩,(hk.grown hm hg (h.qm hit)).setCell 18 _ h.ownB⟩
 exact h.grow hm hup [cq R.text s.text,cq R.fi s.tag.name,cq R.buffer s.tag.buffer,⟨210,3,R.cy.a,s.tag.cy.length,R.cy.cap,jl s.tag.cy R.kg R.jb⟩,cq R.comment s.comment] ([⟨34,6,R.told.a,s.told.length,R.told.cap,eh s.told R.cz⟩]++(ma s.tag.cy R.kg R.jb++cw s.told R.cz)++ex) (cq R.jw s.jw) (cq r' l) hit (by simp[fe]) (by simp[fe]) hok hg hf 18 _ rfl rfl rfl h.la h.lv h.lt
theorem Uc{w0:World}{aj:Nat→Prop}{b:Nat}{s:TS}{ex:List Item}{w:World}(h:Tk w0 aj b s ex w):Tk w0 aj b {s with text:=[]} ex (w.setCell ⟨b,8,none⟩ (.slice none 0 0)):=by
 obtain⟨⟨R,hR⟩,hk⟩:=h
 refine⟨⟨{R with text:=⟨none,0⟩},?_⟩,hk.setCell 8 _ hR.ownB⟩
 refine hR.anew (by rw[set_self hR.self];rfl) (fun k hk=>kj _ hk) ([]++([cq R.fi s.tag.name,cq R.buffer s.tag.buffer,⟨210,3,R.cy.a,s.tag.cy.length,R.cy.cap,jl s.tag.cy R.kg R.jb⟩,cq R.comment s.comment,cq R.jw s.jw,⟨34,6,R.told.a,s.told.length,R.told.cap,eh s.told R.cz⟩]++(ma s.tag.cy R.kg R.jb++cw s.told R.cz)++ex)) [cq R.text s.text] [cq ⟨none,0⟩ []] (qw [] ([cq R.fi s.tag.name,cq R.buffer s.tag.buffer,⟨210,3,R.cy.a,s.tag.cy.length,R.cy.cap,jl s.tag.cy R.kg R.jb⟩,cq R.comment s.comment,cq R.jw s.jw,⟨34,6,R.told.a,s.told.length,R.told.cap,eh s.told R.cz⟩]++(ma s.tag.cy R.kg R.jb++cw s.told R.cz)++ex) (cq R.text s.text)) ?_ (qw [] ([cq R.fi s.tag.name,cq R.buffer s.tag.buffer,⟨210,3,R.cy.a,s.tag.cy.length,R.cy.cap,jl s.tag.cy R.kg R.jb⟩,cq R.comment s.comment,cq R.jw s.jw,⟨34,6,R.told.a,s.told.length,R.told.cap,eh s.told R.cz⟩]++(ma s.tag.cy R.kg R.jb++cw s.told R.cz)++ex) (cq ⟨none,0⟩ [])) (.inl ⟨rfl,rfl⟩) hR.la hR.lv hR.lt
 intro it hi
 rw[de.1 hi]
 exact⟨q9 w,rfl⟩
theorem Lm{w0:World}{aj:Nat→Prop}{b:Nat}{s:TS}{ex:List Item}{w:World}(h:Tk w0 aj b s ex w):Tk w0 aj b {s with comment:=[]} ex (w.setCell ⟨b,17,none⟩ (.slice none 0 0)):=by
 obtain⟨⟨R,hR⟩,hk⟩:=h
 refine⟨⟨{R with comment:=⟨none,0⟩},?_⟩,hk.setCell 17 _ hR.ownB⟩
 refine hR.anew (by rw[set_self hR.self];rfl) (fun k hk=>kj _ hk) ([cq R.text s.text,cq R.fi s.tag.name,cq R.buffer s.tag.buffer,⟨210,3,R.cy.a,s.tag.cy.length,R.cy.cap,jl s.tag.cy R.kg R.jb⟩]++([cq R.jw s.jw,⟨34,6,R.told.a,s.told.length,R.told.cap,eh s.told R.cz⟩]++(ma s.tag.cy R.kg R.jb++cw s.told R.cz)++ex)) [cq R.comment s.comment] [cq ⟨none,0⟩ []] (qw [cq R.text s.text,cq R.fi s.tag.name,cq R.buffer s.tag.buffer,⟨210,3,R.cy.a,s.tag.cy.length,R.cy.cap,jl s.tag.cy R.kg R.jb⟩] ([cq R.jw s.jw,⟨34,6,R.told.a,s.told.length,R.told.cap,eh s.told R.cz⟩]++(ma s.tag.cy R.kg R.jb++cw s.told R.cz)++ex) (cq R.comment s.comment)) ?_ (qw [cq R.text s.text,cq R.fi s.tag.name,cq R.buffer s.tag.buffer,⟨210,3,R.cy.a,s.tag.cy.length,R.cy.cap,jl s.tag.cy R.kg R.jb⟩] ([cq R.jw s.jw,⟨34,6,R.told.a,s.told.length,R.told.cap,eh s.told R.cz⟩]++(ma s.tag.cy R.kg R.jb++cw s.told R.cz)++ex) (cq ⟨none,0⟩ [])) (.inl ⟨rfl,rfl⟩) hR.la hR.lv hR.lt
 intro it hi
 rw[de.1 hi]
 exact⟨q9 w,rfl⟩
theorem infoToken:(prog.info? 34).map (fun i=>(i.zero,i.size,i.bytes))=some (some (.agg #[.int .i64 0,.string ⟨#[]⟩,.slice none 0 0,.string ⟨#[]⟩,.bool false,.int .i64 0]),6,80):=by kernel_rfl
theorem ul(t:Tok)(a:Sl):∀(ts:List Tok)(rs:List Sl),rs.length=ts.length→eh (ts++[t]) (rs++[a])=eh ts rs++fq t a
 |[],[],_=>by simp[eh]
 |_::ts,_::rs,h=>by simp[eh,ul t a ts rs (by simpa using h)]
theorem xr(t:Tok)(a:Sl):∀(ts:List Tok)(rs:List Sl),rs.length=ts.length→cw (ts++[t]) (rs++[a])=cw ts rs++[lr a t.attrs]
 |[],[],_=>by simp[cw]
 |_::ts,_::rs,h=>by simp[cw,xr t a ts rs (by simpa using h)]
def Al(w0:World)(aj:Nat→Prop)(b:Nat)(s:TS)(R:n9)(ex:List Item)(w:World):Prop:=
 ld w (fun k=>aj k∨w0.heap.size≤k) b s R ex∧Kept aj w0 w
theorem Al.tk{w0:World}{aj:Nat→Prop}{b:Nat}{s:TS}{R:n9}{ex:List Item}{w:World}(h:Al w0 aj b s R ex w):Tk w0 aj b s ex w:=⟨⟨R,h.1⟩,h.2⟩
theorem Tk.reg{w0:World}{aj:Nat→Prop}{b:Nat}{s:TS}{ex:List Item}{w:World}(h:Tk w0 aj b s ex w):∃R,Al w0 aj b s R ex w:=by
 obtain⟨⟨R,hR⟩,hk⟩:=h
 exact⟨R,hR,hk⟩
def cj(s:TS)(t:Tok):TS:={s with told:=s.told++[t]}
theorem ld.yl{w0 w w1 w':World}{aj:Nat→Prop}{b:Nat}{s:TS}{R:n9}{ex:List Item}(t:Tok)(x:Sl)(h:ld w (fun k=>aj k∨w0.heap.size≤k) b s R (lr x t.attrs::ex))(hk:Kept aj w0 w)(hm:More w w1)
  (a':Addr) (cap':Nat) (hown:w'.ownsRow 0 34 6 (.slice (some a') (s.told.length+1) cap') (s.told.length+1) (eh s.told R.cz++fq t x))
  (hg:w1.grownBy w' (R.told.a.map (·.block))) (hf:some a'.block=R.told.a.map (·.block)∨w1.heap.size≤a'.block):
  w'.heap[b]? =some (.cells (cellsOf s R) 84 (0,0))∧Al w0 aj b (cj s t) {R with told:=⟨some a',cap'⟩,cz:=R.cz++[x]} ex (w'.setCell ⟨b,25,none⟩ (.slice (some a') (s.told.length+1) cap')):=by
 have hit:(⟨34,6,R.told.a,s.told.length,R.told.cap,eh s.told R.cz⟩:Item)∈fe s R:=by simp[fe]
 have hup:∀k,w.heap.size≤k→(aj k∨w0.heap.size≤k):=fun k hh=> .inr (fz hk.size hh)
 refine⟨h.mid hm hit hg,?_,(hk.grown hm hg (h.qm hit)).setCell 25 _ h.ownB⟩
 exact h.grow hm hup [cq R.text s.text,cq R.fi s.tag.name,cq R.buffer s.tag.buffer,⟨210,3,R.cy.a,s.tag.cy.length,R.cy.cap,jl s.tag.cy R.kg R.jb⟩,cq R.comment s.comment,cq R.jw s.jw]
  (ma s.tag.cy R.kg R.jb++cw s.told R.cz++lr x t.attrs::ex) ⟨34,6,R.told.a,s.told.length,R.told.cap,eh s.told R.cz⟩ ⟨34,6,some a',s.told.length+1,cap',eh s.told R.cz++fq t x⟩ hit
  (by simp[fe]) (by simp[fe,cj,ul t x _ _ h.lt,xr t x _ _ h.lt]) hown hg (by
  rcases hf with hf|hf
  ·exact .inl (by simpa[Item.blk]using hf)
  ·exact .inr ⟨a'.block,rfl,hf⟩) 25 _ (by simp[cellsOf,cj]) rfl rfl h.la h.lv (by simp[cj,h.lt])
theorem ld.bare{w:World}{own:Nat→Prop}{b:Nat}{s:TS}{R:n9}{ex:List Item}(h:ld w own b s R ex):ld w own b s R (lr ⟨none,0⟩ []::ex):=
 ⟨h.self,h.ownB,(h.rows.bare (xq w) rfl).perm (by rw[fm];exact List.Perm.append_left _ (List.perm_append_comm)),h.map,h.sj,h.la,h.lv,h.lt⟩
theorem um(t:Tok)(x:Sl)(w:World)(T:TypeId):∀j u,(fq t x)[j]? =some u→(w.alloc (.cells (fq t x).toArray T)).cell? ((⟨w.heap.size,0,none⟩:Addr).add j)=some u:=by
 intro j u hu
 match j,hu with
 |0,hu=>simp[fq]at hu;subst hu;simp[Addr.add,fq]
 |1,hu=>simp[fq]at hu;subst hu;simp[Addr.add,fq]
 |2,hu=>simp[fq]at hu;subst hu;simp[Addr.add,fq]
 |3,hu=>simp[fq]at hu;subst hu;simp[Addr.add,fq]
 |4,hu=>simp[fq]at hu;subst hu;simp[Addr.add,fq]
 |5,hu=>simp[fq]at hu;subst hu;simp[Addr.add,fq]
 |n+6,hu=>simp[fq]at hu
theorem r8(t:Tok)(x:Sl):∀u∈fq t x,u.oneCell'=true:=by
 intro u hu;simp[fq]at hu;rcases hu with rfl|rfl|rfl|rfl|rfl|rfl<;>rfl
def lim:Nat:=1099511627776
theorem Bi{n:Nat}(h:n≤lim):n+1≤maxLen:=by unfold lim at h;unfold maxLen;omega
theorem Cy{n:Nat}(h:n≤lim):(n+1)*80≤140737488355328:=by unfold lim at h;omega
def bz(s:TS)(name:Str)(place:Int):TS:=cj s {kind:=5,name:=name,place:=place}
def wrong(s:TS)(name:Str):TS:=bz s name s.place
theorem Gl{w0:World}{aj:Nat→Prop}{b:Nat}{s:TS}{R:n9}{ex:List Item}{w:World}(name:Str)(place:Int)(h:Al w0 aj b s R ex w)(hs:s.told.length≤lim):
  Calls prog 204 #[.pointer (some ⟨b,0,none⟩),.string ⟨name.toArray⟩,.int .i64 place] w fun e w'=>∃tl ta,e= .returned (.tuple #[])∧Al w0 aj b (bz s name place) {R with told:=tl,cz:=ta} ex w':=by
 obtain⟨hR,hk⟩:=h
 have c19:w.cell? ⟨b,25,none⟩=some (.slice R.told.a s.told.length R.told.cap):=hR.cell 25
 have hf:=hR.frozen
 obtain⟨i0,hi,hz0,hz1,hz2⟩:=info_parts infoToken
 have HS:Hid (s.told.length≤lim):=hs
 clear hs
 go_enter func204,ntmps204
 go_wp2_with(at_builtin;refine dh _ rfl (.tmp 10) (.tmp 14) 30 rfl 34 i0 _ 6 80 underlying30 hi hz0 hz1 hz2 rfl (by decide) R.told.a s.told.length R.told.cap (eh s.told R.cz) rfl ?own ⟨w.heap.size,0,none⟩ 1 1 (fq {kind:=5,name:=name,place:=place} ⟨none,0⟩) rfl rfl (um _ _ _ _) (r8 _ _) (by decide) (Bi HS.out) (Cy HS.out) ?next)
 case own=>exact bh (hR.rows.ok ⟨34,6,R.told.a,s.told.length,R.told.cap,eh s.told R.cz⟩ (by simp[fe])) _
 case next=>
  intro a' cap' w' hown hgrow hfresh
  obtain⟨hself,hT⟩:=ld.yl {kind:=5,name:=name,place:=place} ⟨none,0⟩ hR.bare hk ((More.refl w).alloc _) a' cap' hown hgrow (by simpa using hfresh)
  have d19:w'.cell? ⟨b,25,none⟩=some (.slice R.told.a s.told.length R.told.cap):=bg hself 25
  have df:=bn hself
  go_wp2
  go_end0
  exact⟨_,_,rfl,hT⟩
theorem xe{w0:World}{aj:Nat→Prop}{b:Nat}{s:TS}{R:n9}{ex:List Item}{w:World}(name:Str)(h:Al w0 aj b s R ex w)(hs:s.told.length≤lim):
  Calls prog 160 #[.pointer (some ⟨b,0,none⟩),.string ⟨name.toArray⟩] w fun e w'=>∃tl ta,e= .returned (.tuple #[])∧Al w0 aj b (wrong s name) {R with told:=tl,cz:=ta} ex w':=by
 have h':=h
 obtain⟨hR,hk⟩:=h
 have c6:w.cell? ⟨b,7,none⟩=some (.int .i64 s.place):=hR.cell 7
 have hf:=hR.frozen
 have HS:Hid (s.told.length≤lim):=hs
 clear hs
 go_enter func160,ntmps160
 go_wp2_with(go_at_call 204;refine(Gl name s.place h' HS.out).mono ?_;rintro e w'⟨tl,ta,rfl,h1⟩)
 go_end0
 exact⟨tl,ta,rfl,h1⟩
section
variable{w0:World}{aj:Nat→Prop}{b:Nat}{s:TS}{ex:List Item}{w:World}
theorem Ud(name:Str)(place:Int)(h:Tk w0 aj b s ex w)(hs:s.told.length≤lim):
  Calls prog 204 #[.pointer (some ⟨b,0,none⟩),.string ⟨name.toArray⟩,.int .i64 place] w fun e w'=>e= .returned (.tuple #[])∧Tk w0 aj b (bz s name place) ex w':=by
 obtain⟨R,hR⟩:=h.reg
 refine(Gl name place hR hs).mono ?_
 rintro e w'⟨tl,ta,rfl,h1⟩
 exact⟨rfl,h1.tk⟩
theorem v8(name:Str)(h:Tk w0 aj b s ex w)(hs:s.told.length≤lim):
  Calls prog 160 #[.pointer (some ⟨b,0,none⟩),.string ⟨name.toArray⟩] w fun e w'=>e= .returned (.tuple #[])∧Tk w0 aj b (wrong s name) ex w':=by
 obtain⟨R,hR⟩:=h.reg
 refine(xe name hR hs).mono ?_
 rintro e w'⟨tl,ta,rfl,h1⟩
 exact⟨rfl,h1.tk⟩
end
end Go.Proofs.YtdfmapcnfficlaaGreatDoor
namespace Go.Proofs.YtdfmapcnfficlaaGreatDoor
open Go Go.RowKit
section
variable{w0:World}{aj:Nat→Prop}{b:Nat}{s:TS}{ex:List Item}{w:World}
def yj(w0:World)(aj:Nat→Prop)(w:World):Nat→Prop:=fun k=>(aj k∨w0.heap.size≤k)∧k<w.heap.size
theorem Tk.fresh{w':World}(h:Tk w0 aj b s ex w)(hm:More w w'):Tk w' (yj w0 aj w) b s ex w':=by
 obtain⟨⟨R0,hR0⟩,hk0⟩:=h
 have h2:∀R,ld w (fun k=>aj k∨w0.heap.size≤k) b s R ex→ld w' (fun k=>yj w0 aj w k∨w'.heap.size≤k) b s R ex:=fun R hR=>by
  refine⟨?_,.inl ⟨hR.ownB,hR.yh⟩,⟨?_,hR.rows.nodup,fun k hk'=> ?_⟩,qj hR.map fun g hg=>hm.block g (hR.map_lt g hg),fun g hg=>⟨.inl ⟨(hR.sj g hg).1,hR.map_lt g hg⟩,(hR.sj g hg).2⟩,hR.la,hR.lv,hR.lt⟩
  ·rw[hm.block b hR.yh];exact hR.self
  ·exact(hR.rows.kept (w':=w') fun k hk' _=>hm.block k hk').ok
  ·obtain⟨x,hx,hb⟩:=ez.1 hk'
   exact⟨.inl ⟨(hR.rows.own k hk').1,Item.lt (hR.rows.ok x hx) k hb⟩,(hR.rows.own k hk').2⟩
 exact⟨⟨R0,h2 R0 hR0⟩,Kept.refl _ _⟩
theorem Tk.qn{w1 w2:World}(h:Tk w1 (yj w0 aj w) b s ex w2)(hk:Kept aj w0 w1):Tk w0 aj b s ex w2:=by
 obtain⟨⟨R,hR⟩,hk1⟩:=h
 have hup:∀k,(yj w0 aj w k∨w1.heap.size≤k)→(aj k∨w0.heap.size≤k):=fun k hh=>hh.elim (fun h=>h.1) (fun h=> .inr (fz hk.size h))
 refine⟨⟨R,hR.self,hup _ hR.ownB,⟨hR.rows.ok,hR.rows.nodup,fun k hk'=>⟨hup _ (hR.rows.own k hk').1,(hR.rows.own k hk').2⟩⟩,hR.map,fun g hg=>⟨hup _ (hR.sj g hg).1,(hR.sj g hg).2⟩,hR.la,hR.lv,hR.lt⟩,?_⟩
 exact hk.trans hk1 fun x hx hh=>hh.1.elim id (fun h=>by omega)
theorem Tk.stands{w1 w2:World}(h:Tk w1 (yj w0 aj w) b s ex w2){g:Nat}(h1:w.heap.size≤g)(h2:g<w1.heap.size):w2.heap[g]? =w1.heap[g]? :=
 h.2.block g h2 (fun hh=>by have:=hh.2;omega)
theorem Kept.more{w1:World}(h:Kept aj w0 w)(hm:More w w1):Kept aj w0 w1:=
 ⟨hm.os.trans h.os,hm.tape.trans h.tape,hm.output.trans h.output,fz h.size hm.size,fun k hk hn=>(hm.block k (by have:=h.size;omega)).trans (h.block k hk hn)⟩
end
end Go.Proofs.YtdfmapcnfficlaaGreatDoor
namespace Go.Proofs.YtdfmapcnfficlaaGreatDoor
open Go.Proofs.Tryz
open Go Go.RowKit
theorem hide{p:Prop}(h:p):Hid p:=h
theorem ae{p:Prop}(h:Hid p):p:=h
theorem fx{P:Program}{ops:Array Oper}{o:Oper}{a:Act}{w:World}{K:Act→World→Prop}{Q:Exit→Act→World→Prop}{E:Prop}
  (hg:o.guard=none) (s x:Operand) (t:TypeId) (ho:o.op=Op.call {callee:=Callee.builtin Builtin.append,args:=#[s,x],argTypes:=#[t,t]})
  (e:TypeId) (i:TypeInfo) (z:Value) (size bytes:Nat) (ht:P.underlying t=some (.slice e)) (hi:P.info? e=some i) (hz:i.zero=some z)
  (hsize:i.size=size) (hby:i.bytes=bytes) (hzs:z.cells.size=size) (hsz:0<size)
  (ao:Option Addr) (n cap:Nat) (xs:List Value) (hs:a.eval s= .slice ao n cap) (hown:w.ownsRow 0 e size (.slice ao n cap) n xs)
  (ad:Addr) (m c:Nat) (news:List Value) (hx:a.eval x= .slice (some ad) m c) (hl:news.length=m*size) (hnews:∀j u,news[j]? =some u→w.cell? (ad.add j)=some u) (h1:∀u∈news,u.oneCell'=true) (hm:0<m)
  (h63:n+m≤maxLen) (hbytes:(n+m)*bytes≤140737488355328)
  (hK:∀a' cap' w',w'.ownsRow 0 e size (.slice (some a') (n+m) cap') (n+m) (xs++news)→w.grownBy w' (ao.map (·.block))→(some a'.block=ao.map (·.block)∨w.heap.size≤a'.block)→K (a.put o.dst (.slice (some a') (n+m) cap')) w'):
  if Region.wanted o (yielded ops a.tmps)=true then Oper.wp P o a w K Q else E:=by
 have hw:Region.wanted o (yielded ops a.tmps)=true:=by simp[Region.wanted,hg]
 rw[au hw]
 obtain⟨a',cap',w',hr,h2,h3,h4⟩:=Dt (P:=P) w t o.type e i z size bytes ht hi hz hsize hby hzs hsz ao n cap xs hown ad m c news hl hnews h1 hm h63 hbytes
 unfold Oper.wp execOp
 simp only[ho,resolve,invoke,builtin,Sem.run_bind,Sem.run_pure,Result.andThen_ok,List.map_toArray,List.map_cons,List.map_nil,hs,hx,hr]
 exact hK a' cap' w' h2 h3 h4
theorem vv(t:Tok)(x:Sl)(w:World)(T:TypeId)(g:Nat)(hg:g=w.heap.size):∀j u,(fq t x)[j]? =some u→(w.alloc (.cells (fq t x).toArray T)).cell? ((⟨g,0,none⟩:Addr).add j)=some u:=by
 subst hg;exact um t x w T
theorem og{w:World}{base:Nat}{e:TypeId}{size:Nat}{v:Value}{n:Nat}{xs:List Value}(h:w.ownsRow base e size v n xs):w.drew.ownsRow base e size v n xs:=h
def flush(s:TS):TS:=if s.text=[]then s else{cj s {kind:=0,text:=s.text}with text:=[]}
def tell(s:TS)(t:Tok):TS:=cj (flush s) t
theorem M9{w0:World}{aj:Nat→Prop}{b:Nat}{s:TS}{ex:List Item}{w:World}(h:Tk w0 aj b s ex w)(o:Obj):Tk w0 aj b s ex (w.alloc o):=by
 obtain⟨⟨R,hR⟩,hk⟩:=h
 have hm:=(More.refl w).alloc o
 refine⟨⟨R,⟨?_,hR.ownB,hR.rows.kept fun k hk' _=>hm.block k hk',qj hR.map fun g hg=>hm.block g (hR.map_lt g hg),hR.sj,hR.la,hR.lv,hR.lt⟩⟩,?_⟩
 ·rw[hm.block b hR.yh];exact hR.self
 ·exact⟨hk.os,hk.tape,hk.output,by have:=hk.size;have:=hm.size;omega,fun k hk' hn=>by rw[hm.block k (by have:=hk.size;omega)];exact hk.block k hk' hn⟩
theorem ub{s:TS}(h:s.told.length+1≤lim):(flush s).told.length≤lim:=by
 unfold flush
 split
 ·omega
 ·simp[cj];omega
theorem Gm{w0:World}{aj:Nat→Prop}{b:Nat}{s:TS}{ex:List Item}{w:World}(h:Tk w0 aj b s ex w)(hs:s.told.length≤lim):
  Calls prog 60 #[.pointer (some ⟨b,0,none⟩)] w fun e w'=>e= .returned (.tuple #[])∧Tk w0 aj b (flush s) ex w':=by
 obtain⟨⟨R,hR⟩,hk⟩:=h
 have c7:w.cell? ⟨b,8,none⟩=some (.slice R.text.a s.text.length R.text.cap):=hR.cell 8
 have hlt:=hR.yh
 have HS:Hid (s.told.length≤lim):=hs
 clear hs
 by_cases ht:s.text=[]
 ·have hl:s.text.length=0:=by rw[ht];rfl
  rw[flush,au ht]
  have HT:=hide (show Tk w0 aj b s ex w from⟨⟨R,hR⟩,hk⟩)
  rw[hl]at c7
  clear hl hk hR ht
  go_enter func60,ntmps60
  go_wp2
  try simp only[Exit.inBlock,Exit.then]
  refine ap (av rfl _ _ _) rfl ?_
  exact⟨rfl,ae HT⟩
 ·have hl:0<s.text.length:=by cases hh:s.text with|nil=>exact absurd hh ht|cons=>simp
  have hl2:((s.text.length:Int)==0)=false:=by simp;omega
  rw[flush,ag ht]
  have c19:w.cell? ⟨b,25,none⟩=some (.slice R.told.a s.told.length R.told.cap):=hR.cell 25
  have hf:=hR.frozen
  have hown0:w.ownsRow 0 34 6 (.slice R.told.a s.told.length R.told.cap) s.told.length (eh s.told R.cz):=hR.rows.ok ⟨34,6,R.told.a,s.told.length,R.told.cap,eh s.told R.cz⟩ (by simp[fe])
  have htx:(cq R.text s.text).ok w:=hR.rows.ok _ (by simp[fe])
  have zt4:=oe (r:=R.text) (l:=s.text) htx
  have zov:=oe (r:=R.text) (l:=s.text) (og htx)
  obtain⟨i0,hi,hz0,hz1,hz2⟩:=info_parts infoToken
  clear ht hl
  go_enter func60,ntmps60
  go_wp2_with fail
  go_region_law(refine fx rfl (.tmp 12) (.tmp 19) 30 rfl 34 i0 _ 6 80 underlying30 hi hz0 hz1 hz2 rfl (by decide) R.told.a s.told.length R.told.cap (eh s.told R.cz) (by simp[Act.eval]) (by repeat(first|exact hown0|refine bh ?_ _|refine og ?_)) ⟨w.heap.size,0,none⟩ 1 1 (fq {kind:=0,text:=s.text} ⟨none,0⟩) (by simp[Act.eval]) rfl (by exact vv _ _ _ _ _ (by simp)) (r8 _ _) (by decide) (by exact Bi HS.out) (by exact Cy HS.out) ?_;intro a' cap' w' hown hgrow hfresh;obtain⟨hself,hT⟩:=ld.yl {kind:=0,text:=s.text} ⟨none,0⟩ hR.bare hk (by repeat(first|exact More.refl _|refine More.alloc ?_ _|refine More.drew ?_)) a' cap' hown hgrow (by simpa using hfresh);have d19:w'.cell? ⟨b,25,none⟩=some (.slice R.told.a s.told.length R.told.cap):=bg hself 25;have df:=bn hself)
  all_goals
   have uu:=hT.1
   have hT:=hT.tk
   have e7:=uu.cell 8
   have ef:=uu.frozen
   simp only[cellsOf,cj]at e7
   go_wp2
   go_end0
   exact⟨rfl,Uc hT⟩
theorem Kept.qn{w0 w w1 w2:World}{aj:Nat→Prop}{b:Nat}{s:TS}{ex:List Item}(h:Tk w1 (yj w0 aj w) b s ex w2)(hk:Kept aj w0 w1):Kept aj w0 w2:=(h.qn hk).2
theorem qq{w0:World}{aj:Nat→Prop}{b:Nat}{s:TS}{ex:List Item}{w:World}(t:Tok)(x:Sl)(h:Tk w0 aj b s (lr x t.attrs::ex) w)(hs:s.told.length+1≤lim):
  Calls prog 37 #[.pointer (some ⟨b,0,none⟩),.agg (fq t x).toArray] w fun e w'=>e= .returned (.tuple #[])∧Tk w0 aj b (tell s t) ex w':=by
 have hm:More w (w.alloc (.cells (fq t x).toArray 34)):=(More.refl w).alloc _
 have hk1:Kept aj w0 (w.alloc (.cells (fq t x).toArray 34)):=h.2.more hm
 have HC:=hide (Gm (h.fresh hm) (by omega))
 have hln:Hid ((flush s).told.length≤lim):=ub hs
 have Ln:=heap_alloc_new w (.cells (fq t x).toArray 34)
 clear h hs
 simp only[fq]at*
 go_enter func37,ntmps37
 go_wp2_with fail
 refine(ae HC).mono ?_
 rintro e wc⟨rfl,h2⟩
 have hbx:=(h2.stands (g:=w.heap.size) (cx _) (by simp)).trans Ln
 obtain⟨⟨R2,hR2⟩,hk2⟩:=h2.qn hk1
 have hlt2:=hR2.yh
 have hgs:w.heap.size<wc.heap.size:=(co.1 hbx).1
 clear h2 HC Ln
 have c19:wc.cell? ⟨b,25,none⟩=some (.slice R2.told.a (flush s).told.length R2.told.cap):=hR2.cell 25
 have hf:=hR2.frozen
 have b0:wc.cell? ⟨w.heap.size,0,none⟩=some (.int .i64 t.kind):=bg hbx 0
 have b1:wc.cell? ⟨w.heap.size,1,none⟩=some (.string ⟨t.name.toArray⟩):=bg hbx 1
 have b2:wc.cell? ⟨w.heap.size,2,none⟩=some (.slice x.a t.attrs.length x.cap):=bg hbx 2
 have b3:wc.cell? ⟨w.heap.size,3,none⟩=some (.string ⟨t.text.toArray⟩):=bg hbx 3
 have b4:wc.cell? ⟨w.heap.size,4,none⟩=some (.bool t.flag):=bg hbx 4
 have b5:wc.cell? ⟨w.heap.size,5,none⟩=some (.int .i64 t.place):=bg hbx 5
 have hown0:wc.ownsRow 0 34 6 (.slice R2.told.a (flush s).told.length R2.told.cap) (flush s).told.length (eh (flush s).told R2.cz):=hR2.rows.ok ⟨34,6,R2.told.a,(flush s).told.length,R2.told.cap,eh (flush s).told R2.cz⟩ (by simp[fe])
 obtain⟨i0,hi,hz0,hz1,hz2⟩:=info_parts infoToken
 go_wp2_with fail
 go_region_law(refine fx rfl (.tmp 10) (.tmp 12) 30 rfl 34 i0 _ 6 80 underlying30 hi hz0 hz1 hz2 rfl (by decide) R2.told.a (flush s).told.length R2.told.cap (eh (flush s).told R2.cz) (by simp[Act.eval]) (by repeat(first|exact hown0|refine bh ?_ _|refine og ?_)) ⟨wc.heap.size,0,none⟩ 1 1 (fq t x) (by simp[Act.eval]) rfl (by exact vv t x _ _ _ (by simp)) (r8 _ _) (by decide) (Bi hln.out) (Cy hln.out) ?_;intro a' cap' w' hown hgrow hfresh;obtain⟨hself,hT⟩:=ld.yl t x hR2 hk2 (by repeat(first|exact More.refl _|refine More.alloc ?_ _|refine More.drew ?_)) a' cap' hown hgrow (by simpa using hfresh);have d19:w'.cell? ⟨b,25,none⟩=some (.slice R2.told.a (flush s).told.length R2.told.cap):=bg hself 25;have df:=bn hself)
 all_goals
  go_wp2
  go_end0
  exact⟨rfl,hT.tk⟩
end Go.Proofs.YtdfmapcnfficlaaGreatDoor

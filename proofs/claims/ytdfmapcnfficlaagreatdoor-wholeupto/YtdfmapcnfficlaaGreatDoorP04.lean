import Derived.Test.YtdfmapcnfficlaaGreatDoorP03
import Derived.Deep.QuietTactic
import Derived.BigQuiet
import Derived.StringKeys
set_option linter.all false
set_option maxHeartbeats 1000000
set_option maxRecDepth 1000000
namespace Go.Proofs.YtdfmapcnfficlaaGreatDoor
open Go.Proofs.Tryz
open Go Go.RowKit
theorem infoAtt:(prog.info? 210).map (fun i=>(i.zero,i.size,i.bytes))=some (some (.agg #[.slice none 0 0,.slice none 0 0,.bool false]),3,56):=by kernel_rfl
theorem xt(t:xp)(a v:Sl):∀(ts:List xp)(rs vs:List Sl),rs.length=ts.length→vs.length=ts.length→jl (ts++[t]) (rs++[a]) (vs++[v])=jl ts rs vs++qi t a v
 |[],[],[],_,_=>by simp[jl]
 |_::ts,_::rs,_::vs,h,h'=>by simp[jl,xt t a v ts rs vs (by simpa using h) (by simpa using h')]
theorem qo(t:xp)(a v:Sl):∀(ts:List xp)(rs vs:List Sl),rs.length=ts.length→vs.length=ts.length→ma (ts++[t]) (rs++[a]) (vs++[v])=ma ts rs vs++[cq a t.name,cq v t.value]
 |[],[],[],_,_=>by simp[ma]
 |_::ts,_::rs,_::vs,h,h'=>by simp[ma,qo t a v ts rs vs (by simpa using h) (by simpa using h')]
theorem yq:∀(ts:List xp)(rs vs:List Sl),rs.length=ts.length→vs.length=ts.length→(jl ts rs vs).length=3*ts.length
 |[],[],[],_,_=>by simp[jl]
 |_::ts,_::rs,_::vs,h,h'=>by
  have:=yq ts rs vs (by simpa using h) (by simpa using h')
  simp[jl,qi,this];omega
def k8(s:TS)(R:n9):Item:=⟨210,3,R.cy.a,s.tag.cy.length,R.cy.cap,jl s.tag.cy R.kg R.jb⟩
section
variable{w0:World}{aj:Nat→Prop}{b:Nat}{s:TS}{ex:List Item}{w:World}
theorem ld.zld{own:Nat→Prop}{R:n9}(h:ld w own b s R ex):ld w own b s R (cq ⟨none,0⟩ []::ex):=
 ⟨h.self,h.ownB,(h.rows.bare (q9 w) rfl).perm (by rw[fm];exact List.Perm.append_left _ (List.perm_append_comm)),h.map,h.sj,h.la,h.lv,h.lt⟩
def lp(s:TS):TS:={s with tag:={s.tag with cy:=s.tag.cy++[{}]}}
theorem ld.zd2{w1 w':World}{R:n9}(h:ld w (fun k=>aj k∨w0.heap.size≤k) b s R ex)(hk:Kept aj w0 w)(hm:More w w1)
  (a':Addr) (cap':Nat) (hown:w'.ownsRow 0 210 3 (.slice (some a') (s.tag.cy.length+1) cap') (s.tag.cy.length+1) (jl s.tag.cy R.kg R.jb++[.slice none 0 0,.slice none 0 0,.bool false]))
  (hg:w1.grownBy w' (R.cy.a.map (·.block))) (hf:some a'.block=R.cy.a.map (·.block)∨w1.heap.size≤a'.block):
  w'.heap[b]? =some (.cells (cellsOf s R) 84 (0,0))∧Tk w0 aj b (lp s) ex (w'.setCell ⟨b,12,none⟩ (.slice (some a') (s.tag.cy.length+1) cap')):=by
 have hit:k8 s R∈fe s R:=by simp[fe,k8]
 have hup:∀k,w.heap.size≤k→(aj k∨w0.heap.size≤k):=fun k hh=> .inr (fz hk.size hh)
 refine⟨h.mid hm hit hg,⟨{R with cy:=⟨some a',cap'⟩,kg:=R.kg++[⟨none,0⟩],jb:=R.jb++[⟨none,0⟩]},?_⟩,(hk.grown hm hg (h.qm hit)).setCell 12 _ h.ownB⟩
 refine h.zld.zld.grow hm hup [cq R.text s.text,cq R.fi s.tag.name,cq R.buffer s.tag.buffer]
  ([cq R.comment s.comment,cq R.jw s.jw,⟨34,6,R.told.a,s.told.length,R.told.cap,eh s.told R.cz⟩]++(ma s.tag.cy R.kg R.jb++cw s.told R.cz++cq ⟨none,0⟩ []::cq ⟨none,0⟩ []::ex)) (k8 s R) ⟨210,3,some a',s.tag.cy.length+1,cap',jl s.tag.cy R.kg R.jb++qi {} ⟨none,0⟩ ⟨none,0⟩⟩ hit
  (by simp[fe,k8]) ?_ hown hg (by
  rcases hf with hf|hf
  ·exact .inl (by simpa[Item.blk,k8]using hf)
  ·exact .inr ⟨a'.block,rfl,hf⟩) 12 _ (by simp[cellsOf,lp]) rfl rfl (by simp[lp,h.la]) (by simp[lp,h.lv]) h.lt
 simp only[fe,lp,xt _ _ _ _ _ _ h.la h.lv,qo _ _ _ _ _ _ h.la h.lv,aq,ai,ak,List.cons_append,List.nil_append,fm]
 refine List.Perm.cons _ (List.Perm.cons _ (List.Perm.cons _ (List.Perm.cons _ (List.Perm.cons _ (List.Perm.cons _ (List.Perm.cons _ ?_))))))
 refine List.Perm.append_left _ ?_
 exact(List.perm_append_comm_assoc [cq ⟨none,0⟩ [],cq ⟨none,0⟩ []] (cw s.told R.cz) ex)
theorem zju{n:Nat}(h:n≤lim):(n+1)*56≤140737488355328:=by unfold lim at h;omega
theorem xu(h:Tk w0 aj b s ex w)(hs:sz s≤lim):
  Calls prog 196 #[.pointer (some ⟨b,9,none⟩)] w fun e w'=>e= .returned (.tuple #[])∧Tk w0 aj b (lp s) ex w':=by
 obtain⟨R,hR,hk⟩:=h.reg
 have c1:w.cell? ⟨b,12,none⟩=some (.slice R.cy.a s.tag.cy.length R.cy.cap):=hR.cell 12
 have hf:=hR.frozen
 obtain⟨i0,hi,hz0,hz1,hz2⟩:=info_parts infoAtt
 have HS:Hid (s.tag.cy.length≤lim):=by unfold sz at hs;exact hide (by omega)
 clear hs
 go_enter func196,ntmps196
 go_wp2_with(at_builtin;refine dh _ rfl (.tmp 6) (.tmp 8) 75 rfl 210 i0 _ 3 56 underlying75 hi hz0 hz1 hz2 rfl (by decide) R.cy.a s.tag.cy.length R.cy.cap (jl s.tag.cy R.kg R.jb) rfl ?own ⟨w.heap.size,0,none⟩ 1 1 [.slice none 0 0,.slice none 0 0,.bool false] rfl rfl ?c1 ?c2 (by decide) (Bi HS.out) (zju HS.out) ?next)
 case own=>exact bh (hR.rows.ok (k8 s R) (by simp[fe,k8])) _
 case c1=>
  intro j u hu
  match j,hu with
  |0,hu=>simp at hu;subst hu;simp[Addr.add]
  |1,hu=>simp at hu;subst hu;simp[Addr.add]
  |2,hu=>simp at hu;subst hu;simp[Addr.add]
  |n+3,hu=>simp at hu
 case c2=>intro u hu;simp at hu;rcases hu with rfl|rfl<;>rfl
 case next=>
  intro a' cap' w' hown hgrow hfresh
  obtain⟨hself,hT⟩:=hR.zd2 hk ((More.refl w).alloc _) a' cap' hown hgrow (by simpa using hfresh)
  have d1:=bg hself 12
  have df:=bn hself
  simp only[cellsOf]at d1
  go_wp2
  go_end0
  exact⟨rfl,hT⟩
theorem Sm{R:n9}(h:ld w (fun k=>aj k∨w0.heap.size≤k) b s R ex)(hne:s.tag.cy≠[]):∃g,R.cy.a=some ⟨g,0,none⟩∧s.tag.cy.length≤R.cy.cap∧R.cy.cap≤maxLen:=by
 have hok:=h.rows.ok (k8 s R) (by simp[fe,k8])
 rcases hok.2 with⟨_,hn⟩|⟨g,cap,cur,hv,_,_,hc,hm,_⟩
 ·exact absurd (List.eq_nil_of_length_eq_zero hn) hne
 ·simp only[k8]at hv
  injection hv with e1 e2 e3
  exact⟨g,e1,by rw[e3];exact hc,by rw[e3];exact hm⟩
end
theorem Items.ne{w:World}{own:Nat→Prop}{l1 l2:List Item}{it:Item}(h:Items w own (l1++it::l2)):∀x∈l1++l2,∀k,x.blk=some k→it.blk≠some k:=by
 have hnd:=h.nodup
 intro x hx k hk he
 simp only[ij,List.filterMap_cons,he]at hnd
 have hnd':=List.nodup_append.1 hnd
 rcases List.mem_append.1 hx with hx|hx
 ·exact hnd'.2.2 k (ez.2 ⟨x,hx,hk⟩) k (by simp) rfl
 ·exact(List.nodup_cons.1 hnd'.2.1).1 (ez.2 ⟨x,hx,hk⟩)
theorem Items.set{w:World}{own:Nat→Prop}{l1 l2:List Item}{it:Item}(h:Items w own (l1++it::l2)){g i:Nat}(ha:it.a=some ⟨g,0,none⟩)(hi:i<it.xs.length)(v:Value):
  Items (w.setCell ⟨g,i,none⟩ v) own (l1++{it with xs:=it.xs.set i v}::l2):=by
 have hb:it.blk=some g:=by simp[Item.blk,ha]
 have hfm:(l1++{it with xs:=it.xs.set i v}::l2).filterMap Item.blk=(l1++it::l2).filterMap Item.blk:=by simp only[ij,List.filterMap_cons,Item.blk]
 refine⟨?_,by rw[hfm];exact h.nodup,by rw[hfm];exact h.own⟩
 intro x hx
 have hx':x∈l1++l2∨x={it with xs:=it.xs.set i v}:=by
  simp only[List.mem_append,List.mem_cons]at hx⊢
  rcases hx with h|h|h
  ·exact .inl (.inl h)
  ·exact .inr h
  ·exact .inl (.inr h)
 rcases hx' with hm|rfl
 ·have hm':x∈l1++it::l2:=by
   simp only[List.mem_append,List.mem_cons]at hm⊢
   rcases hm with h|h
   ·exact .inl h
   ·exact .inr (.inr h)
  refine Item.Bh (h.ok x hm') fun k hk=>kj v ?_
  intro e;subst e
  exact h.ne x hm k hk hb
 ·have hok:=h.ok it (by simp)
  rcases hok.2 with⟨hv,hn⟩|⟨g',cap,cur,hv,h0,hg,hc,hm,hs,ht⟩
  ·injection hv with e1;rw[ha]at e1;cases e1
  ·injection hv with e1 e2 e3
   rw[ha]at e1
   have e1':g=g':=by injection e1 with e1;injection e1
   subst e1'
   refine⟨by simpa using hok.1,.inr ⟨g,cap,cur.setIfInBounds i v,by simp[ha,e3],h0,?_,hc,hm,by simpa using hs,?_⟩⟩
   ·rw[set_self hg]
   ·show(cur.setIfInBounds i v).toList.take (it.n*it.size)=it.xs.set i v
    rw[←ht,Array.toList_setIfInBounds,List.take_set]
section
variable{w0:World}{aj:Nat→Prop}{b:Nat}{s:TS}{ex:List Item}{w:World}
theorem wa{R:n9}(h:Al w0 aj b s R ex w)(g k:Nat)(hg:R.cy.a=some ⟨g,0,none⟩)(hn:s.tag.cy.length=k+1)(hl:k+1≤lim):
  Calls prog 236 #[.pointer (some ⟨b,9,none⟩)] w fun e w'=>e= .returned (.pointer (some ⟨g,k*3,none⟩))∧w'=w.drew:=by
 have c1:w.cell? ⟨b,12,none⟩=some (.slice (some ⟨g,0,none⟩) (k+1) R.cy.cap):=by rw[←hg,←hn];exact h.1.cell 12
 unfold lim at hl
 clear hn hg h
 go_enter func236,ntmps236
 go_wp2_with fail
 go_region
 all_goals
  go_wp2
  go_ret
  exact⟨rfl,rfl⟩
structure rb(R:n9)(s:TS)(pre:List xp)(a:xp)(pa pv:List Sl)(ra rv:Sl)(g:Nat):Prop where
 cy:s.tag.cy=pre++[a]
 names:R.kg=pa++[ra]
 values:R.jb=pv++[rv]
 la:pa.length=pre.length
 lv:pv.length=pre.length
 addr:R.cy.a=some ⟨g,0,none⟩
theorem Jk{R:n9}(h:ld w (fun k=>aj k∨w0.heap.size≤k) b s R ex)(hne:s.tag.cy≠[]):∃pre a pa pv ra rv g,rb R s pre a pa pv ra rv g:=by
 obtain⟨g,hg,_⟩:=Sm h hne
 have h1:R.kg≠[]:=fun e=>hne (List.eq_nil_of_length_eq_zero (by rw[←h.la,e];rfl))
 have h2:R.jb≠[]:=fun e=>hne (List.eq_nil_of_length_eq_zero (by rw[←h.lv,e];rfl))
 refine⟨s.tag.cy.dropLast,s.tag.cy.getLast hne,R.kg.dropLast,R.jb.dropLast,R.kg.getLast h1,R.jb.getLast h2,g,?_,?_,?_,?_,?_,hg⟩
 ·exact(List.dropLast_concat_getLast hne).symm
 ·exact(List.dropLast_concat_getLast h1).symm
 ·exact(List.dropLast_concat_getLast h2).symm
 ·simp[h.la]
 ·simp[h.lv]
variable{R:n9}{pre:List xp}{a:xp}{pa pv:List Sl}{ra rv:Sl}{g:Nat}
theorem rb.len(L:rb R s pre a pa pv ra rv g):s.tag.cy.length=pre.length+1:=by rw[L.cy];simp
theorem rb.xs(L:rb R s pre a pa pv ra rv g):jl s.tag.cy R.kg R.jb=jl pre pa pv++qi a ra rv:=by
 rw[L.cy,L.names,L.values,xt _ _ _ _ _ _ L.la L.lv]
theorem rb.cell(L:rb R s pre a pa pv ra rv g)(h:ld w (fun k=>aj k∨w0.heap.size≤k) b s R ex)(i:Nat)(u:Value)(hu:(qi a ra rv)[i]? =some u):w.cell? ⟨g,pre.length*3+i,none⟩=some u:=by
 have hok:=h.rows.ok (k8 s R) (by simp[fe,k8])
 have hl:=yq pre pa pv L.la L.lv
 have:=World.ownsRow.cells hok (g:=g) (by simp[k8,L.addr,Value.ownBlock]) (pre.length*3+i) u (by
  show(jl s.tag.cy R.kg R.jb)[pre.length*3+i]? =some u
  rw[L.xs,List.getElem?_append_right (by omega),hl]
  rw[show pre.length*3+i-3*pre.length=i by omega];exact hu)
 have hadd:(⟨g,0,none⟩:Addr).add (pre.length*3+i)=⟨g,pre.length*3+i,none⟩:=by unfold Addr.add;split<;>simp_all
 rw[hadd]at this
 exact this
theorem rb.block(L:rb R s pre a pa pv ra rv g)(h:ld w (fun k=>aj k∨w0.heap.size≤k) b s R ex):∃cur,w.heap[g]? =some (.cells cur 210 (0,0)):=by
 have hok:=h.rows.ok (k8 s R) (by simp[fe,k8])
 rcases hok.2 with⟨hv,_⟩|⟨g',cap,cur,hv,h0,hg,_⟩
 ·injection hv with e1;simp only[k8]at e1;rw[L.addr]at e1;cases e1
 ·injection hv with e1 e2 e3
  simp only[k8]at e1
  rw[L.addr]at e1
  have e1':g=g':=by injection e1 with e1;injection e1
  subst e1'
  exact⟨cur,hg⟩
theorem rb.frozen(L:rb R s pre a pa pv ra rv g)(h:ld w (fun k=>aj k∨w0.heap.size≤k) b s R ex)(o:Nat):w.frozen? ⟨g,o,none⟩=false:=by
 obtain⟨cur,hc⟩:=L.block h
 exact bn hc o
def setLast(s:TS)(pre:List xp)(a:xp):TS:={s with tag:={s.tag with cy:=pre++[a]}}
theorem rb.write(L:rb R s pre a pa pv ra rv g)(h:ld w (fun k=>aj k∨w0.heap.size≤k) b s R ex){w':World}(a':xp)(ra' rv':Sl)(i:Nat)(v:Value)(hi:i<3)
  (hcells:(qi a ra rv).set i v=qi a' ra' rv')
  (hself:w'.heap[b]? =some (.cells (cellsOf s R) 84 (0,0))) (hmap:mapOf w' R.names s.tag.names)
  (hI:Items w' (fun k=>(aj k∨w0.heap.size≤k)∧k≠b∧some k≠R.names) ([cq R.text s.text,cq R.fi s.tag.name,cq R.buffer s.tag.buffer]++k8 s R::([cq R.comment s.comment,cq R.jw s.jw,⟨34,6,R.told.a,s.told.length,R.told.cap,eh s.told R.cz⟩]++(ma pre pa pv++[cq ra' a'.name,cq rv' a'.value]++cw s.told R.cz++ex)))):
  ld (w'.setCell ⟨g,pre.length*3+i,none⟩ v) (fun k=>aj k∨w0.heap.size≤k) b (setLast s pre a') {R with kg:=pa++[ra'],jb:=pv++[rv']} ex:=by
 have hl:=yq pre pa pv L.la L.lv
 have hgb:g≠b:=by
  have:=h.rows.own g (ez.2 ⟨k8 s R,by simp[fe,k8],by simp[Item.blk,k8,L.addr]⟩)
  exact this.2.1
 have hgn:some g≠R.names:=by
  have:=h.rows.own g (ez.2 ⟨k8 s R,by simp[fe,k8],by simp[Item.blk,k8,L.addr]⟩)
  exact this.2.2
 have hJ:=hI.set (g:=g) (i:=pre.length*3+i) L.addr (by show _<(jl s.tag.cy R.kg R.jb).length;rw[L.xs];simp[qi,hl];omega) v
 have hxs:(jl s.tag.cy R.kg R.jb).set (pre.length*3+i) v=jl pre pa pv++qi a' ra' rv':=by
  rw[L.xs,List.set_append_right _ _ (by omega),hl,show pre.length*3+i-3*pre.length=i by omega,hcells]
 refine⟨?_,h.ownB,?_,?_,h.sj,by simp[setLast,L.la],by simp[setLast,L.lv],h.lt⟩
 ·rw[kj v (Ne.symm hgb),hself]
  simp[cellsOf,setLast,L.len]
 ·refine hJ.perm ?_
  simp only[fe,setLast,k8,hxs,L.len,xt _ _ _ _ _ _ L.la L.lv,qo _ _ _ _ _ _ L.la L.lv,aq,ai,ak,List.cons_append,List.nil_append,fm]
  exact List.Perm.refl _
 ·refine qj hmap fun k hk=>kj v ?_
  intro e;subst e;exact hgn hk.symm
end
section
variable{w0:World}{aj:Nat→Prop}{b:Nat}{s:TS}{ex:List Item}{w:World}{R:n9}{pre:List xp}{a:xp}{pa pv:List Sl}{ra rv:Sl}{g:Nat}
theorem rb.ux(L:rb R s pre a pa pv ra rv g)(h:ld w (fun k=>aj k∨w0.heap.size≤k) b s R ex)(hk:Kept aj w0 w){w1 w':World}(hm:More w w1)(l:Str)(r':Sl)(hok:(cq r' l).ok w')
  (hg:w1.grownBy w' (ra.a.map (·.block))) (hf:o0 w1 ra.a r'.a):
  w'.heap[g]? =w.heap[g]? ∧Tk w0 aj b (setLast s pre {a with name:=l}) ex (w'.setCell ⟨g,pre.length*3+0,none⟩ (.slice r'.a l.length r'.cap)):=by
 have hup:∀k,w.heap.size≤k→(aj k∨w0.heap.size≤k):=fun k hh=> .inr (fz hk.size hh)
 have e0:fe s R=[cq R.text s.text,cq R.fi s.tag.name,cq R.buffer s.tag.buffer,k8 s R,cq R.comment s.comment,cq R.jw s.jw,⟨34,6,R.told.a,s.told.length,R.told.cap,eh s.told R.cz⟩]++(ma pre pa pv)++cq ra a.name::(cq rv a.value::cw s.told R.cz):=by
  simp[fe,k8,L.cy,L.names,L.values,qo _ _ _ _ _ _ L.la L.lv]
 have hit:cq ra a.name∈fe s R:=by rw[e0];simp
 have hrows:=h.rows
 rw[e0,fm,List.cons_append]at hrows
 have hI:Items w1 (fun k=>(aj k∨w0.heap.size≤k)∧k≠b∧some k≠R.names) _:=hrows.kept fun k hk _=>hm.block k hk
 have hJ:=hI.step (it':=cq r' l) hg hok hf (fun k hk=>h.up hup k (by have:=hm.size;omega))
 have hgo:some g≠ra.a.map (·.block):=by
  have:=hrows.ne (k8 s R) (by simp) g (by simp[Item.blk,k8,L.addr])
  intro e;exact this e.symm
 obtain⟨cur,hcur⟩:=L.block h
 have hlt:g<w.heap.size:=(co.1 hcur).1
 have hgg:w'.heap[g]? =w.heap[g]? :=by rw[hg.block g (by have:=hm.size;omega) hgo,hm.block g hlt]
 refine⟨hgg,⟨{R with kg:=pa++[r'],jb:=pv++[rv]},?_⟩,?_⟩
 ·refine L.write h {a with name:=l} r' rv 0 _ (by omega) rfl (h.mid hm hit hg) ?_ ?_
  ·refine qj h.map fun k hkn=> ?_
   rw[hg.block k (by have:=h.map_lt k hkn;have:=hm.size;omega) (h.Ub hit k (.inr hkn.symm)),hm.block k (h.map_lt k hkn)]
  ·simpa using hJ
 ·refine(hk.grown hm hg (h.qm hit)).setCell _ _ ?_
  exact(h.rows.own g (ez.2 ⟨k8 s R,by simp[fe,k8],by simp[Item.blk,k8,L.addr]⟩)).1
theorem rb.rl(L:rb R s pre a pa pv ra rv g)(h:ld w (fun k=>aj k∨w0.heap.size≤k) b s R ex)(hk:Kept aj w0 w){w1 w':World}(hm:More w w1)(l:Str)(r':Sl)(hok:(cq r' l).ok w')
  (hg:w1.grownBy w' (rv.a.map (·.block))) (hf:o0 w1 rv.a r'.a):
  w'.heap[g]? =w.heap[g]? ∧Tk w0 aj b (setLast s pre {a with value:=l}) ex (w'.setCell ⟨g,pre.length*3+1,none⟩ (.slice r'.a l.length r'.cap)):=by
 have hup:∀k,w.heap.size≤k→(aj k∨w0.heap.size≤k):=fun k hh=> .inr (fz hk.size hh)
 have e0:fe s R=[cq R.text s.text,cq R.fi s.tag.name,cq R.buffer s.tag.buffer,k8 s R,cq R.comment s.comment,cq R.jw s.jw,⟨34,6,R.told.a,s.told.length,R.told.cap,eh s.told R.cz⟩]++(ma pre pa pv++[cq ra a.name])++cq rv a.value::(cw s.told R.cz):=by
  simp[fe,k8,L.cy,L.names,L.values,qo _ _ _ _ _ _ L.la L.lv]
 have hit:cq rv a.value∈fe s R:=by rw[e0];simp
 have hrows:=h.rows
 rw[e0,fm,List.cons_append]at hrows
 have hI:Items w1 (fun k=>(aj k∨w0.heap.size≤k)∧k≠b∧some k≠R.names) _:=hrows.kept fun k hk _=>hm.block k hk
 have hJ:=hI.step (it':=cq r' l) hg hok hf (fun k hk=>h.up hup k (by have:=hm.size;omega))
 have hgo:some g≠rv.a.map (·.block):=by
  have:=hrows.ne (k8 s R) (by simp) g (by simp[Item.blk,k8,L.addr])
  intro e;exact this e.symm
 obtain⟨cur,hcur⟩:=L.block h
 have hlt:g<w.heap.size:=(co.1 hcur).1
 have hgg:w'.heap[g]? =w.heap[g]? :=by rw[hg.block g (by have:=hm.size;omega) hgo,hm.block g hlt]
 refine⟨hgg,⟨{R with kg:=pa++[ra],jb:=pv++[r']},?_⟩,?_⟩
 ·refine L.write h {a with value:=l} ra r' 1 _ (by omega) rfl (h.mid hm hit hg) ?_ ?_
  ·refine qj h.map fun k hkn=> ?_
   rw[hg.block k (by have:=h.map_lt k hkn;have:=hm.size;omega) (h.Ub hit k (.inr hkn.symm)),hm.block k (h.map_lt k hkn)]
  ·simpa using hJ
 ·refine(hk.grown hm hg (h.qm hit)).setCell _ _ ?_
  exact(h.rows.own g (ez.2 ⟨k8 s R,by simp[fe,k8],by simp[Item.blk,k8,L.addr]⟩)).1
def re(f:xp→xp):List xp→List xp
 |[]=>[]
 |[a]=>[f a]
 |a::x::r=>a::re f (x::r)
theorem xv(f:xp→xp)(a:xp):∀pre:List xp,re f (pre++[a])=pre++[f a]
 |[]=>rfl
 |[x]=>rfl
 |x::y::r=>by simpa[re]using xv f a (y::r)
def kr(s:TS)(c:Int):TS:={s with tag:={s.tag with cy:=re (fun a=>{a with name:=a.name++Lib.encodeRune c}) s.tag.cy}}
def fw(s:TS)(c:Int):TS:={s with tag:={s.tag with cy:=re (fun a=>if a.twice then a else{a with value:=a.value++Lib.encodeRune c}) s.tag.cy}}
theorem Nd(a:xp):∀pre:List xp,tp (pre++[a])=tp pre+(a.name.length+a.value.length)
 |[]=>by simp[tp]
 |x::r=>by simp[tp,Nd a r];omega
theorem rb.zlx(L:rb R s pre a pa pv ra rv g):a.name.length+a.value.length+pre.length+1≤sz s:=by
 have h1:=L.len
 have h2:tp s.tag.cy=tp pre+(a.name.length+a.value.length):=by rw[L.cy,Nd]
 unfold sz;omega
theorem uo(c:Int)(hc:Rn c)(hne:s.tag.cy≠[])(h:Tk w0 aj b s ex w)(hs:sz s+8≤lim):
  Calls prog 197 #[.pointer (some ⟨b,0,none⟩),.int .i32 c] w fun e w'=>e= .returned (.tuple #[])∧Tk w0 aj b (kr s c) ex w':=by
 obtain⟨R,hR⟩:=h.reg
 obtain⟨pre,a,pa,pv,ra,rv,g,L⟩:=Jk hR.1 hne
 have hz:=L.zlx
 have HL:=hide (wa hR g pre.length L.addr L.len (by omega))
 have c0:w.cell? ⟨g,pre.length*3,none⟩=some (.slice ra.a a.name.length ra.cap):=L.cell hR.1 0 _ rfl
 have hrow:(cq ra a.name).ok w.drew:=hR.1.rows.ok (cq ra a.name) (by simp[fe,L.cy,L.names,L.values,qo _ _ _ _ _ _ L.la L.lv])
 have HA:=hide (nj ra a.name c (by have:=hc.1;omega) (by have:=hc.2;omega) w.drew hrow (by unfold lim at hs;omega))
 have hfin:kr s c=setLast s pre {a with name:=a.name++Lib.encodeRune c}:=by simp[kr,setLast,L.cy,xv]
 rw[hfin]
 have HR:=hide (qb hR)
 have Lt:=hide L
 clear hs hz hfin h hne hR L
 go_enter func197,ntmps197
 go_wp2_with fail
 refine(ae HL).mono ?_
 rintro e w1⟨rfl,rfl⟩
 go_wp2_with fail
 refine(ae HA).mono ?_
 rintro e w2⟨r',o,rfl,hok,hg,hf⟩
 obtain⟨hgg,hT⟩:=(ae Lt).ux (ae HR).1 (ae HR).2 ((More.refl _).alloc o) _ r' hok hg hf
 obtain⟨cur,hcur⟩:=(ae Lt).block (ae HR).1
 have d0:w2.cell? ⟨g,pre.length*3,none⟩=some (.slice ra.a a.name.length ra.cap):=by rw[fk (w:=w.drew) hgg];exact c0
 have df:=bn (hgg.trans hcur)
 simp only[aq,Nat.add_zero]at hT
 clear hgg hcur
 go_wp2
 go_end0
 exact⟨rfl,hT⟩
end
theorem W4(a b:Str):(Lit.string a).sameKey (Lit.string b)=(a==b):=by
 simp[Lit.sameKey]
theorem Sn(ks:List Str)(n:Str):Maps.has (Maps.setOf (DataW.agg (H:=Unit) []) (ks.map Lit.string)) (Lit.string n)=ks.contains n:=by
 rw[Maps.has_setOf _ _ _ (by intro x hx;obtain⟨y,_,rfl⟩:=List.mem_map.1 hx;trivial)]
 induction ks with
 |nil=>rfl
 |cons k r ih=>
  simp only[List.map_cons,List.any_cons,W4,List.contains_cons,ih,BEq.comm (a:=k) (b:=n)]
section
variable{w0:World}{aj:Nat→Prop}{b:Nat}{s:TS}{ex:List Item}{w:World}{R:n9}
def p6(s:TS)(n:Str):Bool×TS:=
 if(s.tag.names.getD []).contains n=true then(false,s)else(true,{s with tag:={s.tag with names:=some (s.tag.names.getD []++[n])}})
theorem ld.newName{own:Nat→Prop}(h:ld w own b s R ex){w':World}{g:Nat}(ks:List Str)(hg:R.names=some g)(hown:w'.ownsMap prog 9 (unitElem (H:=Unit)) g ks.length (Maps.setOf (.agg []) (ks.map Lit.string)))
  (hgr:w.grownBy w' (some g)):ld w' own b {s with tag:={s.tag with names:=some ks}} R ex:=by
 have hgb:=h.sj g hg
 refine⟨?_,h.ownB,?_,?_,h.sj,h.la,h.lv,h.lt⟩
 ·rw[hgr.block b h.yh (by simp;exact Ne.symm hgb.2)];exact h.self
 ·exact h.rows.kept fun k hk hh=>hgr.block k hk (by rw[←hg];exact hh.2.2)
 ·rw[hg];exact hown
theorem Kept.newName(hk:Kept aj w0 w){w':World}{g:Nat}(hgr:w.grownBy w' (some g))(hg:aj g∨w0.heap.size≤g):Kept aj w0 w':=
 hk.grown (More.refl w) hgr (fun k e=>by injection e with e;subst e;exact hg)
end
theorem zeroUnit(w:World):(zeroValue 100).run prog w= .ok (.agg #[]) w:=by kernel_rfl
theorem W5(w:World)(g:Nat):(binOp .eql 76 (.map (some g)) (.map none)).run prog w= .ok (.bool false) w:=by kernel_rfl
theorem W6(w:World):(binOp .eql 76 (.map none) (.map none)).run prog w= .ok (.bool true) w:=by kernel_rfl
theorem zgj(w:World)(g:Nat)(hg:w.heap.size=g):(Instr.makeMap 76 none).run prog w= .ok (.map (some g)) (w.alloc (.map #[] 0)):=by subst hg;rfl
theorem Uh(n:Str)(h:n.length≤lim):keyOf prog 9 (.string ⟨n.toArray⟩)=some (.string n):=
 Go.WideMaps.keyOf_string_mk (P:=prog) underlying9 (s:=⟨n.toArray⟩) (by rw[Eh];unfold lim at h;unfold maxLen;omega)
theorem B8{w0:World}{aj:Nat→Prop}{b:Nat}{s:TS}{R:n9}{ex:List Item}{w:World}(h:Al w0 aj b s R ex w)(o:Obj):Al w0 aj b s R ex (w.alloc o):=by
 obtain⟨hR,hk⟩:=h
 have hm:=(More.refl w).alloc o
 refine⟨⟨?_,hR.ownB,hR.rows.kept fun k hk' _=>hm.block k hk',qj hR.map fun g hg=>hm.block g (hR.map_lt g hg),hR.sj,hR.la,hR.lv,hR.lt⟩,?_⟩
 ·rw[hm.block b hR.yh];exact hR.self
 ·exact⟨hk.os,hk.tape,hk.output,by have:=hk.size;have:=hm.size;omega,fun k hk' hn=>by rw[hm.block k (by have:=hk.size;omega)];exact hk.block k hk' hn⟩
section
variable{w0:World}{aj:Nat→Prop}{b:Nat}{s:TS}{ex:List Item}{w:World}{R:n9}
theorem B9{R:n9}(n:Str)(ks:List Str)(hks:s.tag.names=some ks)(hh:ks.contains n=true)(h:Al w0 aj b s R ex w)(hs:n.length≤lim)(hn:n.length≤lim):
  Calls prog 237 #[.pointer (some ⟨b,9,none⟩),.string ⟨n.toArray⟩] w fun e w'=>e= .returned (.bool false)∧Al w0 aj b s R ex w':=by
 obtain⟨hR,hk⟩:=h
 have hmap:=hR.map
 obtain⟨g,hg⟩:∃g,R.names=some g:=by
  cases hr:R.names with
  |none=>rw[hr,hks]at hmap;exact hmap.elim
  |some g=>exact⟨g,rfl⟩
 rw[hg,hks]at hmap
 have zcw:w.ownsMap prog 9 (unitElem (H:=Unit)) g ks.length (Maps.setOf (.agg []) (ks.map Lit.string)):=hmap
 have c1:w.cell? ⟨b,13,none⟩=some (.map (some g)):=by rw[hR.cell 13];simp[cellsOf,hg]
 have HK:=hide (Uh n hn)
 have hhas:=Sn ks n
 rw[hh]at hhas
 clear hs hn hks hmap hg hh
 go_enter func237,ntmps237
 go_wp2_with(at_lookup;refine wpList_lookup_own_unit _ rfl _ _ 76 rfl 9 100 (Maps.string_keyed underlying9) underlying76 (zeroUnit _) g ks.length _ rfl zcw _ _ rfl (ae HK) ?_;rw[hhas])
 go_ret
 exact⟨rfl,B8 ⟨hR,hk⟩ _⟩
theorem Lu(n:Str)(ks:List Str)(hks:s.tag.names=some ks)(hh:ks.contains n=true)(h:Tk w0 aj b s ex w)(hs:n.length≤lim)(hn:n.length≤lim):
  Calls prog 237 #[.pointer (some ⟨b,9,none⟩),.string ⟨n.toArray⟩] w fun e w'=>e= .returned (.bool false)∧Tk w0 aj b s ex w':=by
 obtain⟨R,hR⟩:=h.reg
 refine(B9 n ks hks hh hR hs hn).mono ?_
 rintro e w'⟨rfl,h1⟩
 exact⟨rfl,h1.tk⟩
theorem Qw(n:Str)(ks:List Str)(hks:s.tag.names=some ks)(hh:ks.contains n=false)(h:Tk w0 aj b s ex w)(hl:ks.length≤lim)(hn:n.length≤lim):
  Calls prog 237 #[.pointer (some ⟨b,9,none⟩),.string ⟨n.toArray⟩] w fun e w'=>e= .returned (.bool true)∧Tk w0 aj b {s with tag:={s.tag with names:=some (ks++[n])}} ex w':=by
 obtain⟨R,hR,hk⟩:=h.reg
 have hmap:=hR.map
 obtain⟨g,hg⟩:∃g,R.names=some g:=by
  cases hr:R.names with
  |none=>rw[hr,hks]at hmap;exact hmap.elim
  |some g=>exact⟨g,rfl⟩
 rw[hg,hks]at hmap
 have zcw:w.ownsMap prog 9 (unitElem (H:=Unit)) g ks.length (Maps.setOf (.agg []) (ks.map Lit.string)):=hmap
 have c1:w.cell? ⟨b,13,none⟩=some (.map (some g)):=by rw[hR.cell 13];simp[cellsOf,hg]
 have hlt:=hR.yh
 have HK:=hide (Uh n hn)
 have hhas:=Sn ks n
 rw[hh]at hhas
 have HL:Hid (ks.length<maxLen):=hide (by unfold lim at hl;unfold maxLen;omega)
 have HG:=hide hg
 have heq:=W5 (w.alloc (.cells #[] 100)) g
 clear hn hks hmap hg hh hl
 go_enter func237,ntmps237
 go_wp2_with(first
  |(at_lookup;refine wpList_lookup_own_unit _ rfl _ _ 76 rfl 9 100 (Maps.string_keyed underlying9) underlying76 (zeroUnit _) g ks.length _ rfl zcw _ _ rfl (ae HK) ?_;rw[hhas])
  |(at_mapUpdate;refine wpList_mapUpdate_own _ rfl _ _ _ 76 rfl 9 100 (Maps.string_keyed underlying9) underlying76 unitElem g ks.length _ rfl (zcw.alloc _) (ae HL) _ _ _ rfl rfl (ae HK) _ _ unitElem_mk ?_;intro w2 hown hgr))
 go_ret
 have hT:=B8 ⟨hR,hk⟩ (.cells #[] 100)
 rw[←Maps.setOf_snoc,←List.map_singleton (f:=Lit.string),←List.map_append]at hown
 exact⟨rfl,Al.tk ⟨hT.1.newName (ks++[n]) (ae HG) (by simpa using hown) hgr,hT.2.newName hgr (hT.1.sj g (ae HG)).1⟩⟩
theorem zan(w:World)(o:Obj)(v:Value){b i:Nat}(hlt:b<w.heap.size):((w.alloc o).alloc (.map #[] 0)).setCell ⟨b,i,none⟩ v=((w.setCell ⟨b,i,none⟩ v).alloc o).alloc (.map #[] 0):=by
 rw[World.setCell_alloc_past _ _ _ (hn:=by simp;omega),World.setCell_alloc_past _ _ _ (hn:=hlt)]
theorem ld.zjv(h:Al w0 aj b s R ex w)(hn:R.names=none):Al w0 aj b {s with tag:={s.tag with names:=some []}} {R with names:=some w.heap.size} ex ((w.alloc (.map #[] 0)).setCell ⟨b,13,none⟩ (.map (some w.heap.size))):=by
 have h1:=B8 h (.map #[] 0)
 have hlt:=h.1.yh
 refine⟨⟨?_,h.1.ownB,?_,?_,?_,h.1.la,h.1.lv,h.1.lt⟩,h1.2.setCell _ _ h.1.ownB⟩
 ·rw[set_self h1.1.self];rfl
 ·refine⟨(h1.1.rows.kept fun k _ hk=>kj _ hk.2.1).ok,h1.1.rows.nodup,fun k hk=> ?_⟩
  have:=h.1.rows.own k hk
  refine⟨this.1,this.2.1,fun e=> ?_⟩
  injection e with e
  obtain⟨it,hi,hb⟩:=ez.1 hk
  have:=Item.lt (h.1.rows.ok it hi) k hb
  omega
 ·exact World.ownsMap.setCell (World.ownsMap_made w prog 9 unitElem) (by show w.heap.size≠b;omega) _
 ·intro g hg
  injection hg with hg
  subst hg
  exact⟨.inr h.2.size,by omega⟩
theorem Lv(n:Str)(hks:s.tag.names=none)(h:Tk w0 aj b s ex w)(hn:n.length≤lim):
  Calls prog 237 #[.pointer (some ⟨b,9,none⟩),.string ⟨n.toArray⟩] w fun e w'=>e= .returned (.bool true)∧Tk w0 aj b {s with tag:={s.tag with names:=some [n]}} ex w':=by
 obtain⟨R,hR⟩:=h.reg
 have hmap:=hR.1.map
 have hg:R.names=none:=by
  cases hr:R.names with
  |none=>rfl
  |some g=>rw[hr,hks]at hmap;exact hmap.elim
 have c1:w.cell? ⟨b,13,none⟩=some (.map none):=by rw[hR.1.cell 13];simp[cellsOf,hg]
 have hf:=hR.1.frozen
 have hlt:=hR.1.yh
 have HK:=hide (Uh n hn)
 have hlk:=Maps.look_nil (P:=prog) (w:=w) true (Maps.string_keyed underlying9) underlying76 (zeroUnit w) (ae HK)
 have heq:=W6 (w.alloc (.cells #[] 100))
 have HT:=hide (ld.zjv (B8 hR (.cells #[] 100)) hg)
 rw[zan w _ _ hlt]at HT
 simp only[World.size_alloc]at HT
 have hmk:(Instr.makeMap 76 none).run prog (w.alloc (.cells #[] 100))= .ok (.map (some (w.heap.size+1))) ((w.alloc (.cells #[] 100)).alloc (.map #[] 0)):=zgj _ _ (by simp)
 simp only[if_true]at hlk
 clear hn hks hmap hg h hR
 go_enter func237,ntmps237
 go_wp2_with(at_mapUpdate;refine wpList_mapUpdate_own _ rfl _ _ _ 76 rfl 9 100 (Maps.string_keyed underlying9) underlying76 unitElem (w.heap.size+1) 0 (.map []) rfl (by exact(ae HT).1.map) (by decide) _ _ _ rfl rfl (ae HK) _ _ unitElem_mk ?_;intro w2 hown hgr)
 go_ret
 have hT:=ae HT
 exact⟨rfl,Al.tk ⟨hT.1.newName [n] (by simp) (by exact hown) hgr,hT.2.newName hgr (hT.1.sj (w.heap.size+1) rfl).1⟩⟩
theorem Nf(n:Str)(h:Tk w0 aj b s ex w)(hl:(s.tag.names.getD []).length≤lim)(hn:n.length≤lim):
  Calls prog 237 #[.pointer (some ⟨b,9,none⟩),.string ⟨n.toArray⟩] w fun e w'=>e= .returned (.bool (p6 s n).1)∧Tk w0 aj b (p6 s n).2 ex w':=by
 cases hks:s.tag.names with
 |none=>
  have hfin:p6 s n=(true,{s with tag:={s.tag with names:=some [n]}}):=by simp[p6,hks]
  rw[hfin]
  exact Lv n hks h hn
 |some ks=>
  rw[hks]at hl
  by_cases hh:ks.contains n=true
  ·have hfin:p6 s n=(false,s):=by simp only[p6,hks,fb];rw[au hh]
   rw[hfin]
   exact Lu n ks hks hh h (by simpa using hn) hn
  ·have hfin:p6 s n=(true,{s with tag:={s.tag with names:=some (ks++[n])}}):=by simp only[p6,hks,fb];rw[ag hh]
   rw[hfin]
   exact Qw n ks hks (by simpa using hh) h (by simpa using hl) hn
end
section
variable{w0:World}{aj:Nat→Prop}{b:Nat}{s:TS}{ex:List Item}{w:World}{R:n9}{pre:List xp}{a:xp}{pa pv:List Sl}{ra rv:Sl}{g:Nat}
theorem pz(c:Int)(hc:Rn c)(hne:s.tag.cy≠[])(h:Tk w0 aj b s ex w)(hs:sz s+8≤lim):
  Calls prog 201 #[.pointer (some ⟨b,0,none⟩),.int .i32 c] w fun e w'=>e= .returned (.tuple #[])∧Tk w0 aj b (fw s c) ex w':=by
 obtain⟨R,hR⟩:=h.reg
 obtain⟨pre,a,pa,pv,ra,rv,g,L⟩:=Jk hR.1 hne
 have hz:=L.zlx
 have HL:=hide (wa hR g pre.length L.addr L.len (by omega))
 have c1:w.cell? ⟨g,pre.length*3+1,none⟩=some (.slice rv.a a.value.length rv.cap):=L.cell hR.1 1 _ rfl
 have c2:w.cell? ⟨g,pre.length*3+2,none⟩=some (.bool a.twice):=L.cell hR.1 2 _ rfl
 have HR:=hide (qb hR)
 have Lt:=hide L
 by_cases ht:a.twice=true
 ·have hfin:fw s c=s:=by
   have:fw s c=setLast s pre a:=by simp[fw,setLast,L.cy,xv,ht]
   rw[this,setLast,←L.cy]
  rw[hfin]
  clear hs hz hfin h hne hR L
  go_enter func201,ntmps201
  go_wp2_with fail
  refine(ae HL).mono ?_
  rintro e w1⟨rfl,rfl⟩
  go_wp2
  go_end0
  exact⟨rfl,(ae HR).tk⟩
 ·have ht':a.twice=false:=by simpa using ht
  have hrow:(cq rv a.value).ok w.drew:=hR.1.rows.ok (cq rv a.value) (by simp[fe,L.cy,L.names,L.values,qo _ _ _ _ _ _ L.la L.lv])
  have HA:=hide (nj rv a.value c (by have:=hc.1;omega) (by have:=hc.2;omega) w.drew hrow (by unfold lim at hs;omega))
  have hfin:fw s c=setLast s pre {a with value:=a.value++Lib.encodeRune c}:=by simp[fw,setLast,L.cy,xv,ht']
  rw[hfin]
  clear hs hz hfin h hne hR L ht
  go_enter func201,ntmps201
  go_wp2_with fail
  refine(ae HL).mono ?_
  rintro e w1⟨rfl,rfl⟩
  go_wp2_with fail
  refine(ae HA).mono ?_
  rintro e w2⟨r',o,rfl,hok,hg,hf⟩
  obtain⟨hgg,hT⟩:=(ae Lt).rl (ae HR).1 (ae HR).2 ((More.refl _).alloc o) _ r' hok hg hf
  obtain⟨cur,hcur⟩:=(ae Lt).block (ae HR).1
  have d0:w2.cell? ⟨g,pre.length*3+1,none⟩=some (.slice rv.a a.value.length rv.cap):=by rw[fk (w:=w.drew) hgg];exact c1
  have df:=bn (hgg.trans hcur)
  simp only[aq]at hT
  clear hgg hcur
  go_wp2
  go_end0
  exact⟨rfl,hT⟩
def Jl:Str:=[116,119,105,99,101]
def uq(s:TS):Str:=(s.tag.cy.getLast?.map (·.name)).getD []
def mg(s:TS):TS:=
 if(s.tag.names.getD []).contains (uq s)=true then{wrong s Jl with tag:={s.tag with cy:=re (fun a=>{a with twice:=true}) s.tag.cy}}
 else(p6 s (uq s)).2
theorem rb.uq(L:rb R s pre a pa pv ra rv g):uq s=a.name:=by simp[Proofs.YtdfmapcnfficlaaGreatDoor.uq,L.cy]
theorem rb.twice(L:rb R s pre a pa pv ra rv g)(h:Al w0 aj b s R ex w):Tk w0 aj b (setLast s pre {a with twice:=true}) ex (w.setCell ⟨g,pre.length*3+2,none⟩ (.bool true)):=by
 refine⟨⟨{R with kg:=pa++[ra],jb:=pv++[rv]},?_⟩,?_⟩
 ·refine L.write h.1 {a with twice:=true} ra rv 2 _ (by omega) rfl h.1.self h.1.map ?_
  have:=h.1.rows
  simpa[fe,k8,L.cy,L.names,L.values,qo _ _ _ _ _ _ L.la L.lv]using this
 ·refine h.2.setCell _ _ ?_
  exact(h.1.rows.own g (ez.2 ⟨k8 s R,by simp[fe,k8],by simp[Item.blk,k8,L.addr]⟩)).1
theorem xw(hne:s.tag.cy≠[])(h:Tk w0 aj b s ex w)(hs:sz s+8≤lim):
  Calls prog 198 #[.pointer (some ⟨b,0,none⟩)] w fun e w'=>e= .returned (.tuple #[])∧Tk w0 aj b (mg s) ex w':=by
 obtain⟨R,hR⟩:=h.reg
 obtain⟨pre,a,pa,pv,ra,rv,g,L⟩:=Jk hR.1 hne
 have hz:=L.zlx
 have HL:=hide (wa hR g pre.length L.addr L.len (by omega))
 have c0:w.cell? ⟨g,pre.length*3,none⟩=some (.slice ra.a a.name.length ra.cap):=L.cell hR.1 0 _ rfl
 have hrow:(cq ra a.name).ok w.drew.drew:=hR.1.rows.ok (cq ra a.name) (by simp[fe,L.cy,L.names,L.values,qo _ _ _ _ _ _ L.la L.lv])
 have hcv:=oe hrow
 have HR:=hide (qb (qb hR))
 have Lt:=hide L
 have hnm:(s.tag.names.getD []).length≤lim:=by unfold sz at hs;omega
 by_cases hh:(s.tag.names.getD []).contains a.name=true
 ·have hfin:mg s=setLast (wrong s Jl) pre {a with twice:=true}:=by
   unfold mg
   rw[L.uq,au hh]
   simp[setLast,L.cy,xv,wrong,bz,cj]
  obtain⟨ks,hks⟩:∃ks,s.tag.names=some ks:=by
   cases hk:s.tag.names with
   |none=>rw[hk]at hh;simp at hh
   |some ks=>exact⟨ks,rfl⟩
  rw[hks]at hh
  have HN:=hide (B9 a.name ks hks hh (ae HR) (by omega) (by omega))
  have HW:Hid (s.told.length≤lim):=hide (by unfold sz at hs;omega)
  rw[hfin]
  clear hs hz hfin h hne hR L hnm hks hh hrow
  go_enter func198,ntmps198
  go_wp2_with fail
  refine(ae HL).mono ?_
  rintro e w1⟨rfl,rfl⟩
  go_wp2_with fail
  go_region_with(go_at_call 237;refine(ae HN).mono ?_;rintro e w2⟨rfl,h2⟩)
  all_goals
   go_wp2_with fail
   refine(xe Jl h2 (ae HW)).mono ?_
   rintro e w3⟨tl,ta,rfl,h3⟩
   have L':rb {R with told:=tl,cz:=ta} (wrong s Jl) pre a pa pv ra rv g:=⟨(ae Lt).cy,(ae Lt).names,(ae Lt).values,(ae Lt).la,(ae Lt).lv,(ae Lt).addr⟩
   have d2:w3.cell? ⟨g,pre.length*3+2,none⟩=some (.bool a.twice):=L'.cell h3.1 2 _ rfl
   have df:=L'.frozen h3.1
   have hT:=L'.twice h3
   clear L'
   go_wp2
   go_end0
   exact⟨rfl,hT⟩
 ·have hfin:mg s=(p6 s a.name).2:=by
   unfold mg
   rw[L.uq,ag hh]
  have hb:(p6 s a.name).1=true:=by unfold p6;rw[ag hh]
  have HN:=hide (Nf a.name (ae HR).tk hnm (by omega))
  rw[hb]at HN
  rw[hfin]
  clear hs hz hfin h hne hR L hnm hh hrow hb
  go_enter func198,ntmps198
  go_wp2_with fail
  refine(ae HL).mono ?_
  rintro e w1⟨rfl,rfl⟩
  go_wp2_with fail
  go_region_with(go_at_call 237;refine(ae HN).mono ?_;rintro e w2⟨rfl,h2⟩)
  all_goals
   go_wp2
   go_end0
   exact⟨rfl,h2⟩
end
end Go.Proofs.YtdfmapcnfficlaaGreatDoor

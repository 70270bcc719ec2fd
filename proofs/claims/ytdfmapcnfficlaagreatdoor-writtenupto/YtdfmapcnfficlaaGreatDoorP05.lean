import Derived.Test.YtdfmapcnfficlaaGreatDoorP04
import Derived.Deep.LoopGhost
import Derived.Laws.BitsLemmas
import Derived.Shelf.Unicode.DecodeSlow
set_option linter.all false
set_option maxHeartbeats 2000000
set_option maxRecDepth 1000000
namespace Go.Proofs.YtdfmapcnfficlaaGreatDoor
open Go.Proofs.Tryz
open Go Go.RowKit
theorem Tryz.infoStr:(prog.info? 9).map (fun i=>(i.zero,i.size,i.bytes))=some (some (.string ⟨#[]⟩),1,16):=by kernel_rfl
def mu:List xp→List Str
 |[]=>[]
 |a::r=>(if a.twice then[]else[a.name,a.value])++mu r
theorem xx(a:xp):∀l:List xp,mu (l++[a])=mu l++(if a.twice then[]else[a.name,a.value])
 |[]=>by simp[mu]
 |x::r=>by simp[mu,xx a r]
theorem Ng:∀l:List xp,(mu l).length≤2*l.length
 |[]=>by simp[mu]
 |x::r=>by
  have:=Ng r
  unfold mu
  split<;>simp<;>omega
structure Jm(w:World)(g:Nat)(l:List xp)(ns vs:List Sl):Prop where
 cells:∀k a,l[k]? =some a→∃r v,ns[k]? =some r∧vs[k]? =some v∧w.cell? ⟨g,k*3,none⟩=some (.slice r.a a.name.length r.cap)∧w.cell? ⟨g,k*3+1,none⟩=some (.slice v.a a.value.length v.cap)∧w.cell? ⟨g,k*3+2,none⟩=some (.bool a.twice)∧(cq r a.name).ok w∧(cq v a.value).ok w
 lt:g<w.heap.size
theorem Jm.more{w w':World}{g:Nat}{l:List xp}{ns vs:List Sl}(h:Jm w g l ns vs)(hm:More w w'):Jm w' g l ns vs:=by
 refine⟨fun k a hk=> ?_,by have:=h.lt;have:=hm.size;omega⟩
 obtain⟨r,v,h1,h2,h3,h4,h5,h6,h7⟩:=h.cells k a hk
 have hg:=hm.block g h.lt
 refine⟨r,v,h1,h2,?_,?_,?_,Item.Bh h6 fun k hk=>hm.block k (Item.lt h6 k hk),Item.Bh h7 fun k hk=>hm.block k (Item.lt h7 k hk)⟩
 ·rw[fk (w:=w) hg];exact h3
 ·rw[fk (w:=w) hg];exact h4
 ·rw[fk (w:=w) hg];exact h5
theorem Qx(l:List xp)(k:Nat)(a:xp)(h:l[k]? =some a):l.take (k+1)=l.take k++[a]:=by
 obtain⟨hk,rfl⟩:=cd.1 h
 rw[List.take_succ_eq_append_getElem hk]
theorem zd3{n:Nat}(h:n≤2*lim):n+2≤maxLen∧(n+2)*16≤140737488355328:=by unfold lim at h;unfold maxLen;omega
theorem More.grown'{w wr w1 w':World}{row:Option Nat}(h:More w wr)(hg:w1.grownBy w' row)(hr:∀k,row=some k→w.heap.size≤k)(hs:True)(hm:More wr w1):More w w':=
 ⟨(hg.os.trans hm.os).trans h.os,(hg.tape.trans hm.tape).trans h.tape,(hg.output.trans hm.output).trans h.output,by have:=h.size;have:=hm.size;have:=hg.size;omega,fun k hk=>by
  rw[hg.block k (by have:=h.size;have:=hm.size;omega) (fun e=>by have:=hr k e.symm;omega),hm.block k (by have:=h.size;omega),h.block k hk]⟩
theorem zao(w:World)(gb:Nat)(g cap:Nat)(l:List xp)(ns vs:List Sl)(Ln:w.cell? ⟨gb,3,none⟩=some (.slice (some ⟨g,0,none⟩) l.length cap))(hA:Jm w g l ns vs)(hgb:gb<w.heap.size)(hl:l.length≤lim)(hcap:l.length≤cap):
  Calls prog 238 #[.pointer (some ⟨gb,0,none⟩)] w fun e w'=>∃x:Sl,e= .returned (.slice x.a (mu l).length x.cap)∧More w w'∧(lr x (mu l)).ok w'∧(∀k,x.a.map (·.block)=some k→w.heap.size≤k):=by
 have HL:=hide hl
 unfold lim at hl
 obtain⟨i0,hi,hz0,hz1,hz2⟩:=info_parts Tryz.infoStr
 go_enter func238,ntmps238
 go_wp2
 go_loopw [3,11] (fun li i wr=>∃(k:Nat)(x:Sl),k≤l.length∧i= .int .i64 k∧li= .slice x.a (mu (l.take k)).length x.cap∧More w wr∧(lr x (mu (l.take k))).ok wr∧(∀k,x.a.map (·.block)=some k→w.heap.size≤k)) (fun _ i _=>l.length-(intOf i).toNat)
 case atStart=>exact⟨0,⟨none,0⟩,da _,rfl,rfl,More.refl w,xq w,by simp⟩
 case round=>
  obtain⟨k,x,hk,rfl,rfl,hm,hok,hfr⟩:=hrel
  by_cases hlt:k<l.length
  ·obtain⟨a,ha⟩:∃a,l[k]? =some a:=⟨l[k],by simp[hlt]⟩
   obtain⟨r,v,_,_,d0,d1,d2,hr,hv⟩:=(hA.more hm).cells k a ha
   have HSN:=hide (Qx l k a ha)
   have zrb:g<wr.heap.size:=(hA.more hm).lt
   have hle:=Ng (l.take k)
   have hlk:(l.take k).length≤k:=List.length_take_le _ _
   by_cases ht:a.twice=true
   ·go_wp2
    go_roundw
    case rel=>exact⟨k+1,x,by omega,by go_num,by rw[ae HSN,xx,au ht,gq],hm.alloc _,by rw[ae HSN,xx,au ht,gq];exact Item.Bh hok fun k hk=>Below.heap_alloc _ _ _ (Item.lt hok k hk),hfr⟩
    case measure=>simp[intOf];omega
   ·have ht':a.twice=false:=by simpa using ht
    have zov:=oe (r:=r) (l:=a.name) (w:=wr.alloc (.cells #[.slice r.a a.name.length r.cap,.slice v.a a.value.length v.cap,.bool a.twice] 210)) (bh hr _)
    have zgk:=oe (r:=v) (l:=a.value) (w:=wr.alloc (.cells #[.slice r.a a.name.length r.cap,.slice v.a a.value.length v.cap,.bool a.twice] 210)) (bh hv _)
    have HB:=hide (zd3 (by have:=ae HL;omega:(mu (l.take k)).length≤2*lim))
    rw[ht']at zov zgk
    go_wp2_with(at_builtin;refine dh _ rfl (.tmp 18) (.tmp 25) 23 rfl 9 i0 _ 1 16 underlying23 hi hz0 hz1 hz2 rfl (by decide) x.a (mu (l.take k)).length x.cap ((mu (l.take k)).map str) rfl (by exact bh (bh hok _) _) ⟨wr.heap.size+1,0,none⟩ 2 2 [str a.name,str a.value] rfl rfl ?c1 ?c2 (by decide) (ae HB).1 (ae HB).2 ?next)
    case c1=>
     intro j u hj
     match j,hj with
     |0,hj=>simp at hj;subst hj;simp[Addr.add,str]
     |1,hj=>simp at hj;subst hj;simp[Addr.add,str]
     |(j+2),hj=>simp at hj
    case c2=>intro u hu;simp at hu;rcases hu with rfl|rfl<;>rfl
    case next=>
     intro a' cap' w' hown hgrow hfresh
     go_wp2
     go_roundw
     case rel=>
      refine⟨k+1,⟨some a',cap'⟩,by omega,by go_num,by rw[ae HSN,xx,ag ht];simp,?_,?_,?_⟩
      ·exact More.grown' hm hgrow (fun k hk=>hfr k hk) trivial (by repeat(first|exact More.refl _|refine More.alloc ?_ _))
      ·rw[ae HSN,xx,ag ht]
       simpa[Item.ok,lr]using hown
      ·intro q hq
       have hq':a'.block=q:=by simpa using hq
       rcases hfresh with h1|h1
       ·exact hfr q (by rw[←h1,hq'])
       ·have:=hm.size
        omega
     case measure=>simp[intOf];omega
  ·have hk':k=l.length:=by omega
   have HK:=hide hk'
   clear hk'
   go_wp2
   go_ret
   have e:=ae HK
   subst e
   rw[List.take_length]at hok⊢
   exact⟨x,rfl,hm,hok,hfr⟩
theorem H7(t n bf at' c d tl:Item)(A T ex:List Item):([t,n,bf,at',c,d,tl]++(A++T)++ex).Perm (([t,c,d,tl]++T++ex)++([n,bf,at']++A)):=by
 have h1:([n,bf,at']++([c,d,tl]++(A++(T++ex)))).Perm ([c,d,tl]++([n,bf,at']++(A++(T++ex)))):=List.perm_append_comm_assoc _ _ _
 have h2:([n,bf,at']++(A++(T++ex))).Perm ((T++ex)++([n,bf,at']++A)):=by rw[←fm];exact List.perm_append_comm
 have h3:=(h1.trans (h2.append_left [c,d,tl])).cons t
 simpa only[List.cons_append,List.nil_append,fm]using h3
def r9(s:TS)(R:n9):List Item:=[cq R.fi s.tag.name,cq R.buffer s.tag.buffer,k8 s R]++ma s.tag.cy R.kg R.jb
def qr(w:World)(b:Nat):World:=
 (((((w.setCell ⟨b,9,none⟩ (.int .i64 0)).setCell ⟨b,10,none⟩ (.slice none 0 0)).setCell ⟨b,11,none⟩ (.slice none 0 0)).setCell ⟨b,12,none⟩ (.slice none 0 0)).setCell ⟨b,13,none⟩ (.map none)).setCell ⟨b,14,none⟩ (.bool false)
section
variable{w0:World}{aj:Nat→Prop}{b:Nat}{s:TS}{ex:List Item}{w:World}{R:n9}
theorem Qy(k:Nat)(hk:k≠b):(qr w b).heap[k]? =w.heap[k]? :=by
 unfold qr
 rw[kj _ hk,kj _ hk,kj _ hk,kj _ hk,kj _ hk,kj _ hk]
def So(R:n9):n9:={R with fi:=⟨none,0⟩,buffer:=⟨none,0⟩,cy:=⟨none,0⟩,names:=none,kg:=[],jb:=[]}
theorem Ui(h:ld w (fun k=>aj k∨w0.heap.size≤k) b s R ex):(qr w b).heap[b]? =some (.cells (cellsOf {s with tag:={}} (So R)) 84 (0,0)):=by
 unfold qr
 rw[set_self (set_self (set_self (set_self (set_self (set_self h.self _ _) _ _) _ _) _ _) _ _)]
 rfl
theorem El(h:Al w0 aj b s R ex w):Al w0 aj b {s with tag:={}} (So R) (r9 s R++ex) (qr w b):=by
 refine⟨?_,?_⟩
 ·refine h.1.anew (Ui h.1) (fun k hk=>Qy k hk) ([cq R.text s.text,cq R.comment s.comment,cq R.jw s.jw,⟨34,6,R.told.a,s.told.length,R.told.cap,eh s.told R.cz⟩]++cw s.told R.cz++(r9 s R++ex)) [] [cq ⟨none,0⟩ [],cq ⟨none,0⟩ [],⟨210,3,none,0,0,[]⟩] ?_ ?_ ?_ (.inr ⟨rfl,rfl⟩) rfl rfl h.1.lt
  ·rw[gq]
   refine(H7 _ _ _ _ _ _ _ _ _ _).trans ?_
   rw[fm _ ex]
   exact List.Perm.append_left _ List.perm_append_comm
  ·intro it hi
   simp only[List.mem_cons,List.not_mem_nil,or_false]at hi
   rcases hi with rfl|rfl|rfl
   ·exact⟨q9 w,rfl⟩
   ·exact⟨q9 w,rfl⟩
   ·exact⟨World.ownsRow_nil w 0 210 3,rfl⟩
  ·exact H7 (cq R.text s.text) (cq ⟨none,0⟩ []) (cq ⟨none,0⟩ []) ⟨210,3,none,0,0,[]⟩ (cq R.comment s.comment) (cq R.jw s.jw) ⟨34,6,R.told.a,s.told.length,R.told.cap,eh s.told R.cz⟩ [] (cw s.told R.cz) (r9 s R++ex)
 ·exact((((((h.2.setCell _ _ h.1.ownB).setCell _ _ h.1.ownB).setCell _ _ h.1.ownB).setCell _ _ h.1.ownB).setCell _ _ h.1.ownB).setCell _ _ h.1.ownB)
theorem Ca{l:List Item}(h:Al w0 aj b s R (l++ex) w):Al w0 aj b s R ex w:=by
 refine⟨⟨h.1.self,h.1.ownB,?_,h.1.map,h.1.sj,h.1.la,h.1.lv,h.1.lt⟩,h.2⟩
 refine h.1.rows.less (fe s R++ex) l [] ?_ (by simp) (by simp)
 rw[fm]
 exact List.Perm.append_left _ List.perm_append_comm
def iq(s:TS):TS:={wrong s [101,110,100,45,105,110,45,116,97,103]with tag:={}}
theorem th(h:Tk w0 aj b s ex w)(hs:sz s+4≤lim):
  Calls prog 200 #[.pointer (some ⟨b,0,none⟩)] w fun e w'=>e= .returned (.int .i64 0)∧Tk w0 aj b (iq s) ex w':=by
 have HS:=hide hs
 clear hs
 go_enter func200,ntmps200
 go_wp2_with fail
 refine(mb [101,110,100,45,105,110,45,116,97,103] h (by have:=ae HS;omega)).mono ?_
 rintro e w1⟨rfl,h1⟩
 obtain⟨R,hR⟩:=h1.reg
 have d0:=hR.1.cell 9
 have d1:=hR.1.cell 10
 have d2:=hR.1.cell 11
 have d3:=hR.1.cell 12
 have d4:=hR.1.cell 13
 have d5:=hR.1.cell 14
 have df:=hR.1.frozen
 simp only[cellsOf]at d0 d1 d2 d3 d4 d5
 have hT:=(Ca (El hR)).tk
 unfold qr at hT
 go_wp2
 go_ret
 exact⟨rfl,hT⟩
end
def kh(n:Str):Int:=
 if n=[116,105,116,108,101]∨n=[116,101,120,116,97,114,101,97]then 1 else if n=[115,99,114,105,112,116]∨n=[115,116,121,108,101]∨n=[120,109,112]then 2 else 0
theorem Cb(n:Str)(w:World):Calls prog 240 #[.string ⟨n.toArray⟩] w fun e w'=>e= .returned (.int .i64 (kh n))∧w'=w:=by
 by_cases h1:n=[116,105,116,108,101]
 ·subst h1
  go_enter func240,ntmps240
  go_wp2
  go_ret
  exact⟨rfl,rfl⟩
 by_cases h2:n=[116,101,120,116,97,114,101,97]
 ·subst h2
  go_enter func240,ntmps240
  go_wp2
  go_ret
  exact⟨rfl,rfl⟩
 by_cases h3:n=[115,99,114,105,112,116]
 ·subst h3
  go_enter func240,ntmps240
  go_wp2
  go_ret
  exact⟨rfl,rfl⟩
 by_cases h4:n=[115,116,121,108,101]
 ·subst h4
  go_enter func240,ntmps240
  go_wp2
  go_ret
  exact⟨rfl,rfl⟩
 by_cases h5:n=[120,109,112]
 ·subst h5
  go_enter func240,ntmps240
  go_wp2
  go_ret
  exact⟨rfl,rfl⟩
 have e1:(n==[116,105,116,108,101])=false:=af.2 h1
 have e2:(n==[116,101,120,116,97,114,101,97])=false:=af.2 h2
 have e3:(n==[115,99,114,105,112,116])=false:=af.2 h3
 have e4:(n==[115,116,121,108,101])=false:=af.2 h4
 have e5:(n==[120,109,112])=false:=af.2 h5
 have hfin:kh n=0:=by simp[kh,h1,h2,h3,h4,h5]
 rw[hfin]
 clear hfin h1 h2 h3 h4 h5
 go_enter func240,ntmps240
 go_wp2
 go_ret
 exact⟨rfl,rfl⟩
theorem zap(w:World)(gb cap:Nat)(ao:Option Addr)(Ln:w.cell? ⟨gb,3,none⟩=some (.slice ao 0 cap)):
  Calls prog 238 #[.pointer (some ⟨gb,0,none⟩)] w fun e w'=>e= .returned (.slice none 0 0)∧w'=w:=by
 go_enter func238,ntmps238
 go_wp2
 go_loopw [3,11] (fun li i wr=>i= .int .i64 0∧li= .slice none 0 0∧wr=w) (fun _ i _=>0)
 case atStart=>exact⟨rfl,rfl,rfl⟩
 case round=>
  obtain⟨rfl,rfl,rfl⟩:=hrel
  go_wp2
  go_ret
  exact⟨rfl,rfl⟩
section
variable{w0:World}{aj:Nat→Prop}{b:Nat}{s:TS}{ex:List Item}{w:World}{R:n9}
theorem Nh{w':World}(h:Al w0 aj b s R ex w)(hm:More w w'):Al w0 aj b s R ex w':=by
 obtain⟨hR,hk⟩:=h
 refine⟨⟨?_,hR.ownB,hR.rows.kept fun k hk' _=>hm.block k hk',qj hR.map fun g hg=>hm.block g (hR.map_lt g hg),hR.sj,hR.la,hR.lv,hR.lt⟩,?_⟩
 ·rw[hm.block b hR.yh];exact hR.self
 ·exact⟨hm.os.trans hk.os,hm.tape.trans hk.tape,hm.output.trans hk.output,by have:=hk.size;have:=hm.size;omega,fun k hk' hn=>by rw[hm.block k (by have:=hk.size;omega)];exact hk.block k hk' hn⟩
theorem Ni{w':World}(h:Al w0 aj b s R ex w)(hm:More w w'){it:Item}(hok:it.ok w')(hf:∀k,it.blk=some k→w.heap.size≤k):Al w0 aj b s R (it::ex) w':=by
 have h':=Nh h hm
 have hup:∀k,w.heap.size≤k→(aj k∨w0.heap.size≤k):=fun k hh=> .inr (fz h.2.size hh)
 refine⟨⟨h'.1.self,h'.1.ownB,?_,h'.1.map,h'.1.sj,h'.1.la,h'.1.lv,h'.1.lt⟩,h'.2⟩
 refine Items.perm (l:=it::(fe s R++ex)) ?_ (List.perm_middle).symm
 refine⟨fun x hx=> ?_,?_,?_⟩
 ·rcases List.mem_cons.1 hx with rfl|hx
  ·exact hok
  ·exact h'.1.rows.ok x hx
 ·simp only[List.filterMap_cons]
  split
  ·exact h'.1.rows.nodup
  ·rename_i k hk
   refine List.nodup_cons.2 ⟨fun hm'=> ?_,h'.1.rows.nodup⟩
   obtain⟨x,hx,hb⟩:=ez.1 hm'
   have:=Item.lt (h.1.rows.ok x hx) k hb
   have:=hf k hk
   omega
 ·intro k hk
  simp only[List.filterMap_cons]at hk
  split at hk
  ·exact h'.1.rows.own k hk
  ·rename_i k' hk'
   rcases List.mem_cons.1 hk with rfl|hk
   ·exact h.1.up hup k (hf k hk')
   ·exact h'.1.rows.own k hk
def rg(s:TS):TS:={s with tag:={}}
def ti(s:TS):TS:=
 let s1:=if s.tag.cy=[]then rg s else wrong (rg s) [101,110,100,45,97,116,116,114,105,98,117,116,101,115]
 let s2:=if s.tag.closes then wrong s1 [101,110,100,45,115,108,97,115,104]else s1
 {tell s2 {kind:=2,name:=s.tag.name}with base:=0,state:=0}
def startTag(s:TS):TS:=
 {tell (rg s) {kind:=1,name:=s.tag.name,attrs:=mu s.tag.cy,flag:=s.tag.closes}with lastStart:=s.tag.name,base:=kh s.tag.name,state:=kh s.tag.name}
def mh(s:TS):TS:=if s.tag.kind=1 then startTag s else ti s
def pu(s:TS)(R:n9):Array Value:=
 #[.int .i64 s.tag.kind,.slice R.fi.a s.tag.name.length R.fi.cap,.slice R.buffer.a s.tag.buffer.length R.buffer.cap,.slice R.cy.a s.tag.cy.length R.cy.cap,.map R.names,.bool s.tag.closes]
def copied(w:World)(b:Nat)(s:TS)(R:n9):World:=(qr w b).alloc (.cells (pu s R) 78)
theorem Ha(i:Nat):(copied w b s R).cell? ⟨w.heap.size,i,none⟩=(pu s R)[i]? :=by
 have hsz:(qr w b).heap.size=w.heap.size:=by simp[qr,World.setCell]
 have:=heap_alloc_new (qr w b) (.cells (pu s R) 78)
 rw[hsz]at this
 exact bg this i
theorem Jn(w:World)(a:Addr):w.drew.cell? a=w.cell? a:=rfl
theorem W7:(copied w b s R).heap.size=w.heap.size+1:=by simp[copied,qr,World.setCell]
theorem Am(h:Al w0 aj b s R ex w):Al w0 aj b (rg s) (So R) (r9 s R++ex) (copied w b s R):=B8 (El h) _
theorem Gn:∀(ts:List xp)(rs vs:List Sl)(k:Nat)(a:xp),rs.length=ts.length→vs.length=ts.length→ts[k]? =some a→
  ∃r v,rs[k]? =some r∧vs[k]? =some v∧(∀i,i<3→(jl ts rs vs)[k*3+i]? =(qi a r v)[i]?)∧cq r a.name∈ma ts rs vs∧cq v a.value∈ma ts rs vs
 |[],_,_,k,a,_,_,h=>by simp at h
 |t::ts,[],_,_,_,h,_,_=>by simp at h
 |t::ts,_::_,[],_,_,_,h,_=>by simp at h
 |t::ts,r::rs,v::vs,0,a,_,_,h=>by
  simp at h
  subst h
  refine⟨r,v,rfl,rfl,?_,by simp[ma],by simp[ma]⟩
  intro i hi
  match i,hi with
  |0,_=>simp[jl,qi]
  |1,_=>simp[jl,qi]
  |2,_=>simp[jl,qi]
 |t::ts,r::rs,v::vs,k+1,a,h1,h2,h=>by
  obtain⟨r',v',e1,e2,e3,e4,e5⟩:=Gn ts rs vs k a (by simpa using h1) (by simpa using h2) (by simpa using h)
  refine⟨r',v',by simpa using e1,by simpa using e2,?_,by simp[ma,e4],by simp[ma,e5]⟩
  intro i hi
  rw[←e3 i hi]
  show(qi t r v++jl ts rs vs)[(k+1)*3+i]? =_
  rw[List.getElem?_append_right (by simp[qi];omega)]
  congr 1
  simp[qi]
  omega
theorem zd4{W:World}{g:Nat}(hA:(k8 s R).ok W)(hi:∀it∈ma s.tag.cy R.kg R.jb,it.ok W)(la:R.kg.length=s.tag.cy.length)(lv:R.jb.length=s.tag.cy.length)(hg:R.cy.a=some ⟨g,0,none⟩):
  Jm W g s.tag.cy R.kg R.jb:=by
 refine⟨fun k a hk=> ?_,?_⟩
 ·obtain⟨r,v,e1,e2,e3,e4,e5⟩:=Gn _ _ _ k a la lv hk
  have hc:∀i u,i<3→(qi a r v)[i]? =some u→W.cell? ⟨g,k*3+i,none⟩=some u:=by
   intro i u hi hu
   have:=World.ownsRow.cells hA (g:=g) (by simp[k8,hg,Value.ownBlock]) (k*3+i) u (by show(jl s.tag.cy R.kg R.jb)[k*3+i]? =_;rw[e3 i hi];exact hu)
   have hadd:(⟨g,0,none⟩:Addr).add (k*3+i)=⟨g,k*3+i,none⟩:=by unfold Addr.add;split<;>simp_all
   rw[hadd]at this
   exact this
  exact⟨r,v,e1,e2,hc 0 _ (by omega) rfl,hc 1 _ (by omega) rfl,hc 2 _ (by omega) rfl,hi _ e4,hi _ e5⟩
 ·exact Item.lt hA g (by simp[Item.blk,k8,hg])
theorem Qz(h:Tk w0 aj b s ex w)(hk:s.tag.kind=1)(hne:s.tag.cy=[])(hs:sz s+4≤lim):
  Calls prog 199 #[.pointer (some ⟨b,0,none⟩)] w fun e w'=>e= .returned (.int .i64 0)∧Tk w0 aj b (startTag s) ex w':=by
 obtain⟨R,hR⟩:=h.reg
 have d0:w.cell? ⟨b,9,none⟩=some (.int .i64 1):=by rw[hR.1.cell,←hk];rfl
 have d1:w.cell? ⟨b,10,none⟩=some (.slice R.fi.a s.tag.name.length R.fi.cap):=hR.1.cell _
 have d2:w.cell? ⟨b,11,none⟩=some (.slice R.buffer.a s.tag.buffer.length R.buffer.cap):=hR.1.cell _
 have d3:w.cell? ⟨b,12,none⟩=some (.slice R.cy.a s.tag.cy.length R.cy.cap):=hR.1.cell _
 have d4:w.cell? ⟨b,13,none⟩=some (.map R.names):=hR.1.cell _
 have d5:w.cell? ⟨b,14,none⟩=some (.bool s.tag.closes):=hR.1.cell _
 have df:=hR.1.frozen
 have hlt:=hR.1.yh
 have hT:=Am hR
 have hcv:=oe (r:=R.fi) (l:=s.tag.name) (hT.1.rows.ok (cq R.fi s.tag.name) (List.mem_append_right _ (List.mem_append_left _ (by simp[r9]))))
 have HN:=hide (zap (copied w b s R).drew w.heap.size R.cy.cap R.cy.a (by rw[Jn,Ha];simp[pu,hne]))
 have HTe:=hide (qq (ex:=ex) {kind:=1,name:=s.tag.name,attrs:=[],flag:=s.tag.closes} ⟨none,0⟩ (Al.tk ⟨(qb (Ca hT)).1.bare,(qb (Ca hT)).2⟩) (by unfold sz at hs;simp[rg];omega))
 have hfin:startTag s={tell (rg s) {kind:=1,name:=s.tag.name,attrs:=[],flag:=s.tag.closes}with lastStart:=s.tag.name,base:=kh s.tag.name,state:=kh s.tag.name}:=by simp[startTag,hne,mu]
 rw[hfin]
 simp only[fq,ak]at HTe
 simp only[copied,qr,pu,hk,hne,ak]at hcv HN HTe
 rw[hne,ak]at d3
 clear hfin h hs hT hR hk hne
 go_enter func199,ntmps199
 go_wp2_with fail
 go_region_with(first
  |(go_at_call 238;refine(ae HN).mono ?_;rintro e w1⟨rfl,rfl⟩)
  |(go_at_call 37;refine(ae HTe).mono ?_;rintro e w2⟨rfl,h2⟩))
 all_goals
  obtain⟨R2,hR2⟩:=h2.reg
  have e1:=hR2.1.cell 15
  have ef:=hR2.1.frozen
  simp only[cellsOf]at e1
  have h3:Tk w0 aj b {tell (rg s) {kind:=1,name:=s.tag.name,attrs:=[],flag:=s.tag.closes}with lastStart:=s.tag.name} ex (w2.setCell ⟨b,15,none⟩ (.string ⟨s.tag.name.toArray⟩)):=⟨⟨R2,hR2.1.setCell 15 _ rfl rfl rfl rfl rfl⟩,hR2.2.setCell 15 _ hR2.1.ownB⟩
  go_wp2_with fail
  refine(Cb s.tag.name _).mono ?_
  rintro e w3⟨rfl,rfl⟩
  go_wp2_with fail
  refine(xf (kh s.tag.name) h3).mono ?_
  rintro e w4⟨rfl,h4⟩
  go_wp2
  go_ret
  exact⟨rfl,h4⟩
end
section
variable{w0:World}{aj:Nat→Prop}{b:Nat}{s:TS}{ex:List Item}{w:World}{R:n9}
def zeroRef(s:TS):TS:={s with ev:=s.state,di:=[],l9:=false,nb:=false,jx:=0}
def du(s:TS):TS:={zeroRef s with state:=31}
theorem zal(h:Al w0 aj b s R ex w):Tk w0 aj b (zeroRef s) ex (((((w.setCell ⟨b,20,none⟩ (.int .i64 s.state)).setCell ⟨b,21,none⟩ (.string ⟨#[]⟩)).setCell ⟨b,22,none⟩ (.bool false)).setCell ⟨b,23,none⟩ (.bool false)).setCell ⟨b,24,none⟩ (.int .i32 0)):=by
 obtain⟨h1,k1⟩:=h
 exact⟨⟨R,(((((h1.setCell (s':={s with ev:=s.state}) 20 _ rfl rfl rfl rfl rfl).setCell (s':={s with ev:=s.state,di:=[]}) 21 _ rfl rfl rfl rfl rfl).setCell (s':={s with ev:=s.state,di:=[],l9:=false}) 22 _ rfl rfl rfl rfl rfl).setCell (s':={s with ev:=s.state,di:=[],l9:=false,nb:=false}) 23 _ rfl rfl rfl rfl rfl).setCell 24 _ rfl rfl rfl rfl rfl)⟩,
  (((((k1.setCell _ _ h1.ownB).setCell _ _ h1.ownB).setCell _ _ h1.ownB).setCell _ _ h1.ownB).setCell _ _ h1.ownB)⟩
theorem sn(h:Tk w0 aj b s ex w)(hs:sz s+1≤lim):
  Calls prog 124 #[.pointer (some ⟨b,0,none⟩)] w fun e w'=>e= .returned (.int .i64 0)∧Tk w0 aj b (du s) ex w':=by
 clear hs
 obtain⟨R,hR⟩:=h.reg
 have c4:=hR.1.cell 5
 have c0:=hR.1.cell 20
 have c1:=hR.1.cell 21
 have c2:=hR.1.cell 22
 have c3:=hR.1.cell 23
 have c5:=hR.1.cell 24
 have f1:=hR.1.frozen
 simp only[cellsOf]at c0 c1 c2 c3 c4 c5
 have h1:=zal hR
 go_enter func124,ntmps124
 go_wp2_with fail
 refine(mr 31 h1).mono ?_
 rintro e w2⟨rfl,h2⟩
 go_wp2
 go_ret
 exact⟨rfl,h2⟩
end
def fc(c:Int):Bool:=decide (48≤c∧c≤57)
def Ei(c:Int):Bool:=decide (55296≤c∧c≤57343)
def Bj(c:Int):Bool:=decide (64976≤c∧c≤65007)||decide (65534≤c%65536)
def Av(c:Int):Bool:=(decide (1≤c∧c≤31)&& !ba c)||decide (127≤c∧c≤159)
def yo:List Int:=[8364,0,8218,402,8222,8230,8224,8225,710,8240,352,8249,338,0,381,0,0,8216,8217,8220,8221,8226,8211,8212,732,8482,353,8250,339,0,382,376]
def zam(c:Int):Int:=if 128≤c∧yo.getD (c-128).toNat 0≠0 then yo.getD (c-128).toNat 0 else c
def meaning(n:Int):Int×Str:=
 if n=0 then(65533,[110,117,108])else if 1114111<n then(65533,[114,97,110,103,101])else if Ei n=true then(65533,[115,117,114,114,111,103,97,116,101])
 else if Bj n=true then(n,[110,111,110,101])else if Av n=true then(zam n,[99,111,110,116,114,111,108])else(n,[])
theorem zgh(c:Int)(h0:0≤c)(h1:c≤1114111):bits BinOp.and IntKind.i32 c 65534=((c.toNat &&& 65534:Nat):Int):=by
 obtain⟨n,rfl⟩:=Int.eq_ofNat_of_zero_le h0
 have hn:n &&& 65534≤65534:=Nat.and_le_right
 have h1:(BitVec.ofInt 32 (n:Int)).toNat=n:=by
  rw[BitVec.ofInt_natCast,BitVec.toNat_ofNat];exact Nat.mod_eq_of_lt (by omega)
 have h2:(BitVec.ofInt 32 (65534:Int)).toNat=65534:=by decide
 show IntKind.i32.wrap ((BitVec.ofInt 32 (n:Int) &&& BitVec.ofInt 32 (65534:Int)).toNat:Int)=_
 rw[BitVec.toNat_and,h1,h2,IntKind.wrap_i32]
 simp only[Int.toNat_natCast]
 omega
theorem zjt(n:Nat):n &&& 65534=65534↔65534≤n%65536:=by
 have h:n &&& 65534=(n%65536) &&& 65534:=by
  apply Nat.eq_of_testBit_eq
  intro i
  rw[Nat.testBit_and,Nat.testBit_and,show(65536:Nat)=2^16 from rfl,Nat.testBit_mod_two_pow]
  by_cases hi:i<16
  ·simp[hi]
  ·have:Nat.testBit 65534 i=false:=Nat.testBit_lt_two_pow (ei (by decide:65534<2^16) (Nat.pow_le_pow_right (by decide) (by omega)))
   simp[this]
 rw[h]
 have hlt:n%65536<65536:=Nat.mod_lt _ (by decide)
 generalize n%65536=m at*
 constructor
 ·intro e
  have:=@Nat.and_le_left m 65534
  omega
 ·intro hm
  have:m=65534∨m=65535:=by omega
  rcases this with rfl|rfl<;>rfl
theorem jt{a b:Bool}(h:a=b):Ending.returned (.bool a)= .returned (.bool b):=by rw[h]
theorem uw(c:Int)(w:World):Calls prog 216 #[.int .i32 c] w fun e w'=>e= .returned (.bool (fc c))∧w'=w:=by
 by_cases h2:48≤c
 ·by_cases h3:c≤57
  ·go_enter func216,ntmps216
   go_wp2
   go_ret
   exact⟨jt (by simp[fc];omega),rfl⟩
  ·have h3':57<c:=by omega
   go_enter func216,ntmps216
   go_wp2
   go_ret
   exact⟨jt (by simp[fc];omega),rfl⟩
 ·have h2':c<48:=by omega
  go_enter func216,ntmps216
  go_wp2
  go_ret
  exact⟨jt (by simp[fc];omega),rfl⟩
theorem Jh(c:Int)(w:World):Calls prog 259 #[.int .i32 c] w fun e w'=>e= .returned (.bool (Ei c))∧w'=w:=by
 by_cases h2:55296≤c
 ·by_cases h3:c≤57343
  ·go_enter func259,ntmps259
   go_wp2
   go_ret
   exact⟨jt (by simp[Ei];omega),rfl⟩
  ·have h3':57343<c:=by omega
   go_enter func259,ntmps259
   go_wp2
   go_ret
   exact⟨jt (by simp[Ei];omega),rfl⟩
 ·have h2':c<55296:=by omega
  go_enter func259,ntmps259
  go_wp2
  go_ret
  exact⟨jt (by simp[Ei];omega),rfl⟩
theorem Sk{c:Int}(h0:0≤c)(h1:c≤1114111)(h:¬(64976≤c∧c≤65007)):(bits BinOp.and IntKind.i32 c 65534==65534)=Bj c:=by
 obtain⟨n,rfl⟩:=Int.eq_ofNat_of_zero_le h0
 have hi:=zjt n
 rw[zgh _ h0 h1]
 simp only[Bj,h,decide_false,Bool.false_or,Int.toNat_natCast]
 by_cases hn:65534≤n%65536
 ·have e:=hi.2 hn
  rw[e]
  simp
  omega
 ·have e:¬(n &&& 65534=65534):=fun e=>hn (hi.1 e)
  have e1:((n &&& 65534:Nat):Int)≠65534:=by omega
  rw[af.2 e1]
  symm
  simp
  omega
theorem W3(c:Int)(w:World)(h0:0≤c)(h1:c≤1114111):Calls prog 260 #[.int .i32 c] w fun e w'=>e= .returned (.bool (Bj c))∧w'=w:=by
 by_cases h2:64976≤c
 ·by_cases h3:c≤65007
  ·go_enter func260,ntmps260
   go_wp2
   go_ret
   exact⟨jt (by simp[Bj];omega),rfl⟩
  ·have h3':65007<c:=by omega
   go_enter func260,ntmps260
   go_wp2
   go_ret
   exact⟨jt (Sk h0 h1 (by omega)),rfl⟩
 ·have h2':c<64976:=by omega
  go_enter func260,ntmps260
  go_wp2
  go_ret
  exact⟨jt (Sk h0 h1 (by omega)),rfl⟩
theorem Nc(c:Int)(w:World):Calls prog 261 #[.int .i32 c] w fun e w'=>e= .returned (.bool (Av c))∧w'=w:=by
 by_cases h2:1≤c
 ·by_cases h3:c≤31
  ·have h5:c<127:=by omega
   cases hb:ba c
   all_goals
    go_enter func261,ntmps261
    go_wp2_with(go_at_call 195;refine(cg c _).mono ?_;rintro e w'⟨rfl,rfl⟩)
    go_ret
    exact⟨jt (by simp[Av,hb];omega),rfl⟩
  ·have h3':31<c:=by omega
   by_cases h4:127≤c
   ·by_cases h5:c≤159
    ·go_enter func261,ntmps261
     go_wp2
     go_ret
     exact⟨jt (by simp[Av];omega),rfl⟩
    ·have h5':159<c:=by omega
     go_enter func261,ntmps261
     go_wp2
     go_ret
     exact⟨jt (by simp[Av];omega),rfl⟩
   ·have h4':c<127:=by omega
    go_enter func261,ntmps261
    go_wp2
    go_ret
    exact⟨jt (by simp[Av];omega),rfl⟩
 ·have h2':c<1:=by omega
  have h5:c<127:=by omega
  go_enter func261,ntmps261
  go_wp2
  go_ret
  exact⟨jt (by simp[Av];omega),rfl⟩
def om:List (Str×Str):=[([97,109,112,59],[38]),([97,109,112],[38]),([65,77,80,59],[38]),([65,77,80],[38]),([108,116,59],[60]),([108,116],[60]),([76,84,59],[60]),([76,84],[60]),([103,116,59],[62]),([103,116],[62]),([113,117,111,116,59],[34]),([113,117,111,116],[34]),([97,112,111,115,59],[39]),([110,98,115,112,59],[194,160]),([110,98,115,112],[194,160]),([99,111,112,121,59],[194,169]),([99,111,112,121],[194,169]),([110,111,116,59],[194,172]),([110,111,116],[194,172]),([110,111,116,105,110,59],[226,136,137]),([104,101,108,108,105,112,59],[226,128,166])]
def un:Array Value:=(om.flatMap fun n=>[Value.string ⟨n.1.toArray⟩,Value.string ⟨n.2.toArray⟩]).toArray
structure Laid(w:World):Prop where
 names:∃t fr,w.heap[5]? =some (.cells un t fr)
 tabs:Lib.Utf8Tabs 2 3 w
 win:∀(j:Nat)(v:Int),yo[j]? =some v→w.cell? ⟨8,j,none⟩=some (.int .i32 v)
theorem Lq(c:Int)(w:World)(h:Rn c):Calls prog 251 #[.int .i32 c] w fun e w'=>e= .returned (.int .i32 (if fc c=true then c-48 else lw c-87))∧w'=w:=by
 obtain⟨h0,h1⟩:=h
 cases hd:fc c
 ·have hl: -1≤lw c∧lw c≤1114111:=Hx ⟨h0,h1⟩
  have HL:=hide (pg c w ⟨h0,h1⟩)
  generalize lw c=d at*
  obtain⟨h2,h3⟩:=hl
  go_enter func251,ntmps251
  go_wp2_with(first
   |(go_at_call 216;refine(uw c _).mono ?_;rintro e w'⟨rfl,rfl⟩)
   |(go_at_call 194;refine(ae HL).mono ?_;rintro e w'⟨rfl,rfl⟩))
  go_ret
  exact⟨F2 (by first|omega|(simp;done)|(simp;omega)),rfl⟩
 ·have h4:48≤c∧c≤57:=by simpa[fc]using hd
  obtain⟨h4,h5⟩:=h4
  go_enter func251,ntmps251
  go_wp2_with(go_at_call 216;refine(uw c _).mono ?_;rintro e w'⟨rfl,rfl⟩)
  go_ret
  exact⟨F2 (by first|omega|(simp;done)|(simp;omega)),rfl⟩
theorem D6(c:Int)(w:World)(L:Laid w)(h0:0≤c)(h1:c≤159):Calls prog 262 #[.int .i32 c] w fun e w'=>e= .returned (.int .i32 (zam c))∧w'=w:=by
 by_cases h2:128≤c
 ·obtain⟨j,hj⟩:∃j:Nat,c-128=j:=Int.eq_ofNat_of_zero_le (by omega)
  have hj2:j<32:=by omega
  have hc:c=(j:Int)+128:=by omega
  subst hc
  have hv:yo[j]? =some (yo.getD j 0):=by
   rw[bu,ig (by exact hj2)];rfl
  have hcell:=L.win j _ hv
  have e:zam ((j:Int)+128)=if yo.getD j 0≠0 then yo.getD j 0 else(j:Int)+128:=by
   unfold zam
   have:((j:Int)+128-128).toNat=j:=by omega
   rw[this]
   simp[h2]
  rw[e]
  generalize yo.getD j 0=v at*
  clear e hv L
  by_cases hz:v=0
  ·subst hz
   go_enter func262,ntmps262
   go_wp2
   go_ret
   exact⟨rfl,rfl⟩
  ·have hz':(v==0)=false:=by simpa using hz
   go_enter func262,ntmps262
   go_wp2
   go_ret
   exact⟨by simp[hz],rfl⟩
 ·have h2':c<128:=by omega
  go_enter func262,ntmps262
  go_wp2
  go_ret
  exact⟨F2 (by unfold zam;rw[ag (by omega)]),rfl⟩
end Go.Proofs.YtdfmapcnfficlaaGreatDoor
namespace Go.Proofs.YtdfmapcnfficlaaGreatDoor
open Go Go.RowKit
structure pm(w:World)(own:Nat→Prop)(b:Nat)(T:TypeId)(cs:Array Value)(l:List Item):Prop where
 self:w.heap[b]? =some (.cells cs T (0,0))
 ownB:own b
 rows:Items w (fun k=>own k∧k≠b) l
section
variable{w w1 w':World}{own:Nat→Prop}{b:Nat}{T:TypeId}{cs cs':Array Value}{l l':List Item}
theorem pm.lt(h:pm w own b T cs l):b<w.heap.size:=(co.1 h.self).1
theorem pm.cell(h:pm w own b T cs l)(o:Nat):w.cell? ⟨b,o,none⟩=cs[o]? :=bg h.self o
theorem pm.frozen(h:pm w own b T cs l)(o:Nat):w.frozen? ⟨b,o,none⟩=false:=bn h.self o
theorem pm.ok(h:pm w own b T cs l){it:Item}(hi:it∈l):it.ok w:=h.rows.ok it hi
theorem pm.qm(h:pm w own b T cs l){it:Item}(hi:it∈l):∀k,it.blk=some k→own k∧k≠b:=
 fun k hk=>h.rows.own k (ez.2 ⟨it,hi,hk⟩)
theorem pm.set(h:pm w own b T cs l)(o:Nat)(v:Value)(hc:cs.setIfInBounds o v=cs'):pm (w.setCell ⟨b,o,none⟩ v) own b T cs' l:=
 ⟨by rw[set_self h.self,hc],h.ownB,h.rows.kept fun k _ hk=>kj v hk.2⟩
theorem pm.more(h:pm w own b T cs l)(hm:More w w1):pm w1 own b T cs l:=
 ⟨by rw[hm.block b h.lt];exact h.self,h.ownB,h.rows.kept fun k hk _=>hm.block k hk⟩
theorem pm.perm(h:pm w own b T cs l)(p:l.Perm l'):pm w own b T cs l':=⟨h.self,h.ownB,h.rows.perm p⟩
theorem pm.less(h:pm w own b T cs l)(l1 l2 n:List Item)(p:l.Perm (l1++l2))(hn:∀it∈n,it.ok w∧it.blk=none)(p':l'.Perm (l1++n)):pm w own b T cs l':=
 ⟨h.self,h.ownB,h.rows.less l1 l2 n p hn p'⟩
theorem pm.mid(h:pm w own b T cs l)(hm:More w w1){it:Item}(hi:it∈l)(hg:w1.grownBy w' it.blk):w'.heap[b]? =some (.cells cs T (0,0)):=by
 rw[hg.block b (by have:=h.lt;have:=hm.size;omega) (fun e=>(h.qm hi b e.symm).2 rfl),hm.block b h.lt];exact h.self
theorem pm.grow(h:pm w own b T cs l)(hm:More w w1)(hup:∀k,w.heap.size≤k→own k)(l1 l2:List Item)(it it':Item)(e:l.Perm (l1++it::l2))(e':l'.Perm (l1++it'::l2))(hok:it'.ok w')
  (hg:w1.grownBy w' it.blk) (hf:it'.blk=it.blk∨∃g,it'.blk=some g∧w1.heap.size≤g) (o:Nat) (v:Value) (hc:cs.setIfInBounds o v=cs'):pm (w'.setCell ⟨b,o,none⟩ v) own b T cs' l':=by
 have hself:=h.mid hm (e.mem_iff.2 (by simp)) hg
 have hI:Items w1 (fun k=>own k∧k≠b) (l1++it::l2):=(h.rows.perm e).kept fun k hk _=>hm.block k hk
 have hI':=hI.step hg hok hf (fun k hk=>⟨hup k (by have:=hm.size;omega),fun e=>by have:=h.lt;have:=hm.size;omega⟩)
 exact⟨by rw[set_self hself,hc],h.ownB,(hI'.kept fun k _ hk=>kj _ hk.2).perm e'.symm⟩
theorem pm.bare(h:pm w own b T cs l){it:Item}(hok:it.ok w)(hb:it.blk=none):pm w own b T cs (l++[it]):=⟨h.self,h.ownB,h.rows.bare hok hb⟩
theorem pm.fresh{w0:World}{aj:Nat→Prop}(h:pm w (fun k=>aj k∨w0.heap.size≤k) b T cs l)(hm:More w w'):pm w' (fun k=>yj w0 aj w k∨w'.heap.size≤k) b T cs l:=by
 refine⟨by rw[hm.block b h.lt];exact h.self,.inl ⟨h.ownB,h.lt⟩,(h.rows.kept (w':=w') fun k hk' _=>hm.block k hk').ok,h.rows.nodup,fun k hk'=> ?_⟩
 obtain⟨x,hx,hb⟩:=ez.1 hk'
 exact⟨.inl ⟨(h.rows.own k hk').1,Item.lt (h.rows.ok x hx) k hb⟩,(h.rows.own k hk').2⟩
theorem pm.wider{own':Nat→Prop}(h:pm w own b T cs l)(hu:∀k,own k→own' k):pm w own' b T cs l:=
 ⟨h.self,hu _ h.ownB,h.rows.ok,h.rows.nodup,fun k hk=>⟨hu _ (h.rows.own k hk).1,(h.rows.own k hk).2⟩⟩
theorem pm.qn{w0 w2:World}{aj:Nat→Prop}(h:pm w2 (fun k=>yj w0 aj w k∨w1.heap.size≤k) b T cs l)(hk:Kept aj w0 w1):pm w2 (fun k=>aj k∨w0.heap.size≤k) b T cs l:=
 h.wider fun _ hh=>hh.elim (fun h=>h.1) (fun h=> .inr (fz hk.size h))
end
theorem Ue{w0 w w1 w2:World}{aj:Nat→Prop}(hk:Kept aj w0 w1)(h:Kept (yj w0 aj w) w1 w2):Kept aj w0 w2:=
 hk.trans h fun x hx hh=>hh.1.elim id (fun h=>by omega)
theorem Na{w0 w:World}{aj:Nat→Prop}(hk:Kept aj w0 w):∀k,w.heap.size≤k→(aj k∨w0.heap.size≤k):=fun k hh=> .inr (fz hk.size hh)
theorem More.tr{a b c:World}(h:More a b)(k:More b c):More a c:=
 ⟨k.os.trans h.os,k.tape.trans h.tape,k.output.trans h.output,fz h.size k.size,fun x hx=>(k.block x (ei hx h.size)).trans (h.block x hx)⟩
theorem Item.more{w w1:World}{it:Item}(h:it.ok w)(hm:More w w1):it.ok w1:=Item.Bh h fun k hk=>hm.block k (Item.lt h k hk)
theorem More.cell{w w1:World}(hm:More w w1){g o:Nat}(hg:g<w.heap.size):w1.cell? ⟨g,o,none⟩=w.cell? ⟨g,o,none⟩:=fk (hm.block g hg)
theorem ii(W:World)(xs:List Value)(T:TypeId)(g:Nat)(hg:g=W.heap.size):∀(j:Nat)u,xs[j]? =some u→(W.alloc (.cells xs.toArray T)).cell? ((⟨g,0,none⟩:Addr).add j)=some u:=by
 intro j u h
 subst hg
 rw[show((⟨W.heap.size,0,none⟩:Addr).add j)=⟨W.heap.size,j,none⟩ by unfold Addr.add;split<;>simp_all,World.cell?_alloc_at _ _ _ _ rfl]
 simpa using h
def ck(r:Sl)(l:List Int):Item:=⟨3,1,r.a,l.length,r.cap,l.map (Value.int .i64)⟩
theorem uv(w:World):(ck ⟨none,0⟩ []).ok w:=World.ownsRow_nil w 0 3 1
theorem km(l:List Int):∀u∈l.map (Value.int .i64),u.oneCell'=true:=by
 intro u hu;obtain⟨c,_,rfl⟩:=List.mem_map.1 hu;rfl
end Go.Proofs.YtdfmapcnfficlaaGreatDoor

import Derived.Test.YtdfmapcnfficlaaGreatDoorP42
set_option linter.all false
set_option maxHeartbeats 4000000
set_option maxRecDepth 1000000
namespace Go.Proofs.YtdfmapcnfficlaaGreatDoor.M
open Go.Proofs.Tryz
open Go Go.RowKit Go.Proofs.YtdfmapcnfficlaaGreatDoor
structure M4(w:World)(g o:Nat)(l:List Tok):Prop where
 cells:∀k t,l[k]? =some t→∃x:Sl,w.cell? ⟨g,o+k*6,none⟩=some (.int .i64 t.kind)∧w.cell? ⟨g,o+k*6+1,none⟩=some (.string ⟨t.name.toArray⟩)∧w.cell? ⟨g,o+k*6+2,none⟩=some (.slice x.a t.attrs.length x.cap)∧w.cell? ⟨g,o+k*6+3,none⟩=some (.string ⟨t.text.toArray⟩)∧w.cell? ⟨g,o+k*6+4,none⟩=some (.bool t.flag)∧w.cell? ⟨g,o+k*6+5,none⟩=some (.int .i64 t.place)∧Ko w x t.attrs
 lt:g<w.heap.size
def Ty(w:World)(v:Value)(l:List Tok):Prop:=∃a cap,v= .slice a l.length cap∧(l≠[]→∃g o,a=some ⟨g,o,none⟩∧M4 w g o l)
theorem M4.more{w w':World}{g o:Nat}{l:List Tok}(h:M4 w g o l)(hm:More w w'):M4 w' g o l:=by
 have hg:=hm.block g h.lt
 refine⟨fun k t hk=> ?_,by have:=h.lt;have:=hm.size;omega⟩
 obtain⟨x,h1,h2,h3,h4,h5,h6,h7⟩:=h.cells k t hk
 exact⟨x,by rw[fk (w:=w) hg];exact h1,by rw[fk (w:=w) hg];exact h2,by rw[fk (w:=w) hg];exact h3,by rw[fk (w:=w) hg];exact h4,by rw[fk (w:=w) hg];exact h5,by rw[fk (w:=w) hg];exact h6,h7.more hm⟩
theorem Ty.more{w w':World}{v:Value}{l:List Tok}(h:Ty w v l)(hm:More w w'):Ty w' v l:=by
 obtain⟨a,cap,rfl,h1⟩:=h
 exact⟨a,cap,rfl,fun hl=>by obtain⟨g,o,e,ht⟩:=h1 hl;exact⟨g,o,e,ht.more hm⟩⟩
theorem zit{w:World}{q:Sl}{T:List Tok}{ta:List Sl}(h:(pi q T ta).ok w)(h2:∀it∈cw T ta,it.ok w)(hl:ta.length=T.length)(n:Nat)(hn:n≤T.length):Ty w (sliced q.a n T.length q.cap 6) (T.drop n):=by
 refine⟨_,_,by unfold sliced;rw[fj],fun hne=> ?_⟩
 have hlt:n<T.length:=by
  rcases Nat.lt_or_ge n T.length with z|z
  ·exact z
  ·exact absurd (List.drop_eq_nil_iff.2 z) hne
 obtain⟨g,hg,hgl,_⟩:=Fx h (show T.length≠0 by omega)
 have hga:q.a=some ⟨g,0,none⟩:=hg
 have hcap:T.length≤q.cap:=Wi h
 refine⟨g,n*6,?_,⟨fun k t hk=> ?_,hgl⟩⟩
 ·rw[ag (by omega),hga]
  simp only[Option.map_some,Addr.add]
  split
  ·next z=>rw[z]
  ·simp
 ·rw[List.getElem?_drop]at hk
  have hx:n+k<ta.length:=by rw[hl];exact(cd.1 hk).1
  have ht:ta[n+k]? =some ta[n+k]:=ig hx
  have hc:=fun i hi=>yf T ta (n+k) t ta[n+k] hk ht i hi
  have cell:∀i,i<6→w.cell? ⟨g,n*6+k*6+i,none⟩=(fq t ta[n+k])[i]? :=by
   intro i hi
   have e:=hc i hi
   have hil:i<(fq t ta[n+k]).length:=by simpa[fq]using hi
   rw[ig hil]at e⊢
   have:=ve h hg ((n+k)*6+i) _ e
   rw[show n*6+k*6+i=(n+k)*6+i by omega]
   exact this
  refine⟨ta[n+k],cell 0 (by omega),cell 1 (by omega),cell 2 (by omega),cell 3 (by omega),cell 4 (by omega),cell 5 (by omega),?_⟩
  exact Tx (h2 _ (Ah T ta (n+k) t _ hk ht))
theorem zfw(w:World):(Go.sizeOf 144).run prog w= .ok 6 w:=by kernel_rfl
theorem zcb(a:Option Addr)(len cap n:Nat)(hn:n≤len)(W:World):(Instr.slice 139 (.slice a len cap) (some (.int .i64 (n:Int))) none none).run prog W= .ok (sliced a n len cap 6) W:=by
 have ht':prog.underlying 139=some (.slice (prog.elem 139)):=by simp[Program.elem,underlying139]
 have he:prog.elem 139=144:=by simp[Program.elem,underlying139]
 rw[run_slice_l W 139 a len cap ht' .i64 _ (by omega) (by omega),he,zfw,Int.toNat_natCast]
 rfl
section
variable{w0 w w':World}{b:Nat}{y:YS}
theorem zcc(h:Yk w0 b y w)(hx:y.text.length≤268435456):
  Calls prog 83 #[.pointer (some ⟨b,0,none⟩)] w fun e w'=>e= .returned (.int .i64 (P8 y.limit y.text y.closed))∧Yk w0 b y w':=by
 have HN:=hide (Z2 h hx)
 have HY:=hide h
 clear h
 go_enter func83,ntmps83
 go_wp2_with fail
 refine(ae HN).mono ?_
 rintro e w2⟨q,ta,rfl,h2⟩
 have HR:=hide ((ae HY).more h2.more)
 clear HN HY h2
 go_wp2
 go_ret
 exact⟨rfl,ae HR⟩
theorem zcd(h:Yk w0 b y w)(hx:y.text.length≤268435456)(hg:y.given≤(uk y).length):
  Calls prog 81 #[.pointer (some ⟨b,0,none⟩)] w fun e w'=>∃v,e= .returned v∧Ty w' v ((uk y).drop y.given)∧Yk w0 b {y with given:=(uk y).length} w':=by
 have HN:=hide (Z2 h hx)
 have HY:=hide h
 have hb:=h.lt
 have hlen:(uk y).length≤1099511627776:=by
  have:=P9 w0 y.limit y.text y.closed hx
  unfold uk;rw[aq];split<;>simp<;>omega
 clear h
 go_enter func81,ntmps81
 go_wp2_with fail
 refine(ae HN).mono ?_
 rintro e w2⟨q,ta,rfl,h2⟩
 have h3:=(ae HY).more h2.more
 have c2:w2.cell? ⟨b,2,none⟩=some (.int .i64 y.given):=h3.cell 2
 have hf:=h3.frozen
 have hsl:=zcb q.a (uk y).length q.cap y.given hg
 have HS:=hide (h3.set (y':={y with given:=(uk y).length}) 2 (.int .i64 (uk y).length) rfl)
 have hks:=h2.rows.kept (w':=w2.setCell ⟨b,2,none⟩ (.int .i64 (uk y).length)) (fun k _ hk=>kj _ (show k≠b by omega))
 have HT:=hide (zit (hks.ok (pi q (uk y) ta) (by simp)) (fun it hi=>hks.ok it (by simp[hi])) h2.lt y.given hg)
 clear HN HY h2 h3 hks
 generalize sliced q.a y.given (uk y).length q.cap 6=V at*
 go_wp2
 go_ret
 exact⟨V,rfl,ae HT,ae HS⟩
end
theorem zcf(c n:Int)(w:World)(h1: -9223372036854775808≤c)(h2:c≤9223372036854775807)(hn:0<n)(hn2:n≤9223372036854775807):
  Calls prog 52 #[.int .i64 c,.int .i64 n] w fun e w'=>e= .returned (.int .i64 (Qb c n))∧w'=w:=by
 have hr:=Lf c n hn
 unfold Qb at*
 by_cases hc:c<0
 ·rw[au hc]at*
  go_enter func52,ntmps52
  go_wp2
  go_ret
  exact⟨by rw[Int.neg_tmod];rfl,rfl⟩
 ·rw[ag hc]at*
  go_enter func52,ntmps52
  go_wp2
  go_ret
  exact⟨by rw[Int.tmod_eq_emod_of_nonneg (by omega)];rfl,rfl⟩
section
variable{w:World}{ac al:Addr}
theorem zfz(w:World):Calls prog 77 #[.nilIface] w fun e w'=>e= .returned (.tuple #[.int .i64 0,.int .i64 0])∧w'=w:=by
 go_enter func77,ntmps77
 go_wp2
 go_ret2
 exact⟨rfl,rfl⟩
theorem Wn{p:Int}{v:Value}(E:Ee w ac al)(hA:AtV w v p ac)(hp0:0≤p)(hp1:p≤2147483648)(T:Pow w):
  Calls prog 77 #[v] w fun e w'=>e= .returned (.tuple #[.int .i64 1,.int .i64 p])∧More w w':=by
 obtain⟨g,rfl,hg⟩:=hA
 obtain⟨x,hx,ha⟩:=E.tc
 have HU:=hide (Le w hg)
 have HE:=hide (YtdfmapcnfficlaaGreatDoor.od w hg hx ha hp0 hp1 T)
 have heq:=E.eqC ac
 have hta:∀W:World,(Instr.typeAssert (.iface 87 (.pointer (some ⟨g,0,none⟩))) 38 87 true).run prog W= .ok (.tuple #[.pointer (some ⟨g,0,none⟩),.bool true]) W:=fun W=>by kernel_rfl
 have HG:=hide (fun(W:World)(hW:More w W)=>And.intro (bg ((hW.block g (ww hg)).trans hg) 0) (And.intro (bg ((hW.block g (ww hg)).trans hg) 1) (E.more hW).vc))
 clear hg ha E T
 go_enter func77,ntmps77
 go_wp2_with fail
 refine(ae HU).mono ?_
 rintro e w1⟨rfl,rfl⟩
 go_wp2_with fail
 refine(ae HE).mono ?_
 rintro e w2⟨y,hy,rfl,m2⟩
 obtain⟨d0,d1,d2⟩:=ae HG _ m2
 have hy1:(y==[])=false:=by simpa using hy
 clear hy HE HU
 go_wp2_with fail
 go_quiet (fail)
 go_wp2_with fail
 go_quiet (fail)
 go_wp2
 go_ret2
 exact⟨rfl,m2.os,m2.tape,m2.output,m2.size,m2.block⟩
theorem Z4{p:Int}{v:Value}(E:Ee w ac al)(hA:AtV w v p al)(hp0:0≤p)(hp1:p≤2147483648)(T:Pow w):
  Calls prog 77 #[v] w fun e w'=>e= .returned (.tuple #[.int .i64 2,.int .i64 p])∧More w w':=by
 obtain⟨g,rfl,hg⟩:=hA
 obtain⟨x,hx,ha⟩:=E.tl
 have HU:=hide (Le w hg)
 have HE:=hide (YtdfmapcnfficlaaGreatDoor.od w hg hx ha hp0 hp1 T)
 have heq:=E.eqC al
 have hta:∀W:World,(Instr.typeAssert (.iface 87 (.pointer (some ⟨g,0,none⟩))) 38 87 true).run prog W= .ok (.tuple #[.pointer (some ⟨g,0,none⟩),.bool true]) W:=fun W=>by kernel_rfl
 have HN:=hide E.neq
 have HG:=hide (fun(W:World)(hW:More w W)=>And.intro (bg ((hW.block g (ww hg)).trans hg) 0) (And.intro (bg ((hW.block g (ww hg)).trans hg) 1) (And.intro (E.more hW).vc (E.more hW).vl)))
 clear hg ha E T
 go_enter func77,ntmps77
 go_wp2_with fail
 refine(ae HU).mono ?_
 rintro e w1⟨rfl,rfl⟩
 go_wp2_with fail
 refine(ae HE).mono ?_
 rintro e w2⟨y,hy,rfl,m2⟩
 obtain⟨d0,d1,d2,d3⟩:=ae HG _ m2
 have hy1:(y==[])=false:=by simpa using hy
 have hne:∀nq,(binOp .eql 38 (.iface 233 (.pointer (some al))) (.iface 233 (.pointer (some ac)))).run prog (w2.drewN nq)= .ok (.bool false) (w2.drewN nq):=fun nq=>ae HN _ (m2.trans' ⟨rfl,rfl,rfl,cx _,fun _ _=>rfl⟩)
 clear hy HE HU
 go_wp2_with fail
 go_quiet (fail)
 go_wp2_with fail
 go_quiet (fail)
 go_wp2_with fail
 go_quiet (fail)
 go_wp2
 go_ret2
 exact⟨rfl,m2.os,m2.tape,m2.output,m2.size,m2.block⟩
end
theorem zcg(l:List Tok)(w:World)(v v':Value)(h:Z3 w v l)(h':Ty w v' l)(hl:l.length≤lim):
  Calls prog 80 #[v,v'] w fun e w'=>e= .returned (.bool true)∧More w w':=by
 obtain⟨a,cap,rfl,h1,hc,ha⟩:=h
 obtain⟨a',cap',rfl,h1'⟩:=h'
 have HA:=hide ha
 clear ha
 unfold lim at hl
 go_enter func80,ntmps80
 go_wp2
 go_loopw [5] (fun i wr=>∃(k:Nat),k≤l.length∧i= .int .i64 k∧More w wr) (fun i _=>l.length-(intOf i).toNat)
 case atStart=>exact⟨0,da _,rfl,More.refl w⟩
 case round=>
  obtain⟨k,hk,rfl,hm⟩:=hrel
  generalize wr=wo at*
  by_cases hlt:k<l.length
  ·obtain⟨t,ht⟩:∃t,l[k]? =some t:=⟨l[k],by simp[hlt]⟩
   have hne:l≠[]:=fun e=>by subst e;simp at hlt
   obtain⟨g,rfl,hT⟩:=h1 hne
   obtain⟨g',o',rfl,hT'⟩:=h1' hne
   obtain⟨x,d0,d1,d2,d3,d4,d5,hS⟩:=(hT.more hm).cells k t ht
   obtain⟨x',d0',d1',d2',d3',d4',d5',hS'⟩:=(hT'.more hm).cells k t ht
   have zrb:g<wo.heap.size:=(hT.more hm).lt
   have zto:g'<wo.heap.size:=(hT'.more hm).lt
   have hal:=ae HA t (List.mem_of_getElem? ht)
   simp only[maxLen]at hal
   have e1:(t.kind==t.kind)=true:=by simp
   have e2:(t.place==t.place)=true:=by simp
   have e3:(t.name==t.name)=true:=by simp
   have e4:(t.text==t.text)=true:=by simp
   have e5:(t.flag==t.flag)=true:=by simp
   have HS:=hide hS
   have HS':=hide hS'
   clear hS hS' h1 h1' hT hT'
   go_wp2
   go_loopw [8] (fun i8 wy=>∃(j:Nat),j≤t.attrs.length∧i8= .int .i64 j∧More wo wy∧wo.heap.size+1<wy.heap.size∧wy.cell? ⟨wo.heap.size,2,none⟩=some (.slice x.a t.attrs.length x.cap)∧wy.cell? ⟨wo.heap.size+1,2,none⟩=some (.slice x'.a t.attrs.length x'.cap)) (fun i _=>t.attrs.length-(intOf i).toNat)
   case atStart=>exact⟨0,da _,rfl,by repeat(first|exact More.refl _|refine More.alloc ?_ _),by simp,by simp,by simp⟩
   case round=>
    obtain⟨j,hj,rfl,hmy,hsy,b1,b2⟩:=hrel
    clear d0 d1 d2 d3 d4 d5 d0' d1' d2' d3' d4' d5' e1 e2 e3 e4 e5
    by_cases hjl:j<t.attrs.length
    ·obtain⟨y,hy⟩:∃y,t.attrs[j]? =some y:=⟨t.attrs[j],by simp[hjl]⟩
     obtain⟨gx,hxa,hgx,hcx⟩:=((ae HS).more hmy) j y hy
     obtain⟨gx',zp8,zux,zuy⟩:=((ae HS').more hmy) j y hy
     rw[hxa]at b1
     rw[zp8]at b2
     have e1:(y==y)=true:=by simp
     clear hy HS HS'
     go_wp2_with fail
     go_quiet (fail)
     go_wp2
     go_roundw
     case rel=>exact⟨j+1,by omega,by go_num,⟨hmy.os,hmy.tape,hmy.output,hmy.size,hmy.block⟩,hsy,by rw[hxa];exact b1,by rw[zp8];exact b2⟩
     case measure=>simp[intOf];omega
    ·clear HS HS'
     go_wp2
     go_roundw
     case rel=>exact⟨k+1,by omega,by go_num,hm.trans' hmy⟩
     case measure=>simp[intOf];omega
  ·go_wp2
   go_ret
   exact⟨rfl,hm⟩
end Go.Proofs.YtdfmapcnfficlaaGreatDoor.M

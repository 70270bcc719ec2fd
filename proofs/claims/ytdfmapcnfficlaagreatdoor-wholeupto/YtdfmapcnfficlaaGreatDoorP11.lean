import Derived.Test.YtdfmapcnfficlaaGreatDoorP10
set_option linter.all false
set_option maxHeartbeats 8000000
set_option maxRecDepth 1000000
namespace Go.Proofs.YtdfmapcnfficlaaGreatDoor.M
open Go.Proofs.Tryz
open Go Go.RowKit Go.Proofs.YtdfmapcnfficlaaGreatDoor
section
variable{w0:World}{aj:Nat→Prop}{b:Nat}{m:MS}{ex:List Item}{w:World}{g:Bool}{k:Nat}
theorem Nq:oc.length=21:=rfl
theorem Ss:∀n∈oc,0<n.1.length∧n.1.length≤7∧0≤n.2∧n.2≤1114111:=by decide
theorem zl1(f:Str×Int→Bool)(h:∀k n,k<21→oc[k]? =some n→f n=false):oc.any f=false:=by
 rw[List.any_eq_false]
 intro n hn
 obtain⟨k,hk,rfl⟩:=List.mem_iff_getElem.1 hn
 rw[h k _ hk (by simp)];decide
theorem zgt{k:Nat}{n:Str×Int}(hk:oc[k]? =some n)(hb:∀j x,j<k→oc[j]? =some x→ly m x.1 false<x.1.length)(hm:n.1.length≤ly m n.1 false):found m=some n:=by
 unfold found
 obtain⟨h1,h2⟩:=cd.1 hk
 rw[List.find?_eq_some_iff_getElem]
 refine⟨by simpa using hm,k,h1,h2,fun j hj=> ?_⟩
 have:=hb j _ hj (ig (by omega))
 simp;omega
theorem zgu(hb:∀j x,j<21→oc[j]? =some x→ly m x.1 false<x.1.length):found m=none:=by
 unfold found
 rw[List.find?_eq_none]
 intro x hx
 obtain⟨j,hj,rfl⟩:=List.mem_iff_getElem.1 hx
 have:=hb j _ hj (ig hj)
 simp;omega
theorem zec(nm:Str)(h:0<nm.length)(W:World):(Instr.index 9 (.string ⟨nm.toArray⟩) (.int .i64 ((nm.length:Int)-1))).run prog W= .ok (.int .u8 ((nm.getLast?.getD 0).toNat:Nat)) W:=by
 rw[run_index_string W 9 _ .i64 _ underlying9,dif_pos ⟨by omega,by simp[ByteArray.size];omega⟩]
 congr 3
 have hi:((nm.length:Int)-1).toNat=nm.length-1:=by omega
 have e:nm.getLast? =some (nm[nm.length-1]'(by omega)):=by rw[List.getLast?_eq_getElem?];simp[h]
 rw[e]
 simp only[fb]
 show((nm.toArray)[((nm.length:Int)-1).toNat]'_).toNat=_
 simp[hi]
theorem zgv(h:ahead m 0<0∧m.whole=false):reference m=none:=by unfold reference;rw[au h]
theorem zj3(h:¬(ahead m 0<0∧m.whole=false))(h1:ahead m 0=35):reference m=number m:=by unfold reference;rw[ag h,au h1]
theorem zl2(h:¬(ahead m 0<0∧m.whole=false))(h1:ahead m 0≠35)(h2:br (ahead m 0)=false∧fc (ahead m 0)=false):reference m=some (st (give m [38]) m.back):=by unfold reference;rw[ag h,ag h1,au h2]
theorem zgw(h:¬(ahead m 0<0∧m.whole=false))(h1:ahead m 0≠35)(h2:¬(br (ahead m 0)=false∧fc (ahead m 0)=false))(h3:oc.any (fun n=>wait m n.1 false)=true):reference m=none:=by unfold reference;rw[ag h,ag h1,ag h2,au h3]
theorem zed(h:¬(ahead m 0<0∧m.whole=false))(h1:ahead m 0≠35)(h2:¬(br (ahead m 0)=false∧fc (ahead m 0)=false))(h3:oc.any (fun n=>wait m n.1 false)=false):reference m=match found m with
  |none=>some (st (give m [38]) 33)
  |some n=>
   if Bv n.1=true then some (jump (give m [n.2]) n.1.length m.back)
   else if ahead m n.1.length<0∧m.whole=false then none
   else if td m=true∧(br (ahead m n.1.length)=true∨fc (ahead m n.1.length)=true∨ahead m n.1.length=61)then
    some (jump (give (give m [38]) ((m.l.drop m.pos).take n.1.length)) n.1.length m.back)
   else some (jump (give (wrong m [115,101,109,105,99,111,108,111,110] (m.pos+n.1.length:Nat)) [n.2]) n.1.length m.back):=by
 unfold reference;rw[ag h,ag h1,ag h2,ag (by rw[h3];decide)];rfl
theorem Et(h:Mk w0 aj b m ex w)(hs:mj m+16≤lim)(hc:ahead m 0<0∨ahead m 0=35∨(br (ahead m 0)=false∧fc (ahead m 0)=false)):
  Calls prog 119 #[.pointer (some ⟨b,0,none⟩)] w fun e w'=>e= .returned (.bool (reference m).isSome)∧Mk w0 aj b ((reference m).getD m) ex w':=by
 have HA:=hide (wb 0 h (by unfold lim;omega))
 have HL:=hide (fun W=>nr (ahead m 0) W)
 have HD:=hide (fun W=>C3 (ahead m 0) W)
 have HM:=hide h
 have c2:∀q,(w.drewN q).cell? ⟨b,2,none⟩=some (.bool m.whole):=fun q=>by obtain⟨R,r⟩:=h;exact r.cell 2
 by_cases h0:ahead m 0<0∧m.whole=false
 ·rw[zgv h0]
  obtain⟨h1,h2⟩:=h0
  rw[h2]at c2
  clear h2 hc
  generalize ahead m 0=c at*
  go_enter func119,ntmps119
  go_wp2_with fail
  refine(ae HA).mono ?_
  rintro e w1⟨rfl,q1,rfl⟩
  have d2:=c2 q1
  go_wp2_with fail
  refine(ae HL _).mono ?_
  rintro e w1⟨rfl,hw1⟩
  rw[hw1]
  clear hw1
  go_wp2_with fail
  refine(ae HD _).mono ?_
  rintro e w1⟨rfl,hw1⟩
  rw[hw1]
  clear hw1
  go_wp2
  go_ret
  exact⟨rfl,(ae HM).drewN _⟩
 by_cases Q6:ahead m 0=35
 ·rw[zj3 h0 Q6]
  have HN:=hide (fun q=>Xl (h.drewN q) hs Q6)
  have e0:¬(ahead m 0<0):=by omega
  have e35:(ahead m 0==35)=true:=by simp[Q6]
  clear h0 hc Q6
  generalize number m=res at*
  generalize ahead m 0=c at*
  go_enter func119,ntmps119
  go_wp2_with fail
  refine(ae HA).mono ?_
  rintro e w1⟨rfl,q1,rfl⟩
  go_wp2_with fail
  refine(ae HL _).mono ?_
  rintro e w1⟨rfl,hw1⟩
  rw[hw1]
  clear hw1
  go_wp2_with fail
  refine(ae HD _).mono ?_
  rintro e w1⟨rfl,hw1⟩
  rw[hw1]
  clear hw1
  go_wp2_with fail
  refine(ae HN _).mono ?_
  rintro e w2⟨rfl,h2⟩
  go_wp2
  go_ret
  exact⟨rfl,h2⟩
 have h3:br (ahead m 0)=false∧fc (ahead m 0)=false:=by
  rcases hc with hc|hc|hc
  ·exact⟨by unfold br;rw[ch];omega,by unfold fc;rw[ch];omega⟩
  ·exact absurd hc Q6
  ·exact hc
 rw[zl2 h0 Q6 h3]
 rw[h3.1]at HL
 rw[h3.2]at HD
 have e35:(ahead m 0==35)=false:=by simpa using Q6
 have HG:=hide (fun q=>vo 38 ⟨by omega,by omega⟩ (h.drewN q) (by omega))
 have HW:Hid (ahead m 0<0∧m.whole=true∨¬(ahead m 0<0)):=by
  by_cases hh:ahead m 0<0
  ·exact .inl ⟨hh,by cases hw:m.whole;exact absurd ⟨hh,hw⟩ h0;rfl⟩
  ·exact .inr hh
 clear h0 Q6 h3 hc h
 generalize ahead m 0=c at*
 have HF:=hide (fun(W:World)(h5:Mk w0 aj b (give m [38]) ex W)=>h5.setState m.back)
 have hbk:=(sa m [38]).2.2.1
 have HC:=hide (fun(W:World)(h5:Mk w0 aj b (give m [38]) ex W)=>show W.cell? ⟨b,7,none⟩=some (.string ⟨(qc m.back).toArray⟩)∧(∃v,W.cell? ⟨b,5,none⟩=some v)∧∀o,W.frozen? ⟨b,o,none⟩=false by
  obtain⟨R,r⟩:=h5
  exact⟨by rw[r.cell 7,←hbk];rfl,⟨_,r.cell 5⟩,r.frozen⟩)
 clear hbk
 rcases ae HW with⟨e0,hw⟩|e0
 ·rw[hw]at c2
  clear hw HW
  go_enter func119,ntmps119
  go_wp2_with fail
  refine(ae HA).mono ?_
  rintro e w1⟨rfl,q1,rfl⟩
  have d2:=c2 q1
  go_wp2_with fail
  refine(ae HL _).mono ?_
  rintro e w1⟨rfl,hw1⟩
  rw[hw1]
  clear hw1
  go_wp2_with fail
  refine(ae HD _).mono ?_
  rintro e w1⟨rfl,hw1⟩
  rw[hw1]
  clear hw1
  go_wp2_with fail
  refine(ae HG _).mono ?_
  rintro e w2⟨rfl,h2⟩
  obtain⟨d7,⟨v5,d5⟩,df⟩:=ae HC _ h2
  have HE:=hide (ae HF _ h2)
  clear h2
  go_wp2
  go_ret
  exact⟨rfl,ae HE⟩
 ·clear HW
  go_enter func119,ntmps119
  go_wp2_with fail
  refine(ae HA).mono ?_
  rintro e w1⟨rfl,q1,rfl⟩
  go_wp2_with fail
  refine(ae HL _).mono ?_
  rintro e w1⟨rfl,hw1⟩
  rw[hw1]
  clear hw1
  go_wp2_with fail
  refine(ae HD _).mono ?_
  rintro e w1⟨rfl,hw1⟩
  rw[hw1]
  clear hw1
  go_wp2_with fail
  refine(ae HG _).mono ?_
  rintro e w2⟨rfl,h2⟩
  obtain⟨d7,⟨v5,d5⟩,df⟩:=ae HC _ h2
  have HE:=hide (ae HF _ h2)
  clear h2
  go_wp2
  go_ret
  exact⟨rfl,ae HE⟩
end
section
variable{w0:World}{aj:Nat→Prop}{b:Nat}{m:MS}{ex:List Item}{w:World}{g:Bool}{k:Nat}
theorem Dw(fold:Bool):∀(x:Str)(n j:Nat),n≤j→j<ql m fold x n→0≤ahead m j
 |[],n,j,h1,h2=>by simp[ql]at h2;omega
 |a::x,n,j,h1,h2=>by
  rw[ql]at h2
  have hq:(if fold=true then lw (ahead m n)else ahead m n)=a.toNat→0≤ahead m n:=by
   intro he
   cases fold
   ·rw[ag (by decide)]at he;omega
   ·rw[au rfl]at he;unfold lw at he;split at he<;>omega
  generalize(if fold=true then lw (ahead m n)else ahead m n)=c at*
  by_cases he:c=a.toNat
  ·rw[au he]at h2
   by_cases e:j=n
   ·subst e;exact hq he
   ·exact Dw fold x (n+1) j (by omega) h2
  ·rw[ag he]at h2;omega
theorem uz(word:Str)(fold:Bool)(h:0<ly m word fold):m.pos+ly m word fold≤m.l.length:=by
 have:=tt (Dw (m:=m) fold word 0 (ly m word fold-1) (by omega) (by unfold ly at*;omega))
 omega
def zc0(W:World)(gN:Nat):Prop:=∀k n,oc[k]? =some n→W.cell? ⟨gN,k*2,none⟩=some (.string ⟨n.1.toArray⟩)∧W.cell? ⟨gN,k*2+1,none⟩=some (.int .i64 n.2)
theorem Nr{W:World}{gN:Nat}(h:W.heap[gN]? =some (.cells Js 190)):zc0 W gN:=by
 intro k n hk
 obtain⟨h1,h2⟩:=zcz oc k n hk
 exact⟨(bg h _).trans (by unfold Js;rw[List.getElem?_toArray];exact h1),(bg h _).trans (by unfold Js;rw[List.getElem?_toArray];exact h2)⟩
theorem Kv(h:Mk w0 aj b m ex w)(hs:mj m+32≤lim)(h0:0≤ahead m 0)(Q6:ahead m 0≠35)(h3:br (ahead m 0)=true∨br (ahead m 0)=false∧fc (ahead m 0)=true):
  Calls prog 119 #[.pointer (some ⟨b,0,none⟩)] w fun e w'=>e= .returned (.bool (reference m).isSome)∧Mk w0 aj b ((reference m).getD m) ex w':=by
 have h0':¬(ahead m 0<0∧m.whole=false):=by omega
 have h3':¬(br (ahead m 0)=false∧fc (ahead m 0)=false):=by
  rcases h3 with h|h
  ·rw[h];simp
  ·rw[h.2];simp
 have HRw:=hide (zgw h0' Q6 h3')
 have HRf:=hide (zed h0' Q6 h3')
 have HA:=hide (wb 0 h (by unfold lim;omega))
 have HL:=hide (fun W=>nr (ahead m 0) W)
 have HD:=hide (fun W=>C3 (ahead m 0) W)
 have HM:=hide h
 have e35:(ahead m 0==35)=false:=by simpa using Q6
 have e0:¬(ahead m 0<0):=by omega
 have H3:=hide h3
 have HS:=hide hs
 have hpb:(m.pos:Int)≤1099511627776:=by have:=h.ok.pl;have:=h.ok.ll;unfold lim at this;omega
 clear h0' h3' h0 Q6 h3 h hs
 generalize ahead m 0=c at*
 generalize reference m=res at*
 go_enter func119,ntmps119
 go_wp2_with fail
 refine(ae HA).mono ?_
 rintro e w1⟨rfl,q1,rfl⟩
 go_wp2_with fail
 refine(ae HL _).mono ?_
 rintro e w1⟨rfl,hw1⟩
 rw[hw1]
 clear hw1
 go_wp2_with fail
 refine(ae HD _).mono ?_
 rintro e w1⟨rfl,hw1⟩
 rw[hw1]
 clear hw1
 go_upto_region 8 with fail
 go_cut[4,5,34] (fun a4 a5 a34 wx=>a34= .bool false∧wx=w.drewN q1)
 case first=>
  rcases ae H3 with hl|⟨hl,hd⟩
  ·rw[hl]
   go_wp2
   go_meet
   case rel=>exact⟨rfl,rfl⟩
  ·rw[hl,hd]
   go_wp2
   go_meet
   case rel=>exact⟨rfl,rfl⟩
 case rest=>
 obtain⟨rfl,rfl⟩:=hcut
 go_wp2_with fail
 refine(zav _).mono ?_
 rintro e w2⟨rfl,hw2⟩
 have hm2:More (w.drewN q1) w2:=by rw[hw2];exact(More.refl _).alloc _
 have HK:=hide (((ae HM).drewN q1).kept.more hm2)
 have M0:=hide (((ae HM).drewN q1).fresh hm2)
 have hbl:w2.heap[w.heap.size]? =some (.cells Js 190):=by rw[hw2];exact heap_alloc_new (w.drewN q1) _
 have HT:=hide (Nr hbl)
 have hgl:w.heap.size<w2.heap.size:=(co.1 hbl).1
 have HB:=hide (And.intro hbl hgl)
 have hsz:(w.drewN q1).heap.size=w.heap.size:=rfl
 rw[hsz]
 clear hw2 hm2 hbl hsz HL HD H3 HA e35 e0
 go_wp2
 go_loopw [7] (fun a7 wx=>∃(k q:Nat),a7= .int .i64 k∧k≤21∧wx=w2.drewN q∧Hid (∀j n,j<k→oc[j]? =some n→wait m n.1 false=false)) (fun a7 _=>21-(intOf a7).toNat)
 case atStart=>exact⟨0,0,rfl,by omega,rfl,hide (fun j n hj=>absurd hj (by omega))⟩
 case round=>
  obtain⟨k,q,rfl,hk,rfl,HW⟩:=hrel
  by_cases hlt:k<21
  ·obtain⟨n,hn⟩:∃n,oc[k]? =some n:=⟨oc[k]'(by rw[Nq];exact hlt),ig _⟩
   have hno:=Ss n (List.mem_of_getElem? hn)
   have d0:(w2.drewN q).cell? ⟨w.heap.size,k*2,none⟩=some (.string ⟨n.1.toArray⟩):=((ae HT) k n hn).1
   have HWt:=hide (F5 n.1 false ((ae M0).drewN q) (by omega))
   by_cases hwt:wait m n.1 false=true
   ·rw[hwt]at HWt
    have HF:=hide (ae HRw (List.any_eq_true.2 ⟨n,List.mem_of_getElem? hn,hwt⟩))
    have HX:=hide ((ae M0).qn (ae HK))
    clear hwt hn hno HW
    go_wp2_with fail
    refine(ae HWt).mono ?_
    rintro e w3⟨rfl,q3,rfl⟩
    go_wp2
    go_ret
    exact⟨jt (by rw[ae HF];rfl),by rw[ae HF];exact(ae HX).drewN _⟩
   ·have zl3:=az.2 hwt
    rw[zl3]at HWt
    have HW':Hid (∀j x,j<k+1→oc[j]? =some x→wait m x.1 false=false):=by
     intro j x hj hx
     by_cases e:j=k
     ·subst e;rw[hn]at hx;cases hx;exact zl3
     ·exact ae HW j x (by omega) hx
    clear hwt zl3 hn hno HW
    go_wp2_with fail
    refine(ae HWt).mono ?_
    rintro e w3⟨rfl,q3,rfl⟩
    go_wp2
    go_roundw
    case rel=>exact⟨k+1,q+q3,by go_num,by omega,by simp,HW'⟩
    case measure=>simp[intOf];omega
  ·obtain rfl:k=21:=by omega
   have HF0:=hide (ae HRf (zl1 _ (fun k n hk hn=>ae HW k n hk hn)))
   clear HRw HRf HW hk hlt
   go_wp2
   go_loopw [9] (fun a9 wx=>∃(k q:Nat),a9= .int .i64 k∧k≤21∧wx=w2.drewN q∧Hid (∀j n,j<k→oc[j]? =some n→ly m n.1 false<n.1.length)) (fun a9 _=>21-(intOf a9).toNat)
   case atStart=>exact⟨0,q,rfl,by omega,rfl,hide (fun j n hj=>absurd hj (by omega))⟩
   case round=>
    obtain⟨k,q,rfl,hk,rfl,HW⟩:=hrel
    by_cases hlt:k<21
    ·obtain⟨n,hn⟩:∃n,oc[k]? =some n:=⟨oc[k]'(by rw[Nq];exact hlt),ig _⟩
     obtain⟨hn1,hn2,hn3,hn4⟩:=Ss n (List.mem_of_getElem? hn)
     have hn5:(n.1.length:Int)≤7:=by omega
     have d0:∀q,(w2.drewN q).cell? ⟨w.heap.size,k*2,none⟩=some (.string ⟨n.1.toArray⟩):=fun q=>((ae HT) k n hn).1
     have HMt:=hide (rm n.1 false ((ae M0).drewN q) (by omega))
     have hmn:=Sp (m:=m) n.1 false
     by_cases hmt:ly m n.1 false<n.1.length
     ·have HW':Hid (∀j x,j<k+1→oc[j]? =some x→ly m x.1 false<x.1.length):=by
       intro j x hj hx
       by_cases e:j=k
       ·subst e;rw[hn]at hx;cases hx;exact hmt
       ·exact ae HW j x (by omega) hx
      have hmt':(ly m n.1 false:Int)<n.1.length:=by omega
      clear hn HW
      generalize ly m n.1 false=mt at*
      go_wp2_with fail
      refine(ae HMt).mono ?_
      rintro e w3⟨rfl,q3,rfl⟩
      go_wp2
      go_roundw
      case rel=>
       repeat apply Exists.intro
       refine And.intro ?_ rfl
       exact⟨k+1,q+q3,by go_num,by omega,by simp,HW'⟩
      case measure=>simp[intOf];omega
     ·have hme:ly m n.1 false=n.1.length:=by omega
      have zj4:=hide (uz (m:=m) n.1 false (by omega))
      rw[hme]at zj4 HMt
      have hf1:=ae HF0
      rw[zgt hn (ae HW) (by omega)]at hf1
      simp only at hf1
      have Qq:=hide hf1
      clear hf1
      have hlb:=zec n.1 hn1
      have HPm:=hide (show Pt n.2 from⟨hn3,hn4⟩)
      have HTn:=hide (fun(W:World)(hW:zc0 W w.heap.size)=>(hW k n hn).2)
      clear hmt hme hmn HW HF0 hn
      go_wp2_with fail
      refine(ae HMt).mono ?_
      rintro e w3⟨rfl,q3,rfl⟩
      have d0':=d0 (q+q3)
      have d1':(w2.drewN (q+q3)).cell? ⟨w.heap.size,k*2+1,none⟩=some (.int .i64 n.2):=ae HTn _ (ae HT)
      clear HMt d0
      by_cases he:Bv n.1=true
      ·have HF:=hide ((ae Qq).trans (au he))
       have e59:(((n.1.getLast?.getD 0).toNat:Nat):Int)=59:=by unfold Bv at he;simp at he;rw[he];rfl
       rw[e59]at hlb
       clear he e59 Qq
       go_wp2_with fail
       refine(vo n.2 (ae HPm) ((ae M0).drewN (q+q3)) (by have:=ae HS;omega)).mono ?_
       rintro e w5⟨rfl,h5⟩
       obtain⟨g1,g2,g3,g4,g5,g6,g7⟩:=sa m [n.2]
       have HE:=hide (((Mk.setPos (m.pos+n.1.length) (by rw[g2];exact ae zj4) h5)).setState m.back)
       obtain⟨R5,r5⟩:=h5
       have s1:w5.cell? ⟨b,1,none⟩=some (.int .i64 m.pos):=by rw[r5.cell 1];show some (Value.int .i64 (give m [n.2]).pos)=_;rw[g1]
       have s7:w5.cell? ⟨b,7,none⟩=some (.string ⟨(qc m.back).toArray⟩):=by rw[r5.cell 7];show some (Value.string ⟨(qc (give m [n.2]).back).toArray⟩)=_;rw[g3]
       have s5:=r5.cell 5
       have sf:=r5.frozen
       simp only[mc]at s5
       have HG1:=hide g1
       clear r5 g1 g2 g3 g4 g5 g6 g7
       go_wp2
       go_ret
       exact⟨jt (by rw[ae HF];rfl),by rw[ae HF];show Mk w0 aj b (jump _ _ _) ex _;unfold jump;rw[ae HG1];exact(ae HE).qn (ae HK)⟩
      ·have HF2:=hide ((ae Qq).trans (ag he))
       have e59:((((n.1.getLast?.getD 0).toNat:Nat):Int) !=59)=true:=by
        unfold Bv at he
        simp only[bne_iff_ne,ne_eq]
        intro e9
        apply he
        obtain⟨z,hz⟩:∃z,n.1.getLast? =some z:=⟨n.1.getLast (by intro e;rw[e]at hn1;simp at hn1),List.getLast?_eq_some_getLast _⟩
        rw[hz]at e9⊢
        simp only[fb]at e9
        have:z=59:=UInt8.toNat_inj.1 (by have h9:(59:UInt8).toNat=59:=rfl;omega)
        rw[this];rfl
       clear he Qq
       have HA2:=hide (wb n.1.length ((ae M0).drewN (q+q3)) (by unfold lim;omega))
       have d2:∀q,(w2.drewN q).cell? ⟨b,2,none⟩=some (.bool m.whole):=fun q=>by obtain⟨R,r⟩:=ae M0;exact r.cell 2
       have HIx:=hide (fun q=>uy ((ae M0).drewN q))
       by_cases hnx:ahead m n.1.length<0∧m.whole=false
       ·have HF:=hide ((ae HF2).trans (au hnx))
        obtain⟨hx1,hx2⟩:=hnx
        rw[hx2]at d2
        clear hx2 HF2
        generalize ahead m n.1.length=nx at*
        go_wp2_with fail
        refine(ae HA2).mono ?_
        rintro e w4⟨rfl,q4,rfl⟩
        have d2':=d2 (q+q3+q4)
        go_wp2
        go_ret
        exact⟨jt (by rw[ae HF];rfl),by rw[ae HF];exact((ae M0).drewN _).qn (ae HK)⟩
       ·have HF3:=hide ((ae HF2).trans (ag hnx))
        have HLx:=hide (fun W=>nr (ahead m n.1.length) W)
        have HDx:=hide (fun W=>C3 (ahead m n.1.length) W)
        obtain⟨Z,hZ⟩:∃Z,Z=(td m&&(br (ahead m n.1.length)||fc (ahead m n.1.length)||ahead m n.1.length==61)):=⟨_,rfl⟩
        have hZ':(td m=true∧(br (ahead m n.1.length)=true∨fc (ahead m n.1.length)=true∨ahead m n.1.length=61))↔Z=true:=by rw[hZ];simp[or_assoc]
        have HZI:=hide hZ'
        have HZ:=hide hZ
        have HNX:=hide (show ¬(ahead m n.1.length<0)∨m.whole=true by
         by_cases h9:ahead m n.1.length<0
         ·right;cases h8:m.whole;exact absurd ⟨h9,h8⟩ hnx;rfl
         ·exact .inl h9)
        have zl4:=hide (fun(hz:Z=true)=>(ae HF3).trans (au (hZ'.2 hz)))
        have zl5:=hide (fun(hz:Z=false)=>(ae HF3).trans (ag (fun e=>by have:=hZ'.1 e;rw[hz]at this;cases this)))
        clear hnx hZ hZ' HF2
        generalize ahead m n.1.length=nx at*
        go_wp2_with fail
        refine(ae HA2).mono ?_
        rintro e w4⟨rfl,q4,rfl⟩
        go_upto_region 26 with fail
        go_cut[107] (fun a107 wx=>a107= .bool false∧wx=w2.drewN (q+q3+q4))
        case first=>
         by_cases h9:nx<0
         ·have h8:m.whole=true:=by rcases ae HNX with e|e;omega;exact e
          have d2':=d2 (q+q3+q4)
          rw[h8]at d2'
          clear d2 h8
          go_wp2
          go_meet
          case rel=>exact⟨rfl,rfl⟩
         ·go_wp2
          go_meet
          case rel=>exact⟨rfl,rfl⟩
        case rest=>
        obtain⟨rfl,rfl⟩:=hcut
        clear HNX d2
        go_wp2_with fail
        refine(ae HLx _).mono ?_
        rintro e w4⟨rfl,hw4⟩
        rw[hw4]
        clear hw4
        go_wp2_with fail
        refine(ae HDx _).mono ?_
        rintro e w4⟨rfl,hw4⟩
        rw[hw4]
        clear hw4
        go_wp2_with fail
        refine(ae HIx _).mono ?_
        rintro e w4⟨rfl,hw4⟩
        rw[hw4]
        clear hw4
        go_upto_region 31 with fail
        go_cut[4,5,12,124] (fun a4 a5 a12 a124 wx=>a124= .bool Z∧wx=w2.drewN (q+q3+q4))
        case first=>
         have HZ':=ae HZ
         cases hi:td m
         ·rw[hi]at HZ'
          go_wp2
          go_meet
          case rel=>exact⟨by rw[HZ'];rfl,rfl⟩
         ·cases hl:br nx
          ·cases hd:fc nx
           ·rw[hi,hl,hd]at HZ'
            have zj6:=hide HZ'
            clear HZ'
            cases h61:(nx==61)
            ·rw[h61]at zj6
             go_wp2
             go_meet
             case rel=>exact⟨by rw[ae zj6];rfl,rfl⟩
            ·rw[h61]at zj6
             go_wp2
             go_meet
             case rel=>exact⟨by rw[ae zj6];rfl,rfl⟩
           ·rw[hi,hl,hd]at HZ'
            go_wp2
            go_meet
            case rel=>exact⟨by rw[HZ'];rfl,rfl⟩
          ·rw[hi,hl]at HZ'
           go_wp2
           go_meet
           case rel=>exact⟨by rw[HZ'];simp,rfl⟩
        case rest=>
        obtain⟨rfl,rfl⟩:=hcut
        have d1x:(w2.drewN (q+q3+q4)).cell? ⟨b,1,none⟩=some (.int .i64 m.pos):=by obtain⟨R,r⟩:=ae M0;exact r.cell 1
        clear HLx HDx HIx HZ HZI
        cases Z
        ·have HF4:=hide (ae zl5 rfl)
         clear zl4 zl5
         go_wp2_with fail
         refine(v8 [115,101,109,105,99,111,108,111,110] ((m.pos:Int)+n.1.length) ((ae M0).drewN (q+q3+q4)) (by have:=ae HS;unfold mj at this;omega)).mono ?_
         rintro e w4⟨rfl,h4⟩
         have t1:w4.cell? ⟨w.heap.size,k*2+1,none⟩=some (.int .i64 n.2):=ae HTn _ (Nr ((h4.stands (g:=w.heap.size) (cx _) (ae HB).2).trans (ae HB).1))
         go_wp2_with fail
         refine(vo n.2 (ae HPm) h4 (by have:=ae HS;rw[Cd];omega)).mono ?_
         rintro e w5⟨rfl,h5⟩
         obtain⟨g1,g2,g3,g4,g5,g6,g7⟩:=sa (wrong m [115,101,109,105,99,111,108,111,110] ((m.pos:Int)+n.1.length)) [n.2]
         have HE:=hide (((Mk.setPos (m.pos+n.1.length) (by rw[g2];exact ae zj4) h5)).setState m.back)
         obtain⟨R5,r5⟩:=h5
         have s1:w5.cell? ⟨b,1,none⟩=some (.int .i64 m.pos):=by rw[r5.cell 1];show some (Value.int .i64 (give _ [n.2]).pos)=_;rw[g1];rfl
         have s7:w5.cell? ⟨b,7,none⟩=some (.string ⟨(qc m.back).toArray⟩):=by rw[r5.cell 7];show some (Value.string ⟨(qc (give _ [n.2]).back).toArray⟩)=_;rw[g3];rfl
         have s5:=r5.cell 5
         have sf:=r5.frozen
         simp only[mc]at s5
         have HG1:=hide g1
         have HF:=HF4
         clear r5 g1 g2 g3 g4 g5 g6 g7
         go_wp2
         go_ret
         refine⟨jt (by rw[ae HF];rfl),?_⟩
         rw[ae HF]
         show Mk w0 aj b (jump (give (wrong m [115,101,109,105,99,111,108,111,110] ((m.pos:Int)+n.1.length)) [n.2]) n.1.length m.back) ex _
         unfold jump
         rw[ae HG1]
         exact(ae HE).qn (ae HK)
        ·have HF4:=hide (ae zl4 rfl)
         clear zl4 zl5
         go_wp2_with fail
         refine(vo 38 ⟨by omega,by omega⟩ ((ae M0).drewN (q+q3+q4)) (by have:=ae HS;omega)).mono ?_
         rintro e w5⟨rfl,h5⟩
         have hgf:=sa m [38]
         have HSZ:Hid (mj (give m [38])+n.1.length≤lim):=by have:=ae HS;rw[Xj];simp only[ai,ak];exact hide (by omega)
         have HF:=hide ((ae HF4).trans (show some (jump (give (give m [38]) ((m.l.drop m.pos).take n.1.length)) n.1.length m.back)=some (jump (give (give m [38]) (((give m [38]).l.drop (give m [38]).pos).take n.1.length)) n.1.length m.back) by rw[hgf.1,hgf.2.1]))
         have HG3:=hide hgf.2.2.1
         have zc2:Hid ((give m [38]).pos+n.1.length≤(give m [38]).l.length):=by rw[hgf.1,hgf.2.1];exact zj4
         have hl4:((give m [38]).pos:Int)≤1099511627776:=by rw[hgf.1];exact hpb
         clear hgf HF4 HF3
         generalize give m [38]=m4 at*
         obtain⟨R4,r4⟩:=h5
         have k0:w5.cell? ⟨b,0,none⟩=some (.slice R4.l.a m4.l.length R4.l.cap):=r4.cell 0
         have k1:w5.cell? ⟨b,1,none⟩=some (.int .i64 m4.pos):=r4.cell 1
         obtain⟨rc1,rc2⟩:=Xk r4.W8
         obtain⟨gg,hgg,hcells⟩:=Ku r4.W8 m4.pos n.1.length (ae zc2) hn1
         have hlen:((m4.l.drop m4.pos).take n.1.length).length=n.1.length:=by rw[List.length_take,fj];have:=ae zc2;omega
         have HV:=hide (fun W(hm:More w5 W)(cp:Nat)(hc:∀j u,(((m4.l.drop m4.pos).take n.1.length).map (Value.int .i64))[j]? =some u→W.cell? ((⟨gg,m4.pos,none⟩:Addr).add j)=some u)=>Jq (w:=W) ((m4.l.drop m4.pos).take n.1.length) ⟨gg,m4.pos,none⟩ cp hc (by intro e;rw[e]at hlen;simp at hlen;omega) (fun c hc=>r4.ok.l c (List.mem_of_mem_drop (List.mem_of_mem_take hc))) (r4.more hm).out (by rw[hlen];exact ae HSZ))
         rw[hlen]at HV
         rw[hgg]at k0
         have hsl:=Np gg m4.l.length R4.l.cap m4.pos n.1.length hn1 (by have h8:m4.l.length≤R4.l.cap:=rc1;have:=ae zc2;omega)
         have HCE:=hide hcells
         have hwp:IntKind.i64.wrap ((m4.pos:Int)+n.1.length)=(m4.pos:Int)+n.1.length:=wrap_small _ (by omega) (by omega)
         clear hcells hlen hgg rc1 rc2
         go_wp2_with fail
         go_region_with(go_at_call 169;refine(ae HV _ ?_ _ ?_).mono ?_;(exact(More.refl w5).drew);(exact ae HCE);rintro e w6⟨rfl,h6⟩)
         all_goals
          obtain⟨g1,g2,g3,g4,g5,g6,g7⟩:=sa m4 ((m4.l.drop m4.pos).take n.1.length)
          have HE:=hide (((Mk.setPos (m4.pos+n.1.length) (by rw[g2];exact ae zc2) h6)).setState m.back)
          obtain⟨R5,r5⟩:=h6
          have s1:w6.cell? ⟨b,1,none⟩=some (.int .i64 m4.pos):=by rw[r5.cell 1];show some (Value.int .i64 (give m4 _).pos)=_;rw[g1]
          have s7:w6.cell? ⟨b,7,none⟩=some (.string ⟨(qc m.back).toArray⟩):=by rw[r5.cell 7];show some (Value.string ⟨(qc (give m4 _).back).toArray⟩)=_;rw[g3,ae HG3]
          have s5:=r5.cell 5
          have sf:=r5.frozen
          simp only[mc]at s5
          have HG1:=hide g1
          clear r5 g1 g2 g3 g4 g5 g6 g7 hwp hsl
          go_wp2
          go_ret
          exact⟨jt (by rw[ae HF];rfl),by rw[ae HF];show Mk w0 aj b (jump _ _ _) ex _;unfold jump;rw[ae HG1];exact(ae HE).qn (ae HK)⟩
    ·obtain rfl:k=21:=by omega
     have Qq:=ae HF0
     rw[zgu (fun j x hj hx=>ae HW j x hj hx)]at Qq
     simp only at Qq
     have HF:=hide Qq
     clear HF0 Qq HW
     go_wp2_with fail
     refine(vo 38 ⟨by omega,by omega⟩ ((ae M0).drewN q) (by have:=ae HS;omega)).mono ?_
     rintro e w5⟨rfl,h5⟩
     have HE:=hide (h5.setState 33)
     obtain⟨R5,r5⟩:=h5
     have s5:=r5.cell 5
     have sf:=r5.frozen
     simp only[mc]at s5
     clear r5
     go_wp2
     go_ret
     exact⟨jt (by rw[ae HF];rfl),by rw[ae HF];exact(ae HE).qn (ae HK)⟩
end
section
variable{w0:World}{aj:Nat→Prop}{b:Nat}{m:MS}{ex:List Item}{w:World}{g:Bool}{k:Nat}
theorem zee(h:Mk w0 aj b m ex w)(hs:mj m+16≤lim):
  Calls prog 120 #[.pointer (some ⟨b,0,none⟩)] w fun e w'=>e= .returned (.bool (decl m).isSome)∧Mk w0 aj b ((decl m).getD m) ex w':=by
 have HW1:=hide (F5 [45,45] false h (by decide))
 have HW2:=hide (fun q=>F5 [100,111,99,116,121,112,101] true (h.drewN q) (by decide))
 have HW3:=hide (fun q=>F5 [91,67,68,65,84,65,91] false (h.drewN q) (by decide))
 have HM:=hide h
 have HS:=hide hs
 have hpb:(m.pos:Int)≤1099511627776:=by have:=h.ok.pl;have:=h.ok.ll;unfold lim at this;omega
 have HP1:=hide (uz (m:=m) [45,45] false)
 have HP2:=hide (uz (m:=m) [100,111,99,116,121,112,101] true)
 have HP3:=hide (uz (m:=m) [91,67,68,65,84,65,91] false)
 clear h hs
 by_cases hw:(wait m [45,45] false||wait m [100,111,99,116,121,112,101] true||wait m [91,67,68,65,84,65,91] false)=true
 ·have HF:=hide (show decl m=none by unfold decl;rw[au hw])
  generalize wait m [45,45] false=A at*
  generalize wait m [100,111,99,116,121,112,101] true=B at*
  generalize wait m [91,67,68,65,84,65,91] false=Z at*
  generalize decl m=res at*
  have HX:=hide hw
  clear hw
  cases A
  ·cases B
   ·obtain rfl:Z=true:=by simpa using ae HX
    go_enter func120,ntmps120
    go_wp2_with fail
    refine(ae HW1).mono ?_
    rintro e w1⟨rfl,q1,rfl⟩
    go_wp2_with fail
    refine(ae HW2 q1).mono ?_
    rintro e w1⟨rfl,q2,rfl⟩
    go_wp2_with fail
    refine(ae HW3 (q1+q2)).mono ?_
    rintro e w1⟨rfl,q3,rfl⟩
    go_wp2
    go_ret
    exact⟨jt (by rw[ae HF];rfl),by rw[ae HF];exact(ae HM).drewN _⟩
   ·go_enter func120,ntmps120
    go_wp2_with fail
    refine(ae HW1).mono ?_
    rintro e w1⟨rfl,q1,rfl⟩
    go_wp2_with fail
    refine(ae HW2 q1).mono ?_
    rintro e w1⟨rfl,q2,rfl⟩
    go_wp2_with fail
    refine(ae HW3 (q1+q2)).mono ?_
    rintro e w1⟨rfl,q3,rfl⟩
    go_wp2
    go_ret
    exact⟨jt (by rw[ae HF];rfl),by rw[ae HF];exact(ae HM).drewN _⟩
  ·go_enter func120,ntmps120
   go_wp2_with fail
   refine(ae HW1).mono ?_
   rintro e w1⟨rfl,q1,rfl⟩
   go_wp2_with fail
   refine(ae HW2 q1).mono ?_
   rintro e w1⟨rfl,q2,rfl⟩
   go_wp2_with fail
   refine(ae HW3 (q1+q2)).mono ?_
   rintro e w1⟨rfl,q3,rfl⟩
   go_wp2
   go_ret
   exact⟨jt (by rw[ae HF];rfl),by rw[ae HF];exact(ae HM).drewN _⟩
 ·have hw1:wait m [45,45] false=false:=by cases e:wait m [45,45] false;rfl;rw[e]at hw;simp at hw
  have hw2:wait m [100,111,99,116,121,112,101] true=false:=by cases e:wait m [100,111,99,116,121,112,101] true;rfl;rw[e]at hw;simp at hw
  have hw3:wait m [91,67,68,65,84,65,91] false=false:=by cases e:wait m [91,67,68,65,84,65,91] false;rfl;rw[e]at hw;simp at hw
  rw[hw1]at HW1
  rw[hw2]at HW2
  rw[hw3]at HW3
  have hdecl:decl m=if ly m [45,45] false=2 then some (jump {m with name:=[]} 2 20)else if ly m [100,111,99,116,121,112,101] true=7 then some {jump {m with name:=[]} 7 26 with odd:=false}else if ly m [91,67,68,65,84,65,91] false=7 then some (jump (add (err {m with name:=[]} [99,100,97,116,97]) [91,67,68,65,84,65,91]) 7 19)else some (st (err {m with name:=[]} [100,101,99,108,97,114,97,116,105,111,110]) 19):=by
   unfold decl;rw[ag hw]
  have HDC:=hide hdecl
  clear hw hw1 hw2 hw3 hdecl
  generalize decl m=res at*
  have HN:=hide (fun q=>Mk.qy ((ae HM).drewN q))
  have c14:∀q,∃v,(w.drewN q).cell? ⟨b,14,none⟩=some v:=fun q=>by obtain⟨R,r⟩:=ae HM;exact⟨_,r.cell 14⟩
  have cf:∀q o,(w.drewN q).frozen? ⟨b,o,none⟩=false:=fun q o=>by obtain⟨R,r⟩:=ae HM;exact r.frozen o
  by_cases m1:ly m [45,45] false=2
  ·have HF:=hide ((ae HDC).trans (au m1))
   have HP:=hide (ae HP1 (by omega))
   have hm1:Hid (ly ({m with name:=[]}:MS) [45,45] false=2):=m1
   rw[m1]at HP
   clear HDC m1 HP1 HP2 HP3
   go_enter func120,ntmps120
   go_wp2_with fail
   refine(ae HW1).mono ?_
   rintro e w1⟨rfl,q1,rfl⟩
   go_wp2_with fail
   refine(ae HW2 q1).mono ?_
   rintro e w1⟨rfl,q2,rfl⟩
   go_wp2_with fail
   refine(ae HW3 (q1+q2)).mono ?_
   rintro e w1⟨rfl,q3,rfl⟩
   obtain⟨v14,d14⟩:=c14 (q1+q2+q3)
   have df:=cf (q1+q2+q3)
   have H0:=hide (ae HN (q1+q2+q3))
   go_wp2_with fail
   generalize((w.drewN (q1+q2+q3)).setCell ⟨b,14,none⟩ (Value.slice none 0 0))=wn at*
   refine(rm [45,45] false ((ae H0)) (by decide)).mono ?_
   rintro e w4⟨rfl,p1,rfl⟩
   rw[ae hm1]
   have HE:=hide (((Mk.setPos (m:={m with name:=[]}) (m.pos+2) (ae HP) ((ae H0).drewN p1))).setState 20)
   have k1:(wn.drewN p1).cell? ⟨b,1,none⟩=some (.int .i64 m.pos):=by obtain⟨R,r⟩:=ae H0;exact r.cell 1
   have k5:∃v,(wn.drewN p1).cell? ⟨b,5,none⟩=some v:=by obtain⟨R,r⟩:=ae H0;exact⟨_,r.cell 5⟩
   have kf:∀o,(wn.drewN p1).frozen? ⟨b,o,none⟩=false:=fun o=>by obtain⟨R,r⟩:=ae H0;exact r.frozen o
   obtain⟨v5,k5⟩:=k5
   go_wp2
   go_ret
   exact⟨jt (by rw[ae HF];rfl),by rw[ae HF];exact ae HE⟩
  by_cases m2:ly m [100,111,99,116,121,112,101] true=7
  ·have HF:=hide (((ae HDC).trans (ag m1)).trans (au m2))
   have HP:=hide (ae HP2 (by omega))
   have e1:((ly ({m with name:=[]}:MS) [45,45] false:Int)==2)=false:=by rw[show ly ({m with name:=[]}:MS) [45,45] false=ly m [45,45] false from rfl];simp;omega
   have hm2:Hid (ly ({m with name:=[]}:MS) [100,111,99,116,121,112,101] true=7):=m2
   rw[m2]at HP
   clear HDC m1 m2 HP1 HP2 HP3
   go_enter func120,ntmps120
   go_wp2_with fail
   refine(ae HW1).mono ?_
   rintro e w1⟨rfl,q1,rfl⟩
   go_wp2_with fail
   refine(ae HW2 q1).mono ?_
   rintro e w1⟨rfl,q2,rfl⟩
   go_wp2_with fail
   refine(ae HW3 (q1+q2)).mono ?_
   rintro e w1⟨rfl,q3,rfl⟩
   obtain⟨v14,d14⟩:=c14 (q1+q2+q3)
   have df:=cf (q1+q2+q3)
   have H0:=hide (ae HN (q1+q2+q3))
   go_wp2_with fail
   generalize((w.drewN (q1+q2+q3)).setCell ⟨b,14,none⟩ (Value.slice none 0 0))=wn at*
   refine(rm [45,45] false ((ae H0)) (by decide)).mono ?_
   rintro e w4⟨rfl,p1,rfl⟩
   go_wp2_with fail
   refine(rm [100,111,99,116,121,112,101] true ((ae H0).drewN p1) (by decide)).mono ?_
   rintro e w5⟨rfl,p2,rfl⟩
   rw[ae hm2]
   have HE:=hide ((((Mk.setPos (m:={m with name:=[]}) (m.pos+7) (ae HP) ((ae H0).drewN (p1+p2)))).setState 26).Um false)
   have k1:(wn.drewN (p1+p2)).cell? ⟨b,1,none⟩=some (.int .i64 m.pos):=by obtain⟨R,r⟩:=ae H0;exact r.cell 1
   have k5:∃v,(wn.drewN (p1+p2)).cell? ⟨b,5,none⟩=some v:=by obtain⟨R,r⟩:=ae H0;exact⟨_,r.cell 5⟩
   have k21:∃v,(wn.drewN (p1+p2)).cell? ⟨b,21,none⟩=some v:=by obtain⟨R,r⟩:=ae H0;exact⟨_,r.cell 21⟩
   have kf:∀o,(wn.drewN (p1+p2)).frozen? ⟨b,o,none⟩=false:=fun o=>by obtain⟨R,r⟩:=ae H0;exact r.frozen o
   obtain⟨v5,k5⟩:=k5
   obtain⟨v21,k21⟩:=k21
   go_wp2
   go_ret
   exact⟨jt (by rw[ae HF];rfl),by rw[ae HF];exact ae HE⟩
  have e1:((ly ({m with name:=[]}:MS) [45,45] false:Int)==2)=false:=by rw[show ly ({m with name:=[]}:MS) [45,45] false=ly m [45,45] false from rfl];simp;omega
  have e2:((ly ({m with name:=[]}:MS) [100,111,99,116,121,112,101] true:Int)==7)=false:=by rw[show ly ({m with name:=[]}:MS) [100,111,99,116,121,112,101] true=ly m [100,111,99,116,121,112,101] true from rfl];simp;omega
  by_cases m3:ly m [91,67,68,65,84,65,91] false=7
  ·have HF:=hide ((((ae HDC).trans (ag m1)).trans (ag m2)).trans (au m3))
   have HP:=hide (ae HP3 (by omega))
   have Wt:Hid (ly ({m with name:=[]}:MS) [91,67,68,65,84,65,91] false=7):=m3
   rw[m3]at HP
   clear HDC m1 m2 m3 HP1 HP2 HP3
   go_enter func120,ntmps120
   go_wp2_with fail
   refine(ae HW1).mono ?_
   rintro e w1⟨rfl,q1,rfl⟩
   go_wp2_with fail
   refine(ae HW2 q1).mono ?_
   rintro e w1⟨rfl,q2,rfl⟩
   go_wp2_with fail
   refine(ae HW3 (q1+q2)).mono ?_
   rintro e w1⟨rfl,q3,rfl⟩
   obtain⟨v14,d14⟩:=c14 (q1+q2+q3)
   have df:=cf (q1+q2+q3)
   have H0:=hide (ae HN (q1+q2+q3))
   go_wp2_with fail
   generalize((w.drewN (q1+q2+q3)).setCell ⟨b,14,none⟩ (Value.slice none 0 0))=wn at*
   refine(rm [45,45] false ((ae H0)) (by decide)).mono ?_
   rintro e w4⟨rfl,p1,rfl⟩
   go_wp2_with fail
   refine(rm [100,111,99,116,121,112,101] true ((ae H0).drewN p1) (by decide)).mono ?_
   rintro e w5⟨rfl,p2,rfl⟩
   go_wp2_with fail
   refine(rm [91,67,68,65,84,65,91] false ((ae H0).drewN (p1+p2)) (by decide)).mono ?_
   rintro e w6⟨rfl,p3,rfl⟩
   rw[ae Wt]
   go_wp2_with fail
   refine(od [99,100,97,116,97] ((ae H0).drewN (p1+p2+p3)) (by have:=ae HS;unfold mj at this;show m.told.length≤lim;omega)).mono ?_
   rintro e w7⟨rfl,h7⟩
   go_wp2_with fail
   refine(Xa [91,67,68,65,84,65,91] h7 (by have:=ae HS;rw[qs];unfold mj at*;simp;omega) (by decide)).mono ?_
   rintro e w8⟨rfl,h8⟩
   have HE:=hide (((Mk.setPos (m:=add (err {m with name:=[]} [99,100,97,116,97]) [91,67,68,65,84,65,91]) (m.pos+7) (ae HP) h8)).setState 19)
   have k1:w8.cell? ⟨b,1,none⟩=some (.int .i64 m.pos):=by obtain⟨R,r⟩:=h8;exact r.cell 1
   have k5:∃v,w8.cell? ⟨b,5,none⟩=some v:=by obtain⟨R,r⟩:=h8;exact⟨_,r.cell 5⟩
   have kf:∀o,w8.frozen? ⟨b,o,none⟩=false:=fun o=>by obtain⟨R,r⟩:=h8;exact r.frozen o
   obtain⟨v5,k5⟩:=k5
   clear h7 h8
   go_wp2
   go_ret
   exact⟨jt (by rw[ae HF];rfl),by rw[ae HF];exact ae HE⟩
  ·have HF:=hide ((((ae HDC).trans (ag m1)).trans (ag m2)).trans (ag m3))
   have e3:((ly ({m with name:=[]}:MS) [91,67,68,65,84,65,91] false:Int)==7)=false:=by rw[show ly ({m with name:=[]}:MS) [91,67,68,65,84,65,91] false=ly m [91,67,68,65,84,65,91] false from rfl];simp;omega
   clear HDC m1 m2 m3 HP1 HP2 HP3
   go_enter func120,ntmps120
   go_wp2_with fail
   refine(ae HW1).mono ?_
   rintro e w1⟨rfl,q1,rfl⟩
   go_wp2_with fail
   refine(ae HW2 q1).mono ?_
   rintro e w1⟨rfl,q2,rfl⟩
   go_wp2_with fail
   refine(ae HW3 (q1+q2)).mono ?_
   rintro e w1⟨rfl,q3,rfl⟩
   obtain⟨v14,d14⟩:=c14 (q1+q2+q3)
   have df:=cf (q1+q2+q3)
   have H0:=hide (ae HN (q1+q2+q3))
   go_wp2_with fail
   generalize((w.drewN (q1+q2+q3)).setCell ⟨b,14,none⟩ (Value.slice none 0 0))=wn at*
   refine(rm [45,45] false ((ae H0)) (by decide)).mono ?_
   rintro e w4⟨rfl,p1,rfl⟩
   go_wp2_with fail
   refine(rm [100,111,99,116,121,112,101] true ((ae H0).drewN p1) (by decide)).mono ?_
   rintro e w5⟨rfl,p2,rfl⟩
   go_wp2_with fail
   refine(rm [91,67,68,65,84,65,91] false ((ae H0).drewN (p1+p2)) (by decide)).mono ?_
   rintro e w6⟨rfl,p3,rfl⟩
   go_wp2_with fail
   refine(od [100,101,99,108,97,114,97,116,105,111,110] ((ae H0).drewN (p1+p2+p3)) (by have:=ae HS;unfold mj at this;show m.told.length≤lim;omega)).mono ?_
   rintro e w7⟨rfl,h7⟩
   have HE:=hide (h7.setState 19)
   have k5:∃v,w7.cell? ⟨b,5,none⟩=some v:=by obtain⟨R,r⟩:=h7;exact⟨_,r.cell 5⟩
   have kf:∀o,w7.frozen? ⟨b,o,none⟩=false:=fun o=>by obtain⟨R,r⟩:=h7;exact r.frozen o
   obtain⟨v5,k5⟩:=k5
   clear h7
   go_wp2
   go_ret
   exact⟨jt (by rw[ae HF];rfl),by rw[ae HF];exact ae HE⟩
end
end Go.Proofs.YtdfmapcnfficlaaGreatDoor.M

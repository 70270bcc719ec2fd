import Derived.Test.YtdfmapcnfficlaaGreatDoorP41
set_option linter.all false
set_option maxHeartbeats 4000000
set_option maxRecDepth 1000000
namespace Go.Proofs.YtdfmapcnfficlaaGreatDoor.M
open Go.Proofs.Tryz
open Go Go.RowKit Go.Proofs.YtdfmapcnfficlaaGreatDoor
structure ye(w:World)(q:Sl)(x:List Int)(W:World):Prop where
 ok:(ck q x).ok W
 more:More w W
 new:∀g,q.a.map (·.block)=some g→w.heap.size≤g
theorem ye.grow{w W w1 w':World}{q:Sl}{x y:List Int}(h:ye w q x W)(hm:More W w1)(a':Addr)(cap':Nat)(hown:w'.ownsRow 0 3 1 (.slice (some a') (x.length+y.length) cap') (x.length+y.length) (x.map (Value.int .i64)++y.map (Value.int .i64)))
  (hg:w1.grownBy w' (q.a.map (·.block))) (hf:some a'.block=q.a.map (·.block)∨w1.heap.size≤a'.block):ye w ⟨some a',cap'⟩ (x++y) w':=by
 have hm1:=h.more.tr hm
 refine⟨by simpa[Item.ok,ck]using hown,⟨hg.os.trans hm1.os,hg.tape.trans hm1.tape,hg.output.trans hm1.output,fz hm1.size hg.size,fun k hk=> ?_⟩,fun g e=> ?_⟩
 ·rw[hg.block k (ei hk hm1.size) (fun e=>by have:=h.new k e.symm;omega),hm1.block k hk]
 ·simp only[Option.map_some,Option.some.injEq]at e
  subst e
  rcases hf with hf|hf
  ·exact h.new _ hf.symm
  ·exact fz hm1.size hf
theorem Zz(x:Str)(whole:Bool)(w:World)(hx:x.length≤1073741824):
  Calls prog 102 #[.string ⟨x.toArray⟩,.bool whole] w fun e w'=>∃q,e= .returned (.slice q.a (Si.z4 x whole).length q.cap)∧ye w q (Si.z4 x whole) w':=by
 obtain⟨i0,hi,hz0,hz1,hz2⟩:=info_parts qa
 have HW:=hide (Si.znx x whole)
 have hsz:(⟨x.toArray⟩:ByteArray).size=x.length:=by simp[ByteArray.size]
 have HO:=hide (fun(i:Nat)(W:World)(h:i<x.length)=>zg4 ⟨x.toArray⟩ i W (by rw[hsz];exact h) (by rw[hsz];unfold lim;omega))
 have HFa:=hide (Si.Tw x)
 go_enter func102,ntmps102
 go_wp2
 go_loopw [5,6,7] (fun row ry last wx=>∃(i f:Nat)(q:Sl)(l:List Int)(a:Int),row= .slice q.a l.length q.cap∧ry= .int .i64 i∧last= .int .i64 a∧i≤x.length+4∧l.length≤i∧x.length≤i+f∧Hid (ye w q l wx)∧Hid (l++Si.P3 ⟨x.toArray⟩ whole f i a=Si.z4 x whole)) (fun _ ry _ _=>x.length+8-(intOf ry).toNat)
 case atStart=>exact⟨0,x.length,⟨none,0⟩,[],0,rfl,rfl,rfl,by omega,by simp,by omega,hide ⟨uv w,More.refl w,fun g e=>by cases e⟩,HW⟩
 case round=>
  obtain⟨i,f,q,l,a,rfl,rfl,rfl,hi1,hli,hf,HM,HQ⟩:=hrel
  clear HW
  by_cases hlt:i<x.length
  ·have HO1:=hide (ae HO i wr hlt)
   have Qq:=hide (ae HFa i hlt)
   obtain⟨f',rfl⟩:∃f',f=f'+1:=⟨f-1,by omega⟩
   rw[Si.P3,au (by rw[hsz];exact hlt)]at HQ
   generalize zf ⟨x.toArray⟩ i=o at*
   obtain⟨c,n,ok⟩:=o
   obtain⟨fsc,f1,f4⟩:=ae Qq
   simp only at fsc f1 f4 HQ HO1
   have hc0:=fsc.1
   have hc1:=fsc.2.1
   clear fsc HO HFa Qq
   obtain⟨n',rfl⟩:∃n':Nat,n=n':=⟨n.toNat,by omega⟩
   rw[Int.toNat_natCast]at HQ
   go_wp2_with fail
   refine(ae HO1).mono ?_
   rintro e w2⟨rfl,hw2⟩
   rw[hw2]
   clear hw2 HO1
   by_cases hstop:ok=false∧whole=false
   ·obtain⟨rfl,rfl⟩:=hstop
    rw[au ⟨rfl,rfl⟩,gq]at HQ
    rw[ae HQ]at HM⊢
    go_wp2
    go_ret
    exact⟨q,rfl,ae HM⟩
   ·rw[ag hstop]at HQ
    cases ok with
    |true=>
     clear hstop
     by_cases me:c=13
     ·subst me
      rw[au rfl]at HQ
      have zo:∀{w':World}{a':Addr}{cap':Nat}{o:Obj},w'.ownsRow 0 3 1 (.slice (some a') (l.length+1) cap') (l.length+1) (l.map (Value.int .i64)++[10].map (Value.int .i64))→(wr.alloc o).grownBy w' (q.a.map (·.block))→(some a'.block=q.a.map (·.block)∨wr.heap.size+1≤a'.block)→ye w ⟨some a',cap'⟩ (l++[10]) w':=by
       intro w' a' cap' o hown hgrow hfresh
       exact ye.grow (y:=[10]) (ae HM) ((More.refl wr).alloc o) a' cap' hown hgrow (by simpa using hfresh)
      go_wp2_with(at_builtin;refine dh _ rfl (.tmp 42) (.tmp 43) 45 rfl 3 i0 _ 1 8 underlying45 hi hz0 hz1 hz2 rfl (by decide) q.a l.length q.cap (l.map (Value.int .i64)) rfl (bh (ae HM).ok _) ⟨wr.heap.size,0,none⟩ 1 1 ([10].map (Value.int .i64)) rfl rfl (ii _ _ _ _ rfl) (km _) (by decide) (by unfold maxLen;omega) (by omega) ?next)
      case next=>
       intro a' cap' w' hown hgrow hfresh
       have hM:=zo hown hgrow hfresh
       have M0:=hide hM
       clear hown hgrow hfresh hM HM zo
       go_wp2
       go_roundw
       case rel=>exact⟨i+n',f',⟨some a',cap'⟩,l++[10],13,by simp,by go_num,rfl,by omega,by simp;omega,by omega,M0,by rw[fm];exact HQ⟩
       case measure=>simp[intOf];omega
     ·have b13:(c==13)=false:=by simpa using me
      rw[ag me]at HQ
      by_cases h10:c=10∧a=13
      ·rw[au h10,List.nil_append]at HQ
       obtain⟨rfl,rfl⟩:=h10
       clear b13 me
       go_wp2
       go_roundw
       case rel=>exact⟨i+n',f',q,l,10,rfl,by go_num,rfl,by omega,by omega,by omega,HM,HQ⟩
       case measure=>simp[intOf];omega
      ·rw[ag h10]at HQ
       by_cases g10:c=10
       ·have b1:(a==13)=false:=by simp;intro z;exact h10 ⟨g10,z⟩
        subst g10
        clear h10 me b13
        have zo:∀{w':World}{a':Addr}{cap':Nat}{o:Obj},w'.ownsRow 0 3 1 (.slice (some a') (l.length+1) cap') (l.length+1) (l.map (Value.int .i64)++[10].map (Value.int .i64))→(wr.alloc o).grownBy w' (q.a.map (·.block))→(some a'.block=q.a.map (·.block)∨wr.heap.size+1≤a'.block)→ye w ⟨some a',cap'⟩ (l++[10]) w':=by
         intro w' a' cap' o hown hgrow hfresh
         exact ye.grow (y:=[10]) (ae HM) ((More.refl wr).alloc o) a' cap' hown hgrow (by simpa using hfresh)
        go_wp2_with(at_builtin;refine dh _ rfl (.tmp 35) (.tmp 37) 45 rfl 3 i0 _ 1 8 underlying45 hi hz0 hz1 hz2 rfl (by decide) q.a l.length q.cap (l.map (Value.int .i64)) rfl (bh (ae HM).ok _) ⟨wr.heap.size,0,none⟩ 1 1 ([10].map (Value.int .i64)) rfl rfl (ii _ _ _ _ rfl) (km _) (by decide) (by unfold maxLen;omega) (by omega) ?next)
        case next=>
         intro a' cap' w' hown hgrow hfresh
         have hM:=zo hown hgrow hfresh
         have M0:=hide hM
         clear hown hgrow hfresh hM HM zo
         go_wp2
         go_roundw
         case rel=>exact⟨i+n',f',⟨some a',cap'⟩,l++[10],10,by simp,by go_num,rfl,by omega,by simp;omega,by omega,M0,by rw[fm];exact HQ⟩
         case measure=>simp[intOf];omega
       ·have b1:(c==10)=false:=by simpa using g10
        clear h10
        have zo:∀{w':World}{a':Addr}{cap':Nat}{o:Obj},w'.ownsRow 0 3 1 (.slice (some a') (l.length+1) cap') (l.length+1) (l.map (Value.int .i64)++[c].map (Value.int .i64))→(wr.alloc o).grownBy w' (q.a.map (·.block))→(some a'.block=q.a.map (·.block)∨wr.heap.size+1≤a'.block)→ye w ⟨some a',cap'⟩ (l++[c]) w':=by
         intro w' a' cap' o hown hgrow hfresh
         exact ye.grow (y:=[c]) (ae HM) ((More.refl wr).alloc o) a' cap' hown hgrow (by simpa using hfresh)
        go_wp2_with(at_builtin;refine dh _ rfl (.tmp 35) (.tmp 37) 45 rfl 3 i0 _ 1 8 underlying45 hi hz0 hz1 hz2 rfl (by decide) q.a l.length q.cap (l.map (Value.int .i64)) rfl (bh (ae HM).ok _) ⟨wr.heap.size,0,none⟩ 1 1 ([c].map (Value.int .i64)) rfl rfl (ii _ _ _ _ rfl) (km _) (by decide) (by unfold maxLen;omega) (by omega) ?next)
        case next=>
         intro a' cap' w' hown hgrow hfresh
         have hM:=zo hown hgrow hfresh
         have M0:=hide hM
         clear hown hgrow hfresh hM HM zo
         go_wp2
         go_roundw
         case rel=>exact⟨i+n',f',⟨some a',cap'⟩,l++[c],c,by simp,by go_num,rfl,by omega,by simp;omega,by omega,M0,by rw[fm];exact HQ⟩
         case measure=>simp[intOf];omega
    |false=>
     have hwt:whole=true:=by
      cases whole with
      |true=>rfl
      |false=>exact absurd ⟨rfl,rfl⟩ hstop
     subst hwt
     clear hstop
     by_cases me:c=13
     ·subst me
      rw[au rfl]at HQ
      have zo:∀{w':World}{a':Addr}{cap':Nat}{o:Obj},w'.ownsRow 0 3 1 (.slice (some a') (l.length+1) cap') (l.length+1) (l.map (Value.int .i64)++[10].map (Value.int .i64))→(wr.alloc o).grownBy w' (q.a.map (·.block))→(some a'.block=q.a.map (·.block)∨wr.heap.size+1≤a'.block)→ye w ⟨some a',cap'⟩ (l++[10]) w':=by
       intro w' a' cap' o hown hgrow hfresh
       exact ye.grow (y:=[10]) (ae HM) ((More.refl wr).alloc o) a' cap' hown hgrow (by simpa using hfresh)
      go_wp2_with(at_builtin;refine dh _ rfl (.tmp 42) (.tmp 43) 45 rfl 3 i0 _ 1 8 underlying45 hi hz0 hz1 hz2 rfl (by decide) q.a l.length q.cap (l.map (Value.int .i64)) rfl (bh (ae HM).ok _) ⟨wr.heap.size,0,none⟩ 1 1 ([10].map (Value.int .i64)) rfl rfl (ii _ _ _ _ rfl) (km _) (by decide) (by unfold maxLen;omega) (by omega) ?next)
      case next=>
       intro a' cap' w' hown hgrow hfresh
       have hM:=zo hown hgrow hfresh
       have M0:=hide hM
       clear hown hgrow hfresh hM HM zo
       go_wp2
       go_roundw
       case rel=>exact⟨i+n',f',⟨some a',cap'⟩,l++[10],13,by simp,by go_num,rfl,by omega,by simp;omega,by omega,M0,by rw[fm];exact HQ⟩
       case measure=>simp[intOf];omega
     ·have b13:(c==13)=false:=by simpa using me
      rw[ag me]at HQ
      by_cases h10:c=10∧a=13
      ·rw[au h10,List.nil_append]at HQ
       obtain⟨rfl,rfl⟩:=h10
       clear b13 me
       go_wp2
       go_roundw
       case rel=>exact⟨i+n',f',q,l,10,rfl,by go_num,rfl,by omega,by omega,by omega,HM,HQ⟩
       case measure=>simp[intOf];omega
      ·rw[ag h10]at HQ
       by_cases g10:c=10
       ·have b1:(a==13)=false:=by simp;intro z;exact h10 ⟨g10,z⟩
        subst g10
        clear h10 me b13
        have zo:∀{w':World}{a':Addr}{cap':Nat}{o:Obj},w'.ownsRow 0 3 1 (.slice (some a') (l.length+1) cap') (l.length+1) (l.map (Value.int .i64)++[10].map (Value.int .i64))→(wr.alloc o).grownBy w' (q.a.map (·.block))→(some a'.block=q.a.map (·.block)∨wr.heap.size+1≤a'.block)→ye w ⟨some a',cap'⟩ (l++[10]) w':=by
         intro w' a' cap' o hown hgrow hfresh
         exact ye.grow (y:=[10]) (ae HM) ((More.refl wr).alloc o) a' cap' hown hgrow (by simpa using hfresh)
        go_wp2_with(at_builtin;refine dh _ rfl (.tmp 35) (.tmp 37) 45 rfl 3 i0 _ 1 8 underlying45 hi hz0 hz1 hz2 rfl (by decide) q.a l.length q.cap (l.map (Value.int .i64)) rfl (bh (ae HM).ok _) ⟨wr.heap.size,0,none⟩ 1 1 ([10].map (Value.int .i64)) rfl rfl (ii _ _ _ _ rfl) (km _) (by decide) (by unfold maxLen;omega) (by omega) ?next)
        case next=>
         intro a' cap' w' hown hgrow hfresh
         have hM:=zo hown hgrow hfresh
         have M0:=hide hM
         clear hown hgrow hfresh hM HM zo
         go_wp2
         go_roundw
         case rel=>exact⟨i+n',f',⟨some a',cap'⟩,l++[10],10,by simp,by go_num,rfl,by omega,by simp;omega,by omega,M0,by rw[fm];exact HQ⟩
         case measure=>simp[intOf];omega
       ·have b1:(c==10)=false:=by simpa using g10
        clear h10
        have zo:∀{w':World}{a':Addr}{cap':Nat}{o:Obj},w'.ownsRow 0 3 1 (.slice (some a') (l.length+1) cap') (l.length+1) (l.map (Value.int .i64)++[c].map (Value.int .i64))→(wr.alloc o).grownBy w' (q.a.map (·.block))→(some a'.block=q.a.map (·.block)∨wr.heap.size+1≤a'.block)→ye w ⟨some a',cap'⟩ (l++[c]) w':=by
         intro w' a' cap' o hown hgrow hfresh
         exact ye.grow (y:=[c]) (ae HM) ((More.refl wr).alloc o) a' cap' hown hgrow (by simpa using hfresh)
        go_wp2_with(at_builtin;refine dh _ rfl (.tmp 35) (.tmp 37) 45 rfl 3 i0 _ 1 8 underlying45 hi hz0 hz1 hz2 rfl (by decide) q.a l.length q.cap (l.map (Value.int .i64)) rfl (bh (ae HM).ok _) ⟨wr.heap.size,0,none⟩ 1 1 ([c].map (Value.int .i64)) rfl rfl (ii _ _ _ _ rfl) (km _) (by decide) (by unfold maxLen;omega) (by omega) ?next)
        case next=>
         intro a' cap' w' hown hgrow hfresh
         have hM:=zo hown hgrow hfresh
         have M0:=hide hM
         clear hown hgrow hfresh hM HM zo
         go_wp2
         go_roundw
         case rel=>exact⟨i+n',f',⟨some a',cap'⟩,l++[c],c,by simp,by go_num,rfl,by omega,by simp;omega,by omega,M0,by rw[fm];exact HQ⟩
         case measure=>simp[intOf];omega
  ·have e:Si.P3 ⟨x.toArray⟩ whole f i a=[]:=Si.P4 _ _ _ _ _ (by rw[hsz];exact hlt)
   rw[e,gq]at HQ
   rw[ae HQ]at HM⊢
   clear e
   go_wp2
   go_ret
   exact⟨q,rfl,ae HM⟩
def noR(q:Sl):MR:=⟨q,⟨none,0⟩,⟨none,0⟩,⟨none,0⟩,⟨none,0⟩,⟨none,0⟩,⟨none,0⟩,⟨none,0⟩,[]⟩
theorem zp5{c:Int}(h:Si.Sc c):Pt c:=⟨h.1,h.2.1⟩
theorem zny{w w1:World}{q:Sl}{l:List Int}(wh:Bool)(h:ye w q l w1)(hl:Si.s9 l)(hn:l.length≤lim):
  Mk w (fun _=>False) w1.heap.size (Si.m0 l wh) [] (w1.alloc (.cells (mc (Si.m0 l wh) (noR q)) 161)):=by
 have hm:=(More.refl w1).alloc (.cells (mc (Si.m0 l wh) (noR q)) 161)
 have hm2:=h.more.tr hm
 have hq:(ck q l).ok (w1.alloc (.cells (mc (Si.m0 l wh) (noR q)) 161)):=Item.more h.ok hm
 refine⟨noR q,⟨heap_alloc_new w1 _,.inr h.more.size,⟨?_,?_,?_⟩⟩,rfl,?_,⟨hm2.os,hm2.tape,hm2.output,hm2.size,fun k hk _=>hm2.block k hk⟩⟩
 ·intro it hi
  simp only[kt,noR,Si.m0,m8,cw,eh,gq,List.map_nil,List.mem_cons,List.not_mem_nil,or_false,List.mem_append,List.cons_append,List.nil_append,b8,if_false]at hi
  rcases hi with rfl|rfl|rfl|rfl|rfl|rfl|rfl|rfl
  ·exact hq
  all_goals exact World.ownsRow_nil _ _ _ _
 ·cases e:q.a with
  |none=>
   have:((kt (Si.m0 l wh) (noR q)++[]).filterMap Item.blk)=[]:=by
    simp[kt,noR,Si.m0,m8,cw,ck,pi,lr,Item.blk,e]
   rw[this];exact List.nodup_nil
  |some a=>
   have:((kt (Si.m0 l wh) (noR q)++[]).filterMap Item.blk)=[a.block]:=by
    simp[kt,noR,Si.m0,m8,cw,ck,pi,lr,Item.blk,e]
   rw[this];simp
 ·intro k hk
  cases e:q.a with
  |none=>
   have:((kt (Si.m0 l wh) (noR q)++[]).filterMap Item.blk)=[]:=by
    simp[kt,noR,Si.m0,m8,cw,ck,pi,lr,Item.blk,e]
   rw[this]at hk;cases hk
  |some a=>
   have:((kt (Si.m0 l wh) (noR q)++[]).filterMap Item.blk)=[a.block]:=by
    simp[kt,noR,Si.m0,m8,cw,ck,pi,lr,Item.blk,e]
   rw[this]at hk
   have hk':k=a.block:=by simpa using hk
   have hb:(ck q l).blk=some k:=by rw[hk'];simp[ck,Item.blk,e]
   have h1:=h.new k (by rw[hk',e];rfl)
   have h2:=Item.lt h.ok k hb
   exact⟨.inr h1,by omega⟩
 ·exact⟨fun c hc=>zp5 (hl c hc),by simp[Si.m0],by simp[Si.m0],by simp[Si.m0],by simp[Si.m0],by simp[Si.m0],hn,by simp[Si.m0]⟩
theorem zio(m:MS)(n:Str):mj (err m n)=mj m+1:=by simp[mj,err,wrong];omega
theorem zb9(m:MS)(s:Str):mj (say m s)=mj m+s.length:=by simp[mj,say,n8];omega
theorem P5(m:MS):mj (dm m)≤mj m+2:=by
 have hf:=Si.ub m
 unfold dm tell
 rw[Si.gv]
 simp only[mj,aq,ai,ak];omega
theorem P6(m:MS)(o:Bool):mj (dw m o)≤mj m+2:=by
 have hf:=Si.ub m
 unfold dw tell
 rw[Si.gv]
 simp only[mj,aq,ai,ak];omega
theorem y7{c:Prop}[Decidable c]{a b:MS}{k:Nat}(h1:c→mj a≤k)(h2:¬c→mj b≤k):mj (if c then a else b)≤k:=by
 split
 ·exact h1 ‹_›
 ·exact h2 ‹_›
theorem zkx(m:MS):mj (ends m)≤Si.ph m+64:=by
 have hp:mj m≤Si.ph m:=by unfold Si.ph;omega
 have hk:mj (ol m)≤mj m+1:=by
  obtain⟨tl,dr,e,k⟩:=Si.zdj m
  rw[e];simp only[mj];omega
 have e1:=zio m
 have s1:=zb9 m
 have c1:=P5 m
 unfold ends
 refine y7 (fun _=>y7 (fun _=>by rw[e1];omega) (fun _=>by omega)) (fun _=> ?_)
 refine y7 (fun _=>by omega) (fun _=> ?_)
 refine y7 (fun _=>by have:=P6 m m.odd;omega) (fun _=> ?_)
 refine y7 (fun _=>by omega) (fun _=> ?_)
 refine y7 (fun _=>by rw[zb9,e1];simp;omega) (fun _=> ?_)
 refine y7 (fun _=>by rw[zb9,e1];simp;omega) (fun _=> ?_)
 refine y7 (fun _=>by rw[s1];simp;omega) (fun _=> ?_)
 refine y7 (fun _=>by rw[s1];simp;omega) (fun _=> ?_)
 refine y7 (fun z=> ?_) (fun _=> ?_)
 ·have hp2:Si.ph m=mj m+m.buf.length:=by unfold Si.ph;rw[au z]
  have h2:mj {say m [60,47]with text:=(say m [60,47]).text++m.buf}=mj (say m [60,47])+m.buf.length:=by
   simp only[mj,aq,say];omega
  rw[h2,s1];simp;omega
 refine y7 (fun _=>by have:=P5 (err m [101,110,100,45,105,110,45,99,111,109,109,101,110,116]);rw[e1]at this;omega) (fun _=> ?_)
 refine y7 (fun _=>by have:=P6 (err m [101,110,100,45,105,110,45,100,111,99,116,121,112,101]) true;rw[e1]at this;omega) (fun _=> ?_)
 exact y7 (fun _=>by rw[zio];omega) (fun _=>by rw[e1];omega)
theorem zfu(A B C:List Item)(r:Item):(A++r::(B++C)).Perm ((r::C)++(A++B)):=by
 refine List.perm_middle.trans ?_
 rw[List.cons_append]
 refine List.Perm.cons _ ?_
 rw[←fm]
 exact List.perm_append_comm
structure D4(w w':World)(q:Sl)(T:List Tok)(ta:List Sl):Prop where
 more:More w w'
 rows:Items w' (fun k=>w.heap.size≤k) (pi q T ta::cw T ta)
 lt:ta.length=T.length
theorem zdn{w w':World}{b:Nat}{m:MS}{R:MR}(h:rh w (fun _=>False) b m R [] w'):D4 w w' R.told m.told R.cz:=by
 have hk:=h.kept
 refine⟨⟨hk.os,hk.tape,hk.output,hk.size,fun k hk2=>hk.block k hk2 (fun z=>z)⟩,?_,h.lt⟩
 have hI:=h.obj.rows
 have hP:(kt m R++[]).Perm ((pi R.told m.told R.cz::cw m.told R.cz)++([ck R.l m.l,ck R.text m.text,ck R.name m.name,ck R.buf m.buf,ck R.key m.key,ck R.value m.value]++m8 m.gone R.attrs m.attrs)):=by
  rw[gq]
  exact zfu [ck R.l m.l,ck R.text m.text,ck R.name m.name,ck R.buf m.buf,ck R.key m.key,ck R.value m.value] (m8 m.gone R.attrs m.attrs) (cw m.told R.cz) (pi R.told m.told R.cz)
 have hI2:=hI.less _ _ [] hP (by intro it hit;cases hit) (l':=pi R.told m.told R.cz::cw m.told R.cz) (by rw[gq])
 exact⟨hI2.ok,hI2.nodup,fun k hk=>by
  obtain⟨z,_⟩:=hI2.own k hk
  rcases z with z|z
  ·exact absurd z (fun z=>z)
  ·exact z⟩
theorem P7(x:Str)(wh:Bool)(w:World)(hx:x.length≤268435456)(i:Nat)(m':MS)(hi:i≤36*x.length+72)(hs:Si.Steps i (Si.m0 (Si.z4 x wh) wh) m')(hn:step m'=none)(mf:MS)(hmf:(if wh=true then flush (final m')else final m')=mf):
  Calls prog 84 #[.string ⟨x.toArray⟩,.bool wh] w fun e w'=>∃(q:Sl)(ta:List Sl),e= .returned (.tuple #[.slice q.a mf.told.length q.cap,.int .i64 mf.text.length])∧D4 w w' q mf.told ta:=by
 have hP:=Zz x wh w (by omega)
 have hl:=Si.zil x wh
 have hlen:(Si.z4 x wh).length≤lim:=by unfold lim;omega
 have hph:Si.ph (Si.m0 (Si.z4 x wh) wh)=0:=by simp[Si.ph,Si.m0,mj]
 have hR:=Si.Pw i (Si.inv0 _ _) hs hn (by rw[hph];unfold lim;omega)
 have zp6:=Si.xj i (Si.inv0 _ _) hs
 have hsz:mj (final m')≤lim:=by
  have h1:=zp6.2.1
  rw[hph]at h1
  have h2:=zkx m'
  have h3:mj m'≤Si.ph m':=by unfold Si.ph;omega
  unfold final lim
  split<;>omega
 have HN:=hide (fun(W:World)(q:Sl)(h:ye w q (Si.z4 x wh) W)=>zny wh h (Si.Wg x wh) hlen)
 have HR:=hide (fun(b:Nat)(W:World)(h:Mk w (fun _=>False) b (Si.m0 (Si.z4 x wh) wh) [] W)=>zg3 i m' hR h)
 have HF:=hide (fun(b:Nat)(W:World)(h:Mk w (fun _=>False) b (final m') [] W)=>Nl h hsz)
 have HP:=hide hP
 have HMF:=hide hmf
 clear hmf
 clear hP hl hlen hph hR zp6 hsz hs hn hi hx
 simp only[mc,Si.m0,noR,qc,Hw]at HN
 simp only[bu,cv,dd,fb,ak,List.getElem?_nil,Option.getD_none]at HN
 go_enter func84,ntmps84
 go_wp2_with fail
 refine(ae HP).mono ?_
 rintro e w1⟨q,rfl,hM⟩
 have HN1:=hide (ae HN w1 q hM)
 clear HP HN hM
 go_wp2_with fail
 refine(ae HR _ _ (ae HN1)).mono ?_
 rintro e w2⟨rfl,h2⟩
 clear HN1 HR
 cases wh with
 |true=>
  go_wp2_with fail
  refine(ae HF _ _ h2).mono ?_
  rintro e w3⟨rfl,R,h3⟩
  rw[show flush (final m')=mf from ae HMF]at h3
  clear HF h2 HMF
  have c3:World.cell? w3 ⟨w1.heap.size,3,none⟩=some (.slice R.told.a mf.told.length R.told.cap):=h3.cell 3
  have c4:World.cell? w3 ⟨w1.heap.size,4,none⟩=some (.slice R.text.a mf.text.length R.text.cap):=h3.cell 4
  have HT:=hide (fun n=>zdn (h3.more (qd _ n)))
  have hb:=h3.obj.lt
  clear h3
  go_wp2_with fail
  go_quiet (fail)
  go_wp2
  (try simp only[Exit.inBlock,Exit.then]);refine ap (results_tmp2 rfl _ _ _) rfl ?_
  exact⟨R.told,R.cz,rfl,ae HT _⟩
 |false=>
  obtain⟨R,h3⟩:=h2
  rw[show final m'=mf from ae HMF]at h3
  clear HF HMF
  have c3:World.cell? w2 ⟨w1.heap.size,3,none⟩=some (.slice R.told.a mf.told.length R.told.cap):=h3.cell 3
  have c4:World.cell? w2 ⟨w1.heap.size,4,none⟩=some (.slice R.text.a mf.text.length R.text.cap):=h3.cell 4
  have HT:=hide (fun n=>zdn (h3.more (qd _ n)))
  have hb:=h3.obj.lt
  clear h3
  go_wp2_with fail
  go_quiet (fail)
  go_wp2
  (try simp only[Exit.inBlock,Exit.then]);refine ap (results_tmp2 rfl _ _ _) rfl ?_
  exact⟨R.told,R.cz,rfl,ae HT _⟩
def resT(lm:Int)(x:Str)(wh:Bool):List Tok:=if wh=true then(qh (put {limit:=lm} x)).told else(put {limit:=lm} x).told
def P8(lm:Int)(x:Str)(wh:Bool):Nat:=if wh=true then 0 else runeCount (put {limit:=lm} x).text
theorem zca(lm:Int)(x:Str)(wh:Bool)(w:World)(hx:x.length≤268435456):
  Calls prog 84 #[.string ⟨x.toArray⟩,.bool wh] w fun e w'=>∃(q:Sl)(ta:List Sl),e= .returned (.tuple #[.slice q.a (resT lm x wh).length q.cap,.int .i64 (P8 lm x wh)])∧D4 w w' q (resT lm x wh) ta:=by
 cases wh with
 |false=>
  obtain⟨i,m',h1,h2,h3,h4,h5⟩:=Si.P0 x lm
  have key:=P7 x false w hx i m' (by omega) h2 h3 m' (by simpa using h4)
  have e1:resT lm x false=m'.told:=h5.1
  have e2:P8 lm x false=m'.text.length:=by
   show runeCount (put {limit:=lm} x).text=_
   rw[h5.2.1,Si.P2 h5.2.2]
  rw[e1,e2]
  exact key
 |true=>
  obtain⟨i,m',h1,h2,h3,h4⟩:=Si.Tr x lm
  have key:=P7 x true w hx i m' h1 h2 h3 _ rfl
  have e1:resT lm x true=(flush (final m')).told:=h4
  have e2:P8 lm x true=(flush (final m')).text.length:=by
   show 0=_
   rw[Si.gv];rfl
  rw[e1,e2]
  exact key
structure YS where
 limit:Int:=0
 text:Str:=[]
 given:Nat:=0
 closed:Bool:=false
 over:Bool:=false
def Ba(y:YS):Array Value:=#[.int .i64 y.limit,.string ⟨y.text.toArray⟩,.int .i64 y.given,.bool y.closed,.bool y.over]
structure Yk(w0:World)(b:Nat)(y:YS)(w:World):Prop where
 self:w.heap[b]? =some (.cells (Ba y) 135 (0,0))
 kept:Kept (fun k=>k=b) w0 w
section
variable{w0 w w':World}{b:Nat}{y:YS}
theorem Yk.lt(h:Yk w0 b y w):b<w.heap.size:=(co.1 h.self).1
theorem Yk.cell(h:Yk w0 b y w)(o:Nat):w.cell? ⟨b,o,none⟩=(Ba y)[o]? :=bg h.self o
theorem Yk.frozen(h:Yk w0 b y w)(o:Nat):w.frozen? ⟨b,o,none⟩=false:=bn h.self o
theorem Yk.more(h:Yk w0 b y w)(hm:More w w'):Yk w0 b y w':=⟨by rw[hm.block b h.lt];exact h.self,h.kept.more hm⟩
theorem Yk.set{y':YS}(h:Yk w0 b y w)(o:Nat)(v:Value)(hc:(Ba y).setIfInBounds o v=Ba y'):Yk w0 b y' (w.setCell ⟨b,o,none⟩ v):=
 ⟨by rw[set_self h.self,hc],h.kept.anew (.inl rfl) ⟨rfl,rfl,rfl,by simp[World.setCell]⟩ (fun k hk=>kj v hk)⟩
theorem zfv(l:Int)(w:World):
  Calls prog 50 #[.int .i64 l] w fun e w'=>e= .returned (.pointer (some ⟨w.heap.size,0,none⟩))∧w'=w.alloc (.cells (Ba {limit:=max l 0}) 135):=by
 unfold Ba
 by_cases h:l<0
 ·rw[show max l 0=0 by omega]
  go_enter func50,ntmps50
  go_wp2
  go_ret
  exact⟨rfl,rfl⟩
 ·rw[show max l 0=l by omega]
  have h2:0≤l:=by omega
  go_enter func50,ntmps50
  go_wp2
  go_ret
  exact⟨rfl,rfl⟩
def sh(y:YS)(s:Str):YS:=if y.closed=true then y else if(s.length:Int)≤y.limit-y.text.length then{y with text:=y.text++s}else{y with text:=y.text++s.take (y.limit-y.text.length).toNat,closed:=true,over:=true}
def tm(y:YS)(s:Str):Int×Int:=if y.closed=true then(1,y.text.length)else if(s.length:Int)≤y.limit-y.text.length then(0,0)else(2,y.limit)
theorem Z0(s:Str)(h:Yk w0 b y w)(hl:(y.text.length:Int)≤y.limit)(hl2:y.limit≤9223372036854775807)(ht:y.text.length≤1073741824)(hs:s.length≤1073741824):
  Calls prog 78 #[.pointer (some ⟨b,0,none⟩),.string ⟨s.toArray⟩] w fun e w'=>e= .returned (.tuple #[.int .i64 (tm y s).1,.int .i64 (tm y s).2])∧Yk w0 b (sh y s) w':=by
 have c0:w.cell? ⟨b,0,none⟩=some (.int .i64 y.limit):=h.cell 0
 have c1:w.cell? ⟨b,1,none⟩=some (.string ⟨y.text.toArray⟩):=h.cell 1
 have c3:w.cell? ⟨b,3,none⟩=some (.bool y.closed):=h.cell 3
 have c4:w.cell? ⟨b,4,none⟩=some (.bool y.over):=h.cell 4
 have hb:=h.lt
 have hf:=h.frozen
 have hsz:(⟨y.text.toArray⟩:ByteArray).size=y.text.length:=by simp[ByteArray.size]
 have hss:(⟨s.toArray⟩:ByteArray).size=s.length:=by simp[ByteArray.size]
 cases hc:y.closed with
 |true=>
  have e1:sh y s=y:=by unfold sh;rw[au hc]
  have e2:tm y s=(1,((y.text.length:Nat):Int)):=by unfold tm;rw[au hc]
  rw[e1,e2]
  rw[hc]at c3
  have HT:=hide (fun n=>h.more (qd w n))
  clear e1 e2 h hc
  go_enter func78,ntmps78
  go_wp2_with fail
  go_quiet (fail)
  go_wp2
  (try simp only[Exit.inBlock,Exit.then]);refine ap (results_tmp2 rfl _ _ _) rfl ?_
  exact⟨by simp[hsz],ae HT _⟩
 |false=>
  rw[hc]at c3
  have hwr:IntKind.i64.wrap (y.limit-(y.text.length:Int))=y.limit-(y.text.length:Int):=wrap_small _ (by omega) (by omega)
  by_cases hfit:(s.length:Int)≤y.limit-y.text.length
  ·have N2:=fun W=>uh y.text s W (by unfold lim;omega)
   have e1:sh y s={y with text:=y.text++s}:=by unfold sh;rw[ag (by rw[hc];simp),au hfit]
   have e2:tm y s=(0,0):=by unfold tm;rw[ag (by rw[hc];simp),au hfit]
   rw[e1,e2]
   have HT:=hide (fun n=>(h.more (qd w n)).set (y':={y with text:=y.text++s}) 1 (.string ⟨(y.text++s).toArray⟩) rfl)
   clear e1 e2 h hc
   go_enter func78,ntmps78
   go_wp2_with fail
   go_quiet (fail)
   go_wp2
   (try simp only[Exit.inBlock,Exit.then]);refine ap (results_tmp2 rfl _ _ _) rfl ?_
   exact⟨rfl,ae HT _⟩
  ·obtain⟨k,hk⟩:∃k:Nat,y.limit-(y.text.length:Int)=k:=⟨(y.limit-(y.text.length:Int)).toNat,by omega⟩
   have hks:k<s.length:=by omega
   have e1:sh y s={y with text:=y.text++s.take k,closed:=true,over:=true}:=by unfold sh;rw[ag (by rw[hc];simp),ag hfit,hk,Int.toNat_natCast]
   have e2:tm y s=(2,y.limit):=by unfold tm;rw[ag (by rw[hc];simp),ag hfit]
   have hsl:∀W,(Instr.slice 9 (.string ⟨s.toArray⟩) none (some (.int .i64 (k:Int))) none).run prog W= .ok (.string ⟨(s.take k).toArray⟩) W:=fun W=>by
    rw[run_slice_string_to_if W 9 ⟨s.toArray⟩ .i64 k underlying9,au ⟨by omega,by simp[ByteArray.size];omega⟩,Int.toNat_natCast,z8]
   have N2:=fun W=>uh y.text (s.take k) W (by unfold lim;rw[List.length_take];omega)
   rw[e1,e2]
   have HT:=hide (fun n=>((((h.more (qd w n)).set (y':={y with text:=y.text++s.take k}) 1 (.string ⟨(y.text++s.take k).toArray⟩) rfl))))
   have HT3:=hide (fun n=>(ae HT n).set (y':={y with text:=y.text++s.take k,closed:=true}) 3 (.bool true) rfl)
   have HT4:=hide (fun n=>(ae HT3 n).set (y':={y with text:=y.text++s.take k,closed:=true,over:=true}) 4 (.bool true) rfl)
   have HT5:=hide (fun n j=>(ae HT4 n).more (qd _ j))
   rw[hk]at hwr hfit
   have ztk:(k:Int)<(s.length:Int):=by omega
   clear e1 e2 hc
   go_enter func78,ntmps78
   go_wp2_with fail
   go_quiet (fail)
   go_wp2_with fail
   clear h hk
   go_region_with(fail)
   go_wp2_with fail
   go_quiet (fail)
   go_wp2
   (try simp only[Exit.inBlock,Exit.then]);refine ap (results_tmp2 rfl _ _ _) rfl ?_
   exact⟨rfl,ae HT5 _ _⟩
end
theorem P9(w0:World)(lm:Int)(x:Str)(wh:Bool)(hx:x.length≤268435456):(resT lm x wh).length≤512*x.length+1028:=by
 obtain⟨_,ho,_⟩:=Fh (w0:=w0) (aj:=fun _=>False) (Open.new lm) x (by omega)
 rw[ja]at ho
 unfold resT
 cases wh with
 |true=>exact I1 w0 ho (by omega)
 |false=>
  have:=ho.small
  have h2:(put {limit:=lm} x).told.length≤sz (put {limit:=lm} x):=by unfold sz;omega
  simp;omega
theorem D4.grow{w W w1 w':World}{q:Sl}{T:List Tok}{ta:List Sl}(h:D4 w W q T ta)(hm:More W w1)(t:Tok)(ht:t.attrs=[])(a':Addr)(cap':Nat)
  (hown:w'.ownsRow 0 144 6 (.slice (some a') (T.length+1) cap') (T.length+1) (eh T ta++fq t ⟨none,0⟩)) (hg:w1.grownBy w' (q.a.map (·.block))) (hf:some a'.block=q.a.map (·.block)∨w1.heap.size≤a'.block):
  D4 w w' ⟨some a',cap'⟩ (T++[t]) (ta++[⟨none,0⟩]):=by
 have hI:Items w1 (fun k=>w.heap.size≤k) ([]++pi q T ta::cw T ta):=h.rows.kept fun k hk _=>hm.block k hk
 have hm1:=h.more.tr hm
 have hnew:∀k,q.a.map (·.block)=some k→w.heap.size≤k:=fun k e=>h.rows.own k (ez.2 ⟨pi q T ta,by simp,by simpa[Item.blk,pi]using e⟩)
 have hI':=hI.step (it':=⟨144,6,some a',T.length+1,cap',eh T ta++fq t ⟨none,0⟩⟩) hg hown (by
  rcases hf with hf|hf
  ·exact .inl (by simpa[Item.blk,pi]using hf)
  ·exact .inr ⟨a'.block,rfl,hf⟩) (fun k hk=>fz hm1.size hk)
 refine⟨⟨hg.os.trans hm1.os,hg.tape.trans hm1.tape,hg.output.trans hm1.output,fz hm1.size hg.size,fun k hk=> ?_⟩,?_,by simp[h.lt]⟩
 ·rw[hg.block k (ei hk hm1.size) (fun e=>by have:=hnew k e.symm;omega),hm1.block k hk]
 ·have hB:=Items.bare hI' (it:=lr ⟨none,0⟩ t.attrs) (by rw[ht];exact xq w') rfl
  rw[xr t _ _ _ h.lt]
  have e:pi ⟨some a',cap'⟩ (T++[t]) (ta++[⟨none,0⟩])=⟨144,6,some a',T.length+1,cap',eh T ta++fq t ⟨none,0⟩⟩:=by
   unfold pi;rw[ul t _ _ _ h.lt];simp
  rw[e]
  exact hB
section
variable{w0 w w':World}{b:Nat}{y:YS}
theorem Z1(h:Yk w0 b y w):
  Calls prog 79 #[.pointer (some ⟨b,0,none⟩)] w fun e w'=>e= .returned (.tuple #[.int .i64 (if y.closed=true then 1 else 0),.int .i64 (if y.closed=true then y.text.length else 0)])∧Yk w0 b {y with closed:=true} w':=by
 have c1:w.cell? ⟨b,1,none⟩=some (.string ⟨y.text.toArray⟩):=h.cell 1
 have c3:w.cell? ⟨b,3,none⟩=some (.bool y.closed):=h.cell 3
 have hb:=h.lt
 have hf:=h.frozen
 have hsz:(⟨y.text.toArray⟩:ByteArray).size=y.text.length:=by simp[ByteArray.size]
 cases hc:y.closed with
 |true=>
  have e1:{y with closed:=true}=y:=by cases y;simp at hc;simp[hc]
  rw[e1]
  rw[hc]at c3
  have HT:=hide (fun n=>h.more (qd w n))
  clear e1 h hc
  go_enter func79,ntmps79
  go_wp2_with fail
  go_quiet (fail)
  go_wp2
  (try simp only[Exit.inBlock,Exit.then]);refine ap (results_tmp2 rfl _ _ _) rfl ?_
  exact⟨by simp[hsz],ae HT _⟩
 |false=>
  rw[hc]at c3
  have HT:=hide (h.set (y':={y with closed:=true}) 3 (.bool true) rfl)
  clear h hc
  go_enter func79,ntmps79
  go_wp2
  (try simp only[Exit.inBlock,Exit.then]);refine ap (results_tmp2 rfl _ _ _) rfl ?_
  exact⟨by simp,ae HT⟩
def uk(y:YS):List Tok:=resT y.limit y.text y.closed++(if y.closed=true∧y.over=false then[{kind:=6}]else[])
theorem D4.start{W:World}{q:Sl}{T:List Tok}{ta:List Sl}{n:Nat}(h:D4 (w.drewN n) W q T ta):D4 w W q T ta:=⟨(qd w n).tr h.more,h.rows,h.lt⟩
theorem Z2(h:Yk w0 b y w)(hx:y.text.length≤268435456):
  Calls prog 101 #[.pointer (some ⟨b,0,none⟩)] w fun e w'=>∃(q:Sl)(ta:List Sl),e= .returned (.tuple #[.slice q.a (uk y).length q.cap,.int .i64 (P8 y.limit y.text y.closed)])∧D4 w w' q (uk y) ta:=by
 have c1:w.cell? ⟨b,1,none⟩=some (.string ⟨y.text.toArray⟩):=h.cell 1
 have c3:w.cell? ⟨b,3,none⟩=some (.bool y.closed):=h.cell 3
 have c4:w.cell? ⟨b,4,none⟩=some (.bool y.over):=h.cell 4
 have hb:=h.lt
 have HP:=hide (fun n=>zca y.limit y.text y.closed (w.drewN n) hx)
 have HL:=hide (P9 w0 y.limit y.text y.closed hx)
 obtain⟨i0,hi,hz0,hz1,hz2⟩:=info_parts My
 clear h
 have HN:Hid (uk y=resT y.limit y.text y.closed++(if y.closed=true∧y.over=false then[{kind:=6}]else[])):=hide rfl
 generalize uk y=NT at*
 generalize y.closed=cl at*
 generalize y.over=ov at*
 have fin:∀(W:World)(q:Sl)(ta:List Sl)(n:Nat),D4 (w.drewN n) W q (resT y.limit y.text cl) ta→W.cell? ⟨b,3,none⟩=some (.bool cl)∧W.cell? ⟨b,4,none⟩=some (.bool ov)∧D4 w W q (resT y.limit y.text cl) ta:=by
  intro W q ta n h2
  have h3:=h2.start
  exact⟨by rw[h3.more.cell hb];exact c3,by rw[h3.more.cell hb];exact c4,h3⟩
 have FIN:=hide fin
 clear fin
 have HR:Hid (resT y.limit y.text cl=resT y.limit y.text cl):=hide rfl
 cases cl with
 |false=>
  rw[ag (by simp),gq]at HN
  obtain rfl:=ae HN
  go_enter func101,ntmps101
  go_wp2_with fail
  go_region_with(go_at_call 84;refine(ae HP _).mono ?_;rintro e w2⟨q,ta,rfl,h2⟩)
  all_goals
   obtain⟨d3,d4,h3⟩:=ae FIN _ _ _ _ h2
   have HT:=hide h3
   clear h2 h3 FIN HP HN HL c1 c3 c4
   go_wp2
   (try simp only[Exit.inBlock,Exit.then]);refine ap (results_tmp2 rfl _ _ _) rfl ?_
   exact⟨q,ta,rfl,ae HT⟩
 |true=>
  cases ov with
  |true=>
   rw[ag (by simp),gq]at HN
   obtain rfl:=ae HN
   go_enter func101,ntmps101
   go_wp2_with fail
   go_region_with(go_at_call 84;refine(ae HP _).mono ?_;rintro e w2⟨q,ta,rfl,h2⟩)
   all_goals
    obtain⟨d3,d4,h3⟩:=ae FIN _ _ _ _ h2
    have HT:=hide h3
    clear h2 h3 FIN HP HN HL c1 c3 c4
    go_wp2
    (try simp only[Exit.inBlock,Exit.then]);refine ap (results_tmp2 rfl _ _ _) rfl ?_
    exact⟨q,ta,rfl,ae HT⟩
  |false=>
   rw[au ⟨rfl,rfl⟩]at HN
   obtain rfl:=ae HN
   rw[aq,List.length_singleton]
   go_enter func101,ntmps101
   go_wp2_with fail
   go_region_with(go_at_call 84;refine(ae HP _).mono ?_;rintro e w2⟨q,ta,rfl,h2⟩)
   all_goals
    obtain⟨d3,d4,h3⟩:=ae FIN _ _ _ _ h2
    have HT:=hide h3
    have HL2:=hide (show(resT y.limit y.text true).length≤lim by have:=ae HL;unfold lim;omega)
    clear h2 h3 FIN HP HN HL c1 c3 c4
    go_wp2_with(at_builtin;refine dh _ rfl (.tmp 29) (.tmp 31) 139 rfl 144 i0 _ 6 80 underlying139 hi hz0 hz1 hz2 rfl (by decide) q.a (resT y.limit y.text true).length q.cap (eh (resT y.limit y.text true) ta) rfl ?own ⟨w2.heap.size,0,none⟩ 1 1 (fq {kind:=6} ⟨none,0⟩) rfl rfl (um _ _ _ _) (r8 _ _) (by decide) (Bi HL2.out) (Cy HL2.out) ?next)
    case own=>exact bh ((ae HT).rows.ok (pi q (resT y.limit y.text true) ta) (by simp)) _
    case next=>
     intro a' cap' w' hown hgrow hfresh
     have HT2:=hide ((ae HT).grow ((More.refl w2).alloc _) {kind:=6} rfl a' cap' hown hgrow (by simpa using hfresh))
     clear hown hgrow hfresh HT
     go_wp2
     (try simp only[Exit.inBlock,Exit.then]);refine ap (results_tmp2 rfl _ _ _) rfl ?_
     exact⟨⟨some a',cap'⟩,_,rfl,ae HT2⟩
end
end Go.Proofs.YtdfmapcnfficlaaGreatDoor.M

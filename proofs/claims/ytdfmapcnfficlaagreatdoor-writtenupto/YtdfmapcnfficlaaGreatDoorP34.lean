import Derived.Test.YtdfmapcnfficlaaGreatDoorP32
import Derived.Test.YtdfmapcnfficlaaGreatDoorP33
import Derived.Shelf.Utf8.RuneCount
import Derived.Shelf.Unicode.Decode
import Derived.Shelf.Strings.RuneCount
import Derived.Lib.ItoaLen
import Derived.LaidEql
set_option linter.all false
set_option maxHeartbeats 1600000
set_option maxRecDepth 1000000
namespace Go.Proofs.YtdfmapcnfficlaaGreatDoor
open Go Go.RowKit
theorem zr4{c:Int}(h:0≤c∧c≤1114111∧¬(55296≤c∧c≤57343)):((Lib.decodeGo ⟨(Lib.encodeRune c).toArray⟩).1:Int)=c:=by
 obtain⟨h0,h1,h2⟩:=h
 obtain⟨n,rfl⟩:∃n:Nat,c=n:=⟨c.toNat,by omega⟩
 obtain⟨w1,w2,w3⟩:=Ki (n:Int)
 rw[sb w1]at w3⊢
 have hs:=Lib.decodeN_shape (Lib.encodeRune (n:Int)).length ((Lib.encodeRune (n:Int)).getD 0 0).toNat ((Lib.encodeRune (n:Int)).getD 1 0).toNat ((Lib.encodeRune (n:Int)).getD 2 0).toNat ((Lib.encodeRune (n:Int)).getD 3 0).toNat
 by_cases k1:n≤127
 ·unfold Lib.encodeRune
  rw[Lib.encodeRuneZ_one (by omega) (by omega)]
  have e1:(n:Int).toNat=n:=by omega
  have f1:(UInt8.ofNat n).toNat=n:=s8 n (by omega)
  simp only[List.map_cons,List.map_nil,e1,Nat.toUInt8,List.getD_cons_zero,List.getD_cons_succ,f1,ai,ak]
  unfold Lib.decodeN
  rw[au (by omega)]
 generalize hd:Lib.decodeN (Lib.encodeRune (n:Int)).length ((Lib.encodeRune (n:Int)).getD 0 0).toNat ((Lib.encodeRune (n:Int)).getD 1 0).toNat ((Lib.encodeRune (n:Int)).getD 2 0).toNat ((Lib.encodeRune (n:Int)).getD 3 0).toNat=d at*
 clear hd
 unfold Lib.encodeRune at w3 hs
 by_cases k2:n≤2047
 ·rw[Lib.encodeRuneZ_two (by omega) (by omega)]at w3 hs
  have e1:(192+(n:Int) / 64).toNat=192+n / 64:=by omega
  have e2:(128+(n:Int)%64).toNat=128+n%64:=by omega
  have f1:(UInt8.ofNat (192+n / 64)).toNat=192+n / 64:=s8 _ (by omega)
  have f2:(UInt8.ofNat (128+n%64)).toNat=128+n%64:=s8 _ (by omega)
  simp only[List.map_cons,List.map_nil,e1,e2,Nat.toUInt8,List.getD_cons_zero,List.getD_cons_succ,f1,f2,ai,ak]at w3 hs
  rcases hs with⟨_,e⟩|⟨_,_,_,_,e⟩|⟨_,q,_⟩|⟨_,q,_⟩|e
  ·omega
  ·rw[e]
   simp only
   omega
  ·omega
  ·omega
  ·rw[e]at w3
   simp at w3
 by_cases k3:n≤65535
 ·rw[Lib.encodeRuneZ_three (by omega)]at w3 hs
  have e1:(224+(n:Int) / 4096).toNat=224+n / 4096:=by omega
  have e2:(128+(n:Int) / 64%64).toNat=128+n / 64%64:=by omega
  have e3:(128+(n:Int)%64).toNat=128+n%64:=by omega
  have f1:(UInt8.ofNat (224+n / 4096)).toNat=224+n / 4096:=s8 _ (by omega)
  have f2:(UInt8.ofNat (128+n / 64%64)).toNat=128+n / 64%64:=s8 _ (by omega)
  have f3:(UInt8.ofNat (128+n%64)).toNat=128+n%64:=s8 _ (by omega)
  simp only[List.map_cons,List.map_nil,e1,e2,e3,Nat.toUInt8,List.getD_cons_zero,List.getD_cons_succ,f1,f2,f3,ai,ak]at w3 hs
  rcases hs with⟨_,e⟩|⟨_,_,_,_,e⟩|⟨_,_,_,_,_,_,e⟩|⟨_,q,_⟩|e
  ·omega
  ·omega
  ·rw[e]
   simp only
   omega
  ·omega
  ·rw[e]at w3
   simp at w3
 ·rw[Lib.encodeRuneZ_four (by omega) (by omega)]at w3 hs
  have e1:(240+(n:Int) / 262144).toNat=240+n / 262144:=by omega
  have e2:(128+(n:Int) / 4096%64).toNat=128+n / 4096%64:=by omega
  have e3:(128+(n:Int) / 64%64).toNat=128+n / 64%64:=by omega
  have e4:(128+(n:Int)%64).toNat=128+n%64:=by omega
  have f1:(UInt8.ofNat (240+n / 262144)).toNat=240+n / 262144:=s8 _ (by omega)
  have f2:(UInt8.ofNat (128+n / 4096%64)).toNat=128+n / 4096%64:=s8 _ (by omega)
  have f3:(UInt8.ofNat (128+n / 64%64)).toNat=128+n / 64%64:=s8 _ (by omega)
  have f4:(UInt8.ofNat (128+n%64)).toNat=128+n%64:=s8 _ (by omega)
  simp only[List.map_cons,List.map_nil,e1,e2,e3,e4,Nat.toUInt8,List.getD_cons_zero,List.getD_cons_succ,f1,f2,f3,f4,ai,ak]at w3 hs
  rcases hs with⟨_,e⟩|⟨_,_,_,_,e⟩|⟨_,_,_,_,_,_,e⟩|⟨_,_,_,_,_,_,_,e⟩|e
  ·omega
  ·omega
  ·omega
  ·rw[e]
   simp only
   omega
  ·rw[e]at w3
   simp at w3
end Go.Proofs.YtdfmapcnfficlaaGreatDoor
namespace Go.Proofs.YtdfmapcnfficlaaGreatDoor
open Go.Proofs.Tryz
open Go Go.RowKit
structure Ee(w:World)(ac al:Addr):Prop where
 vc:w.cell? ⟨1,0,none⟩=some (.iface 233 (.pointer (some ac)))
 vl:w.cell? ⟨0,0,none⟩=some (.iface 233 (.pointer (some al)))
 ne:ac≠al
 bc:∃c t,w.heap[ac.block]? =some (.cells c t (0,0))
 bl:∃c t,w.heap[al.block]? =some (.cells c t (0,0))
 tc:∃x:Str,x.length≤64∧w.cell? ac=some (.string ⟨x.toArray⟩)
 tl:∃x:Str,x.length≤64∧w.cell? al=some (.string ⟨x.toArray⟩)
theorem ww{w:World}{g:Nat}{o:Obj}(h:w.heap[g]? =some o):g<w.heap.size:=(co.1 h).1
theorem Qa{w:World}{a:Addr}{v:Value}(h:w.cell? a=some v):a.block<w.heap.size:=by
 cases hh:w.heap[a.block]? with
 |none=>simp[World.cell?,hh]at h
 |some o=>exact ww hh
theorem Cs{w w':World}{a:Addr}{v:Value}(h:w.cell? a=some v)(hm:More w w'):w'.cell? a=some v:=by
 have hb:=hm.block a.block (Qa h)
 rw[←h]
 simp[World.cell?,hb]
theorem Ee.more{w w':World}{ac al:Addr}(h:Ee w ac al)(hm:More w w'):Ee w' ac al:=by
 refine⟨Cs h.vc hm,Cs h.vl hm,h.ne,?_,?_,?_,?_⟩
 ·obtain⟨c,t,hh⟩:=h.bc
  exact⟨c,t,(hm.block _ (ww hh)).trans hh⟩
 ·obtain⟨c,t,hh⟩:=h.bl
  exact⟨c,t,(hm.block _ (ww hh)).trans hh⟩
 ·obtain⟨x,hx,hh⟩:=h.tc
  exact⟨x,hx,Cs hh hm⟩
 ·obtain⟨x,hx,hh⟩:=h.tl
  exact⟨x,hx,Cs hh hm⟩
def AtV(w:World)(v:Value)(place:Int)(a:Addr):Prop:=∃g,v= .iface 87 (.pointer (some ⟨g,0,none⟩))∧w.heap[g]? =some (.cells #[.int .i64 place,.iface 233 (.pointer (some a))] 89 (0,0))
theorem AtV.more{w w':World}{v:Value}{place:Int}{a:Addr}(h:AtV w v place a)(hm:More w w'):AtV w' v place a:=by
 obtain⟨g,e,hg⟩:=h
 exact⟨g,e,(hm.block g (ww hg)).trans hg⟩
theorem xa(w:World)(o:Obj)(n:Nat)(h:n=w.heap.size):(w.alloc o).heap[n]? =some o:=by subst h;exact heap_alloc_new w o
section
variable{w0:World}{aj:Nat→Prop}{b:Nat}{s:TS}{ex:List Item}{w:World}
theorem Wk(w0:World){n:Nat}(h:Open s n)(hn:n≤1073741824):(qh s).limit=s.limit:=by
 have hf':Ck {s with closed:=true}:=h.fine.head rfl rfl rfl rfl rfl rfl rfl rfl
 have hsz:=h.small
 have hpl:=h.place
 have hz:sz {s with closed:=true}=sz s:=rfl
 have hp:({s with closed:=true}:TS).place=s.place:=rfl
 obtain⟨_,i2,i3,i4,_,i6,_⟩:=A8 (w0:=w0) (aj:=fun _=>False) hf' (by show s.place+1≤_;omega) (by unfold lim;omega)
 obtain⟨_,_,j3,_⟩:=zc9 (w0:=w0) (aj:=fun _=>False) i2 (c:= -1) ⟨by decide,by decide⟩ (by omega) (by unfold lim;omega)
 unfold qh
 rw[Og,j3.2.2.1,i6]
theorem Ct{ac al:Addr}(E:Ee w ac al)(h:Tk w0 aj b s ex w):
  Calls prog 32 #[.pointer (some ⟨b,0,none⟩)] w fun e w'=>∃v,e= .returned v∧AtV w' v s.bytes ac∧More w w':=by
 have c1:=Hi h
 have c2:=E.vc
 have hlt:=(by obtain⟨R,hR⟩:=h.reg;exact hR.1.yh:b<w.heap.size)
 have hlt2:=Qa c2
 clear h E
 go_enter func32,ntmps32
 go_wp2_with fail
 go_region
 all_goals
  go_wp2
  go_ret
  exact⟨_,rfl,⟨_,rfl,xa _ _ _ (by simp)⟩,by repeat(first|exact More.refl _|refine More.alloc ?_ _|refine More.drew ?_)⟩
theorem Wl{ac al:Addr}(E:Ee w ac al)(x:Str)(hc:s.closed=true)(h:Tk w0 aj b s ex w):
  Calls prog 17 #[.pointer (some ⟨b,0,none⟩),.string ⟨x.toArray⟩] w fun e w'=>∃v,e= .returned v∧AtV w' v s.bytes ac∧More w w':=by
 have HI:=hide (vt h)
 rw[hc]at HI
 have HE:=hide (Ct E h)
 clear h E hc
 go_enter func17,ntmps17
 go_wp2_with fail
 refine(ae HI).mono ?_
 rintro e w1⟨rfl,rfl⟩
 go_wp2_with fail
 refine(ae HE).mono ?_
 rintro e w2⟨v,rfl,h1,h2⟩
 go_wp2
 go_ret
 exact⟨_,rfl,h1,h2⟩
theorem Wm{ac al:Addr}(E:Ee w ac al)(hc:s.closed=true)(h:Tk w0 aj b s ex w):
  Calls prog 22 #[.pointer (some ⟨b,0,none⟩)] w fun e w'=>∃v,e= .returned v∧AtV w' v s.bytes ac∧More w w':=by
 have HI:=hide (vt h)
 rw[hc]at HI
 have HE:=hide (Ct E h)
 clear h E hc
 go_enter func22,ntmps22
 go_wp2_with fail
 refine(ae HI).mono ?_
 rintro e w1⟨rfl,rfl⟩
 go_wp2_with fail
 refine(ae HE).mono ?_
 rintro e w2⟨v,rfl,h1,h2⟩
 go_wp2
 go_ret
 exact⟨_,rfl,h1,h2⟩
theorem zce{n k:Nat}{ac al:Addr}(hE:∀W,Kept aj w0 W→Ee W ac al)(ho:Open s n)(x:Str)(hk:(n+k:Int)=s.limit)(hx:k<x.length)(hn:n+k≤1073741824)(hxl:x.length≤1073741824)(B:Base w0 aj)(h:Tk w0 aj b s ex w):
  Calls prog 17 #[.pointer (some ⟨b,0,none⟩),.string ⟨x.toArray⟩] w fun e w'=>∃v,e= .returned v∧AtV w' v s.limit al∧Tk w0 aj b (qh (put s (x.take k))) ex w':=by
 have htl:(x.take k).length=k:=by rw[List.length_take];omega
 obtain⟨hr,ho2,hlm⟩:=Fh (w0:=w0) (aj:=aj) ho (x.take k) (by omega)
 have hby:=ho.by'
 have c1:=Hj h
 have c2:=Hi h
 have f1:=h.frozen
 have HI:=hide (vt h)
 rw[ho.cl]at HI
 have hsh:=ho.short
 have hsz:=ho2.small
 have hpl:=ho2.place
 have H1:=hide (fun W(hW:Tk w0 aj b {s with bytes:=s.bytes+(x.take k).length} ex W)=>Ta (s:={s with bytes:=s.bytes+(x.take k).length}) 4 (s.begun++x.take k).length (x.take k) B (by show s.begun.length+(x.take k).length≤lim;unfold lim;omega) (hr B) hW)
 have H2:=hide (fun W(hW:Tk w0 aj b (put s (x.take k)) ex W)=>K7 B ho2.fine (by omega) (by unfold lim;omega) hW)
 have HT:=hide (fun nq=>Zh (h.drewN nq) (s.bytes+(x.take k).length))
 have hel:(qh (put s (x.take k))).limit=s.limit:=by rw[Wk w0 ho2 (by omega)];exact hlm
 have HEl:=hide hel
 have hmin:min (x.length:Int) (s.limit-s.bytes)=k:=by omega
 have hsl:∀W,(Instr.slice 9 (.string ⟨x.toArray⟩) none (some (.int .i64 (k:Int))) none).run prog W= .ok (.string ⟨(x.take k).toArray⟩) W:=fun W=>by
  rw[run_slice_string_to_if W 9 ⟨x.toArray⟩ .i64 k underlying9,au ⟨by omega,by simp[ByteArray.size];omega⟩,Int.toNat_natCast,z8]
 have hlim:s.limit≤2147483648:=by omega
 have ztl:0≤s.limit:=by omega
 have HEE:=hide hE
 unfold put at H2 HEl⊢
 unfold Fd at H1
 simp only[htl]at H1 HT H2 HEl⊢
 clear ho hr B h ho2 hsz hpl hlm hel hE
 simp only[hby]at H1 HT c2 hmin H2 HEl⊢
 have hsub:(n:Int)≤s.limit:=by omega
 clear hby hk
 generalize read 4 (s.begun++x.take k).length {s with bytes:=(n:Int)+(k:Int)} (x.take k)=s2 at*
 go_enter func17,ntmps17
 go_wp2_with fail
 refine(ae HI).mono ?_
 rintro e w1⟨rfl,rfl⟩
 go_wp2_with fail
 go_quiet (fail)
 go_wp2_with fail
 have HT1:=hide (ae HT nq)
 clear HT HI c1 c2
 try simp only[hmin]
 generalize(w1.drewN nq).setCell ⟨b,3,none⟩ (.int .i64 ((n:Int)+(k:Int)))=W at*
 have HT2:=hide (ae HT1).drew
 clear f1
 go_region_with(go_at_call 33;refine(ae H1 _ (by first|exact ae HT1|exact ae HT2)).mono ?_;rintro e w2⟨rfl,h2⟩)
 all_goals
  clear HT1 HT2 H1
  go_wp2_with fail
  refine(ae H2 _ h2).mono ?_
  rintro e w3⟨rfl,h3⟩
  have c3:=Hj h3
  rw[ae HEl]at c3
  have c4:=((ae HEE) _ h3.2).vl
  have hlt:=(by obtain⟨R,hR⟩:=h3.reg;exact hR.1.yh:b<w3.heap.size)
  have hlt2:=Qa c4
  have HT3:=hide h3
  clear h3 H2
  go_wp2_with fail
  go_region
  all_goals
   go_wp2
   go_ret
   exact⟨_,rfl,⟨_,rfl,xa _ _ _ (by simp)⟩,(ae HT3).more (by repeat(first|exact More.refl _|refine More.alloc ?_ _|refine More.drew ?_))⟩
end
end Go.Proofs.YtdfmapcnfficlaaGreatDoor
namespace Go.Proofs
open Go.Shelf
def Tryz.laysM243_ren:Go.Shelf.Ren:=⟨fun|243=>90|246=>113|283=>161|284=>162|285=>163|286=>164|129=>222|317=>221|318=>223|319=>224|320=>225|337=>253|338=>254|n=>n,fun|3=>3|9=>9|2=>2|4=>4|171=>178|0=>0|53=>104|37=>74|5=>5|173=>181|212=>204|51=>107|20=>20|213=>205|46=>126|232=>228|233=>229|n=>n,fun|17=>4|18=>6|19=>7|n=>n⟩
theorem Tryz.laysM243:Go.Proofs.LaysM.n243 Tryz.prog Tryz.laysM243_ren:={
 mixed:=by kernel_rfl
 f129:=Tryz.func222.trans (congrArg some (by kernel_rfl))
 f243:=Tryz.func90.trans (congrArg some (by kernel_rfl))
 f246:=Tryz.func113.trans (congrArg some (by kernel_rfl))
 f283:=Tryz.func161.trans (congrArg some (by kernel_rfl))
 f284:=Tryz.func162.trans (congrArg some (by kernel_rfl))
 f285:=Tryz.func163.trans (congrArg some (by kernel_rfl))
 f286:=Tryz.func164.trans (congrArg some (by kernel_rfl))
 f317:=Tryz.func221.trans (congrArg some (by kernel_rfl))
 f318:=Tryz.func223.trans (congrArg some (by kernel_rfl))
 f319:=Tryz.func224.trans (congrArg some (by kernel_rfl))
 f320:=Tryz.func225.trans (congrArg some (by kernel_rfl))
 f337:=Tryz.func253.trans (congrArg some (by kernel_rfl))
 f338:=Tryz.func254.trans (congrArg some (by kernel_rfl))
 t0:=Tryz.underlying0
 a0:=Tryz.isAgg0
 z0:=Tryz.sizeOf0
 v0:=Tryz.zeroValue0
 t2:=Tryz.underlying2
 a2:=Tryz.isAgg2
 z2:=Tryz.sizeOf2
 v2:=Tryz.zeroValue2
 t3:=Tryz.underlying3
 a3:=Tryz.isAgg3
 z3:=Tryz.sizeOf3
 v3:=Tryz.zeroValue3
 t4:=Tryz.underlying4
 a4:=Tryz.isAgg4
 z4:=Tryz.sizeOf4
 v4:=Tryz.zeroValue4
 t5:=Tryz.underlying5
 a5:=Tryz.isAgg5
 z5:=Tryz.sizeOf5
 v5:=Tryz.zeroValue5
 t9:=Tryz.underlying9
 a9:=Tryz.isAgg9
 z9:=Tryz.sizeOf9
 v9:=Tryz.zeroValue9
 t20:=Tryz.underlying20
 a20:=Tryz.isAgg20
 z20:=Tryz.sizeOf20
 v20:=Tryz.zeroValue20
 t37:=Tryz.underlying74
 a37:=Tryz.isAgg74
 z37:=Tryz.sizeOf74
 v37:=Tryz.zeroValue74
 t46:=Tryz.underlying126
 a46:=Tryz.isAgg126
 z46:=Tryz.sizeOf126
 v46:=Tryz.zeroValue126
 t51:=Tryz.underlying107
 a51:=Tryz.isAgg107
 z51:=Tryz.sizeOf107
 v51:=Tryz.zeroValue107
 t53:=Tryz.underlying104
 a53:=Tryz.isAgg104
 z53:=Tryz.sizeOf104
 v53:=Tryz.zeroValue104
 t171:=Tryz.underlying178
 a171:=Tryz.isAgg178
 z171:=Tryz.sizeOf178
 v171:=Tryz.zeroValue178
 t173:=Tryz.underlying181
 a173:=Tryz.isAgg181
 z173:=Tryz.sizeOf181
 v173:=Tryz.zeroValue181
 t212:=Tryz.underlying204
 a212:=Tryz.isAgg204
 z212:=Tryz.sizeOf204
 v212:=Tryz.zeroValue204
 t213:=Tryz.underlying205
 a213:=Tryz.isAgg205
 z213:=Tryz.sizeOf205
 t232:=Tryz.underlying228
 a232:=Tryz.isAgg228
 z232:=Tryz.sizeOf228
 v232:=Tryz.zeroValue228
 t233:=Tryz.underlying229
 a233:=Tryz.isAgg229
 z233:=Tryz.sizeOf229
 v233:=Tryz.zeroValue229
 g17:=by kernel_rfl
 g18:=by kernel_rfl
 g19:=by kernel_rfl
 i0:=by kernel_rfl
 i2:=by kernel_rfl
 i3:=by kernel_rfl
 i4:=by kernel_rfl
 i5:=by kernel_rfl
 i9:=by kernel_rfl
 i20:=by kernel_rfl
 i37:=by kernel_rfl
 i46:=by kernel_rfl
 i51:=by kernel_rfl
 i53:=by kernel_rfl
 i171:=by kernel_rfl
 i173:=by kernel_rfl
 i212:=by kernel_rfl
 i232:=by kernel_rfl
 i233:=by kernel_rfl
 m17:=by kernel_rfl
 m18:=by kernel_rfl
 m19:=by kernel_rfl}
open Go.RowKit Go.Sort Go.Lib in
theorem Tryz.internal_strconv_Itoa(n:Int)(h0: -9223372036854775808≤n)(h1:n≤9223372036854775807)(w:World)(htab:Lib.TabIs Tryz.prog w "internal/strconv.uint64pow10" .u64 Lib.pow10Tab):
  Calls Tryz.prog 90 #[.int .i64 n] w fun e w'=>e= .returned (.string ⟨(Lib.itoa n).toArray⟩)∧∃k os,w'=grow (w.drewN k) os:=Any.internal_strconv_Itoa Tryz.laysM243 n h0 h1 w htab
def Tryz.lays243_ren:Go.Shelf.Ren:=⟨fun|243=>90|246=>113|283=>161|284=>162|285=>163|286=>164|129=>222|317=>221|318=>223|319=>224|320=>225|337=>253|338=>254|n=>n,fun|3=>3|9=>9|2=>2|4=>4|171=>178|0=>0|53=>104|37=>74|5=>5|173=>181|212=>204|51=>107|20=>20|213=>205|46=>126|232=>228|233=>229|n=>n,fun|17=>4|18=>6|19=>7|n=>n⟩
theorem Tryz.lays243:Go.Proofs.Lays.n243 Tryz.prog Tryz.lays243_ren:={
 mixed:=by kernel_rfl
 f129:=Tryz.func222.trans (congrArg some (by kernel_rfl))
 f243:=Tryz.func90.trans (congrArg some (by kernel_rfl))
 f246:=Tryz.func113.trans (congrArg some (by kernel_rfl))
 f283:=Tryz.func161.trans (congrArg some (by kernel_rfl))
 f284:=Tryz.func162.trans (congrArg some (by kernel_rfl))
 f285:=Tryz.func163.trans (congrArg some (by kernel_rfl))
 f286:=Tryz.func164.trans (congrArg some (by kernel_rfl))
 f317:=Tryz.func221.trans (congrArg some (by kernel_rfl))
 f318:=Tryz.func223.trans (congrArg some (by kernel_rfl))
 f319:=Tryz.func224.trans (congrArg some (by kernel_rfl))
 f320:=Tryz.func225.trans (congrArg some (by kernel_rfl))
 f337:=Tryz.func253.trans (congrArg some (by kernel_rfl))
 f338:=Tryz.func254.trans (congrArg some (by kernel_rfl))
 t0:=Tryz.underlying0
 a0:=Tryz.isAgg0
 z0:=Tryz.sizeOf0
 v0:=Tryz.zeroValue0
 t2:=Tryz.underlying2
 a2:=Tryz.isAgg2
 z2:=Tryz.sizeOf2
 v2:=Tryz.zeroValue2
 t3:=Tryz.underlying3
 a3:=Tryz.isAgg3
 z3:=Tryz.sizeOf3
 v3:=Tryz.zeroValue3
 t4:=Tryz.underlying4
 a4:=Tryz.isAgg4
 z4:=Tryz.sizeOf4
 v4:=Tryz.zeroValue4
 t5:=Tryz.underlying5
 a5:=Tryz.isAgg5
 z5:=Tryz.sizeOf5
 v5:=Tryz.zeroValue5
 t9:=Tryz.underlying9
 a9:=Tryz.isAgg9
 z9:=Tryz.sizeOf9
 v9:=Tryz.zeroValue9
 t20:=Tryz.underlying20
 a20:=Tryz.isAgg20
 z20:=Tryz.sizeOf20
 v20:=Tryz.zeroValue20
 t37:=Tryz.underlying74
 a37:=Tryz.isAgg74
 z37:=Tryz.sizeOf74
 v37:=Tryz.zeroValue74
 t46:=Tryz.underlying126
 a46:=Tryz.isAgg126
 z46:=Tryz.sizeOf126
 v46:=Tryz.zeroValue126
 t51:=Tryz.underlying107
 a51:=Tryz.isAgg107
 z51:=Tryz.sizeOf107
 v51:=Tryz.zeroValue107
 t53:=Tryz.underlying104
 a53:=Tryz.isAgg104
 z53:=Tryz.sizeOf104
 v53:=Tryz.zeroValue104
 t171:=Tryz.underlying178
 a171:=Tryz.isAgg178
 z171:=Tryz.sizeOf178
 v171:=Tryz.zeroValue178
 t173:=Tryz.underlying181
 a173:=Tryz.isAgg181
 z173:=Tryz.sizeOf181
 v173:=Tryz.zeroValue181
 t212:=Tryz.underlying204
 a212:=Tryz.isAgg204
 z212:=Tryz.sizeOf204
 v212:=Tryz.zeroValue204
 t213:=Tryz.underlying205
 a213:=Tryz.isAgg205
 z213:=Tryz.sizeOf205
 t232:=Tryz.underlying228
 a232:=Tryz.isAgg228
 z232:=Tryz.sizeOf228
 v232:=Tryz.zeroValue228
 t233:=Tryz.underlying229
 a233:=Tryz.isAgg229
 z233:=Tryz.sizeOf229
 v233:=Tryz.zeroValue229
 g17:=by kernel_rfl
 g18:=by kernel_rfl
 g19:=by kernel_rfl}
open Go.RowKit Go.Sort Go.Lib in
theorem Tryz.internal_strconv_Itoa_small(i:Nat)(hi:i<100)(w:World):
  Calls Tryz.prog 90 #[.int .i64 i] w fun e w'=>e= .returned (.string ⟨(Lib.decDigits i).toArray⟩)∧w'=w:=Any.internal_strconv_Itoa_small Tryz.lays243 i hi w
def Tryz.laysM171_ren:Go.Shelf.Ren:=⟨fun|171=>62|243=>90|246=>113|283=>161|284=>162|285=>163|286=>164|129=>222|317=>221|318=>223|319=>224|320=>225|337=>253|338=>254|n=>n,fun|3=>3|9=>9|2=>2|4=>4|171=>178|0=>0|53=>104|37=>74|5=>5|173=>181|212=>204|51=>107|20=>20|213=>205|46=>126|232=>228|233=>229|n=>n,fun|17=>4|18=>6|19=>7|n=>n⟩
theorem Tryz.laysM171:Go.Proofs.LaysM.n171 Tryz.prog Tryz.laysM171_ren:={
 mixed:=by kernel_rfl
 f129:=Tryz.func222.trans (congrArg some (by kernel_rfl))
 f171:=Tryz.func62.trans (congrArg some (by kernel_rfl))
 f243:=Tryz.func90.trans (congrArg some (by kernel_rfl))
 f246:=Tryz.func113.trans (congrArg some (by kernel_rfl))
 f283:=Tryz.func161.trans (congrArg some (by kernel_rfl))
 f284:=Tryz.func162.trans (congrArg some (by kernel_rfl))
 f285:=Tryz.func163.trans (congrArg some (by kernel_rfl))
 f286:=Tryz.func164.trans (congrArg some (by kernel_rfl))
 f317:=Tryz.func221.trans (congrArg some (by kernel_rfl))
 f318:=Tryz.func223.trans (congrArg some (by kernel_rfl))
 f319:=Tryz.func224.trans (congrArg some (by kernel_rfl))
 f320:=Tryz.func225.trans (congrArg some (by kernel_rfl))
 f337:=Tryz.func253.trans (congrArg some (by kernel_rfl))
 f338:=Tryz.func254.trans (congrArg some (by kernel_rfl))
 t0:=Tryz.underlying0
 a0:=Tryz.isAgg0
 z0:=Tryz.sizeOf0
 v0:=Tryz.zeroValue0
 t2:=Tryz.underlying2
 a2:=Tryz.isAgg2
 z2:=Tryz.sizeOf2
 v2:=Tryz.zeroValue2
 t3:=Tryz.underlying3
 a3:=Tryz.isAgg3
 z3:=Tryz.sizeOf3
 v3:=Tryz.zeroValue3
 t4:=Tryz.underlying4
 a4:=Tryz.isAgg4
 z4:=Tryz.sizeOf4
 v4:=Tryz.zeroValue4
 t5:=Tryz.underlying5
 a5:=Tryz.isAgg5
 z5:=Tryz.sizeOf5
 v5:=Tryz.zeroValue5
 t9:=Tryz.underlying9
 a9:=Tryz.isAgg9
 z9:=Tryz.sizeOf9
 v9:=Tryz.zeroValue9
 t20:=Tryz.underlying20
 a20:=Tryz.isAgg20
 z20:=Tryz.sizeOf20
 v20:=Tryz.zeroValue20
 t37:=Tryz.underlying74
 a37:=Tryz.isAgg74
 z37:=Tryz.sizeOf74
 v37:=Tryz.zeroValue74
 t46:=Tryz.underlying126
 a46:=Tryz.isAgg126
 z46:=Tryz.sizeOf126
 v46:=Tryz.zeroValue126
 t51:=Tryz.underlying107
 a51:=Tryz.isAgg107
 z51:=Tryz.sizeOf107
 v51:=Tryz.zeroValue107
 t53:=Tryz.underlying104
 a53:=Tryz.isAgg104
 z53:=Tryz.sizeOf104
 v53:=Tryz.zeroValue104
 t171:=Tryz.underlying178
 a171:=Tryz.isAgg178
 z171:=Tryz.sizeOf178
 v171:=Tryz.zeroValue178
 t173:=Tryz.underlying181
 a173:=Tryz.isAgg181
 z173:=Tryz.sizeOf181
 v173:=Tryz.zeroValue181
 t212:=Tryz.underlying204
 a212:=Tryz.isAgg204
 z212:=Tryz.sizeOf204
 v212:=Tryz.zeroValue204
 t213:=Tryz.underlying205
 a213:=Tryz.isAgg205
 z213:=Tryz.sizeOf205
 t232:=Tryz.underlying228
 a232:=Tryz.isAgg228
 z232:=Tryz.sizeOf228
 v232:=Tryz.zeroValue228
 t233:=Tryz.underlying229
 a233:=Tryz.isAgg229
 z233:=Tryz.sizeOf229
 v233:=Tryz.zeroValue229
 g17:=by kernel_rfl
 g18:=by kernel_rfl
 g19:=by kernel_rfl
 i0:=by kernel_rfl
 i2:=by kernel_rfl
 i3:=by kernel_rfl
 i4:=by kernel_rfl
 i5:=by kernel_rfl
 i9:=by kernel_rfl
 i20:=by kernel_rfl
 i37:=by kernel_rfl
 i46:=by kernel_rfl
 i51:=by kernel_rfl
 i53:=by kernel_rfl
 i171:=by kernel_rfl
 i173:=by kernel_rfl
 i212:=by kernel_rfl
 i232:=by kernel_rfl
 i233:=by kernel_rfl
 m17:=by kernel_rfl
 m18:=by kernel_rfl
 m19:=by kernel_rfl}
open Go.RowKit Go.Sort Go.Lib in
theorem Tryz.strconv_Itoa(n:Int)(h0: -9223372036854775808≤n)(h1:n≤9223372036854775807)(w:World)(htab:Lib.TabIs Tryz.prog w "internal/strconv.uint64pow10" .u64 Lib.pow10Tab):
  Calls Tryz.prog 62 #[.int .i64 n] w fun e w'=>e= .returned (.string ⟨(Lib.itoa n).toArray⟩)∧∃k os,w'=grow (w.drewN k) os:=Any.strconv_Itoa Tryz.laysM171 n h0 h1 w htab
def Tryz.lays171_ren:Go.Shelf.Ren:=⟨fun|171=>62|243=>90|246=>113|283=>161|284=>162|285=>163|286=>164|129=>222|317=>221|318=>223|319=>224|320=>225|337=>253|338=>254|n=>n,fun|3=>3|9=>9|2=>2|4=>4|171=>178|0=>0|53=>104|37=>74|5=>5|173=>181|212=>204|51=>107|20=>20|213=>205|46=>126|232=>228|233=>229|n=>n,fun|17=>4|18=>6|19=>7|n=>n⟩
theorem Tryz.lays171:Go.Proofs.Lays.n171 Tryz.prog Tryz.lays171_ren:={
 mixed:=by kernel_rfl
 f129:=Tryz.func222.trans (congrArg some (by kernel_rfl))
 f171:=Tryz.func62.trans (congrArg some (by kernel_rfl))
 f243:=Tryz.func90.trans (congrArg some (by kernel_rfl))
 f246:=Tryz.func113.trans (congrArg some (by kernel_rfl))
 f283:=Tryz.func161.trans (congrArg some (by kernel_rfl))
 f284:=Tryz.func162.trans (congrArg some (by kernel_rfl))
 f285:=Tryz.func163.trans (congrArg some (by kernel_rfl))
 f286:=Tryz.func164.trans (congrArg some (by kernel_rfl))
 f317:=Tryz.func221.trans (congrArg some (by kernel_rfl))
 f318:=Tryz.func223.trans (congrArg some (by kernel_rfl))
 f319:=Tryz.func224.trans (congrArg some (by kernel_rfl))
 f320:=Tryz.func225.trans (congrArg some (by kernel_rfl))
 f337:=Tryz.func253.trans (congrArg some (by kernel_rfl))
 f338:=Tryz.func254.trans (congrArg some (by kernel_rfl))
 t0:=Tryz.underlying0
 a0:=Tryz.isAgg0
 z0:=Tryz.sizeOf0
 v0:=Tryz.zeroValue0
 t2:=Tryz.underlying2
 a2:=Tryz.isAgg2
 z2:=Tryz.sizeOf2
 v2:=Tryz.zeroValue2
 t3:=Tryz.underlying3
 a3:=Tryz.isAgg3
 z3:=Tryz.sizeOf3
 v3:=Tryz.zeroValue3
 t4:=Tryz.underlying4
 a4:=Tryz.isAgg4
 z4:=Tryz.sizeOf4
 v4:=Tryz.zeroValue4
 t5:=Tryz.underlying5
 a5:=Tryz.isAgg5
 z5:=Tryz.sizeOf5
 v5:=Tryz.zeroValue5
 t9:=Tryz.underlying9
 a9:=Tryz.isAgg9
 z9:=Tryz.sizeOf9
 v9:=Tryz.zeroValue9
 t20:=Tryz.underlying20
 a20:=Tryz.isAgg20
 z20:=Tryz.sizeOf20
 v20:=Tryz.zeroValue20
 t37:=Tryz.underlying74
 a37:=Tryz.isAgg74
 z37:=Tryz.sizeOf74
 v37:=Tryz.zeroValue74
 t46:=Tryz.underlying126
 a46:=Tryz.isAgg126
 z46:=Tryz.sizeOf126
 v46:=Tryz.zeroValue126
 t51:=Tryz.underlying107
 a51:=Tryz.isAgg107
 z51:=Tryz.sizeOf107
 v51:=Tryz.zeroValue107
 t53:=Tryz.underlying104
 a53:=Tryz.isAgg104
 z53:=Tryz.sizeOf104
 v53:=Tryz.zeroValue104
 t171:=Tryz.underlying178
 a171:=Tryz.isAgg178
 z171:=Tryz.sizeOf178
 v171:=Tryz.zeroValue178
 t173:=Tryz.underlying181
 a173:=Tryz.isAgg181
 z173:=Tryz.sizeOf181
 v173:=Tryz.zeroValue181
 t212:=Tryz.underlying204
 a212:=Tryz.isAgg204
 z212:=Tryz.sizeOf204
 v212:=Tryz.zeroValue204
 t213:=Tryz.underlying205
 a213:=Tryz.isAgg205
 z213:=Tryz.sizeOf205
 t232:=Tryz.underlying228
 a232:=Tryz.isAgg228
 z232:=Tryz.sizeOf228
 v232:=Tryz.zeroValue228
 t233:=Tryz.underlying229
 a233:=Tryz.isAgg229
 z233:=Tryz.sizeOf229
 v233:=Tryz.zeroValue229
 g17:=by kernel_rfl
 g18:=by kernel_rfl
 g19:=by kernel_rfl}
open Go.RowKit Go.Sort Go.Lib in
theorem Tryz.strconv_Itoa_small(i:Nat)(hi:i<100)(w:World):
  Calls Tryz.prog 62 #[.int .i64 i] w fun e w'=>e= .returned (.string ⟨(Lib.decDigits i).toArray⟩)∧w'=w:=Any.strconv_Itoa_small Tryz.lays171 i hi w
end Go.Proofs
namespace Go.Proofs.YtdfmapcnfficlaaGreatDoor
open Go.Proofs.Tryz
open Go Go.RowKit
def Pow(w:World):Prop:=Lib.TabIs prog w "internal/strconv.uint64pow10" .u64 Lib.pow10Tab
theorem zp7:prog.globalNamed "internal/strconv.uint64pow10" =some 4:=by kernel_rfl
theorem Pow.more{w w':World}(h:Pow w)(hm:More w w'):Pow w':=by
 unfold Pow Lib.TabIs World.var? at*
 rw[zp7]at*
 simp only[Option.bind_some]at*
 cases hh:w.heap[4]? with
 |none=>rw[hh]at h;cases h
 |some o=>rw[hm.block _ (ww hh)];exact h
theorem zfx(w:World)(k:Nat)(os:Array Obj):More w (Sort.grow (w.drewN k) os):=
 ⟨rfl,rfl,rfl,by simp[Sort.grow],fun i hi=>by simp[Sort.grow,Array.getElem?_append_left hi]⟩
theorem zfy(a:Addr)(x:Str)(w:World)(h:w.cell? a=some (.string ⟨x.toArray⟩)):
  Calls prog 281 #[.pointer (some a)] w fun e w'=>e= .returned (.string ⟨x.toArray⟩)∧w'=w:=by
 go_enter func281,ntmps281
 go_wp2
 go_ret
 exact⟨rfl,rfl⟩
theorem Le{g:Nat}{p:Int}{v:Value}(w:World)(h:w.heap[g]? =some (.cells #[.int .i64 p,v] 89 (0,0))):
  Calls prog 42 #[.pointer (some ⟨g,0,none⟩)] w fun e w'=>e= .returned v∧w'=w:=by
 have c1:w.cell? ⟨g,1,none⟩=some v:=bg h 1
 clear h
 go_enter func42,ntmps42
 go_wp2
 go_ret
 exact⟨rfl,rfl⟩
theorem od{g:Nat}{p:Int}{a:Addr}{x:Str}(w:World)(h:w.heap[g]? =some (.cells #[.int .i64 p,.iface 233 (.pointer (some a))] 89 (0,0)))(hx:x.length≤64)(ha:w.cell? a=some (.string ⟨x.toArray⟩))(hp0:0≤p)(hp1:p≤2147483648)(T:Pow w):
  Calls prog 43 #[.pointer (some ⟨g,0,none⟩)] w fun e w'=>∃y:Str,y≠[]∧e= .returned (.string ⟨y.toArray⟩)∧More w w':=by
 have c0:w.cell? ⟨g,0,none⟩=some (.int .i64 p):=bg h 0
 have c1:w.cell? ⟨g,1,none⟩=some (.iface 233 (.pointer (some a))):=bg h 1
 have hl:=Lib.itoa_length_le p (by omega) (by omega)
 have HE:=hide (fun(W:World)(hW:More w W)=>zfy a x W (Cs ha hW))
 have HI:=hide (fun(W:World)(hW:More w W)=>strconv_Itoa p (by omega) (by omega) W (T.more hW))
 have hc1:∀W,_:=fun W=>uh x [32,40,97,116,32] W (by unfold lim;simp;omega)
 have hc2:∀W,_:=fun W=>uh (x++[32,40,97,116,32]) (Lib.itoa p) W (by unfold lim;simp;omega)
 have hc3:∀W,_:=fun W=>uh (x++[32,40,97,116,32]++Lib.itoa p) [41] W (by unfold lim;simp;omega)
 have hlt:=ww h
 have ztm:∀W:World,(method 348 233 (Value.pointer (some a)) "Error").run prog W= .ok (281,.pointer (some a)) W:=fun W=>by kernel_rfl
 clear h ha T
 generalize Lib.itoa p=it at*
 go_enter func43,ntmps43
 go_wp2_with fail
 go_region_with(first
  |(go_at_call 281;refine(ae HE _ (by repeat(first|exact More.refl _|refine More.drew ?_))).mono ?_;rintro e w1⟨rfl,rfl⟩)
  |(go_at_call 62;refine(ae HI _ (by repeat(first|exact More.refl _|refine More.drew ?_))).mono ?_;rintro e w2⟨rfl,kq,os,rfl⟩))
 all_goals
  go_wp2
  go_ret
  refine⟨(x++32::40::97::116::32::it)++[41],by simp,?_,zfx w _ _⟩
  have e:((⟨(x++32::40::97::116::32::it).toArray⟩:ByteArray)++(⟨#[41]⟩:ByteArray))=⟨((x++32::40::97::116::32::it)++[41]).toArray⟩:=by rw[ByteArray.mk_append_mk]
  rw[←e]
  rfl
theorem compE:(prog.info? 233).map (·.comparable)=some true:=by kernel_rfl
theorem sizeE:(prog.info? 247).map (·.size)=some 1:=by kernel_rfl
section
variable{w:World}{ac al:Addr}
theorem Ee.eqC(E:Ee w ac al)(a:Addr):∀W,(binOp .eql 38 (.iface 233 (.pointer (some a))) (.iface 233 (.pointer (some a)))).run prog W= .ok (.bool true) W:=by
 intro W
 obtain⟨i,hi,hcmp⟩:=Option.map_eq_some_iff.1 compE
 obtain⟨j,hj,hjs⟩:=Option.map_eq_some_iff.1 sizeE
 exact run_eql_iface_ptr_same W a underlying38 underlying233 hi hcmp hj
theorem Ee.neq(E:Ee w ac al):∀W,More w W→(binOp .eql 38 (.iface 233 (.pointer (some al))) (.iface 233 (.pointer (some ac)))).run prog W= .ok (.bool false) W:=by
 intro W hW
 obtain⟨i,hi,hcmp⟩:=Option.map_eq_some_iff.1 compE
 obtain⟨j,hj,hjs⟩:=Option.map_eq_some_iff.1 sizeE
 obtain⟨cc,tc,hc⟩:=(E.more hW).bc
 obtain⟨cl,tl,hl⟩:=(E.more hW).bl
 exact run_eql_iface_ptr_other W underlying38 underlying233 hi hcmp hj (by rw[hjs];decide) (Ne.symm E.ne) hl hc
end
end Go.Proofs.YtdfmapcnfficlaaGreatDoor

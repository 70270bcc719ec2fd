import Derived.Test.YtdfmapcnfficlaaGreatDoorP24
import Derived.Test.YtdfmapcnfficlaaGreatDoorP21
set_option linter.all false
set_option maxHeartbeats 2000000
set_option maxRecDepth 1000000
namespace Go.Proofs.YtdfmapcnfficlaaGreatDoor
open Go.Proofs.Tryz
open Go Go.RowKit
section
variable{w0:World}{aj:Nat→Prop}{b:Nat}{s:TS}{ex:List Item}{w:World}{R:n9}
def Gh(x:Str):Str:=Lib.mapD lw x
theorem zbb:∀args w,(callFunc 194 args).run prog w= .ok (.enter 194 args) w:=enters_of func194 (by kernel_rfl) rfl
theorem Kx(x:Str)(w:World)(hx:x.length≤64)(hT:Lib.Utf8Tabs 2 3 w):
  Calls prog 203 #[.func (.func 194) #[] #[],.string ⟨x.toArray⟩] w fun e w'=>e= .returned (.string ⟨(Gh x).toArray⟩)∧More w w':=by
 have h:=strings_Map_runes 194 #[] zbb lw ⟨x.toArray⟩ w (by simp[ByteArray.size];omega) (fun W y hy _=>by
  refine(pg y W ⟨by omega,by omega⟩).mono ?_
  rintro e w'⟨rfl,rfl⟩
  exact⟨rfl,0,rfl⟩) (fun y hy=>by unfold lw;split<;>omega) hT
 refine h.mono ?_
 rintro e w'⟨rfl,hb⟩
 exact⟨rfl,More.of_below hb⟩
theorem N9(f:Int→Int):∀(n:Nat)(l:List UInt8),(Lib.mapGoD f n l).length≤4*n
 |0,_=>by simp[Lib.mapGoD]
 |n+1,l=>by
  rw[Lib.mapGoD]
  split
  ·simp
  ·have h1:=N9 f n (l.drop (Lib.decodeL l).2)
   have h2:=oh (f (Lib.decodeL l).1)
   rw[aq]
   split
   ·omega
   ·simp;omega
theorem zhi(x:Str):(Gh x).length≤4*x.length:=N9 _ _ _
def u7(x:Str):Bool:=partOf x [45,45]||partOf (Gh x) [100,111,99,116,121,112,101]||partOf x [91,67,68,65,84,65,91]
theorem U3(x:Str)(w:World)(hx:x.length≤64)(hT:Lib.Utf8Tabs 2 3 w):
  Calls prog 202 #[.string ⟨x.toArray⟩] w fun e w'=>e= .returned (.bool (u7 x))∧More w w':=by
 have H1:=hide (fun w=>za x [45,45] w (by unfold lim;omega) (by decide))
 have H2:=hide (fun w=>za (Gh x) [100,111,99,116,121,112,101] w (by have:=zhi x;unfold lim;omega) (by decide))
 have H3:=hide (fun w=>za x [91,67,68,65,84,65,91] w (by unfold lim;omega) (by decide))
 have HM:=hide (Kx x w hx hT)
 unfold u7
 clear hx hT
 generalize Gh x=y at*
 cases h1:partOf x [45,45]
 ·rw[h1]at H1
  cases h2:partOf y [100,111,99,116,121,112,101]
  ·rw[h2]at H2
   cases h3:partOf x [91,67,68,65,84,65,91]
   all_goals
    rw[h3]at H3
    go_enter func202,ntmps202
    go_wp2_with fail
    refine(ae H1 _).mono ?_
    rintro e w1⟨rfl,rfl⟩
    go_wp2_with fail
    refine(ae HM).mono ?_
    rintro e w2⟨rfl,hm⟩
    go_wp2_with fail
    refine(ae H2 _).mono ?_
    rintro e w3⟨rfl,rfl⟩
    go_wp2_with fail
    refine(ae H3 _).mono ?_
    rintro e w4⟨rfl,rfl⟩
    go_wp2
    go_ret
    exact⟨rfl,hm⟩
  ·rw[h2]at H2
   go_enter func202,ntmps202
   go_wp2_with fail
   refine(ae H1 _).mono ?_
   rintro e w1⟨rfl,rfl⟩
   go_wp2_with fail
   refine(ae HM).mono ?_
   rintro e w2⟨rfl,hm⟩
   go_wp2_with fail
   refine(ae H2 _).mono ?_
   rintro e w3⟨rfl,rfl⟩
   go_wp2
   go_ret
   exact⟨rfl,hm⟩
 ·rw[h1]at H1
  go_enter func202,ntmps202
  go_wp2_with fail
  refine(ae H1 _).mono ?_
  rintro e w1⟨rfl,rfl⟩
  go_wp2
  go_ret
  exact⟨rfl,More.refl _⟩
def mx(s:TS):TS:={s with declared:=[]}
def lz(s:TS)(c:Int):Int×TS:=
 if u7 (s.declared++Lib.encodeRune c)=true then(0,{s with declared:=s.declared++Lib.encodeRune c})
 else if s.declared++Lib.encodeRune c=[45,45]then(0,{mx s with state:=20})
 else if Gh (s.declared++Lib.encodeRune c)=[100,111,99,116,121,112,101]then(0,{mx s with state:=26})
 else if s.declared++Lib.encodeRune c=[91,67,68,65,84,65,91]then(0,{bq (bz (mx s) [99,100,97,116,97] (s.place-s.declared.length)) [91,67,68,65,84,65,91]with state:=19})
 else(1,{bq (bz (mx s) [100,101,99,108,97,114,97,116,105,111,110] (s.place-s.declared.length)) s.declared with state:=19})
theorem M1(h:Tk w0 aj b s ex w)(l:Str):Tk w0 aj b {s with declared:=l} ex (w.setCell ⟨b,16,none⟩ (.string ⟨l.toArray⟩)):=by
 obtain⟨⟨R,hR⟩,hk⟩:=h
 exact⟨⟨R,hR.setCell 16 _ rfl rfl rfl rfl rfl⟩,hk.setCell _ _ hR.ownB⟩
theorem Sw(h:Tk w0 aj b s ex w):w.cell? ⟨b,16,none⟩=some (.string ⟨s.declared.toArray⟩):=by
 obtain⟨R,hR⟩:=h.reg
 have:=hR.1.cell 16
 exact this
theorem Ch(s:TS):sz (mx s)≤sz s:=by simp[sz,mx]
theorem U4(s:TS)(c:Int)(h1:u7 (s.declared++Lib.encodeRune c)=true):lz s c=(0,{s with declared:=s.declared++Lib.encodeRune c}):=by rw[lz,au h1]
theorem U5(s:TS)(c:Int)(h1:u7 (s.declared++Lib.encodeRune c)=false)(h2:s.declared++Lib.encodeRune c=[45,45]):lz s c=(0,{mx s with state:=20}):=by rw[lz,ag (by rw[h1];decide),au h2]
theorem U6(s:TS)(c:Int)(h1:u7 (s.declared++Lib.encodeRune c)=false)(h2:s.declared++Lib.encodeRune c≠[45,45])(h3:Gh (s.declared++Lib.encodeRune c)=[100,111,99,116,121,112,101]):lz s c=(0,{mx s with state:=26}):=by rw[lz,ag (by rw[h1];decide),ag h2,au h3]
theorem U7(s:TS)(c:Int)(h1:u7 (s.declared++Lib.encodeRune c)=false)(h2:s.declared++Lib.encodeRune c≠[45,45])(h3:Gh (s.declared++Lib.encodeRune c)≠[100,111,99,116,121,112,101])(h4:s.declared++Lib.encodeRune c=[91,67,68,65,84,65,91]):lz s c=(0,{bq (bz (mx s) [99,100,97,116,97] (s.place-s.declared.length)) [91,67,68,65,84,65,91]with state:=19}):=by rw[lz,ag (by rw[h1];decide),ag h2,ag h3,au h4]
theorem U8(s:TS)(c:Int)(h1:u7 (s.declared++Lib.encodeRune c)=false)(h2:s.declared++Lib.encodeRune c≠[45,45])(h3:Gh (s.declared++Lib.encodeRune c)≠[100,111,99,116,121,112,101])(h4:s.declared++Lib.encodeRune c≠[91,67,68,65,84,65,91]):lz s c=(1,{bq (bz (mx s) [100,101,99,108,97,114,97,116,105,111,110] (s.place-s.declared.length)) s.declared with state:=19}):=by rw[lz,ag (by rw[h1];decide),ag h2,ag h3,ag h4]
theorem Me(c:Int)(hc:Rn c)(B:Base w0 aj)(hd:s.declared.length≤8)(hp0:0≤s.place)(hp1:s.place≤1099511627776)(h:Tk w0 aj b s ex w)(hs:sz s+128≤lim):
  Calls prog 142 #[.pointer (some ⟨b,0,none⟩),.int .i32 c] w fun e w'=>e= .returned (.int .i64 (lz s c).1)∧Tk w0 aj b (lz s c).2 ex w':=by
 have hcv:∀w,(convert 21 9 (.int .i32 c)).run prog w= .ok (.string ⟨(Lib.encodeRune c).toArray⟩) w:=fun w=>by
  rw[run_convert_int_string w 21 9 .i32 c (by rw[underlying21];rfl) underlying9,Hc]
 have N2:∀w,_:=fun w=>uh s.declared (Lib.encodeRune c) w (by have:=oh c;unfold lim;omega)
 have hcl:(s.declared++Lib.encodeRune c).length≤12:=by have:=oh c;simp;omega
 have hdc:=Sw h
 have hpc:=wk h
 have hf:=h.frozen
 have HT:=hide h
 have HB:=hide B
 have HS:=hide hs
 have X1:=fun h=>U4 s c h
 have X2:=fun h=>U5 s c h
 have X3:=fun h=>U6 s c h
 have X4:=fun h=>U7 s c h
 have X5:=fun h=>U8 s c h
 have HM:=hide (fun w hT=>U3 (s.declared++Lib.encodeRune c) w (by omega) hT)
 have HL:=hide (fun w hT=>Kx (s.declared++Lib.encodeRune c) w (by omega) hT)
 generalize s.declared++Lib.encodeRune c=x at*
 generalize Gh x=y at*
 clear h B hs
 go_enter func142,ntmps142
 go_wp2_with fail
 go_quiet (fail)
 have T1:=(ae HT).more (qd w nq)
 clear HT hdc hpc hf
 generalize w.drewN nq=W at*
 go_wp2_with fail
 refine(ae HM _ ((ae HB).at T1.2).tabs).mono ?_
 rintro e w2⟨rfl,hm2⟩
 have T2:=T1.more hm2
 have hdc:=Sw T2
 have hf:=T2.frozen
 clear T1 hm2 HM N2 hcv
 cases hmay:u7 x
 ·by_cases h2:x=[45,45]
  ·have HF:=hide (X2 hmay h2)
   have H3:=hide (M1 T2 [])
   subst h2
   clear X1 X2 X3 X4 X5 HL T2
   go_wp2_with fail
   refine(mr 20 (ae H3)).mono ?_
   rintro e w4⟨rfl,h4⟩
   go_wp2
   go_ret
   exact⟨by rw[ae HF];rfl,by rw[ae HF];exact h4⟩
  ·have e2:(x==[45,45])=false:=by simpa using h2
   have H3:=hide (M1 T2 [])
   have HTAB:=hide (((ae HB).at (M1 T2 []).2).tabs)
   by_cases h3:y=[100,111,99,116,121,112,101]
   ·have HF:=hide (X3 hmay h2 h3)
    subst h3
    clear X1 X2 X3 X4 X5 T2 h2
    go_wp2_with fail
    refine(ae HL _ (ae HTAB)).mono ?_
    rintro e w4⟨rfl,hm4⟩
    have T4:=(ae H3).more hm4
    go_wp2_with fail
    refine(mr 26 T4).mono ?_
    rintro e w5⟨rfl,h5⟩
    go_wp2
    go_ret
    exact⟨by rw[ae HF];rfl,by rw[ae HF];exact h5⟩
   ·have e3:(y==[100,111,99,116,121,112,101])=false:=by simpa using h3
    by_cases h4:x=[91,67,68,65,84,65,91]
    ·have HF:=hide (X4 hmay h2 h3 h4)
     subst h4
     clear X1 X2 X3 X4 X5 T2 h2 h3
     go_wp2_with fail
     refine(ae HL _ (ae HTAB)).mono ?_
     rintro e w4⟨rfl,hm4⟩
     have T4:=(ae H3).more hm4
     go_wp2_with fail
     refine(Az [99,100,97,116,97] (s.place-s.declared.length) T4 (by have:=ae HS;have:=Ch s;unfold mx at this;omega)).mono ?_
     rintro e w5⟨rfl,h5⟩
     go_wp2_with fail
     refine(qu [91,67,68,65,84,65,91] h5 (by have:=ae HS;have:=Ch s;unfold mx at this;rw[rk];simp only[ai,ak];omega)).mono ?_
     rintro e w6⟨rfl,h6⟩
     go_wp2_with fail
     refine(mr 19 h6).mono ?_
     rintro e w7⟨rfl,h7⟩
     go_wp2
     go_ret
     exact⟨by rw[ae HF];rfl,by rw[ae HF];exact h7⟩
    ·have e4:(x==[91,67,68,65,84,65,91])=false:=by simpa using h4
     have HF:=hide (X5 hmay h2 h3 h4)
     clear X1 X2 X3 X4 X5 T2 h2 h3 h4
     go_wp2_with fail
     refine(ae HL _ (ae HTAB)).mono ?_
     rintro e w4⟨rfl,hm4⟩
     have T4:=(ae H3).more hm4
     go_wp2_with fail
     refine(Az [100,101,99,108,97,114,97,116,105,111,110] (s.place-s.declared.length) T4 (by have:=ae HS;have:=Ch s;unfold mx at this;omega)).mono ?_
     rintro e w5⟨rfl,h5⟩
     go_wp2_with fail
     refine(qu s.declared h5 (by have:=ae HS;have:=Ch s;unfold mx at this;rw[rk];omega)).mono ?_
     rintro e w6⟨rfl,h6⟩
     go_wp2_with fail
     refine(ic 19 h6).mono ?_
     rintro e w7⟨rfl,h7⟩
     go_wp2
     go_ret
     exact⟨by rw[ae HF];rfl,by rw[ae HF];exact h7⟩
 ·have HF:=hide (X1 hmay)
  have H3:=hide (M1 T2 x)
  clear X1 X2 X3 X4 X5 HL T2
  go_wp2
  go_ret
  exact⟨by rw[ae HF];rfl,by rw[ae HF];exact ae H3⟩
end
def rp(q:Int):Bool:=decide (31≤q∧q≤35)
def Il(q:Int):Bool:=q==10||q==12||q==13||q==14||q==15
structure Pre(w0:World)(aj:Nat→Prop)(s:TS)(c:Int):Prop where
 rn:Rn c
 base:Base w0 aj
 ref:rp s.state=true→N4 s
 Gq:Il s.state=true→s.tag.cy≠[]
 decl:s.declared.length≤8
 E0:0≤s.place
 E1:s.place≤1099511627776
 size:sz s+128≤lim
section
variable{w0:World}{aj:Nat→Prop}{b:Nat}{s:TS}{ex:List Item}{w:World}{R:n9}
theorem dv(h:Tk w0 aj b s ex w):w.cell? ⟨b,5,none⟩=some (.int .i64 s.state):=by
 obtain⟨R,hR⟩:=h.reg
 have:=hR.1.cell 5
 exact this
theorem D8(c:Int)(P:Pre w0 aj s c)(hst:s.state=3)(h:Tk w0 aj b s ex w):
  Calls prog 107 #[.pointer (some ⟨b,0,none⟩),.int .i32 c] w fun e w'=>e= .returned (.int .i64 (ju s c).1)∧Tk w0 aj b (ju s c).2 ex w':=by
 have cst:=dv h
 rw[hst]at cst
 have HC:=hide (L3 c P.rn h (by have:=P.size;omega))
 clear h P hst
 go_enter func107,ntmps107
 go_wp2_with(go_at_call 128;refine(ae HC).mono ?_;rintro e w1⟨rfl,h1⟩)
 go_ret
 exact⟨rfl,h1⟩
theorem Da(c:Int)(P:Pre w0 aj s c)(hst:s.state=4)(h:Tk w0 aj b s ex w):
  Calls prog 107 #[.pointer (some ⟨b,0,none⟩),.int .i32 c] w fun e w'=>e= .returned (.int .i64 (kb s c).1)∧Tk w0 aj b (kb s c).2 ex w':=by
 have cst:=dv h
 rw[hst]at cst
 have HC:=hide (J0 c P.rn h (by have:=P.size;omega))
 clear h P hst
 go_enter func107,ntmps107
 go_wp2_with(go_at_call 129;refine(ae HC).mono ?_;rintro e w1⟨rfl,h1⟩)
 go_ret
 exact⟨rfl,h1⟩
theorem D9(c:Int)(P:Pre w0 aj s c)(hst:s.state=5)(h:Tk w0 aj b s ex w):
  Calls prog 107 #[.pointer (some ⟨b,0,none⟩),.int .i32 c] w fun e w'=>e= .returned (.int .i64 (mw s c).1)∧Tk w0 aj b (mw s c).2 ex w':=by
 have cst:=dv h
 rw[hst]at cst
 have HC:=hide (Mc c P.rn h (by have:=P.size;omega))
 clear h P hst
 go_enter func107,ntmps107
 go_wp2_with(go_at_call 130;refine(ae HC).mono ?_;rintro e w1⟨rfl,h1⟩)
 go_ret
 exact⟨rfl,h1⟩
theorem A0(c:Int)(P:Pre w0 aj s c)(hst:s.state=6)(h:Tk w0 aj b s ex w):
  Calls prog 107 #[.pointer (some ⟨b,0,none⟩),.int .i32 c] w fun e w'=>e= .returned (.int .i64 (jc s c).1)∧Tk w0 aj b (jc s c).2 ex w':=by
 have cst:=dv h
 rw[hst]at cst
 have HC:=hide (E5 c P.rn h (by have:=P.size;omega))
 clear h P hst
 go_enter func107,ntmps107
 go_wp2_with(go_at_call 131;refine(ae HC).mono ?_;rintro e w1⟨rfl,h1⟩)
 go_ret
 exact⟨rfl,h1⟩
theorem Bd(c:Int)(P:Pre w0 aj s c)(hst:s.state=7)(h:Tk w0 aj b s ex w):
  Calls prog 107 #[.pointer (some ⟨b,0,none⟩),.int .i32 c] w fun e w'=>e= .returned (.int .i64 (jo s c).1)∧Tk w0 aj b (jo s c).2 ex w':=by
 have cst:=dv h
 rw[hst]at cst
 have HC:=hide (Gi c P.rn h (by have:=P.size;omega))
 clear h P hst
 go_enter func107,ntmps107
 go_wp2_with(go_at_call 132;refine(ae HC).mono ?_;rintro e w1⟨rfl,h1⟩)
 go_ret
 exact⟨rfl,h1⟩
theorem Gj(c:Int)(P:Pre w0 aj s c)(hst:s.state=8)(h:Tk w0 aj b s ex w):
  Calls prog 108 #[.pointer (some ⟨b,0,none⟩),.int .i32 c] w fun e w'=>e= .returned (.int .i64 (lu s c).1)∧Tk w0 aj b (lu s c).2 ex w':=by
 have cst:=dv h
 rw[hst]at cst
 have HC:=hide (Nw c P.rn h (by have:=P.size;omega))
 clear h P hst
 go_enter func108,ntmps108
 go_wp2_with(go_at_call 141;refine(ae HC).mono ?_;rintro e w1⟨rfl,h1⟩)
 go_ret
 exact⟨rfl,h1⟩
theorem E7(c:Int)(P:Pre w0 aj s c)(hst:s.state=9)(h:Tk w0 aj b s ex w):
  Calls prog 108 #[.pointer (some ⟨b,0,none⟩),.int .i32 c] w fun e w'=>e= .returned (.int .i64 (ka s c).1)∧Tk w0 aj b (ka s c).2 ex w':=by
 have cst:=dv h
 rw[hst]at cst
 have HC:=hide (L1 c P.rn h (by have:=P.size;omega))
 clear h P hst
 go_enter func108,ntmps108
 go_wp2_with(go_at_call 133;refine(ae HC).mono ?_;rintro e w1⟨rfl,h1⟩)
 go_ret
 exact⟨rfl,h1⟩
theorem E8(c:Int)(P:Pre w0 aj s c)(hst:s.state=10)(h:Tk w0 aj b s ex w):
  Calls prog 108 #[.pointer (some ⟨b,0,none⟩),.int .i32 c] w fun e w'=>e= .returned (.int .i64 (jf s c).1)∧Tk w0 aj b (jf s c).2 ex w':=by
 have cst:=dv h
 rw[hst]at cst
 have HC:=hide (L2 c P.rn (P.Gq (by rw[hst];decide)) h (by have:=P.size;omega))
 clear h P hst
 go_enter func108,ntmps108
 go_wp2_with(go_at_call 134;refine(ae HC).mono ?_;rintro e w1⟨rfl,h1⟩)
 go_ret
 exact⟨rfl,h1⟩
theorem Ea(c:Int)(P:Pre w0 aj s c)(hst:s.state=11)(h:Tk w0 aj b s ex w):
  Calls prog 108 #[.pointer (some ⟨b,0,none⟩),.int .i32 c] w fun e w'=>e= .returned (.int .i64 (iu s c).1)∧Tk w0 aj b (iu s c).2 ex w':=by
 have cst:=dv h
 rw[hst]at cst
 have HC:=hide (Jx c P.rn h (by have:=P.size;omega))
 clear h P hst
 go_enter func108,ntmps108
 go_wp2_with(go_at_call 135;refine(ae HC).mono ?_;rintro e w1⟨rfl,h1⟩)
 go_ret
 exact⟨rfl,h1⟩
theorem Db(c:Int)(P:Pre w0 aj s c)(hst:s.state=12)(h:Tk w0 aj b s ex w):
  Calls prog 108 #[.pointer (some ⟨b,0,none⟩),.int .i32 c] w fun e w'=>e= .returned (.int .i64 (iz s c).1)∧Tk w0 aj b (iz s c).2 ex w':=by
 have cst:=dv h
 rw[hst]at cst
 have HC:=hide (Ic c P.rn h (by have:=P.size;omega))
 clear h P hst
 go_enter func108,ntmps108
 go_wp2_with(go_at_call 136;refine(ae HC).mono ?_;rintro e w1⟨rfl,h1⟩)
 go_ret
 exact⟨rfl,h1⟩
theorem Dc(c:Int)(P:Pre w0 aj s c)(hst:s.state=13)(h:Tk w0 aj b s ex w):
  Calls prog 108 #[.pointer (some ⟨b,0,none⟩),.int .i32 c] w fun e w'=>e= .returned (.int .i64 (jm s c).1)∧Tk w0 aj b (jm s c).2 ex w':=by
 have cst:=dv h
 rw[hst]at cst
 have HC:=hide (Id c P.rn (P.Gq (by rw[hst];decide)) h (by have:=P.size;omega))
 clear h P hst
 go_enter func108,ntmps108
 go_wp2_with(go_at_call 137;refine(ae HC).mono ?_;rintro e w1⟨rfl,h1⟩)
 go_ret
 exact⟨rfl,h1⟩
theorem Dd(c:Int)(P:Pre w0 aj s c)(hst:s.state=14)(h:Tk w0 aj b s ex w):
  Calls prog 108 #[.pointer (some ⟨b,0,none⟩),.int .i32 c] w fun e w'=>e= .returned (.int .i64 (jn s c).1)∧Tk w0 aj b (jn s c).2 ex w':=by
 have cst:=dv h
 rw[hst]at cst
 have HC:=hide (Ie c P.rn (P.Gq (by rw[hst];decide)) h (by have:=P.size;omega))
 clear h P hst
 go_enter func108,ntmps108
 go_wp2_with(go_at_call 137;refine(ae HC).mono ?_;rintro e w1⟨rfl,h1⟩)
 go_ret
 exact⟨rfl,h1⟩
theorem Eb(c:Int)(P:Pre w0 aj s c)(hst:s.state=15)(h:Tk w0 aj b s ex w):
  Calls prog 108 #[.pointer (some ⟨b,0,none⟩),.int .i32 c] w fun e w'=>e= .returned (.int .i64 (f8 s c).1)∧Tk w0 aj b (f8 s c).2 ex w':=by
 have cst:=dv h
 rw[hst]at cst
 have HC:=hide (Jy c P.rn (P.Gq (by rw[hst];decide)) h (by have:=P.size;omega))
 clear h P hst
 go_enter func108,ntmps108
 go_wp2_with(go_at_call 138;refine(ae HC).mono ?_;rintro e w1⟨rfl,h1⟩)
 go_ret
 exact⟨rfl,h1⟩
theorem Ec(c:Int)(P:Pre w0 aj s c)(hst:s.state=16)(h:Tk w0 aj b s ex w):
  Calls prog 108 #[.pointer (some ⟨b,0,none⟩),.int .i32 c] w fun e w'=>e= .returned (.int .i64 (jr s c).1)∧Tk w0 aj b (jr s c).2 ex w':=by
 have cst:=dv h
 rw[hst]at cst
 have HC:=hide (Jz c P.rn h (by have:=P.size;omega))
 clear h P hst
 go_enter func108,ntmps108
 go_wp2_with(go_at_call 139;refine(ae HC).mono ?_;rintro e w1⟨rfl,h1⟩)
 go_ret
 exact⟨rfl,h1⟩
theorem E9(c:Int)(P:Pre w0 aj s c)(hst:s.state=17)(h:Tk w0 aj b s ex w):
  Calls prog 108 #[.pointer (some ⟨b,0,none⟩),.int .i32 c] w fun e w'=>e= .returned (.int .i64 (lq s c).1)∧Tk w0 aj b (lq s c).2 ex w':=by
 have cst:=dv h
 rw[hst]at cst
 have HC:=hide (L0 c P.rn h (by have:=P.size;omega))
 clear h P hst
 go_enter func108,ntmps108
 go_wp2_with(go_at_call 140;refine(ae HC).mono ?_;rintro e w1⟨rfl,h1⟩)
 go_ret
 exact⟨rfl,h1⟩
theorem By(c:Int)(P:Pre w0 aj s c)(hst:s.state=18)(h:Tk w0 aj b s ex w):
  Calls prog 109 #[.pointer (some ⟨b,0,none⟩),.int .i32 c] w fun e w'=>e= .returned (.int .i64 (lz s c).1)∧Tk w0 aj b (lz s c).2 ex w':=by
 have cst:=dv h
 rw[hst]at cst
 have HC:=hide (Me c P.rn P.base P.decl P.E0 P.E1 h (by have:=P.size;omega))
 clear h P hst
 go_enter func109,ntmps109
 go_wp2_with(go_at_call 142;refine(ae HC).mono ?_;rintro e w1⟨rfl,h1⟩)
 go_ret
 exact⟨rfl,h1⟩
theorem Be(c:Int)(P:Pre w0 aj s c)(hst:s.state=19)(h:Tk w0 aj b s ex w):
  Calls prog 109 #[.pointer (some ⟨b,0,none⟩),.int .i32 c] w fun e w'=>e= .returned (.int .i64 (mo s c).1)∧Tk w0 aj b (mo s c).2 ex w':=by
 have cst:=dv h
 rw[hst]at cst
 have HC:=hide (Ji c P.rn h (by have:=P.size;omega))
 clear h P hst
 go_enter func109,ntmps109
 go_wp2_with(go_at_call 143;refine(ae HC).mono ?_;rintro e w1⟨rfl,h1⟩)
 go_ret
 exact⟨rfl,h1⟩
theorem Bf(c:Int)(P:Pre w0 aj s c)(hst:s.state=20)(h:Tk w0 aj b s ex w):
  Calls prog 109 #[.pointer (some ⟨b,0,none⟩),.int .i32 c] w fun e w'=>e= .returned (.int .i64 (kn s c).1)∧Tk w0 aj b (kn s c).2 ex w':=by
 have cst:=dv h
 rw[hst]at cst
 have HC:=hide (Jj c P.rn h (by have:=P.size;omega))
 clear h P hst
 go_enter func109,ntmps109
 go_wp2_with(go_at_call 144;refine(ae HC).mono ?_;rintro e w1⟨rfl,h1⟩)
 go_ret
 exact⟨rfl,h1⟩
theorem zg(c:Int)(P:Pre w0 aj s c)(hst:s.state=21)(h:Tk w0 aj b s ex w):
  Calls prog 109 #[.pointer (some ⟨b,0,none⟩),.int .i32 c] w fun e w'=>e= .returned (.int .i64 (ik s c).1)∧Tk w0 aj b (ik s c).2 ex w':=by
 have cst:=dv h
 rw[hst]at cst
 have HC:=hide (Ej c P.rn h (by have:=P.size;omega))
 clear h P hst
 go_enter func109,ntmps109
 go_wp2_with(go_at_call 145;refine(ae HC).mono ?_;rintro e w1⟨rfl,h1⟩)
 go_ret
 exact⟨rfl,h1⟩
theorem Aa(c:Int)(P:Pre w0 aj s c)(hst:s.state=22)(h:Tk w0 aj b s ex w):
  Calls prog 109 #[.pointer (some ⟨b,0,none⟩),.int .i32 c] w fun e w'=>e= .returned (.int .i64 (jh s c).1)∧Tk w0 aj b (jh s c).2 ex w':=by
 have cst:=dv h
 rw[hst]at cst
 have HC:=hide (G7 c P.rn h (by have:=P.size;omega))
 clear h P hst
 go_enter func109,ntmps109
 go_wp2_with(go_at_call 149;refine(ae HC).mono ?_;rintro e w1⟨rfl,h1⟩)
 go_ret
 exact⟨rfl,h1⟩
theorem Bz(c:Int)(P:Pre w0 aj s c)(hst:s.state=23)(h:Tk w0 aj b s ex w):
  Calls prog 109 #[.pointer (some ⟨b,0,none⟩),.int .i32 c] w fun e w'=>e= .returned (.int .i64 (dk s c).1)∧Tk w0 aj b (dk s c).2 ex w':=by
 have cst:=dv h
 rw[hst]at cst
 have HC:=hide (Du c P.rn h (by have:=P.size;omega))
 clear h P hst
 go_enter func109,ntmps109
 go_wp2_with(go_at_call 146;refine(ae HC).mono ?_;rintro e w1⟨rfl,h1⟩)
 go_ret
 exact⟨rfl,h1⟩
theorem A1(c:Int)(P:Pre w0 aj s c)(hst:s.state=24)(h:Tk w0 aj b s ex w):
  Calls prog 109 #[.pointer (some ⟨b,0,none⟩),.int .i32 c] w fun e w'=>e= .returned (.int .i64 (iw s c).1)∧Tk w0 aj b (iw s c).2 ex w':=by
 have cst:=dv h
 rw[hst]at cst
 have HC:=hide (Hz c P.rn h (by have:=P.size;omega))
 clear h P hst
 go_enter func109,ntmps109
 go_wp2_with(go_at_call 147;refine(ae HC).mono ?_;rintro e w1⟨rfl,h1⟩)
 go_ret
 exact⟨rfl,h1⟩
theorem B0(c:Int)(P:Pre w0 aj s c)(hst:s.state=25)(h:Tk w0 aj b s ex w):
  Calls prog 109 #[.pointer (some ⟨b,0,none⟩),.int .i32 c] w fun e w'=>e= .returned (.int .i64 (lf s c).1)∧Tk w0 aj b (lf s c).2 ex w':=by
 have cst:=dv h
 rw[hst]at cst
 have HC:=hide (Lr c P.rn h (by have:=P.size;omega))
 clear h P hst
 go_enter func109,ntmps109
 go_wp2_with(go_at_call 148;refine(ae HC).mono ?_;rintro e w1⟨rfl,h1⟩)
 go_ret
 exact⟨rfl,h1⟩
theorem Ab(c:Int)(P:Pre w0 aj s c)(hst:s.state=26)(h:Tk w0 aj b s ex w):
  Calls prog 110 #[.pointer (some ⟨b,0,none⟩),.int .i32 c] w fun e w'=>e= .returned (.int .i64 (ix s c).1)∧Tk w0 aj b (ix s c).2 ex w':=by
 have cst:=dv h
 rw[hst]at cst
 have HC:=hide (G8 c P.rn h (by have:=P.size;omega))
 clear h P hst
 go_enter func110,ntmps110
 go_wp2_with(go_at_call 154;refine(ae HC).mono ?_;rintro e w1⟨rfl,h1⟩)
 go_ret
 exact⟨rfl,h1⟩
theorem B2(c:Int)(P:Pre w0 aj s c)(hst:s.state=27)(h:Tk w0 aj b s ex w):
  Calls prog 110 #[.pointer (some ⟨b,0,none⟩),.int .i32 c] w fun e w'=>e= .returned (.int .i64 (ki s c).1)∧Tk w0 aj b (ki s c).2 ex w':=by
 have cst:=dv h
 rw[hst]at cst
 have HC:=hide (Ls c P.rn h (by have:=P.size;omega))
 clear h P hst
 go_enter func110,ntmps110
 go_wp2_with(go_at_call 150;refine(ae HC).mono ?_;rintro e w1⟨rfl,h1⟩)
 go_ret
 exact⟨rfl,h1⟩
theorem zr(c:Int)(P:Pre w0 aj s c)(hst:s.state=28)(h:Tk w0 aj b s ex w):
  Calls prog 110 #[.pointer (some ⟨b,0,none⟩),.int .i32 c] w fun e w'=>e= .returned (.int .i64 (g8 s c).1)∧Tk w0 aj b (g8 s c).2 ex w':=by
 have cst:=dv h
 rw[hst]at cst
 have HC:=hide (Gf c P.rn h (by have:=P.size;omega))
 clear h P hst
 go_enter func110,ntmps110
 go_wp2_with(go_at_call 151;refine(ae HC).mono ?_;rintro e w1⟨rfl,h1⟩)
 go_ret
 exact⟨rfl,h1⟩
theorem Ac(c:Int)(P:Pre w0 aj s c)(hst:s.state=29)(h:Tk w0 aj b s ex w):
  Calls prog 110 #[.pointer (some ⟨b,0,none⟩),.int .i32 c] w fun e w'=>e= .returned (.int .i64 (iy s c).1)∧Tk w0 aj b (iy s c).2 ex w':=by
 have cst:=dv h
 rw[hst]at cst
 have HC:=hide (G9 c P.rn h (by have:=P.size;omega))
 clear h P hst
 go_enter func110,ntmps110
 go_wp2_with(go_at_call 152;refine(ae HC).mono ?_;rintro e w1⟨rfl,h1⟩)
 go_ret
 exact⟨rfl,h1⟩
theorem zt(c:Int)(P:Pre w0 aj s c)(hst:s.state=30)(h:Tk w0 aj b s ex w):
  Calls prog 110 #[.pointer (some ⟨b,0,none⟩),.int .i32 c] w fun e w'=>e= .returned (.int .i64 (g9 s c).1)∧Tk w0 aj b (g9 s c).2 ex w':=by
 have cst:=dv h
 rw[hst]at cst
 have HC:=hide (Gg c P.rn h (by have:=P.size;omega))
 clear h P hst
 go_enter func110,ntmps110
 go_wp2_with(go_at_call 153;refine(ae HC).mono ?_;rintro e w1⟨rfl,h1⟩)
 go_ret
 exact⟨rfl,h1⟩
theorem Bg(c:Int)(P:Pre w0 aj s c)(hst:s.state=31)(h:Tk w0 aj b s ex w):
  Calls prog 111 #[.pointer (some ⟨b,0,none⟩),.int .i32 c] w fun e w'=>e= .returned (.int .i64 (np s c).1)∧Tk w0 aj b (np s c).2 ex w':=by
 have cst:=dv h
 rw[hst]at cst
 have HC:=hide (N5 c P.rn (P.ref (by rw[hst];decide)) h (by have:=P.size;omega))
 clear h P hst
 go_enter func111,ntmps111
 go_wp2_with(go_at_call 159;refine(ae HC).mono ?_;rintro e w1⟨rfl,h1⟩)
 go_ret
 exact⟨rfl,h1⟩
theorem zh(c:Int)(P:Pre w0 aj s c)(hst:s.state=32)(h:Tk w0 aj b s ex w):
  Calls prog 111 #[.pointer (some ⟨b,0,none⟩),.int .i32 c] w fun e w'=>e= .returned (.int .i64 (jv s c).1)∧Tk w0 aj b (jv s c).2 ex w':=by
 have cst:=dv h
 rw[hst]at cst
 have HC:=hide (Hg c P.rn P.base (P.ref (by rw[hst];decide)) h (by have:=P.size;omega))
 clear h P hst
 go_enter func111,ntmps111
 go_wp2_with(go_at_call 155;refine(ae HC).mono ?_;rintro e w1⟨rfl,h1⟩)
 go_ret
 exact⟨rfl,h1⟩
theorem x7(c:Int)(P:Pre w0 aj s c)(hst:s.state=33)(h:Tk w0 aj b s ex w):
  Calls prog 111 #[.pointer (some ⟨b,0,none⟩),.int .i32 c] w fun e w'=>e= .returned (.int .i64 (gp s c).1)∧Tk w0 aj b (gp s c).2 ex w':=by
 have cst:=dv h
 rw[hst]at cst
 have HC:=hide (D7 c P.rn (P.ref (by rw[hst];decide)) h (by have:=P.size;omega))
 clear h P hst
 go_enter func111,ntmps111
 go_wp2_with(go_at_call 156;refine(ae HC).mono ?_;rintro e w1⟨rfl,h1⟩)
 go_ret
 exact⟨rfl,h1⟩
theorem zi(c:Int)(P:Pre w0 aj s c)(hst:s.state=34)(h:Tk w0 aj b s ex w):
  Calls prog 111 #[.pointer (some ⟨b,0,none⟩),.int .i32 c] w fun e w'=>e= .returned (.int .i64 (lc s c).1)∧Tk w0 aj b (lc s c).2 ex w':=by
 have cst:=dv h
 rw[hst]at cst
 have HC:=hide (Hd c P.rn (P.ref (by rw[hst];decide)) h (by have:=P.size;omega))
 clear h P hst
 go_enter func111,ntmps111
 go_wp2_with(go_at_call 157;refine(ae HC).mono ?_;rintro e w1⟨rfl,h1⟩)
 go_ret
 exact⟨rfl,h1⟩
theorem yi(c:Int)(P:Pre w0 aj s c)(hst:s.state=35)(h:Tk w0 aj b s ex w):
  Calls prog 111 #[.pointer (some ⟨b,0,none⟩),.int .i32 c] w fun e w'=>e= .returned (.int .i64 (il s c).1)∧Tk w0 aj b (il s c).2 ex w':=by
 have cst:=dv h
 rw[hst]at cst
 have HC:=hide (E2 c P.rn P.base (P.ref (by rw[hst];decide)) h (by have:=P.size;omega))
 clear h P hst
 go_enter func111,ntmps111
 go_wp2_with(go_at_call 158;refine(ae HC).mono ?_;rintro e w1⟨rfl,h1⟩)
 go_ret
 exact⟨rfl,h1⟩
end
section
variable{w0:World}{aj:Nat→Prop}{b:Nat}{s:TS}{ex:List Item}{w:World}{R:n9}
theorem X0(c:Int)(P:Pre w0 aj s c)(hst:s.state=3)(h:Tk w0 aj b s ex w):
  Calls prog 89 #[.pointer (some ⟨b,0,none⟩),.int .i32 c] w fun e w'=>e= .returned (.int .i64 (ju s c).1)∧Tk w0 aj b (ju s c).2 ex w':=by
 have cst:=dv h
 rw[hst]at cst
 have HC:=hide (D8 c P hst h)
 clear h P hst
 go_enter func89,ntmps89
 go_wp2_with(go_at_call 107;refine(ae HC).mono ?_;rintro e w1⟨rfl,h1⟩)
 go_ret
 exact⟨rfl,h1⟩
theorem U9(c:Int)(P:Pre w0 aj s c)(hst:s.state=4)(h:Tk w0 aj b s ex w):
  Calls prog 89 #[.pointer (some ⟨b,0,none⟩),.int .i32 c] w fun e w'=>e= .returned (.int .i64 (kb s c).1)∧Tk w0 aj b (kb s c).2 ex w':=by
 have cst:=dv h
 rw[hst]at cst
 have HC:=hide (Da c P hst h)
 clear h P hst
 go_enter func89,ntmps89
 go_wp2_with(go_at_call 107;refine(ae HC).mono ?_;rintro e w1⟨rfl,h1⟩)
 go_ret
 exact⟨rfl,h1⟩
theorem X6(c:Int)(P:Pre w0 aj s c)(hst:s.state=5)(h:Tk w0 aj b s ex w):
  Calls prog 89 #[.pointer (some ⟨b,0,none⟩),.int .i32 c] w fun e w'=>e= .returned (.int .i64 (mw s c).1)∧Tk w0 aj b (mw s c).2 ex w':=by
 have cst:=dv h
 rw[hst]at cst
 have HC:=hide (D9 c P hst h)
 clear h P hst
 go_enter func89,ntmps89
 go_wp2_with(go_at_call 107;refine(ae HC).mono ?_;rintro e w1⟨rfl,h1⟩)
 go_ret
 exact⟨rfl,h1⟩
theorem J4(c:Int)(P:Pre w0 aj s c)(hst:s.state=6)(h:Tk w0 aj b s ex w):
  Calls prog 89 #[.pointer (some ⟨b,0,none⟩),.int .i32 c] w fun e w'=>e= .returned (.int .i64 (jc s c).1)∧Tk w0 aj b (jc s c).2 ex w':=by
 have cst:=dv h
 rw[hst]at cst
 have HC:=hide (A0 c P hst h)
 clear h P hst
 go_enter func89,ntmps89
 go_wp2_with(go_at_call 107;refine(ae HC).mono ?_;rintro e w1⟨rfl,h1⟩)
 go_ret
 exact⟨rfl,h1⟩
theorem Mf(c:Int)(P:Pre w0 aj s c)(hst:s.state=7)(h:Tk w0 aj b s ex w):
  Calls prog 89 #[.pointer (some ⟨b,0,none⟩),.int .i32 c] w fun e w'=>e= .returned (.int .i64 (jo s c).1)∧Tk w0 aj b (jo s c).2 ex w':=by
 have cst:=dv h
 rw[hst]at cst
 have HC:=hide (Bd c P hst h)
 clear h P hst
 go_enter func89,ntmps89
 go_wp2_with(go_at_call 107;refine(ae HC).mono ?_;rintro e w1⟨rfl,h1⟩)
 go_ret
 exact⟨rfl,h1⟩
theorem zbc(c:Int)(P:Pre w0 aj s c)(hst:s.state=8)(h:Tk w0 aj b s ex w):
  Calls prog 89 #[.pointer (some ⟨b,0,none⟩),.int .i32 c] w fun e w'=>e= .returned (.int .i64 (lu s c).1)∧Tk w0 aj b (lu s c).2 ex w':=by
 have cst:=dv h
 rw[hst]at cst
 have HC:=hide (Gj c P hst h)
 clear h P hst
 go_enter func89,ntmps89
 go_wp2_with(go_at_call 108;refine(ae HC).mono ?_;rintro e w1⟨rfl,h1⟩)
 go_ret
 exact⟨rfl,h1⟩
theorem X7(c:Int)(P:Pre w0 aj s c)(hst:s.state=9)(h:Tk w0 aj b s ex w):
  Calls prog 89 #[.pointer (some ⟨b,0,none⟩),.int .i32 c] w fun e w'=>e= .returned (.int .i64 (ka s c).1)∧Tk w0 aj b (ka s c).2 ex w':=by
 have cst:=dv h
 rw[hst]at cst
 have HC:=hide (E7 c P hst h)
 clear h P hst
 go_enter func89,ntmps89
 go_wp2_with(go_at_call 108;refine(ae HC).mono ?_;rintro e w1⟨rfl,h1⟩)
 go_ret
 exact⟨rfl,h1⟩
theorem X8(c:Int)(P:Pre w0 aj s c)(hst:s.state=10)(h:Tk w0 aj b s ex w):
  Calls prog 89 #[.pointer (some ⟨b,0,none⟩),.int .i32 c] w fun e w'=>e= .returned (.int .i64 (jf s c).1)∧Tk w0 aj b (jf s c).2 ex w':=by
 have cst:=dv h
 rw[hst]at cst
 have HC:=hide (E8 c P hst h)
 clear h P hst
 go_enter func89,ntmps89
 go_wp2_with(go_at_call 108;refine(ae HC).mono ?_;rintro e w1⟨rfl,h1⟩)
 go_ret
 exact⟨rfl,h1⟩
theorem Va(c:Int)(P:Pre w0 aj s c)(hst:s.state=11)(h:Tk w0 aj b s ex w):
  Calls prog 89 #[.pointer (some ⟨b,0,none⟩),.int .i32 c] w fun e w'=>e= .returned (.int .i64 (iu s c).1)∧Tk w0 aj b (iu s c).2 ex w':=by
 have cst:=dv h
 rw[hst]at cst
 have HC:=hide (Ea c P hst h)
 clear h P hst
 go_enter func89,ntmps89
 go_wp2_with(go_at_call 108;refine(ae HC).mono ?_;rintro e w1⟨rfl,h1⟩)
 go_ret
 exact⟨rfl,h1⟩
theorem Rh(c:Int)(P:Pre w0 aj s c)(hst:s.state=12)(h:Tk w0 aj b s ex w):
  Calls prog 89 #[.pointer (some ⟨b,0,none⟩),.int .i32 c] w fun e w'=>e= .returned (.int .i64 (iz s c).1)∧Tk w0 aj b (iz s c).2 ex w':=by
 have cst:=dv h
 rw[hst]at cst
 have HC:=hide (Db c P hst h)
 clear h P hst
 go_enter func89,ntmps89
 go_wp2_with(go_at_call 108;refine(ae HC).mono ?_;rintro e w1⟨rfl,h1⟩)
 go_ret
 exact⟨rfl,h1⟩
theorem Ri(c:Int)(P:Pre w0 aj s c)(hst:s.state=13)(h:Tk w0 aj b s ex w):
  Calls prog 89 #[.pointer (some ⟨b,0,none⟩),.int .i32 c] w fun e w'=>e= .returned (.int .i64 (jm s c).1)∧Tk w0 aj b (jm s c).2 ex w':=by
 have cst:=dv h
 rw[hst]at cst
 have HC:=hide (Dc c P hst h)
 clear h P hst
 go_enter func89,ntmps89
 go_wp2_with(go_at_call 108;refine(ae HC).mono ?_;rintro e w1⟨rfl,h1⟩)
 go_ret
 exact⟨rfl,h1⟩
theorem Rj(c:Int)(P:Pre w0 aj s c)(hst:s.state=14)(h:Tk w0 aj b s ex w):
  Calls prog 89 #[.pointer (some ⟨b,0,none⟩),.int .i32 c] w fun e w'=>e= .returned (.int .i64 (jn s c).1)∧Tk w0 aj b (jn s c).2 ex w':=by
 have cst:=dv h
 rw[hst]at cst
 have HC:=hide (Dd c P hst h)
 clear h P hst
 go_enter func89,ntmps89
 go_wp2_with(go_at_call 108;refine(ae HC).mono ?_;rintro e w1⟨rfl,h1⟩)
 go_ret
 exact⟨rfl,h1⟩
theorem Vb(c:Int)(P:Pre w0 aj s c)(hst:s.state=15)(h:Tk w0 aj b s ex w):
  Calls prog 89 #[.pointer (some ⟨b,0,none⟩),.int .i32 c] w fun e w'=>e= .returned (.int .i64 (f8 s c).1)∧Tk w0 aj b (f8 s c).2 ex w':=by
 have cst:=dv h
 rw[hst]at cst
 have HC:=hide (Eb c P hst h)
 clear h P hst
 go_enter func89,ntmps89
 go_wp2_with(go_at_call 108;refine(ae HC).mono ?_;rintro e w1⟨rfl,h1⟩)
 go_ret
 exact⟨rfl,h1⟩
theorem Vc(c:Int)(P:Pre w0 aj s c)(hst:s.state=16)(h:Tk w0 aj b s ex w):
  Calls prog 89 #[.pointer (some ⟨b,0,none⟩),.int .i32 c] w fun e w'=>e= .returned (.int .i64 (jr s c).1)∧Tk w0 aj b (jr s c).2 ex w':=by
 have cst:=dv h
 rw[hst]at cst
 have HC:=hide (Ec c P hst h)
 clear h P hst
 go_enter func89,ntmps89
 go_wp2_with(go_at_call 108;refine(ae HC).mono ?_;rintro e w1⟨rfl,h1⟩)
 go_ret
 exact⟨rfl,h1⟩
theorem X9(c:Int)(P:Pre w0 aj s c)(hst:s.state=17)(h:Tk w0 aj b s ex w):
  Calls prog 89 #[.pointer (some ⟨b,0,none⟩),.int .i32 c] w fun e w'=>e= .returned (.int .i64 (lq s c).1)∧Tk w0 aj b (lq s c).2 ex w':=by
 have cst:=dv h
 rw[hst]at cst
 have HC:=hide (E9 c P hst h)
 clear h P hst
 go_enter func89,ntmps89
 go_wp2_with(go_at_call 108;refine(ae HC).mono ?_;rintro e w1⟨rfl,h1⟩)
 go_ret
 exact⟨rfl,h1⟩
theorem Ya(c:Int)(P:Pre w0 aj s c)(hst:s.state=18)(h:Tk w0 aj b s ex w):
  Calls prog 89 #[.pointer (some ⟨b,0,none⟩),.int .i32 c] w fun e w'=>e= .returned (.int .i64 (lz s c).1)∧Tk w0 aj b (lz s c).2 ex w':=by
 have cst:=dv h
 rw[hst]at cst
 have HC:=hide (By c P hst h)
 clear h P hst
 go_enter func89,ntmps89
 go_wp2_with(go_at_call 109;refine(ae HC).mono ?_;rintro e w1⟨rfl,h1⟩)
 go_ret
 exact⟨rfl,h1⟩
theorem Vd(c:Int)(P:Pre w0 aj s c)(hst:s.state=19)(h:Tk w0 aj b s ex w):
  Calls prog 89 #[.pointer (some ⟨b,0,none⟩),.int .i32 c] w fun e w'=>e= .returned (.int .i64 (mo s c).1)∧Tk w0 aj b (mo s c).2 ex w':=by
 have cst:=dv h
 rw[hst]at cst
 have HC:=hide (Be c P hst h)
 clear h P hst
 go_enter func89,ntmps89
 go_wp2_with(go_at_call 109;refine(ae HC).mono ?_;rintro e w1⟨rfl,h1⟩)
 go_ret
 exact⟨rfl,h1⟩
theorem Ve(c:Int)(P:Pre w0 aj s c)(hst:s.state=20)(h:Tk w0 aj b s ex w):
  Calls prog 89 #[.pointer (some ⟨b,0,none⟩),.int .i32 c] w fun e w'=>e= .returned (.int .i64 (kn s c).1)∧Tk w0 aj b (kn s c).2 ex w':=by
 have cst:=dv h
 rw[hst]at cst
 have HC:=hide (Bf c P hst h)
 clear h P hst
 go_enter func89,ntmps89
 go_wp2_with(go_at_call 109;refine(ae HC).mono ?_;rintro e w1⟨rfl,h1⟩)
 go_ret
 exact⟨rfl,h1⟩
theorem J5(c:Int)(P:Pre w0 aj s c)(hst:s.state=21)(h:Tk w0 aj b s ex w):
  Calls prog 89 #[.pointer (some ⟨b,0,none⟩),.int .i32 c] w fun e w'=>e= .returned (.int .i64 (ik s c).1)∧Tk w0 aj b (ik s c).2 ex w':=by
 have cst:=dv h
 rw[hst]at cst
 have HC:=hide (zg c P hst h)
 clear h P hst
 go_enter func89,ntmps89
 go_wp2_with(go_at_call 109;refine(ae HC).mono ?_;rintro e w1⟨rfl,h1⟩)
 go_ret
 exact⟨rfl,h1⟩
theorem Oa(c:Int)(P:Pre w0 aj s c)(hst:s.state=22)(h:Tk w0 aj b s ex w):
  Calls prog 89 #[.pointer (some ⟨b,0,none⟩),.int .i32 c] w fun e w'=>e= .returned (.int .i64 (jh s c).1)∧Tk w0 aj b (jh s c).2 ex w':=by
 have cst:=dv h
 rw[hst]at cst
 have HC:=hide (Aa c P hst h)
 clear h P hst
 go_enter func89,ntmps89
 go_wp2_with(go_at_call 109;refine(ae HC).mono ?_;rintro e w1⟨rfl,h1⟩)
 go_ret
 exact⟨rfl,h1⟩
theorem Yb(c:Int)(P:Pre w0 aj s c)(hst:s.state=23)(h:Tk w0 aj b s ex w):
  Calls prog 89 #[.pointer (some ⟨b,0,none⟩),.int .i32 c] w fun e w'=>e= .returned (.int .i64 (dk s c).1)∧Tk w0 aj b (dk s c).2 ex w':=by
 have cst:=dv h
 rw[hst]at cst
 have HC:=hide (Bz c P hst h)
 clear h P hst
 go_enter func89,ntmps89
 go_wp2_with(go_at_call 109;refine(ae HC).mono ?_;rintro e w1⟨rfl,h1⟩)
 go_ret
 exact⟨rfl,h1⟩
theorem Rk(c:Int)(P:Pre w0 aj s c)(hst:s.state=24)(h:Tk w0 aj b s ex w):
  Calls prog 89 #[.pointer (some ⟨b,0,none⟩),.int .i32 c] w fun e w'=>e= .returned (.int .i64 (iw s c).1)∧Tk w0 aj b (iw s c).2 ex w':=by
 have cst:=dv h
 rw[hst]at cst
 have HC:=hide (A1 c P hst h)
 clear h P hst
 go_enter func89,ntmps89
 go_wp2_with(go_at_call 109;refine(ae HC).mono ?_;rintro e w1⟨rfl,h1⟩)
 go_ret
 exact⟨rfl,h1⟩
theorem Yc(c:Int)(P:Pre w0 aj s c)(hst:s.state=25)(h:Tk w0 aj b s ex w):
  Calls prog 89 #[.pointer (some ⟨b,0,none⟩),.int .i32 c] w fun e w'=>e= .returned (.int .i64 (lf s c).1)∧Tk w0 aj b (lf s c).2 ex w':=by
 have cst:=dv h
 rw[hst]at cst
 have HC:=hide (B0 c P hst h)
 clear h P hst
 go_enter func89,ntmps89
 go_wp2_with(go_at_call 109;refine(ae HC).mono ?_;rintro e w1⟨rfl,h1⟩)
 go_ret
 exact⟨rfl,h1⟩
theorem Ob(c:Int)(P:Pre w0 aj s c)(hst:s.state=26)(h:Tk w0 aj b s ex w):
  Calls prog 89 #[.pointer (some ⟨b,0,none⟩),.int .i32 c] w fun e w'=>e= .returned (.int .i64 (ix s c).1)∧Tk w0 aj b (ix s c).2 ex w':=by
 have cst:=dv h
 rw[hst]at cst
 have HC:=hide (Ab c P hst h)
 clear h P hst
 go_enter func89,ntmps89
 go_wp2_with(go_at_call 110;refine(ae HC).mono ?_;rintro e w1⟨rfl,h1⟩)
 go_ret
 exact⟨rfl,h1⟩
theorem Yd(c:Int)(P:Pre w0 aj s c)(hst:s.state=27)(h:Tk w0 aj b s ex w):
  Calls prog 89 #[.pointer (some ⟨b,0,none⟩),.int .i32 c] w fun e w'=>e= .returned (.int .i64 (ki s c).1)∧Tk w0 aj b (ki s c).2 ex w':=by
 have cst:=dv h
 rw[hst]at cst
 have HC:=hide (B2 c P hst h)
 clear h P hst
 go_enter func89,ntmps89
 go_wp2_with(go_at_call 110;refine(ae HC).mono ?_;rintro e w1⟨rfl,h1⟩)
 go_ret
 exact⟨rfl,h1⟩
theorem Mg(c:Int)(P:Pre w0 aj s c)(hst:s.state=28)(h:Tk w0 aj b s ex w):
  Calls prog 89 #[.pointer (some ⟨b,0,none⟩),.int .i32 c] w fun e w'=>e= .returned (.int .i64 (g8 s c).1)∧Tk w0 aj b (g8 s c).2 ex w':=by
 have cst:=dv h
 rw[hst]at cst
 have HC:=hide (zr c P hst h)
 clear h P hst
 go_enter func89,ntmps89
 go_wp2_with(go_at_call 110;refine(ae HC).mono ?_;rintro e w1⟨rfl,h1⟩)
 go_ret
 exact⟨rfl,h1⟩
theorem Oc(c:Int)(P:Pre w0 aj s c)(hst:s.state=29)(h:Tk w0 aj b s ex w):
  Calls prog 89 #[.pointer (some ⟨b,0,none⟩),.int .i32 c] w fun e w'=>e= .returned (.int .i64 (iy s c).1)∧Tk w0 aj b (iy s c).2 ex w':=by
 have cst:=dv h
 rw[hst]at cst
 have HC:=hide (Ac c P hst h)
 clear h P hst
 go_enter func89,ntmps89
 go_wp2_with(go_at_call 110;refine(ae HC).mono ?_;rintro e w1⟨rfl,h1⟩)
 go_ret
 exact⟨rfl,h1⟩
theorem Mh(c:Int)(P:Pre w0 aj s c)(hst:s.state=30)(h:Tk w0 aj b s ex w):
  Calls prog 89 #[.pointer (some ⟨b,0,none⟩),.int .i32 c] w fun e w'=>e= .returned (.int .i64 (g9 s c).1)∧Tk w0 aj b (g9 s c).2 ex w':=by
 have cst:=dv h
 rw[hst]at cst
 have HC:=hide (zt c P hst h)
 clear h P hst
 go_enter func89,ntmps89
 go_wp2_with(go_at_call 110;refine(ae HC).mono ?_;rintro e w1⟨rfl,h1⟩)
 go_ret
 exact⟨rfl,h1⟩
theorem zbd(c:Int)(P:Pre w0 aj s c)(hst:s.state=31)(h:Tk w0 aj b s ex w):
  Calls prog 89 #[.pointer (some ⟨b,0,none⟩),.int .i32 c] w fun e w'=>e= .returned (.int .i64 (np s c).1)∧Tk w0 aj b (np s c).2 ex w':=by
 have cst:=dv h
 rw[hst]at cst
 have HC:=hide (Bg c P hst h)
 clear h P hst
 go_enter func89,ntmps89
 go_wp2_with(go_at_call 111;refine(ae HC).mono ?_;rintro e w1⟨rfl,h1⟩)
 go_ret
 exact⟨rfl,h1⟩
theorem Od(c:Int)(P:Pre w0 aj s c)(hst:s.state=32)(h:Tk w0 aj b s ex w):
  Calls prog 89 #[.pointer (some ⟨b,0,none⟩),.int .i32 c] w fun e w'=>e= .returned (.int .i64 (jv s c).1)∧Tk w0 aj b (jv s c).2 ex w':=by
 have cst:=dv h
 rw[hst]at cst
 have HC:=hide (zh c P hst h)
 clear h P hst
 go_enter func89,ntmps89
 go_wp2_with(go_at_call 111;refine(ae HC).mono ?_;rintro e w1⟨rfl,h1⟩)
 go_ret
 exact⟨rfl,h1⟩
theorem Im(c:Int)(P:Pre w0 aj s c)(hst:s.state=33)(h:Tk w0 aj b s ex w):
  Calls prog 89 #[.pointer (some ⟨b,0,none⟩),.int .i32 c] w fun e w'=>e= .returned (.int .i64 (gp s c).1)∧Tk w0 aj b (gp s c).2 ex w':=by
 have cst:=dv h
 rw[hst]at cst
 have HC:=hide (x7 c P hst h)
 clear h P hst
 go_enter func89,ntmps89
 go_wp2_with(go_at_call 111;refine(ae HC).mono ?_;rintro e w1⟨rfl,h1⟩)
 go_ret
 exact⟨rfl,h1⟩
theorem Oe(c:Int)(P:Pre w0 aj s c)(hst:s.state=34)(h:Tk w0 aj b s ex w):
  Calls prog 89 #[.pointer (some ⟨b,0,none⟩),.int .i32 c] w fun e w'=>e= .returned (.int .i64 (lc s c).1)∧Tk w0 aj b (lc s c).2 ex w':=by
 have cst:=dv h
 rw[hst]at cst
 have HC:=hide (zi c P hst h)
 clear h P hst
 go_enter func89,ntmps89
 go_wp2_with(go_at_call 111;refine(ae HC).mono ?_;rintro e w1⟨rfl,h1⟩)
 go_ret
 exact⟨rfl,h1⟩
theorem J6(c:Int)(P:Pre w0 aj s c)(hst:s.state=35)(h:Tk w0 aj b s ex w):
  Calls prog 89 #[.pointer (some ⟨b,0,none⟩),.int .i32 c] w fun e w'=>e= .returned (.int .i64 (il s c).1)∧Tk w0 aj b (il s c).2 ex w':=by
 have cst:=dv h
 rw[hst]at cst
 have HC:=hide (yi c P hst h)
 clear h P hst
 go_enter func89,ntmps89
 go_wp2_with(go_at_call 111;refine(ae HC).mono ?_;rintro e w1⟨rfl,h1⟩)
 go_ret
 exact⟨rfl,h1⟩
theorem Ye(c:Int)(P:Pre w0 aj s c)(hst:s.state=0)(h:Tk w0 aj b s ex w):
  Calls prog 89 #[.pointer (some ⟨b,0,none⟩),.int .i32 c] w fun e w'=>e= .returned (.int .i64 (kx s c).1)∧Tk w0 aj b (kx s c).2 ex w':=by
 have cst:=dv h
 rw[hst]at cst
 have HC:=hide (L4 c P.rn h (by have:=P.size;omega))
 clear h P hst
 go_enter func89,ntmps89
 go_wp2_with(go_at_call 112;refine(ae HC).mono ?_;rintro e w1⟨rfl,h1⟩)
 go_ret
 exact⟨rfl,h1⟩
theorem Vf(c:Int)(P:Pre w0 aj s c)(hst:s.state=1)(h:Tk w0 aj b s ex w):
  Calls prog 89 #[.pointer (some ⟨b,0,none⟩),.int .i32 c] w fun e w'=>e= .returned (.int .i64 (jz s c).1)∧Tk w0 aj b (jz s c).2 ex w':=by
 have cst:=dv h
 rw[hst]at cst
 have HC:=hide (J1 c P.rn hst h (by have:=P.size;omega))
 clear h P hst
 go_enter func89,ntmps89
 go_wp2_with(go_at_call 106;refine(ae HC).mono ?_;rintro e w1⟨rfl,h1⟩)
 go_ret
 exact⟨rfl,h1⟩
theorem zbe(c:Int)(P:Pre w0 aj s c)(hst:s.state=2)(h:Tk w0 aj b s ex w):
  Calls prog 89 #[.pointer (some ⟨b,0,none⟩),.int .i32 c] w fun e w'=>e= .returned (.int .i64 (l7 s c).1)∧Tk w0 aj b (l7 s c).2 ex w':=by
 have cst:=dv h
 rw[hst]at cst
 have HC:=hide (Nz c P.rn hst h (by have:=P.size;omega))
 clear h P hst
 go_enter func89,ntmps89
 go_wp2_with(go_at_call 106;refine(ae HC).mono ?_;rintro e w1⟨rfl,h1⟩)
 go_ret
 exact⟨rfl,h1⟩
def bm(s:TS)(c:Int):Int×TS:=
 if s.state=1 then jz s c else
 if s.state=2 then l7 s c else
 if s.state=3 then ju s c else
 if s.state=4 then kb s c else
 if s.state=5 then mw s c else
 if s.state=6 then jc s c else
 if s.state=7 then jo s c else
 if s.state=8 then lu s c else
 if s.state=9 then ka s c else
 if s.state=10 then jf s c else
 if s.state=11 then iu s c else
 if s.state=12 then iz s c else
 if s.state=13 then jm s c else
 if s.state=14 then jn s c else
 if s.state=15 then f8 s c else
 if s.state=16 then jr s c else
 if s.state=17 then lq s c else
 if s.state=18 then lz s c else
 if s.state=19 then mo s c else
 if s.state=20 then kn s c else
 if s.state=21 then ik s c else
 if s.state=22 then jh s c else
 if s.state=23 then dk s c else
 if s.state=24 then iw s c else
 if s.state=25 then lf s c else
 if s.state=26 then ix s c else
 if s.state=27 then ki s c else
 if s.state=28 then g8 s c else
 if s.state=29 then iy s c else
 if s.state=30 then g9 s c else
 if s.state=31 then np s c else
 if s.state=32 then jv s c else
 if s.state=33 then gp s c else
 if s.state=34 then lc s c else
 if s.state=35 then il s c else
 kx s c
theorem zad{α:Type}{p:Prop}[Decidable p]{a b r:α}(h:(if p then a else b)=r):(p∧a=r)∨(¬p∧b=r):=by
 by_cases e:p
 ·rw[au e]at h;exact .inl ⟨e,h⟩
 ·rw[ag e]at h;exact .inr ⟨e,h⟩
theorem Rl(c:Int)(P:Pre w0 aj s c)(h0:0≤s.state)(h1:s.state≤35)(h:Tk w0 aj b s ex w):
  Calls prog 89 #[.pointer (some ⟨b,0,none⟩),.int .i32 c] w fun e w'=>e= .returned (.int .i64 (bm s c).1)∧Tk w0 aj b (bm s c).2 ex w':=by
 generalize hr:bm s c=r
 unfold bm at hr
 rcases zad hr with⟨e,hr⟩|⟨e,hr⟩
 ·subst hr;exact Vf c P e h
 rcases zad hr with⟨e,hr⟩|⟨e,hr⟩
 ·subst hr;exact zbe c P e h
 rcases zad hr with⟨e,hr⟩|⟨e,hr⟩
 ·subst hr;exact X0 c P e h
 rcases zad hr with⟨e,hr⟩|⟨e,hr⟩
 ·subst hr;exact U9 c P e h
 rcases zad hr with⟨e,hr⟩|⟨e,hr⟩
 ·subst hr;exact X6 c P e h
 rcases zad hr with⟨e,hr⟩|⟨e,hr⟩
 ·subst hr;exact J4 c P e h
 rcases zad hr with⟨e,hr⟩|⟨e,hr⟩
 ·subst hr;exact Mf c P e h
 rcases zad hr with⟨e,hr⟩|⟨e,hr⟩
 ·subst hr;exact zbc c P e h
 rcases zad hr with⟨e,hr⟩|⟨e,hr⟩
 ·subst hr;exact X7 c P e h
 rcases zad hr with⟨e,hr⟩|⟨e,hr⟩
 ·subst hr;exact X8 c P e h
 rcases zad hr with⟨e,hr⟩|⟨e,hr⟩
 ·subst hr;exact Va c P e h
 rcases zad hr with⟨e,hr⟩|⟨e,hr⟩
 ·subst hr;exact Rh c P e h
 rcases zad hr with⟨e,hr⟩|⟨e,hr⟩
 ·subst hr;exact Ri c P e h
 rcases zad hr with⟨e,hr⟩|⟨e,hr⟩
 ·subst hr;exact Rj c P e h
 rcases zad hr with⟨e,hr⟩|⟨e,hr⟩
 ·subst hr;exact Vb c P e h
 rcases zad hr with⟨e,hr⟩|⟨e,hr⟩
 ·subst hr;exact Vc c P e h
 rcases zad hr with⟨e,hr⟩|⟨e,hr⟩
 ·subst hr;exact X9 c P e h
 rcases zad hr with⟨e,hr⟩|⟨e,hr⟩
 ·subst hr;exact Ya c P e h
 rcases zad hr with⟨e,hr⟩|⟨e,hr⟩
 ·subst hr;exact Vd c P e h
 rcases zad hr with⟨e,hr⟩|⟨e,hr⟩
 ·subst hr;exact Ve c P e h
 rcases zad hr with⟨e,hr⟩|⟨e,hr⟩
 ·subst hr;exact J5 c P e h
 rcases zad hr with⟨e,hr⟩|⟨e,hr⟩
 ·subst hr;exact Oa c P e h
 rcases zad hr with⟨e,hr⟩|⟨e,hr⟩
 ·subst hr;exact Yb c P e h
 rcases zad hr with⟨e,hr⟩|⟨e,hr⟩
 ·subst hr;exact Rk c P e h
 rcases zad hr with⟨e,hr⟩|⟨e,hr⟩
 ·subst hr;exact Yc c P e h
 rcases zad hr with⟨e,hr⟩|⟨e,hr⟩
 ·subst hr;exact Ob c P e h
 rcases zad hr with⟨e,hr⟩|⟨e,hr⟩
 ·subst hr;exact Yd c P e h
 rcases zad hr with⟨e,hr⟩|⟨e,hr⟩
 ·subst hr;exact Mg c P e h
 rcases zad hr with⟨e,hr⟩|⟨e,hr⟩
 ·subst hr;exact Oc c P e h
 rcases zad hr with⟨e,hr⟩|⟨e,hr⟩
 ·subst hr;exact Mh c P e h
 rcases zad hr with⟨e,hr⟩|⟨e,hr⟩
 ·subst hr;exact zbd c P e h
 rcases zad hr with⟨e,hr⟩|⟨e,hr⟩
 ·subst hr;exact Od c P e h
 rcases zad hr with⟨e,hr⟩|⟨e,hr⟩
 ·subst hr;exact Im c P e h
 rcases zad hr with⟨e,hr⟩|⟨e,hr⟩
 ·subst hr;exact Oe c P e h
 rcases zad hr with⟨e,hr⟩|⟨e,hr⟩
 ·subst hr;exact J6 c P e h
 subst hr;exact Ye c P (by omega) h
end
end Go.Proofs.YtdfmapcnfficlaaGreatDoor

import Derived.Test.YtdfmapcnfficlaaGreatDoorP26
import Derived.Test.YtdfmapcnfficlaaGreatDoorP28
import Derived.Lib.QuoteLoop
import Derived.Lib.MapLaws
set_option linter.all false
set_option maxHeartbeats 1600000
set_option maxRecDepth 1000000
namespace Go.Proofs.YtdfmapcnfficlaaGreatDoor
open Go.Proofs.Tryz
open Go Go.RowKit
theorem Kd{w w':World}(h:Lib.Utf8Tabs 2 3 w)(hm:More w w'):Lib.Utf8Tabs 2 3 w':=
 Utf8Tabs_below h ⟨hm.os,hm.tape,hm.output,hm.size,hm.block⟩
theorem More.trans{a b c:World}(h:More a b)(k:More b c):More a c:=
 ⟨k.os.trans h.os,k.tape.trans h.tape,k.output.trans h.output,fz h.size k.size,fun i hi=>(k.block i (ei hi h.size)).trans (h.block i hi)⟩
def mn(x:Str):Nat→Nat→Nat
 |0,n=>n
 |f+1,n=>if n<x.length∧fl (x.take (n+1))=false then mn x f (n+1)else n
def broken(x:Str):Nat:=mn x x.length 1
theorem B3(x:Str):∀f n,n≤mn x f n∧(n≤x.length→mn x f n≤x.length)
 |0,n=>⟨cx _,id⟩
 |f+1,n=>by
  rw[mn]
  split
  ·rename_i h
   have:=B3 x f (n+1)
   exact⟨by omega,fun _=>this.2 (by omega)⟩
  ·exact⟨cx _,id⟩
theorem Mr(x:Str)(w:World)(hx:x.length≤lim)(hT:Lib.Utf8Tabs 2 3 w):
  Calls prog 87 #[.string ⟨x.toArray⟩] w fun e w'=>e= .returned (.int .i64 (broken x))∧More w w':=by
 have HT:=hide hT
 unfold lim at hx
 clear hT
 go_enter func87,ntmps87
 go_wp2
 go_loopg [3] x.length (fun gf s3 wx=>∃n:Nat,s3= .int .i64 n∧1≤n∧x.length≤n+gf∧n≤x.length+1∧mn x gf n=broken x∧More w wx)
 case atStart=>exact⟨1,rfl,by omega,by omega,by omega,rfl,More.refl _⟩
 case round=>
  obtain⟨n,rfl,h1,h2,h3,hb,hm⟩:=hrel
  by_cases hn:n<x.length
  ·obtain⟨g',rfl⟩:∃g',gk=g'+1:=⟨gk-1,by omega⟩
   rw[mn]at hb
   have hnz:(n:Int)<(x.length:Int):=by omega
   have hsl:∀W,(Instr.slice 9 (.string ⟨x.toArray⟩) none (some (.int .i64 ((n:Int)+1))) none).run prog W= .ok (.string ⟨(x.take (n+1)).toArray⟩) W:=fun W=>by
    rw[run_slice_string_to_if W 9 ⟨x.toArray⟩ .i64 ((n:Int)+1) underlying9,au ⟨by omega,by simp[ByteArray.size];omega⟩,show((n:Int)+1).toNat=n+1 by omega,z8]
   have HC:=hide (S8 (x.take (n+1)) wr (Kd (ae HT) hm))
   have HM:=hide hm
   clear hm
   cases hf:fl (x.take (n+1))
   ·rw[hf]at HC
    rw[au ⟨hn,hf⟩]at hb
    have HB:=hide hb
    clear hb hf
    go_wp2_with(go_at_call 85;refine(ae HC).mono ?_;rintro e w2⟨rfl,hm2⟩)
    go_roundg g'
    case measure=>omega
    case rel=>exact⟨n+1,by go_num,by omega,by omega,by omega,ae HB,(ae HM).trans hm2⟩
   ·rw[hf]at HC
    rw[ag (by rw[hf];simp)]at hb
    have HB:=hide hb
    clear hb hf
    go_wp2_with(go_at_call 85;refine(ae HC).mono ?_;rintro e w2⟨rfl,hm2⟩)
    go_ret
    exact⟨by rw[←ae HB];rfl,(ae HM).trans hm2⟩
  ·have hb':n=broken x:=by
    rw[←hb]
    cases gk with
    |zero=>rfl
    |succ g=>rw[mn,ag (fun hh=>hn hh.1)]
   have hnz:(x.length:Int)≤(n:Int):=by omega
   have HB:=hide hb'
   have HM:=hide hm
   clear hb hb' hm
   go_wp2
   go_ret
   exact⟨by rw[←ae HB];rfl,ae HM⟩
def fv(x:Str):Int×Nat:=
 if fl x=false then(0,0)
 else if((Lib.decodeGo ⟨x.toArray⟩).1:Int)=65533∧((Lib.decodeGo ⟨x.toArray⟩).2:Int)=1 then(65533,broken x)
 else((Lib.decodeGo ⟨x.toArray⟩).1,(Lib.decodeGo ⟨x.toArray⟩).2)
theorem Ms(x:Str)(w:World)(hx:x.length≤lim)(hT:Lib.Utf8Tabs 2 3 w):
  Calls prog 55 #[.string ⟨x.toArray⟩] w fun e w'=>e= .returned (.tuple #[.int .i32 (fv x).1,.int .i64 (fv x).2])∧More w w':=by
 have HC:=hide (S8 x w hT)
 have HD:=hide (fun w'(h:More w w')=>utf8_DecodeRuneInString ⟨x.toArray⟩ w' (Kd hT h))
 have HB:=hide (fun w'(h:More w w')=>Mr x w' hx (Kd hT h))
 clear hT hx
 unfold fv
 generalize((Lib.decodeGo ⟨x.toArray⟩).1:Nat)=d at*
 generalize((Lib.decodeGo ⟨x.toArray⟩).2:Nat)=k at*
 cases hf:fl x
 ·rw[hf]at HC
  rw[au rfl]
  go_enter func55,ntmps55
  go_wp2_with(go_at_call 85;refine(ae HC).mono ?_;rintro e w2⟨rfl,hm2⟩)
  go_ret2
  exact⟨rfl,hm2⟩
 ·rw[hf]at HC
  rw[ag (by decide)]
  by_cases h1:(d:Int)=65533
  ·have e1:((d:Int)==65533)=true:=by simp[h1]
   by_cases h2:(k:Int)=1
   ·have e2:((k:Int)==1)=true:=by simp[h2]
    rw[au ⟨h1,h2⟩]
    clear h2
    go_enter func55,ntmps55
    go_wp2_with(first
     |(go_at_call 85;refine(ae HC).mono ?_;rintro e w2⟨rfl,hm2⟩)
     |(go_at_call 86;refine(ae HD _ hm2).mono ?_;rintro e w3⟨rfl,hb3⟩;have Wt:=hm2.trans (More.of_below hb3))
     |(go_at_call 87;refine(ae HB _ Wt).mono ?_;rintro e w4⟨rfl,hm4⟩))
    go_ret2
    exact⟨by simp[h1],Wt.trans hm4⟩
   ·have e2:((k:Int)==1)=false:=by simpa using h2
    rw[ag (fun hh=>h2 hh.2)]
    clear h2 h1
    go_enter func55,ntmps55
    go_wp2_with(first
     |(go_at_call 85;refine(ae HC).mono ?_;rintro e w2⟨rfl,hm2⟩)
     |(go_at_call 86;refine(ae HD _ hm2).mono ?_;rintro e w3⟨rfl,hb3⟩;have Wt:=hm2.trans (More.of_below hb3)))
    go_ret2
    exact⟨rfl,Wt⟩
  ·have e1:((d:Int)==65533)=false:=by simpa using h1
   rw[ag (fun hh=>h1 hh.1)]
   clear h1
   go_enter func55,ntmps55
   go_wp2_with(first
    |(go_at_call 85;refine(ae HC).mono ?_;rintro e w2⟨rfl,hm2⟩)
    |(go_at_call 86;refine(ae HD _ hm2).mono ?_;rintro e w3⟨rfl,hb3⟩;have Wt:=hm2.trans (More.of_below hb3)))
   go_ret2
   exact⟨rfl,Wt⟩
section
variable{w0:World}{aj:Nat→Prop}{b:Nat}{s:TS}{ex:List Item}{w:World}{R:n9}
def gu(s:TS)(c:Int):TS:={s with behind:=c==13}
def pass(n:Nat)(s:TS)(c:Int):TS:=
 if c=10∧s.behind=true then gu s c
 else if c=13 then ky n (gu s c) 10
 else ky n (gu s c) c
theorem Za(h:Tk w0 aj b s ex w):w.cell? ⟨b,1,none⟩=some (.bool s.behind):=by
 obtain⟨R,hR⟩:=h.reg
 have:=hR.1.cell 1
 exact this
theorem Di(h:Tk w0 aj b s ex w):w.cell? ⟨b,0,none⟩=some (.string ⟨s.begun.toArray⟩):=by
 obtain⟨R,hR⟩:=h.reg
 have:=hR.1.cell 0
 exact this
theorem Ga(h:Tk w0 aj b s ex w)(v:Bool):Tk w0 aj b {s with behind:=v} ex (w.setCell ⟨b,1,none⟩ (.bool v)):=by
 obtain⟨⟨R,hR⟩,hk⟩:=h
 exact⟨⟨R,hR.setCell 1 _ rfl rfl rfl rfl rfl⟩,hk.setCell _ _ hR.ownB⟩
theorem O6(h:Tk w0 aj b s ex w)(l:Str):Tk w0 aj b {s with begun:=l} ex (w.setCell ⟨b,0,none⟩ (.string ⟨l.toArray⟩)):=by
 obtain⟨⟨R,hR⟩,hk⟩:=h
 exact⟨⟨R,hR.setCell 0 _ rfl rfl rfl rfl rfl⟩,hk.setCell _ _ hR.ownB⟩
def Fd(b:Nat):Value:= .func (.func 34) #[.pointer (some ⟨b,0,none⟩)] #[]
structure May(w0:World)(aj:Nat→Prop)(n:Nat)(s:TS)(c:Int):Prop where
 runs:Runs w0 aj n s c
 E0:0≤(jg n s c).place
 E1:(jg n s c).place≤1099511627776
theorem S9(n:Nat)(c:Int)(hm:¬(c=10∧s.behind=true)→May w0 aj n (gu s c) (if c=13 then 10 else c))(h:Tk w0 aj b s ex w):
  Calls prog 56 #[.pointer (some ⟨b,0,none⟩),.int .i32 c,Fd b] w fun e w'=>e= .returned (.tuple #[])∧Tk w0 aj b (pass n s c) ex w':=by
 have c1:=Za h
 have f1:=h.frozen
 have H1:=hide (Ga h (c==13))
 unfold Fd
 by_cases h10:c=10
 ·subst h10
  cases hb:s.behind
  ·rw[hb]at c1
   have hm':=hm (by simp[hb])
   have HL:=hide (zu (s:=gu s 10) 10 n hm'.runs hm'.E0 hm'.E1 (Ga h (10==13)))
   rw[show pass n s 10=ky n (gu s 10) 10 by simp[pass,hb]]
   clear h hm hm'
   go_enter func56,ntmps56
   go_wp2_with(go_at_call 34;refine(ae HL).mono ?_;rintro e w1⟨rfl,h1⟩)
   go_end0
   exact⟨rfl,h1⟩
  ·rw[hb]at c1
   rw[show pass n s 10=gu s 10 by simp[pass,hb]]
   clear h hm
   go_enter func56,ntmps56
   go_wp2
   go_end0
   exact⟨rfl,ae H1⟩
 ·have e10:(c==10)=false:=af.2 h10
  have hm':=hm (fun hh=>h10 hh.1)
  by_cases me:c=13
  ·subst me
   rw[au rfl]at hm'
   have HL:=hide (zu (s:=gu s 13) 10 n hm'.runs hm'.E0 hm'.E1 (Ga h (13==13)))
   rw[show pass n s 13=ky n (gu s 13) 10 by simp[pass]]
   clear h hm hm'
   go_enter func56,ntmps56
   go_wp2_with(go_at_call 34;refine(ae HL).mono ?_;rintro e w1⟨rfl,h1⟩)
   go_end0
   exact⟨rfl,h1⟩
  ·rw[ag me]at hm'
   have e13:(c==13)=false:=af.2 me
   have HL:=hide (zu (s:=gu s c) c n hm'.runs hm'.E0 hm'.E1 (Ga h (c==13)))
   rw[show pass n s c=ky n (gu s c) c by simp[pass,h10,me]]
   rw[e13]at HL
   clear h hm hm' H1
   go_enter func56,ntmps56
   go_wp2_with(go_at_call 34;refine(ae HL).mono ?_;rintro e w1⟨rfl,h1⟩)
   go_end0
   exact⟨rfl,h1⟩
end
section
variable{w0:World}{aj:Nat→Prop}{b:Nat}{s:TS}{ex:List Item}{w:World}{R:n9}
theorem O7(x:Str)(w:World)(hx:x.length≤lim):Calls prog 57 #[.string ⟨x.toArray⟩] w fun e w'=>e= .returned (.string ⟨x.toArray⟩)∧More w w':=by
 have H:=hide (stringslite_Clone ⟨x.toArray⟩ w (by unfold lim at hx;simp[ByteArray.size];omega))
 clear hx
 go_enter func57,ntmps57
 go_wp2_with(go_at_call 88;refine(ae H).mono ?_;rintro e w1⟨rfl,hb⟩)
 go_ret
 exact⟨rfl,More.of_below hb⟩
def ni(n:Nat):Nat→TS→Str→TS×Str
 |0,s,r=>(s,r)
 |f+1,s,r=>if(fv r).2=0 then(s,r)else ni n f (pass n s (fv r).1) (r.drop (fv r).2)
def read(n f:Nat)(s:TS)(chunk:Str):TS:={(ni n f s (s.begun++chunk)).1 with begun:=(ni n f s (s.begun++chunk)).2}
def Reads(w0:World)(aj:Nat→Prop)(n:Nat):Nat→TS→Str→Prop
 |0,_,r=>(fv r).2=0
 |f+1,s,r=>(fv r).2=0∨((fv r).2≠0∧(¬((fv r).1=10∧s.behind=true)→May w0 aj n (gu s (fv r).1) (if(fv r).1=13 then 10 else(fv r).1))∧Reads w0 aj n f (pass n s (fv r).1) (r.drop (fv r).2))
theorem us(x:Str):(fv x).2≤x.length:=by
 unfold fv
 cases hx:x with
 |nil=>simp[fl]
 |cons a r=>
  rw[←hx]
  have hl:1≤x.length:=by rw[hx];simp
  have hs:(⟨x.toArray⟩:ByteArray).size=x.length:=by simp[ByteArray.size]
  split
  ·simp
  ·split
   ·exact(B3 x x.length 1).2 hl
   ·unfold Lib.decodeGo
    rw[ag (by omega)]
    have:=Lib.width_le ⟨x.toArray⟩ (by omega)
    omega
theorem Ta(n f:Nat)(chunk:Str)(B:Base w0 aj)(hc:s.begun.length+chunk.length≤lim)(hr:Reads w0 aj n f s (s.begun++chunk))(h:Tk w0 aj b s ex w):
  Calls prog 33 #[.pointer (some ⟨b,0,none⟩),.string ⟨chunk.toArray⟩,Fd b] w fun e w'=>e= .returned (.tuple #[])∧Tk w0 aj b (read n f s chunk) ex w':=by
 have N2:=uh s.begun chunk w hc
 have c1:=Di h
 have HT:=hide h
 have HR:=hide hr
 have HB:=hide B
 have hl:(s.begun++chunk).length≤lim:=by simpa using hc
 unfold Fd read
 clear h hr B
 generalize hx0:s.begun++chunk=x0 at*
 go_enter func33,ntmps33
 go_wp2
 go_loopg [6] f (fun gf s6 wx=>∃(s1:TS)(r:Str),s6= .string ⟨r.toArray⟩∧r.length≤lim∧Reads w0 aj n gf s1 r∧ni n gf s1 r=ni n f s x0∧Tk w0 aj b s1 ex wx)
 case atStart=>exact⟨s,x0,rfl,hl,ae HR,rfl,ae HT⟩
 case round=>
  obtain⟨s1,r,rfl,hrl,hR,hN,hT⟩:=hrel
  have HC:=hide (Ms r wr hrl ((ae HB).at hT.2).tabs)
  have hle:=us r
  cases gk with
  |zero=>
   have hz:(fv r).2=0:=hR
   rw[ni]at hN
   rw[hz]at HC
   have HN:=hide hN
   have hzi:(((fv r).2:Int)==0)=true:=by simp[hz]
   have HCl:=hide (fun w'=>O7 r w' hrl)
   have HTT:=hide hT
   clear hN hT hR
   generalize(fv r).1=c at*
   go_wp2_with fail
   refine(ae HC).mono ?_
   rintro e w2⟨rfl,hm2⟩
   go_wp2_with fail
   refine(ae HCl _).mono ?_
   rintro e w3⟨rfl,Wt⟩
   have T3:=(ae HTT).more (hm2.trans Wt)
   have d3:=Di T3
   have f3:=T3.frozen
   have H4:=hide (O6 T3 r)
   clear T3
   go_wp2
   go_end0
   exact⟨rfl,by rw[←ae HN];exact ae H4⟩
  |succ g'=>
   rw[ni]at hN
   rcases hR with hz|⟨hz,hmay,hrest⟩
   ·rw[au hz]at hN
    rw[hz]at HC
    have hR:=True.intro
    have HN:=hide hN
    have hzi:(((fv r).2:Int)==0)=true:=by simp[hz]
    have HCl:=hide (fun w'=>O7 r w' hrl)
    have HTT:=hide hT
    clear hN hT hR
    generalize(fv r).1=c at*
    go_wp2_with fail
    refine(ae HC).mono ?_
    rintro e w2⟨rfl,hm2⟩
    go_wp2_with fail
    refine(ae HCl _).mono ?_
    rintro e w3⟨rfl,Wt⟩
    have T3:=(ae HTT).more (hm2.trans Wt)
    have d3:=Di T3
    have f3:=T3.frozen
    have H4:=hide (O6 T3 r)
    clear T3
    go_wp2
    go_end0
    exact⟨rfl,by rw[←ae HN];exact ae H4⟩
   ·rw[ag hz]at hN
    have HN:=hide hN
    have zpe:=hide hrest
    have HP:=hide (fun w'(hw:More wr w')=>S9 n (fv r).1 hmay (hT.more hw))
    have hzi:(((fv r).2:Int)==0)=false:=by simpa using hz
    have hsl:∀W,(Instr.slice 9 (.string ⟨r.toArray⟩) (some (.int .i64 ((fv r).2:Int))) none none).run prog W= .ok (.string ⟨(r.drop (fv r).2).toArray⟩) W:=fun W=>by
     rw[run_slice_string_from_if W 9 ⟨r.toArray⟩ .i64 (fv r).2 underlying9,au ⟨by omega,by simp[ByteArray.size];omega⟩,Int.toNat_natCast,extract_drop]
    unfold Fd at HP
    clear hN hrest hmay hT hz
    generalize(fv r).1=c at*
    generalize(fv r).2=k at*
    go_wp2_with(first
     |(go_at_call 55;refine(ae HC).mono ?_;rintro e w2⟨rfl,hm2⟩)
     |(go_at_call 56;refine(ae HP _ hm2).mono ?_;rintro e w3⟨rfl,h3⟩))
    go_roundg g'
    case measure=>omega
    case rel=>exact⟨_,_,rfl,by simp;omega,ae zpe,ae HN,h3⟩
end
section
variable{w0:World}{aj:Nat→Prop}{b:Nat}{s:TS}{ex:List Item}{w:World}{R:n9}
def pq(n:Nat)(s:TS):TS:=if s.begun=[]then s else pass n {s with begun:=[]} 65533
theorem zhu(n:Nat)(hm:s.begun≠[]→May w0 aj n (gu {s with begun:=[]} 65533) 65533)(h:Tk w0 aj b s ex w):
  Calls prog 59 #[.pointer (some ⟨b,0,none⟩),Fd b] w fun e w'=>e= .returned (.tuple #[])∧Tk w0 aj b (pq n s) ex w':=by
 have c1:=Di h
 have f1:=h.frozen
 have HT:=hide h
 have H2:=hide (fun hh=>S9 (s:={s with begun:=[]}) n 65533 (fun _=>hm hh) (O6 h []))
 clear h hm
 unfold pq
 by_cases hb:s.begun=[]
 ·rw[au hb]
  have e1:(s.begun==[])=true:=by simp[hb]
  clear hb
  unfold Fd
  go_enter func59,ntmps59
  go_wp2
  try simp only[Exit.inBlock,Exit.then]
  refine ap (av rfl _ _ _) rfl ?_
  exact⟨rfl,ae HT⟩
 ·rw[ag hb]
  have e1:(s.begun==[])=false:=by simpa using hb
  have H3:=hide (ae H2 hb)
  clear hb H2
  unfold Fd at*
  go_enter func59,ntmps59
  go_wp2_with(go_at_call 56;refine(ae H3).mono ?_;rintro e w1⟨rfl,h1⟩)
  go_end0
  exact⟨rfl,h1⟩
theorem vt(h:Tk w0 aj b s ex w):
  Calls prog 31 #[.pointer (some ⟨b,0,none⟩)] w fun e w'=>e= .returned (.bool s.closed)∧w'=w:=by
 obtain⟨R,hR⟩:=h.reg
 have c1:w.cell? ⟨b,4,none⟩=some (.bool s.closed):=hR.1.cell 4
 clear h hR
 go_enter func31,ntmps31
 go_wp2
 go_ret
 exact⟨rfl,rfl⟩
def rq(r:Sl)(l:List Tok)(ta:List Sl):Item:=⟨34,6,r.a,l.length,r.cap,eh l ta⟩
theorem ze6(P A B E:List Item)(N T:Item):(P++N::(A++T::(B++E))).Perm (P++T::((A++(B++E))++[N])):=by
 refine List.Perm.append_left P ?_
 refine(List.Perm.cons N (List.perm_middle)).trans ?_
 refine(List.Perm.swap T N _).trans (List.Perm.cons T ?_)
 exact List.perm_append_comm (l₁:=[N])
theorem zkg(h:Al w0 aj b s R ex w):Tk w0 aj b {s with told:=[]} (rq R.told s.told R.cz::(cw s.told R.cz++ex)) (w.setCell ⟨b,25,none⟩ (.slice none 0 0)):=by
 obtain⟨hR,hk⟩:=h
 refine⟨⟨{R with told:=⟨none,0⟩,cz:=[]},?_⟩,hk.setCell _ _ hR.ownB⟩
 have hself:(w.setCell ⟨b,25,none⟩ (.slice none 0 0)).heap[b]? =some (.cells (cellsOf {s with told:=[]} {R with told:=⟨none,0⟩,cz:=[]}) 84 (0,0)):=by rw[set_self hR.self];rfl
 have hI:Items w (fun k=>aj k∨w0.heap.size≤k) (fe s R++ex):=⟨hR.rows.ok,hR.rows.nodup,fun k hk=>(hR.rows.own k hk).1⟩
 refine hR.anew hself (fun k hk=>kj _ hk) (fe s R++ex) [] [⟨34,6,none,0,0,[]⟩] (by simp) ?_ ?_ (.inl ⟨rfl,rfl⟩) hR.la hR.lv rfl
 ·intro it hi
  rw[de.1 hi]
  exact⟨World.ownsRow_nil w 0 34 6,rfl⟩
 ·have:=ze6 [cq R.text s.text,cq R.fi s.tag.name,cq R.buffer s.tag.buffer,⟨210,3,R.cy.a,s.tag.cy.length,R.cy.cap,jl s.tag.cy R.kg R.jb⟩,cq R.comment s.comment,cq R.jw s.jw] (ma s.tag.cy R.kg R.jb) (cw s.told R.cz) ex ⟨34,6,none,0,0,[]⟩ (rq R.told s.told R.cz)
  simpa[fe,rq,cw,eh,fm]using this
def take(s:TS):TS:={s with told:=[]}
theorem ze7(h:Tk w0 aj b s ex w):
  Calls prog 18 #[.pointer (some ⟨b,0,none⟩)] w fun e w'=>∃(r:Sl)(ta:List Sl),ta.length=s.told.length∧e= .returned (.slice r.a s.told.length r.cap)∧Tk w0 aj b (take s) (rq r s.told ta::(cw s.told ta++ex)) w':=by
 obtain⟨R,hR⟩:=h.reg
 have c1:w.cell? ⟨b,25,none⟩=some (.slice R.told.a s.told.length R.told.cap):=hR.1.cell 25
 have f1:=h.frozen
 have H1:=hide (zkg hR)
 have HL:=hide hR.1.lt
 clear h hR
 go_enter func18,ntmps18
 go_wp2
 go_ret
 exact⟨R.told,R.cz,ae HL,rfl,ae H1⟩
end
end Go.Proofs.YtdfmapcnfficlaaGreatDoor
namespace Go.Proofs.YtdfmapcnfficlaaGreatDoor
open Go Go.RowKit
theorem Pd(b:Nat):Lib.firstT b%8≤4:=by
 rcases Lib.firstT_cases b with h|h|h|h|h|h|h|h|h<;>rw[h]<;>decide
theorem Dn(x y:Str)(h:fl x=true):fl (x++y)=true:=by
 match x,h with
 |[],h=>cases h
 |[b0],h=>
  simp only[fl,ak]at h
  simp only[List.cons_append,List.nil_append,fl]
  split at h
  ·rw[au (by omega)]
  ·cases h
 |[b0,b1],h=>
  simp only[fl,ai,ak]at h
  simp only[List.cons_append,List.nil_append,fl,ai]
  split at h
  ·rw[au (by omega)]
  ·split at h
   ·rename_i h1
    split
    ·rfl
    ·first|rfl|rw[au h1]
   ·cases h
 |b0::b1::b2::r,h=>
  simp only[fl,ai]at h
  simp only[List.cons_append,fl,ai,aq]
  split at h
  ·rw[au (by omega)]
  ·split
   ·rfl
   ·exact h
theorem Zg{x:Str}(h:fl x=false):x.length≤3:=by
 match x,h with
 |[],h=>simp
 |b0::r,h=>
  simp only[fl]at h
  have:=Pd b0.toNat
  split at h
  ·cases h
  ·simp only[ai]
   omega
theorem Iz(l:Str)(k:Nat):(⟨l.toArray⟩:ByteArray).get! k=l.getD k 0:=by
 show l.toArray.getD k default=_
 by_cases hk:k<l.length
 ·simp[Array.getD,List.getD,hk]
 ·simp[Array.getD,List.getD,hk]
  rfl
theorem sb{l:Str}(h:l≠[]):Lib.decodeGo ⟨l.toArray⟩=Lib.decodeN l.length (l.getD 0 0).toNat (l.getD 1 0).toNat (l.getD 2 0).toNat (l.getD 3 0).toNat:=by
 have hl:l.length≠0:=fun e=>h (List.length_eq_zero_iff.1 e)
 have hs:(⟨l.toArray⟩:ByteArray).size=l.length:=by simp[ByteArray.size]
 unfold Lib.decodeGo
 rw[ag (by omega),Lib.decode_at,Iz,Iz,Iz,Iz,hs]
 rfl
theorem si(x:UInt8):x.toNat<256:=x.toBitVec.isLt
theorem tj(n b0 b1 b2 b3:Nat)(hn:1≤n)(h0:b0<256)(h1:b1<256)(h2:b2<256)(h3:b3<256):
  Lib.decodeN n b0 b1 b2 b3=if Lib.firstT b0=240 then(b0,1)else if Lib.firstT b0=241 then(65533,1)else Lib.slowN n b0 b1 b2 b3 (Lib.firstT b0%8) (Lib.accLo (Lib.firstT b0 / 16)) (Lib.accHi (Lib.firstT b0 / 16)):=by
 by_cases c0:b0<128
 ·have:Lib.firstT b0=240:=by unfold Lib.firstT;rw[au c0]
  rw[this,au rfl]
  simp[Lib.decodeN,c0]
 by_cases c1:b0<194
 ·have:Lib.firstT b0=241:=by unfold Lib.firstT;rw[ag c0,au c1]
  rw[this,ag (by decide),au rfl]
  unfold Lib.decodeN
  have e1:b0 / 32=6∨b0 / 32≠6:=by omega
  have e2:b0 / 16≠14:=by omega
  have e3:b0 / 8≠30:=by omega
  rcases e1 with e1|e1
  ·simp[c0,e1,e2,e3]
   intros
   omega
  ·simp[c0,e1,e2,e3]
 by_cases c2:b0<224
 ·have:Lib.firstT b0=2:=by unfold Lib.firstT;rw[ag c0,ag c1,au c2]
  rw[this,ag (by decide),ag (by decide)]
  exact(Lib.slow_C2 n b0 b1 b2 b3 hn h1 h2 h3 ⟨by omega,c2⟩).symm
 by_cases c3:b0=224
 ·have:Lib.firstT b0=19:=by subst c3;decide
  rw[this,ag (by decide),ag (by decide)]
  exact(Lib.slow_E0 n b0 b1 b2 b3 hn h1 h2 h3 c3).symm
 by_cases c4:b0<237
 ·have:Lib.firstT b0=3:=by unfold Lib.firstT;rw[ag c0,ag c1,ag c2,ag c3,au c4]
  rw[this,ag (by decide),ag (by decide)]
  exact(Lib.slow_E1 n b0 b1 b2 b3 hn h1 h2 h3 (.inl ⟨by omega,c4⟩)).symm
 by_cases c5:b0=237
 ·have:Lib.firstT b0=35:=by subst c5;decide
  rw[this,ag (by decide),ag (by decide)]
  exact(Lib.slow_ED n b0 b1 b2 b3 hn h1 h2 h3 c5).symm
 by_cases c6:b0<240
 ·have:Lib.firstT b0=3:=by unfold Lib.firstT;rw[ag c0,ag c1,ag c2,ag c3,ag c4,ag c5,au c6]
  rw[this,ag (by decide),ag (by decide)]
  exact(Lib.slow_E1 n b0 b1 b2 b3 hn h1 h2 h3 (.inr ⟨by omega,c6⟩)).symm
 by_cases c7:b0=240
 ·have:Lib.firstT b0=52:=by subst c7;decide
  rw[this,ag (by decide),ag (by decide)]
  exact(Lib.slow_F0 n b0 b1 b2 b3 hn h1 h2 h3 c7).symm
 by_cases c8:b0<244
 ·have:Lib.firstT b0=4:=by unfold Lib.firstT;rw[ag c0,ag c1,ag c2,ag c3,ag c4,ag c5,ag c6,ag c7,au c8]
  rw[this,ag (by decide),ag (by decide)]
  exact(Lib.slow_F1 n b0 b1 b2 b3 hn h1 h2 h3 ⟨by omega,c8⟩).symm
 by_cases c9:b0=244
 ·have:Lib.firstT b0=68:=by subst c9;decide
  rw[this,ag (by decide),ag (by decide)]
  exact(Lib.slow_F4 n b0 b1 b2 b3 hn h1 h2 h3 c9).symm
 ·have:Lib.firstT b0=241:=by unfold Lib.firstT;rw[ag c0,ag c1,ag c2,ag c3,ag c4,ag c5,ag c6,ag c7,ag c8,ag c9]
  rw[this,ag (by decide),au rfl]
  unfold Lib.decodeN
  have e1:b0 / 32≠6:=by omega
  have e2:b0 / 16≠14:=by omega
  have e3:b0 / 8=30∨b0 / 8≠30:=by omega
  rcases e3 with e3|e3
  ·simp[c0,e1,e2,e3]
   intros
   omega
  ·simp[c0,e1,e2,e3]
theorem B4{x:Str}(y:Str)(h:fl x=true):Lib.decodeGo ⟨(x++y).toArray⟩=Lib.decodeGo ⟨x.toArray⟩:=by
 have hx:x≠[]:=by rintro rfl;cases h
 have hxy:x++y≠[]:=by simp[hx]
 rw[sb hx,sb hxy,tj _ _ _ _ _ (by have:=List.length_pos_iff.2 hxy;omega) (si _) (si _) (si _) (si _),tj _ _ _ _ _ (by have:=List.length_pos_iff.2 hx;omega) (si _) (si _) (si _) (si _)]
 have g:∀k,k<x.length→(x++y).getD k 0=x.getD k 0:=fun k hk=>by simp[List.getD,List.getElem?_append_left hk]
 have hm:=Pd (x.getD 0 0).toNat
 rw[g 0 (List.length_pos_iff.2 hx)]
 split
 ·rfl
 ·split
  ·rfl
  ·rw[aq]
   match x,h with
   |[b0],h=>
    simp only[fl,ak]at h
    rename_i h1 h2
    change ¬Lib.firstT b0.toNat=240 at h1
    change ¬Lib.firstT b0.toNat=241 at h2
    split at h
    ·rename_i h3
     rcases Lib.firstT_cases b0.toNat with h4|h4|h4|h4|h4|h4|h4|h4|h4<;>rw[h4]at h1 h2 h3<;>simp at h1 h2 h3
    ·cases h
   |[b0,b1],h=>
    simp only[fl,ai,ak]at h
    rw[g 1 (by simp)]
    rw[show([b0,b1]:Str).getD 0 0=b0 from rfl,show([b0,b1]:Str).getD 1 0=b1 from rfl]
    change Lib.firstT b0.toNat%8≤4 at hm
    unfold Lib.slowN
    split at h
    ·rename_i h3
     have h3':Lib.firstT b0.toNat%8≤2:=by omega
     have hn1:¬([b0,b1]:Str).length+y.length<Lib.firstT b0.toNat%8:=by simp;omega
     have hn2:¬([b0,b1]:Str).length<Lib.firstT b0.toNat%8:=by simp;omega
     rw[ag hn1,ag hn2]
     split
     ·rfl
     ·first|rfl|rw[au h3',au h3']
    ·rename_i h3
     have hn2:([b0,b1]:Str).length<Lib.firstT b0.toNat%8:=by simp;omega
     rw[au hn2]
     split at h
     ·rename_i h4
      simp only[ro,decide_eq_true_eq]at h4
      split
      ·rfl
      ·first|rfl|rw[au h4]
     ·cases h
   |b0::b1::b2::r,h=>
    simp only[fl,ai]at h
    rw[g 1 (by simp),g 2 (by simp)]
    rw[show(b0::b1::b2::r:Str).getD 0 0=b0 from rfl,show(b0::b1::b2::r:Str).getD 1 0=b1 from rfl,show(b0::b1::b2::r:Str).getD 2 0=b2 from rfl]
    change Lib.firstT b0.toNat%8≤4 at hm
    unfold Lib.slowN
    split at h
    ·rename_i h3
     have hn1:¬(b0::b1::b2::r:Str).length+y.length<Lib.firstT b0.toNat%8:=by simp;omega
     have hn2:¬(b0::b1::b2::r:Str).length<Lib.firstT b0.toNat%8:=by simp;omega
     rw[ag hn1,ag hn2]
     by_cases hs:Lib.firstT b0.toNat%8≤3
     ·split
      ·rfl
      ·split
       ·rfl
       ·split
        ·rfl
        ·first|rfl|rw[au hs,au hs]
     ·rw[g 3 (by simp;omega)]
    ·rename_i h3
     have hn2:(b0::b1::b2::r:Str).length<Lib.firstT b0.toNat%8:=by simp;omega
     rw[au hn2]
     split at h
     ·rename_i h4
      simp only[ro,decide_eq_true_eq]at h4
      split
      ·rfl
      ·first|rfl|rw[au h4]
     ·simp only[ro,decide_eq_true_eq]at h
      rw[ag (show ¬Lib.firstT b0.toNat%8≤2 by omega),au h]
      repeat' split
      all_goals rfl
theorem I0{x:Str}(y:Str)(h:fl x=true):∀(f g n:Nat),1≤n→n≤x.length→x.length≤n+f→x.length+y.length≤n+g→(2≤x.length∨n=x.length)→mn (x++y) g n=mn x f n:=by
 intro f
 induction f with
 |zero=>
  intro g n h1 h2 h3 h4 h5
  have hn:n=x.length:=by omega
  cases g with
  |zero=>rfl
  |succ g=>
   rw[mn,mn,ag]
   rintro⟨_,h6⟩
   rw[List.take_append,hn,List.take_of_length_le (by omega)]at h6
   rw[Dn _ _ h]at h6
   cases h6
 |succ f ih=>
  intro g n h1 h2 h3 h4 h5
  by_cases hn:n=x.length
  ·have e1:mn x (f+1) n=n:=by rw[mn,ag (by omega)]
   rw[e1]
   cases g with
   |zero=>rfl
   |succ g=>
    rw[mn,ag]
    rintro⟨_,h6⟩
    rw[List.take_append,hn,List.take_of_length_le (by omega)]at h6
    rw[Dn _ _ h]at h6
    cases h6
  ·cases g with
   |zero=>omega
   |succ g=>
    rw[mn,mn]
    have et:(x++y).take (n+1)=x.take (n+1):=by rw[List.take_append,show n+1-x.length=0 by omega];simp
    rw[et,aq]
    by_cases hb:fl (x.take (n+1))=false
    ·rw[au ⟨by omega,hb⟩,au ⟨by omega,hb⟩]
     exact ih g (n+1) (by omega) (by omega) (by omega) (by omega) (by omega)
    ·rw[ag (fun hh=>hb hh.2),ag (fun hh=>hb hh.2)]
theorem Sf{x:Str}(y:Str)(h:fl x=true):broken (x++y)=broken x:=by
 have hx:1≤x.length:=by
  cases x with
  |nil=>cases h
  |cons=>simp
 unfold broken
 rw[aq]
 exact I0 y h _ _ 1 (by omega) hx (by omega) (by omega) (by omega)
theorem Ag{x:Str}:(fv x).2=0↔fl x=false:=by
 unfold fv
 by_cases hf:fl x=false
 ·rw[au hf];simp[hf]
 ·rw[ag hf]
  have hx:x≠[]:=by rintro rfl;exact hf rfl
  have hl:=List.length_pos_iff.2 hx
  refine⟨fun h=> ?_,fun h=>absurd h hf⟩
  exfalso
  split at h
  ·have:=(B3 x x.length 1).1
   unfold broken at h
   simp only at h
   omega
  ·rw[sb hx,tj _ _ _ _ _ (by omega) (si _) (si _) (si _) (si _)]at h
   unfold Lib.slowN at h
   repeat' split at h
   all_goals simp at h
theorem Pe{x:Str}(y:Str)(h:(fv x).2≠0):fv (x++y)=fv x:=by
 have hf:fl x=true:=by
  cases hh:fl x
  ·exact absurd (Ag.2 hh) h
  ·rfl
 unfold fv
 rw[Dn x y hf,hf,B4 y hf,Sf y hf]
theorem V3{x:Str}(h:(fv x).2=0):x.length≤3:=Zg (Ag.1 h)
end Go.Proofs.YtdfmapcnfficlaaGreatDoor
namespace Go.Proofs.YtdfmapcnfficlaaGreatDoor
open Go.Proofs.Tryz
open Go Go.RowKit
theorem I4(x:List UInt8)(n k:Nat):(⟨x.toArray⟩:ByteArray).get! (n+k)=(⟨(x.drop n).toArray⟩:ByteArray).get! k:=by
 simp[ByteArray.get!,List.getElem?_drop]
theorem Lb(x:List UInt8)(n:Nat):Utf8.decode ⟨x.toArray⟩ n=Lib.decodeL (x.drop n):=by
 unfold Lib.decodeL
 rw[Lib.decode_at,Lib.decode_at]
 have h0:=I4 x n 0
 have h1:=I4 x n 1
 have h2:=I4 x n 2
 have h3:=I4 x n 3
 simp only[Nat.add_zero,ja]at*
 rw[h0,h1,h2,h3]
 simp[ByteArray.size]
def B7:Nat→Str→Nat
 |0,_=>0
 |f+1,x=>if x=[]then 0 else 1+B7 f (x.drop (Lib.decodeL x).2)
def runeCount(x:Str):Nat:=B7 x.length x
theorem Fo(f:Nat):B7 f []=0:=by cases f<;>simp[B7]
theorem zdf:∀f x,B7 f x≤f
 |0,_=>cx _
 |f+1,x=>by
  rw[B7]
  split
  ·omega
  ·have:=zdf f (x.drop (Lib.decodeL x).2);omega
theorem Lc(x:Str):1≤(Lib.decodeL x).2:=Lib.width_pos ⟨x.toArray⟩ 0
theorem Tl:∀(f g:Nat)(x:Str),x.length≤f→x.length≤g→B7 f x=B7 g x
 |0,g,x,hf,_=>by
  have:x=[]:=List.eq_nil_of_length_eq_zero (by omega)
  subst this
  rw[Fo,Fo]
 |f+1,0,x,_,hg=>by
  have:x=[]:=List.eq_nil_of_length_eq_zero (by omega)
  subst this
  rw[Fo,Fo]
 |f+1,g+1,x,hf,hg=>by
  rw[B7,B7]
  split
  ·rfl
  ·have h1:=Lc x
   rw[Tl f g _ (by rw[fj];omega) (by rw[fj];omega)]
theorem V6(x:Str)(w:World)(hx:x.length≤lim):
  Calls prog 61 #[.string ⟨x.toArray⟩] w fun e w'=>e= .returned (.int .i64 (runeCount x))∧More w w':=by
 have hsz:(⟨x.toArray⟩:ByteArray).size=x.length:=by simp[ByteArray.size]
 have HD:=hide (Lb x)
 unfold lim at hx
 unfold runeCount
 go_enter func61,ntmps61
 go_wp2
 go_loopg [2] x.length (fun gf s2 wx=>∃(pos n:Nat),wx.heap[w.heap.size]? =some (.stringIter ⟨x.toArray⟩ pos)∧s2= .int .i64 n∧n+B7 gf (x.drop pos)=B7 x.length x∧x.length≤pos+gf∧n+gf≤x.length∧More w wx)
 case atStart=>exact⟨0,0,World.iter_heap w _ 0,rfl,by simp,by omega,by omega,(More.refl w).alloc _⟩
 case round=>
  obtain⟨pos,n,hit,rfl,hN,hfu,hle,hm⟩:=hrel
  by_cases hps:pos<(⟨x.toArray⟩:ByteArray).size
  ·obtain⟨g',rfl⟩:∃g',gk=g'+1:=⟨gk-1,by omega⟩
   have hnx:∀ty,(Instr.next (.pointer (some ⟨w.heap.size,0,none⟩)) true ty).run prog wr=_:=fun ty=>Lib.run_next_any_at wr w.heap.size ⟨x.toArray⟩ pos ty hit hps
   have hne:x.drop pos≠[]:=by
    intro e
    have:=congrArg List.length e
    simp at this
    omega
   rw[B7,ag hne,List.drop_drop,←ae HD pos]at hN
   have hwd:=Lib.width_pos ⟨x.toArray⟩ pos
   generalize(Utf8.decode ⟨x.toArray⟩ pos).2=K at*
   have hit2:=Lib.iterAt_heap wr w.heap.size ⟨x.toArray⟩ pos (pos+K) hit
   have hp:=C8 wr w.heap.size ⟨x.toArray⟩ (pos+K)
   have hm2:More w (wr.iterAt w.heap.size ⟨x.toArray⟩ (pos+K)):=⟨hp.1.1.trans hm.os,hp.1.2.1.trans hm.tape,hp.1.2.2.1.trans hm.output,by rw[hp.1.2.2.2];exact hm.size,fun j hj=>(hp.2 j (by omega)).trans (hm.block j hj)⟩
   clear hp hm hne
   generalize wr.iterAt w.heap.size ⟨x.toArray⟩ (pos+K)=W at*
   have HG:=hide (And.intro hN (And.intro hit2 hm2))
   clear hN hit2 hm2
   go_wp2
   go_roundg g'
   case measure=>omega
   case rel=>
    obtain⟨g1,g2,g3⟩:=ae HG
    exact⟨pos+K,n+1,g2,by go_num,by omega,by omega,by omega,g3⟩
  ·have hnx:∀ty,(Instr.next (.pointer (some ⟨w.heap.size,0,none⟩)) true ty).run prog wr=_:=fun ty=>Lib.run_next_end_at wr w.heap.size ⟨x.toArray⟩ pos ty hit hps
   have hd:x.drop pos=[]:=List.drop_eq_nil_of_le (by omega)
   rw[hd,Fo]at hN
   have HN:=hide hN
   have HM:=hide hm
   clear hN hm hd
   go_wp2
   go_ret
   exact⟨by rw[←ae HN];rfl,ae HM⟩
theorem zbw(a:UInt8)(r:Str)(f:Nat)(h:a.toNat<128):B7 (f+1) (a::r)=1+B7 f r:=by
 have hd:Lib.decodeL (a::r)=(a.toNat,1):=decode_ascii ⟨(a::r).toArray⟩ 0 (by simp[ByteArray.size]) h
 rw[B7,ag (by simp),hd]
 simp
theorem zz:∀(n:Nat)(x:Str),n≤x.length→(∀j(hj:j<n),∀a,x[j]? =some a→a.toNat<128)→runeCount x=n+runeCount (x.drop n)
 |0,x,_,_=>by simp
 |n+1,[],h,_=>by simp at h
 |n+1,a::r,h,hA=>by
  have h1:=zz n r (by simpa using h) (fun j hj b hb=>hA (j+1) (by omega) b (by simpa using hb))
  have h2:=hA 0 (by omega) a rfl
  show runeCount (a::r)=n+1+runeCount (r.drop n)
  rw[runeCount,ai,zbw a r r.length h2,←runeCount,h1]
  omega
theorem addr_add(g o j:Nat):(⟨g,o,none⟩:Addr).add j=⟨g,o+j,none⟩:=by unfold Addr.add;split<;>simp_all
theorem count_nil(a:Option Addr)(cap:Nat)(w:World):
  Calls prog 36 #[.slice a 0 cap] w fun e w'=>e= .returned (.int .i64 0)∧More w w':=by
 go_enter func36,ntmps36
 go_wp2
 go_loopg [4] 0 (fun gf s4 wx=>s4= .int .i64 0∧wx=w)
 case atStart=>exact⟨rfl,rfl⟩
 case round=>
  obtain⟨rfl,rfl⟩:=hrel
  go_wp2
  go_ret
  exact⟨rfl,More.refl _⟩
theorem zbx(g cap:Nat)(x:Str)(w:World)(hr:(cq ⟨some ⟨g,0,none⟩,cap⟩ x).ok w)(hx:x.length≤lim):
  Calls prog 36 #[.slice (some ⟨g,0,none⟩) x.length cap] w fun e w'=>e= .returned (.int .i64 (runeCount x))∧More w w':=by
 have hcap:x.length≤cap:=by
  rcases hr.2 with⟨hv,hn⟩|⟨g',cap',cur,hv,hb,hg,hc,_⟩
  ·cases hv
  ·injection hv with e1 e2 e3
   subst e3
   exact hc
 have hx':x.length≤1099511627776:=hx
 have hcells:∀(j:Nat)(c:UInt8),x[j]? =some c→w.cell? ⟨g,j,none⟩=some (.int .u8 c.toNat):=fun j c hc=>by
  have:=World.ownsRow.cells hr (g:=g) rfl j (.int .u8 c.toNat) (by simp[cq,byteCells,hc])
  rw[addr_add,ja]at this
  exact this
 have HCE:=hide hcells
 clear hcells hr
 go_enter func36,ntmps36
 go_wp2
 go_loopg [4] x.length (fun gf s4 wx=>∃n:Nat,s4= .int .i64 n∧n+gf=x.length∧(∀j(hj:j<n),∀a,x[j]? =some a→a.toNat<128)∧wx=w)
 case atStart=>exact⟨0,rfl,by omega,fun j hj=>by omega,rfl⟩
 case round=>
  obtain⟨n,rfl,hg,hA,rfl⟩:=hrel
  cases gk with
  |zero=>
   have hn:n=x.length:=by omega
   have HF:=hide (zz n x (by omega) hA)
   subst hn
   clear hA
   go_wp2
   go_ret
   exact⟨by rw[ae HF];simp[runeCount,B7],More.refl _⟩
  |succ g'=>
   obtain⟨a,ha⟩:∃a,x[n]? =some a:=⟨_,ig (by omega)⟩
   have hca:=(ae HCE) n a ha
   have hnz:(n:Int)<(x.length:Int):=by omega
   by_cases h128:a.toNat<128
   ·have hz:(a.toNat:Int)<128:=by omega
    have hA2:∀j(hj:j<n+1),∀b,x[j]? =some b→b.toNat<128:=fun j hj b hb=>by
     by_cases hjn:j<n
     ·exact hA j hjn b hb
     ·have:j=n:=by omega
      subst this
      rw[ha]at hb
      cases hb
      exact h128
    have HA:=hide hA2
    clear hA hA2 ha
    go_wp2
    go_roundg g'
    case measure=>omega
    case rel=>exact⟨n+1,by go_num,by omega,ae HA,rfl⟩
   ·have hz:(128:Int)≤(a.toNat:Int):=by omega
    have HF:=hide (zz n x (by omega) hA)
    have hdl:(x.drop n).length=x.length-n:=by simp
    have HC:=hide (fun w=>V6 (x.drop n) w (by omega))
    have hcl:=zdf (x.drop n).length (x.drop n)
    have hcv:∀c,(convert 74 9 (.slice (some ⟨g,n,none⟩) (x.length-n) c)).run prog wr= .ok (.string ⟨(x.drop n).toArray⟩) wr:=fun c=>by
     rw[←hdl]
     refine run_convert_bytes_back (P:=prog) wr 74 9 5 ⟨g,n,none⟩ _ (x.drop n) underlying74 underlying5 underlying9 fun j hj=> ?_
     have:=(ae HCE) (n+j) ((x.drop n)[j]) (by rw[←List.getElem?_drop];exact ig hj)
     rw[addr_add]
     exact this
    rw[show B7 (x.drop n).length (x.drop n)=runeCount (x.drop n)from rfl]at hcl
    generalize runeCount (x.drop n)=m at*
    clear hA ha
    go_wp2_with fail
    refine(ae HC _).mono ?_
    rintro e w2⟨rfl,hm⟩
    go_wp2
    go_ret
    exact⟨by rw[ae HF];go_num,hm⟩
theorem zby(r:Sl)(x:Str)(w:World)(hr:(cq r x).ok w)(hx:x.length≤lim):
  Calls prog 36 #[.slice r.a x.length r.cap] w fun e w'=>e= .returned (.int .i64 (runeCount x))∧More w w':=by
 by_cases hx0:x=[]
 ·subst hx0
  exact count_nil r.a r.cap w
 ·rcases hr.2 with⟨hv,hn⟩|⟨g,cap',cur,hv,hb,hg,hc,_⟩
  ·exact absurd (List.eq_nil_of_length_eq_zero hn) hx0
  ·have hra:r=⟨some ⟨g,0,none⟩,r.cap⟩:=by
    injection hv with e1 e2 e3
    cases r
    simp only[cq]at e1
    subst e1
    rfl
   rw[hra]at hr⊢
   exact zbx g r.cap x w hr hx
section
variable{w0:World}{aj:Nat→Prop}{b:Nat}{s:TS}{ex:List Item}{w:World}{R:n9}
end
end Go.Proofs.YtdfmapcnfficlaaGreatDoor

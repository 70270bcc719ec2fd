import Derived.Test.YtdfmapcnfficlaaGreatDoorP27
set_option linter.all false
set_option maxHeartbeats 1600000
set_option maxRecDepth 1000000
namespace Go.Proofs.YtdfmapcnfficlaaGreatDoor
open Go.Proofs.Tryz
open Go Go.RowKit
section
variable{w0:World}{aj:Nat→Prop}{b:Nat}{s:TS}{ex:List Item}{w:World}{R:n9}
def jg:Nat→TS→Int→TS
 |0,s,_=>s
 |n+1,s,c=>if(bm s c).1=0 then(bm s c).2 else jg n (bm s c).2 c
def Runs(w0:World)(aj:Nat→Prop):Nat→TS→Int→Prop
 |0,_,_=>False
 |n+1,s,c=>Pre w0 aj s c∧0≤s.state∧s.state≤35∧((bm s c).1=0∨((bm s c).1=1∧Runs w0 aj n (bm s c).2 c))
theorem F7(c:Int)(n:Nat)(hr:Runs w0 aj n s c)(h:Tk w0 aj b s ex w):
  Calls prog 58 #[.pointer (some ⟨b,0,none⟩),.int .i32 c] w fun e w'=>e= .returned (.tuple #[])∧Tk w0 aj b (jg n s c) ex w':=by
 have HT:=hide h
 have HR:=hide hr
 clear h hr
 go_enter func58,ntmps58
 go_wp2
 go_step3
 go_wp2
 go_step3
 go_wp2
 go_loopg [] n (fun gf wx=>∃s1:TS,Runs w0 aj gf s1 c∧jg gf s1 c=jg n s c∧Tk w0 aj b s1 ex wx)
 case atStart=>exact⟨s,ae HR,rfl,ae HT⟩
 case round=>
  obtain⟨s1,hr1,hl1,h1⟩:=hrel
  cases gk with
  |zero=>exact absurd hr1 id
  |succ g'=>
   obtain⟨hp,h0,Q6,hv⟩:=hr1
   have HC:=hide (Rl c hp h0 Q6 h1)
   rw[jg]at hl1
   rcases hv with hv|⟨hv,hr2⟩
   ·rw[au hv]at hl1
    rw[hv]at HC
    have HL:=hide hl1
    clear hp h1 hl1 HT HR
    go_wp2_with(go_at_call 89;refine(ae HC).mono ?_;rintro e w2⟨rfl,h2⟩)
    rw[Exit.noGoto_normal]
    go_end0
    exact⟨rfl,by rw[←ae HL];exact h2⟩
   ·rw[ag (by rw[hv];decide)]at hl1
    rw[hv]at HC
    have HL:=hide hl1
    have HR2:=hide hr2
    clear hp h1 hl1 HT HR hr2
    go_wp2_with(go_at_call 89;refine(ae HC).mono ?_;rintro e w2⟨rfl,h2⟩)
    go_roundg g'
    case measure=>omega
    case rel=>exact⟨_,ae HR2,ae HL,h2⟩
def ky(n:Nat)(s:TS)(c:Int):TS:={jg n s c with place:=(jg n s c).place+1}
theorem zhj(h:Tk w0 aj b s ex w)(p:Int):Tk w0 aj b {s with place:=p} ex (w.setCell ⟨b,7,none⟩ (.int .i64 p)):=by
 obtain⟨⟨R,hR⟩,hk⟩:=h
 exact⟨⟨R,hR.setCell 7 _ rfl rfl rfl rfl rfl⟩,hk.setCell _ _ hR.ownB⟩
theorem zu(c:Int)(n:Nat)(hr:Runs w0 aj n s c)(hp0:0≤(jg n s c).place)(hp1:(jg n s c).place≤1099511627776)(h:Tk w0 aj b s ex w):
  Calls prog 34 #[.pointer (some ⟨b,0,none⟩),.int .i32 c] w fun e w'=>e= .returned (.tuple #[])∧Tk w0 aj b (ky n s c) ex w':=by
 have HC:=hide (F7 c n hr h)
 clear h hr
 unfold ky
 generalize jg n s c=s1 at*
 go_enter func34,ntmps34
 go_wp2_with fail
 refine(ae HC).mono ?_
 rintro e w1⟨rfl,h1⟩
 have c1:=wk h1
 have f1:=h1.frozen
 have H2:=hide (zhj h1 (s1.place+1))
 clear h1
 go_wp2
 go_end0
 exact⟨rfl,ae H2⟩
end
end Go.Proofs.YtdfmapcnfficlaaGreatDoor
namespace Go.Proofs.YtdfmapcnfficlaaGreatDoor
open Go Go.RowKit
theorem zj(t:ByteArray):∀(f pos:Nat)(s:TS),(lh t f pos s).begun=s.begun∧(lh t f pos s).behind=s.behind∧(lh t f pos s).limit=s.limit∧(lh t f pos s).bytes=s.bytes∧(lh t f pos s).closed=s.closed∧(lh t f pos s).place=s.place∧(lh t f pos s).base=s.base∧(lh t f pos s).declared=s.declared∧(lh t f pos s).state=s.state∧(lh t f pos s).ev=s.ev∧(lh t f pos s).di=s.di∧(lh t f pos s).l9=s.l9∧(lh t f pos s).nb=s.nb∧(lh t f pos s).jx=s.jx
 |0,_,s=>by rw[lh];simp
 |f+1,pos,s=>by
  rw[lh]
  split
  ·exact zj t f _ _
  ·simp
theorem De(s:TS)(t:Tok):(cj s t).begun=s.begun∧(cj s t).behind=s.behind∧(cj s t).limit=s.limit∧(cj s t).bytes=s.bytes∧(cj s t).closed=s.closed∧(cj s t).place=s.place∧(cj s t).base=s.base∧(cj s t).declared=s.declared∧(cj s t).state=s.state∧(cj s t).ev=s.ev∧(cj s t).di=s.di∧(cj s t).l9=s.l9∧(cj s t).nb=s.nb∧(cj s t).jx=s.jx∧(cj s t).tag=s.tag:=by
 first|exact⟨rfl,rfl,rfl,rfl,rfl,rfl,rfl,rfl,rfl,rfl,rfl,rfl,rfl,rfl,rfl⟩|(unfold cj;first|(simp[];done)|((repeat' split)<;>refine⟨?_,?_,?_,?_,?_,?_,?_,?_,?_,?_,?_,?_,?_,?_,?_⟩<;>first|rfl|(simp only[];done)))
theorem yx(s:TS)(n:Str)(p:Int):(bz s n p).begun=s.begun∧(bz s n p).behind=s.behind∧(bz s n p).limit=s.limit∧(bz s n p).bytes=s.bytes∧(bz s n p).closed=s.closed∧(bz s n p).place=s.place∧(bz s n p).base=s.base∧(bz s n p).declared=s.declared∧(bz s n p).state=s.state∧(bz s n p).ev=s.ev∧(bz s n p).di=s.di∧(bz s n p).l9=s.l9∧(bz s n p).nb=s.nb∧(bz s n p).jx=s.jx∧(bz s n p).tag=s.tag:=by
 first|exact⟨rfl,rfl,rfl,rfl,rfl,rfl,rfl,rfl,rfl,rfl,rfl,rfl,rfl,rfl,rfl⟩|(unfold bz;first|(simp[];done)|((repeat' split)<;>refine⟨?_,?_,?_,?_,?_,?_,?_,?_,?_,?_,?_,?_,?_,?_,?_⟩<;>first|rfl|(simp only[];done)))
theorem vq(s:TS)(n:Str):(wrong s n).begun=s.begun∧(wrong s n).behind=s.behind∧(wrong s n).limit=s.limit∧(wrong s n).bytes=s.bytes∧(wrong s n).closed=s.closed∧(wrong s n).place=s.place∧(wrong s n).base=s.base∧(wrong s n).declared=s.declared∧(wrong s n).state=s.state∧(wrong s n).ev=s.ev∧(wrong s n).di=s.di∧(wrong s n).l9=s.l9∧(wrong s n).nb=s.nb∧(wrong s n).jx=s.jx∧(wrong s n).tag=s.tag:=by
 first|exact⟨rfl,rfl,rfl,rfl,rfl,rfl,rfl,rfl,rfl,rfl,rfl,rfl,rfl,rfl,rfl⟩|(unfold wrong;first|(simp[];done)|((repeat' split)<;>refine⟨?_,?_,?_,?_,?_,?_,?_,?_,?_,?_,?_,?_,?_,?_,?_⟩<;>first|rfl|(simp only[];done)))
theorem Io(s:TS)(n:Str):(wrong s n).tag=s.tag:=(vq s n).2.2.2.2.2.2.2.2.2.2.2.2.2.2
theorem Fa(s:TS):(flush s).begun=s.begun∧(flush s).behind=s.behind∧(flush s).limit=s.limit∧(flush s).bytes=s.bytes∧(flush s).closed=s.closed∧(flush s).place=s.place∧(flush s).base=s.base∧(flush s).declared=s.declared∧(flush s).state=s.state∧(flush s).ev=s.ev∧(flush s).di=s.di∧(flush s).l9=s.l9∧(flush s).nb=s.nb∧(flush s).jx=s.jx∧(flush s).tag=s.tag:=by
 first|exact⟨rfl,rfl,rfl,rfl,rfl,rfl,rfl,rfl,rfl,rfl,rfl,rfl,rfl,rfl,rfl⟩|(unfold flush;first|(simp[];done)|((repeat' split)<;>refine⟨?_,?_,?_,?_,?_,?_,?_,?_,?_,?_,?_,?_,?_,?_,?_⟩<;>first|rfl|(simp only[];done)))
theorem Og(s:TS):(flush s).limit=s.limit:=(Fa s).2.2.1
theorem Df(s:TS)(t:Tok):(tell s t).begun=s.begun∧(tell s t).behind=s.behind∧(tell s t).limit=s.limit∧(tell s t).bytes=s.bytes∧(tell s t).closed=s.closed∧(tell s t).place=s.place∧(tell s t).base=s.base∧(tell s t).declared=s.declared∧(tell s t).state=s.state∧(tell s t).ev=s.ev∧(tell s t).di=s.di∧(tell s t).l9=s.l9∧(tell s t).nb=s.nb∧(tell s t).jx=s.jx∧(tell s t).tag=s.tag:=by
 first|exact⟨rfl,rfl,rfl,rfl,rfl,rfl,rfl,rfl,rfl,rfl,rfl,rfl,rfl,rfl,rfl⟩|(unfold tell;first|(simp[De,Fa];done)|((repeat' split)<;>refine⟨?_,?_,?_,?_,?_,?_,?_,?_,?_,?_,?_,?_,?_,?_,?_⟩<;>first|rfl|(simp only[De,Fa];done)))
theorem py(s:TS)(c:Int):(dp s c).begun=s.begun∧(dp s c).behind=s.behind∧(dp s c).limit=s.limit∧(dp s c).bytes=s.bytes∧(dp s c).closed=s.closed∧(dp s c).place=s.place∧(dp s c).base=s.base∧(dp s c).declared=s.declared∧(dp s c).state=s.state∧(dp s c).ev=s.ev∧(dp s c).di=s.di∧(dp s c).l9=s.l9∧(dp s c).nb=s.nb∧(dp s c).jx=s.jx∧(dp s c).tag=s.tag:=by
 first|exact⟨rfl,rfl,rfl,rfl,rfl,rfl,rfl,rfl,rfl,rfl,rfl,rfl,rfl,rfl,rfl⟩|(unfold dp;first|(simp[];done)|((repeat' split)<;>refine⟨?_,?_,?_,?_,?_,?_,?_,?_,?_,?_,?_,?_,?_,?_,?_⟩<;>first|rfl|(simp only[];done)))
theorem ui(s:TS)(c:Int):(dp s c).tag=s.tag:=(py s c).2.2.2.2.2.2.2.2.2.2.2.2.2.2
theorem Dg(s:TS)(l:Str):(gd s l).begun=s.begun∧(gd s l).behind=s.behind∧(gd s l).limit=s.limit∧(gd s l).bytes=s.bytes∧(gd s l).closed=s.closed∧(gd s l).place=s.place∧(gd s l).base=s.base∧(gd s l).declared=s.declared∧(gd s l).state=s.state∧(gd s l).ev=s.ev∧(gd s l).di=s.di∧(gd s l).l9=s.l9∧(gd s l).nb=s.nb∧(gd s l).jx=s.jx∧(gd s l).tag=s.tag:=by
 first|exact⟨rfl,rfl,rfl,rfl,rfl,rfl,rfl,rfl,rfl,rfl,rfl,rfl,rfl,rfl,rfl⟩|(unfold gd;first|(simp[];done)|((repeat' split)<;>refine⟨?_,?_,?_,?_,?_,?_,?_,?_,?_,?_,?_,?_,?_,?_,?_⟩<;>first|rfl|(simp only[];done)))
theorem vz(s:TS)(l:Str):(bq s l).begun=s.begun∧(bq s l).behind=s.behind∧(bq s l).limit=s.limit∧(bq s l).bytes=s.bytes∧(bq s l).closed=s.closed∧(bq s l).place=s.place∧(bq s l).base=s.base∧(bq s l).declared=s.declared∧(bq s l).state=s.state∧(bq s l).ev=s.ev∧(bq s l).di=s.di∧(bq s l).l9=s.l9∧(bq s l).nb=s.nb∧(bq s l).jx=s.jx∧(bq s l).tag=s.tag:=by
 first|exact⟨rfl,rfl,rfl,rfl,rfl,rfl,rfl,rfl,rfl,rfl,rfl,rfl,rfl,rfl,rfl⟩|(unfold bq;first|(simp[];done)|((repeat' split)<;>refine⟨?_,?_,?_,?_,?_,?_,?_,?_,?_,?_,?_,?_,?_,?_,?_⟩<;>first|rfl|(simp only[];done)))
theorem ss(s:TS):(dt s).begun=s.begun∧(dt s).behind=s.behind∧(dt s).limit=s.limit∧(dt s).bytes=s.bytes∧(dt s).closed=s.closed∧(dt s).place=s.place∧(dt s).base=s.base∧(dt s).declared=s.declared∧(dt s).state=s.state∧(dt s).ev=s.ev∧(dt s).di=s.di∧(dt s).l9=s.l9∧(dt s).nb=s.nb∧(dt s).jx=s.jx∧(dt s).tag=s.tag:=by
 first|exact⟨rfl,rfl,rfl,rfl,rfl,rfl,rfl,rfl,rfl,rfl,rfl,rfl,rfl,rfl,rfl⟩|(unfold dt;first|(simp[Df];done)|((repeat' split)<;>refine⟨?_,?_,?_,?_,?_,?_,?_,?_,?_,?_,?_,?_,?_,?_,?_⟩<;>first|rfl|(simp only[Df];done)))
theorem Gr(s:TS):(dy s).begun=s.begun∧(dy s).behind=s.behind∧(dy s).limit=s.limit∧(dy s).bytes=s.bytes∧(dy s).closed=s.closed∧(dy s).place=s.place∧(dy s).base=s.base∧(dy s).declared=s.declared∧(dy s).state=s.state∧(dy s).ev=s.ev∧(dy s).di=s.di∧(dy s).l9=s.l9∧(dy s).nb=s.nb∧(dy s).jx=s.jx∧(dy s).tag=s.tag:=by
 first|exact⟨rfl,rfl,rfl,rfl,rfl,rfl,rfl,rfl,rfl,rfl,rfl,rfl,rfl,rfl,rfl⟩|(unfold dy;first|(simp[ss,vq];done)|((repeat' split)<;>refine⟨?_,?_,?_,?_,?_,?_,?_,?_,?_,?_,?_,?_,?_,?_,?_⟩<;>first|rfl|(simp only[ss,vq];done)))
theorem Gs(s:TS):(dx s).begun=s.begun∧(dx s).behind=s.behind∧(dx s).limit=s.limit∧(dx s).bytes=s.bytes∧(dx s).closed=s.closed∧(dx s).place=s.place∧(dx s).base=s.base∧(dx s).declared=s.declared∧(dx s).ev=s.ev∧(dx s).di=s.di∧(dx s).l9=s.l9∧(dx s).nb=s.nb∧(dx s).jx=s.jx∧(dx s).tag=s.tag:=by
 first|exact⟨rfl,rfl,rfl,rfl,rfl,rfl,rfl,rfl,rfl,rfl,rfl,rfl,rfl,rfl⟩|(unfold dx;first|(simp[ss];done)|((repeat' split)<;>refine⟨?_,?_,?_,?_,?_,?_,?_,?_,?_,?_,?_,?_,?_,?_⟩<;>first|rfl|(simp only[ss];done)))
theorem su(s:TS):(dj s).begun=s.begun∧(dj s).behind=s.behind∧(dj s).limit=s.limit∧(dj s).bytes=s.bytes∧(dj s).closed=s.closed∧(dj s).place=s.place∧(dj s).base=s.base∧(dj s).declared=s.declared∧(dj s).state=s.state∧(dj s).ev=s.ev∧(dj s).di=s.di∧(dj s).l9=s.l9∧(dj s).nb=s.nb∧(dj s).jx=s.jx∧(dj s).tag=s.tag:=by
 first|exact⟨rfl,rfl,rfl,rfl,rfl,rfl,rfl,rfl,rfl,rfl,rfl,rfl,rfl,rfl,rfl⟩|(unfold dj;first|(simp[Df];done)|((repeat' split)<;>refine⟨?_,?_,?_,?_,?_,?_,?_,?_,?_,?_,?_,?_,?_,?_,?_⟩<;>first|rfl|(simp only[Df];done)))
theorem Gt(s:TS):(dz s).begun=s.begun∧(dz s).behind=s.behind∧(dz s).limit=s.limit∧(dz s).bytes=s.bytes∧(dz s).closed=s.closed∧(dz s).place=s.place∧(dz s).base=s.base∧(dz s).declared=s.declared∧(dz s).state=s.state∧(dz s).ev=s.ev∧(dz s).di=s.di∧(dz s).l9=s.l9∧(dz s).nb=s.nb∧(dz s).jx=s.jx∧(dz s).tag=s.tag:=by
 first|exact⟨rfl,rfl,rfl,rfl,rfl,rfl,rfl,rfl,rfl,rfl,rfl,rfl,rfl,rfl,rfl⟩|(unfold dz;first|(simp[su,vq];done)|((repeat' split)<;>refine⟨?_,?_,?_,?_,?_,?_,?_,?_,?_,?_,?_,?_,?_,?_,?_⟩<;>first|rfl|(simp only[su,vq];done)))
theorem Gu(s:TS):(d9 s).begun=s.begun∧(d9 s).behind=s.behind∧(d9 s).limit=s.limit∧(d9 s).bytes=s.bytes∧(d9 s).closed=s.closed∧(d9 s).place=s.place∧(d9 s).base=s.base∧(d9 s).declared=s.declared∧(d9 s).ev=s.ev∧(d9 s).di=s.di∧(d9 s).l9=s.l9∧(d9 s).nb=s.nb∧(d9 s).jx=s.jx∧(d9 s).tag=s.tag:=by
 first|exact⟨rfl,rfl,rfl,rfl,rfl,rfl,rfl,rfl,rfl,rfl,rfl,rfl,rfl,rfl⟩|(unfold d9;first|(simp[su];done)|((repeat' split)<;>refine⟨?_,?_,?_,?_,?_,?_,?_,?_,?_,?_,?_,?_,?_,?_⟩<;>first|rfl|(simp only[su];done)))
theorem Ip(s:TS)(c:Int):(ko s c).begun=s.begun∧(ko s c).behind=s.behind∧(ko s c).limit=s.limit∧(ko s c).bytes=s.bytes∧(ko s c).closed=s.closed∧(ko s c).place=s.place∧(ko s c).base=s.base∧(ko s c).declared=s.declared∧(ko s c).state=s.state∧(ko s c).ev=s.ev∧(ko s c).di=s.di∧(ko s c).l9=s.l9∧(ko s c).nb=s.nb∧(ko s c).jx=s.jx∧(ko s c).tag=s.tag:=by
 first|exact⟨rfl,rfl,rfl,rfl,rfl,rfl,rfl,rfl,rfl,rfl,rfl,rfl,rfl,rfl,rfl⟩|(unfold ko;first|(simp[py];done)|((repeat' split)<;>refine⟨?_,?_,?_,?_,?_,?_,?_,?_,?_,?_,?_,?_,?_,?_,?_⟩<;>first|rfl|(simp only[py];done)))
theorem Gv(s:TS)(c:Int):(eg s c).begun=s.begun∧(eg s c).behind=s.behind∧(eg s c).limit=s.limit∧(eg s c).bytes=s.bytes∧(eg s c).closed=s.closed∧(eg s c).place=s.place∧(eg s c).base=s.base∧(eg s c).declared=s.declared∧(eg s c).state=s.state∧(eg s c).ev=s.ev∧(eg s c).di=s.di∧(eg s c).l9=s.l9∧(eg s c).nb=s.nb∧(eg s c).jx=s.jx∧(eg s c).tag=s.tag:=by
 first|exact⟨rfl,rfl,rfl,rfl,rfl,rfl,rfl,rfl,rfl,rfl,rfl,rfl,rfl,rfl,rfl⟩|(unfold eg;first|(simp[py,vz];done)|((repeat' split)<;>refine⟨?_,?_,?_,?_,?_,?_,?_,?_,?_,?_,?_,?_,?_,?_,?_⟩<;>first|rfl|(simp only[py,vz];done)))
theorem Oh(s:TS)(c:Int):(ke s c).begun=s.begun∧(ke s c).behind=s.behind∧(ke s c).limit=s.limit∧(ke s c).bytes=s.bytes∧(ke s c).closed=s.closed∧(ke s c).place=s.place∧(ke s c).base=s.base∧(ke s c).declared=s.declared∧(ke s c).state=s.state∧(ke s c).ev=s.ev∧(ke s c).di=s.di∧(ke s c).l9=s.l9∧(ke s c).nb=s.nb∧(ke s c).jx=s.jx∧(ke s c).tag=s.tag:=by
 first|exact⟨rfl,rfl,rfl,rfl,rfl,rfl,rfl,rfl,rfl,rfl,rfl,rfl,rfl,rfl,rfl⟩|(unfold ke;first|(simp[py];done)|((repeat' split)<;>refine⟨?_,?_,?_,?_,?_,?_,?_,?_,?_,?_,?_,?_,?_,?_,?_⟩<;>first|rfl|(simp only[py];done)))
theorem Sx(s:TS)(c:Int):(lg s c).begun=s.begun∧(lg s c).behind=s.behind∧(lg s c).limit=s.limit∧(lg s c).bytes=s.bytes∧(lg s c).closed=s.closed∧(lg s c).place=s.place∧(lg s c).base=s.base∧(lg s c).declared=s.declared∧(lg s c).state=s.state∧(lg s c).ev=s.ev∧(lg s c).di=s.di∧(lg s c).l9=s.l9∧(lg s c).nb=s.nb∧(lg s c).jx=s.jx:=by
 first|exact⟨rfl,rfl,rfl,rfl,rfl,rfl,rfl,rfl,rfl,rfl,rfl,rfl,rfl,rfl⟩|(unfold lg;first|(simp[py];done)|((repeat' split)<;>refine⟨?_,?_,?_,?_,?_,?_,?_,?_,?_,?_,?_,?_,?_,?_⟩<;>first|rfl|(simp only[py];done)))
theorem Iq(s:TS)(c:Int):(kr s c).begun=s.begun∧(kr s c).behind=s.behind∧(kr s c).limit=s.limit∧(kr s c).bytes=s.bytes∧(kr s c).closed=s.closed∧(kr s c).place=s.place∧(kr s c).base=s.base∧(kr s c).declared=s.declared∧(kr s c).state=s.state∧(kr s c).ev=s.ev∧(kr s c).di=s.di∧(kr s c).l9=s.l9∧(kr s c).nb=s.nb∧(kr s c).jx=s.jx:=by
 first|exact⟨rfl,rfl,rfl,rfl,rfl,rfl,rfl,rfl,rfl,rfl,rfl,rfl,rfl,rfl⟩|(unfold kr;first|(simp[];done)|((repeat' split)<;>refine⟨?_,?_,?_,?_,?_,?_,?_,?_,?_,?_,?_,?_,?_,?_⟩<;>first|rfl|(simp only[];done)))
theorem Gw(s:TS)(c:Int):(fw s c).begun=s.begun∧(fw s c).behind=s.behind∧(fw s c).limit=s.limit∧(fw s c).bytes=s.bytes∧(fw s c).closed=s.closed∧(fw s c).place=s.place∧(fw s c).base=s.base∧(fw s c).declared=s.declared∧(fw s c).state=s.state∧(fw s c).ev=s.ev∧(fw s c).di=s.di∧(fw s c).l9=s.l9∧(fw s c).nb=s.nb∧(fw s c).jx=s.jx:=by
 first|exact⟨rfl,rfl,rfl,rfl,rfl,rfl,rfl,rfl,rfl,rfl,rfl,rfl,rfl,rfl⟩|(unfold fw;first|(simp[];done)|((repeat' split)<;>refine⟨?_,?_,?_,?_,?_,?_,?_,?_,?_,?_,?_,?_,?_,?_⟩<;>first|rfl|(simp only[];done)))
theorem Sy(s:TS):(lp s).begun=s.begun∧(lp s).behind=s.behind∧(lp s).limit=s.limit∧(lp s).bytes=s.bytes∧(lp s).closed=s.closed∧(lp s).place=s.place∧(lp s).base=s.base∧(lp s).declared=s.declared∧(lp s).state=s.state∧(lp s).ev=s.ev∧(lp s).di=s.di∧(lp s).l9=s.l9∧(lp s).nb=s.nb∧(lp s).jx=s.jx:=by
 first|exact⟨rfl,rfl,rfl,rfl,rfl,rfl,rfl,rfl,rfl,rfl,rfl,rfl,rfl,rfl⟩|(unfold lp;first|(simp[];done)|((repeat' split)<;>refine⟨?_,?_,?_,?_,?_,?_,?_,?_,?_,?_,?_,?_,?_,?_⟩<;>first|rfl|(simp only[];done)))
theorem Ky(s:TS)(c:Int):(ob s c).begun=s.begun∧(ob s c).behind=s.behind∧(ob s c).limit=s.limit∧(ob s c).bytes=s.bytes∧(ob s c).closed=s.closed∧(ob s c).place=s.place∧(ob s c).base=s.base∧(ob s c).declared=s.declared∧(ob s c).state=s.state∧(ob s c).ev=s.ev∧(ob s c).di=s.di∧(ob s c).l9=s.l9∧(ob s c).nb=s.nb∧(ob s c).jx=s.jx:=by
 first|exact⟨rfl,rfl,rfl,rfl,rfl,rfl,rfl,rfl,rfl,rfl,rfl,rfl,rfl,rfl⟩|(unfold ob;first|(simp[];done)|((repeat' split)<;>refine⟨?_,?_,?_,?_,?_,?_,?_,?_,?_,?_,?_,?_,?_,?_⟩<;>first|rfl|(simp only[];done)))
theorem Oi(s:TS):(mg s).begun=s.begun∧(mg s).behind=s.behind∧(mg s).limit=s.limit∧(mg s).bytes=s.bytes∧(mg s).closed=s.closed∧(mg s).place=s.place∧(mg s).base=s.base∧(mg s).declared=s.declared∧(mg s).state=s.state∧(mg s).ev=s.ev∧(mg s).di=s.di∧(mg s).l9=s.l9∧(mg s).nb=s.nb∧(mg s).jx=s.jx:=by
 unfold mg p6
 (repeat' split)<;>exact⟨rfl,rfl,rfl,rfl,rfl,rfl,rfl,rfl,rfl,rfl,rfl,rfl,rfl,rfl⟩
theorem Oj(s:TS):(iq s).begun=s.begun∧(iq s).behind=s.behind∧(iq s).limit=s.limit∧(iq s).bytes=s.bytes∧(iq s).closed=s.closed∧(iq s).place=s.place∧(iq s).base=s.base∧(iq s).declared=s.declared∧(iq s).state=s.state∧(iq s).ev=s.ev∧(iq s).di=s.di∧(iq s).l9=s.l9∧(iq s).nb=s.nb∧(iq s).jx=s.jx:=by
 first|exact⟨rfl,rfl,rfl,rfl,rfl,rfl,rfl,rfl,rfl,rfl,rfl,rfl,rfl,rfl⟩|(unfold iq;first|(simp[vq];done)|((repeat' split)<;>refine⟨?_,?_,?_,?_,?_,?_,?_,?_,?_,?_,?_,?_,?_,?_⟩<;>first|rfl|(simp only[vq];done)))
theorem mq(s:TS)(l:Str):(cn s l).begun=s.begun∧(cn s l).behind=s.behind∧(cn s l).limit=s.limit∧(cn s l).bytes=s.bytes∧(cn s l).closed=s.closed∧(cn s l).place=s.place∧(cn s l).base=s.base∧(cn s l).declared=s.declared∧(cn s l).state=s.state∧(cn s l).ev=s.ev∧(cn s l).di=s.di∧(cn s l).l9=s.l9∧(cn s l).nb=s.nb∧(cn s l).jx=s.jx:=by
 first|exact⟨rfl,rfl,rfl,rfl,rfl,rfl,rfl,rfl,rfl,rfl,rfl,rfl,rfl,rfl⟩|(unfold cn;first|(simp[zj,Dg];done)|((repeat' split)<;>refine⟨?_,?_,?_,?_,?_,?_,?_,?_,?_,?_,?_,?_,?_,?_⟩<;>first|rfl|(simp only[zj,Dg];done)))
theorem vj(s:TS)(l:Str):(cn s l).base=s.base:=(mq s l).2.2.2.2.2.2.1
theorem sv(s:TS)(l:Str):(cn s l).declared=s.declared:=(mq s l).2.2.2.2.2.2.2.1
theorem zk(s:TS)(l:Str):(cn s l).state=s.state:=(mq s l).2.2.2.2.2.2.2.2.1
theorem zl(s:TS)(l:Str):(cn s l).ev=s.ev:=(mq s l).2.2.2.2.2.2.2.2.2.1
theorem zm(s:TS)(l:Str):(cn s l).di=s.di:=(mq s l).2.2.2.2.2.2.2.2.2.2.1
theorem z6(s:TS)(l:Str):(cn s l).jx=s.jx:=(mq s l).2.2.2.2.2.2.2.2.2.2.2.2.2
theorem Ad(s:TS)(p:Int):(ji s p).begun=s.begun∧(ji s p).behind=s.behind∧(ji s p).limit=s.limit∧(ji s p).bytes=s.bytes∧(ji s p).closed=s.closed∧(ji s p).place=s.place∧(ji s p).base=s.base∧(ji s p).declared=s.declared∧(ji s p).state=s.state∧(ji s p).ev=s.ev∧(ji s p).di=s.di∧(ji s p).l9=s.l9∧(ji s p).nb=s.nb∧(ji s p).jx=s.jx:=by
 first|exact⟨rfl,rfl,rfl,rfl,rfl,rfl,rfl,rfl,rfl,rfl,rfl,rfl,rfl,rfl⟩|(unfold ji;first|(simp[mq,yx];done)|((repeat' split)<;>refine⟨?_,?_,?_,?_,?_,?_,?_,?_,?_,?_,?_,?_,?_,?_⟩<;>first|rfl|(simp only[mq,yx];done)))
theorem Bo(s:TS)(p:Int):(ji s p).base=s.base:=(Ad s p).2.2.2.2.2.2.1
theorem yk(s:TS)(p:Int):(ji s p).declared=s.declared:=(Ad s p).2.2.2.2.2.2.2.1
theorem Bp(s:TS)(n:Str×Str)(x:Str)(nx:Int):(ku s n x nx).begun=s.begun∧(ku s n x nx).behind=s.behind∧(ku s n x nx).limit=s.limit∧(ku s n x nx).bytes=s.bytes∧(ku s n x nx).closed=s.closed∧(ku s n x nx).place=s.place∧(ku s n x nx).base=s.base∧(ku s n x nx).declared=s.declared∧(ku s n x nx).state=s.state∧(ku s n x nx).ev=s.ev∧(ku s n x nx).di=s.di∧(ku s n x nx).l9=s.l9∧(ku s n x nx).nb=s.nb∧(ku s n x nx).jx=s.jx:=by
 first|exact⟨rfl,rfl,rfl,rfl,rfl,rfl,rfl,rfl,rfl,rfl,rfl,rfl,rfl,rfl⟩|(unfold ku;first|(simp[mq,yx];done)|((repeat' split)<;>refine⟨?_,?_,?_,?_,?_,?_,?_,?_,?_,?_,?_,?_,?_,?_⟩<;>first|rfl|(simp only[mq,yx];done)))
theorem x8(s:TS):(kc s).begun=s.begun∧(kc s).behind=s.behind∧(kc s).limit=s.limit∧(kc s).bytes=s.bytes∧(kc s).closed=s.closed∧(kc s).place=s.place∧(kc s).base=s.base∧(kc s).declared=s.declared∧(kc s).ev=s.ev∧(kc s).di=s.di∧(kc s).l9=s.l9∧(kc s).nb=s.nb∧(kc s).jx=s.jx:=by
 first|exact⟨rfl,rfl,rfl,rfl,rfl,rfl,rfl,rfl,rfl,rfl,rfl,rfl,rfl⟩|(unfold kc;first|(simp[mq];done)|((repeat' split)<;>refine⟨?_,?_,?_,?_,?_,?_,?_,?_,?_,?_,?_,?_,?_⟩<;>first|rfl|(simp only[mq];done)))
theorem z7(s:TS):(kc s).base=s.base:=(x8 s).2.2.2.2.2.2.1
theorem xh(s:TS):(kc s).declared=s.declared:=(x8 s).2.2.2.2.2.2.2.1
theorem x9(s:TS)(n:Str×Str)(c:Int):(ln s n c).begun=s.begun∧(ln s n c).behind=s.behind∧(ln s n c).limit=s.limit∧(ln s n c).bytes=s.bytes∧(ln s n c).closed=s.closed∧(ln s n c).place=s.place∧(ln s n c).base=s.base∧(ln s n c).declared=s.declared∧(ln s n c).ev=s.ev∧(ln s n c).di=s.di∧(ln s n c).l9=s.l9∧(ln s n c).nb=s.nb∧(ln s n c).jx=s.jx:=by
 first|exact⟨rfl,rfl,rfl,rfl,rfl,rfl,rfl,rfl,rfl,rfl,rfl,rfl,rfl⟩|(unfold ln;first|(simp[mq,Bp];done)|((repeat' split)<;>refine⟨?_,?_,?_,?_,?_,?_,?_,?_,?_,?_,?_,?_,?_⟩<;>first|rfl|(simp only[mq,Bp];done)))
theorem Gk(s:TS)(n:Str×Str)(c:Int):(ln s n c).base=s.base:=(x9 s n c).2.2.2.2.2.2.1
theorem Ci(s:TS)(n:Str×Str)(c:Int):(ln s n c).declared=s.declared:=(x9 s n c).2.2.2.2.2.2.2.1
theorem Vg(s:TS):(rg s).begun=s.begun∧(rg s).behind=s.behind∧(rg s).limit=s.limit∧(rg s).bytes=s.bytes∧(rg s).closed=s.closed∧(rg s).place=s.place∧(rg s).base=s.base∧(rg s).declared=s.declared∧(rg s).state=s.state∧(rg s).ev=s.ev∧(rg s).di=s.di∧(rg s).l9=s.l9∧(rg s).nb=s.nb∧(rg s).jx=s.jx:=by
 first|exact⟨rfl,rfl,rfl,rfl,rfl,rfl,rfl,rfl,rfl,rfl,rfl,rfl,rfl,rfl⟩|(unfold rg;first|(simp[];done)|((repeat' split)<;>refine⟨?_,?_,?_,?_,?_,?_,?_,?_,?_,?_,?_,?_,?_,?_⟩<;>first|rfl|(simp only[];done)))
theorem Ok(s:TS):(mh s).begun=s.begun∧(mh s).behind=s.behind∧(mh s).limit=s.limit∧(mh s).bytes=s.bytes∧(mh s).closed=s.closed∧(mh s).place=s.place∧(mh s).declared=s.declared∧(mh s).ev=s.ev∧(mh s).di=s.di∧(mh s).l9=s.l9∧(mh s).nb=s.nb∧(mh s).jx=s.jx:=by
 unfold mh startTag ti
 simp only[]
 (repeat' split)<;>simp only[Df,vq,Vg,and_self]
theorem Sz(s:TS):(mx s).begun=s.begun∧(mx s).behind=s.behind∧(mx s).limit=s.limit∧(mx s).bytes=s.bytes∧(mx s).closed=s.closed∧(mx s).place=s.place∧(mx s).base=s.base∧(mx s).state=s.state∧(mx s).ev=s.ev∧(mx s).di=s.di∧(mx s).l9=s.l9∧(mx s).nb=s.nb∧(mx s).jx=s.jx∧(mx s).tag=s.tag:=by
 first|exact⟨rfl,rfl,rfl,rfl,rfl,rfl,rfl,rfl,rfl,rfl,rfl,rfl,rfl,rfl⟩|(unfold mx;first|(simp[];done)|((repeat' split)<;>refine⟨?_,?_,?_,?_,?_,?_,?_,?_,?_,?_,?_,?_,?_,?_⟩<;>first|rfl|(simp only[];done)))
theorem Ol(s:TS)(l:Str):(mv s l).begun=s.begun∧(mv s l).behind=s.behind∧(mv s l).limit=s.limit∧(mv s l).bytes=s.bytes∧(mv s l).closed=s.closed∧(mv s l).place=s.place∧(mv s l).base=s.base∧(mv s l).declared=s.declared∧(mv s l).state=s.state∧(mv s l).ev=s.ev∧(mv s l).l9=s.l9∧(mv s l).nb=s.nb∧(mv s l).jx=s.jx∧(mv s l).tag=s.tag:=by
 first|exact⟨rfl,rfl,rfl,rfl,rfl,rfl,rfl,rfl,rfl,rfl,rfl,rfl,rfl,rfl⟩|(unfold mv;first|(simp[];done)|((repeat' split)<;>refine⟨?_,?_,?_,?_,?_,?_,?_,?_,?_,?_,?_,?_,?_,?_⟩<;>first|rfl|(simp only[];done)))
theorem Kz(s:TS)(c:Int):(ml s c).begun=s.begun∧(ml s c).behind=s.behind∧(ml s c).limit=s.limit∧(ml s c).bytes=s.bytes∧(ml s c).closed=s.closed∧(ml s c).place=s.place∧(ml s c).base=s.base∧(ml s c).declared=s.declared∧(ml s c).state=s.state∧(ml s c).ev=s.ev∧(ml s c).di=s.di∧(ml s c).l9=s.l9∧(ml s c).tag=s.tag:=by
 first|exact⟨rfl,rfl,rfl,rfl,rfl,rfl,rfl,rfl,rfl,rfl,rfl,rfl,rfl⟩|(unfold ml;first|(simp[];done)|((repeat' split)<;>refine⟨?_,?_,?_,?_,?_,?_,?_,?_,?_,?_,?_,?_,?_⟩<;>first|rfl|(simp only[];done)))
theorem FR0:type_of% @zj∧type_of% @De∧type_of% @yx∧type_of% @vq∧type_of% @Fa∧type_of% @Df∧type_of% @py∧type_of% @Dg∧type_of% @vz∧type_of% @ss∧type_of% @Gr∧type_of% @Gs∧type_of% @su∧type_of% @Gt∧type_of% @Gu∧type_of% @Ip∧type_of% @Gv∧type_of% @Oh∧type_of% @Sx∧type_of% @Iq∧type_of% @Gw∧type_of% @Sy∧type_of% @Ky∧type_of% @Oi∧type_of% @Oj∧type_of% @mq∧type_of% @Ad∧type_of% @Bp∧type_of% @x8∧type_of% @x9∧type_of% @Vg∧type_of% @Ok∧type_of% @Sz∧type_of% @Ol∧type_of% @Kz:=
 ⟨@zj,@De,@yx,@vq,@Fa,@Df,@py,@Dg,@vz,@ss,@Gr,@Gs,@su,@Gt,@Gu,@Ip,@Gv,@Oh,@Sx,@Iq,@Gw,@Sy,@Ky,@Oi,@Oj,@mq,@Ad,@Bp,@x8,@x9,@Vg,@Ok,@Sz,@Ol,@Kz⟩
end Go.Proofs.YtdfmapcnfficlaaGreatDoor

import Derived.Test.YtdfmapcnfficlaaGreatDoorP05
set_option linter.all false
namespace Go.Proofs.YtdfmapcnfficlaaGreatDoor.M
open Go Go.RowKit
def Pt(c:Int):Prop:=0≤c∧c≤1114111
def Em(c:Int):List Int:=if c<128 then[c]else if c<2048 then[192+c / 64,128+c%64]else if c<65536 then[224+c / 4096,128+c / 64%64,128+c%64]else[240+c / 262144,128+c / 4096%64,128+c / 64%64,128+c%64]
def utf(c:Int):Str:=(Em c).map fun x=>x.toNat.toUInt8
def jk(l:List Int):Str:=l.flatMap utf
def Hw:List Str:=[[68,65,84,65],[84,73,84,76,69],[82,65,87],[79,80,69,78],[67,76,79,83,69],[76,69,83,83],[76,69,83,83,67,76,79,83,69],[76,69,83,83,78,65,77,69],[84,65,71],[65,84,84,82],[78,65,77,69],[65,70,84,69,82],[69,81,85,65,76,83],[68,79,85,66,76,69],[83,73,78,71,76,69],[80,76,65,73,78],[86,65,76,85,69],[83,69,76,70],[68,69,67,76],[66,79,71,85,83],[66,69,71,73,78],[66,69,71,73,78,68,65,83,72],[67,79,77,77,69,78,84],[68,65,83,72],[68,65,83,72,69,83],[66,65,78,71],[68,79,67,84,89,80,69],[75,73,78,68],[75,73,78,68,78,65,77,69],[75,73,78,68,69,78,68],[75,73,78,68,82,69,83,84],[82,69,70],[],[65,76,78,85,77]]
def qc(q:Nat):Str:=Hw.getD q []
structure MS where
 l:List Int:=[]
 pos:Nat:=0
 whole:Bool:=false
 told:List Tok:=[]
 text:List Int:=[]
 state:Nat:=0
 base:Nat:=99
 back:Nat:=99
 kind:Int:=0
 fi:Str:=[]
 attrs:List Str:=[]
 flag:Bool:=false
 gone:Bool:=false
 name:List Int:=[]
 buf:List Int:=[]
 key:List Int:=[]
 value:List Int:=[]
 opn:Bool:=false
 drop:Bool:=false
 last:Str:=[]
 odd:Bool:=false
def n8(s:Str):List Int:=s.map fun x=>(x.toNat:Int)
def flush(m:MS):MS:=if m.text=[]then m else{m with told:=m.told++[{kind:=0,text:=jk m.text}],text:=[]}
def tell(m:MS)(t:Tok):MS:={flush m with told:=(flush m).told++[t]}
def wrong(m:MS)(n:Str)(p:Int):MS:={m with told:=m.told++[{kind:=5,name:=n,place:=p}]}
def err(m:MS)(n:Str):MS:=wrong m n m.pos
def lx(m:MS)(c:Int):MS:=if c=0 then err m [110,117,108]else m
def pc(m:MS)(q:Nat):MS:={m with state:=q,pos:=m.pos+1}
def on(m:MS):MS:={m with pos:=m.pos+1}
def st(m:MS)(q:Nat):MS:={m with state:=q}
def say(m:MS)(s:Str):MS:={m with text:=m.text++n8 s}
def add(m:MS)(s:Str):MS:={m with name:=m.name++n8 s}
def ahead(m:MS)(n:Nat):Int:=(m.l[m.pos+n]?).getD (-1)
def td(m:MS):Bool:=m.back==13||m.back==14||m.back==15
def give(m:MS)(x:List Int):MS:=if td m=true then{m with value:=m.value++x}else{m with text:=m.text++x}
def ep(m:MS):MS:=if m.opn=true∧m.drop=false then{m with attrs:=m.attrs++[jk m.key,jk m.value],opn:=false}else{m with opn:=false}
def qp(m:MS):MS:={ep m with opn:=true,drop:=false,key:=[],value:=[]}
def newTag(m:MS)(k:Int):MS:={m with kind:=k,fi:=[],attrs:=[],flag:=false,gone:=false,name:=[],buf:=[],opn:=false}
def ur:List Str→Str→Bool
 |a::_::r,k=>a==k||ur r k
 |[a],k=>a==k
 |[],_=>false
def Bk(m:MS):MS:={m with drop:=m.drop||ur m.attrs (jk m.key)}
def ol(m:MS):MS:=if(Bk m).drop=true then err (Bk m) [116,119,105,99,101]else Bk m
def cu(m:MS):MS:={ep m with fi:=jk (ep m).name,name:=[]}
def Bl(m:MS):MS:=if 0<m.attrs.length then err m [101,110,100,45,97,116,116,114,105,98,117,116,101,115]else m
def vm(m:MS):MS:=if m.flag=true then err m [101,110,100,45,115,108,97,115,104]else m
def ot(m:MS):MS:=
 if(cu m).kind=2 then pc (tell (vm (Bl (cu m))) {kind:=2,name:=(cu m).fi}) 0
 else pc {tell {cu m with last:=(cu m).fi} {kind:=m.kind,name:=(cu m).fi,attrs:=(cu m).attrs,flag:=m.flag}with gone:=true} (kh (cu m).fi).toNat
def dm(m:MS):MS:={tell m {kind:=3,text:=jk m.name}with name:=[]}
def dw(m:MS)(odd:Bool):MS:={tell m {kind:=4,name:=jk m.name,flag:=odd}with name:=[]}
def ke(m:MS)(x:Int):MS:={m with text:=m.text++[x],pos:=m.pos+1}
def je(m:MS)(x:Int):MS:={m with name:=m.name++[x],pos:=m.pos+1}
def putKey(m:MS)(x:Int):MS:={m with key:=m.key++[x],pos:=m.pos+1}
def im(m:MS)(x:Int):MS:={m with value:=m.value++[x],pos:=m.pos+1}
def text(m:MS)(c:Int):MS:=
 if c=38∧m.state≠2 then pc {m with back:=m.state} 31
 else if c=60∧m.state=0 then pc m 3
 else if c=60 then pc {m with base:=m.state} 5
 else ke (lx m c) (if m.state=0 then c else bb c)
def opens(m:MS)(c:Int):MS:=
 if m.state=4 then
  if br c=true then st (newTag m 2) 8
  else if c=62 then pc (err m [110,111,45,110,97,109,101]) 0
  else st {err m [102,105,114,115,116]with name:=[]} 19
 else if c=33 then pc m 18
 else if c=47 then pc m 4
 else if br c=true then st (newTag m 1) 8
 else if c=63 then st {err m [113,117,101,115,116,105,111,110]with name:=[]} 19
 else st (say (err m [102,105,114,115,116]) [60]) 0
def less(m:MS)(c:Int):MS:=
 if m.state=5 then(if c=47 then pc m 6 else st (say m [60]) m.base)
 else if m.state=6 then(if br c=true then st (newTag m 2) 7 else st (say m [60,47]) m.base)
 else if br c=true then{m with name:=m.name++[lw c],buf:=m.buf++[c],pos:=m.pos+1}
 else if(ba c=true∨c=47∨c=62)∧jk m.name=m.last then st m 8
 else st {say m [60,47]with text:=(say m [60,47]).text++m.buf} m.base
def tag(m:MS)(c:Int):MS:=
 if m.state=8 then
  if ba c=true then pc m 9 else if c=47 then pc m 17 else if c=62 then ot m else je (lx m c) (lw (bb c))
 else if m.state=9 then
  if ba c=true then on m else if c=47∨c=62 then st m 11
  else if c=61 then pc {qp (err m [101,113,117,97,108,115])with key:=[61]} 10
  else st (qp m) 10
 else if m.state=10 then
  if ba c=true∨c=47∨c=62 then st (ol m) 11
  else if c=61 then pc (ol m) 12
  else putKey (lx (if c=34∨c=39∨c=60 then err m [115,105,103,110]else m) c) (lw (bb c))
 else if ba c=true then on m else if c=47 then pc m 17 else if c=61 then pc m 12 else if c=62 then ot m
 else st (qp m) 10
def around(m:MS)(c:Int):MS:=
 if m.state=12 then
  if ba c=true then on m else if c=34 then pc m 13 else if c=39 then pc m 14 else if c=62 then ot (err m [110,111,45,118,97,108,117,101])else st m 15
 else if m.state=16 then
  if ba c=true then pc m 9 else if c=47 then pc m 17 else if c=62 then ot m else st (err m [110,111,45,98,108,97,110,107]) 9
 else if c=62 then ot {m with flag:=true}else st (err m [115,108,97,115,104]) 9
def value(m:MS)(c:Int):MS:=
 if(m.state=13∧c=34)∨(m.state=14∧c=39)then pc m 16
 else if c=38 then pc {m with back:=m.state} 31
 else if m.state=15∧ba c=true then pc m 9
 else if m.state=15∧c=62 then ot m
 else im (lx (if m.state=15∧(c=34∨c=39∨c=60∨c=61∨c=96)then err m [115,105,103,110]else m) c) (bb c)
def comment(m:MS)(c:Int):MS:=
 if m.state=19∧c=62 then pc (dm m) 0
 else if m.state=22∧c=45 then pc m 23
 else je (lx m c) (bb c)
def dashes(m:MS)(c:Int):MS:=
 if m.state=20∧c=45 then pc m 21
 else if(m.state=20∨m.state=21)∧c=62 then pc (dm (err m [97,98,114,117,112,116])) 0
 else if m.state=20 then st m 22
 else if(m.state=21∨m.state=23)∧c=45 then pc m 24
 else if m.state=21∨m.state=23 then st (add m [45]) 22
 else if m.state=24∧c=62 then pc (dm m) 0
 else if m.state=24∧c=33 then pc m 25
 else if m.state=24∧c=45 then on (add m [45])
 else if m.state=24 then st (add m [45,45]) 22
 else if c=45 then pc (add m [45,45,33]) 23
 else if c=62 then pc (dm (err m [98,97,110,103])) 0
 else st (add m [45,45,33]) 22
def js(m:MS)(c:Int):MS:=
 if m.state=26 then
  if ba c=true then pc m 27 else st (if c=62 then m else err m [110,111,45,98,108,97,110,107]) 27
 else if m.state=27 then
  if ba c=true then on m else if c=62 then pc (dw (err m [110,111,45,110,97,109,101]) true) 0
  else{je (lx m c) (lw (bb c))with state:=28}
 else if c=62 then pc (dw m m.odd) 0
 else if m.state=30 then on (lx m c)
 else if m.state=28∧ba c=true then pc m 29
 else if m.state=28 then je (lx m c) (lw (bb c))
 else if ba c=true then on m
 else st {err m [107,105,110,100]with odd:=true} 30
def En(m:MS)(c:Int):MS:=
 if br c=true∨fc c=true then on (give m [c])
 else st (if c=59 then err m [117,110,107,110,111,119,110]else m) m.back
def look(m:MS)(c:Int):MS:=
 if m.state≤2 then text m c
 else if m.state=33 then En m c
 else if m.state≤4 then opens m c
 else if m.state≤7 then less m c
 else if m.state≤11 then tag m c
 else if m.state=12∨m.state=16∨m.state=17 then around m c
 else if m.state≤15 then value m c
 else if m.state=19∨m.state=22 then comment m c
 else if m.state≤25 then dashes m c
 else js m c
def ends(m:MS):MS:=
 if m.state=33 then(if td m=true then err m [101,110,100,45,105,110,45,116,97,103]else m)
 else if m.state≤2 then m
 else if m.state=30 then dw m m.odd
 else if m.state=19 then dm m
 else if m.state=3 then say (err m [101,110,100,45,105,110,45,116,97,103]) [60]
 else if m.state=4 then say (err m [101,110,100,45,105,110,45,116,97,103]) [60,47]
 else if m.state=5 then say m [60]
 else if m.state=6 then say m [60,47]
 else if m.state=7 then{say m [60,47]with text:=(say m [60,47]).text++m.buf}
 else if 20≤m.state∧m.state≤25 then dm (err m [101,110,100,45,105,110,45,99,111,109,109,101,110,116])
 else if 26≤m.state then dw (err m [101,110,100,45,105,110,45,100,111,99,116,121,112,101]) true
 else if m.state=10 then err (ol m) [101,110,100,45,105,110,45,116,97,103]
 else err m [101,110,100,45,105,110,45,116,97,103]
def ql(m:MS)(fold:Bool):Str→Nat→Nat
 |[],n=>n
 |x::r,n=>if(if fold=true then lw (ahead m n)else ahead m n)=x.toNat then ql m fold r (n+1)else n
def ly(m:MS)(word:Str)(fold:Bool):Nat:=ql m fold word 0
def wait(m:MS)(word:Str)(fold:Bool):Bool:= !m.whole&&decide (ly m word fold<word.length)&&decide (m.pos+ly m word fold=m.l.length)
def jump(m:MS)(n q:Nat):MS:={m with pos:=m.pos+n,state:=q}
def decl(m:MS):Option MS:=
 if(wait m [45,45] false||wait m [100,111,99,116,121,112,101] true||wait m [91,67,68,65,84,65,91] false)=true then none
 else if ly m [45,45] false=2 then some (jump {m with name:=[]} 2 20)
 else if ly m [100,111,99,116,121,112,101] true=7 then some {jump {m with name:=[]} 7 26 with odd:=false}
 else if ly m [91,67,68,65,84,65,91] false=7 then some (jump (add (err {m with name:=[]} [99,100,97,116,97]) [91,67,68,65,84,65,91]) 7 19)
 else some (st (err {m with name:=[]} [100,101,99,108,97,114,97,116,105,111,110]) 19)
def oc:List (Str×Int):=[([104,101,108,108,105,112,59],8230),([110,111,116,105,110,59],8713),([110,98,115,112,59],160),([99,111,112,121,59],169),([113,117,111,116,59],34),([97,112,111,115,59],39),([110,98,115,112],160),([99,111,112,121],169),([113,117,111,116],34),([97,109,112,59],38),([65,77,80,59],38),([110,111,116,59],172),([97,109,112],38),([65,77,80],38),([110,111,116],172),([108,116,59],60),([76,84,59],60),([103,116,59],62),([108,116],60),([76,84],60),([103,116],62)]
def Q0(six:Bool)(c:Int):Int:=
 if 48≤c∧c≤57 then c-48 else if six=true∧97≤c∧c≤102 then c-87 else if six=true∧65≤c∧c≤70 then c-55 else-1
def cap(x:Int):Int:=if 1114112<x then 1114112 else x
def digits(m:MS)(six:Bool):Nat→Nat→Int→Nat×Int
 |0,n,x=>(n,x)
 |f+1,n,x=>if Q0 six (ahead m n)<0 then(n,x)else digits m six f (n+1) (cap ((if six=true then 16 else 10)*x+Q0 six (ahead m n)))
def meant(x:Int):Int×Str:=
 if x=0 then(65533,[110,117,108])else if 1114111<x then(65533,[114,97,110,103,101])else if 55296≤x∧x≤57343 then(65533,[115,117,114,114,111,103,97,116,101])
 else if(64976≤x∧x≤65007)∨65534≤x%65536 then(x,[110,111,110,101])
 else if(1≤x∧x≤31∧x≠9∧x≠10∧x≠12)∨(127≤x∧x≤159)then(if 128≤x∧0<yo.getD (x-128).toNat 0 then yo.getD (x-128).toNat 0 else x,[99,111,110,116,114,111,108])
 else(x,[])
def meaning(m:MS)(x:Int):MS:=if(meant x).2=[]then m else err m (meant x).2
def vf(m:MS):Bool:=ahead m 1==120||ahead m 1==88
def o9(m:MS):Nat:=if vf m=true then 2 else 1
def pe(m:MS):Nat×Int:=digits m (vf m) (m.l.length+1) (o9 m) 0
def number(m:MS):Option MS:=
 if ahead m (pe m).1<0∧m.whole=false then none
 else if(pe m).1=o9 m then
  some {give (give (wrong (st m m.back) [100,105,103,105,116,115] (m.pos+o9 m:Nat)) [38]) ((m.l.drop m.pos).take (o9 m))with pos:=m.pos+o9 m}
 else if ahead m (pe m).1=59 then
  some (give (meaning {st m m.back with pos:=m.pos+(pe m).1+1} (pe m).2) [(meant (pe m).2).1])
 else some (give (meaning {wrong (st m m.back) [115,101,109,105,99,111,108,111,110] (m.pos+(pe m).1:Nat)with pos:=m.pos+(pe m).1} (pe m).2) [(meant (pe m).2).1])
def found(m:MS):Option (Str×Int):=oc.find? fun n=>decide (n.1.length≤ly m n.1 false)
def Bv(s:Str):Bool:=s.getLast?==some 59
def reference(m:MS):Option MS:=
 if ahead m 0<0∧m.whole=false then none
 else if ahead m 0=35 then number m
 else if br (ahead m 0)=false∧fc (ahead m 0)=false then some (st (give m [38]) m.back)
 else if oc.any (fun n=>wait m n.1 false)=true then none
 else match found m with
  |none=>some (st (give m [38]) 33)
  |some n=>
   if Bv n.1=true then some (jump (give m [n.2]) n.1.length m.back)
   else if ahead m n.1.length<0∧m.whole=false then none
   else if td m=true∧(br (ahead m n.1.length)=true∨fc (ahead m n.1.length)=true∨ahead m n.1.length=61)then
    some (jump (give (give m [38]) ((m.l.drop m.pos).take n.1.length)) n.1.length m.back)
   else some (jump (give (wrong m [115,101,109,105,99,111,108,111,110] (m.pos+n.1.length:Nat)) [n.2]) n.1.length m.back)
def step(m:MS):Option MS:=
 if m.state=31 then reference m else if m.state=18 then decl m else if ahead m 0<0 then none else some (look m (ahead m 0))
def final(m:MS):MS:=if m.state≠31∧m.state≠18∧m.whole=true then ends m else m
def runs:Nat→MS→MS→Prop
 |0,m,m'=>step m=none∧m'=m
 |n+1,m,m'=>∃m1,step m=some m1∧runs n m1 m'
end Go.Proofs.YtdfmapcnfficlaaGreatDoor.M
namespace Go.Proofs.YtdfmapcnfficlaaGreatDoor.M
open Go Go.RowKit Go.Proofs.YtdfmapcnfficlaaGreatDoor
structure MR where
 l:Sl
 told:Sl
 text:Sl
 attrs:Sl
 name:Sl
 buf:Sl
 key:Sl
 value:Sl
 cz:List Sl
def sl(r:Sl)(n:Nat):Value:= .slice r.a n r.cap
def mc(m:MS)(R:MR):Array Value:=
 #[.slice R.l.a m.l.length R.l.cap,.int .i64 m.pos,.bool m.whole,.slice R.told.a m.told.length R.told.cap,.slice R.text.a m.text.length R.text.cap,.string ⟨(qc m.state).toArray⟩,.string ⟨(qc m.base).toArray⟩,.string ⟨(qc m.back).toArray⟩,
  .int .i64 m.kind,.string ⟨m.fi.toArray⟩,.slice R.attrs.a m.attrs.length R.attrs.cap,.string ⟨#[]⟩,.bool m.flag,.int .i64 0,
  .slice R.name.a m.name.length R.name.cap,.slice R.buf.a m.buf.length R.buf.cap,.slice R.key.a m.key.length R.key.cap,.slice R.value.a m.value.length R.value.cap,.bool m.opn,.bool m.drop,.string ⟨m.last.toArray⟩,.bool m.odd]
def pi(r:Sl)(l:List Tok)(ta:List Sl):Item:=⟨144,6,r.a,l.length,r.cap,eh l ta⟩
def m8(g:Bool)(r:Sl)(l:List Str):List Item:=if g=true then[]else[lr r l]
def kt(m:MS)(R:MR):List Item:=[ck R.l m.l,ck R.text m.text,ck R.name m.name,ck R.buf m.buf,ck R.key m.key,ck R.value m.value,pi R.told m.told R.cz]++(m8 m.gone R.attrs m.attrs++cw m.told R.cz)
structure MOk(m:MS):Prop where
 l:∀c∈m.l,Pt c
 text:∀c∈m.text,Pt c
 name:∀c∈m.name,Pt c
 buf:∀c∈m.buf,Pt c
 key:∀c∈m.key,Pt c
 value:∀c∈m.value,Pt c
 ll:m.l.length≤lim
 pl:m.pos≤m.l.length
structure rh(w0:World)(aj:Nat→Prop)(b:Nat)(m:MS)(R:MR)(ex:List Item)(w:World):Prop where
 obj:pm w (fun k=>aj k∨w0.heap.size≤k) b 161 (mc m R) (kt m R++ex)
 lt:R.cz.length=m.told.length
 ok:MOk m
 kept:Kept aj w0 w
def Mk(w0:World)(aj:Nat→Prop)(b:Nat)(m:MS)(ex:List Item)(w:World):Prop:=∃R,rh w0 aj b m R ex w
section
variable{w0:World}{aj:Nat→Prop}{b:Nat}{m m':MS}{R:MR}{ex:List Item}{w w1 w':World}
theorem rh.out(h:rh w0 aj b m R ex w):Mk w0 aj b m ex w:=⟨R,h⟩
theorem rh.cell(h:rh w0 aj b m R ex w)(o:Nat):w.cell? ⟨b,o,none⟩=(mc m R)[o]? :=h.obj.cell o
theorem rh.frozen(h:rh w0 aj b m R ex w)(o:Nat):w.frozen? ⟨b,o,none⟩=false:=h.obj.frozen o
theorem rh.more(h:rh w0 aj b m R ex w)(hm:More w w1):rh w0 aj b m R ex w1:=⟨h.obj.more hm,h.lt,h.ok,h.kept.more hm⟩
theorem Mk.more(h:Mk w0 aj b m ex w)(hm:More w w1):Mk w0 aj b m ex w1:=by obtain⟨R,h⟩:=h;exact⟨R,h.more hm⟩
theorem rh.set(h:rh w0 aj b m R ex w)(o:Nat)(v:Value)(hc:(mc m R).setIfInBounds o v=mc m' R)(hi:kt m' R=kt m R)(ht:m'.told=m.told)(hok:MOk m'):rh w0 aj b m' R ex (w.setCell ⟨b,o,none⟩ v):=
 ⟨by rw[hi];exact h.obj.set o v hc,by rw[ht];exact h.lt,hok,h.kept.setCell o v h.obj.ownB⟩
theorem rh.fresh(h:rh w0 aj b m R ex w)(hm:More w w'):rh w' (yj w0 aj w) b m R ex w':=⟨h.obj.fresh hm,h.lt,h.ok,Kept.refl _ _⟩
theorem rh.qn{w2:World}(h:rh w1 (yj w0 aj w) b m R ex w2)(hk:Kept aj w0 w1):rh w0 aj b m R ex w2:=⟨h.obj.qn hk,h.lt,h.ok,Ue hk h.kept⟩
theorem rh.stands{w2:World}(h:rh w1 (yj w0 aj w) b m R ex w2){g:Nat}(h1:w.heap.size≤g)(h2:g<w1.heap.size):w2.heap[g]? =w1.heap[g]? :=
 h.kept.block g h2 (fun hh=>by have:=hh.2;omega)
theorem Mk.fresh(h:Mk w0 aj b m ex w)(hm:More w w'):Mk w' (yj w0 aj w) b m ex w':=by obtain⟨R,h⟩:=h;exact⟨R,h.fresh hm⟩
theorem Mk.qn{w2:World}(h:Mk w1 (yj w0 aj w) b m ex w2)(hk:Kept aj w0 w1):Mk w0 aj b m ex w2:=by obtain⟨R,h⟩:=h;exact⟨R,h.qn hk⟩
theorem Mk.kept(h:Mk w0 aj b m ex w):Kept aj w0 w:=by obtain⟨R,h⟩:=h;exact h.kept
theorem Mk.ok(h:Mk w0 aj b m ex w):MOk m:=by obtain⟨R,h⟩:=h;exact h.ok
theorem Mk.stands{w2:World}(h:Mk w1 (yj w0 aj w) b m ex w2){g:Nat}(h1:w.heap.size≤g)(h2:g<w1.heap.size):w2.heap[g]? =w1.heap[g]? :=by obtain⟨R,h⟩:=h;exact h.stands h1 h2
theorem rh.px(h:rh w0 aj b m R ex w):(ck R.text m.text).ok w:=h.obj.ok (by simp[kt])
theorem rh.po(h:rh w0 aj b m R ex w)(hm:More w w1)(x:List Int)(r':Sl)(hok:(ck r' x).ok w')(hg:w1.grownBy w' (R.text.a.map (·.block)))(hf:o0 w1 R.text.a r'.a)(hp:∀c∈x,Pt c):
  w'.heap[b]? =some (.cells (mc m R) 161 (0,0))∧rh w0 aj b {m with text:=x} {R with text:=r'} ex (w'.setCell ⟨b,4,none⟩ (.slice r'.a x.length r'.cap)):=by
 have hit:ck R.text m.text∈kt m R++ex:=by simp[kt]
 refine⟨h.obj.mid hm hit hg,?_,h.lt,⟨h.ok.l,hp,h.ok.name,h.ok.buf,h.ok.key,h.ok.value,h.ok.ll,h.ok.pl⟩,(h.kept.grown hm hg fun k hk=>(h.obj.qm hit k hk).1).setCell 4 _ h.obj.ownB⟩
 exact h.obj.grow hm (Na h.kept) ([ck R.l m.l]) ([ck R.name m.name,ck R.buf m.buf,ck R.key m.key,ck R.value m.value,pi R.told m.told R.cz]++(m8 m.gone R.attrs m.attrs++cw m.told R.cz)++ex) (ck R.text m.text) (ck r' x) (by simp[kt]) (by simp[kt]) hok hg hf 4 _ rfl
theorem rh.Nj(h:rh w0 aj b m R ex w):rh w0 aj b {m with text:=[]} {R with text:=⟨none,0⟩} ex (w.setCell ⟨b,4,none⟩ (.slice none 0 0)):=by
 refine⟨?_,h.lt,⟨h.ok.l,(by simp),h.ok.name,h.ok.buf,h.ok.key,h.ok.value,h.ok.ll,h.ok.pl⟩,h.kept.setCell 4 _ h.obj.ownB⟩
 refine(h.obj.less ([ck R.l m.l]++([ck R.name m.name,ck R.buf m.buf,ck R.key m.key,ck R.value m.value,pi R.told m.told R.cz]++(m8 m.gone R.attrs m.attrs++cw m.told R.cz)++ex)) [ck R.text m.text] [ck ⟨none,0⟩ []] ?_ ?_ ?_).set 4 _ rfl
 ·exact List.Perm.trans (by simp[kt]) (qw ([ck R.l m.l]) ([ck R.name m.name,ck R.buf m.buf,ck R.key m.key,ck R.value m.value,pi R.told m.told R.cz]++(m8 m.gone R.attrs m.attrs++cw m.told R.cz)++ex) (ck R.text m.text))
 ·intro it hi;rw[de.1 hi];exact⟨uv w,rfl⟩
 ·exact List.Perm.trans (by simp[kt]) (qw ([ck R.l m.l]) ([ck R.name m.name,ck R.buf m.buf,ck R.key m.key,ck R.value m.value,pi R.told m.told R.cz]++(m8 m.gone R.attrs m.attrs++cw m.told R.cz)++ex) (ck ⟨none,0⟩ []))
theorem rh.qx(h:rh w0 aj b m R ex w):(ck R.name m.name).ok w:=h.obj.ok (by simp[kt])
theorem rh.ux(h:rh w0 aj b m R ex w)(hm:More w w1)(x:List Int)(r':Sl)(hok:(ck r' x).ok w')(hg:w1.grownBy w' (R.name.a.map (·.block)))(hf:o0 w1 R.name.a r'.a)(hp:∀c∈x,Pt c):
  w'.heap[b]? =some (.cells (mc m R) 161 (0,0))∧rh w0 aj b {m with name:=x} {R with name:=r'} ex (w'.setCell ⟨b,14,none⟩ (.slice r'.a x.length r'.cap)):=by
 have hit:ck R.name m.name∈kt m R++ex:=by simp[kt]
 refine⟨h.obj.mid hm hit hg,?_,h.lt,⟨h.ok.l,h.ok.text,hp,h.ok.buf,h.ok.key,h.ok.value,h.ok.ll,h.ok.pl⟩,(h.kept.grown hm hg fun k hk=>(h.obj.qm hit k hk).1).setCell 14 _ h.obj.ownB⟩
 exact h.obj.grow hm (Na h.kept) ([ck R.l m.l,ck R.text m.text]) ([ck R.buf m.buf,ck R.key m.key,ck R.value m.value,pi R.told m.told R.cz]++(m8 m.gone R.attrs m.attrs++cw m.told R.cz)++ex) (ck R.name m.name) (ck r' x) (by simp[kt]) (by simp[kt]) hok hg hf 14 _ rfl
theorem rh.qy(h:rh w0 aj b m R ex w):rh w0 aj b {m with name:=[]} {R with name:=⟨none,0⟩} ex (w.setCell ⟨b,14,none⟩ (.slice none 0 0)):=by
 refine⟨?_,h.lt,⟨h.ok.l,h.ok.text,(by simp),h.ok.buf,h.ok.key,h.ok.value,h.ok.ll,h.ok.pl⟩,h.kept.setCell 14 _ h.obj.ownB⟩
 refine(h.obj.less ([ck R.l m.l,ck R.text m.text]++([ck R.buf m.buf,ck R.key m.key,ck R.value m.value,pi R.told m.told R.cz]++(m8 m.gone R.attrs m.attrs++cw m.told R.cz)++ex)) [ck R.name m.name] [ck ⟨none,0⟩ []] ?_ ?_ ?_).set 14 _ rfl
 ·exact List.Perm.trans (by simp[kt]) (qw ([ck R.l m.l,ck R.text m.text]) ([ck R.buf m.buf,ck R.key m.key,ck R.value m.value,pi R.told m.told R.cz]++(m8 m.gone R.attrs m.attrs++cw m.told R.cz)++ex) (ck R.name m.name))
 ·intro it hi;rw[de.1 hi];exact⟨uv w,rfl⟩
 ·exact List.Perm.trans (by simp[kt]) (qw ([ck R.l m.l,ck R.text m.text]) ([ck R.buf m.buf,ck R.key m.key,ck R.value m.value,pi R.told m.told R.cz]++(m8 m.gone R.attrs m.attrs++cw m.told R.cz)++ex) (ck ⟨none,0⟩ []))
theorem rh.F3(h:rh w0 aj b m R ex w):(ck R.buf m.buf).ok w:=h.obj.ok (by simp[kt])
theorem rh.zgl(h:rh w0 aj b m R ex w)(hm:More w w1)(x:List Int)(r':Sl)(hok:(ck r' x).ok w')(hg:w1.grownBy w' (R.buf.a.map (·.block)))(hf:o0 w1 R.buf.a r'.a)(hp:∀c∈x,Pt c):
  w'.heap[b]? =some (.cells (mc m R) 161 (0,0))∧rh w0 aj b {m with buf:=x} {R with buf:=r'} ex (w'.setCell ⟨b,15,none⟩ (.slice r'.a x.length r'.cap)):=by
 have hit:ck R.buf m.buf∈kt m R++ex:=by simp[kt]
 refine⟨h.obj.mid hm hit hg,?_,h.lt,⟨h.ok.l,h.ok.text,h.ok.name,hp,h.ok.key,h.ok.value,h.ok.ll,h.ok.pl⟩,(h.kept.grown hm hg fun k hk=>(h.obj.qm hit k hk).1).setCell 15 _ h.obj.ownB⟩
 exact h.obj.grow hm (Na h.kept) ([ck R.l m.l,ck R.text m.text,ck R.name m.name]) ([ck R.key m.key,ck R.value m.value,pi R.told m.told R.cz]++(m8 m.gone R.attrs m.attrs++cw m.told R.cz)++ex) (ck R.buf m.buf) (ck r' x) (by simp[kt]) (by simp[kt]) hok hg hf 15 _ rfl
theorem rh.Uj(h:rh w0 aj b m R ex w):rh w0 aj b {m with buf:=[]} {R with buf:=⟨none,0⟩} ex (w.setCell ⟨b,15,none⟩ (.slice none 0 0)):=by
 refine⟨?_,h.lt,⟨h.ok.l,h.ok.text,h.ok.name,(by simp),h.ok.key,h.ok.value,h.ok.ll,h.ok.pl⟩,h.kept.setCell 15 _ h.obj.ownB⟩
 refine(h.obj.less ([ck R.l m.l,ck R.text m.text,ck R.name m.name]++([ck R.key m.key,ck R.value m.value,pi R.told m.told R.cz]++(m8 m.gone R.attrs m.attrs++cw m.told R.cz)++ex)) [ck R.buf m.buf] [ck ⟨none,0⟩ []] ?_ ?_ ?_).set 15 _ rfl
 ·exact List.Perm.trans (by simp[kt]) (qw ([ck R.l m.l,ck R.text m.text,ck R.name m.name]) ([ck R.key m.key,ck R.value m.value,pi R.told m.told R.cz]++(m8 m.gone R.attrs m.attrs++cw m.told R.cz)++ex) (ck R.buf m.buf))
 ·intro it hi;rw[de.1 hi];exact⟨uv w,rfl⟩
 ·exact List.Perm.trans (by simp[kt]) (qw ([ck R.l m.l,ck R.text m.text,ck R.name m.name]) ([ck R.key m.key,ck R.value m.value,pi R.told m.told R.cz]++(m8 m.gone R.attrs m.attrs++cw m.told R.cz)++ex) (ck ⟨none,0⟩ []))
theorem rh.C1(h:rh w0 aj b m R ex w):(ck R.key m.key).ok w:=h.obj.ok (by simp[kt])
theorem rh.Eo(h:rh w0 aj b m R ex w)(hm:More w w1)(x:List Int)(r':Sl)(hok:(ck r' x).ok w')(hg:w1.grownBy w' (R.key.a.map (·.block)))(hf:o0 w1 R.key.a r'.a)(hp:∀c∈x,Pt c):
  w'.heap[b]? =some (.cells (mc m R) 161 (0,0))∧rh w0 aj b {m with key:=x} {R with key:=r'} ex (w'.setCell ⟨b,16,none⟩ (.slice r'.a x.length r'.cap)):=by
 have hit:ck R.key m.key∈kt m R++ex:=by simp[kt]
 refine⟨h.obj.mid hm hit hg,?_,h.lt,⟨h.ok.l,h.ok.text,h.ok.name,h.ok.buf,hp,h.ok.value,h.ok.ll,h.ok.pl⟩,(h.kept.grown hm hg fun k hk=>(h.obj.qm hit k hk).1).setCell 16 _ h.obj.ownB⟩
 exact h.obj.grow hm (Na h.kept) ([ck R.l m.l,ck R.text m.text,ck R.name m.name,ck R.buf m.buf]) ([ck R.value m.value,pi R.told m.told R.cz]++(m8 m.gone R.attrs m.attrs++cw m.told R.cz)++ex) (ck R.key m.key) (ck r' x) (by simp[kt]) (by simp[kt]) hok hg hf 16 _ rfl
theorem rh.Uk(h:rh w0 aj b m R ex w):rh w0 aj b {m with key:=[]} {R with key:=⟨none,0⟩} ex (w.setCell ⟨b,16,none⟩ (.slice none 0 0)):=by
 refine⟨?_,h.lt,⟨h.ok.l,h.ok.text,h.ok.name,h.ok.buf,(by simp),h.ok.value,h.ok.ll,h.ok.pl⟩,h.kept.setCell 16 _ h.obj.ownB⟩
 refine(h.obj.less ([ck R.l m.l,ck R.text m.text,ck R.name m.name,ck R.buf m.buf]++([ck R.value m.value,pi R.told m.told R.cz]++(m8 m.gone R.attrs m.attrs++cw m.told R.cz)++ex)) [ck R.key m.key] [ck ⟨none,0⟩ []] ?_ ?_ ?_).set 16 _ rfl
 ·exact List.Perm.trans (by simp[kt]) (qw ([ck R.l m.l,ck R.text m.text,ck R.name m.name,ck R.buf m.buf]) ([ck R.value m.value,pi R.told m.told R.cz]++(m8 m.gone R.attrs m.attrs++cw m.told R.cz)++ex) (ck R.key m.key))
 ·intro it hi;rw[de.1 hi];exact⟨uv w,rfl⟩
 ·exact List.Perm.trans (by simp[kt]) (qw ([ck R.l m.l,ck R.text m.text,ck R.name m.name,ck R.buf m.buf]) ([ck R.value m.value,pi R.told m.told R.cz]++(m8 m.gone R.attrs m.attrs++cw m.told R.cz)++ex) (ck ⟨none,0⟩ []))
theorem rh.uc(h:rh w0 aj b m R ex w):(ck R.value m.value).ok w:=h.obj.ok (by simp[kt])
theorem rh.rl(h:rh w0 aj b m R ex w)(hm:More w w1)(x:List Int)(r':Sl)(hok:(ck r' x).ok w')(hg:w1.grownBy w' (R.value.a.map (·.block)))(hf:o0 w1 R.value.a r'.a)(hp:∀c∈x,Pt c):
  w'.heap[b]? =some (.cells (mc m R) 161 (0,0))∧rh w0 aj b {m with value:=x} {R with value:=r'} ex (w'.setCell ⟨b,17,none⟩ (.slice r'.a x.length r'.cap)):=by
 have hit:ck R.value m.value∈kt m R++ex:=by simp[kt]
 refine⟨h.obj.mid hm hit hg,?_,h.lt,⟨h.ok.l,h.ok.text,h.ok.name,h.ok.buf,h.ok.key,hp,h.ok.ll,h.ok.pl⟩,(h.kept.grown hm hg fun k hk=>(h.obj.qm hit k hk).1).setCell 17 _ h.obj.ownB⟩
 exact h.obj.grow hm (Na h.kept) ([ck R.l m.l,ck R.text m.text,ck R.name m.name,ck R.buf m.buf,ck R.key m.key]) ([pi R.told m.told R.cz]++(m8 m.gone R.attrs m.attrs++cw m.told R.cz)++ex) (ck R.value m.value) (ck r' x) (by simp[kt]) (by simp[kt]) hok hg hf 17 _ rfl
theorem rh.Jo(h:rh w0 aj b m R ex w):rh w0 aj b {m with value:=[]} {R with value:=⟨none,0⟩} ex (w.setCell ⟨b,17,none⟩ (.slice none 0 0)):=by
 refine⟨?_,h.lt,⟨h.ok.l,h.ok.text,h.ok.name,h.ok.buf,h.ok.key,(by simp),h.ok.ll,h.ok.pl⟩,h.kept.setCell 17 _ h.obj.ownB⟩
 refine(h.obj.less ([ck R.l m.l,ck R.text m.text,ck R.name m.name,ck R.buf m.buf,ck R.key m.key]++([pi R.told m.told R.cz]++(m8 m.gone R.attrs m.attrs++cw m.told R.cz)++ex)) [ck R.value m.value] [ck ⟨none,0⟩ []] ?_ ?_ ?_).set 17 _ rfl
 ·exact List.Perm.trans (by simp[kt]) (qw ([ck R.l m.l,ck R.text m.text,ck R.name m.name,ck R.buf m.buf,ck R.key m.key]) ([pi R.told m.told R.cz]++(m8 m.gone R.attrs m.attrs++cw m.told R.cz)++ex) (ck R.value m.value))
 ·intro it hi;rw[de.1 hi];exact⟨uv w,rfl⟩
 ·exact List.Perm.trans (by simp[kt]) (qw ([ck R.l m.l,ck R.text m.text,ck R.name m.name,ck R.buf m.buf,ck R.key m.key]) ([pi R.told m.told R.cz]++(m8 m.gone R.attrs m.attrs++cw m.told R.cz)++ex) (ck ⟨none,0⟩ []))
theorem rh.Nk(h:rh w0 aj b m R ex w):(pi R.told m.told R.cz).ok w:=h.obj.ok (by simp[kt])
theorem rh.W8(h:rh w0 aj b m R ex w):(ck R.l m.l).ok w:=h.obj.ok (by simp[kt])
def cj(m:MS)(t:Tok):MS:={m with told:=m.told++[t]}
theorem rh.yl(t:Tok)(x:Sl)(h:rh w0 aj b m R (lr x t.attrs::ex) w)(hm:More w w1)(a':Addr)(cap':Nat)
  (hown:w'.ownsRow 0 144 6 (.slice (some a') (m.told.length+1) cap') (m.told.length+1) (eh m.told R.cz++fq t x)) (hg:w1.grownBy w' (R.told.a.map (·.block))) (hf:some a'.block=R.told.a.map (·.block)∨w1.heap.size≤a'.block):
  w'.heap[b]? =some (.cells (mc m R) 161 (0,0))∧rh w0 aj b (cj m t) {R with told:=⟨some a',cap'⟩,cz:=R.cz++[x]} ex (w'.setCell ⟨b,3,none⟩ (.slice (some a') (m.told.length+1) cap')):=by
 have hit:pi R.told m.told R.cz∈kt m R++lr x t.attrs::ex:=by simp[kt]
 refine⟨h.obj.mid hm hit hg,?_,by simp[cj,h.lt],⟨h.ok.l,h.ok.text,h.ok.name,h.ok.buf,h.ok.key,h.ok.value,h.ok.ll,h.ok.pl⟩,(h.kept.grown hm hg fun k hk=>(h.obj.qm hit k hk).1).setCell 3 _ h.obj.ownB⟩
 refine h.obj.grow hm (Na h.kept) [ck R.l m.l,ck R.text m.text,ck R.name m.name,ck R.buf m.buf,ck R.key m.key,ck R.value m.value] (m8 m.gone R.attrs m.attrs++cw m.told R.cz++lr x t.attrs::ex) (pi R.told m.told R.cz) ⟨144,6,some a',m.told.length+1,cap',eh m.told R.cz++fq t x⟩ (by simp[kt])
  (by simp[kt,pi,cj,ul t x _ _ h.lt,xr t x _ _ h.lt]) hown hg ?_ 3 _ (by simp[mc,cj])
 rcases hf with hf|hf
 ·exact .inl (by simpa[Item.blk,pi]using hf)
 ·exact .inr ⟨a'.block,rfl,hf⟩
theorem rh.bare(h:rh w0 aj b m R ex w):rh w0 aj b m R (lr ⟨none,0⟩ []::ex) w:=
 ⟨(h.obj.bare (xq w) rfl).perm (by rw[fm];exact List.Perm.append_left _ (List.perm_append_comm)),h.lt,h.ok,h.kept⟩
theorem Mk.setState(q:Nat)(h:Mk w0 aj b m ex w):Mk w0 aj b {m with state:=q} ex (w.setCell ⟨b,5,none⟩ (.string ⟨(qc q).toArray⟩)):=by
 obtain⟨R,h⟩:=h;exact⟨R,h.set 5 _ rfl rfl rfl ⟨h.ok.l,h.ok.text,h.ok.name,h.ok.buf,h.ok.key,h.ok.value,h.ok.ll,h.ok.pl⟩⟩
theorem Mk.Mw(q:Nat)(h:Mk w0 aj b m ex w):Mk w0 aj b {m with base:=q} ex (w.setCell ⟨b,6,none⟩ (.string ⟨(qc q).toArray⟩)):=by
 obtain⟨R,h⟩:=h;exact⟨R,h.set 6 _ rfl rfl rfl ⟨h.ok.l,h.ok.text,h.ok.name,h.ok.buf,h.ok.key,h.ok.value,h.ok.ll,h.ok.pl⟩⟩
theorem Mk.C2(q:Nat)(h:Mk w0 aj b m ex w):Mk w0 aj b {m with back:=q} ex (w.setCell ⟨b,7,none⟩ (.string ⟨(qc q).toArray⟩)):=by
 obtain⟨R,h⟩:=h;exact⟨R,h.set 7 _ rfl rfl rfl ⟨h.ok.l,h.ok.text,h.ok.name,h.ok.buf,h.ok.key,h.ok.value,h.ok.ll,h.ok.pl⟩⟩
theorem Mk.setPos(k:Nat)(hk:k≤m.l.length)(h:Mk w0 aj b m ex w):Mk w0 aj b {m with pos:=k} ex (w.setCell ⟨b,1,none⟩ (.int .i64 k)):=by
 obtain⟨R,h⟩:=h;exact⟨R,h.set 1 _ rfl rfl rfl ⟨h.ok.l,h.ok.text,h.ok.name,h.ok.buf,h.ok.key,h.ok.value,h.ok.ll,hk⟩⟩
theorem Mk.Ul(v:Bool)(h:Mk w0 aj b m ex w):Mk w0 aj b {m with flag:=v} ex (w.setCell ⟨b,12,none⟩ (.bool v)):=by
 obtain⟨R,h⟩:=h;exact⟨R,h.set 12 _ rfl rfl rfl ⟨h.ok.l,h.ok.text,h.ok.name,h.ok.buf,h.ok.key,h.ok.value,h.ok.ll,h.ok.pl⟩⟩
theorem Mk.Mx(v:Bool)(h:Mk w0 aj b m ex w):Mk w0 aj b {m with opn:=v} ex (w.setCell ⟨b,18,none⟩ (.bool v)):=by
 obtain⟨R,h⟩:=h;exact⟨R,h.set 18 _ rfl rfl rfl ⟨h.ok.l,h.ok.text,h.ok.name,h.ok.buf,h.ok.key,h.ok.value,h.ok.ll,h.ok.pl⟩⟩
theorem Mk.zcx(v:Bool)(h:Mk w0 aj b m ex w):Mk w0 aj b {m with drop:=v} ex (w.setCell ⟨b,19,none⟩ (.bool v)):=by
 obtain⟨R,h⟩:=h;exact⟨R,h.set 19 _ rfl rfl rfl ⟨h.ok.l,h.ok.text,h.ok.name,h.ok.buf,h.ok.key,h.ok.value,h.ok.ll,h.ok.pl⟩⟩
theorem Mk.Um(v:Bool)(h:Mk w0 aj b m ex w):Mk w0 aj b {m with odd:=v} ex (w.setCell ⟨b,21,none⟩ (.bool v)):=by
 obtain⟨R,h⟩:=h;exact⟨R,h.set 21 _ rfl rfl rfl ⟨h.ok.l,h.ok.text,h.ok.name,h.ok.buf,h.ok.key,h.ok.value,h.ok.ll,h.ok.pl⟩⟩
theorem Mk.setLast(v:Str)(h:Mk w0 aj b m ex w):Mk w0 aj b {m with last:=v} ex (w.setCell ⟨b,20,none⟩ (.string ⟨v.toArray⟩)):=by
 obtain⟨R,h⟩:=h;exact⟨R,h.set 20 _ rfl rfl rfl ⟨h.ok.l,h.ok.text,h.ok.name,h.ok.buf,h.ok.key,h.ok.value,h.ok.ll,h.ok.pl⟩⟩
theorem Mk.Ep(v:Str)(h:Mk w0 aj b m ex w):Mk w0 aj b {m with fi:=v} ex (w.setCell ⟨b,9,none⟩ (.string ⟨v.toArray⟩)):=by
 obtain⟨R,h⟩:=h;exact⟨R,h.set 9 _ rfl rfl rfl ⟨h.ok.l,h.ok.text,h.ok.name,h.ok.buf,h.ok.key,h.ok.value,h.ok.ll,h.ok.pl⟩⟩
theorem Mk.Nj(h:Mk w0 aj b m ex w):Mk w0 aj b {m with text:=[]} ex (w.setCell ⟨b,4,none⟩ (.slice none 0 0)):=by
 obtain⟨R,h⟩:=h;exact⟨_,h.Nj⟩
theorem Mk.qy(h:Mk w0 aj b m ex w):Mk w0 aj b {m with name:=[]} ex (w.setCell ⟨b,14,none⟩ (.slice none 0 0)):=by
 obtain⟨R,h⟩:=h;exact⟨_,h.qy⟩
theorem Mk.Uj(h:Mk w0 aj b m ex w):Mk w0 aj b {m with buf:=[]} ex (w.setCell ⟨b,15,none⟩ (.slice none 0 0)):=by
 obtain⟨R,h⟩:=h;exact⟨_,h.Uj⟩
theorem Mk.Uk(h:Mk w0 aj b m ex w):Mk w0 aj b {m with key:=[]} ex (w.setCell ⟨b,16,none⟩ (.slice none 0 0)):=by
 obtain⟨R,h⟩:=h;exact⟨_,h.Uk⟩
theorem Mk.Jo(h:Mk w0 aj b m ex w):Mk w0 aj b {m with value:=[]} ex (w.setCell ⟨b,17,none⟩ (.slice none 0 0)):=by
 obtain⟨R,h⟩:=h;exact⟨_,h.Jo⟩
end
end Go.Proofs.YtdfmapcnfficlaaGreatDoor.M

import Derived.Test.YtdfmapcnfficlaaGreatDoorP28
import Derived.Lib.MapLaws
set_option linter.all false
set_option maxHeartbeats 4000000
namespace Go.Proofs.YtdfmapcnfficlaaGreatDoor
open Go Go.RowKit
def A2(q:Int):Prop:=q=0∨q=1∨q=2
def zbf(q:Int):Prop:=q=0∨q=1∨q=13∨q=14∨q=15
structure Good(s:TS)(c:Int):Prop where
 st0:0≤s.state
 st1:s.state≤35
 base:A2 s.base
 decl:s.declared.length≤8
 num:rp s.state=true→Ey s
 come:rp s.state=true→s.di.length≤8
 back:rp s.state=true→zbf s.ev
 val:rp s.state=true→l8 s.ev=true→s.tag.cy≠[]
 Gq:Il s.state=true→s.tag.cy≠[]
 after:s.state=11→s.tag.cy≠[]∨c=47∨c=62∨c= -1
 hash:s.state=34→s.di.length≤1
theorem Om{q:Int}{p:Prop}(h:rp q=false):q=34→p:=fun e=>by subst e;cases h
def M2(q:Int):Prop:=0≤q∧q≤35∧rp q=false∧Il q=false∧q≠11
theorem Good.plain{s t:TS}{c c':Int}(g:Good s c)(hp:M2 t.state)(hb:A2 t.base)(hd:t.declared.length≤8):Good t c':=
 ⟨hp.1,hp.2.1,hb,hd,(fun h=>by rw[hp.2.2.1]at h;cases h),(fun h=>by rw[hp.2.2.1]at h;cases h),(fun h=>by rw[hp.2.2.1]at h;cases h),(fun h=>by rw[hp.2.2.1]at h;cases h),(fun h=>by rw[hp.2.2.2.1]at h;cases h),fun h=>absurd h hp.2.2.2.2,Om hp.2.2.1⟩
theorem Good.cy{s t:TS}{c c':Int}(g:Good s c)(h0:0≤t.state∧t.state≤35∧rp t.state=false)(ha:t.tag.cy≠[])(hb:A2 t.base)(hd:t.declared.length≤8):Good t c':=
 ⟨h0.1,h0.2.1,hb,hd,(fun h=>by rw[h0.2.2]at h;cases h),(fun h=>by rw[h0.2.2]at h;cases h),(fun h=>by rw[h0.2.2]at h;cases h),(fun h=>by rw[h0.2.2]at h;cases h),fun _=>ha,fun _=> .inl ha,Om h0.2.2⟩
def rank(q c:Int):Nat:=
 if q=3∨q=4∨q=5∨q=7∨q=12∨q=18∨q=20∨q=23∨q=24∨q=25∨q=26∨q=29∨q=33∨q=35 then 1
 else if q=6∨q=9∨q=21∨q=32∨q=34 then 2
 else if q=16∨q=17∨q=31 then 3
 else if q=10 then(if ba c=true∨c=47∨c=62∨c= -1 then 1 else 0)
 else if q=11 then(if ba c=true∨c=47∨c=61∨c=62∨c= -1 then 0 else 1)
 else 0
theorem M3(q c:Int):rank q c≤3:=by
 unfold rank
 repeat' split
 all_goals omega
def Leaves(s:TS)(c:Int)(r:Int×TS):Prop:=
 (r.1=0∧(c≠ -1→∀c',Good r.2 c'))∨(r.1=1∧Good r.2 c∧rank r.2.state c<rank s.state c)
theorem f9(q:Int)(h:(decide (0≤q)&&decide (q≤35)&& !rp q&& !Il q&& !(q==11))=true):M2 q:=by
 simp only[Bool.and_eq_true,decide_eq_true_eq,Bool.not_eq_true',af]at h
 exact⟨h.1.1.1.1,h.1.1.1.2,h.1.1.2,h.1.2,h.2⟩
theorem Gx(s:TS):(dx s).state=0:=rfl
theorem Gy(s:TS):(d9 s).state=0:=rfl
theorem Fb(s:TS):(du s).state=31:=rfl
theorem Gz(s:TS):(du s).base=s.base:=rfl
theorem G0(s:TS):(du s).declared=s.declared:=rfl
theorem FR:type_of% @FR0∧type_of% @Gx∧type_of% @Gy∧type_of% @Fb∧type_of% @Gz∧type_of% @G0:=
 ⟨@FR0,@Gx,@Gy,@Fb,@Gz,@G0⟩
theorem A3(s:TS):(mh s).state=(mh s).base∧A2 (mh s).base:=by
 unfold mh
 split
 ·refine⟨rfl,?_⟩
  show A2 (kh s.tag.name)
  unfold kh A2
  repeat' split
  all_goals simp
 ·exact⟨rfl,.inl rfl⟩
theorem fu(s:TS):A2 (mh s).base:=(A3 s).2
theorem On{q:Int}(h:A2 q):M2 q:=by
 rcases h with h|h|h<;>(rw[h];exact f9 _ rfl)
theorem j0(s:TS):M2 (mh s).state:=by rw[(A3 s).1];exact On (A3 s).2
theorem zbg(c:Int):rank 11 c≤1:=by
 show(if ba c=true∨c=47∨c=61∨c=62∨c= -1 then 0 else 1)≤1
 split<;>omega
theorem zez(c:Int):rank 10 c≤1:=by
 show(if ba c=true∨c=47∨c=62∨c= -1 then 1 else 0)≤1
 split<;>omega
theorem Yf(c:Int)(h:ba c=true∨c=47∨c=61∨c=62∨c= -1):rank 11 c=0:=by
 show(if ba c=true∨c=47∨c=61∨c=62∨c= -1 then 0 else 1)=0
 rw[au h]
theorem Yg(c:Int)(h:¬(ba c=true∨c=47∨c=61∨c=62∨c= -1)):rank 11 c=1:=by
 show(if ba c=true∨c=47∨c=61∨c=62∨c= -1 then 0 else 1)=1
 rw[ag h]
theorem zbh(c:Int)(h:ba c=true∨c=47∨c=62∨c= -1):rank 10 c=1:=by
 show(if ba c=true∨c=47∨c=62∨c= -1 then 1 else 0)=1
 rw[au h]
theorem zbi(c:Int)(h:¬(ba c=true∨c=47∨c=62∨c= -1)):rank 10 c=0:=by
 show(if ba c=true∨c=47∨c=62∨c= -1 then 1 else 0)=0
 rw[ag h]
theorem Good.zc5{s t:TS}{c:Int}(g:Good s c)(hst:t.state=11)(h:t.tag.cy≠[]∨c=47∨c=62∨c= -1)(hb:A2 t.base)(hd:t.declared.length≤8):Good t c:=
 ⟨by rw[hst];decide,by rw[hst];decide,hb,hd,(fun h=>by rw[hst]at h;cases h),(fun h=>by rw[hst]at h;cases h),(fun h=>by rw[hst]at h;cases h),(fun h=>by rw[hst]at h;cases h),(fun h=>by rw[hst]at h;cases h),fun _=>h,Om (by rw[hst];rfl)⟩
theorem Good.zc6{s:TS}{c:Int}(g:Good s c)(hst:s.state=11)(h1:c≠47)(h2:c≠62)(h3:c≠ -1):s.tag.cy≠[]:=by
 rcases g.after hst with h|h|h|h
 ·exact h
 ·exact absurd h h1
 ·exact absurd h h2
 ·exact absurd h h3
theorem ze0{q c:Int}(h:A2 q):rank q c=0:=by
 rcases h with h|h|h<;>(rw[h];rfl)
theorem ze1{s t:TS}{c c':Int}(g:Good s c)(h:t.state=s.base)(hb:A2 t.base)(hd:t.declared.length≤8):Good t c':=
 g.plain (by rw[h];exact On g.base) hb hd
theorem sw{s:TS}{c c':Int}(g:Good s c)(hb:zbf s.state)(ha:l8 s.state=true→s.tag.cy≠[]):Good (du s) c':=
 ⟨by show(0:Int)≤31;decide,by show(31:Int)≤35;decide,g.base,g.decl,fun _=>⟨by show(0:Int)≤0;decide,by show(0:Int)≤17825791;decide⟩,fun _=>da _,fun _=>hb,fun _=>ha,(fun h=>by cases h),(fun h=>by cases h),fun _=>da _⟩
theorem Oo{f:xp→xp}{l:List xp}(h:l≠[]):re f l≠[]:=by
 intro e
 have:=sq f l
 rw[e]at this
 exact h (List.eq_nil_of_length_eq_zero this.symm)
theorem A4{s:TS}(c:Int)(h:s.tag.cy≠[]):(kr s c).tag.cy≠[]:=Oo h
theorem Ir{s:TS}(h:s.tag.cy≠[]):(mg s).tag.cy≠[]:=by
 unfold mg p6
 repeat' split
 ·exact Oo h
 ·exact h
theorem Oq(s:TS):(lp s).tag.cy≠[]:=by simp[lp]
section
variable{s:TS}{c:Int}
theorem Ed(g:Good s c):(∀(hst:s.state=19),Leaves s c (mo s c))∧(∀(hst:s.state=22),Leaves s c (jh s c))∧(∀(hst:s.state=8),Leaves s c (lu s c))∧(∀(hst:s.state=27),Leaves s c (ki s c))∧(∀(hst:s.state=20),Leaves s c (kn s c))∧(∀(hst:s.state=23),Leaves s c (dk s c))∧(∀(hst:s.state=21),Leaves s c (ik s c))∧(∀(hst:s.state=24),Leaves s c (iw s c))∧(∀(hst:s.state=25),Leaves s c (lf s c))∧(∀(hst:s.state=26),Leaves s c (ix s c))∧(∀(hst:s.state=28),Leaves s c (g8 s c))∧(∀(hst:s.state=29),Leaves s c (iy s c))∧(∀(hst:s.state=30),Leaves s c (g9 s c))∧(∀(hst:s.state=3),Leaves s c (ju s c))∧(∀(hst:s.state=4),Leaves s c (kb s c))∧(∀(hst:s.state=17),Leaves s c (lq s c))∧(∀(hst:s.state=16),Leaves s c (jr s c))∧(∀(hst:s.state=2),Leaves s c (l7 s c)):=by
 refine⟨?_,?_,?_,?_,?_,?_,?_,?_,?_,?_,?_,?_,?_,?_,?_,?_,?_,?_⟩
 all_goals intro hst
 all_goals first|unfold mo|unfold jh|unfold lu|unfold ki|unfold kn|unfold dk|unfold ik dk|unfold iw|unfold lf|unfold ix|unfold g8|unfold iy|unfold g9|unfold ju|unfold kb|unfold lq|unfold jr|unfold l7
 all_goals repeat' split
 all_goals(first|(refine .inl ⟨rfl,fun _ c'=>g.plain ?_ ?_ ?_⟩<;>first|exact g.base|exact g.decl|exact f9 _ rfl|exact j0 _|(simp only[FR];first|exact g.base|exact g.decl|exact f9 _ rfl)|exact f9 _ (by simp only[FR,hst];rfl)|exact fu _|exact Or.inl rfl|exact da _|(rw[hst];first|exact cb _|exact ib _|exact ia (cb _)))|(refine .inr ⟨rfl,g.plain ?_ ?_ ?_,?_⟩<;>first|exact g.base|exact g.decl|exact f9 _ rfl|exact j0 _|(simp only[FR];first|exact g.base|exact g.decl|exact f9 _ rfl)|exact f9 _ (by simp only[FR,hst];rfl)|exact fu _|exact Or.inl rfl|exact da _|(rw[hst];first|exact cb _|exact ib _|exact ia (cb _)))|exact .inl ⟨rfl,fun hne=>absurd (by first|rfl|assumption) hne⟩)
theorem Vh(g:Good s c)(hst:s.state=19):Leaves s c (mo s c):=(Ed g).1 hst
theorem Ot(g:Good s c)(hst:s.state=22):Leaves s c (jh s c):=(Ed g).2.1 hst
theorem zbj(g:Good s c)(hst:s.state=8):Leaves s c (lu s c):=(Ed g).2.2.1 hst
theorem Yh(g:Good s c)(hst:s.state=27):Leaves s c (ki s c):=(Ed g).2.2.2.1 hst
theorem Vi(g:Good s c)(hst:s.state=20):Leaves s c (kn s c):=(Ed g).2.2.2.2.1 hst
theorem Yi(g:Good s c)(hst:s.state=23):Leaves s c (dk s c):=(Ed g).2.2.2.2.2.1 hst
theorem J7(g:Good s c)(hst:s.state=21):Leaves s c (ik s c):=(Ed g).2.2.2.2.2.2.1 hst
theorem Rm(g:Good s c)(hst:s.state=24):Leaves s c (iw s c):=(Ed g).2.2.2.2.2.2.2.1 hst
theorem Yj(g:Good s c)(hst:s.state=25):Leaves s c (lf s c):=(Ed g).2.2.2.2.2.2.2.2.1 hst
theorem Ou(g:Good s c)(hst:s.state=26):Leaves s c (ix s c):=(Ed g).2.2.2.2.2.2.2.2.2.1 hst
theorem Mi(g:Good s c)(hst:s.state=28):Leaves s c (g8 s c):=(Ed g).2.2.2.2.2.2.2.2.2.2.1 hst
theorem Ov(g:Good s c)(hst:s.state=29):Leaves s c (iy s c):=(Ed g).2.2.2.2.2.2.2.2.2.2.2.1 hst
theorem Mj(g:Good s c)(hst:s.state=30):Leaves s c (g9 s c):=(Ed g).2.2.2.2.2.2.2.2.2.2.2.2.1 hst
theorem Yl(g:Good s c)(hst:s.state=3):Leaves s c (ju s c):=(Ed g).2.2.2.2.2.2.2.2.2.2.2.2.2.1 hst
theorem Vj(g:Good s c)(hst:s.state=4):Leaves s c (kb s c):=(Ed g).2.2.2.2.2.2.2.2.2.2.2.2.2.2.1 hst
theorem Ym(g:Good s c)(hst:s.state=17):Leaves s c (lq s c):=(Ed g).2.2.2.2.2.2.2.2.2.2.2.2.2.2.2.1 hst
theorem Vk(g:Good s c)(hst:s.state=16):Leaves s c (jr s c):=(Ed g).2.2.2.2.2.2.2.2.2.2.2.2.2.2.2.2.1 hst
theorem zbk(g:Good s c)(hst:s.state=2):Leaves s c (l7 s c):=(Ed g).2.2.2.2.2.2.2.2.2.2.2.2.2.2.2.2.2 hst
theorem Yn(g:Good s c)(hst:s.state=0):Leaves s c (kx s c):=by
 unfold kx
 repeat' split
 all_goals(first|(exact .inl ⟨rfl,fun _ c'=>sw g (by rw[hst];exact .inl rfl) (fun h=>by first|exact g.Gq (by rw[hst];rfl)|(rw[hst]at h;cases h))⟩)|first|(refine .inl ⟨rfl,fun _ c'=>g.plain ?_ ?_ ?_⟩<;>first|exact g.base|exact g.decl|exact f9 _ rfl|exact j0 _|(simp only[FR];first|exact g.base|exact g.decl|exact f9 _ rfl)|exact f9 _ (by simp only[FR,hst];rfl)|exact fu _|exact Or.inl rfl|exact da _|(rw[hst];first|exact cb _|exact ib _|exact ia (cb _)))|(refine .inr ⟨rfl,g.plain ?_ ?_ ?_,?_⟩<;>first|exact g.base|exact g.decl|exact f9 _ rfl|exact j0 _|(simp only[FR];first|exact g.base|exact g.decl|exact f9 _ rfl)|exact f9 _ (by simp only[FR,hst];rfl)|exact fu _|exact Or.inl rfl|exact da _|(rw[hst];first|exact cb _|exact ib _|exact ia (cb _)))|exact .inl ⟨rfl,fun hne=>absurd (by first|rfl|assumption) hne⟩)
theorem Vl(g:Good s c)(hst:s.state=1):Leaves s c (jz s c):=by
 unfold jz
 repeat' split
 all_goals(first|(exact .inl ⟨rfl,fun _ c'=>sw g (by rw[hst];exact .inr (.inl rfl)) (fun h=>by first|exact g.Gq (by rw[hst];rfl)|(rw[hst]at h;cases h))⟩)|first|(refine .inl ⟨rfl,fun _ c'=>g.plain ?_ ?_ ?_⟩<;>first|exact g.base|exact g.decl|exact f9 _ rfl|exact j0 _|(simp only[FR];first|exact g.base|exact g.decl|exact f9 _ rfl)|exact f9 _ (by simp only[FR,hst];rfl)|exact fu _|exact Or.inl rfl|exact da _|(rw[hst];first|exact cb _|exact ib _|exact ia (cb _)))|(refine .inr ⟨rfl,g.plain ?_ ?_ ?_,?_⟩<;>first|exact g.base|exact g.decl|exact f9 _ rfl|exact j0 _|(simp only[FR];first|exact g.base|exact g.decl|exact f9 _ rfl)|exact f9 _ (by simp only[FR,hst];rfl)|exact fu _|exact Or.inl rfl|exact da _|(rw[hst];first|exact cb _|exact ib _|exact ia (cb _)))|exact .inl ⟨rfl,fun hne=>absurd (by first|rfl|assumption) hne⟩)
theorem zmg(g:Good s c):(∀(hst:s.state=5),Leaves s c (mw s c))∧(∀(hst:s.state=6),Leaves s c (jc s c))∧(∀(hst:s.state=7),Leaves s c (jo s c)):=by
 refine⟨?_,?_,?_⟩
 all_goals intro hst
 all_goals first|unfold mw jy|unfold jc jy|unfold jo jy
 all_goals repeat' split
 all_goals(first|(exact .inr ⟨rfl,ze1 g rfl g.base g.decl,by rw[hst];show rank s.base c<_;rw[ze0 g.base];first|exact(by decide:(0:Nat)<1)|exact(by decide:(0:Nat)<2)⟩)|first|(refine .inl ⟨rfl,fun _ c'=>g.plain ?_ ?_ ?_⟩<;>first|exact g.base|exact g.decl|exact f9 _ rfl|exact j0 _|(simp only[FR];first|exact g.base|exact g.decl|exact f9 _ rfl)|exact f9 _ (by simp only[FR,hst];rfl)|exact fu _|exact Or.inl rfl|exact da _|(rw[hst];first|exact cb _|exact ib _|exact ia (cb _)))|(refine .inr ⟨rfl,g.plain ?_ ?_ ?_,?_⟩<;>first|exact g.base|exact g.decl|exact f9 _ rfl|exact j0 _|(simp only[FR];first|exact g.base|exact g.decl|exact f9 _ rfl)|exact f9 _ (by simp only[FR,hst];rfl)|exact fu _|exact Or.inl rfl|exact da _|(rw[hst];first|exact cb _|exact ib _|exact ia (cb _)))|exact .inl ⟨rfl,fun hne=>absurd (by first|rfl|assumption) hne⟩)
theorem Yo(g:Good s c)(hst:s.state=5):Leaves s c (mw s c):=(zmg g).1 hst
theorem J8(g:Good s c)(hst:s.state=6):Leaves s c (jc s c):=(zmg g).2.1 hst
theorem Ml(g:Good s c)(hst:s.state=7):Leaves s c (jo s c):=(zmg g).2.2 hst
theorem Ro(g:Good s c)(hst:s.state=13):Leaves s c (jm s c):=by
 unfold jm
 repeat' split
 all_goals(first|(exact .inl ⟨rfl,fun _ c'=>g.cy (c':=c') (by first|exact⟨by simp,by simp,rfl⟩|(simp only[FR];rw[hst];exact⟨by decide,by decide,rfl⟩)) (by first|exact qg _ (g.Gq (by rw[hst];rfl))|(refine qg _ ?_;simp only[ui];exact g.Gq (by rw[hst];rfl))|exact g.Gq (by rw[hst];rfl)) (by first|exact g.base|(simp only[FR];exact g.base)|exact fu _|exact Or.inl rfl) (by first|exact g.decl|(simp only[FR];exact g.decl)|exact da _)⟩)|(exact .inl ⟨rfl,fun _ c'=>sw g (by rw[hst];exact .inr (.inr (.inl rfl))) (fun h=>by first|exact g.Gq (by rw[hst];rfl)|(rw[hst]at h;cases h))⟩)|first|(refine .inl ⟨rfl,fun _ c'=>g.plain ?_ ?_ ?_⟩<;>first|exact g.base|exact g.decl|exact f9 _ rfl|exact j0 _|(simp only[FR];first|exact g.base|exact g.decl|exact f9 _ rfl)|exact f9 _ (by simp only[FR,hst];rfl)|exact fu _|exact Or.inl rfl|exact da _|(rw[hst];first|exact cb _|exact ib _|exact ia (cb _)))|(refine .inr ⟨rfl,g.plain ?_ ?_ ?_,?_⟩<;>first|exact g.base|exact g.decl|exact f9 _ rfl|exact j0 _|(simp only[FR];first|exact g.base|exact g.decl|exact f9 _ rfl)|exact f9 _ (by simp only[FR,hst];rfl)|exact fu _|exact Or.inl rfl|exact da _|(rw[hst];first|exact cb _|exact ib _|exact ia (cb _)))|exact .inl ⟨rfl,fun hne=>absurd (by first|rfl|assumption) hne⟩)
theorem Rp(g:Good s c)(hst:s.state=14):Leaves s c (jn s c):=by
 unfold jn
 repeat' split
 all_goals(first|(exact .inl ⟨rfl,fun _ c'=>g.cy (c':=c') (by first|exact⟨by simp,by simp,rfl⟩|(simp only[FR];rw[hst];exact⟨by decide,by decide,rfl⟩)) (by first|exact qg _ (g.Gq (by rw[hst];rfl))|(refine qg _ ?_;simp only[ui];exact g.Gq (by rw[hst];rfl))|exact g.Gq (by rw[hst];rfl)) (by first|exact g.base|(simp only[FR];exact g.base)|exact fu _|exact Or.inl rfl) (by first|exact g.decl|(simp only[FR];exact g.decl)|exact da _)⟩)|(exact .inl ⟨rfl,fun _ c'=>sw g (by rw[hst];exact .inr (.inr (.inr (.inl rfl)))) (fun h=>by first|exact g.Gq (by rw[hst];rfl)|(rw[hst]at h;cases h))⟩)|first|(refine .inl ⟨rfl,fun _ c'=>g.plain ?_ ?_ ?_⟩<;>first|exact g.base|exact g.decl|exact f9 _ rfl|exact j0 _|(simp only[FR];first|exact g.base|exact g.decl|exact f9 _ rfl)|exact f9 _ (by simp only[FR,hst];rfl)|exact fu _|exact Or.inl rfl|exact da _|(rw[hst];first|exact cb _|exact ib _|exact ia (cb _)))|(refine .inr ⟨rfl,g.plain ?_ ?_ ?_,?_⟩<;>first|exact g.base|exact g.decl|exact f9 _ rfl|exact j0 _|(simp only[FR];first|exact g.base|exact g.decl|exact f9 _ rfl)|exact f9 _ (by simp only[FR,hst];rfl)|exact fu _|exact Or.inl rfl|exact da _|(rw[hst];first|exact cb _|exact ib _|exact ia (cb _)))|exact .inl ⟨rfl,fun hne=>absurd (by first|rfl|assumption) hne⟩)
theorem Vm(g:Good s c)(hst:s.state=15):Leaves s c (f8 s c):=by
 unfold f8
 repeat' split
 all_goals(first|(exact .inl ⟨rfl,fun _ c'=>g.cy (c':=c') (by first|exact⟨by simp,by simp,rfl⟩|(simp only[FR];rw[hst];exact⟨by decide,by decide,rfl⟩)) (by first|exact qg _ (g.Gq (by rw[hst];rfl))|(refine qg _ ?_;simp only[Io,ui];exact g.Gq (by rw[hst];rfl))|exact g.Gq (by rw[hst];rfl)) (by first|exact g.base|(simp only[FR];exact g.base)|exact fu _|exact Or.inl rfl) (by first|exact g.decl|(simp only[FR];exact g.decl)|exact da _)⟩)|(exact .inl ⟨rfl,fun _ c'=>sw g (by rw[hst];exact .inr (.inr (.inr (.inr rfl)))) (fun h=>by first|exact g.Gq (by rw[hst];rfl)|(rw[hst]at h;cases h))⟩)|first|(refine .inl ⟨rfl,fun _ c'=>g.plain ?_ ?_ ?_⟩<;>first|exact g.base|exact g.decl|exact f9 _ rfl|exact j0 _|(simp only[FR];first|exact g.base|exact g.decl|exact f9 _ rfl)|exact f9 _ (by simp only[FR,hst];rfl)|exact fu _|exact Or.inl rfl|exact da _|(rw[hst];first|exact cb _|exact ib _|exact ia (cb _)))|(refine .inr ⟨rfl,g.plain ?_ ?_ ?_,?_⟩<;>first|exact g.base|exact g.decl|exact f9 _ rfl|exact j0 _|(simp only[FR];first|exact g.base|exact g.decl|exact f9 _ rfl)|exact f9 _ (by simp only[FR,hst];rfl)|exact fu _|exact Or.inl rfl|exact da _|(rw[hst];first|exact cb _|exact ib _|exact ia (cb _)))|exact .inl ⟨rfl,fun hne=>absurd (by first|rfl|assumption) hne⟩)
theorem Yp(g:Good s c)(hst:s.state=9):Leaves s c (ka s c):=by
 unfold ka
 split
 ·first|(refine .inl ⟨rfl,fun _ c'=>g.plain ?_ ?_ ?_⟩<;>first|exact g.base|exact g.decl|exact f9 _ rfl|exact j0 _|(simp only[FR];first|exact g.base|exact g.decl|exact f9 _ rfl)|exact f9 _ (by simp only[FR,hst];rfl)|exact fu _|exact Or.inl rfl|exact da _|(rw[hst];first|exact cb _|exact ib _|exact ia (cb _)))|(refine .inr ⟨rfl,g.plain ?_ ?_ ?_,?_⟩<;>first|exact g.base|exact g.decl|exact f9 _ rfl|exact j0 _|(simp only[FR];first|exact g.base|exact g.decl|exact f9 _ rfl)|exact f9 _ (by simp only[FR,hst];rfl)|exact fu _|exact Or.inl rfl|exact da _|(rw[hst];first|exact cb _|exact ib _|exact ia (cb _)))|exact .inl ⟨rfl,fun hne=>absurd (by first|rfl|assumption) hne⟩
 ·split
  ·rename_i h
   exact .inr ⟨rfl,g.zc5 rfl (.inr h) g.base g.decl,by rw[hst];show rank 11 c<2;have:=zbg c;omega⟩
  ·rename_i h1 h2
   split
   ·exact .inl ⟨rfl,fun _ c'=>g.cy (c':=c') ⟨by simp,by simp,rfl⟩ (by exact A4 _ (Oq _)) (by first|exact g.base|(simp only[FR];exact g.base)|exact fu _|exact Or.inl rfl) (by first|exact g.decl|(simp only[FR];exact g.decl)|exact da _)⟩
   ·exact .inr ⟨rfl,g.cy (c':=c) ⟨by simp,by simp,rfl⟩ (by exact Oq _) (by first|exact g.base|(simp only[FR];exact g.base)|exact fu _|exact Or.inl rfl) (by first|exact g.decl|(simp only[FR];exact g.decl)|exact da _),by rw[hst];show rank 10 c<2;have:=zez c;omega⟩
theorem Yq(g:Good s c)(hst:s.state=10):Leaves s c (jf s c):=by
 unfold jf
 split
 ·rename_i h
  exact .inr ⟨rfl,g.zc5 rfl (.inl (Ir (g.Gq (by rw[hst];rfl)))) (by first|exact g.base|(simp only[FR];exact g.base)|exact fu _|exact Or.inl rfl) (by first|exact g.decl|(simp only[FR];exact g.decl)|exact da _),by rw[hst];show rank 11 c<rank 10 c;rw[Yf c (by rcases h with h|h|h|h<;>simp[h]),zbh c h];decide⟩
 ·repeat' split
  all_goals(exact .inl ⟨rfl,fun _ c'=>g.cy (c':=c') (by first|exact⟨by simp,by simp,rfl⟩|(simp only[FR];rw[hst];exact⟨by decide,by decide,rfl⟩)) (by first|exact A4 _ (g.Gq (by rw[hst];rfl))|(refine A4 _ ?_;simp only[Io,ui];exact g.Gq (by rw[hst];rfl))|exact Ir (g.Gq (by rw[hst];rfl))|exact g.Gq (by rw[hst];rfl)) (by first|exact g.base|(simp only[FR];exact g.base)|exact fu _|exact Or.inl rfl) (by first|exact g.decl|(simp only[FR];exact g.decl)|exact da _)⟩)
theorem Vn(g:Good s c)(hst:s.state=11):Leaves s c (iu s c):=by
 unfold iu
 split
 ·exact .inl ⟨rfl,fun hne c'=>⟨g.st0,g.st1,g.base,g.decl,g.num,g.come,g.back,g.val,g.Gq,fun h=> .inl (g.zc6 hst (by rename_i h;rintro rfl;revert h;decide) (by rename_i h;rintro rfl;revert h;decide) hne),g.hash⟩⟩
 ·split
  ·first|(refine .inl ⟨rfl,fun _ c'=>g.plain ?_ ?_ ?_⟩<;>first|exact g.base|exact g.decl|exact f9 _ rfl|exact j0 _|(simp only[FR];first|exact g.base|exact g.decl|exact f9 _ rfl)|exact f9 _ (by simp only[FR,hst];rfl)|exact fu _|exact Or.inl rfl|exact da _|(rw[hst];first|exact cb _|exact ib _|exact ia (cb _)))|(refine .inr ⟨rfl,g.plain ?_ ?_ ?_,?_⟩<;>first|exact g.base|exact g.decl|exact f9 _ rfl|exact j0 _|(simp only[FR];first|exact g.base|exact g.decl|exact f9 _ rfl)|exact f9 _ (by simp only[FR,hst];rfl)|exact fu _|exact Or.inl rfl|exact da _|(rw[hst];first|exact cb _|exact ib _|exact ia (cb _)))|exact .inl ⟨rfl,fun hne=>absurd (by first|rfl|assumption) hne⟩
  ·rename_i h1 h2
   split
   ·rename_i h3
    exact .inl ⟨rfl,fun hne c'=>g.cy (c':=c') ⟨by simp,by simp,rfl⟩ (g.zc6 hst (by omega) (by omega) hne) g.base g.decl⟩
   ·split
    ·first|(refine .inl ⟨rfl,fun _ c'=>g.plain ?_ ?_ ?_⟩<;>first|exact g.base|exact g.decl|exact f9 _ rfl|exact j0 _|(simp only[FR];first|exact g.base|exact g.decl|exact f9 _ rfl)|exact f9 _ (by simp only[FR,hst];rfl)|exact fu _|exact Or.inl rfl|exact da _|(rw[hst];first|exact cb _|exact ib _|exact ia (cb _)))|(refine .inr ⟨rfl,g.plain ?_ ?_ ?_,?_⟩<;>first|exact g.base|exact g.decl|exact f9 _ rfl|exact j0 _|(simp only[FR];first|exact g.base|exact g.decl|exact f9 _ rfl)|exact f9 _ (by simp only[FR,hst];rfl)|exact fu _|exact Or.inl rfl|exact da _|(rw[hst];first|exact cb _|exact ib _|exact ia (cb _)))|exact .inl ⟨rfl,fun hne=>absurd (by first|rfl|assumption) hne⟩
    ·split
     ·first|(refine .inl ⟨rfl,fun _ c'=>g.plain ?_ ?_ ?_⟩<;>first|exact g.base|exact g.decl|exact f9 _ rfl|exact j0 _|(simp only[FR];first|exact g.base|exact g.decl|exact f9 _ rfl)|exact f9 _ (by simp only[FR,hst];rfl)|exact fu _|exact Or.inl rfl|exact da _|(rw[hst];first|exact cb _|exact ib _|exact ia (cb _)))|(refine .inr ⟨rfl,g.plain ?_ ?_ ?_,?_⟩<;>first|exact g.base|exact g.decl|exact f9 _ rfl|exact j0 _|(simp only[FR];first|exact g.base|exact g.decl|exact f9 _ rfl)|exact f9 _ (by simp only[FR,hst];rfl)|exact fu _|exact Or.inl rfl|exact da _|(rw[hst];first|exact cb _|exact ib _|exact ia (cb _)))|exact .inl ⟨rfl,fun hne=>absurd (by first|rfl|assumption) hne⟩
     ·rename_i h3 h4 h5
      exact .inr ⟨rfl,g.cy (c':=c) ⟨by simp,by simp,rfl⟩ (by exact Oq _) (by first|exact g.base|(simp only[FR];exact g.base)|exact fu _|exact Or.inl rfl) (by first|exact g.decl|(simp only[FR];exact g.decl)|exact da _),by rw[hst];show rank 10 c<rank 11 c;rw[zbi c (by simp[h1,h2,h4,h5]),Yg c (by simp[h1,h2,h3,h4,h5])];decide⟩
theorem Rq(g:Good s c)(hst:s.state=12):Leaves s c (iz s c):=by
 unfold iz
 split
 ·exact .inl ⟨rfl,fun _ c'=>g.cy (c':=c') (by first|exact⟨by simp,by simp,rfl⟩|(simp only[FR];rw[hst];exact⟨by decide,by decide,rfl⟩)) (by exact g.Gq (by rw[hst];rfl)) (by first|exact g.base|(simp only[FR];exact g.base)|exact fu _|exact Or.inl rfl) (by first|exact g.decl|(simp only[FR];exact g.decl)|exact da _)⟩
 ·split
  ·exact .inl ⟨rfl,fun _ c'=>g.cy (c':=c') (by first|exact⟨by simp,by simp,rfl⟩|(simp only[FR];rw[hst];exact⟨by decide,by decide,rfl⟩)) (by exact g.Gq (by rw[hst];rfl)) (by first|exact g.base|(simp only[FR];exact g.base)|exact fu _|exact Or.inl rfl) (by first|exact g.decl|(simp only[FR];exact g.decl)|exact da _)⟩
  ·split
   ·exact .inl ⟨rfl,fun _ c'=>g.cy (c':=c') (by first|exact⟨by simp,by simp,rfl⟩|(simp only[FR];rw[hst];exact⟨by decide,by decide,rfl⟩)) (by exact g.Gq (by rw[hst];rfl)) (by first|exact g.base|(simp only[FR];exact g.base)|exact fu _|exact Or.inl rfl) (by first|exact g.decl|(simp only[FR];exact g.decl)|exact da _)⟩
   ·split
    ·first|(refine .inl ⟨rfl,fun _ c'=>g.plain ?_ ?_ ?_⟩<;>first|exact g.base|exact g.decl|exact f9 _ rfl|exact j0 _|(simp only[FR];first|exact g.base|exact g.decl|exact f9 _ rfl)|exact f9 _ (by simp only[FR,hst];rfl)|exact fu _|exact Or.inl rfl|exact da _|(rw[hst];first|exact cb _|exact ib _|exact ia (cb _)))|(refine .inr ⟨rfl,g.plain ?_ ?_ ?_,?_⟩<;>first|exact g.base|exact g.decl|exact f9 _ rfl|exact j0 _|(simp only[FR];first|exact g.base|exact g.decl|exact f9 _ rfl)|exact f9 _ (by simp only[FR,hst];rfl)|exact fu _|exact Or.inl rfl|exact da _|(rw[hst];first|exact cb _|exact ib _|exact ia (cb _)))|exact .inl ⟨rfl,fun hne=>absurd (by first|rfl|assumption) hne⟩
    ·exact .inr ⟨rfl,g.cy (c':=c) ⟨by simp,by simp,rfl⟩ (g.Gq (by rw[hst];rfl)) g.base g.decl,by rw[hst];exact(by decide:(0:Nat)<1)⟩
end
theorem F9{q c:Int}(h:zbf q):rank q c=0:=by
 rcases h with h|h|h|h|h<;>(rw[h];rfl)
theorem xi{s t:TS}{c c':Int}(g:Good s c)(hr:rp s.state=true)(ht:t.state=s.ev)(ha:l8 s.ev=true→t.tag.cy≠[])(hb:t.base=s.base)(hd:t.declared=s.declared):Good t c':=by
 rcases g.back hr with h|h|h|h|h
 ·exact g.plain (by rw[ht,h];exact f9 _ rfl) (by rw[hb];exact g.base) (by rw[hd];exact g.decl)
 ·exact g.plain (by rw[ht,h];exact f9 _ rfl) (by rw[hb];exact g.base) (by rw[hd];exact g.decl)
 all_goals exact g.cy (by rw[ht,h];exact⟨by decide,by decide,rfl⟩) (ha (by rw[h];rfl)) (by rw[hb];exact g.base) (by rw[hd];exact g.decl)
theorem zn{s t:TS}{c c':Int}(g:Good s c)(hr:rp s.state=true)(ht:rp t.state=true)(hn:Ey t)(hc:t.di.length≤8)(hk:t.ev=s.ev)(ha:l8 s.ev=true→t.tag.cy≠[])(hb:t.base=s.base)(hd:t.declared=s.declared)(hh:t.state=34→t.di.length≤1):Good t c':=by
 have h2:31≤t.state∧t.state≤35:=by simpa[rp]using ht
 refine⟨by omega,h2.2,by rw[hb];exact g.base,by rw[hd];exact g.decl,fun _=>hn,fun _=>hc,fun _=>by rw[hk];exact g.back hr,fun _ hv=>ha (by rw[←hk];exact hv),fun h=> ?_,fun h=>by omega,hh⟩
 simp only[Il,Bool.or_eq_true,beq_iff_eq]at h
 omega
theorem Fc{s:TS}{p:Int}(h:l8 s.ev=true→s.tag.cy≠[])(hv:l8 s.ev=true):(ji s p).tag.cy≠[]:=by
 unfold ji
 have h1:=mz (s:=if(meaning s.jx).2=[]then s else bz s (meaning s.jx).2 p) (Lib.encodeRune (meaning s.jx).1) (by split<;>exact h)
 apply h1
 rw[i9]
 split<;>exact hv
section
variable{s:TS}{c:Int}
theorem zbl(g:Good s c)(hst:s.state=31):Leaves s c (np s c):=by
 have hr:rp s.state=true:=by rw[hst];rfl
 unfold np
 split
 ·exact .inr ⟨rfl,zn g hr rfl (g.num hr) (g.come hr) rfl (g.val hr) rfl rfl (fun h=>by cases h),by rw[hst];exact(by decide:(2:Nat)<3)⟩
 ·split
  ·exact .inl ⟨rfl,fun _ c'=>zn g hr rfl (g.num hr) (by show 1≤8;omega) rfl (g.val hr) rfl rfl (fun _=>cx 1)⟩
  ·refine .inr ⟨rfl,xi g hr rfl (fun hv=> ?_) (z7 s) (xh s),?_⟩
   ·have:=mz (s:=s) ([38]++s.di) (g.val hr)
    rw[i9]at this
    exact this hv
   ·rw[hst]
    show rank s.ev c<3
    rw[F9 (g.back hr)]
    decide
theorem Is(g:Good s c)(hst:s.state=33):Leaves s c (gp s c):=by
 have hr:rp s.state=true:=by rw[hst];rfl
 have hrk:rank s.ev c<rank s.state c:=by rw[hst,F9 (g.back hr)];exact(by decide:(0:Nat)<1)
 unfold gp
 split
 ·refine .inl ⟨rfl,fun _ c'=>zn g hr (by rw[zk];exact hr) ?_ (by rw[zm];exact g.come hr) (zl _ _) (fun hv=> ?_) (vj _ _) (sv _ _) (fun h=>by rw[zk,hst]at h;cases h)⟩
  ·have:=g.num hr
   unfold Ey at*
   rw[z6]
   exact this
  ·have:=mz (s:=s) (Lib.encodeRune c) (g.val hr)
   rw[i9]at this
   exact this hv
 ·split
  ·exact .inr ⟨rfl,xi g hr rfl (g.val hr) rfl rfl,hrk⟩
  ·exact .inr ⟨rfl,xi g hr rfl (g.val hr) rfl rfl,hrk⟩
theorem Ow(g:Good s c)(hst:s.state=34):Leaves s c (lc s c):=by
 have hr:rp s.state=true:=by rw[hst];rfl
 unfold lc
 split
 ·exact .inl ⟨rfl,fun _ c'=>zn g hr rfl (g.num hr) (by have:=oh c;have:=g.hash hst;show(s.di++Lib.encodeRune c).length≤8;simp;omega) rfl (g.val hr) rfl rfl (fun h=>by cases h)⟩
 ·exact .inr ⟨rfl,zn g hr rfl (g.num hr) (g.come hr) rfl (g.val hr) rfl rfl (fun h=>by cases h),by rw[hst];exact(by decide:(1:Nat)<2)⟩
theorem J9(g:Good s c)(hst:s.state=35):Leaves s c (il s c):=by
 have hr:rp s.state=true:=by rw[hst];rfl
 have hrk:rank s.ev c<rank s.state c:=by rw[hst,F9 (g.back hr)];exact(by decide:(0:Nat)<1)
 unfold il
 split
 ·rename_i hd
  exact .inl ⟨rfl,fun _ c'=>zn g hr (by exact hr) (Xx hd (g.num hr)) (g.come hr) rfl (g.val hr) rfl rfl (fun h=>by rw[show(ml s c).state=s.state from rfl,hst]at h;cases h)⟩
 ·split
  ·refine .inr ⟨rfl,xi g hr rfl (fun hv=> ?_) (z7 _) (xh _),hrk⟩
   have:=mz (s:=wrong s [100,105,103,105,116,115]) ([38]++s.di) (g.val hr)
   rw[i9]at this
   exact this hv
  ·split
   ·refine .inl ⟨rfl,fun _ c'=>xi g hr rfl (fun hv=>Fc (g.val hr) hv) (Bo _ _) (yk _ _)⟩
   ·refine .inr ⟨rfl,xi g hr rfl (fun hv=>Fc (s:=wrong s [115,101,109,105,99,111,108,111,110]) (g.val hr) hv) ((Bo _ _).trans rfl) ((yk _ _).trans rfl),hrk⟩
theorem Ox{s:TS}{n:Str×Str}{x:Str}{nx:Int}(h:l8 s.ev=true→s.tag.cy≠[])(hv:l8 s.ev=true):(cn (ku s n x nx) x).tag.cy≠[]:=by
 have:=mz (s:=ku s n x nx) x (Rg n x nx h)
 apply this
 rw[i9,N6]
 exact hv
theorem K0{s:TS}{l:Str}(h:l8 s.ev=true→s.tag.cy≠[])(hv:l8 s.ev=true):(cn s l).tag.cy≠[]:=by
 have:=mz (s:=s) l h
 apply this
 rw[i9]
 exact hv
theorem Dh{x y:Str}(h:partOf x y=true):x.length<y.length∨x.length≤y.length:=by
 simp only[partOf,Bool.and_eq_true]at h
 have:=(List.isPrefixOf_iff_prefix.1 h.2).length_le
 exact .inr this
theorem zhk{x:Str}(h:(kz x).2=true):x.length≤7:=by
 obtain⟨n,hn,hp⟩:=Bx x om ([],[]) (kz x).1 (by rw[←h];rfl)
 have h1:=Ao n hn
 rcases Dh hp with h2|h2<;>omega
theorem Oy(g:Good s c)(hst:s.state=32):Leaves s c (jv s c):=by
 have hr:rp s.state=true:=by rw[hst];rfl
 have hrk:rank s.ev c<rank s.state c:=by rw[hst,F9 (g.back hr)];exact(by decide:(0:Nat)<2)
 unfold jv
 split
 ·rename_i hw
  exact .inl ⟨rfl,fun _ c'=>zn g hr (by exact hr) (g.num hr) (by have:=zhk hw;show(s.di++Lib.encodeRune c).length≤8;omega) rfl (g.val hr) rfl rfl (fun h=>by rw[show(mv s (s.di++Lib.encodeRune c)).state=s.state from rfl,hst]at h;cases h)⟩
 ·split
  ·refine .inr ⟨rfl,zn g hr rfl ?_ (by rw[show({cn s (38::s.di)with state:=33}:TS).di=(cn s (38::s.di)).di from rfl,zm];exact g.come hr) (zl _ _) (fun hv=>K0 (g.val hr) hv) (vj _ _) (sv _ _) (fun h=>by cases h),by rw[hst];exact(by decide:(1:Nat)<2)⟩
   have:=g.num hr
   unfold Ey at*
   rw[show({cn s (38::s.di)with state:=33}:TS).jx=(cn s (38::s.di)).jx from rfl,z6]
   exact this
  ·split
   ·exact .inl ⟨rfl,fun _ c'=>xi g hr rfl (fun hv=>K0 (g.val hr) hv) (vj _ _) (sv _ _)⟩
   ·exact .inr ⟨rfl,xi g hr rfl (fun hv=>Ox (g.val hr) hv) (Gk _ _ _) (Ci _ _ _),hrk⟩
theorem zhl(r:Nat):(Lib.encodeRune (lw r)).length=(Lib.encodeRune (r:Int)).length:=by
 unfold lw
 split
 ·rename_i h
  unfold Lib.encodeRune
  rw[Lib.encodeRuneZ_one (by omega) (by omega),Lib.encodeRuneZ_one (by omega) (by omega)]
  rfl
 ·rfl
theorem zc7:∀(n:Nat)(x:Str),x.length≤n→x.length≤(Gh x).length
 |0,x,h=>by omega
 |n+1,x,h=>by
  by_cases hx:x=[]
  ·subst hx;simp
  ·have h1:=Lib.mapD_step lw x hx
   have hpos:(0:Int)≤lw (Lib.decodeL x).1:=by unfold lw;split<;>omega
   rw[au hpos]at h1
   have hk:=Lib.width_pos ⟨x.toArray⟩ 0
   have hk2:=Lib.decodeL_le x hx
   have ih:=zc7 n (x.drop (Lib.decodeL x).2) (by rw[fj];have:1≤(Lib.decodeL x).2:=hk;omega)
   show x.length≤(Lib.mapD lw x).length
   rw[h1,aq,zhl]
   unfold Gh at ih
   rw[fj]at ih
   by_cases hv:(Lib.decodeL x).1=65533∧(Lib.decodeL x).2=1
   ·rw[hv.1]
    have:(Lib.encodeRune ((65533:Nat):Int)).length=3:=by decide
    omega
   ·have h2:=Lib.encode_decode x hx hv
    rw[h2,List.length_take]
    omega
theorem Yr{x:Str}(h:u7 x=true):x.length≤7:=by
 simp only[u7,Bool.or_eq_true]at h
 have hl:=zc7 x.length x (cx _)
 rcases h with(h|h)|h
 ·have:=Dh h;simp at this;omega
 ·have:=Dh h;simp at this;omega
 ·have:=Dh h;simp at this;omega
theorem Ys(g:Good s c)(hst:s.state=18):Leaves s c (lz s c):=by
 unfold lz
 split
 ·rename_i hm
  exact .inl ⟨rfl,fun _ c'=>g.plain (by rw[show({s with declared:=s.declared++Lib.encodeRune c}:TS).state=s.state from rfl,hst];exact f9 _ rfl) g.base (by have:=Yr hm;show(s.declared++Lib.encodeRune c).length≤8;omega)⟩
 ·repeat' split
  ·exact .inl ⟨rfl,fun _ c'=>g.plain (f9 _ rfl) g.base (da _)⟩
  ·exact .inl ⟨rfl,fun _ c'=>g.plain (f9 _ rfl) g.base (da _)⟩
  ·exact .inl ⟨rfl,fun _ c'=>g.plain (f9 _ rfl) g.base (da _)⟩
  ·exact .inr ⟨rfl,g.plain (f9 _ rfl) g.base (da _),by rw[hst];exact(by decide:(0:Nat)<1)⟩
end
def tw(s t:TS):Prop:=t.begun=s.begun∧t.behind=s.behind∧t.limit=s.limit∧t.bytes=s.bytes∧t.closed=s.closed∧t.place=s.place
section
variable{s:TS}{c:Int}
theorem zhm:∀f∈[kx,jz,l7,ju,kb,mw,jc,jo,lu,ka,jf,iu,iz,jm,jn,f8,jr,lq,lz,mo,kn,ik,jh,dk,iw,lf,ix,ki,g8,iy,g9,np,jv,gp,lc,il],tw s (f s c).2:=by
 intro f hf
 simp only[List.mem_cons,List.not_mem_nil,or_false]at hf
 rcases hf with rfl|rfl|rfl|rfl|rfl|rfl|rfl|rfl|rfl|rfl|rfl|rfl|rfl|rfl|rfl|rfl|rfl|rfl|rfl|rfl|rfl|rfl|rfl|rfl|rfl|rfl|rfl|rfl|rfl|rfl|rfl|rfl|rfl|rfl|rfl|rfl
 all_goals unfold tw
 all_goals first|unfold kx|unfold jz|unfold l7|unfold ju|unfold kb|unfold mw jy|unfold jc jy|unfold jo jy|unfold lu|unfold ka|unfold jf|unfold iu|unfold iz|unfold jm|unfold jn|unfold f8|unfold jr|unfold lq|unfold lz|unfold mo|unfold kn|unfold ik dk|unfold jh|unfold dk|unfold iw|unfold lf|unfold ix|unfold ki|unfold g8|unfold iy|unfold g9|unfold np|unfold jv|unfold gp|unfold lc|unfold il
 all_goals repeat' split
 all_goals first|exact⟨rfl,rfl,rfl,rfl,rfl,rfl⟩|(simp only[FR0];exact⟨trivial,trivial,trivial,trivial,trivial,trivial⟩)|(simp only[FR0,du,zeroRef,and_self];done)
theorem vr:tw s (bm s c).2:=by
 generalize hr:bm s c=r
 unfold bm at hr
 iterate 35
  rcases zad hr with⟨e,hr⟩|⟨e,hr⟩
  ·subst hr;exact zhm _ (by simp)
 subst hr;exact zhm _ (by simp)
theorem zb(g:Good s c):Leaves s c (bm s c):=by
 generalize hr:bm s c=r
 unfold bm at hr
 rcases zad hr with⟨e,hr⟩|⟨e,hr⟩
 ·subst hr;exact Vl g e
 rcases zad hr with⟨e,hr⟩|⟨e,hr⟩
 ·subst hr;exact zbk g e
 rcases zad hr with⟨e,hr⟩|⟨e,hr⟩
 ·subst hr;exact Yl g e
 rcases zad hr with⟨e,hr⟩|⟨e,hr⟩
 ·subst hr;exact Vj g e
 rcases zad hr with⟨e,hr⟩|⟨e,hr⟩
 ·subst hr;exact Yo g e
 rcases zad hr with⟨e,hr⟩|⟨e,hr⟩
 ·subst hr;exact J8 g e
 rcases zad hr with⟨e,hr⟩|⟨e,hr⟩
 ·subst hr;exact Ml g e
 rcases zad hr with⟨e,hr⟩|⟨e,hr⟩
 ·subst hr;exact zbj g e
 rcases zad hr with⟨e,hr⟩|⟨e,hr⟩
 ·subst hr;exact Yp g e
 rcases zad hr with⟨e,hr⟩|⟨e,hr⟩
 ·subst hr;exact Yq g e
 rcases zad hr with⟨e,hr⟩|⟨e,hr⟩
 ·subst hr;exact Vn g e
 rcases zad hr with⟨e,hr⟩|⟨e,hr⟩
 ·subst hr;exact Rq g e
 rcases zad hr with⟨e,hr⟩|⟨e,hr⟩
 ·subst hr;exact Ro g e
 rcases zad hr with⟨e,hr⟩|⟨e,hr⟩
 ·subst hr;exact Rp g e
 rcases zad hr with⟨e,hr⟩|⟨e,hr⟩
 ·subst hr;exact Vm g e
 rcases zad hr with⟨e,hr⟩|⟨e,hr⟩
 ·subst hr;exact Vk g e
 rcases zad hr with⟨e,hr⟩|⟨e,hr⟩
 ·subst hr;exact Ym g e
 rcases zad hr with⟨e,hr⟩|⟨e,hr⟩
 ·subst hr;exact Ys g e
 rcases zad hr with⟨e,hr⟩|⟨e,hr⟩
 ·subst hr;exact Vh g e
 rcases zad hr with⟨e,hr⟩|⟨e,hr⟩
 ·subst hr;exact Vi g e
 rcases zad hr with⟨e,hr⟩|⟨e,hr⟩
 ·subst hr;exact J7 g e
 rcases zad hr with⟨e,hr⟩|⟨e,hr⟩
 ·subst hr;exact Ot g e
 rcases zad hr with⟨e,hr⟩|⟨e,hr⟩
 ·subst hr;exact Yi g e
 rcases zad hr with⟨e,hr⟩|⟨e,hr⟩
 ·subst hr;exact Rm g e
 rcases zad hr with⟨e,hr⟩|⟨e,hr⟩
 ·subst hr;exact Yj g e
 rcases zad hr with⟨e,hr⟩|⟨e,hr⟩
 ·subst hr;exact Ou g e
 rcases zad hr with⟨e,hr⟩|⟨e,hr⟩
 ·subst hr;exact Yh g e
 rcases zad hr with⟨e,hr⟩|⟨e,hr⟩
 ·subst hr;exact Mi g e
 rcases zad hr with⟨e,hr⟩|⟨e,hr⟩
 ·subst hr;exact Ov g e
 rcases zad hr with⟨e,hr⟩|⟨e,hr⟩
 ·subst hr;exact Mj g e
 rcases zad hr with⟨e,hr⟩|⟨e,hr⟩
 ·subst hr;exact zbl g e
 rcases zad hr with⟨e,hr⟩|⟨e,hr⟩
 ·subst hr;exact Oy g e
 rcases zad hr with⟨e,hr⟩|⟨e,hr⟩
 ·subst hr;exact Is g e
 rcases zad hr with⟨e,hr⟩|⟨e,hr⟩
 ·subst hr;exact Ow g e
 rcases zad hr with⟨e,hr⟩|⟨e,hr⟩
 ·subst hr;exact J9 g e
 subst hr;exact Yn g (by have:=g.st0;have:=g.st1;omega)
end
end Go.Proofs.YtdfmapcnfficlaaGreatDoor

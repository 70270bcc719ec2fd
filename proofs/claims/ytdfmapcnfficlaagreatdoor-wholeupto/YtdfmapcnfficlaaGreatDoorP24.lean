import Derived.Test.YtdfmapcnfficlaaGreatDoorP23
set_option linter.all false
set_option maxHeartbeats 1000000
set_option maxRecDepth 1000000
namespace Go.Proofs.YtdfmapcnfficlaaGreatDoor
open Go.Proofs.Tryz
open Go Go.RowKit
section
variable{w0:World}{aj:Nat→Prop}{b:Nat}{s:TS}{ex:List Item}{w:World}{R:n9}
theorem z9(come:Str):∀(l:List (Str×Str))(a r:Str×Str),oa come l a=(r,false)→r=a∨(r∈l∧ue come r.1=true)
 |[],a,r,h=>by
  simp[oa]at h
  exact .inl h.symm
 |n::l,a,r,h=>by
  rw[oa]at h
  split at h
  ·simp at h
  ·split at h
   ·rcases z9 come l a r h with h1|h1
    ·exact .inl h1
    ·exact .inr ⟨List.mem_cons_of_mem _ h1.1,h1.2⟩
   ·rename_i hn
    rcases z9 come l n r h with h1|h1
    ·subst h1
     refine .inr ⟨List.mem_cons_self,?_⟩
     cases hh:ue come r.1
     ·exact absurd (.inl hh) hn
     ·rfl
    ·exact .inr ⟨List.mem_cons_of_mem _ h1.1,h1.2⟩
theorem Bx(come:Str):∀(l:List (Str×Str))(a r:Str×Str),oa come l a=(r,true)→∃n∈l,partOf come n.1=true
 |[],a,r,h=>by simp[oa]at h
 |n::l,a,r,h=>by
  rw[oa]at h
  split at h
  ·rename_i hp
   exact⟨n,List.mem_cons_self,hp⟩
  ·split at h
   ·obtain⟨m,h1,h2⟩:=Bx come l a r h
    exact⟨m,List.mem_cons_of_mem _ h1,h2⟩
   ·obtain⟨m,h1,h2⟩:=Bx come l n r h
    exact⟨m,List.mem_cons_of_mem _ h1,h2⟩
theorem E4:∀n∈om,(∀x∈n.1,x.toNat<128)∧n.2.length≤3:=by decide
theorem zhh(c:Int):(∃x,Lib.encodeRune c=[x])∨∃y r,Lib.encodeRune c=y::r∧128≤y.toNat:=by
 unfold Lib.encodeRune Lib.encodeRuneZ
 split
 ·exact .inl ⟨_,rfl⟩
 ·right
  split
  ·refine⟨_,_,rfl,?_⟩
   rename_i h
   have:(192+c / 64).toNat<256:=by omega
   show 128≤(UInt8.ofNat (192+c / 64).toNat).toNat
   rw[UInt8.toNat_ofNat_of_lt' (by simpa using this)]
   omega
  ·split
   ·refine⟨_,_,rfl,?_⟩
    rename_i h
    have:(224+c / 4096).toNat<256:=by omega
    show 128≤(UInt8.ofNat (224+c / 4096).toNat).toNat
    rw[UInt8.toNat_ofNat_of_lt' (by simpa using this)]
    omega
   ·split
    ·refine⟨_,_,rfl,?_⟩
     rename_i h
     have:(240+c / 262144).toNat<256:=by omega
     show 128≤(UInt8.ofNat (240+c / 262144).toNat).toNat
     rw[UInt8.toNat_ofNat_of_lt' (by simpa using this)]
     omega
    ·exact⟨_,_,rfl,by decide⟩
theorem zkc{a p:Str}{c:Int}(h:ue (a++Lib.encodeRune c) p=true)(hne:p≠a++Lib.encodeRune c)(hasc:∀x∈p,x.toNat<128):p.length≤a.length:=by
 have hp:p<+:a++Lib.encodeRune c:=List.isPrefixOf_iff_prefix.1 h
 apply Nat.le_of_not_lt
 intro hlt
 obtain⟨z,hz⟩:=hp
 have hq:p=a++p.drop a.length:=by
  have h1:p.take a.length=a:=by
   have:=congrArg (List.take a.length) hz
   rw[List.take_append_of_le_length (by omega)]at this
   rw[this]
   simp
  exact(by rw[←h1,List.length_take,Nat.min_eq_left (by omega)];exact(List.take_append_drop _ _).symm)
 have hq0:p.drop a.length≠[]:=by
  intro e
  have:=congrArg List.length e
  simp at this
  omega
 generalize p.drop a.length=q at*
 subst hq
 rw[fm]at hz
 have hz':=List.append_cancel_left hz
 cases q with
 |nil=>exact hq0 rfl
 |cons y q=>
  rcases zhh c with⟨x,hx⟩|⟨y',r,hx,hy⟩
  ·rw[hx]at hz' hne
   simp only[List.cons_append,List.cons.injEq,List.append_eq_nil_iff]at hz'
   obtain⟨rfl,rfl,rfl⟩:=hz'
   exact hne rfl
  ·rw[hx]at hz'
   simp only[List.cons_append,List.cons.injEq]at hz'
   obtain⟨rfl,_⟩:=hz'
   have:=hasc y (by simp)
   omega
def jv(s:TS)(c:Int):Int×TS:=
 if(kz (s.di++Lib.encodeRune c)).2=true then(0,mv s (s.di++Lib.encodeRune c))
 else if(kz (s.di++Lib.encodeRune c)).1.1=[]then(1,{cn s (38::s.di)with state:=33})
 else if(kz (s.di++Lib.encodeRune c)).1.1=s.di++Lib.encodeRune c then(0,{cn s (kz (s.di++Lib.encodeRune c)).1.2 with state:=s.ev})
 else(1,ln s (kz (s.di++Lib.encodeRune c)).1 c)
theorem L8(s:TS)(c:Int)(h:(kz (s.di++Lib.encodeRune c)).2=true):jv s c=(0,mv s (s.di++Lib.encodeRune c)):=by rw[jv,au h]
theorem L9(s:TS)(c:Int)(h:(kz (s.di++Lib.encodeRune c)).2=false∧(kz (s.di++Lib.encodeRune c)).1.1=[]):jv s c=(1,{cn s (38::s.di)with state:=33}):=by rw[jv,ag (by rw[h.1];decide),au h.2]
theorem Ma(s:TS)(c:Int)(h:(kz (s.di++Lib.encodeRune c)).2=false∧(kz (s.di++Lib.encodeRune c)).1.1≠[]∧(kz (s.di++Lib.encodeRune c)).1.1=s.di++Lib.encodeRune c):jv s c=(0,{cn s (kz (s.di++Lib.encodeRune c)).1.2 with state:=s.ev}):=by rw[jv,ag (by rw[h.1];decide),ag h.2.1,au h.2.2]
theorem Mb(s:TS)(c:Int)(h:(kz (s.di++Lib.encodeRune c)).2=false∧(kz (s.di++Lib.encodeRune c)).1.1≠[]∧(kz (s.di++Lib.encodeRune c)).1.1≠s.di++Lib.encodeRune c):jv s c=(1,ln s (kz (s.di++Lib.encodeRune c)).1 c):=by rw[jv,ag (by rw[h.1];decide),ag h.2.1,ag h.2.2]
theorem Hg(c:Int)(hc:Rn c)(B:Base w0 aj)(hr:N4 s)(h:Tk w0 aj b s ex w)(hs:sz s+128≤lim):
  Calls prog 155 #[.pointer (some ⟨b,0,none⟩),.int .i32 c] w fun e w'=>e= .returned (.int .i64 (jv s c).1)∧Tk w0 aj b (jv s c).2 ex w':=by
 have hcv:∀w,(convert 21 9 (.int .i32 c)).run prog w= .ok (.string ⟨(Lib.encodeRune c).toArray⟩) w:=fun w=>by
  rw[run_convert_int_string w 21 9 .i32 c (by rw[underlying21];rfl) underlying9,Hc]
 have N2:∀w,_:=fun w=>uh s.di (Lib.encodeRune c) w (by have:=oh c;have:=hr.come;unfold lim;omega)
 have hcl:(s.di++Lib.encodeRune c).length≤12:=by have:=oh c;have:=hr.come;simp;omega
 have zhf:=Cg h
 have HT:=hide h
 have HB:=hide B
 have HS:=hide hs
 have HR:=hide hr
 have hf1:=h.frozen
 clear h B hs hr
 go_enter func155,ntmps155
 go_wp2_with fail
 refine(Rf (s.di++Lib.encodeRune c) w ((ae HB).at (ae HT).2) (by omega)).mono ?_
 rintro e w1⟨rfl,hm⟩
 have T1:=(ae HT).more hm
 have zry:=Cg T1
 have zrz:=sr T1
 have hf2:=T1.frozen
 have hb1:=(by obtain⟨R,hR⟩:=T1.reg;exact hR.1.yh:b<w1.heap.size)
 clear hf1 zhf HT hm N2
 have hmem:=fun r h=>z9 (s.di++Lib.encodeRune c) om ([],[]) r h
 have hX:=fun h=>L8 s c h
 have hX2:=fun h=>L9 s c h
 have hX3:=fun h=>Ma s c h
 have hX4:=fun h=>Mb s c h
 rw[show oa (s.di++Lib.encodeRune c) om ([],[])=kz (s.di++Lib.encodeRune c)from rfl]at hmem
 generalize kz (s.di++Lib.encodeRune c)=f at*
 obtain⟨n,wt⟩:=f
 unfold Hf
 simp only at*
 have T2:=hide (fun o=>M9 T1 o)
 cases wt
 ·have hmem':=hmem n rfl
  by_cases hn0:n.1=[]
  ·have e0:(n.1==[])=true:=by simp[hn0]
   have HF:=hide (hX2 ⟨rfl,hn0⟩)
   have zpa:∀w,(Op.stringOp .add ⟨#[38]⟩ ⟨s.di.toArray⟩).run prog w= .ok (.string ⟨(38::s.di).toArray⟩) w:=fun w=>uh [38] s.di w (by have:=(ae HR).come;simp only[ai,ak];unfold lim;omega)
   clear hX hX2 hX3 hX4 hmem hmem' T1
   go_wp2_with fail
   refine(lj (38::s.di) (ae HR).at' (ae T2 _) (by have:=ae HS;have:=(ae HR).come;simp only[ai];omega)).mono ?_
   rintro e w3⟨rfl,h3⟩
   go_wp2_with fail
   refine(ic 33 h3).mono ?_
   rintro e w4⟨rfl,h4⟩
   go_wp2
   go_ret
   exact⟨by rw[ae HF];rfl,by rw[ae HF];exact h4⟩
  ·have e0:(n.1==[])=false:=by simp[hn0]
   have hin:n∈om∧ue (s.di++Lib.encodeRune c) n.1=true:=by
    rcases hmem' with h1|h1
    ·subst h1;exact absurd rfl hn0
    ·exact h1
   have hl1:=Ao n hin.1
   have hl2:=(E4 n hin.1).2
   by_cases hnc:n.1=s.di++Lib.encodeRune c
   ·have e1:(n.1==s.di++Lib.encodeRune c)=true:=by simp[hnc]
    have HF:=hide (hX3 ⟨rfl,hn0,hnc⟩)
    clear hX hX2 hX3 hX4 hmem hmem' T1 hin hn0 hnc
    go_wp2_with fail
    refine(lj n.2 (ae HR).at' (ae T2 _) (by have:=ae HS;omega)).mono ?_
    rintro e w3⟨rfl,h3⟩
    have d3:=sr h3
    rw[i9]at d3
    go_wp2_with fail
    refine(mr s.ev h3).mono ?_
    rintro e w4⟨rfl,h4⟩
    go_wp2
    go_ret
    exact⟨by rw[ae HF];rfl,by rw[ae HF];exact h4⟩
   ·have e1:(n.1==s.di++Lib.encodeRune c)=false:=by simp[hnc]
    have HF:=hide (hX4 ⟨rfl,hn0,hnc⟩)
    have hle:=zkc hin.2 hnc (E4 n hin.1).1
    clear hX hX2 hX3 hX4 hmem hmem' T1 hin hn0 hnc
    go_wp2_with fail
    refine(J3 n c hc (ae HB) (ae HR) hl1 (by omega) hle (ae T2 _) (ae HS)).mono ?_
    rintro e w3⟨rfl,h3⟩
    go_wp2
    go_ret
    exact⟨by rw[ae HF];rfl,by rw[ae HF];exact h3⟩
 ·have HF:=hide (hX rfl)
  have T3:=hide (fun o=>M9 (U2 T1 (s.di++Lib.encodeRune c)) o)
  clear hX hX2 hX3 hX4 hmem T1
  go_wp2
  go_ret
  exact⟨by rw[ae HF];rfl,by rw[ae HF];exact ae T3 _⟩
end
end Go.Proofs.YtdfmapcnfficlaaGreatDoor

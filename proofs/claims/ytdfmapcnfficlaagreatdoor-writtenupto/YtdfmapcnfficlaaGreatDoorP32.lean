import Derived.Test.YtdfmapcnfficlaaGreatDoorP31
set_option linter.all false
namespace Go.Proofs.YtdfmapcnfficlaaGreatDoor
open Go Go.RowKit
theorem Hl{l:Str}(h:l≠[]):Lib.decodeL l=Lib.decodeGo ⟨l.toArray⟩:=by
 have hl:l.length≠0:=fun e=>h (List.length_eq_zero_iff.1 e)
 unfold Lib.decodeGo Lib.decodeL
 rw[ag (by simp[ByteArray.size];exact h)]
theorem s8(n:Nat)(h:n<256):(UInt8.ofNat n).toNat=n:=by
 simp[UInt8.toNat_ofNat']
 omega
def Whole1(l:Str):Prop:=l≠[]∧fl l=true∧(Lib.decodeGo ⟨l.toArray⟩).2=l.length
theorem zfa(n:Nat)(h:n<128):Whole1 [UInt8.ofNat n]:=by
 have e:=s8 n (by omega)
 have hf:Lib.firstT n=240:=by unfold Lib.firstT;rw[au h]
 refine⟨by simp,?_,?_⟩
 ·simp[fl,e,hf]
 ·rw[sb (by simp),tj _ _ _ _ _ (by simp) (si _) (si _) (si _) (si _)]
  simp[e,hf]
theorem zfb(a b:Nat)(ha:194≤a∧a<224)(hb:128≤b∧b≤191):Whole1 [UInt8.ofNat a,UInt8.ofNat b]:=by
 have ea:=s8 a (by omega)
 have eb:=s8 b (by omega)
 have hf:Lib.firstT a=2:=by unfold Lib.firstT;rw[ag (by omega),ag (by omega),au (by omega)]
 refine⟨by simp,?_,?_⟩
 ·simp[fl,ea,hf]
 ·rw[sb (by simp),tj _ _ _ _ _ (by simp) (si _) (si _) (si _) (si _)]
  simp only[List.getD_cons_zero,List.getD_cons_succ,ea,eb,hf]
  rw[ag (by decide),ag (by decide)]
  have h1:Lib.accLo (2 / 16)=128:=by decide
  have h2:Lib.accHi (2 / 16)=191:=by decide
  rw[h1,h2]
  unfold Lib.slowN
  rw[ag (by simp),ag (by omega),au (by decide)]
  rfl
theorem Br(a b c t:Nat)(ha:a<256)(hb:b≤191)(hc:128≤c∧c≤191)(hf:Lib.firstT a=t)(ht:t%8=3)(hn:t≠240∧t≠241)(hlo:Lib.accLo (t / 16)≤b)(hhi:b≤Lib.accHi (t / 16)):Whole1 [UInt8.ofNat a,UInt8.ofNat b,UInt8.ofNat c]:=by
 have ea:=s8 a (by omega)
 have eb:=s8 b (by omega)
 have ec:=s8 c (by omega)
 refine⟨by simp,?_,?_⟩
 ·simp[fl,ea,hf,ht]
 ·rw[sb (by simp),tj _ _ _ _ _ (by simp) (si _) (si _) (si _) (si _)]
  simp only[List.getD_cons_zero,List.getD_cons_succ,ea,eb,ec,hf]
  rw[ag hn.1,ag hn.2,ht]
  unfold Lib.slowN
  rw[ag (by simp),ag (by omega),ag (by decide),ag (by omega),au (by decide)]
  rfl
theorem Hm(a b c d t:Nat)(ha:a<256)(hb:b≤191)(hc:128≤c∧c≤191)(hd:128≤d∧d≤191)(hf:Lib.firstT a=t)(ht:t%8=4)(hn:t≠240∧t≠241)(hlo:Lib.accLo (t / 16)≤b)(hhi:b≤Lib.accHi (t / 16)):Whole1 [UInt8.ofNat a,UInt8.ofNat b,UInt8.ofNat c,UInt8.ofNat d]:=by
 have ea:=s8 a (by omega)
 have eb:=s8 b (by omega)
 have ec:=s8 c (by omega)
 have ed:=s8 d (by omega)
 refine⟨by simp,?_,?_⟩
 ·simp[fl,ea,hf,ht]
 ·rw[sb (by simp),tj _ _ _ _ _ (by simp) (si _) (si _) (si _) (si _)]
  simp only[List.getD_cons_zero,List.getD_cons_succ,ea,eb,ec,ed,hf]
  rw[ag hn.1,ag hn.2,ht]
  unfold Lib.slowN
  rw[ag (by simp),ag (by omega),ag (by decide),ag (by omega),ag (by decide),ag (by omega)]
  rfl
theorem Ki(r:Int):Whole1 (Lib.encodeRune r):=by
 unfold Lib.encodeRune
 by_cases h0:r<0∨(55296≤r∧r≤57343)∨1114111<r
 ·rw[Lib.encodeRuneZ_bad h0]
  exact Br 239 191 189 3 (by decide) (by decide) (by decide) (by decide) (by decide) (by decide) (by decide) (by decide)
 obtain⟨n,rfl⟩:∃n:Nat,r=n:=⟨r.toNat,by omega⟩
 by_cases h1:n≤127
 ·rw[Lib.encodeRuneZ_one (by omega) (by omega)]
  simpa using zfa n (by omega)
 by_cases h2:n≤2047
 ·rw[Lib.encodeRuneZ_two (by omega) (by omega)]
  have e1:(192+(n:Int) / 64).toNat=192+n / 64:=by omega
  have e2:(128+(n:Int)%64).toNat=128+n%64:=by omega
  simp only[List.map_cons,List.map_nil,e1,e2]
  exact zfb _ _ (by omega) (by omega)
 by_cases h3:n≤65535
 ·rw[Lib.encodeRuneZ_three (by omega)]
  have e1:(224+(n:Int) / 4096).toNat=224+n / 4096:=by omega
  have e2:(128+(n:Int) / 64%64).toNat=128+n / 64%64:=by omega
  have e3:(128+(n:Int)%64).toNat=128+n%64:=by omega
  simp only[List.map_cons,List.map_nil,e1,e2,e3]
  have hb:128+n / 64%64≤191:=by omega
  have hc:128≤128+n%64∧128+n%64≤191:=by omega
  by_cases k1:n<4096
  ·exact Br _ _ _ 19 (by omega) hb hc (by rw[show n / 4096=0 by omega];decide) (by decide) (by decide) (by rw[show Lib.accLo (19 / 16)=160 by decide];omega) (by rw[show Lib.accHi (19 / 16)=191 by decide];omega)
  by_cases k2:n / 4096=13
  ·exact Br _ _ _ 35 (by omega) hb hc (by rw[k2];decide) (by decide) (by decide) (by rw[show Lib.accLo (35 / 16)=128 by decide];omega) (by rw[show Lib.accHi (35 / 16)=159 by decide];omega)
  ·refine Br _ _ _ 3 (by omega) hb hc ?_ (by decide) (by decide) (by rw[show Lib.accLo (3 / 16)=128 by decide];omega) (by rw[show Lib.accHi (3 / 16)=191 by decide];omega)
   unfold Lib.firstT
   rw[ag (by omega),ag (by omega),ag (by omega),ag (by omega)]
   by_cases k3:224+n / 4096<237
   ·rw[au k3]
   ·rw[ag k3,ag (by omega),au (by omega)]
 ·rw[Lib.encodeRuneZ_four (by omega) (by omega)]
  have e1:(240+(n:Int) / 262144).toNat=240+n / 262144:=by omega
  have e2:(128+(n:Int) / 4096%64).toNat=128+n / 4096%64:=by omega
  have e3:(128+(n:Int) / 64%64).toNat=128+n / 64%64:=by omega
  have e4:(128+(n:Int)%64).toNat=128+n%64:=by omega
  simp only[List.map_cons,List.map_nil,e1,e2,e3,e4]
  have hb:128+n / 4096%64≤191:=by omega
  have hc:128≤128+n / 64%64∧128+n / 64%64≤191:=by omega
  have hd:128≤128+n%64∧128+n%64≤191:=by omega
  by_cases k1:n / 262144=0
  ·exact Hm _ _ _ _ 52 (by omega) hb hc hd (by rw[k1];decide) (by decide) (by decide) (by rw[show Lib.accLo (52 / 16)=144 by decide];omega) (by rw[show Lib.accHi (52 / 16)=191 by decide];omega)
  by_cases k2:n / 262144=4
  ·exact Hm _ _ _ _ 68 (by omega) hb hc hd (by rw[k2];decide) (by decide) (by decide) (by rw[show Lib.accLo (68 / 16)=128 by decide];omega) (by rw[show Lib.accHi (68 / 16)=143 by decide];omega)
  ·refine Hm _ _ _ _ 4 (by omega) hb hc hd ?_ (by decide) (by decide) (by rw[show Lib.accLo (4 / 16)=128 by decide];omega) (by rw[show Lib.accHi (4 / 16)=191 by decide];omega)
   unfold Lib.firstT
   rw[ag (by omega),ag (by omega),ag (by omega),ag (by omega),ag (by omega),ag (by omega),ag (by omega),ag (by omega),au (by omega)]
def Wf(l:Str):Prop:=∀y,runeCount (l++y)=runeCount l+runeCount y
theorem Wf.nil:Wf []:=fun y=>by simp[runeCount,B7]
theorem zbz{x:Str}(h:x≠[]):runeCount x=1+runeCount (x.drop (Lib.decodeL x).2):=by
 unfold runeCount
 have hl:x.length≠0:=fun e=>h (List.length_eq_zero_iff.1 e)
 have hp:=Lc x
 obtain⟨n,hn⟩:∃n,x.length=n+1:=⟨x.length-1,by omega⟩
 rw[hn,B7,ag h]
 rw[Tl n (x.drop (Lib.decodeL x).2).length _ (by rw[fj];omega) (cx _)]
theorem Whole1.step{l:Str}(h:Whole1 l)(y:Str):runeCount (l++y)=1+runeCount y:=by
 have hne:l++y≠[]:=by simp[h.1]
 rw[zbz hne,Hl hne,B4 y h.2.1,h.2.2,List.drop_left]
theorem Whole1.wf{l:Str}(h:Whole1 l):Wf l:=fun y=>by
 have h0:=h.step []
 rw[gq]at h0
 rw[h.step y,h0]
 simp[runeCount,B7]
end Go.Proofs.YtdfmapcnfficlaaGreatDoor

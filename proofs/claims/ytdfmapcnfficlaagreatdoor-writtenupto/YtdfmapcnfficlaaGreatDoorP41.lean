import Derived.Test.YtdfmapcnfficlaaGreatDoorP40
set_option linter.all false
set_option maxRecDepth 100000
set_option maxHeartbeats 4000000
namespace Go.Proofs.YtdfmapcnfficlaaGreatDoor.Si
open Go Go.RowKit
def bt(r:Str)(k:Nat):Int:=((r.getD k 0).toNat:Nat)
def oneG(r:Str)(n:Nat):Nat→Nat→Int→Int→Int→Int×Int×Bool
 |0,k,c,lo,hi=>(c,n,true)
 |f+1,k,c,lo,hi=>if r.length≤k then(65533,k,false)else if bt r k<lo∨hi<bt r k then(65533,k,true)else oneG r n f (k+1) (64*c+bt r k-128) 128 191
def zft(r:Str):Int×Int×Bool:=
 if(M.nh (bt r 0)).1=0 then(65533,1,true)
 else oneG r (M.nh (bt r 0)).1.toNat ((M.nh (bt r 0)).1.toNat-1) 1 (M.Jw (M.nh (bt r 0)).1 (bt r 0)) (M.nh (bt r 0)).2.1 (M.nh (bt r 0)).2.2
theorem Ts(x:Str)(i k:Nat):M.qz ⟨x.toArray⟩ (i+k)=bt (x.drop i) k:=by
 unfold M.qz bt
 by_cases h:i+k<x.length
 ·rw[dif_pos (by simpa[ByteArray.size]using h)]
  rw[bu,List.getElem?_drop,ig h];rfl
 ·rw[dif_neg (by simpa[ByteArray.size]using h)]
  rw[bu,List.getElem?_drop,List.getElem?_eq_none_iff.2 (by omega)];rfl
theorem Tt(x:Str)(i n:Nat)(hi:i<x.length):∀(f k:Nat)(c lo h:Int),M.rf ⟨x.toArray⟩ i n f k c lo h=oneG (x.drop i) n f k c lo h
 |0,k,c,lo,h=>rfl
 |f+1,k,c,lo,h=>by
  have ih:=Tt x i n hi f (k+1)
  rw[M.rf,oneG,Ts,ih]
  have e:((⟨x.toArray⟩:ByteArray).size≤i+k)↔((x.drop i).length≤k):=by
   rw[fj];simp only[ByteArray.size,List.size_toArray];omega
  simp only[e]
theorem zim(x:Str)(i:Nat)(hi:i<x.length):M.zf ⟨x.toArray⟩ i=zft (x.drop i):=by
 have e:M.qz ⟨x.toArray⟩ i=bt (x.drop i) 0:=Ts x i 0
 unfold M.zf zft
 rw[e,Tt x i _ hi]
theorem Tv(b:Nat)(h:b<256):(b<128∧M.nh b=(1,0,0)∧Lib.firstT b=240)∨(((128≤b∧b<194)∨245≤b)∧M.nh b=(0,0,0)∧Lib.firstT b=241)∨
  ((194≤b∧b≤223)∧M.nh b=(2,128,191)∧Lib.firstT b=2)∨
  ((224≤b∧b≤239)∧∃lo hi:Nat,M.nh b=(3,(lo:Int),(hi:Int))∧Lib.firstT b%8=3∧Lib.accLo (Lib.firstT b / 16)=lo∧Lib.accHi (Lib.firstT b / 16)=hi∧lo=(if b=224 then 160 else 128)∧hi=(if b=237 then 159 else 191))∨
  ((240≤b∧b≤244)∧∃lo hi:Nat,M.nh b=(4,(lo:Int),(hi:Int))∧Lib.firstT b%8=4∧Lib.accLo (Lib.firstT b / 16)=lo∧Lib.accHi (Lib.firstT b / 16)=hi∧lo=(if b=240 then 144 else 128)∧hi=(if b=244 then 143 else 191)):=by
 have key:∀b:Fin 256,(b.1<128∧M.nh b.1=(1,0,0)∧Lib.firstT b.1=240)∨(((128≤b.1∧b.1<194)∨245≤b.1)∧M.nh b.1=(0,0,0)∧Lib.firstT b.1=241)∨
  ((194≤b.1∧b.1≤223)∧M.nh b.1=(2,128,191)∧Lib.firstT b.1=2)∨
  ((224≤b.1∧b.1≤239)∧M.nh b.1=(3,(if b.1=224 then 160 else 128),(if b.1=237 then 159 else 191))∧Lib.firstT b.1%8=3∧Lib.accLo (Lib.firstT b.1 / 16)=(if b.1=224 then 160 else 128)∧Lib.accHi (Lib.firstT b.1 / 16)=(if b.1=237 then 159 else 191))∨
  ((240≤b.1∧b.1≤244)∧M.nh b.1=(4,(if b.1=240 then 144 else 128),(if b.1=244 then 143 else 191))∧Lib.firstT b.1%8=4∧Lib.accLo (Lib.firstT b.1 / 16)=(if b.1=240 then 144 else 128)∧Lib.accHi (Lib.firstT b.1 / 16)=(if b.1=244 then 143 else 191)):=by decide
 rcases key ⟨b,h⟩with k|k|k|⟨k1,k2,k3,k4,k5⟩|⟨k1,k2,k3,k4,k5⟩
 ·exact .inl k
 ·exact .inr (.inl k)
 ·exact .inr (.inr (.inl k))
 ·refine .inr (.inr (.inr (.inl ⟨k1,_,_,?_,k3,k4,k5,rfl,rfl⟩)))
  simp only at k2⊢
  rw[k2];split<;>split<;>rfl
 ·refine .inr (.inr (.inr (.inr ⟨k1,_,_,?_,k3,k4,k5,rfl,rfl⟩)))
  simp only at k2⊢
  rw[k2];split<;>split<;>rfl
theorem v6{b0:UInt8}{r:Str}(h:Lib.firstT b0.toNat%8≤r.length+1):fl (b0::r)=true:=by unfold fl;simp[h]
theorem zb7{b0:UInt8}(h:¬Lib.firstT b0.toNat%8≤1):fl [b0]=false:=by unfold fl;simp[h]
theorem Wh{b0 b1:UInt8}(h:¬Lib.firstT b0.toNat%8≤2):fl [b0,b1]=ro (Lib.accLo (Lib.firstT b0.toNat / 16)) (Lib.accHi (Lib.firstT b0.toNat / 16)) b1:=by
 unfold fl;simp[h]
theorem zb8{b0 b1 b2:UInt8}(h:¬Lib.firstT b0.toNat%8≤3):fl [b0,b1,b2]=(ro (Lib.accLo (Lib.firstT b0.toNat / 16)) (Lib.accHi (Lib.firstT b0.toNat / 16)) b1||ro 128 191 b2):=by
 unfold fl;simp[h]
theorem Fw(b0:UInt8)(r:Str):Lib.decodeGo ⟨(b0::r).toArray⟩=Lib.decodeN (r.length+1) b0.toNat (r.getD 0 0).toNat (r.getD 1 0).toNat (r.getD 2 0).toNat:=by
 rw[sb (by simp)];rfl
theorem y6{r:Str}(hf:fl r=true)(hd:Lib.decodeGo ⟨r.toArray⟩=(65533,1)):fv r=(65533,broken r):=by
 unfold fv;rw[hf,ag (by simp),au (by rw[hd];exact⟨rfl,rfl⟩)]
theorem Jb{r:Str}(hf:fl r=true){v w:Nat}(hd:Lib.decodeGo ⟨r.toArray⟩=(v,w))(hw:¬(v=65533∧w=1)):fv r=((v:Int),w):=by
 unfold fv;rw[hf,ag (by simp),hd,ag (by simp only;omega)]
theorem Jc(b0:UInt8)(r:Str)(h:∀b1 t,r=b1::t→fl [b0,b1]=true):broken (b0::r)=1:=by
 unfold broken
 cases r with
 |nil=>rfl
 |cons b1 t=>
  rw[show(b0::b1::t).length=(t.length+1)+1 from rfl,mn]
  have:=h b1 t rfl
  rw[ag (by simp[this])]
theorem Zy(b0 b1:UInt8)(t:Str)(h1:fl [b0,b1]=false)(h:∀b2 u,t=b2::u→fl [b0,b1,b2]=true):broken (b0::b1::t)=2:=by
 unfold broken
 rw[show(b0::b1::t).length=(t.length+1)+1 from rfl,mn]
 rw[au (by simp[h1])]
 cases t with
 |nil=>simp[mn]
 |cons b2 u=>
  rw[show(b2::u).length+1=(u.length+1)+1 from rfl,mn]
  have:=h b2 u rfl
  rw[ag (by simp[this])]
theorem zin(b0 b1 b2:UInt8)(t:Str)(h1:fl [b0,b1]=false)(h2:fl [b0,b1,b2]=false)(h:∀b3 u,t=b3::u→fl [b0,b1,b2,b3]=true):broken (b0::b1::b2::t)=3:=by
 unfold broken
 rw[show(b0::b1::b2::t).length=(t.length+2)+1 from rfl,mn]
 rw[au (by simp[h1])]
 rw[show t.length+2=(t.length+1)+1 from rfl,mn]
 rw[au (by simp[h2])]
 cases t with
 |nil=>simp[mn]
 |cons b3 u=>
  rw[mn]
  have:=h b3 u rfl
  rw[ag (by simp[this])]
theorem Gd(r:Str)(hr:r≠[]):(fl r=true→zft r=((fv r).1,(((fv r).2:Nat):Int),true))∧(fl r=false→zft r=(65533,((r.length:Nat):Int),false)):=by
 cases r with
 |nil=>exact absurd rfl hr
 |cons b0 r=>
  have lt:∀x:UInt8,x.toNat<256:=fun x=>x.toBitVec.isLt
  have e0:bt (b0::r) 0=(b0.toNat:Nat):=rfl
  unfold zft
  rw[e0]
  rcases Tv b0.toNat (lt b0)with⟨k1,k2,k3⟩|⟨k1,k2,k3⟩|⟨k1,k2,k3⟩|⟨k1,lo,hi,k2,k3,k4,k5,k6,k7⟩|⟨k1,lo,hi,k2,k3,k4,k5,k6,k7⟩
  ·have hf:fl (b0::r)=true:=v6 (by rw[k3];omega)
   rw[k2,ag (by simp),hf]
   refine⟨fun _=> ?_,fun z=>by cases z⟩
   have hd:Lib.decodeGo ⟨(b0::r).toArray⟩=(b0.toNat,1):=by rw[Fw];unfold Lib.decodeN;rw[au k1]
   rw[Jb hf hd (by omega)]
   simp[oneG,M.Jw]
  ·have hf:fl (b0::r)=true:=v6 (by rw[k3];omega)
   rw[k2,au rfl,hf]
   refine⟨fun _=> ?_,fun z=>by cases z⟩
   have hd:Lib.decodeGo ⟨(b0::r).toArray⟩=(65533,1):=by
    rw[Fw];unfold Lib.decodeN
    rw[ag (by omega)]
    repeat' split
    all_goals first|rfl|(exfalso;omega)
   rw[y6 hf hd,Jc b0 r (fun b1 t _=>v6 (by rw[k3];simp))]
   rfl
  ·cases r with
   |nil=>
    have hf:fl [b0]=false:=zb7 (by rw[k3];simp)
    rw[k2,ag (by simp),hf]
    exact⟨(fun z=>by cases z),(fun _=>by simp[oneG])⟩
   |cons b1 t=>
    have hf:fl (b0::b1::t)=true:=v6 (by rw[k3];simp)
    rw[k2,ag (by simp),hf]
    refine⟨fun _=> ?_,fun z=>by cases z⟩
    have e1:bt (b0::b1::t) 1=(b1.toNat:Nat):=rfl
    simp only[show(2:Int).toNat=2 from rfl,Nat.add_one_sub_one,show 2-1=1 from rfl,oneG,e1]
    rw[ag (by simp)]
    by_cases z:((b1.toNat:Nat):Int)<128∨191<((b1.toNat:Nat):Int)
    ·rw[au z]
     have hd:Lib.decodeGo ⟨(b0::b1::t).toArray⟩=(65533,1):=by
      rw[Fw];unfold Lib.decodeN
      simp only[List.getD_cons_zero]
      rw[ag (by omega)]
      repeat' split
      all_goals first|rfl|(exfalso;omega)
     rw[y6 hf hd,Jc b0 _ (fun b1 t _=>v6 (by rw[k3];simp))]
    ·rw[ag z]
     have hd:Lib.decodeGo ⟨(b0::b1::t).toArray⟩=(b0.toNat%32*64+b1.toNat%64,2):=by
      rw[Fw];unfold Lib.decodeN
      simp only[List.getD_cons_zero]
      rw[ag (by omega),au ⟨by omega,by simp,by omega⟩,au (by omega)]
     rw[Jb hf hd (by omega)]
     simp only[M.Jw,au]
     refine Prod.ext ?_ rfl
     simp only
     omega
  ·have n2:¬Lib.firstT b0.toNat%8≤2:=by omega
   rw[k2,ag (by simp)]
   simp only[show(3:Int).toNat=3 from rfl,show 3-1=1+1 from rfl]
   rw[oneG]
   cases r with
   |nil=>
    rw[zb7 (by omega),au (by simp)]
    exact⟨(fun z=>by cases z),(fun _=>rfl)⟩
   |cons b1 t=>
    have l1:=lt b1
    have e1:bt (b0::b1::t) 1=(b1.toNat:Nat):=rfl
    have o1:ro (Lib.accLo (Lib.firstT b0.toNat / 16)) (Lib.accHi (Lib.firstT b0.toNat / 16)) b1=decide (b1.toNat<lo∨hi<b1.toNat):=by rw[k4,k5];rfl
    rw[ag (by simp),e1]
    by_cases z:((b1.toNat:Nat):Int)<lo∨hi<((b1.toNat:Nat):Int)
    ·rw[au z]
     have f2:fl [b0,b1]=true:=by rw[Wh n2,o1];simp;omega
     have hf:fl (b0::b1::t)=true:=by
      cases t with
      |nil=>exact f2
      |cons b2 u=>exact v6 (by rw[k3];simp)
     have hd:Lib.decodeGo ⟨(b0::b1::t).toArray⟩=(65533,1):=by
      rw[Fw];unfold Lib.decodeN
      simp only[List.getD_cons_zero,List.getD_cons_succ]
      rw[ag (by omega)]
      repeat' split
      all_goals first|rfl|(exfalso;omega)|(exfalso;split at k6<;>split at k7<;>omega)
     rw[hf]
     refine⟨fun _=> ?_,fun z=>by cases z⟩
     rw[y6 hf hd,Jc b0 _ (fun b t e=>by obtain⟨g1,g2⟩:=List.cons.inj e;rw[←g1];exact f2)]
    ·rw[ag z]
     have f2:fl [b0,b1]=false:=by rw[Wh n2,o1];simp;omega
     rw[oneG]
     cases t with
     |nil=>
      rw[f2,au (by simp)]
      exact⟨(fun z=>by cases z),(fun _=>rfl)⟩
     |cons b2 u=>
      have l2:=lt b2
      have e2:bt (b0::b1::b2::u) (1+1)=(b2.toNat:Nat):=rfl
      have hf:fl (b0::b1::b2::u)=true:=v6 (by rw[k3];simp)
      rw[ag (by simp),e2,hf]
      refine⟨fun _=> ?_,fun z=>by cases z⟩
      by_cases z2:((b2.toNat:Nat):Int)<128∨191<((b2.toNat:Nat):Int)
      ·rw[au z2]
       have hd:Lib.decodeGo ⟨(b0::b1::b2::u).toArray⟩=(65533,1):=by
        rw[Fw];unfold Lib.decodeN
        simp only[List.getD_cons_zero,List.getD_cons_succ]
        rw[ag (by omega)]
        repeat' split
        all_goals first|rfl|(exfalso;omega)
       rw[y6 hf hd,Zy b0 b1 _ f2 (fun b t e=>v6 (by rw[k3];simp))]
      ·rw[ag z2,oneG]
       have hd:Lib.decodeGo ⟨(b0::b1::b2::u).toArray⟩=(b0.toNat%16*4096+b1.toNat%64*64+b2.toNat%64,3):=by
        rw[Fw];unfold Lib.decodeN
        simp only[List.getD_cons_zero,List.getD_cons_succ]
        rw[ag (by omega),ag (by omega),au (by simp;split at k6<;>split at k7<;>omega),au (by split at k6<;>split at k7<;>omega)]
       rw[Jb hf hd (by omega)]
       refine Prod.ext ?_ rfl
       rw[show M.Jw 3 ((b0.toNat:Nat):Int)=(b0.toNat:Int)-224 from rfl]
       split at k6<;>split at k7<;>omega
  ·have n3:¬Lib.firstT b0.toNat%8≤3:=by omega
   rw[k2,ag (by simp)]
   simp only[show(4:Int).toNat=4 from rfl,show 4-1=2+1 from rfl]
   rw[oneG]
   cases r with
   |nil=>
    rw[zb7 (by omega),au (by simp)]
    exact⟨(fun z=>by cases z),(fun _=>rfl)⟩
   |cons b1 t=>
    have l1:=lt b1
    have e1:bt (b0::b1::t) 1=(b1.toNat:Nat):=rfl
    have o1:ro (Lib.accLo (Lib.firstT b0.toNat / 16)) (Lib.accHi (Lib.firstT b0.toNat / 16)) b1=decide (b1.toNat<lo∨hi<b1.toNat):=by rw[k4,k5];rfl
    rw[ag (by simp),e1]
    by_cases z:((b1.toNat:Nat):Int)<lo∨hi<((b1.toNat:Nat):Int)
    ·rw[au z]
     have o2:ro (Lib.accLo (Lib.firstT b0.toNat / 16)) (Lib.accHi (Lib.firstT b0.toNat / 16)) b1=true:=by rw[o1];simp;omega
     have f2:fl [b0,b1]=true:=by rw[Wh (by omega),o2]
     have hf:fl (b0::b1::t)=true:=by
      match t with
      |[]=>exact f2
      |[b2]=>rw[zb8 n3,o2];rfl
      |b2::b3::u=>exact v6 (by rw[k3];simp)
     have hd:Lib.decodeGo ⟨(b0::b1::t).toArray⟩=(65533,1):=by
      rw[Fw];unfold Lib.decodeN
      simp only[List.getD_cons_zero,List.getD_cons_succ]
      rw[ag (by omega)]
      repeat' split
      all_goals first|rfl|(exfalso;omega)|(exfalso;split at k6<;>split at k7<;>omega)
     rw[hf]
     refine⟨fun _=> ?_,fun z=>by cases z⟩
     rw[y6 hf hd,Jc b0 _ (fun b t e=>by obtain⟨g1,g2⟩:=List.cons.inj e;rw[←g1];exact f2)]
    ·rw[ag z]
     have o2:ro (Lib.accLo (Lib.firstT b0.toNat / 16)) (Lib.accHi (Lib.firstT b0.toNat / 16)) b1=false:=by rw[o1];simp;omega
     have f2:fl [b0,b1]=false:=by rw[Wh (by omega),o2]
     rw[oneG]
     cases t with
     |nil=>
      rw[f2,au (by simp)]
      exact⟨(fun z=>by cases z),(fun _=>rfl)⟩
     |cons b2 u=>
      have l2:=lt b2
      have e2:bt (b0::b1::b2::u) (1+1)=(b2.toNat:Nat):=rfl
      rw[ag (by simp),e2]
      by_cases z2:((b2.toNat:Nat):Int)<128∨191<((b2.toNat:Nat):Int)
      ·rw[au z2]
       have f3:fl [b0,b1,b2]=true:=by rw[zb8 n3,o2];simp[ro];omega
       have hf:fl (b0::b1::b2::u)=true:=by
        cases u with
        |nil=>exact f3
        |cons b3 v=>exact v6 (by rw[k3];simp)
       have hd:Lib.decodeGo ⟨(b0::b1::b2::u).toArray⟩=(65533,1):=by
        rw[Fw];unfold Lib.decodeN
        simp only[List.getD_cons_zero,List.getD_cons_succ]
        rw[ag (by omega)]
        repeat' split
        all_goals first|rfl|(exfalso;omega)
       rw[hf]
       refine⟨fun _=> ?_,fun z=>by cases z⟩
       rw[y6 hf hd,Zy b0 b1 _ f2 (fun b t e=>by obtain⟨g1,g2⟩:=List.cons.inj e;rw[←g1];exact f3)]
      ·rw[ag z2,oneG]
       have f3:fl [b0,b1,b2]=false:=by rw[zb8 n3,o2];simp[ro];omega
       cases u with
       |nil=>
        rw[f3,au (by simp)]
        exact⟨(fun z=>by cases z),(fun _=>rfl)⟩
       |cons b3 v=>
        have l3:=lt b3
        have e3:bt (b0::b1::b2::b3::v) (1+1+1)=(b3.toNat:Nat):=rfl
        have hf:fl (b0::b1::b2::b3::v)=true:=v6 (by rw[k3];simp)
        rw[ag (by simp),e3,hf]
        refine⟨fun _=> ?_,fun z=>by cases z⟩
        by_cases z3:((b3.toNat:Nat):Int)<128∨191<((b3.toNat:Nat):Int)
        ·rw[au z3]
         have hd:Lib.decodeGo ⟨(b0::b1::b2::b3::v).toArray⟩=(65533,1):=by
          rw[Fw];unfold Lib.decodeN
          simp only[List.getD_cons_zero,List.getD_cons_succ]
          rw[ag (by omega)]
          repeat' split
          all_goals first|rfl|(exfalso;omega)
         rw[y6 hf hd,zin b0 b1 b2 _ f2 f3 (fun b t e=>v6 (by rw[k3];simp))]
        ·rw[ag z3,oneG]
         have hd:Lib.decodeGo ⟨(b0::b1::b2::b3::v).toArray⟩=(b0.toNat%8*262144+b1.toNat%64*4096+b2.toNat%64*64+b3.toNat%64,4):=by
          rw[Fw];unfold Lib.decodeN
          simp only[List.getD_cons_zero,List.getD_cons_succ]
          rw[ag (by omega),ag (by omega),ag (by omega),au (by simp;split at k6<;>split at k7<;>omega),au (by split at k6<;>split at k7<;>omega)]
         rw[Jb hf hd (by omega)]
         refine Prod.ext ?_ rfl
         rw[show M.Jw 4 ((b0.toNat:Nat):Int)=(b0.toNat:Int)-240 from rfl]
         split at k6<;>split at k7<;>omega
def P3(t:ByteArray)(w:Bool):Nat→Nat→Int→List Int
 |0,i,a=>[]
 |f+1,i,a=>if i<t.size then
   (if(M.zf t i).2.2=false∧w=false then[]
   else(if(M.zf t i).1=13 then[10]else if(M.zf t i).1=10∧a=13 then[]else[(M.zf t i).1])++P3 t w f (i+(M.zf t i).2.1.toNat) (M.zf t i).1)
  else[]
theorem Tw(x:Str)(i:Nat)(h:i<x.length):Sc (M.zf ⟨x.toArray⟩ i).1∧1≤(M.zf ⟨x.toArray⟩ i).2.1∧(M.zf ⟨x.toArray⟩ i).2.1≤4:=by
 have hne:x.drop i≠[]:=by intro e;have:=List.drop_eq_nil_iff.1 e;omega
 rw[zim x i h]
 refine⟨?_,?_⟩
 ·cases hf:fl (x.drop i)with
  |true=>rw[(Gd _ hne).1 hf];exact Py _
  |false=>rw[(Gd _ hne).2 hf];show Sc 65533;unfold Sc;omega
 ·unfold zft
  split
  ·simp
  ·next hz0=>
   have lt:((x.drop i).getD 0 0).toNat<256:=((x.drop i).getD 0 0).toBitVec.isLt
   have e0:bt (x.drop i) 0=(((x.drop i).getD 0 0).toNat:Nat):=rfl
   rw[e0]at hz0⊢
   have gen:∀(n:Nat),1≤n→n≤4→∀(f k:Nat)(c lo hi:Int),1≤k→k+f≤4→1≤(oneG (x.drop i) n f k c lo hi).2.1∧(oneG (x.drop i) n f k c lo hi).2.1≤4:=by
    intro n h1 h2 f
    induction f with
    |zero=>intro k c lo hi hk hk2;simp only[oneG];omega
    |succ f ih=>
     intro k c lo hi hk hk2
     rw[oneG]
     split
     ·simp only;omega
     ·split
      ·simp only;omega
      ·exact ih _ _ _ _ (by omega) (by omega)
   rcases Tv _ lt with⟨_,k2,_⟩|⟨_,k2,_⟩|⟨_,k2,_⟩|⟨_,lo,hi,k2,_⟩|⟨_,lo,hi,k2,_⟩
   ·rw[k2];exact gen 1 (by decide) (by decide) 0 1 _ _ _ (by decide) (by decide)
   ·rw[k2]at hz0;exact absurd rfl hz0
   ·rw[k2];exact gen 2 (by decide) (by decide) 1 1 _ _ _ (by decide) (by decide)
   ·rw[k2];exact gen 3 (by decide) (by decide) 2 1 _ _ _ (by decide) (by decide)
   ·rw[k2];exact gen 4 (by decide) (by decide) 3 1 _ _ _ (by decide) (by decide)
theorem P4(t:ByteArray)(w:Bool)(f i:Nat)(a:Int)(h:¬i<t.size):P3 t w f i a=[]:=by
 cases f with
 |zero=>rfl
 |succ f=>rw[P3,ag h]
theorem zdl(x:Str)(w:Bool):∀(f g i:Nat)(a:Int),x.length≤i+f→x.length≤i+g→
  P3 ⟨x.toArray⟩ w f i a=(pts g (a==13) (x.drop i)).1++(if w=true∧(pts g (a==13) (x.drop i)).2.1≠[]then[65533]else[])
 |0,g,i,a,h1,h2=>by
  have e:x.drop i=[]:=List.drop_eq_nil_iff.2 (by omega)
  rw[e,P3]
  cases g with
  |zero=>simp[pts]
  |succ g=>rw[pts,au (by decide)];simp
 |f+1,g,i,a,h1,h2=>by
  by_cases hi:i<x.length
  ·have hne:x.drop i≠[]:=by intro e;have:=List.drop_eq_nil_iff.1 e;omega
   obtain⟨g',rfl⟩:∃g',g=g'+1:=⟨g-1,by omega⟩
   obtain⟨o1,o2,o3⟩:=Tw x i hi
   rw[P3,au (by simpa[ByteArray.size]using hi)]
   rw[zim x i hi]at o1 o2 o3⊢
   cases hf:fl (x.drop i)with
   |false=>
    rw[(Gd _ hne).2 hf]
    rw[pts,au (Ag.2 hf)]
    cases w with
    |false=>simp
    |true=>
     have en:P3 ⟨x.toArray⟩ true f (i+(((x.drop i).length:Nat):Int).toNat) 65533=[]:=P4 _ _ _ _ _ (by
      rw[Int.toNat_natCast,fj];simp only[ByteArray.size,List.size_toArray];omega)
     simp only[en]
     simp[hne]
   |true=>
    have hz:¬(fv (x.drop i)).2=0:=by rw[Ag,hf];simp
    rw[(Gd _ hne).1 hf]at o1 o2 o3⊢
    simp only at o1 o2 o3⊢
    rw[pts,ag hz]
    have ih:=zdl x w f g' (i+(fv (x.drop i)).2) (fv (x.drop i)).1 (by omega) (by omega)
    rw[Int.toNat_natCast,ih,List.drop_drop]
    rw[ag (by simp)]
    generalize fv (x.drop i)=fp at*
    generalize pts g' (fp.1==13) (x.drop (i+fp.2))=tl at*
    by_cases c13:fp.1=13
    ·simp[c13]
    ·by_cases c10:fp.1=10∧a=13
     ·simp[c10.1,c10.2]
     ·have c11:¬(fp.1=10∧(a==13)=true):=by simpa using c10
      rw[ag c13,ag c10]
      simp only[ag c11,ag c13];simp
  ·have e:x.drop i=[]:=List.drop_eq_nil_iff.2 (by omega)
   rw[P4 _ _ _ _ _ (by simpa[ByteArray.size]using hi),e]
   cases g with
   |zero=>simp[pts]
   |succ g=>rw[pts,au (by decide)];simp
theorem znx(x:Str)(w:Bool):P3 ⟨x.toArray⟩ w x.length 0 0=z4 x w:=by
 rw[zdl x w x.length x.length 0 0 (by omega) (by omega)]
 simp[z4]
variable{m m':M.MS}{c:Int}{B:Nat}
def Cw(B:Nat)(m:M.MS):Prop:=∀t∈m.told,t.attrs.length≤B
theorem pn(h:Cw B m)(n:Str):Cw B (M.err m n):=by
 intro t ht
 rcases List.mem_append.1 ht with z|z
 ·exact h t z
 ·simp at z;rw[z];simp
theorem Kp(h:Cw B m)(n:Str)(p:Int):Cw B (M.wrong m n p):=by
 intro t ht
 rcases List.mem_append.1 ht with z|z
 ·exact h t z
 ·simp at z;rw[z];simp
theorem Ak(h:Cw B m)(c:Int):Cw B (M.lx m c):=by unfold M.lx;split;exact pn h _;exact h
theorem T5(h:Cw B m):Cw B (M.flush m):=by
 unfold M.flush
 split
 ·exact h
 ·intro t ht
  rcases List.mem_append.1 ht with z|z
  ·exact h t z
  ·simp at z;rw[z];simp
theorem Jf(h:Cw B m){t:Tok}(ht:t.attrs.length≤B):Cw B (M.tell m t):=by
 intro u hu
 rcases List.mem_append.1 hu with z|z
 ·exact T5 h u z
 ·simp at z;rw[z];exact ht
theorem zq(h:Cw B m):Cw B (M.dm m):=Jf (m:=m) h (t:={kind:=3,text:=M.jk m.name}) (by simp)
theorem Bt(h:Cw B m)(o:Bool):Cw B (M.dw m o):=Jf (m:=m) h (t:={kind:=4,name:=M.jk m.name,flag:=o}) (by simp)
theorem zf6(h:Cw B m):Cw B (M.ep m):=by rw[yb];exact h
theorem zdw(h:Cw B m):Cw B (M.qp m):=by rw[yz];exact h
theorem zdx(h:Cw B m):Cw B (M.ol m):=by
 unfold M.ol
 split
 ·exact pn (m:=M.Bk m) h _
 ·exact h
theorem Qi(h:Cw B m)(hb:m.attrs.length+2≤B):Cw B (M.ot m):=by
 have hc:=Kn m
 have hn:Cw B (M.cu m):=zf6 h
 have ha:(M.cu m).attrs.length≤B:=by show(M.ep m).attrs.length≤B;omega
 unfold M.ot
 split
 ·refine Jf (m:=M.vm (M.Bl (M.cu m))) ?_ (t:={kind:=2,name:=(M.cu m).fi}) (by simp)
  unfold M.vm M.Bl
  split<;>split
  ·exact pn (pn hn _) _
  ·exact pn hn _
  ·exact pn hn _
  ·exact hn
 ·exact Jf (m:={M.cu m with last:=(M.cu m).fi}) hn (t:={kind:=m.kind,name:=(M.cu m).fi,attrs:=(M.cu m).attrs,flag:=m.flag}) ha
theorem ut(h:Cw B m)(x:List Int):Cw B (M.give m x):=by unfold M.give;split<;>exact h
theorem Li(h:Cw B m)(x:Int):Cw B (M.meaning m x):=by unfold M.meaning;split;exact h;exact pn h _
theorem zc{c:Prop}[Decidable c]{a b:M.MS}(h1:Cw B a)(h2:Cw B b):Cw B (if c then a else b):=by
 split
 ·exact h1
 ·exact h2
theorem zi8(h:Cw B m)(hb:m.attrs.length+2≤B)(c:Int):Cw B (M.look m c):=by
 have ht:=Qi h hb
 have hte:∀n,Cw B (M.ot (M.err m n)):=fun n=>Qi (pn h n) hb
 have htf:Cw B (M.ot {m with flag:=true}):=Qi (m:={m with flag:=true}) h hb
 unfold M.look
 split
 ·unfold M.text;repeat' split
  all_goals first|exact h|exact Ak h c
 split
 ·unfold M.En;repeat' split
  all_goals first|exact h|exact ut h _|exact pn h _
 split
 ·unfold M.opens;repeat' split
  all_goals first|exact h|exact pn h _
 split
 ·unfold M.less;repeat' split
  all_goals exact h
 split
 ·unfold M.tag;repeat'(first|exact h|exact ht|exact Ak h c|exact zdw h|exact Ak (zc (pn h _) h) c|exact zdw (pn h _)|exact zdx h|exact Ak (pn h _) c|apply zc)
 split
 ·unfold M.around;repeat'(first|exact h|exact ht|exact hte _|exact htf|exact pn h _|apply zc)
 split
 ·unfold M.value;repeat'(first|exact Ak (zc (pn h _) h) c|exact h|exact ht|exact Ak h c|exact Ak (pn h _) c|apply zc)
 split
 ·unfold M.comment;repeat'(first|exact h|exact zq h|exact Ak h c|apply zc)
 split
 ·unfold M.dashes;repeat'(first|exact h|exact zq h|exact zq (pn h _)|apply zc)
 ·unfold M.js;repeat'(first|exact zc (c:=c=62) h (pn h _)|exact h|exact Bt h _|exact Bt (pn h _) _|exact Ak h c|exact pn h _|apply zc)
theorem zi9(h:Cw B m)(hb:m.attrs.length+2≤B)(hn:M.step m=some m'):Cw B m':=by
 unfold M.step at hn
 split at hn
 ·unfold M.reference at hn
  split at hn
  ·cases hn
  split at hn
  ·unfold M.number at hn
   split at hn
   ·cases hn
   split at hn
   ·injection hn with hn;subst hn
    exact ut (ut (Kp (m:=M.st m m.back) h _ _) _) _
   split at hn
   ·injection hn with hn;subst hn
    exact ut (Li (m:={M.st m m.back with pos:=m.pos+(M.pe m).1+1}) h _) _
   ·injection hn with hn;subst hn
    exact ut (Li (m:={M.wrong (M.st m m.back) [115,101,109,105,99,111,108,111,110] (m.pos+(M.pe m).1:Nat)with pos:=m.pos+(M.pe m).1}) (Kp (m:=M.st m m.back) h _ _) _) _
  split at hn
  ·injection hn with hn;subst hn
   exact ut h _
  split at hn
  ·cases hn
  cases hf:M.found m with
  |none=>
   rw[hf]at hn
   simp only at hn
   injection hn with hn;subst hn
   exact ut h _
  |some x=>
   rw[hf]at hn
   simp only at hn
   split at hn
   ·injection hn with hn;subst hn
    exact ut h _
   split at hn
   ·cases hn
   split at hn
   ·injection hn with hn;subst hn
    exact ut (ut h _) _
   ·injection hn with hn;subst hn
    exact ut (Kp h _ _) _
 split at hn
 ·unfold M.decl at hn
  split at hn
  ·cases hn
  split at hn
  ·injection hn with hn;subst hn;exact h
  split at hn
  ·injection hn with hn;subst hn;exact h
  split at hn
  ·injection hn with hn;subst hn;exact pn (m:={m with name:=[]}) h _
  ·injection hn with hn;subst hn;exact pn (m:={m with name:=[]}) h _
 split at hn
 ·cases hn
 ·injection hn with hn;subst hn
  exact zi8 h hb _
theorem Kq:∀(i:Nat){m m':M.MS},MInv m→Steps i m m'→Cw B m→ph m+64*i+2≤B→Cw B m'
 |0,m,m',hi,hs,h,hb=>by cases hs;exact h
 |i+1,m,m',hi,⟨m1,e,hs⟩,h,hb=>by
  have a:=Pv hi e
  have:=a.ph
  have hm:m.attrs.length≤ph m:=by unfold ph M.mj;omega
  exact Kq i a.inv hs (zi9 h (by omega) e) (by omega)
theorem zf7(h:Cw B m):Cw B (M.final m):=by
 unfold M.final
 split
 ·unfold M.ends
  repeat'(first|exact h|exact pn h _|exact Bt h _|exact zq h|exact zq (pn h _)|exact Bt (pn h _) _|exact pn (zdx h) _|apply zc)
 ·exact h
end Go.Proofs.YtdfmapcnfficlaaGreatDoor.Si

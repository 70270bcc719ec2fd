import Derived.Test.YtdfmapcnfficlaaGreatDoorP25
set_option linter.all false
namespace Go.Proofs.YtdfmapcnfficlaaGreatDoor
open Go.Proofs.Tryz
open Go Go.RowKit
theorem at0(b0:UInt8)(r:Str)(h:0<(⟨(b0::r).toArray⟩:ByteArray).size):(⟨(b0::r).toArray⟩:ByteArray)[0]'h=b0:=rfl
theorem ry(b0 b1:UInt8)(r:Str)(h:1<(⟨(b0::b1::r).toArray⟩:ByteArray).size):(⟨(b0::b1::r).toArray⟩:ByteArray)[1]'h=b1:=rfl
theorem S8(x:Str)(w:World)(hT:Lib.Utf8Tabs 2 3 w):
  Calls prog 85 #[.string ⟨x.toArray⟩] w fun e w'=>e= .returned (.bool (fl x))∧More w w':=by
 cases x with
 |nil=>exact zhp w
 |cons b0 r=>
  have hsz:(⟨(b0::r).toArray⟩:ByteArray).size=r.length+1:=by simp[ByteArray.size]
  by_cases hk:Lib.firstT b0.toNat%8≤r.length+1
  ·have e:fl (b0::r)=true:=by unfold fl;exact au hk
   rw[e]
   exact Y0 _ w (by omega) hT (by rw[at0,hsz];exact hk)
  ·rcases Lib.firstT_cases b0.toNat with hx|hx|hx|hx|hx|hx|hx|hx|hx
   ·rw[hx]at hk;simp at hk
   ·rw[hx]at hk;simp at hk
   ·have hk':=hk
    rw[hx]at hk'
    cases r with
    |nil=>
     rw[show fl [b0]=false by rw[fl,ag hk]]
     exact zkd _ w rfl b0 rfl hx hT
    |cons b1 r=>
     simp only[ai]at hk';omega
   ·have hk':=hk
    rw[hx]at hk'
    cases r with
    |nil=>
     rw[show fl [b0]=false by rw[fl,ag hk]]
     exact zhq _ w rfl b0 rfl hx hT
    |cons b1 r=>
     cases r with
     |nil=>
      by_cases h1:(b1.toNat:Int)<160
      ·rw[show fl [b0,b1]=true by rw[fl,ag hk,hx];rw[au (by simp only[ro,Lib.accLo,Lib.accHi];exact gy (by simp;omega))]]
       exact Vs _ w rfl b0 b1 rfl rfl hx hT h1
      ·by_cases h2:(191:Int)<b1.toNat
       ·rw[show fl [b0,b1]=true by rw[fl,ag hk,hx];rw[au (by simp only[ro,Lib.accLo,Lib.accHi];exact gy (by simp;omega))]]
        exact Rv _ w rfl b0 b1 rfl rfl hx hT (by omega) h2
       ·rw[show fl [b0,b1]=false by rw[fl,ag hk,hx];rw[ag (by simp only[ro,Lib.accLo,Lib.accHi];rw[decide_eq_true_iff];simp;omega)]]
        exact Y3 _ w rfl b0 b1 rfl rfl hx hT (by omega) (by omega)
     |cons b2 r=>
      simp only[ai]at hk';omega
   ·have hk':=hk
    rw[hx]at hk'
    cases r with
    |nil=>
     rw[show fl [b0]=false by rw[fl,ag hk]]
     exact zke _ w rfl b0 rfl hx hT
    |cons b1 r=>
     cases r with
     |nil=>
      by_cases h1:(b1.toNat:Int)<128
      ·rw[show fl [b0,b1]=true by rw[fl,ag hk,hx];rw[au (by simp only[ro,Lib.accLo,Lib.accHi];exact gy (by simp;omega))]]
       exact Y4 _ w rfl b0 b1 rfl rfl hx hT h1
      ·by_cases h2:(191:Int)<b1.toNat
       ·rw[show fl [b0,b1]=true by rw[fl,ag hk,hx];rw[au (by simp only[ro,Lib.accLo,Lib.accHi];exact gy (by simp;omega))]]
        exact Vt _ w rfl b0 b1 rfl rfl hx hT (by omega) h2
       ·rw[show fl [b0,b1]=false by rw[fl,ag hk,hx];rw[ag (by simp only[ro,Lib.accLo,Lib.accHi];rw[decide_eq_true_iff];simp;omega)]]
        exact zbt _ w rfl b0 b1 rfl rfl hx hT (by omega) (by omega)
     |cons b2 r=>
      simp only[ai]at hk';omega
   ·have hk':=hk
    rw[hx]at hk'
    cases r with
    |nil=>
     rw[show fl [b0]=false by rw[fl,ag hk]]
     exact zhr _ w rfl b0 rfl hx hT
    |cons b1 r=>
     cases r with
     |nil=>
      by_cases h1:(b1.toNat:Int)<128
      ·rw[show fl [b0,b1]=true by rw[fl,ag hk,hx];rw[au (by simp only[ro,Lib.accLo,Lib.accHi];exact gy (by simp;omega))]]
       exact Vu _ w rfl b0 b1 rfl rfl hx hT h1
      ·by_cases h2:(159:Int)<b1.toNat
       ·rw[show fl [b0,b1]=true by rw[fl,ag hk,hx];rw[au (by simp only[ro,Lib.accLo,Lib.accHi];exact gy (by simp;omega))]]
        exact Rw _ w rfl b0 b1 rfl rfl hx hT (by omega) h2
       ·rw[show fl [b0,b1]=false by rw[fl,ag hk,hx];rw[ag (by simp only[ro,Lib.accLo,Lib.accHi];rw[decide_eq_true_iff];simp;omega)]]
        exact Y5 _ w rfl b0 b1 rfl rfl hx hT (by omega) (by omega)
     |cons b2 r=>
      simp only[ai]at hk';omega
   ·have hk':=hk
    rw[hx]at hk'
    cases r with
    |nil=>
     rw[show fl [b0]=false by rw[fl,ag hk]]
     exact zhs _ w rfl b0 rfl hx hT
    |cons b1 r=>
     cases r with
     |nil=>
      by_cases h1:(b1.toNat:Int)<144
      ·rw[show fl [b0,b1]=true by rw[fl,ag hk,hx];rw[au (by simp only[ro,Lib.accLo,Lib.accHi];exact gy (by simp;omega))]]
       exact Vv _ w rfl b0 b1 rfl rfl hx hT h1
      ·by_cases h2:(191:Int)<b1.toNat
       ·rw[show fl [b0,b1]=true by rw[fl,ag hk,hx];rw[au (by simp only[ro,Lib.accLo,Lib.accHi];exact gy (by simp;omega))]]
        exact Ry _ w rfl b0 b1 rfl rfl hx hT (by omega) h2
       ·rw[show fl [b0,b1]=false by rw[fl,ag hk,hx];rw[ag (by simp only[ro,Lib.accLo,Lib.accHi];rw[decide_eq_true_iff];simp;omega)]]
        exact Y6 _ w rfl b0 b1 rfl rfl hx hT (by omega) (by omega)
     |cons b2 r=>
      cases r with
      |cons b3 r=>simp only[ai]at hk';omega
      |nil=>
       by_cases h1:(b1.toNat:Int)<144
       ·rw[show fl [b0,b1,b2]=true by rw[fl,ag hk,hx];rw[au (by simp only[ro,Lib.accLo,Lib.accHi];exact gy (by simp;omega))]]
        exact Vw _ w rfl b0 b1 b2 rfl rfl rfl hx hT h1
       ·by_cases h2:(191:Int)<b1.toNat
        ·rw[show fl [b0,b1,b2]=true by rw[fl,ag hk,hx];rw[au (by simp only[ro,Lib.accLo,Lib.accHi];exact gy (by simp;omega))]]
         exact Rz _ w rfl b0 b1 b2 rfl rfl rfl hx hT (by omega) h2
        ·by_cases h3:(b2.toNat:Int)<128
         ·rw[show fl [b0,b1,b2]=true by rw[fl,ag hk,hx];rw[ag (by simp only[ro,Lib.accLo,Lib.accHi];rw[decide_eq_true_iff];simp;omega)];exact gy (by omega)]
          exact Mn _ w rfl b0 b1 b2 rfl rfl rfl hx hT (by omega) (by omega) h3
         ·by_cases h4:(191:Int)<b2.toNat
          ·rw[show fl [b0,b1,b2]=true by rw[fl,ag hk,hx];rw[ag (by simp only[ro,Lib.accLo,Lib.accHi];rw[decide_eq_true_iff];simp;omega)];exact gy (by omega)]
           exact Kb _ w rfl b0 b1 b2 rfl rfl rfl hx hT (by omega) (by omega) (by omega) h4
          ·rw[show fl [b0,b1,b2]=false by rw[fl,ag hk,hx];rw[ag (by simp only[ro,Lib.accLo,Lib.accHi];rw[decide_eq_true_iff];simp;omega)];exact ch (by omega)]
           exact O3 _ w rfl b0 b1 b2 rfl rfl rfl hx hT (by omega) (by omega) (by omega) (by omega)
   ·have hk':=hk
    rw[hx]at hk'
    cases r with
    |nil=>
     rw[show fl [b0]=false by rw[fl,ag hk]]
     exact zkf _ w rfl b0 rfl hx hT
    |cons b1 r=>
     cases r with
     |nil=>
      by_cases h1:(b1.toNat:Int)<128
      ·rw[show fl [b0,b1]=true by rw[fl,ag hk,hx];rw[au (by simp only[ro,Lib.accLo,Lib.accHi];exact gy (by simp;omega))]]
       exact Y7 _ w rfl b0 b1 rfl rfl hx hT h1
      ·by_cases h2:(191:Int)<b1.toNat
       ·rw[show fl [b0,b1]=true by rw[fl,ag hk,hx];rw[au (by simp only[ro,Lib.accLo,Lib.accHi];exact gy (by simp;omega))]]
        exact Vx _ w rfl b0 b1 rfl rfl hx hT (by omega) h2
       ·rw[show fl [b0,b1]=false by rw[fl,ag hk,hx];rw[ag (by simp only[ro,Lib.accLo,Lib.accHi];rw[decide_eq_true_iff];simp;omega)]]
        exact zbu _ w rfl b0 b1 rfl rfl hx hT (by omega) (by omega)
     |cons b2 r=>
      cases r with
      |cons b3 r=>simp only[ai]at hk';omega
      |nil=>
       by_cases h1:(b1.toNat:Int)<128
       ·rw[show fl [b0,b1,b2]=true by rw[fl,ag hk,hx];rw[au (by simp only[ro,Lib.accLo,Lib.accHi];exact gy (by simp;omega))]]
        exact Y8 _ w rfl b0 b1 b2 rfl rfl rfl hx hT h1
       ·by_cases h2:(191:Int)<b1.toNat
        ·rw[show fl [b0,b1,b2]=true by rw[fl,ag hk,hx];rw[au (by simp only[ro,Lib.accLo,Lib.accHi];exact gy (by simp;omega))]]
         exact Vy _ w rfl b0 b1 b2 rfl rfl rfl hx hT (by omega) h2
        ·by_cases h3:(b2.toNat:Int)<128
         ·rw[show fl [b0,b1,b2]=true by rw[fl,ag hk,hx];rw[ag (by simp only[ro,Lib.accLo,Lib.accHi];rw[decide_eq_true_iff];simp;omega)];exact gy (by omega)]
          exact O4 _ w rfl b0 b1 b2 rfl rfl rfl hx hT (by omega) (by omega) h3
         ·by_cases h4:(191:Int)<b2.toNat
          ·rw[show fl [b0,b1,b2]=true by rw[fl,ag hk,hx];rw[ag (by simp only[ro,Lib.accLo,Lib.accHi];rw[decide_eq_true_iff];simp;omega)];exact gy (by omega)]
           exact Mp _ w rfl b0 b1 b2 rfl rfl rfl hx hT (by omega) (by omega) (by omega) h4
          ·rw[show fl [b0,b1,b2]=false by rw[fl,ag hk,hx];rw[ag (by simp only[ro,Lib.accLo,Lib.accHi];rw[decide_eq_true_iff];simp;omega)];exact ch (by omega)]
           exact R7 _ w rfl b0 b1 b2 rfl rfl rfl hx hT (by omega) (by omega) (by omega) (by omega)
   ·have hk':=hk
    rw[hx]at hk'
    cases r with
    |nil=>
     rw[show fl [b0]=false by rw[fl,ag hk]]
     exact zht _ w rfl b0 rfl hx hT
    |cons b1 r=>
     cases r with
     |nil=>
      by_cases h1:(b1.toNat:Int)<128
      ·rw[show fl [b0,b1]=true by rw[fl,ag hk,hx];rw[au (by simp only[ro,Lib.accLo,Lib.accHi];exact gy (by simp;omega))]]
       exact Vz _ w rfl b0 b1 rfl rfl hx hT h1
      ·by_cases h2:(143:Int)<b1.toNat
       ·rw[show fl [b0,b1]=true by rw[fl,ag hk,hx];rw[au (by simp only[ro,Lib.accLo,Lib.accHi];exact gy (by simp;omega))]]
        exact R8 _ w rfl b0 b1 rfl rfl hx hT (by omega) h2
       ·rw[show fl [b0,b1]=false by rw[fl,ag hk,hx];rw[ag (by simp only[ro,Lib.accLo,Lib.accHi];rw[decide_eq_true_iff];simp;omega)]]
        exact Y9 _ w rfl b0 b1 rfl rfl hx hT (by omega) (by omega)
     |cons b2 r=>
      cases r with
      |cons b3 r=>simp only[ai]at hk';omega
      |nil=>
       by_cases h1:(b1.toNat:Int)<128
       ·rw[show fl [b0,b1,b2]=true by rw[fl,ag hk,hx];rw[au (by simp only[ro,Lib.accLo,Lib.accHi];exact gy (by simp;omega))]]
        exact V0 _ w rfl b0 b1 b2 rfl rfl rfl hx hT h1
       ·by_cases h2:(143:Int)<b1.toNat
        ·rw[show fl [b0,b1,b2]=true by rw[fl,ag hk,hx];rw[au (by simp only[ro,Lib.accLo,Lib.accHi];exact gy (by simp;omega))]]
         exact R9 _ w rfl b0 b1 b2 rfl rfl rfl hx hT (by omega) h2
        ·by_cases h3:(b2.toNat:Int)<128
         ·rw[show fl [b0,b1,b2]=true by rw[fl,ag hk,hx];rw[ag (by simp only[ro,Lib.accLo,Lib.accHi];rw[decide_eq_true_iff];simp;omega)];exact gy (by omega)]
          exact Mq _ w rfl b0 b1 b2 rfl rfl rfl hx hT (by omega) (by omega) h3
         ·by_cases h4:(191:Int)<b2.toNat
          ·rw[show fl [b0,b1,b2]=true by rw[fl,ag hk,hx];rw[ag (by simp only[ro,Lib.accLo,Lib.accHi];rw[decide_eq_true_iff];simp;omega)];exact gy (by omega)]
           exact Kc _ w rfl b0 b1 b2 rfl rfl rfl hx hT (by omega) (by omega) (by omega) h4
          ·rw[show fl [b0,b1,b2]=false by rw[fl,ag hk,hx];rw[ag (by simp only[ro,Lib.accLo,Lib.accHi];rw[decide_eq_true_iff];simp;omega)];exact ch (by omega)]
           exact O5 _ w rfl b0 b1 b2 rfl rfl rfl hx hT (by omega) (by omega) (by omega) (by omega)
end Go.Proofs.YtdfmapcnfficlaaGreatDoor

import Derived.Test.YtdfmapcnfficlaaGreatDoorP23
set_option linter.all false
set_option maxHeartbeats 1600000
set_option maxRecDepth 1000000
namespace Go.Proofs.YtdfmapcnfficlaaGreatDoor
open Go.Proofs.Tryz
open Go Go.RowKit
def ro(lo hi:Nat)(x:UInt8):Bool:=decide (x.toNat<lo∨hi<x.toNat)
def fl:Str→Bool
 |[]=>false
 |b0::r=>
  if Lib.firstT b0.toNat%8≤r.length+1 then true
  else match r with
   |[]=>false
   |b1::r=>if ro (Lib.accLo (Lib.firstT b0.toNat / 16)) (Lib.accHi (Lib.firstT b0.toNat / 16)) b1=true then true
    else match r with
     |[]=>false
     |b2::_=>ro 128 191 b2
theorem zhp(w:World):Calls prog 85 #[.string ⟨#[]⟩] w fun e w'=>e= .returned (.bool false)∧More w w':=by
 go_enter func85,ntmps85
 go_wp2
 go_ret
 exact⟨rfl,More.refl _⟩
theorem ip(s:ByteArray):s.toList.isEmpty=decide (s.size=0):=by
 rw[Lib.toList_data]
 cases h:s.data.toList with
 |nil=>
  have:s.size=0:=by rw[Lib.size_eq,h];rfl
  simp[this]
 |cons a r=>
  have:s.size≠0:=by rw[Lib.size_eq,h];simp
  simp[this]
theorem Y0(s:ByteArray)(w:World)(hz:0<s.size)(hT:Lib.Utf8Tabs 2 3 w)(hk:Lib.firstT (s[0]'hz).toNat%8≤s.size):
  Calls prog 85 #[.string s] w fun e w'=>e= .returned (.bool true)∧More w w':=by
 have h0:=hT.1 (s[0]'hz).toNat (bj _)
 have hx:=Lib.firstT_cases (s[0]'hz).toNat
 generalize hx0:s[0]'hz=x0 at*
 have hne:s.toList.isEmpty=false:=by rw[ip];exact ch (by omega)
 clear hT
 generalize Lib.firstT x0.toNat=x at*
 have hz0:(0:Int)<(s.size:Int):=by omega
 have tb:(x0.toNat:Int)<256:=by have:=bj x0;omega
 rcases hx with rfl|rfl|rfl|rfl|rfl|rfl|rfl|rfl|rfl
 all_goals
  simp only[Nat.reduceMod]at hk
  have hk':=Int.ofNat_le.2 hk
  go_enter func85,ntmps85
  go_wp2
  go_ret
  exact⟨rfl,by repeat(first|exact More.refl _|refine More.alloc ?_ _|refine More.drew ?_)⟩
theorem dq(w:World)(o:Obj)(q:Nat):More w ((w.alloc o).drewN q):=(fun(h:More w (w.alloc o))=>⟨h.os,h.tape,h.output,h.size,h.block⟩) ((More.refl w).alloc o)
theorem zkd(s:ByteArray)(w:World)(hz:s.size=1)(x0:UInt8)(hs0:s[0]'(by omega)=x0)(hx:Lib.firstT x0.toNat=2)(hT:Lib.Utf8Tabs 2 3 w):
  Calls prog 85 #[.string s] w fun e w'=>e= .returned (.bool false)∧More w w':=by
 have h0:=hT.1 x0.toNat (bj _)
 rw[hx]at h0
 have hne:s.toList.isEmpty=false:=by rw[ip];exact ch (by omega)
 have a0:w.cell? ⟨3,0,none⟩=some (.int .u8 128):=(hT.2 0 (by decide)).1
 have a1:w.cell? ⟨3,1,none⟩=some (.int .u8 191):=(hT.2 0 (by decide)).2
 have tb:(x0.toNat:Int)<256:=by have:=bj x0;omega
 clear hT hx
 go_enter func85,ntmps85
 go_wp2
 refine wp_region_quiet_lit (by kernel_rfl) (by kernel_rfl) (pj.out ?_)
 iterate 3 (refine pj.step (fun K hK=> ?_);go_simp;refine hK _ ?_;clear hK K)
 iterate 12 refine pj.skip (by kernel_rfl) ?_
 iterate 1 (refine pj.step (fun K hK=> ?_);go_simp;refine hK _ ?_;clear hK K)
 refine⟨wpQuiet_nil ?_⟩
 intro _ hw
 obtain⟨nq,hw2⟩:=hw
 subst hw2
 go_wp2
 go_ret
 exact⟨rfl,by repeat(first|exact More.refl _|exact dq _ _ _|refine More.alloc ?_ _|refine More.drew ?_)⟩
theorem zhq(s:ByteArray)(w:World)(hz:s.size=1)(x0:UInt8)(hs0:s[0]'(by omega)=x0)(hx:Lib.firstT x0.toNat=19)(hT:Lib.Utf8Tabs 2 3 w):
  Calls prog 85 #[.string s] w fun e w'=>e= .returned (.bool false)∧More w w':=by
 have h0:=hT.1 x0.toNat (bj _)
 rw[hx]at h0
 have hne:s.toList.isEmpty=false:=by rw[ip];exact ch (by omega)
 have a0:w.cell? ⟨3,2,none⟩=some (.int .u8 160):=(hT.2 1 (by decide)).1
 have a1:w.cell? ⟨3,3,none⟩=some (.int .u8 191):=(hT.2 1 (by decide)).2
 have tb:(x0.toNat:Int)<256:=by have:=bj x0;omega
 clear hT hx
 go_enter func85,ntmps85
 go_wp2
 refine wp_region_quiet_lit (by kernel_rfl) (by kernel_rfl) (pj.out ?_)
 iterate 3 (refine pj.step (fun K hK=> ?_);go_simp;refine hK _ ?_;clear hK K)
 iterate 12 refine pj.skip (by kernel_rfl) ?_
 iterate 1 (refine pj.step (fun K hK=> ?_);go_simp;refine hK _ ?_;clear hK K)
 refine⟨wpQuiet_nil ?_⟩
 intro _ hw
 obtain⟨nq,hw2⟩:=hw
 subst hw2
 go_wp2
 go_ret
 exact⟨rfl,by repeat(first|exact More.refl _|exact dq _ _ _|refine More.alloc ?_ _|refine More.drew ?_)⟩
theorem Vs(s:ByteArray)(w:World)(hz:s.size=2)(x0:UInt8)(x1:UInt8)(hs0:s[0]'(by omega)=x0)(hs1:s[1]'(by omega)=x1)(hx:Lib.firstT x0.toNat=19)(hT:Lib.Utf8Tabs 2 3 w)(h1:(x1.toNat:Int)<160):
  Calls prog 85 #[.string s] w fun e w'=>e= .returned (.bool true)∧More w w':=by
 have h0:=hT.1 x0.toNat (bj _)
 rw[hx]at h0
 have hne:s.toList.isEmpty=false:=by rw[ip];exact ch (by omega)
 have a0:w.cell? ⟨3,2,none⟩=some (.int .u8 160):=(hT.2 1 (by decide)).1
 have a1:w.cell? ⟨3,3,none⟩=some (.int .u8 191):=(hT.2 1 (by decide)).2
 have tb:(x0.toNat:Int)<256:=by have:=bj x0;omega
 clear hT hx
 go_enter func85,ntmps85
 go_wp2
 refine wp_region_quiet_lit (by kernel_rfl) (by kernel_rfl) (pj.out ?_)
 iterate 9 (refine pj.step (fun K hK=> ?_);go_simp;refine hK _ ?_;clear hK K)
 iterate 5 refine pj.skip (by kernel_rfl) ?_
 iterate 2 (refine pj.step (fun K hK=> ?_);go_simp;refine hK _ ?_;clear hK K)
 refine⟨wpQuiet_nil ?_⟩
 intro _ hw
 obtain⟨nq,hw2⟩:=hw
 subst hw2
 go_wp2
 go_ret
 exact⟨rfl,by repeat(first|exact More.refl _|exact dq _ _ _|refine More.alloc ?_ _|refine More.drew ?_)⟩
theorem Rv(s:ByteArray)(w:World)(hz:s.size=2)(x0:UInt8)(x1:UInt8)(hs0:s[0]'(by omega)=x0)(hs1:s[1]'(by omega)=x1)(hx:Lib.firstT x0.toNat=19)(hT:Lib.Utf8Tabs 2 3 w)(h1:(160:Int)≤x1.toNat)(h2:(191:Int)<x1.toNat):
  Calls prog 85 #[.string s] w fun e w'=>e= .returned (.bool true)∧More w w':=by
 have h0:=hT.1 x0.toNat (bj _)
 rw[hx]at h0
 have hne:s.toList.isEmpty=false:=by rw[ip];exact ch (by omega)
 have a0:w.cell? ⟨3,2,none⟩=some (.int .u8 160):=(hT.2 1 (by decide)).1
 have a1:w.cell? ⟨3,3,none⟩=some (.int .u8 191):=(hT.2 1 (by decide)).2
 have tb:(x0.toNat:Int)<256:=by have:=bj x0;omega
 clear hT hx
 go_enter func85,ntmps85
 go_wp2
 refine wp_region_quiet_lit (by kernel_rfl) (by kernel_rfl) (pj.out ?_)
 iterate 16 (refine pj.step (fun K hK=> ?_);go_simp;refine hK _ ?_;clear hK K)
 refine⟨wpQuiet_nil ?_⟩
 intro _ hw
 obtain⟨nq,hw2⟩:=hw
 subst hw2
 go_wp2
 go_ret
 exact⟨rfl,by repeat(first|exact More.refl _|exact dq _ _ _|refine More.alloc ?_ _|refine More.drew ?_)⟩
theorem Y3(s:ByteArray)(w:World)(hz:s.size=2)(x0:UInt8)(x1:UInt8)(hs0:s[0]'(by omega)=x0)(hs1:s[1]'(by omega)=x1)(hx:Lib.firstT x0.toNat=19)(hT:Lib.Utf8Tabs 2 3 w)(h1:(160:Int)≤x1.toNat)(h2:(x1.toNat:Int)≤191):
  Calls prog 85 #[.string s] w fun e w'=>e= .returned (.bool false)∧More w w':=by
 have h0:=hT.1 x0.toNat (bj _)
 rw[hx]at h0
 have hne:s.toList.isEmpty=false:=by rw[ip];exact ch (by omega)
 have a0:w.cell? ⟨3,2,none⟩=some (.int .u8 160):=(hT.2 1 (by decide)).1
 have a1:w.cell? ⟨3,3,none⟩=some (.int .u8 191):=(hT.2 1 (by decide)).2
 have tb:(x0.toNat:Int)<256:=by have:=bj x0;omega
 clear hT hx
 go_enter func85,ntmps85
 go_wp2
 refine wp_region_quiet_lit (by kernel_rfl) (by kernel_rfl) (pj.out ?_)
 iterate 16 (refine pj.step (fun K hK=> ?_);go_simp;refine hK _ ?_;clear hK K)
 refine⟨wpQuiet_nil ?_⟩
 intro _ hw
 obtain⟨nq,hw2⟩:=hw
 subst hw2
 go_wp2
 go_ret
 exact⟨rfl,by repeat(first|exact More.refl _|exact dq _ _ _|refine More.alloc ?_ _|refine More.drew ?_)⟩
theorem zke(s:ByteArray)(w:World)(hz:s.size=1)(x0:UInt8)(hs0:s[0]'(by omega)=x0)(hx:Lib.firstT x0.toNat=3)(hT:Lib.Utf8Tabs 2 3 w):
  Calls prog 85 #[.string s] w fun e w'=>e= .returned (.bool false)∧More w w':=by
 have h0:=hT.1 x0.toNat (bj _)
 rw[hx]at h0
 have hne:s.toList.isEmpty=false:=by rw[ip];exact ch (by omega)
 have a0:w.cell? ⟨3,0,none⟩=some (.int .u8 128):=(hT.2 0 (by decide)).1
 have a1:w.cell? ⟨3,1,none⟩=some (.int .u8 191):=(hT.2 0 (by decide)).2
 have tb:(x0.toNat:Int)<256:=by have:=bj x0;omega
 clear hT hx
 go_enter func85,ntmps85
 go_wp2
 refine wp_region_quiet_lit (by kernel_rfl) (by kernel_rfl) (pj.out ?_)
 iterate 3 (refine pj.step (fun K hK=> ?_);go_simp;refine hK _ ?_;clear hK K)
 iterate 12 refine pj.skip (by kernel_rfl) ?_
 iterate 1 (refine pj.step (fun K hK=> ?_);go_simp;refine hK _ ?_;clear hK K)
 refine⟨wpQuiet_nil ?_⟩
 intro _ hw
 obtain⟨nq,hw2⟩:=hw
 subst hw2
 go_wp2
 go_ret
 exact⟨rfl,by repeat(first|exact More.refl _|exact dq _ _ _|refine More.alloc ?_ _|refine More.drew ?_)⟩
theorem Y4(s:ByteArray)(w:World)(hz:s.size=2)(x0:UInt8)(x1:UInt8)(hs0:s[0]'(by omega)=x0)(hs1:s[1]'(by omega)=x1)(hx:Lib.firstT x0.toNat=3)(hT:Lib.Utf8Tabs 2 3 w)(h1:(x1.toNat:Int)<128):
  Calls prog 85 #[.string s] w fun e w'=>e= .returned (.bool true)∧More w w':=by
 have h0:=hT.1 x0.toNat (bj _)
 rw[hx]at h0
 have hne:s.toList.isEmpty=false:=by rw[ip];exact ch (by omega)
 have a0:w.cell? ⟨3,0,none⟩=some (.int .u8 128):=(hT.2 0 (by decide)).1
 have a1:w.cell? ⟨3,1,none⟩=some (.int .u8 191):=(hT.2 0 (by decide)).2
 have tb:(x0.toNat:Int)<256:=by have:=bj x0;omega
 clear hT hx
 go_enter func85,ntmps85
 go_wp2
 refine wp_region_quiet_lit (by kernel_rfl) (by kernel_rfl) (pj.out ?_)
 iterate 9 (refine pj.step (fun K hK=> ?_);go_simp;refine hK _ ?_;clear hK K)
 iterate 5 refine pj.skip (by kernel_rfl) ?_
 iterate 2 (refine pj.step (fun K hK=> ?_);go_simp;refine hK _ ?_;clear hK K)
 refine⟨wpQuiet_nil ?_⟩
 intro _ hw
 obtain⟨nq,hw2⟩:=hw
 subst hw2
 go_wp2
 go_ret
 exact⟨rfl,by repeat(first|exact More.refl _|exact dq _ _ _|refine More.alloc ?_ _|refine More.drew ?_)⟩
theorem Vt(s:ByteArray)(w:World)(hz:s.size=2)(x0:UInt8)(x1:UInt8)(hs0:s[0]'(by omega)=x0)(hs1:s[1]'(by omega)=x1)(hx:Lib.firstT x0.toNat=3)(hT:Lib.Utf8Tabs 2 3 w)(h1:(128:Int)≤x1.toNat)(h2:(191:Int)<x1.toNat):
  Calls prog 85 #[.string s] w fun e w'=>e= .returned (.bool true)∧More w w':=by
 have h0:=hT.1 x0.toNat (bj _)
 rw[hx]at h0
 have hne:s.toList.isEmpty=false:=by rw[ip];exact ch (by omega)
 have a0:w.cell? ⟨3,0,none⟩=some (.int .u8 128):=(hT.2 0 (by decide)).1
 have a1:w.cell? ⟨3,1,none⟩=some (.int .u8 191):=(hT.2 0 (by decide)).2
 have tb:(x0.toNat:Int)<256:=by have:=bj x0;omega
 clear hT hx
 go_enter func85,ntmps85
 go_wp2
 refine wp_region_quiet_lit (by kernel_rfl) (by kernel_rfl) (pj.out ?_)
 iterate 16 (refine pj.step (fun K hK=> ?_);go_simp;refine hK _ ?_;clear hK K)
 refine⟨wpQuiet_nil ?_⟩
 intro _ hw
 obtain⟨nq,hw2⟩:=hw
 subst hw2
 go_wp2
 go_ret
 exact⟨rfl,by repeat(first|exact More.refl _|exact dq _ _ _|refine More.alloc ?_ _|refine More.drew ?_)⟩
theorem zbt(s:ByteArray)(w:World)(hz:s.size=2)(x0:UInt8)(x1:UInt8)(hs0:s[0]'(by omega)=x0)(hs1:s[1]'(by omega)=x1)(hx:Lib.firstT x0.toNat=3)(hT:Lib.Utf8Tabs 2 3 w)(h1:(128:Int)≤x1.toNat)(h2:(x1.toNat:Int)≤191):
  Calls prog 85 #[.string s] w fun e w'=>e= .returned (.bool false)∧More w w':=by
 have h0:=hT.1 x0.toNat (bj _)
 rw[hx]at h0
 have hne:s.toList.isEmpty=false:=by rw[ip];exact ch (by omega)
 have a0:w.cell? ⟨3,0,none⟩=some (.int .u8 128):=(hT.2 0 (by decide)).1
 have a1:w.cell? ⟨3,1,none⟩=some (.int .u8 191):=(hT.2 0 (by decide)).2
 have tb:(x0.toNat:Int)<256:=by have:=bj x0;omega
 clear hT hx
 go_enter func85,ntmps85
 go_wp2
 refine wp_region_quiet_lit (by kernel_rfl) (by kernel_rfl) (pj.out ?_)
 iterate 16 (refine pj.step (fun K hK=> ?_);go_simp;refine hK _ ?_;clear hK K)
 refine⟨wpQuiet_nil ?_⟩
 intro _ hw
 obtain⟨nq,hw2⟩:=hw
 subst hw2
 go_wp2
 go_ret
 exact⟨rfl,by repeat(first|exact More.refl _|exact dq _ _ _|refine More.alloc ?_ _|refine More.drew ?_)⟩
theorem zhr(s:ByteArray)(w:World)(hz:s.size=1)(x0:UInt8)(hs0:s[0]'(by omega)=x0)(hx:Lib.firstT x0.toNat=35)(hT:Lib.Utf8Tabs 2 3 w):
  Calls prog 85 #[.string s] w fun e w'=>e= .returned (.bool false)∧More w w':=by
 have h0:=hT.1 x0.toNat (bj _)
 rw[hx]at h0
 have hne:s.toList.isEmpty=false:=by rw[ip];exact ch (by omega)
 have a0:w.cell? ⟨3,4,none⟩=some (.int .u8 128):=(hT.2 2 (by decide)).1
 have a1:w.cell? ⟨3,5,none⟩=some (.int .u8 159):=(hT.2 2 (by decide)).2
 have tb:(x0.toNat:Int)<256:=by have:=bj x0;omega
 clear hT hx
 go_enter func85,ntmps85
 go_wp2
 refine wp_region_quiet_lit (by kernel_rfl) (by kernel_rfl) (pj.out ?_)
 iterate 3 (refine pj.step (fun K hK=> ?_);go_simp;refine hK _ ?_;clear hK K)
 iterate 12 refine pj.skip (by kernel_rfl) ?_
 iterate 1 (refine pj.step (fun K hK=> ?_);go_simp;refine hK _ ?_;clear hK K)
 refine⟨wpQuiet_nil ?_⟩
 intro _ hw
 obtain⟨nq,hw2⟩:=hw
 subst hw2
 go_wp2
 go_ret
 exact⟨rfl,by repeat(first|exact More.refl _|exact dq _ _ _|refine More.alloc ?_ _|refine More.drew ?_)⟩
theorem Vu(s:ByteArray)(w:World)(hz:s.size=2)(x0:UInt8)(x1:UInt8)(hs0:s[0]'(by omega)=x0)(hs1:s[1]'(by omega)=x1)(hx:Lib.firstT x0.toNat=35)(hT:Lib.Utf8Tabs 2 3 w)(h1:(x1.toNat:Int)<128):
  Calls prog 85 #[.string s] w fun e w'=>e= .returned (.bool true)∧More w w':=by
 have h0:=hT.1 x0.toNat (bj _)
 rw[hx]at h0
 have hne:s.toList.isEmpty=false:=by rw[ip];exact ch (by omega)
 have a0:w.cell? ⟨3,4,none⟩=some (.int .u8 128):=(hT.2 2 (by decide)).1
 have a1:w.cell? ⟨3,5,none⟩=some (.int .u8 159):=(hT.2 2 (by decide)).2
 have tb:(x0.toNat:Int)<256:=by have:=bj x0;omega
 clear hT hx
 go_enter func85,ntmps85
 go_wp2
 refine wp_region_quiet_lit (by kernel_rfl) (by kernel_rfl) (pj.out ?_)
 iterate 9 (refine pj.step (fun K hK=> ?_);go_simp;refine hK _ ?_;clear hK K)
 iterate 5 refine pj.skip (by kernel_rfl) ?_
 iterate 2 (refine pj.step (fun K hK=> ?_);go_simp;refine hK _ ?_;clear hK K)
 refine⟨wpQuiet_nil ?_⟩
 intro _ hw
 obtain⟨nq,hw2⟩:=hw
 subst hw2
 go_wp2
 go_ret
 exact⟨rfl,by repeat(first|exact More.refl _|exact dq _ _ _|refine More.alloc ?_ _|refine More.drew ?_)⟩
theorem Rw(s:ByteArray)(w:World)(hz:s.size=2)(x0:UInt8)(x1:UInt8)(hs0:s[0]'(by omega)=x0)(hs1:s[1]'(by omega)=x1)(hx:Lib.firstT x0.toNat=35)(hT:Lib.Utf8Tabs 2 3 w)(h1:(128:Int)≤x1.toNat)(h2:(159:Int)<x1.toNat):
  Calls prog 85 #[.string s] w fun e w'=>e= .returned (.bool true)∧More w w':=by
 have h0:=hT.1 x0.toNat (bj _)
 rw[hx]at h0
 have hne:s.toList.isEmpty=false:=by rw[ip];exact ch (by omega)
 have a0:w.cell? ⟨3,4,none⟩=some (.int .u8 128):=(hT.2 2 (by decide)).1
 have a1:w.cell? ⟨3,5,none⟩=some (.int .u8 159):=(hT.2 2 (by decide)).2
 have tb:(x0.toNat:Int)<256:=by have:=bj x0;omega
 clear hT hx
 go_enter func85,ntmps85
 go_wp2
 refine wp_region_quiet_lit (by kernel_rfl) (by kernel_rfl) (pj.out ?_)
 iterate 16 (refine pj.step (fun K hK=> ?_);go_simp;refine hK _ ?_;clear hK K)
 refine⟨wpQuiet_nil ?_⟩
 intro _ hw
 obtain⟨nq,hw2⟩:=hw
 subst hw2
 go_wp2
 go_ret
 exact⟨rfl,by repeat(first|exact More.refl _|exact dq _ _ _|refine More.alloc ?_ _|refine More.drew ?_)⟩
theorem Y5(s:ByteArray)(w:World)(hz:s.size=2)(x0:UInt8)(x1:UInt8)(hs0:s[0]'(by omega)=x0)(hs1:s[1]'(by omega)=x1)(hx:Lib.firstT x0.toNat=35)(hT:Lib.Utf8Tabs 2 3 w)(h1:(128:Int)≤x1.toNat)(h2:(x1.toNat:Int)≤159):
  Calls prog 85 #[.string s] w fun e w'=>e= .returned (.bool false)∧More w w':=by
 have h0:=hT.1 x0.toNat (bj _)
 rw[hx]at h0
 have hne:s.toList.isEmpty=false:=by rw[ip];exact ch (by omega)
 have a0:w.cell? ⟨3,4,none⟩=some (.int .u8 128):=(hT.2 2 (by decide)).1
 have a1:w.cell? ⟨3,5,none⟩=some (.int .u8 159):=(hT.2 2 (by decide)).2
 have tb:(x0.toNat:Int)<256:=by have:=bj x0;omega
 clear hT hx
 go_enter func85,ntmps85
 go_wp2
 refine wp_region_quiet_lit (by kernel_rfl) (by kernel_rfl) (pj.out ?_)
 iterate 16 (refine pj.step (fun K hK=> ?_);go_simp;refine hK _ ?_;clear hK K)
 refine⟨wpQuiet_nil ?_⟩
 intro _ hw
 obtain⟨nq,hw2⟩:=hw
 subst hw2
 go_wp2
 go_ret
 exact⟨rfl,by repeat(first|exact More.refl _|exact dq _ _ _|refine More.alloc ?_ _|refine More.drew ?_)⟩
theorem zhs(s:ByteArray)(w:World)(hz:s.size=1)(x0:UInt8)(hs0:s[0]'(by omega)=x0)(hx:Lib.firstT x0.toNat=52)(hT:Lib.Utf8Tabs 2 3 w):
  Calls prog 85 #[.string s] w fun e w'=>e= .returned (.bool false)∧More w w':=by
 have h0:=hT.1 x0.toNat (bj _)
 rw[hx]at h0
 have hne:s.toList.isEmpty=false:=by rw[ip];exact ch (by omega)
 have a0:w.cell? ⟨3,6,none⟩=some (.int .u8 144):=(hT.2 3 (by decide)).1
 have a1:w.cell? ⟨3,7,none⟩=some (.int .u8 191):=(hT.2 3 (by decide)).2
 have tb:(x0.toNat:Int)<256:=by have:=bj x0;omega
 clear hT hx
 go_enter func85,ntmps85
 go_wp2
 refine wp_region_quiet_lit (by kernel_rfl) (by kernel_rfl) (pj.out ?_)
 iterate 3 (refine pj.step (fun K hK=> ?_);go_simp;refine hK _ ?_;clear hK K)
 iterate 12 refine pj.skip (by kernel_rfl) ?_
 iterate 1 (refine pj.step (fun K hK=> ?_);go_simp;refine hK _ ?_;clear hK K)
 refine⟨wpQuiet_nil ?_⟩
 intro _ hw
 obtain⟨nq,hw2⟩:=hw
 subst hw2
 go_wp2
 go_ret
 exact⟨rfl,by repeat(first|exact More.refl _|exact dq _ _ _|refine More.alloc ?_ _|refine More.drew ?_)⟩
theorem Vv(s:ByteArray)(w:World)(hz:s.size=2)(x0:UInt8)(x1:UInt8)(hs0:s[0]'(by omega)=x0)(hs1:s[1]'(by omega)=x1)(hx:Lib.firstT x0.toNat=52)(hT:Lib.Utf8Tabs 2 3 w)(h1:(x1.toNat:Int)<144):
  Calls prog 85 #[.string s] w fun e w'=>e= .returned (.bool true)∧More w w':=by
 have h0:=hT.1 x0.toNat (bj _)
 rw[hx]at h0
 have hne:s.toList.isEmpty=false:=by rw[ip];exact ch (by omega)
 have a0:w.cell? ⟨3,6,none⟩=some (.int .u8 144):=(hT.2 3 (by decide)).1
 have a1:w.cell? ⟨3,7,none⟩=some (.int .u8 191):=(hT.2 3 (by decide)).2
 have tb:(x0.toNat:Int)<256:=by have:=bj x0;omega
 clear hT hx
 go_enter func85,ntmps85
 go_wp2
 refine wp_region_quiet_lit (by kernel_rfl) (by kernel_rfl) (pj.out ?_)
 iterate 9 (refine pj.step (fun K hK=> ?_);go_simp;refine hK _ ?_;clear hK K)
 iterate 5 refine pj.skip (by kernel_rfl) ?_
 iterate 2 (refine pj.step (fun K hK=> ?_);go_simp;refine hK _ ?_;clear hK K)
 refine⟨wpQuiet_nil ?_⟩
 intro _ hw
 obtain⟨nq,hw2⟩:=hw
 subst hw2
 go_wp2
 go_ret
 exact⟨rfl,by repeat(first|exact More.refl _|exact dq _ _ _|refine More.alloc ?_ _|refine More.drew ?_)⟩
theorem Ry(s:ByteArray)(w:World)(hz:s.size=2)(x0:UInt8)(x1:UInt8)(hs0:s[0]'(by omega)=x0)(hs1:s[1]'(by omega)=x1)(hx:Lib.firstT x0.toNat=52)(hT:Lib.Utf8Tabs 2 3 w)(h1:(144:Int)≤x1.toNat)(h2:(191:Int)<x1.toNat):
  Calls prog 85 #[.string s] w fun e w'=>e= .returned (.bool true)∧More w w':=by
 have h0:=hT.1 x0.toNat (bj _)
 rw[hx]at h0
 have hne:s.toList.isEmpty=false:=by rw[ip];exact ch (by omega)
 have a0:w.cell? ⟨3,6,none⟩=some (.int .u8 144):=(hT.2 3 (by decide)).1
 have a1:w.cell? ⟨3,7,none⟩=some (.int .u8 191):=(hT.2 3 (by decide)).2
 have tb:(x0.toNat:Int)<256:=by have:=bj x0;omega
 clear hT hx
 go_enter func85,ntmps85
 go_wp2
 refine wp_region_quiet_lit (by kernel_rfl) (by kernel_rfl) (pj.out ?_)
 iterate 16 (refine pj.step (fun K hK=> ?_);go_simp;refine hK _ ?_;clear hK K)
 refine⟨wpQuiet_nil ?_⟩
 intro _ hw
 obtain⟨nq,hw2⟩:=hw
 subst hw2
 go_wp2
 go_ret
 exact⟨rfl,by repeat(first|exact More.refl _|exact dq _ _ _|refine More.alloc ?_ _|refine More.drew ?_)⟩
theorem Y6(s:ByteArray)(w:World)(hz:s.size=2)(x0:UInt8)(x1:UInt8)(hs0:s[0]'(by omega)=x0)(hs1:s[1]'(by omega)=x1)(hx:Lib.firstT x0.toNat=52)(hT:Lib.Utf8Tabs 2 3 w)(h1:(144:Int)≤x1.toNat)(h2:(x1.toNat:Int)≤191):
  Calls prog 85 #[.string s] w fun e w'=>e= .returned (.bool false)∧More w w':=by
 have h0:=hT.1 x0.toNat (bj _)
 rw[hx]at h0
 have hne:s.toList.isEmpty=false:=by rw[ip];exact ch (by omega)
 have a0:w.cell? ⟨3,6,none⟩=some (.int .u8 144):=(hT.2 3 (by decide)).1
 have a1:w.cell? ⟨3,7,none⟩=some (.int .u8 191):=(hT.2 3 (by decide)).2
 have tb:(x0.toNat:Int)<256:=by have:=bj x0;omega
 clear hT hx
 go_enter func85,ntmps85
 go_wp2
 refine wp_region_quiet_lit (by kernel_rfl) (by kernel_rfl) (pj.out ?_)
 iterate 16 (refine pj.step (fun K hK=> ?_);go_simp;refine hK _ ?_;clear hK K)
 refine⟨wpQuiet_nil ?_⟩
 intro _ hw
 obtain⟨nq,hw2⟩:=hw
 subst hw2
 go_wp2
 go_ret
 exact⟨rfl,by repeat(first|exact More.refl _|exact dq _ _ _|refine More.alloc ?_ _|refine More.drew ?_)⟩
theorem Vw(s:ByteArray)(w:World)(hz:s.size=3)(x0:UInt8)(x1:UInt8)(x2:UInt8)(hs0:s[0]'(by omega)=x0)(hs1:s[1]'(by omega)=x1)(hs2:s[2]'(by omega)=x2)(hx:Lib.firstT x0.toNat=52)(hT:Lib.Utf8Tabs 2 3 w)(h1:(x1.toNat:Int)<144):
  Calls prog 85 #[.string s] w fun e w'=>e= .returned (.bool true)∧More w w':=by
 have h0:=hT.1 x0.toNat (bj _)
 rw[hx]at h0
 have hne:s.toList.isEmpty=false:=by rw[ip];exact ch (by omega)
 have a0:w.cell? ⟨3,6,none⟩=some (.int .u8 144):=(hT.2 3 (by decide)).1
 have a1:w.cell? ⟨3,7,none⟩=some (.int .u8 191):=(hT.2 3 (by decide)).2
 have tb:(x0.toNat:Int)<256:=by have:=bj x0;omega
 clear hT hx
 go_enter func85,ntmps85
 go_wp2
 refine wp_region_quiet_lit (by kernel_rfl) (by kernel_rfl) (pj.out ?_)
 iterate 9 (refine pj.step (fun K hK=> ?_);go_simp;refine hK _ ?_;clear hK K)
 iterate 5 refine pj.skip (by kernel_rfl) ?_
 iterate 2 (refine pj.step (fun K hK=> ?_);go_simp;refine hK _ ?_;clear hK K)
 refine⟨wpQuiet_nil ?_⟩
 intro _ hw
 obtain⟨nq,hw2⟩:=hw
 subst hw2
 go_wp2
 go_ret
 exact⟨rfl,by repeat(first|exact More.refl _|exact dq _ _ _|refine More.alloc ?_ _|refine More.drew ?_)⟩
theorem Rz(s:ByteArray)(w:World)(hz:s.size=3)(x0:UInt8)(x1:UInt8)(x2:UInt8)(hs0:s[0]'(by omega)=x0)(hs1:s[1]'(by omega)=x1)(hs2:s[2]'(by omega)=x2)(hx:Lib.firstT x0.toNat=52)(hT:Lib.Utf8Tabs 2 3 w)(h1:(144:Int)≤x1.toNat)(h2:(191:Int)<x1.toNat):
  Calls prog 85 #[.string s] w fun e w'=>e= .returned (.bool true)∧More w w':=by
 have h0:=hT.1 x0.toNat (bj _)
 rw[hx]at h0
 have hne:s.toList.isEmpty=false:=by rw[ip];exact ch (by omega)
 have a0:w.cell? ⟨3,6,none⟩=some (.int .u8 144):=(hT.2 3 (by decide)).1
 have a1:w.cell? ⟨3,7,none⟩=some (.int .u8 191):=(hT.2 3 (by decide)).2
 have tb:(x0.toNat:Int)<256:=by have:=bj x0;omega
 clear hT hx
 go_enter func85,ntmps85
 go_wp2
 refine wp_region_quiet_lit (by kernel_rfl) (by kernel_rfl) (pj.out ?_)
 iterate 16 (refine pj.step (fun K hK=> ?_);go_simp;refine hK _ ?_;clear hK K)
 refine⟨wpQuiet_nil ?_⟩
 intro _ hw
 obtain⟨nq,hw2⟩:=hw
 subst hw2
 go_wp2
 go_ret
 exact⟨rfl,by repeat(first|exact More.refl _|exact dq _ _ _|refine More.alloc ?_ _|refine More.drew ?_)⟩
theorem Mn(s:ByteArray)(w:World)(hz:s.size=3)(x0:UInt8)(x1:UInt8)(x2:UInt8)(hs0:s[0]'(by omega)=x0)(hs1:s[1]'(by omega)=x1)(hs2:s[2]'(by omega)=x2)(hx:Lib.firstT x0.toNat=52)(hT:Lib.Utf8Tabs 2 3 w)(h1:(144:Int)≤x1.toNat)(h2:(x1.toNat:Int)≤191)(h3:(x2.toNat:Int)<128):
  Calls prog 85 #[.string s] w fun e w'=>e= .returned (.bool true)∧More w w':=by
 have h0:=hT.1 x0.toNat (bj _)
 rw[hx]at h0
 have hne:s.toList.isEmpty=false:=by rw[ip];exact ch (by omega)
 have a0:w.cell? ⟨3,6,none⟩=some (.int .u8 144):=(hT.2 3 (by decide)).1
 have a1:w.cell? ⟨3,7,none⟩=some (.int .u8 191):=(hT.2 3 (by decide)).2
 have tb:(x0.toNat:Int)<256:=by have:=bj x0;omega
 clear hT hx
 go_enter func85,ntmps85
 go_wp2
 refine wp_region_quiet_lit (by kernel_rfl) (by kernel_rfl) (pj.out ?_)
 iterate 16 (refine pj.step (fun K hK=> ?_);go_simp;refine hK _ ?_;clear hK K)
 refine⟨wpQuiet_nil ?_⟩
 intro _ hw
 obtain⟨nq,hw2⟩:=hw
 subst hw2
 go_wp2
 go_ret
 exact⟨rfl,by repeat(first|exact More.refl _|exact dq _ _ _|refine More.alloc ?_ _|refine More.drew ?_)⟩
theorem Kb(s:ByteArray)(w:World)(hz:s.size=3)(x0:UInt8)(x1:UInt8)(x2:UInt8)(hs0:s[0]'(by omega)=x0)(hs1:s[1]'(by omega)=x1)(hs2:s[2]'(by omega)=x2)(hx:Lib.firstT x0.toNat=52)(hT:Lib.Utf8Tabs 2 3 w)(h1:(144:Int)≤x1.toNat)(h2:(x1.toNat:Int)≤191)(h3:(128:Int)≤x2.toNat)(h4:(191:Int)<x2.toNat):
  Calls prog 85 #[.string s] w fun e w'=>e= .returned (.bool true)∧More w w':=by
 have h0:=hT.1 x0.toNat (bj _)
 rw[hx]at h0
 have hne:s.toList.isEmpty=false:=by rw[ip];exact ch (by omega)
 have a0:w.cell? ⟨3,6,none⟩=some (.int .u8 144):=(hT.2 3 (by decide)).1
 have a1:w.cell? ⟨3,7,none⟩=some (.int .u8 191):=(hT.2 3 (by decide)).2
 have tb:(x0.toNat:Int)<256:=by have:=bj x0;omega
 clear hT hx
 go_enter func85,ntmps85
 go_wp2
 refine wp_region_quiet_lit (by kernel_rfl) (by kernel_rfl) (pj.out ?_)
 iterate 16 (refine pj.step (fun K hK=> ?_);go_simp;refine hK _ ?_;clear hK K)
 refine⟨wpQuiet_nil ?_⟩
 intro _ hw
 obtain⟨nq,hw2⟩:=hw
 subst hw2
 go_wp2
 go_ret
 exact⟨rfl,by repeat(first|exact More.refl _|exact dq _ _ _|refine More.alloc ?_ _|refine More.drew ?_)⟩
theorem O3(s:ByteArray)(w:World)(hz:s.size=3)(x0:UInt8)(x1:UInt8)(x2:UInt8)(hs0:s[0]'(by omega)=x0)(hs1:s[1]'(by omega)=x1)(hs2:s[2]'(by omega)=x2)(hx:Lib.firstT x0.toNat=52)(hT:Lib.Utf8Tabs 2 3 w)(h1:(144:Int)≤x1.toNat)(h2:(x1.toNat:Int)≤191)(h3:(128:Int)≤x2.toNat)(h4:(x2.toNat:Int)≤191):
  Calls prog 85 #[.string s] w fun e w'=>e= .returned (.bool false)∧More w w':=by
 have h0:=hT.1 x0.toNat (bj _)
 rw[hx]at h0
 have hne:s.toList.isEmpty=false:=by rw[ip];exact ch (by omega)
 have a0:w.cell? ⟨3,6,none⟩=some (.int .u8 144):=(hT.2 3 (by decide)).1
 have a1:w.cell? ⟨3,7,none⟩=some (.int .u8 191):=(hT.2 3 (by decide)).2
 have tb:(x0.toNat:Int)<256:=by have:=bj x0;omega
 clear hT hx
 go_enter func85,ntmps85
 go_wp2
 refine wp_region_quiet_lit (by kernel_rfl) (by kernel_rfl) (pj.out ?_)
 iterate 16 (refine pj.step (fun K hK=> ?_);go_simp;refine hK _ ?_;clear hK K)
 refine⟨wpQuiet_nil ?_⟩
 intro _ hw
 obtain⟨nq,hw2⟩:=hw
 subst hw2
 go_wp2
 go_ret
 exact⟨rfl,by repeat(first|exact More.refl _|exact dq _ _ _|refine More.alloc ?_ _|refine More.drew ?_)⟩
theorem zkf(s:ByteArray)(w:World)(hz:s.size=1)(x0:UInt8)(hs0:s[0]'(by omega)=x0)(hx:Lib.firstT x0.toNat=4)(hT:Lib.Utf8Tabs 2 3 w):
  Calls prog 85 #[.string s] w fun e w'=>e= .returned (.bool false)∧More w w':=by
 have h0:=hT.1 x0.toNat (bj _)
 rw[hx]at h0
 have hne:s.toList.isEmpty=false:=by rw[ip];exact ch (by omega)
 have a0:w.cell? ⟨3,0,none⟩=some (.int .u8 128):=(hT.2 0 (by decide)).1
 have a1:w.cell? ⟨3,1,none⟩=some (.int .u8 191):=(hT.2 0 (by decide)).2
 have tb:(x0.toNat:Int)<256:=by have:=bj x0;omega
 clear hT hx
 go_enter func85,ntmps85
 go_wp2
 refine wp_region_quiet_lit (by kernel_rfl) (by kernel_rfl) (pj.out ?_)
 iterate 3 (refine pj.step (fun K hK=> ?_);go_simp;refine hK _ ?_;clear hK K)
 iterate 12 refine pj.skip (by kernel_rfl) ?_
 iterate 1 (refine pj.step (fun K hK=> ?_);go_simp;refine hK _ ?_;clear hK K)
 refine⟨wpQuiet_nil ?_⟩
 intro _ hw
 obtain⟨nq,hw2⟩:=hw
 subst hw2
 go_wp2
 go_ret
 exact⟨rfl,by repeat(first|exact More.refl _|exact dq _ _ _|refine More.alloc ?_ _|refine More.drew ?_)⟩
theorem Y7(s:ByteArray)(w:World)(hz:s.size=2)(x0:UInt8)(x1:UInt8)(hs0:s[0]'(by omega)=x0)(hs1:s[1]'(by omega)=x1)(hx:Lib.firstT x0.toNat=4)(hT:Lib.Utf8Tabs 2 3 w)(h1:(x1.toNat:Int)<128):
  Calls prog 85 #[.string s] w fun e w'=>e= .returned (.bool true)∧More w w':=by
 have h0:=hT.1 x0.toNat (bj _)
 rw[hx]at h0
 have hne:s.toList.isEmpty=false:=by rw[ip];exact ch (by omega)
 have a0:w.cell? ⟨3,0,none⟩=some (.int .u8 128):=(hT.2 0 (by decide)).1
 have a1:w.cell? ⟨3,1,none⟩=some (.int .u8 191):=(hT.2 0 (by decide)).2
 have tb:(x0.toNat:Int)<256:=by have:=bj x0;omega
 clear hT hx
 go_enter func85,ntmps85
 go_wp2
 refine wp_region_quiet_lit (by kernel_rfl) (by kernel_rfl) (pj.out ?_)
 iterate 9 (refine pj.step (fun K hK=> ?_);go_simp;refine hK _ ?_;clear hK K)
 iterate 5 refine pj.skip (by kernel_rfl) ?_
 iterate 2 (refine pj.step (fun K hK=> ?_);go_simp;refine hK _ ?_;clear hK K)
 refine⟨wpQuiet_nil ?_⟩
 intro _ hw
 obtain⟨nq,hw2⟩:=hw
 subst hw2
 go_wp2
 go_ret
 exact⟨rfl,by repeat(first|exact More.refl _|exact dq _ _ _|refine More.alloc ?_ _|refine More.drew ?_)⟩
theorem Vx(s:ByteArray)(w:World)(hz:s.size=2)(x0:UInt8)(x1:UInt8)(hs0:s[0]'(by omega)=x0)(hs1:s[1]'(by omega)=x1)(hx:Lib.firstT x0.toNat=4)(hT:Lib.Utf8Tabs 2 3 w)(h1:(128:Int)≤x1.toNat)(h2:(191:Int)<x1.toNat):
  Calls prog 85 #[.string s] w fun e w'=>e= .returned (.bool true)∧More w w':=by
 have h0:=hT.1 x0.toNat (bj _)
 rw[hx]at h0
 have hne:s.toList.isEmpty=false:=by rw[ip];exact ch (by omega)
 have a0:w.cell? ⟨3,0,none⟩=some (.int .u8 128):=(hT.2 0 (by decide)).1
 have a1:w.cell? ⟨3,1,none⟩=some (.int .u8 191):=(hT.2 0 (by decide)).2
 have tb:(x0.toNat:Int)<256:=by have:=bj x0;omega
 clear hT hx
 go_enter func85,ntmps85
 go_wp2
 refine wp_region_quiet_lit (by kernel_rfl) (by kernel_rfl) (pj.out ?_)
 iterate 16 (refine pj.step (fun K hK=> ?_);go_simp;refine hK _ ?_;clear hK K)
 refine⟨wpQuiet_nil ?_⟩
 intro _ hw
 obtain⟨nq,hw2⟩:=hw
 subst hw2
 go_wp2
 go_ret
 exact⟨rfl,by repeat(first|exact More.refl _|exact dq _ _ _|refine More.alloc ?_ _|refine More.drew ?_)⟩
theorem zbu(s:ByteArray)(w:World)(hz:s.size=2)(x0:UInt8)(x1:UInt8)(hs0:s[0]'(by omega)=x0)(hs1:s[1]'(by omega)=x1)(hx:Lib.firstT x0.toNat=4)(hT:Lib.Utf8Tabs 2 3 w)(h1:(128:Int)≤x1.toNat)(h2:(x1.toNat:Int)≤191):
  Calls prog 85 #[.string s] w fun e w'=>e= .returned (.bool false)∧More w w':=by
 have h0:=hT.1 x0.toNat (bj _)
 rw[hx]at h0
 have hne:s.toList.isEmpty=false:=by rw[ip];exact ch (by omega)
 have a0:w.cell? ⟨3,0,none⟩=some (.int .u8 128):=(hT.2 0 (by decide)).1
 have a1:w.cell? ⟨3,1,none⟩=some (.int .u8 191):=(hT.2 0 (by decide)).2
 have tb:(x0.toNat:Int)<256:=by have:=bj x0;omega
 clear hT hx
 go_enter func85,ntmps85
 go_wp2
 refine wp_region_quiet_lit (by kernel_rfl) (by kernel_rfl) (pj.out ?_)
 iterate 16 (refine pj.step (fun K hK=> ?_);go_simp;refine hK _ ?_;clear hK K)
 refine⟨wpQuiet_nil ?_⟩
 intro _ hw
 obtain⟨nq,hw2⟩:=hw
 subst hw2
 go_wp2
 go_ret
 exact⟨rfl,by repeat(first|exact More.refl _|exact dq _ _ _|refine More.alloc ?_ _|refine More.drew ?_)⟩
theorem Y8(s:ByteArray)(w:World)(hz:s.size=3)(x0:UInt8)(x1:UInt8)(x2:UInt8)(hs0:s[0]'(by omega)=x0)(hs1:s[1]'(by omega)=x1)(hs2:s[2]'(by omega)=x2)(hx:Lib.firstT x0.toNat=4)(hT:Lib.Utf8Tabs 2 3 w)(h1:(x1.toNat:Int)<128):
  Calls prog 85 #[.string s] w fun e w'=>e= .returned (.bool true)∧More w w':=by
 have h0:=hT.1 x0.toNat (bj _)
 rw[hx]at h0
 have hne:s.toList.isEmpty=false:=by rw[ip];exact ch (by omega)
 have a0:w.cell? ⟨3,0,none⟩=some (.int .u8 128):=(hT.2 0 (by decide)).1
 have a1:w.cell? ⟨3,1,none⟩=some (.int .u8 191):=(hT.2 0 (by decide)).2
 have tb:(x0.toNat:Int)<256:=by have:=bj x0;omega
 clear hT hx
 go_enter func85,ntmps85
 go_wp2
 refine wp_region_quiet_lit (by kernel_rfl) (by kernel_rfl) (pj.out ?_)
 iterate 9 (refine pj.step (fun K hK=> ?_);go_simp;refine hK _ ?_;clear hK K)
 iterate 5 refine pj.skip (by kernel_rfl) ?_
 iterate 2 (refine pj.step (fun K hK=> ?_);go_simp;refine hK _ ?_;clear hK K)
 refine⟨wpQuiet_nil ?_⟩
 intro _ hw
 obtain⟨nq,hw2⟩:=hw
 subst hw2
 go_wp2
 go_ret
 exact⟨rfl,by repeat(first|exact More.refl _|exact dq _ _ _|refine More.alloc ?_ _|refine More.drew ?_)⟩
theorem Vy(s:ByteArray)(w:World)(hz:s.size=3)(x0:UInt8)(x1:UInt8)(x2:UInt8)(hs0:s[0]'(by omega)=x0)(hs1:s[1]'(by omega)=x1)(hs2:s[2]'(by omega)=x2)(hx:Lib.firstT x0.toNat=4)(hT:Lib.Utf8Tabs 2 3 w)(h1:(128:Int)≤x1.toNat)(h2:(191:Int)<x1.toNat):
  Calls prog 85 #[.string s] w fun e w'=>e= .returned (.bool true)∧More w w':=by
 have h0:=hT.1 x0.toNat (bj _)
 rw[hx]at h0
 have hne:s.toList.isEmpty=false:=by rw[ip];exact ch (by omega)
 have a0:w.cell? ⟨3,0,none⟩=some (.int .u8 128):=(hT.2 0 (by decide)).1
 have a1:w.cell? ⟨3,1,none⟩=some (.int .u8 191):=(hT.2 0 (by decide)).2
 have tb:(x0.toNat:Int)<256:=by have:=bj x0;omega
 clear hT hx
 go_enter func85,ntmps85
 go_wp2
 refine wp_region_quiet_lit (by kernel_rfl) (by kernel_rfl) (pj.out ?_)
 iterate 16 (refine pj.step (fun K hK=> ?_);go_simp;refine hK _ ?_;clear hK K)
 refine⟨wpQuiet_nil ?_⟩
 intro _ hw
 obtain⟨nq,hw2⟩:=hw
 subst hw2
 go_wp2
 go_ret
 exact⟨rfl,by repeat(first|exact More.refl _|exact dq _ _ _|refine More.alloc ?_ _|refine More.drew ?_)⟩
theorem O4(s:ByteArray)(w:World)(hz:s.size=3)(x0:UInt8)(x1:UInt8)(x2:UInt8)(hs0:s[0]'(by omega)=x0)(hs1:s[1]'(by omega)=x1)(hs2:s[2]'(by omega)=x2)(hx:Lib.firstT x0.toNat=4)(hT:Lib.Utf8Tabs 2 3 w)(h1:(128:Int)≤x1.toNat)(h2:(x1.toNat:Int)≤191)(h3:(x2.toNat:Int)<128):
  Calls prog 85 #[.string s] w fun e w'=>e= .returned (.bool true)∧More w w':=by
 have h0:=hT.1 x0.toNat (bj _)
 rw[hx]at h0
 have hne:s.toList.isEmpty=false:=by rw[ip];exact ch (by omega)
 have a0:w.cell? ⟨3,0,none⟩=some (.int .u8 128):=(hT.2 0 (by decide)).1
 have a1:w.cell? ⟨3,1,none⟩=some (.int .u8 191):=(hT.2 0 (by decide)).2
 have tb:(x0.toNat:Int)<256:=by have:=bj x0;omega
 clear hT hx
 go_enter func85,ntmps85
 go_wp2
 refine wp_region_quiet_lit (by kernel_rfl) (by kernel_rfl) (pj.out ?_)
 iterate 16 (refine pj.step (fun K hK=> ?_);go_simp;refine hK _ ?_;clear hK K)
 refine⟨wpQuiet_nil ?_⟩
 intro _ hw
 obtain⟨nq,hw2⟩:=hw
 subst hw2
 go_wp2
 go_ret
 exact⟨rfl,by repeat(first|exact More.refl _|exact dq _ _ _|refine More.alloc ?_ _|refine More.drew ?_)⟩
theorem Mp(s:ByteArray)(w:World)(hz:s.size=3)(x0:UInt8)(x1:UInt8)(x2:UInt8)(hs0:s[0]'(by omega)=x0)(hs1:s[1]'(by omega)=x1)(hs2:s[2]'(by omega)=x2)(hx:Lib.firstT x0.toNat=4)(hT:Lib.Utf8Tabs 2 3 w)(h1:(128:Int)≤x1.toNat)(h2:(x1.toNat:Int)≤191)(h3:(128:Int)≤x2.toNat)(h4:(191:Int)<x2.toNat):
  Calls prog 85 #[.string s] w fun e w'=>e= .returned (.bool true)∧More w w':=by
 have h0:=hT.1 x0.toNat (bj _)
 rw[hx]at h0
 have hne:s.toList.isEmpty=false:=by rw[ip];exact ch (by omega)
 have a0:w.cell? ⟨3,0,none⟩=some (.int .u8 128):=(hT.2 0 (by decide)).1
 have a1:w.cell? ⟨3,1,none⟩=some (.int .u8 191):=(hT.2 0 (by decide)).2
 have tb:(x0.toNat:Int)<256:=by have:=bj x0;omega
 clear hT hx
 go_enter func85,ntmps85
 go_wp2
 refine wp_region_quiet_lit (by kernel_rfl) (by kernel_rfl) (pj.out ?_)
 iterate 16 (refine pj.step (fun K hK=> ?_);go_simp;refine hK _ ?_;clear hK K)
 refine⟨wpQuiet_nil ?_⟩
 intro _ hw
 obtain⟨nq,hw2⟩:=hw
 subst hw2
 go_wp2
 go_ret
 exact⟨rfl,by repeat(first|exact More.refl _|exact dq _ _ _|refine More.alloc ?_ _|refine More.drew ?_)⟩
theorem R7(s:ByteArray)(w:World)(hz:s.size=3)(x0:UInt8)(x1:UInt8)(x2:UInt8)(hs0:s[0]'(by omega)=x0)(hs1:s[1]'(by omega)=x1)(hs2:s[2]'(by omega)=x2)(hx:Lib.firstT x0.toNat=4)(hT:Lib.Utf8Tabs 2 3 w)(h1:(128:Int)≤x1.toNat)(h2:(x1.toNat:Int)≤191)(h3:(128:Int)≤x2.toNat)(h4:(x2.toNat:Int)≤191):
  Calls prog 85 #[.string s] w fun e w'=>e= .returned (.bool false)∧More w w':=by
 have h0:=hT.1 x0.toNat (bj _)
 rw[hx]at h0
 have hne:s.toList.isEmpty=false:=by rw[ip];exact ch (by omega)
 have a0:w.cell? ⟨3,0,none⟩=some (.int .u8 128):=(hT.2 0 (by decide)).1
 have a1:w.cell? ⟨3,1,none⟩=some (.int .u8 191):=(hT.2 0 (by decide)).2
 have tb:(x0.toNat:Int)<256:=by have:=bj x0;omega
 clear hT hx
 go_enter func85,ntmps85
 go_wp2
 refine wp_region_quiet_lit (by kernel_rfl) (by kernel_rfl) (pj.out ?_)
 iterate 16 (refine pj.step (fun K hK=> ?_);go_simp;refine hK _ ?_;clear hK K)
 refine⟨wpQuiet_nil ?_⟩
 intro _ hw
 obtain⟨nq,hw2⟩:=hw
 subst hw2
 go_wp2
 go_ret
 exact⟨rfl,by repeat(first|exact More.refl _|exact dq _ _ _|refine More.alloc ?_ _|refine More.drew ?_)⟩
theorem zht(s:ByteArray)(w:World)(hz:s.size=1)(x0:UInt8)(hs0:s[0]'(by omega)=x0)(hx:Lib.firstT x0.toNat=68)(hT:Lib.Utf8Tabs 2 3 w):
  Calls prog 85 #[.string s] w fun e w'=>e= .returned (.bool false)∧More w w':=by
 have h0:=hT.1 x0.toNat (bj _)
 rw[hx]at h0
 have hne:s.toList.isEmpty=false:=by rw[ip];exact ch (by omega)
 have a0:w.cell? ⟨3,8,none⟩=some (.int .u8 128):=(hT.2 4 (by decide)).1
 have a1:w.cell? ⟨3,9,none⟩=some (.int .u8 143):=(hT.2 4 (by decide)).2
 have tb:(x0.toNat:Int)<256:=by have:=bj x0;omega
 clear hT hx
 go_enter func85,ntmps85
 go_wp2
 refine wp_region_quiet_lit (by kernel_rfl) (by kernel_rfl) (pj.out ?_)
 iterate 3 (refine pj.step (fun K hK=> ?_);go_simp;refine hK _ ?_;clear hK K)
 iterate 12 refine pj.skip (by kernel_rfl) ?_
 iterate 1 (refine pj.step (fun K hK=> ?_);go_simp;refine hK _ ?_;clear hK K)
 refine⟨wpQuiet_nil ?_⟩
 intro _ hw
 obtain⟨nq,hw2⟩:=hw
 subst hw2
 go_wp2
 go_ret
 exact⟨rfl,by repeat(first|exact More.refl _|exact dq _ _ _|refine More.alloc ?_ _|refine More.drew ?_)⟩
theorem Vz(s:ByteArray)(w:World)(hz:s.size=2)(x0:UInt8)(x1:UInt8)(hs0:s[0]'(by omega)=x0)(hs1:s[1]'(by omega)=x1)(hx:Lib.firstT x0.toNat=68)(hT:Lib.Utf8Tabs 2 3 w)(h1:(x1.toNat:Int)<128):
  Calls prog 85 #[.string s] w fun e w'=>e= .returned (.bool true)∧More w w':=by
 have h0:=hT.1 x0.toNat (bj _)
 rw[hx]at h0
 have hne:s.toList.isEmpty=false:=by rw[ip];exact ch (by omega)
 have a0:w.cell? ⟨3,8,none⟩=some (.int .u8 128):=(hT.2 4 (by decide)).1
 have a1:w.cell? ⟨3,9,none⟩=some (.int .u8 143):=(hT.2 4 (by decide)).2
 have tb:(x0.toNat:Int)<256:=by have:=bj x0;omega
 clear hT hx
 go_enter func85,ntmps85
 go_wp2
 refine wp_region_quiet_lit (by kernel_rfl) (by kernel_rfl) (pj.out ?_)
 iterate 9 (refine pj.step (fun K hK=> ?_);go_simp;refine hK _ ?_;clear hK K)
 iterate 5 refine pj.skip (by kernel_rfl) ?_
 iterate 2 (refine pj.step (fun K hK=> ?_);go_simp;refine hK _ ?_;clear hK K)
 refine⟨wpQuiet_nil ?_⟩
 intro _ hw
 obtain⟨nq,hw2⟩:=hw
 subst hw2
 go_wp2
 go_ret
 exact⟨rfl,by repeat(first|exact More.refl _|exact dq _ _ _|refine More.alloc ?_ _|refine More.drew ?_)⟩
theorem R8(s:ByteArray)(w:World)(hz:s.size=2)(x0:UInt8)(x1:UInt8)(hs0:s[0]'(by omega)=x0)(hs1:s[1]'(by omega)=x1)(hx:Lib.firstT x0.toNat=68)(hT:Lib.Utf8Tabs 2 3 w)(h1:(128:Int)≤x1.toNat)(h2:(143:Int)<x1.toNat):
  Calls prog 85 #[.string s] w fun e w'=>e= .returned (.bool true)∧More w w':=by
 have h0:=hT.1 x0.toNat (bj _)
 rw[hx]at h0
 have hne:s.toList.isEmpty=false:=by rw[ip];exact ch (by omega)
 have a0:w.cell? ⟨3,8,none⟩=some (.int .u8 128):=(hT.2 4 (by decide)).1
 have a1:w.cell? ⟨3,9,none⟩=some (.int .u8 143):=(hT.2 4 (by decide)).2
 have tb:(x0.toNat:Int)<256:=by have:=bj x0;omega
 clear hT hx
 go_enter func85,ntmps85
 go_wp2
 refine wp_region_quiet_lit (by kernel_rfl) (by kernel_rfl) (pj.out ?_)
 iterate 16 (refine pj.step (fun K hK=> ?_);go_simp;refine hK _ ?_;clear hK K)
 refine⟨wpQuiet_nil ?_⟩
 intro _ hw
 obtain⟨nq,hw2⟩:=hw
 subst hw2
 go_wp2
 go_ret
 exact⟨rfl,by repeat(first|exact More.refl _|exact dq _ _ _|refine More.alloc ?_ _|refine More.drew ?_)⟩
theorem Y9(s:ByteArray)(w:World)(hz:s.size=2)(x0:UInt8)(x1:UInt8)(hs0:s[0]'(by omega)=x0)(hs1:s[1]'(by omega)=x1)(hx:Lib.firstT x0.toNat=68)(hT:Lib.Utf8Tabs 2 3 w)(h1:(128:Int)≤x1.toNat)(h2:(x1.toNat:Int)≤143):
  Calls prog 85 #[.string s] w fun e w'=>e= .returned (.bool false)∧More w w':=by
 have h0:=hT.1 x0.toNat (bj _)
 rw[hx]at h0
 have hne:s.toList.isEmpty=false:=by rw[ip];exact ch (by omega)
 have a0:w.cell? ⟨3,8,none⟩=some (.int .u8 128):=(hT.2 4 (by decide)).1
 have a1:w.cell? ⟨3,9,none⟩=some (.int .u8 143):=(hT.2 4 (by decide)).2
 have tb:(x0.toNat:Int)<256:=by have:=bj x0;omega
 clear hT hx
 go_enter func85,ntmps85
 go_wp2
 refine wp_region_quiet_lit (by kernel_rfl) (by kernel_rfl) (pj.out ?_)
 iterate 16 (refine pj.step (fun K hK=> ?_);go_simp;refine hK _ ?_;clear hK K)
 refine⟨wpQuiet_nil ?_⟩
 intro _ hw
 obtain⟨nq,hw2⟩:=hw
 subst hw2
 go_wp2
 go_ret
 exact⟨rfl,by repeat(first|exact More.refl _|exact dq _ _ _|refine More.alloc ?_ _|refine More.drew ?_)⟩
theorem V0(s:ByteArray)(w:World)(hz:s.size=3)(x0:UInt8)(x1:UInt8)(x2:UInt8)(hs0:s[0]'(by omega)=x0)(hs1:s[1]'(by omega)=x1)(hs2:s[2]'(by omega)=x2)(hx:Lib.firstT x0.toNat=68)(hT:Lib.Utf8Tabs 2 3 w)(h1:(x1.toNat:Int)<128):
  Calls prog 85 #[.string s] w fun e w'=>e= .returned (.bool true)∧More w w':=by
 have h0:=hT.1 x0.toNat (bj _)
 rw[hx]at h0
 have hne:s.toList.isEmpty=false:=by rw[ip];exact ch (by omega)
 have a0:w.cell? ⟨3,8,none⟩=some (.int .u8 128):=(hT.2 4 (by decide)).1
 have a1:w.cell? ⟨3,9,none⟩=some (.int .u8 143):=(hT.2 4 (by decide)).2
 have tb:(x0.toNat:Int)<256:=by have:=bj x0;omega
 clear hT hx
 go_enter func85,ntmps85
 go_wp2
 refine wp_region_quiet_lit (by kernel_rfl) (by kernel_rfl) (pj.out ?_)
 iterate 9 (refine pj.step (fun K hK=> ?_);go_simp;refine hK _ ?_;clear hK K)
 iterate 5 refine pj.skip (by kernel_rfl) ?_
 iterate 2 (refine pj.step (fun K hK=> ?_);go_simp;refine hK _ ?_;clear hK K)
 refine⟨wpQuiet_nil ?_⟩
 intro _ hw
 obtain⟨nq,hw2⟩:=hw
 subst hw2
 go_wp2
 go_ret
 exact⟨rfl,by repeat(first|exact More.refl _|exact dq _ _ _|refine More.alloc ?_ _|refine More.drew ?_)⟩
theorem R9(s:ByteArray)(w:World)(hz:s.size=3)(x0:UInt8)(x1:UInt8)(x2:UInt8)(hs0:s[0]'(by omega)=x0)(hs1:s[1]'(by omega)=x1)(hs2:s[2]'(by omega)=x2)(hx:Lib.firstT x0.toNat=68)(hT:Lib.Utf8Tabs 2 3 w)(h1:(128:Int)≤x1.toNat)(h2:(143:Int)<x1.toNat):
  Calls prog 85 #[.string s] w fun e w'=>e= .returned (.bool true)∧More w w':=by
 have h0:=hT.1 x0.toNat (bj _)
 rw[hx]at h0
 have hne:s.toList.isEmpty=false:=by rw[ip];exact ch (by omega)
 have a0:w.cell? ⟨3,8,none⟩=some (.int .u8 128):=(hT.2 4 (by decide)).1
 have a1:w.cell? ⟨3,9,none⟩=some (.int .u8 143):=(hT.2 4 (by decide)).2
 have tb:(x0.toNat:Int)<256:=by have:=bj x0;omega
 clear hT hx
 go_enter func85,ntmps85
 go_wp2
 refine wp_region_quiet_lit (by kernel_rfl) (by kernel_rfl) (pj.out ?_)
 iterate 16 (refine pj.step (fun K hK=> ?_);go_simp;refine hK _ ?_;clear hK K)
 refine⟨wpQuiet_nil ?_⟩
 intro _ hw
 obtain⟨nq,hw2⟩:=hw
 subst hw2
 go_wp2
 go_ret
 exact⟨rfl,by repeat(first|exact More.refl _|exact dq _ _ _|refine More.alloc ?_ _|refine More.drew ?_)⟩
theorem Mq(s:ByteArray)(w:World)(hz:s.size=3)(x0:UInt8)(x1:UInt8)(x2:UInt8)(hs0:s[0]'(by omega)=x0)(hs1:s[1]'(by omega)=x1)(hs2:s[2]'(by omega)=x2)(hx:Lib.firstT x0.toNat=68)(hT:Lib.Utf8Tabs 2 3 w)(h1:(128:Int)≤x1.toNat)(h2:(x1.toNat:Int)≤143)(h3:(x2.toNat:Int)<128):
  Calls prog 85 #[.string s] w fun e w'=>e= .returned (.bool true)∧More w w':=by
 have h0:=hT.1 x0.toNat (bj _)
 rw[hx]at h0
 have hne:s.toList.isEmpty=false:=by rw[ip];exact ch (by omega)
 have a0:w.cell? ⟨3,8,none⟩=some (.int .u8 128):=(hT.2 4 (by decide)).1
 have a1:w.cell? ⟨3,9,none⟩=some (.int .u8 143):=(hT.2 4 (by decide)).2
 have tb:(x0.toNat:Int)<256:=by have:=bj x0;omega
 clear hT hx
 go_enter func85,ntmps85
 go_wp2
 refine wp_region_quiet_lit (by kernel_rfl) (by kernel_rfl) (pj.out ?_)
 iterate 16 (refine pj.step (fun K hK=> ?_);go_simp;refine hK _ ?_;clear hK K)
 refine⟨wpQuiet_nil ?_⟩
 intro _ hw
 obtain⟨nq,hw2⟩:=hw
 subst hw2
 go_wp2
 go_ret
 exact⟨rfl,by repeat(first|exact More.refl _|exact dq _ _ _|refine More.alloc ?_ _|refine More.drew ?_)⟩
theorem Kc(s:ByteArray)(w:World)(hz:s.size=3)(x0:UInt8)(x1:UInt8)(x2:UInt8)(hs0:s[0]'(by omega)=x0)(hs1:s[1]'(by omega)=x1)(hs2:s[2]'(by omega)=x2)(hx:Lib.firstT x0.toNat=68)(hT:Lib.Utf8Tabs 2 3 w)(h1:(128:Int)≤x1.toNat)(h2:(x1.toNat:Int)≤143)(h3:(128:Int)≤x2.toNat)(h4:(191:Int)<x2.toNat):
  Calls prog 85 #[.string s] w fun e w'=>e= .returned (.bool true)∧More w w':=by
 have h0:=hT.1 x0.toNat (bj _)
 rw[hx]at h0
 have hne:s.toList.isEmpty=false:=by rw[ip];exact ch (by omega)
 have a0:w.cell? ⟨3,8,none⟩=some (.int .u8 128):=(hT.2 4 (by decide)).1
 have a1:w.cell? ⟨3,9,none⟩=some (.int .u8 143):=(hT.2 4 (by decide)).2
 have tb:(x0.toNat:Int)<256:=by have:=bj x0;omega
 clear hT hx
 go_enter func85,ntmps85
 go_wp2
 refine wp_region_quiet_lit (by kernel_rfl) (by kernel_rfl) (pj.out ?_)
 iterate 16 (refine pj.step (fun K hK=> ?_);go_simp;refine hK _ ?_;clear hK K)
 refine⟨wpQuiet_nil ?_⟩
 intro _ hw
 obtain⟨nq,hw2⟩:=hw
 subst hw2
 go_wp2
 go_ret
 exact⟨rfl,by repeat(first|exact More.refl _|exact dq _ _ _|refine More.alloc ?_ _|refine More.drew ?_)⟩
theorem O5(s:ByteArray)(w:World)(hz:s.size=3)(x0:UInt8)(x1:UInt8)(x2:UInt8)(hs0:s[0]'(by omega)=x0)(hs1:s[1]'(by omega)=x1)(hs2:s[2]'(by omega)=x2)(hx:Lib.firstT x0.toNat=68)(hT:Lib.Utf8Tabs 2 3 w)(h1:(128:Int)≤x1.toNat)(h2:(x1.toNat:Int)≤143)(h3:(128:Int)≤x2.toNat)(h4:(x2.toNat:Int)≤191):
  Calls prog 85 #[.string s] w fun e w'=>e= .returned (.bool false)∧More w w':=by
 have h0:=hT.1 x0.toNat (bj _)
 rw[hx]at h0
 have hne:s.toList.isEmpty=false:=by rw[ip];exact ch (by omega)
 have a0:w.cell? ⟨3,8,none⟩=some (.int .u8 128):=(hT.2 4 (by decide)).1
 have a1:w.cell? ⟨3,9,none⟩=some (.int .u8 143):=(hT.2 4 (by decide)).2
 have tb:(x0.toNat:Int)<256:=by have:=bj x0;omega
 clear hT hx
 go_enter func85,ntmps85
 go_wp2
 refine wp_region_quiet_lit (by kernel_rfl) (by kernel_rfl) (pj.out ?_)
 iterate 16 (refine pj.step (fun K hK=> ?_);go_simp;refine hK _ ?_;clear hK K)
 refine⟨wpQuiet_nil ?_⟩
 intro _ hw
 obtain⟨nq,hw2⟩:=hw
 subst hw2
 go_wp2
 go_ret
 exact⟨rfl,by repeat(first|exact More.refl _|exact dq _ _ _|refine More.alloc ?_ _|refine More.drew ?_)⟩
end Go.Proofs.YtdfmapcnfficlaaGreatDoor

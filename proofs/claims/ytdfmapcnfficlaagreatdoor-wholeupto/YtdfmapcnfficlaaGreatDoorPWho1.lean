import Derived.Test.YtdfmapcnfficlaaGreatDoorP49
import Derived.Test.YtdfmapcnfficlaaGreatDoorP44
set_option linter.all false
set_option maxRecDepth 100000
namespace Go.Proofs.YtdfmapcnfficlaaGreatDoor.whole
open Go.Proofs.Tryz
open Go Go.RowKit Go.Lib Go.ChangeShapes Go.WideShapes Go.Proofs.YtdfmapcnfficlaaGreatDoor
theorem contract(H:Type)(enc:TypeId×Value→H)(W:World)(base:Nat)(args:Array Value)(ds gs:List (DataW H))(before:List MemPlace)
  (hval:∀(j:Nat)t v,Tryz.f3.params[j]? =some t→args[j]? =some v→Value.okWide prog W .any base t v)
  (hW:DataW.Whole enc prog Tryz.f3.params.toList Rows.wholeSpec.vars false W args.toList ds gs before) (hsm:Rows.uptoSmall H (ds++gs)=true) (hL:laidMetH prog Bu W):
  Calls prog 3 args W fun e W'=>∃v,e= .returned v∧Rows.wholeSpec.post enc prog Tryz.f3 false true false false W args v W':=by
 have hW':=hW
 obtain⟨p,q,hA0,hV,rfl,hfz,hnd⟩:=hW
 have hA:DataW.TrodAll enc prog W 0 (fun _=>true) true Tryz.f3.params.toList args.toList ds p:=hA0
 have hlt:∀x∈p++q,x.block<W.heap.size:=fun x hx=>by simpa using hW'.lt x hx
 rw[params3]at hA hval
 obtain⟨v0,d0,rfl,rfl,h0⟩:=trodAll_one hA
 obtain⟨rfl,rfl⟩:=trodVars_none hV
 have k0:=h0
 obtain⟨x0,rfl,hx0⟩:=zjo (hval 0 _ v0 rfl rfl) h0
 have hb:=Qm hsm
 simp only[gq,Rows.uptoBulkAll]at hb
 obtain⟨hB,⟨ac,al,hE⟩,hT⟩:=Jg hL
 refine(M.zcv x0 W (by omega) ⟨hB,hE,hT⟩).mono ?_
 rintro e W'⟨rfl,hm⟩
 have hbl:=hm.below
 refine⟨_,rfl,_,_,_,[],p,[],hW',trodAll_mk1 (shut_bool underlying4 _),?_,rfl,hbl.frame _,fun h=>by cases h⟩
 exact trodAll_mk1 (Below.trod laidOut (by kernel_rfl) (of_decide_eq_true (by kernel_rfl)) k0 hbl (fun x hx=>hlt x (by simp[hx])))
theorem Hu(os:Os)(started:os.Started)(H:Type)(enc:TypeId×Value→H)(F:Stop.Interp):
  ReturnsInHanded {} checked os 3 .any ((Rows.OpenSpec.upto Rows.wholeSpec).preRow enc prog Tryz.f3 Rows.wholeUptoRow.domain false Rows.wholeUptoRow.laid) (((Rows.OpenSpec.upto Rows.wholeSpec).at F).post enc prog Tryz.f3 false true false false):=by
 have hx:∃places,DataW.whole enc prog ((World.laidAll prog os Bu).forCall (fun _ _=>0) ⟨#[],#[.string ⟨#[]⟩],[]⟩).memory Tryz.f3.params.toList Rows.wholeSpec.vars false #[(.string ⟨#[]⟩:Value)].toList 8=some ([.lit (.string [])],[],places):=⟨[],by kernel_rfl⟩
 obtain⟨places,hx⟩:=hx
 refine returnsInHanded_of_row (C:=checked) (s:=Rows.OpenSpec.upto Rows.wholeSpec) Tryz.own started (by kernel_rfl) func3
  (Lj (enc:=enc) (C:=checked) false (World.laidAll prog os Bu) #[.string ⟨#[]⟩] (World.laidAll_os _ _ _) (World.shaped_of_ZipB (by kernel_rfl) (by kernel_rfl)) (by kernel_rfl)
   (OpenSpec.preRow_of_cond 8 hx (by kernel_rfl) (fun k hk=>by cases hk;kernel_rfl) (by kernel_rfl) (T8 os _))) ?_
 intro W base args ds gs before hval hW _ hc _ hL _ _
 exact contract H enc W base args ds gs before hval hW (hc _ rfl) hL
theorem Qn:Rows.WholeUptoSaid:=
 OpenClaim.holds_of_cond 3 Tryz.f3 rfl rfl rfl rfl rfl rfl rfl ⟨rfl,rfl,rfl,rfl,rfl⟩ rfl rfl rfl rfl rfl (by kernel_rfl) func3 (by kernel_rfl)
  (of_decide_eq_true (by kernel_rfl)) (by unfold Func.isWrapper;first|(rw[au (by decide+kernel)];kernel_rfl)|(rw[ag (by decide+kernel)];exact⟨rfl,rfl⟩))
  (fun os started H enc _ F=>by rw[OpenClaim.pre_eq_preRow];exact Hu os started H enc F)
theorem plain(f:FuncId)(fn:Func)(hf:Tryz.pinned.checked.prog.funcNamed "unmark/unmarklaw.Whole" =some f)(hfn:Tryz.pinned.checked.prog.funcs[f]? =some fn):
  true=Tryz.pinned.checked.prog.looks []∧∀(j:Nat)t,fn.params[j]? =some t→Tryz.pinned.checked.prog.wantsStandIn t=false:=by
 obtain rfl:f=3:=Option.some.inj ((show prog.funcNamed "unmark/unmarklaw.Whole" =some 3 by kernel_rfl).symm.trans hf) |>.symm
 obtain rfl:fn=Tryz.f3:=(Option.some.inj (func3.symm.trans hfn)).symm
 refine⟨by kernel_rfl,fun j t ht=> ?_⟩
 rw[params3]at ht
 have hm:=Array.mem_of_getElem? ht
 simp at hm
 subst hm
 ·exact(show prog.wantsStandIn 9=false by kernel_rfl)
theorem whole_card_holds:Rows.WholeUptoCardSaid:=
 D5 .later _ _ _ _ Qn (by kernel_rfl) wholeUpto_row_tie rfl ⟨rfl,rfl⟩ (by kernel_rfl) (by kernel_rfl) plain (by kernel_rfl)
#print axioms whole_card_holds
end Go.Proofs.YtdfmapcnfficlaaGreatDoor.whole

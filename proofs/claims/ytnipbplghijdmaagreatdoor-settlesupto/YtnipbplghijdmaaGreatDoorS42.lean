/-
  Settles (P6, P10, and what Writes says: all answers and what lies on the disk, for any calls of a store on an empty disk) is true for every script of bulk at most 1048576, which reads as it did.
-/
import Derived.Test.YtnipbplghijdmaaGreatDoorCards
import Derived.SevenTiedAt
import Derived.LaidSub
import Derived.LaidOnce
import Derived.Deep.DeepWitnessRowRef
import Derived.Test.YtnipbplghijdmaaGreatDoorS34
import Derived.Test.YtnipbplghijdmaaGreatDoorS41
set_option maxRecDepth 100000
set_option linter.unusedVariables false
set_option linter.unusedSimpArgs false
namespace Go.Proofs.YtnipbplghijdmaaGreatDoor
open Go.ChangeShapes Go.WideShapes Go.ChangeAt Go.RowKit Go.ChangeMaps
variable {H:Type}
theorem own:ownKnob Tryz.prog.godebug=none:=by kernel_rfl
theorem laidOut:laidOutB Tryz.prog=true:=by kernel_rfl
theorem ja.below{w b:World}(h:ja w b (fun _=>False)):Below w.heap.size w b:=⟨h.os,h.tape,h.output,h.size,fun k hk=>h.block k hk id⟩
theorem again{enc:TypeId×Value->H}{W W':World}{t:TypeId}{v:Value}{d:DataW H}{ps:List MemPlace}(g:Tryz.prog.readableRec t=true)(f:t<Tryz.prog.types.size)(h:DataW.Trod enc Tryz.prog W 0 (fun _=>true) true t v d ps)(i:Below W.heap.size W W')(c:∀ x∈ps,x.block<W.heap.size):DataW.Trod enc Tryz.prog W' 0 (fun b=>decide (b<W.heap.size)) true t v d ps :=
 WideElems.Trod_stays laidOut g f h (fun p hp=>i.same (c p hp)) (fun p hp=>by simpa using c p hp)
theorem Ap(H:Type)(enc:TypeId×Value->H)(F:Stop.Interp)(W:World)(base:Nat)(args:Array Value)(k B:List (DataW H))(before:List MemPlace)(b:∀(j:Nat) t v,Tryz.f4.params[j]?=some t->args[j]?=some v->Value.okWide Tryz.prog W .any base t v)(y:DataW.Whole enc Tryz.prog Tryz.f4.params.toList Rows.settlesSpec.vars false W args.toList k B before)(L:Rows.uptoSmall H (k++B)=true)(N:laidMet Tryz.prog Gc W):Calls Tryz.prog 4 args W fun e W'=>∃ v,e = .returned v/\Rows.settlesSpec.post enc Tryz.prog Tryz.f4 false true false false W args v W':=by
 have c:=y;obtain⟨p,q,d,M,rfl,Y,X⟩:=y;have z:DataW.TrodAll enc Tryz.prog W 0 (fun _=>true) true Tryz.f4.params.toList args.toList k p:=d;rw[Tryz.params4] at z b;obtain⟨v0,V,T,a1,u,q0,s,rfl,rfl,A,D⟩:=trodAll_cons z;obtain⟨rfl,rfl,rfl⟩:=trodAll_nil D;obtain rfl:args=#[v0]:=by cases args;simp_all
 obtain⟨rfl,rfl⟩:=trodVars_none M;clear d
 have o:Rows.uptoBulk T<=1048576:=by
  have h:=of_decide_eq_true L;simp only[ZC,Rows.uptoBulkAll,Nat.add_zero] at h;exact h
 have r:=A;obtain⟨U,I,C,rfl⟩:=okWide_slice Tryz.underlying22 (b 0 22 v0 rfl rfl);obtain⟨Z,n⟩:=A;obtain⟨G,pc,l,S,i,J⟩:=jbl n o;have R:Value.slice U I C = .slice G l.length pc:=by simpa [Value.cells] using S
 injection R with x1 x2 x3;subst x1;subst x2;subst x3;obtain⟨E,O⟩:=Ph N;have g:=Ni O (pc:=C) i J;have m:∀ x∈u,x.block<W.heap.size:=fun x hx=>c.lt x (by simpa using hx);refine g.mono fun e W' ⟨he,hkk⟩=>?_;subst he;have f:=hkk.below;refine⟨_,rfl,_,_,_,[],u++[],[],c,trodAll_mk1 (shut_bool Tryz.underlying4 _),?_,rfl,f.frame _,fun h=>by cases h⟩;rw[Tryz.params4];exact trodAll_cons_mk (again (by kernel_rfl) (of_decide_eq_true (by kernel_rfl)) r f (fun x hx=>m x (by simp[hx]))) trodAll_mk0
abbrev di:Array Value:=#[.slice none 0 0]
theorem Ao(os:Os):laidMet Tryz.prog Rows.settlesUptoRow.laid ((Ba Tryz.prog os).forCall (fun _ _=>0) ⟨#[],di,[]⟩).memory :=
 laidMet_of_run' 8 (by kernel_rfl) (by kernel_rfl)
theorem Hp(os:Os)(enc:TypeId×Value->H):∃ places,DataW.whole enc Tryz.prog ((Ba Tryz.prog os).forCall (fun _ _=>0) ⟨#[],di,[]⟩).memory Tryz.f4.params.toList Rows.settlesSpec.vars false di.toList 8=some ([.nil],[],places) :=
 ⟨[],by kernel_rfl⟩
theorem Dz(os:Os)(b:os.Started)(H:Type)(enc:TypeId×Value->H)(F:Stop.Interp):ReturnsInHanded {} Tryz.checked os 4 .any ((Rows.OpenSpec.upto Rows.settlesSpec).preRow enc Tryz.prog Tryz.f4 Rows.settlesUptoRow.domain false Rows.settlesUptoRow.laid) (((Rows.OpenSpec.upto Rows.settlesSpec).at F).post enc Tryz.prog Tryz.f4 false true false false):=by
 obtain⟨places,f⟩:=Hp os enc
 refine returnsInHanded_of_row (C:=Tryz.checked) (s:=Rows.OpenSpec.upto Rows.settlesSpec) own b (by kernel_rfl) Tryz.func4
  (witness_row_atRef (enc:=enc) (C:=Tryz.checked) false (Ba Tryz.prog os) di rfl (by kernel_rfl) (by kernel_rfl) (by kernel_rfl)
   (OpenSpec.preRow_of_cond 8 f (by kernel_rfl) (fun k hk=>by cases hk;kernel_rfl) (by kernel_rfl) (Ao os))) ?_
 intro W base args l j before d g _ c _ i _ _;exact Ap H enc F W base args l j before d g (c _ rfl) i
theorem Hs:joinedFacts Tryz.prog 4 Tryz.f4 (Rows.OpenSpec.upto Rows.settlesSpec).bare Rows.settlesUptoRow=true :=
 V9 Ia H9 H7 Hz Hy Hx Hw Hv Hu Ht Ev Eu Et Es Er Ep Eo En Em Ek Ej Ei Eh Eg Ef Ee Ed Ec (by kernel_rfl) Eb Ea D0
theorem Li:Rows.SettlesUptoSaid :=
 OpenClaim.holds_of_cond 4 Tryz.f4 rfl rfl rfl rfl rfl rfl rfl ⟨rfl,rfl,rfl,rfl,rfl⟩ rfl rfl rfl rfl rfl (by kernel_rfl) Tryz.func4 Hs
  (of_decide_eq_true (by kernel_rfl)) (by unfold Func.isWrapper;first|(rw[if_pos (by decide +kernel)];kernel_rfl)|(rw[if_neg (by decide +kernel)];exact⟨rfl,rfl⟩))
  (fun os started H enc _ F=>by rw[OpenClaim.pre_eq_preRow];exact Dz os started H enc F)
theorem Hr(f:FuncId)(fn:Func)(c:Tryz.pinned.checked.prog.funcNamed "sediment/sedimentlaw.Settles"=some f)(b:Tryz.pinned.checked.prog.funcs[f]?=some fn):true=Tryz.pinned.checked.prog.looks []/\∀(j:Nat) t,fn.params[j]?=some t->Tryz.pinned.checked.prog.wantsStandIn t=false:=by
 obtain rfl:f=4:=Option.some.inj ((show Tryz.prog.funcNamed "sediment/sedimentlaw.Settles"=some 4 by kernel_rfl).symm.trans c) |>.symm
 obtain rfl:fn=Tryz.f4:=(Option.some.inj (Tryz.func4.symm.trans b)).symm;refine⟨by kernel_rfl,fun j t ht=>?_⟩;rw[Tryz.params4] at ht;obtain rfl:t=22:=by simpa using Array.mem_of_getElem? ht
 exact(show Tryz.prog.wantsStandIn 22=false by kernel_rfl)
theorem Nh:Rows.settlesUptoRow.laidByTextAt .later Tryz.pinned [.data,.data,.data,.sentinel,.sentinel,.sentinel,.sentinel,.sentinel,.sentinel,.sentinel] true :=
 OpenClaim.laidByTextAt_later rfl rfl (Program.laidByTextLater_by_one 157 8 65 (by kernel_rfl) (by kernel_rfl) (by kernel_rfl) (by kernel_rfl) (by kernel_rfl) (by kernel_rfl) (fun _ _=>by kernel_rfl)) (by kernel_rfl)
theorem settles_card:Rows.SettlesUptoCardSaid :=
 Claim7.holds_tied_plain_at .later [] _ _ _ _ Li (fun _ h=>by cases h) (by kernel_rfl) (fun _ h=>by cases h) Nh rfl ⟨rfl,rfl⟩ (by kernel_rfl) rfl Hr (by kernel_rfl)
#print axioms settles_card
end Go.Proofs.YtnipbplghijdmaaGreatDoor

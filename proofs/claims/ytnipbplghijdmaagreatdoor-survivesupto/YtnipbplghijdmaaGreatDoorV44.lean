/-
  Survives (sedimentkeep; the document's P11: whatever is written, synced, flushed, compacted and opened again, wherever the disk fails and the power goes, with whatever of it lost: Open is OK, and the store has what the first so many batches come to, no fewer than must not be lost): it returns true for every script of bulk at most 1048576, which reads as it did. The card over the row.
-/
import Derived.Test.YtnipbplghijdmaaGreatDoorCards
import Derived.SevenTiedAt
import Derived.LaidSub
import Derived.LaidOnce
import Derived.Deep.DeepWitnessRowRef
import Derived.Test.YtnipbplghijdmaaGreatDoorV35
import Derived.Test.YtnipbplghijdmaaGreatDoorV43
import Derived.Test.YtnipbplghijdmaaGreatDoorV46
set_option maxRecDepth 100000
set_option linter.unusedVariables false
set_option linter.unusedSimpArgs false
namespace Go.Proofs.YtnipbplghijdmaaGreatDoor
open Go.ChangeShapes Go.WideShapes Go.ChangeAt Go.RowKit Go.ChangeMaps
variable {H:Type}
theorem own:ownKnob Tryz.prog.godebug=none:=by kernel_rfl
theorem laidOut:laidOutB Tryz.prog=true:=by kernel_rfl
theorem ja.below{w w':World}(h:ja w w' (fun _=>False)):Below w.heap.size w w':=⟨h.os,h.tape,h.output,h.size,fun k hk=>h.block k hk id⟩
theorem again{enc:TypeId×Value->H}{W g:World}{t:TypeId}{v:Value}{d:DataW H}{ps:List MemPlace}(i:Tryz.prog.readableRec t=true)(f:t<Tryz.prog.types.size)(h:DataW.Trod enc Tryz.prog W 0 (fun _=>true) true t v d ps)(j:Below W.heap.size W g)(c:∀ x∈ps,x.block<W.heap.size) :
 DataW.Trod enc Tryz.prog g 0 (fun b=>decide (b<W.heap.size)) true t v d ps :=
 WideElems.Trod_stays laidOut i f h (fun p hp=>j.same (c p hp)) (fun p hp=>by simpa using c p hp)
theorem Aa(H:Type)(enc:TypeId×Value->H)(F:Stop.Interp)(W:World)(base:Nat)(args:Array Value)(ds B:List (DataW H))(before:List MemPlace)(b:∀(j:Nat) t v,Tryz.f11.params[j]?=some t->args[j]?=some v->Value.okWide Tryz.prog W .any base t v)(y:DataW.Whole enc Tryz.prog Tryz.f11.params.toList Rows.survivesSpec.vars false W args.toList ds B before)(L:Rows.uptoSmall H (ds++B)=true)(N:laidMet Tryz.prog Hp W) :
 Calls Tryz.prog 11 args W fun e W'=>∃ v,e = .returned v/\Rows.survivesSpec.post enc Tryz.prog Tryz.f11 false true false false W args v W':=by
 have c:=y;obtain⟨p,q,d,M,rfl,Y,X⟩:=y;have z:DataW.TrodAll enc Tryz.prog W 0 (fun _=>true) true Tryz.f11.params.toList args.toList ds p:=d;rw[Tryz.params11] at z b;obtain⟨s,V,T,a1,u,q0,r,rfl,rfl,A,D⟩:=trodAll_cons z;obtain⟨rfl,rfl,rfl⟩:=trodAll_nil D;obtain rfl:args=#[s]:=by cases args;simp_all
 obtain⟨rfl,rfl⟩:=trodVars_none M;clear d
 have n:Rows.uptoBulk T<=1048576:=by
  have h:=of_decide_eq_true L;simp only[ZB,Rows.uptoBulkAll,Nat.add_zero] at h;exact h
 have o:=A;obtain⟨U,I,C,rfl⟩:=okWide_slice Tryz.underlying69 (b 0 69 s rfl rfl);obtain⟨Z,m⟩:=A;obtain⟨G,pc,k,S,i,J⟩:=jav m n;have R:Value.slice U I C = .slice G k.length pc:=by simpa [Value.cells] using S
 injection R with x1 x2 x3;subst x1;subst x2;subst x3;obtain⟨E,O⟩:=Sg N;have g:=Mo O (ZQ _) (pc:=C) i J;have l:∀ x∈u,x.block<W.heap.size:=fun x hx=>c.lt x (by simpa using hx);refine g.mono fun e W' ⟨he,hkk⟩=>?_;subst he;have f:=hkk.below;refine⟨_,rfl,_,_,_,[],u++[],[],c,trodAll_mk1 (shut_bool Tryz.underlying4 _),?_,rfl,f.frame _,fun h=>by cases h⟩;rw[Tryz.params11];exact trodAll_cons_mk (again (by kernel_rfl) (of_decide_eq_true (by kernel_rfl)) o f (fun x hx=>l x (by simp[hx]))) trodAll_mk0
abbrev cn:Array Value:=#[.slice none 0 0]
theorem wy(os:Os):laidMet Tryz.prog Rows.survivesUptoRow.laid ((Bs Tryz.prog os).forCall (fun _ _=>0) ⟨#[],cn,[]⟩).memory :=
 laidMet_of_run' 8 (by kernel_rfl) (by kernel_rfl)
theorem Fm(os:Os)(enc:TypeId×Value->H):∃ places,DataW.whole enc Tryz.prog ((Bs Tryz.prog os).forCall (fun _ _=>0) ⟨#[],cn,[]⟩).memory Tryz.f11.params.toList Rows.survivesSpec.vars false cn.toList 8=some ([.nil],[],places) :=
 ⟨[],by kernel_rfl⟩
theorem C8(os:Os)(b:os.Started)(H:Type)(enc:TypeId×Value->H)(F:Stop.Interp) :
 ReturnsInHanded {} Tryz.checked os 11 .any ((Rows.OpenSpec.upto Rows.survivesSpec).preRow enc Tryz.prog Tryz.f11 Rows.survivesUptoRow.domain false Rows.survivesUptoRow.laid) (((Rows.OpenSpec.upto Rows.survivesSpec).at F).post enc Tryz.prog Tryz.f11 false true false false):=by
 obtain⟨places,f⟩:=Fm os enc
 refine returnsInHanded_of_row (C:=Tryz.checked) (s:=Rows.OpenSpec.upto Rows.survivesSpec) own b (by kernel_rfl) Tryz.func11
  (witness_row_atRef (enc:=enc) (C:=Tryz.checked) false (Bs Tryz.prog os) cn rfl (by kernel_rfl) (by kernel_rfl) (by kernel_rfl)
   (OpenSpec.preRow_of_cond 8 f (by kernel_rfl) (fun k hk=>by cases hk;kernel_rfl) (by kernel_rfl) (wy os))) ?_
 intro W base args ds j before d g _ c _ i _ _;exact Aa H enc F W base args ds j before d g (c _ rfl) i
theorem Fp:joinedFacts Tryz.prog 11 Tryz.f11 (Rows.OpenSpec.upto Rows.survivesSpec).bare Rows.survivesUptoRow=true :=
 ja7 Ga F8 F7 Fz Fy Fx Fw Fv Fu Ft Dz Dy Dx Dw Dv Du Dt Dr Dp Dn Dm Dj Di Dh Dg Df De Dd (by kernel_rfl) Dc Db Da
theorem Kj:Rows.SurvivesUptoSaid :=
 OpenClaim.holds_of_cond 11 Tryz.f11 rfl rfl rfl rfl rfl rfl rfl ⟨rfl,rfl,rfl,rfl,rfl⟩ rfl rfl rfl rfl rfl (by kernel_rfl) Tryz.func11 Fp
  (of_decide_eq_true (by kernel_rfl)) (by unfold Func.isWrapper;first|(rw[if_pos (by decide +kernel)];kernel_rfl)|(rw[if_neg (by decide +kernel)];exact⟨rfl,rfl⟩))
  (fun os started H enc _ F=>by rw[OpenClaim.pre_eq_preRow];exact C8 os started H enc F)
theorem Fo(f:FuncId)(fn:Func)(c:Tryz.pinned.checked.prog.funcNamed "sediment/sedimentkeep.Survives"=some f)(b:Tryz.pinned.checked.prog.funcs[f]?=some fn) :
 true=Tryz.pinned.checked.prog.looks []/\∀(j:Nat) t,fn.params[j]?=some t->Tryz.pinned.checked.prog.wantsStandIn t=false:=by
 obtain rfl:f=11:=Option.some.inj ((show Tryz.prog.funcNamed "sediment/sedimentkeep.Survives"=some 11 by kernel_rfl).symm.trans c) |>.symm
 obtain rfl:fn=Tryz.f11:=(Option.some.inj (Tryz.func11.symm.trans b)).symm;refine⟨by kernel_rfl,fun j t ht=>?_⟩;rw[Tryz.params11] at ht;obtain rfl:t=69:=by simpa using Array.mem_of_getElem? ht
 exact(show Tryz.prog.wantsStandIn 69=false by kernel_rfl)
theorem Mn:Rows.survivesUptoRow.laidByTextAt .later Tryz.pinned [.data,.data,.data,.sentinel,.sentinel,.sentinel,.sentinel,.sentinel,.sentinel,.sentinel] true :=
 OpenClaim.laidByTextAt_later rfl rfl (Program.laidByTextLater_by_one 157 8 65 (by kernel_rfl) (by kernel_rfl) (by kernel_rfl) (by kernel_rfl) (by kernel_rfl) (by kernel_rfl) (fun _ _=>by kernel_rfl)) (by kernel_rfl)
theorem survives_card:Rows.SurvivesUptoCardSaid :=
 Claim7.holds_tied_plain_at .later [] _ _ _ _ Kj (fun _ h=>by cases h) (by kernel_rfl) (fun _ h=>by cases h) Mn rfl ⟨rfl,rfl⟩ (by kernel_rfl) rfl Fo (by kernel_rfl)
#print axioms survives_card
end Go.Proofs.YtnipbplghijdmaaGreatDoor

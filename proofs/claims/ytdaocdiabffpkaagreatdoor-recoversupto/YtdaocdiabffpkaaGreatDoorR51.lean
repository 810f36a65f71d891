/-
  Recovers (sedimentlaw; the document's P3, P4, P11, and what Settles says: the power goes in any call, at any call of the disk, and the disk loses what it chooses: what is found then is what the bytes that are left mean, on this disk and on one that has them alone): it returns true for every script of bulk at most 1048576, which reads as it did. The card over the row.
-/
import Derived.Test.YtdaocdiabffpkaaGreatDoorCards
import Derived.SevenTiedAt
import Derived.LaidSub
import Derived.LaidOnce
import Derived.Deep.DeepWitnessRowRef
import Derived.Test.YtdaocdiabffpkaaGreatDoorR33
import Derived.Test.YtdaocdiabffpkaaGreatDoorR34
import Derived.Test.YtdaocdiabffpkaaGreatDoorR50
set_option maxRecDepth 100000
set_option linter.all false
namespace Go.Proofs.YtdaocdiabffpkaaGreatDoor
open Go.ChangeShapes Go.WideShapes Go.ChangeAt Go.RowKit Go.ChangeMaps
variable {H:Type}
theorem own:ownKnob Tryz.prog.godebug=none:=by kernel_rfl
theorem laidOut:laidOutB Tryz.prog=true:=by kernel_rfl
theorem ja.below{w w':World}(h:ja w w' N_):Below w.heap.size w w':=⟨h.os,h.tape,h.output,h.size,λk b=>h.block k b id⟩
theorem again{enc:TypeId×Value->H}{W W':World}{t:TypeId}{v:Value}{d:DataW H}{ps:List MemPlace}(g:Tryz.prog.readableRec t=true)(f:t<Tryz.prog.types.size)(h:DataW.Trod enc Tryz.prog W 0 (λ_=>true) true t v d ps)(i:Below W.heap.size W W')(c:∀ x∈ps,x.block<W.heap.size):DataW.Trod enc Tryz.prog W' 0 (λb=>decide (b<W.heap.size)) true t v d ps:=WideElems.Trod_stays laidOut g f h (λp j=>i.same<|c p j) (λp j=>by simpa using c p j)
theorem Dj(H:Type)(enc:TypeId×Value->H)(F:Stop.Interp)(W:World)(base:Nat)(args:Array Value)(ds A:List (DataW H))(before:List MemPlace)(b:∀(j:Nat) t v,Tryz.f3.params[j]?=some t->args[j]?=some v->Value.okWide Tryz.prog W .any base t v)(u:DataW.Whole enc Tryz.prog Tryz.f3.params.toList Rows.recoversSpec.vars false W args.toList ds A before)(J:Rows.uptoSmall H (ds++A)=true)(M:laidMet Tryz.prog M7 W):Calls Tryz.prog 3 args W λe W'=>∃ v,e=.returned v/\Rows.recoversSpec.post enc Tryz.prog Tryz.f3 false true false false W args v W':=by
 have c:=u;obtain⟨p,q,d,L,rfl,V,U⟩:=u;have y:DataW.TrodAll enc Tryz.prog W 0 (λ_=>true) true Tryz.f3.params.toList args.toList ds p:=d;rw[Tryz.params3] at y b;obtain⟨v0,T,S,Y,s,Z,r,rfl,rfl,z,C⟩:=trodAll_cons y;obtain⟨rfl,rfl,rfl⟩:=trodAll_nil C;obtain rfl:args=#[v0]:=by cases args;simp_all
 obtain⟨rfl,rfl⟩:=trodVars_none L;clear d;have n:Rows.uptoBulk S<=1048576:=by have h:=of_decide_eq_true J;grind [Rows.uptoBulkAll]
 have o:=z;obtain⟨a0,G,B,rfl⟩:=okWide_slice Tryz.underlying22<|b 0 22 v0 rfl rfl;obtain⟨X,m⟩:=z;obtain⟨D,pc,k,R,i,I⟩:=ji6 m n;have O:Value.slice a0 G B=.slice D k.length pc:=by simpa [Value.cells] using R
 injection O with x1 x2 x3;subst x1;subst x2;subst x3;obtain⟨E,N⟩:=jbh M;have g:=Tu N (pc:=B) i I;have l:∀ x∈s,x.block<W.heap.size:=λx i=>c.lt x (by simpa using i)
 refine g.mono λe W' ⟨f,d⟩=>?_
 subst f;have f:=d.below;refine⟨_,rfl,_,_,_,[],s++[],[],c,trodAll_mk1<|shut_bool Tryz.underlying4 _,?_,rfl,f.frame _,λh=>by cases h⟩;rw[Tryz.params3];exact trodAll_cons_mk (again zH (of_decide_eq_true zH) o f λx i=>l x<|by simp[i]) trodAll_mk0
abbrev gj:Array Value:=#[.slice none 0 0]
theorem Di(os:Os):laidMet Tryz.prog Rows.recoversUptoRow.laid ((F7 Tryz.prog os).forCall (λ_ _=>0) ⟨#[],gj,[]⟩).memory:=laidMet_of_run' 8 zH zH
theorem L0(os:Os)(enc:TypeId×Value->H):∃ places,DataW.whole enc Tryz.prog ((F7 Tryz.prog os).forCall (λ_ _=>0) ⟨#[],gj,[]⟩).memory Tryz.f3.params.toList Rows.recoversSpec.vars false gj.toList 8=some ([.nil],[],places):=⟨[],zH⟩
theorem Hz(os:Os)(b:os.Started)(H:Type)(enc:TypeId×Value->H)(F:Stop.Interp):ReturnsInHanded {} Tryz.checked os 3 .any ((Rows.OpenSpec.upto Rows.recoversSpec).preRow enc Tryz.prog Tryz.f3 Rows.recoversUptoRow.domain false Rows.recoversUptoRow.laid) (((Rows.OpenSpec.upto Rows.recoversSpec).at F).post enc Tryz.prog Tryz.f3 false true false false):=by obtain⟨places,f⟩:=L0 os enc;refine returnsInHanded_of_row (C:=Tryz.checked) (s:=Rows.OpenSpec.upto Rows.recoversSpec) own b zH Tryz.func3 (witness_row_atRef (enc:=enc) (C:=Tryz.checked) false (F7 Tryz.prog os) gj rfl zH zH zH<|OpenSpec.preRow_of_cond 8 f zH (λk c=>by cases c;kernel_rfl) zH<|Di os) ?_;intro W base args ds j before d g _ c _ i _ _;exact Dj H enc F W base args ds j before d g (c _ rfl) i
theorem L5:joinedFacts Tryz.prog 3 Tryz.f3 (Rows.OpenSpec.upto Rows.recoversSpec).bare Rows.recoversUptoRow=true:=jg4 Mg Mf Me Md Mc Mb Ma L9 L8 L7 Iw Iv Iu It Is Ir Iq Ip Io Im Il Ik Ij Ii Ih Ig Ie Ic zH Ib Ia H9
theorem Pb:Rows.RecoversUptoSaid:=OpenClaim.holds_of_cond 3 Tryz.f3 rfl rfl rfl rfl rfl rfl rfl ⟨rfl,rfl,rfl,rfl,rfl⟩ rfl rfl rfl rfl rfl zH Tryz.func3 L5 (of_decide_eq_true zH) (by unfold Func.isWrapper;first|(rw[if_pos (by decide +kernel)];kernel_rfl)|(rw[if_neg (by decide +kernel)];exact⟨rfl,rfl⟩)) (λos b H enc _ F=>by rw[OpenClaim.pre_eq_preRow];exact Hz os b H enc F)
theorem L4(f:FuncId)(fn:Func)(c:Tryz.pinned.checked.prog.funcNamed "sediment/sedimentlaw.Recovers"=some f)(b:Tryz.pinned.checked.prog.funcs[f]?=some fn):true=Tryz.pinned.checked.prog.looks []/\∀(j:Nat) t,fn.params[j]?=some t->Tryz.pinned.checked.prog.wantsStandIn t=false:=by obtain rfl:f=3:=Option.some.inj ((show Tryz.prog.funcNamed "sediment/sedimentlaw.Recovers"=some 3 by kernel_rfl).symm.trans c) |>.symm;obtain rfl:fn=Tryz.f3:=(Option.some.inj<|Tryz.func3.symm.trans b).symm;refine⟨zH,λj t d=>?_⟩;rw[Tryz.params3] at d;obtain rfl:t=22:=zF;exact(show Tryz.prog.wantsStandIn 22=false by kernel_rfl)
theorem Tt:Rows.recoversUptoRow.laidByTextAt .later Tryz.pinned [.data,.data,.data,.sentinel,.sentinel,.sentinel,.sentinel,.sentinel,.sentinel,.sentinel] true:=OpenClaim.laidByTextAt_later rfl rfl (Program.laidByTextLater_by_one 157 8 65 zH zH zH zH zH zH λ_ _=>zH) zH
theorem recovers_card:Rows.RecoversUptoCardSaid:=Claim7.holds_tied_plain_at .later [] _ _ _ _ Pb (λ_ h=>by cases h) zH (λ_ h=>by cases h) Tt rfl ⟨rfl,rfl⟩ zH rfl L4 zH
#print axioms recovers_card

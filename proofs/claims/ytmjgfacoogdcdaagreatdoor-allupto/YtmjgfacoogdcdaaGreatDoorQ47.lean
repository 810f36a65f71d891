/-
  All (sedimentlaw; the document's P1 to P7, P9, P10 together: a store on an empty disk, and one on a disk that was laid, in turns): it returns true for every Laid and script of bulk at most 1048576 in all, which read as they did. The card over the row.
-/
import Derived.Test.YtmjgfacoogdcdaaGreatDoorCards
import Derived.SevenTiedAt
import Derived.LaidSub
import Derived.LaidOnce
import Derived.Deep.DeepWitnessRowRef
import Derived.Test.YtmjgfacoogdcdaaGreatDoorO29
import Derived.Test.YtmjgfacoogdcdaaGreatDoorQ30
import Derived.Test.YtmjgfacoogdcdaaGreatDoorQ45
import Derived.Test.YtmjgfacoogdcdaaGreatDoorO46
set_option maxRecDepth 100000
set_option linter.all false
namespace Go.Proofs.YtmjgfacoogdcdaaGreatDoor
open Go.ChangeShapes Go.WideShapes Go.ChangeAt Go.RowKit Go.ChangeMaps
variable {H:Type}
theorem own:ownKnob Tryz.prog.godebug=none:=by kernel_rfl
theorem laidOut:laidOutB Tryz.prog=true:=by kernel_rfl
theorem ja.below{w b:World}(h:ja w b No):Below w.heap.size w b:=⟨h.os,h.tape,h.output,h.size,λk hk=>h.block k hk id⟩
theorem again{enc:TypeId×Value->H}{W W':World}{t:TypeId}{v:Value}{d:DataW H}{ps:List MemPlace}(g:Tryz.prog.readableRec t=true)(f:t<Tryz.prog.types.size)(h:DataW.Trod enc Tryz.prog W 0 (λ_=>true) true t v d ps)(i:Below W.heap.size W W')(c:∀ x∈ps,x.block<W.heap.size):DataW.Trod enc Tryz.prog W' 0 (λb=>decide (b<W.heap.size)) true t v d ps:=WideElems.Trod_stays laidOut g f h (λp hp=>i.same<|c p hp) (λp hp=>by simpa using c p hp)
theorem I7(H:Type)(enc:TypeId×Value->H)(F:Stop.Interp)(W:World)(base:Nat)(args:Array Value)(l G:List (DataW H))(before:List MemPlace)(b:∀(j:Nat) t v,Tryz.f4.params[j]?=some t->args[j]?=some v->Value.okWide Tryz.prog W .any base t v)(A:DataW.Whole enc Tryz.prog Tryz.f4.params.toList Rows.allSpec.vars false W args.toList l G before)(S:Rows.uptoSmall H (l++G)=true)(U:laidMet Tryz.prog Ko W):Calls Tryz.prog 4 args W λe W'=>∃ v,e=.returned v/\Rows.allSpec.post enc Tryz.prog Tryz.f4 false true false false W args v W':=by
 have f:=A;obtain⟨p,q,g,T,rfl,a9,a8⟩:=A;have B:DataW.TrodAll enc Tryz.prog W 0 (λ_=>true) true Tryz.f4.params.toList args.toList l p:=g;rw[Tryz.params4] at B b;obtain⟨v0,a7,d0,ae,z,q0,u,rfl,rfl,D,L⟩:=trodAll_cons B;obtain⟨v1,a6,d1,ad,y,q1,rfl,rfl,rfl,C,J⟩:=trodAll_cons L;obtain⟨rfl,rfl,rfl⟩:=trodAll_nil J;obtain rfl:args=#[v0,v1]:=by cases args;simp_all
 obtain⟨rfl,rfl⟩:=trodVars_none T;clear g;have aa:Rows.uptoBulk d0+Rows.uptoBulk d1<=1048576:=by have h:=of_decide_eq_true S;simp only[ZU,Rows.uptoBulkAll,Nat.add_zero] at h;exact h
 have s:=D;have r:=C;obtain⟨rs,rfl⟩:∃ rs,v0=.agg rs:=by have h:=b 0 27 v0 rfl rfl;simp only[Value.okWide,Tryz.underlying27] at h;obtain⟨rs,e,_⟩:=h;exact⟨rs,e⟩
 obtain⟨a1,N,I,rfl⟩:=okWide_slice Tryz.underlying28<|b 1 28 v1 rfl rfl;obtain⟨ac,o⟩:=D;obtain⟨ab,n⟩:=C;obtain⟨q,e0,O⟩:=jdj o (by simp only;omega);obtain⟨M,pc,m,e1,k,R⟩:=jf8 n (by simp only;omega);have Z:Value.slice a1 N I=.slice M m.length pc:=by simpa [Value.cells] using e1
 have Y:rs=q.cells:=by(have X:rs.toList=q.cells.toList:=by simpa [Value.cells] using e0);rw[<-Array.toArray_toList (xs:=rs),X,Array.toArray_toList]
 subst Y;injection Z with x1 x2 x3;subst x1;subst x2;subst x3;obtain⟨E,V⟩:=Va U;have i:=jdi V q O (pc:=I) k R;have d:∀ x∈z++y,x.block<W.heap.size:=λx hx=>f.lt x (by simpa using hx)
 refine i.mono λe W' ⟨he,hkk⟩=>?_
 subst he;have c:=hkk.below;refine⟨_,rfl,_,_,_,[],z++(y++[]),[],f,trodAll_mk1<|shut_bool Tryz.underlying4 _,?_,rfl,c.frame _,λh=>by cases h⟩;rw[Tryz.params4];exact trodAll_cons_mk (again zH (of_decide_eq_true<|by kernel_rfl) s c λx hx=>d x<|by simp[hx])<|trodAll_cons_mk (again zH (of_decide_eq_true<|by kernel_rfl) r c λx hx=>d x<|by simp[hx]) trodAll_mk0
abbrev Aa:Array Value:=#[.agg #[.int .i64 0,.int .i64 0,.int .i64 0,.int .i64 0,.slice none 0 0,.slice none 0 0,.slice none 0 0,.slice none 0 0,.int .i64 0,.int .i64 0,.string ⟨#[]⟩,.string ⟨#[]⟩,.bool false,.slice none 0 0],.slice none 0 0]
theorem I6(os:Os):laidMet Tryz.prog Rows.allUptoRow.laid ((Er Tryz.prog os).forCall (λ_ _=>0) ⟨#[],Aa,[]⟩).memory:=laidMet_of_run' 8 zH zH
theorem Tl(os:Os)(enc:TypeId×Value->H):∃ places,DataW.whole enc Tryz.prog ((Er Tryz.prog os).forCall (λ_ _=>0) ⟨#[],Aa,[]⟩).memory Tryz.f4.params.toList Rows.allSpec.vars false Aa.toList 8=some ([.agg [.lit (.int .i64 0),.lit (.int .i64 0),.lit (.int .i64 0),.lit (.int .i64 0),.nil,.nil,.nil,.nil,.lit (.int .i64 0),.lit (.int .i64 0),.lit (.string []),.lit (.string []),.lit (.bool false),.nil],.nil],[],places):=⟨[],zH⟩
theorem O8(os:Os)(b:os.Started)(H:Type)(enc:TypeId×Value->H)(F:Stop.Interp):ReturnsInHanded {} Tryz.checked os 4 .any ((Rows.OpenSpec.upto Rows.allSpec).preRow enc Tryz.prog Tryz.f4 Rows.allUptoRow.domain false Rows.allUptoRow.laid) (((Rows.OpenSpec.upto Rows.allSpec).at F).post enc Tryz.prog Tryz.f4 false true false false):=by obtain⟨places,f⟩:=Tl os enc;refine returnsInHanded_of_row (C:=Tryz.checked) (s:=Rows.OpenSpec.upto Rows.allSpec) own b zH Tryz.func4 (witness_row_atRef (enc:=enc) (C:=Tryz.checked) false (Er Tryz.prog os) Aa rfl zH zH zH<|OpenSpec.preRow_of_cond 8 f zH (λk hk=>by cases hk;kernel_rfl) zH<|I6 os) ?_;intro W base args l j before d g _ c _ i _ _;exact I7 H enc F W base args l j before d g (c _ rfl) i
theorem Tn:joinedFacts Tryz.prog 4 Tryz.f4 (Rows.OpenSpec.upto Rows.allSpec).bare Rows.allUptoRow=true:=jdx Tz Ty Tx Tw Tv Tu Tt Ts Tr To Px Pw Pv Pu Pt Ps Pr Pp Po Pn Pk Pj Ph Pg Pf Pe Pd Pc zH Pb Pa O9
theorem jab:Rows.AllUptoSaid:=OpenClaim.holds_of_cond 4 Tryz.f4 rfl rfl rfl rfl rfl rfl rfl ⟨rfl,rfl,rfl,rfl,rfl⟩ rfl rfl rfl rfl rfl zH Tryz.func4 Tn (of_decide_eq_true<|by kernel_rfl) (by unfold Func.isWrapper;first|(rw[if_pos (by decide +kernel)];kernel_rfl)|(rw[if_neg (by decide +kernel)];exact⟨rfl,rfl⟩)) (λos started H enc _ F=>by rw[OpenClaim.pre_eq_preRow];exact O8 os started H enc F)
theorem Tm(f:FuncId)(fn:Func)(d:Tryz.pinned.checked.prog.funcNamed "sediment/sedimentlaw.All"=some f)(b:Tryz.pinned.checked.prog.funcs[f]?=some fn):true=Tryz.pinned.checked.prog.looks []/\∀(j:Nat) t,fn.params[j]?=some t->Tryz.pinned.checked.prog.wantsStandIn t=false:=by
 obtain rfl:f=4:=Option.some.inj ((show Tryz.prog.funcNamed "sediment/sedimentlaw.All"=some 4 by kernel_rfl).symm.trans d) |>.symm;obtain rfl:fn=Tryz.f4:=(Option.some.inj<|Tryz.func4.symm.trans b).symm;refine⟨zH,λj t ht=>?_⟩;rw[Tryz.params4] at ht;have c:=Array.mem_of_getElem? ht;simp only[List.mem_toArray,xB,List.not_mem_nil,or_false] at c;obtain rfl|rfl:=c
 .exact(show Tryz.prog.wantsStandIn 27=false by kernel_rfl)
 .exact(show Tryz.prog.wantsStandIn 28=false by kernel_rfl)
theorem jdh:Rows.allUptoRow.laidByTextAt .later Tryz.pinned [.data,.data,.data,.sentinel,.sentinel,.sentinel,.sentinel,.sentinel,.sentinel,.sentinel] true:=OpenClaim.laidByTextAt_later rfl rfl (Program.laidByTextLater_by_one 157 8 65 zH zH zH zH zH zH λ_ _=>zH) zH
theorem all_card:Rows.AllUptoCardSaid:=Claim7.holds_tied_plain_at .later [] _ _ _ _ jab (λ_ h=>by cases h) zH (λ_ h=>by cases h) jdh rfl ⟨rfl,rfl⟩ zH rfl Tm zH
#print axioms all_card

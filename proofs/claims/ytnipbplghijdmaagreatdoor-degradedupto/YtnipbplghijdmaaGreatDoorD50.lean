/-
  Degraded (sedimentkeep; the document's P8: behind a call in which the disk failed nothing changes the disk any more, whatever is called; Get and Scan go on; opened again it goes on): it returns true for every script, call and last step of bulk at most 1048576 in all, which read as they did. The card over the row.
-/
import Derived.Test.YtnipbplghijdmaaGreatDoorCards
import Derived.SevenTiedAt
import Derived.LaidSub
import Derived.LaidOnce
import Derived.Deep.DeepWitnessRowRef
import Derived.Test.YtnipbplghijdmaaGreatDoorD36
import Derived.Test.YtnipbplghijdmaaGreatDoorD37
import Derived.Test.YtnipbplghijdmaaGreatDoorD49
set_option maxRecDepth 100000
set_option linter.unusedVariables false
set_option linter.unusedSimpArgs false
namespace Go.Proofs.YtnipbplghijdmaaGreatDoor
open Go.ChangeShapes Go.WideShapes Go.ChangeAt Go.RowKit Go.ChangeMaps
variable {H:Type}
theorem own:ownKnob Tryz.prog.godebug=none:=by kernel_rfl
theorem laidOut:laidOutB Tryz.prog=true:=by kernel_rfl
theorem ja.below{w w':World}(h:ja w w' (fun _=>False)):Below w.heap.size w w':=⟨h.os,h.tape,h.output,h.size,fun k hk=>h.block k hk id⟩
theorem again{enc:TypeId×Value->H}{W g:World}{t:TypeId}{v:Value}{d:DataW H}{ps:List MemPlace}(i:Tryz.prog.readableRec t=true)(f:t<Tryz.prog.types.size)(h:DataW.Trod enc Tryz.prog W 0 (fun _=>true) true t v d ps)(j:Below W.heap.size W g)(c:∀ x∈ps,x.block<W.heap.size) :
 DataW.Trod enc Tryz.prog g 0 (fun b=>decide (b<W.heap.size)) true t v d ps :=
 WideElems.Trod_stays laidOut i f h (fun p hp=>j.same (c p hp)) (fun p hp=>by simpa using c p hp)
theorem A8(H:Type)(enc:TypeId×Value->H)(F:Stop.Interp)(W:World)(base:Nat)(args:Array Value)(ds U:List (DataW H))(before:List MemPlace)(b:∀(j:Nat) t v,Tryz.f9.params[j]?=some t->args[j]?=some v->Value.okWide Tryz.prog W .any base t v)(M:DataW.Whole enc Tryz.prog Tryz.f9.params.toList Rows.degradedSpec.vars false W args.toList ds U before)(hk:Rows.uptoSmall H (ds++U)=true)(hL:laidMet Tryz.prog Hp W) :
 Calls Tryz.prog 9 args W fun e W'=>∃ v,e = .returned v/\Rows.degradedSpec.post enc Tryz.prog Tryz.f9 false true false false W args v W':=by
 have g:=M;obtain⟨p,q,i,hV,rfl,am,al⟩:=M;have O:DataW.TrodAll enc Tryz.prog W 0 (fun _=>true) true Tryz.f9.params.toList args.toList ds p:=i;rw[Tryz.params9] at O b;obtain⟨G,ak,d0,aw,L,q0,C,rfl,rfl,T,r0⟩:=trodAll_cons O;obtain⟨D,aj,X,av,J,q1,rfl,rfl,rfl,S,r1⟩:=trodAll_cons r0;obtain⟨m,ai,V,au,I,q2,rfl,rfl,rfl,R,r2⟩:=trodAll_cons r1;obtain⟨rfl,rfl,rfl⟩:=trodAll_nil r2;obtain rfl:args=#[G,D,m]:=by cases args;simp_all
 obtain⟨rfl,rfl⟩:=trodVars_none hV;clear i
 have an:Rows.uptoBulk d0+(Rows.uptoBulk X+Rows.uptoBulk V)<=1048576:=by
  have h:=of_decide_eq_true hk;simp only[ZC,Rows.uptoBulkAll,Nat.add_zero] at h;exact h
 have B:=T;have z:=S;have y:=R;obtain⟨a0,l0,Y,rfl⟩:=okWide_slice Tryz.underlying69 (b 0 69 G rfl rfl);obtain⟨n1,rfl,_,_,Z⟩:=open_int Tryz.underlying3 (b 1 3 D rfl rfl) S
 obtain⟨rs,rfl⟩:∃ rs,m = .agg rs:=by
  have h:=b 2 73 m rfl rfl;simp only[Value.okWide,Tryz.underlying73] at h;obtain⟨rs,e,_⟩:=h;exact⟨rs,e⟩
 obtain⟨ar,u⟩:=T;obtain⟨aq,s⟩:=R;have ap:=Yf X;have ao:=Yf V;obtain⟨pp,pc,n,e0,l,hn,o⟩:=Rs u (by simp only;omega);simp only at o;obtain⟨c,e2,r,_⟩:=An s (by simp only;omega);have e3:Value.slice a0 l0 Y = .slice pp n.length pc:=by simpa [Value.cells] using e0
 have e5:rs=c.row:=by
  have e6:rs.toList=[.int .i64 c.kd,.int .i64 c.A,.int .i64 c.N,c.kv,.int .i64 c.fa,.int .i64 c.ct,c.cv]:=by simpa [Value.cells] using e2
  rw[<-Array.toArray_toList (xs:=rs),e6]
 subst e5;injection e3 with x1 x2 x3;subst x1;subst x2;subst x3;obtain⟨E,hE⟩:=Te hL;have k:=Ot hE (zJ _) (pc:=Y) l (by omega) n1 (bounds_i64 Z) c r;have f:∀ x∈L++(J++I),x.block<W.heap.size:=fun x hx=>g.lt x (by simpa using hx);refine k.mono fun e W' ⟨he,hkk⟩=>?_;subst he;have d:=hkk.below;refine⟨_,rfl,_,_,_,[],L++(J++(I++[])),[],g,trodAll_mk1 (shut_bool Tryz.underlying4 _),?_,rfl,d.frame _,fun h=>by cases h⟩;rw[Tryz.params9]
 exact trodAll_cons_mk (again (by kernel_rfl) (of_decide_eq_true (by kernel_rfl)) B d (fun x hx=>f x (by simp[hx])))
  (trodAll_cons_mk (again (by kernel_rfl) (of_decide_eq_true (by kernel_rfl)) z d (fun x hx=>f x (by simp[hx])))
  (trodAll_cons_mk (again (by kernel_rfl) (of_decide_eq_true (by kernel_rfl)) y d (fun x hx=>f x (by simp[hx]))) trodAll_mk0))
abbrev de:Array Value:=#[.slice none 0 0,.int .i64 0,.agg #[.int .i64 0,.int .i64 0,.int .i64 0,.slice none 0 0,.int .i64 0,.int .i64 0,.slice none 0 0]]
theorem A7(os:Os):laidMet Tryz.prog Rows.degradedUptoRow.laid ((B4 Tryz.prog os).forCall (fun _ _=>0) ⟨#[],de,[]⟩).memory :=
 laidMet_of_run' 8 (by kernel_rfl) (by kernel_rfl)
theorem Im(os:Os)(enc:TypeId×Value->H):∃ places,DataW.whole enc Tryz.prog ((B4 Tryz.prog os).forCall (fun _ _=>0) ⟨#[],de,[]⟩).memory Tryz.f9.params.toList Rows.degradedSpec.vars false de.toList 8=some ([.nil,.lit (.int .i64 0),.agg [.lit (.int .i64 0),.lit (.int .i64 0),.lit (.int .i64 0),.nil,.lit (.int .i64 0),.lit (.int .i64 0),.nil]],[],places) :=
 ⟨[],by kernel_rfl⟩
theorem Dy(os:Os)(b:os.Started)(H:Type)(enc:TypeId×Value->H)(F:Stop.Interp) :
 ReturnsInHanded {} Tryz.checked os 9 .any ((Rows.OpenSpec.upto Rows.degradedSpec).preRow enc Tryz.prog Tryz.f9 Rows.degradedUptoRow.domain false Rows.degradedUptoRow.laid) (((Rows.OpenSpec.upto Rows.degradedSpec).at F).post enc Tryz.prog Tryz.f9 false true false false):=by
 obtain⟨places,f⟩:=Im os enc
 refine returnsInHanded_of_row (C:=Tryz.checked) (s:=Rows.OpenSpec.upto Rows.degradedSpec) own b (by kernel_rfl) Tryz.func9
  (witness_row_atRef (enc:=enc) (C:=Tryz.checked) false (B4 Tryz.prog os) de rfl (by kernel_rfl) (by kernel_rfl) (by kernel_rfl)
   (OpenSpec.preRow_of_cond 8 f (by kernel_rfl) (fun k hk=>by cases hk;kernel_rfl) (by kernel_rfl) (A7 os))) ?_
 intro W base args ds j before d g _ c _ i _ _;exact A8 H enc F W base args ds j before d g (c _ rfl) i
theorem Ip:joinedFacts Tryz.prog 9 Tryz.f9 (Rows.OpenSpec.upto Rows.degradedSpec).bare Rows.degradedUptoRow=true :=
 jbo I0 Iz Iy Iw Iv Iu It Is Ir Iq Eu Et Es Er Ep Eo En Em Ek Ej Ei Eh Eg Ef Ee Ed Ec Eb (by kernel_rfl) Ea D0 Dz
theorem Lo:Rows.DegradedUptoSaid :=
 OpenClaim.holds_of_cond 9 Tryz.f9 rfl rfl rfl rfl rfl rfl rfl ⟨rfl,rfl,rfl,rfl,rfl⟩ rfl rfl rfl rfl rfl (by kernel_rfl) Tryz.func9 Ip
  (of_decide_eq_true (by kernel_rfl)) (by unfold Func.isWrapper;first|(rw[if_pos (by decide +kernel)];kernel_rfl)|(rw[if_neg (by decide +kernel)];exact⟨rfl,rfl⟩))
  (fun os started H enc _ F=>by rw[OpenClaim.pre_eq_preRow];exact Dy os started H enc F)
theorem Io(f:FuncId)(fn:Func)(d:Tryz.pinned.checked.prog.funcNamed "sediment/sedimentkeep.Degraded"=some f)(b:Tryz.pinned.checked.prog.funcs[f]?=some fn) :
 true=Tryz.pinned.checked.prog.looks []/\∀(j:Nat) t,fn.params[j]?=some t->Tryz.pinned.checked.prog.wantsStandIn t=false:=by
 obtain rfl:f=9:=Option.some.inj ((show Tryz.prog.funcNamed "sediment/sedimentkeep.Degraded"=some 9 by kernel_rfl).symm.trans d) |>.symm
 obtain rfl:fn=Tryz.f9:=(Option.some.inj (Tryz.func9.symm.trans b)).symm;refine⟨by kernel_rfl,fun j t ht=>?_⟩;rw[Tryz.params9] at ht;have c:=Array.mem_of_getElem? ht;simp only[List.mem_toArray,zF,XJ,or_false] at c;rcases c with rfl|rfl|rfl
 ·exact(show Tryz.prog.wantsStandIn 69=false by kernel_rfl)
 ·exact(show Tryz.prog.wantsStandIn 3=false by kernel_rfl)
 ·exact(show Tryz.prog.wantsStandIn 73=false by kernel_rfl)
theorem Oq:Rows.degradedUptoRow.laidByTextAt .later Tryz.pinned [.data,.data,.data,.sentinel,.sentinel,.sentinel,.sentinel,.sentinel,.sentinel,.sentinel] true :=
 OpenClaim.laidByTextAt_later rfl rfl (Program.laidByTextLater_by_one 157 8 65 (by kernel_rfl) (by kernel_rfl) (by kernel_rfl) (by kernel_rfl) (by kernel_rfl) (by kernel_rfl) (fun _ _=>by kernel_rfl)) (by kernel_rfl)
theorem degraded_card:Rows.DegradedUptoCardSaid :=
 Claim7.holds_tied_plain_at .later [] _ _ _ _ Lo (fun _ h=>by cases h) (by kernel_rfl) (fun _ h=>by cases h) Oq rfl ⟨rfl,rfl⟩ (by kernel_rfl) rfl Io (by kernel_rfl)
#print axioms degraded_card
end Go.Proofs.YtnipbplghijdmaaGreatDoor

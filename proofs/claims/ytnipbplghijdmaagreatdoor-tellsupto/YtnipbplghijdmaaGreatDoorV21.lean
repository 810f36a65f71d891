/-
  V: Iter.
-/
import Derived.RangeFuncNested
import Derived.Test.YtnipbplghijdmaaGreatDoorV02
set_option linter.unusedVariables false
set_option linter.unusedSimpArgs false
namespace Go.Proofs.YtnipbplghijdmaaGreatDoor
open RowKit Maps
variable {n₀:Nat} {C T:Nat->Prop} {A B:World}
def Aside(n₀:Nat)(T C:Nat->Prop)(A B:World):Prop:=ja A B (fun i=>T i\/(n₀<=i/\¬C i))
theorem fi{U:Nat->Prop}(h:ja A B U)(b:∀ i,i<A.heap.size->U i->T i\/(n₀<=i/\¬C i)):Aside n₀ T C A B:=h.mono b
theorem Qz(h:ja A B (fun _=>False)):Aside n₀ T C A B:=h.up
def I6{α:Type}(F:Fence)(n:Nat)(P:Program)(g:Nat)(rv lb:Array Value)(encs:α->Array Value)(T Needs:Nat->Prop)(Start:World->Prop)(Can:List α->α->World->Prop)(Fin Ld:List α->World->Prop):Prop :=
 ∀(l n₀:Nat) (J Jx:List α->(Nat->Prop)->World->Prop),
  (∀ pre C A B,J pre C A->Aside n₀ T C A B->J pre C B) ->
  (∀ pre x C W1,J pre C W1->(∀ i,C i->i<W1.heap.size)->Can pre x W1->YieldAt F (n-1) P l (encs x) W1 fun e W' =>
   ∃ C':Nat->Prop,(∀ i,C' i->C i\/W1.heap.size<=i)/\(∀ i,C' i->i<W'.heap.size)/\ja W1 W' C /\
    ((e = .returned (.bool true)/\J (pre++[x]) C' W')\/(e = .returned (.bool false)/\Jx (pre++[x]) C' W'))) ->
  ∀(C:Nat->Prop) (W:World),(∀ i,C i->i<W.heap.size)->(∀ i,C i->¬T i/\¬Needs i)->n₀<=W.heap.size->Start W->J [] C W ->
   CallsIn F n P g (rv++#[.func (.yield l) #[] #[]]++lb) W fun e W'=>∃ C':Nat->Prop,(∀ i,C' i->C i\/W.heap.size<=i)/\(∀ i,C' i->i<W'.heap.size)/\(∃ v,e = .returned v) /\
    ((∃ xs,Fin xs W'/\J xs C' W')\/(∃ pre,Ld pre W'/\Jx pre C' W'))
def jgz{α:Type}(I:List α->(Nat->Prop)->World->Prop)(Ix:Code->List α->(Nat->Prop)->World->Prop)(xs:List α)(C:Nat->Prop)(n:Nat)(W:World):Exit->Act->World->Prop
 | .normal,_,W'=>∃ C':Nat->Prop,(∀ i,C' i->C i\/n<=i)/\(∀ i,C' i->i<W'.heap.size)/\ja W W' C/\I xs C' W'
 | .ret,_,W'=>∃ C':Nat->Prop,(∀ i,C' i->C i\/n<=i)/\(∀ i,C' i->i<W'.heap.size)/\ja W W' C/\Ix .ret xs C' W'
 | .exit id,_,W'=>∃ C':Nat->Prop,(∀ i,C' i->C i\/n<=i)/\(∀ i,C' i->i<W'.heap.size)/\ja W W' C/\Ix (.exit id) xs C' W'
 | .goto t,_,W'=>∃ C':Nat->Prop,(∀ i,C' i->C i\/n<=i)/\(∀ i,C' i->i<W'.heap.size)/\ja W W' C/\Ix (.goto t) xs C' W'
 | .panic _,_,_=>False
 | .outgrown,_,_=>False
theorem ja.putObj(W:World)(l:Nat)(o:Obj):ja W (W.putObj l o) (fun i=>i=l) :=
 ⟨rfl,rfl,rfl,by simp,fun k _ hk=>World.putObj_heap_other hk⟩
theorem dh{α:Type}{F:Fence}{n:Nat}{P:Program}{g:Operand}{ps:Array Tmp}{assign body:Code}{Q:Exit->Act->World->Prop}{a:Act}{w:World}(aw:F.round=none)(h1:1<=n){gf:Nat}{rv lb:Array Value}(hg:a.eval g = .func (.func gf) rv lb)(b4:F.fn gf)(eg:∀ args w,(callFunc gf args).run P w = .ok (.enter gf args) w){L:α->Array Value}{Needs:Nat->Prop}{Start:World->Prop}{ak:List α->α->World->Prop}{aj Ld:List α->World->Prop}(al:I6 F (n-1) P gf rv lb L T Needs Start ak aj Ld)(ax:∀ x,(L x).size=ps.size)(hT:∀ i,T i->i<w.heap.size)(hN:∀ i,Needs i->i<w.heap.size)(a2:∀ W1,ja w W1 (fun _=>False)->Start W1)(I:List α->(Nat->Prop)->World->Prop)(Ix:Code->List α->(Nat->Prop)->World->Prop)(hI:∀ b C A B,I b C A->Aside w.heap.size T C A B->I b C B)(S:∀ c b C A B l r,Ix c b C A->w.heap.size<=l->¬C l->A.heap[l]?=some (.loop r)->ja A B (fun i=>i=l)->Ix c b C B)(J:Nat->Prop)(U:∀ i,J i->i<w.heap.size/\¬T i/\¬Needs i)(h0:I [] J w)(M:∀(l:Nat) (b:List α) (x:α) (C:Nat->Prop) (W:World),w.heap.size<=l->(∃ r,W.heap[l]?=some (.loop r))->¬C l->(∀ i,C i->i<W.heap.size)->I b C W->ak b x W ->
 assign.wpIn (F.inRound l) (n-1-1) P (Exit.then (fun a' W'=>ja W W' (fun _=>False)/\∀ W2,ja W' W2 (fun i=>i=l)->I b C W2->body.wpIn (F.inRound l) (n-1-1) P (jgz I Ix (b++[x]) C W.heap.size W2) a' W2) (fun _ _ _=>False))
  { tmps:=(ps.zip (L x)).foldl (fun t (p,v)=>t.setIfInBounds p v) a.tmps,defers:=[] } W)(hdone:∀(D l:Nat) (C:Nat->Prop) (xs:List α) (W2 W:World),w.heap.size<=D->w.heap.size<=l->D≠l->¬C D->¬C l->aj xs W2->ja W2 W (fun i=>i=l)->I xs C W->W.heap[D]?=some (.deferred (some [])) ->
 Q .normal { a with defers:={ target:= .collected D,args:=#[] }::a.defers } W)(hstop:∀(D l:Nat) (C:Nat->Prop) (c:Code) (b:List α) (W2 W:World),w.heap.size<=D->w.heap.size<=l->D≠l->¬C D->¬C l->Ld b W2->ja W2 W (fun i=>i=l)->Ix c b C W->W.heap[D]?=some (.deferred (some [])) ->
 c.wpIn F n P Q { a with defers:={ target:= .collected D,args:=#[] }::a.defers } W) :
 (Code.rangeFunc g ps assign body).wpIn F n P Q a w:=by
 refine wpIn_rangeFunc ?_;intro fn az;rw[aw];obtain⟨D,hD⟩:∃ D,w.heap.size=D:=⟨_,rfl⟩;obtain⟨d,f⟩:∃ d:LoopState->Option Code->Loop,d=fun st pe=>{ state:=st,pending:=pe,fn,tmps:=a.tmps,params:=ps,assign,body,defers:=w.heap.size }:=⟨_,rfl⟩;obtain⟨W1,a0⟩:∃ W1,(w.alloc (.deferred (some []))).alloc (.loop (d .ready none))=W1:=⟨_,rfl⟩;have Z:ja w W1 (fun _=>False):=by rw[<-a0];exact(ja.alloc w _ _).more _
 have ac:W1.heap[w.heap.size+1]?=some (.loop (d .ready none)):=by
  rw[<-a0];have:=World.alloc_heap_new (w.alloc (.deferred (some []))) (.loop (d .ready none));rwa [zK] at this
 have ad:W1.heap[w.heap.size]?=some (.deferred (some [])):=by
  rw[<-a0];exact(Below.heap_alloc _ _ _ (by simp)).trans (World.alloc_heap_new w _)
 refine⟨w.heap.size+1,[{ target:= .collected w.heap.size,args:=#[] }],W1,{ target:= .fn (.func gf) lb,args:=rv++#[.func (.yield (w.heap.size+1)) #[] #[]] },W1,gf,
  rv++#[.func (.yield (w.heap.size+1)) #[] #[]]++lb,W1,?_,?_,?_,?_,fun _=>h1,?_⟩
 ·rw[<-a0,f];exact run_enterLoop_outer _ _ _ _ _
 ·simp only[resolve,hg]
  simp[go_sem]
 ·intro f' ai;simp[Target.leads] at ai;subst ai;exact b4
 ·simp[invoke,go_sem,eg]
 rw[hD] at hT hN hI S U M hdone hstop ac ad f ⊢;have V:∀ {C:Nat->Prop} {A B:World} (h:¬C (D+1)) (k:ja A B (fun i=>i=D+1)),Aside D T C A B:=fun h k=>fi k (fun i _ e=> .inr ⟨by rw[e];omega,by rw[e];exact h⟩);have b6:∀ {C:Nat->Prop} {A B:World},Aside D T (fun i=>C i\/i=D\/i=D+1) A B->Aside D T C A B:=fun k=>fi k (fun i _ h=>h.imp id (fun h=>⟨h.1,fun hc=>h.2 (.inl hc)⟩));have out:∀ {C:Nat->Prop} {i:Nat},D<=i->C i->¬(T i\/(D<=i/\¬C i)):=fun X hc h=>h.elim (fun h=>by have:=hT _ h;omega) (fun h=>h.2 hc)
 refine(al (D+1) D
  (fun b C W=>∃ J:Nat->Prop,(∀ i,C i↔J i\/i=D\/i=D+1)/\¬J D/\¬J (D+1)/\I b J W/\W.heap[D+1]?=some (.loop (d .ready none))/\W.heap[D]?=some (.deferred (some [])))
  (fun b C W=>∃(J:Nat->Prop) (c:Code),(∀ i,C i↔J i\/i=D\/i=D+1)/\¬J D/\¬J (D+1)/\Ix c b J W/\W.heap[D+1]?=some (.loop (d .done (some c)))/\W.heap[D]?=some (.deferred (some [])))
  ?_ ?_ (fun i=>J i\/i=D\/i=D+1) W1 ?_ ?_ ?_ (a2 W1 Z) ?_).mono ?_
 ·rintro b C A B ⟨E,H,n1,u,X,O,hd⟩ hk
  refine⟨E,H,n1,u,hI _ _ _ _ X (fi hk (fun i _ h=>h.imp id (fun h=>⟨h.1,fun hc=>h.2 ((H i).2 (.inl hc))⟩))),?_,?_⟩
  ·exact ja.same hk O (out (by omega) ((H _).2 (.inr (.inr rfl))))
  ·exact ja.same hk hd (out (ZQ _) ((H _).2 (.inr (.inl rfl))))
 ·rintro b x C W ⟨E,H,n1,u,X,O,hd⟩ b3 an;have bf:D+1<W.heap.size:=(Array.getElem?_eq_some_iff.1 O).1;have hy:=run_yield (P:=P) (args:=L x) O (by rw[f];exact ax x);rw[f] at hy;refine⟨fn,_,assign,body,hy,roundIn_of_wpIn az (wpIn_mono (M (D+1) b x E W (by omega) ⟨_,O⟩ u (fun i h=>b3 i ((H i).2 (.inl h))) X an) ?_)⟩;clear hy;rintro e a' Wa N
  cases e with
  | normal =>
   obtain⟨ka,hb⟩:=N;have ag:=ka.same O (fun h=>h);have b0:=ka.same hd (fun h=>h);have am:D+1<Wa.heap.size:=zC ag;refine⟨_,run_beginRound ag (by rw[f]),?_⟩;have kb:=ja.putObj Wa (D+1) (.loop { d .ready none with state:= .busy });have Y:(Wa.putObj (D+1) (.loop { d .ready none with state:= .busy })).heap[D+1]?=some (.loop { d .ready none with state:= .busy }):=World.putObj_heap_same am;have b2:=kb.same b0 (by omega);have ay:=hI _ _ _ _ (hI _ _ _ _ X (Qz ka)) (V u kb);refine wpIn_mono (hb _ kb ay) ?_
   have a1:∀(jump:Option Code) (o:World),ja (Wa.putObj (D+1) (.loop { d .ready none with state:= .busy })) o E ->
    (Instr.endRound (D+1) jump).run P o = .ok (.bool jump.isNone) (o.putObj (D+1) (.loop (d (if jump.isNone then .ready else .done) jump))) /\
    (o.putObj (D+1) (.loop (d (if jump.isNone then .ready else .done) jump))).heap[D+1]?=some (.loop (d (if jump.isNone then .ready else .done) jump)) /\
    (o.putObj (D+1) (.loop (d (if jump.isNone then .ready else .done) jump))).heap[D]?=some (.deferred (some [])) /\
    ja W (o.putObj (D+1) (.loop (d (if jump.isNone then .ready else .done) jump))) C:=fun jump o q=>by
    have ah:=q.same Y u
    have b1:=q.same b2 n1
    have he:=run_endRound (P:=P) jump ah
    have kc:=ja.putObj o (D+1) (.loop (d (if jump.isNone then .ready else .done) jump))
    refine⟨by rw[he,f],World.putObj_heap_same (zC ah),kc.same b1 (by omega),?_⟩
    exact(((ka.up).trans kb (fun i _ e=>(H i).2 (.inr (.inr e)))).trans q (fun i _ h=>(H i).2 (.inl h))).trans kc (fun i _ e=>(H i).2 (.inr (.inr e)))
   have grow:∀(s:Nat->Prop) (jump:Option Code) (o:World),ja (Wa.putObj (D+1) (.loop { d .ready none with state:= .busy })) o E->(∀ i,s i->E i\/W.heap.size<=i)->(∀ i,s i->i<o.heap.size) ->
    (∀ i,(s i\/i=D\/i=D+1)->C i\/W.heap.size<=i)/\(∀ i,(s i\/i=D\/i=D+1)->i<(o.putObj (D+1) (.loop (d (if jump.isNone then .ready else .done) jump))).heap.size)/\¬s D/\¬s (D+1):=fun s jump o q j m=>by
    have be:Wa.heap.size<=o.heap.size:=by have:=q.size;simpa using this
    refine⟨fun i h=>?_,fun i h=>?_,fun h=>?_,fun h=>?_⟩
    ·rcases h with h|h|h
     ·exact(j i h).imp (fun h=>(H i).2 (.inl h)) id
     ·exact .inl ((H i).2 (.inr (.inl h)))
     ·exact .inl ((H i).2 (.inr (.inr h)))
    ·simp only[World.putObj_size]
     rcases h with h|h|h
     ·exact m i h
     ·omega
     ·omega
    ·rcases j _ h with h|h
     ·exact n1 h
     ·omega
    ·rcases j _ h with h|h
     ·exact u h
     ·omega
   rintro e a3 o N
   cases e with
   | normal =>
    obtain⟨s,j,m,q,z⟩:=N;obtain⟨hr,y,G,k4⟩:=a1 none o q;obtain⟨g1,g2,g3,R⟩:=grow s none o q j m;exact⟨_,_,hr,_,g1,g2,k4,.inl ⟨rfl,s,fun _=>Iff.rfl,g3,R,hI _ _ _ _ z (V R (ja.putObj o _ _)),y,G⟩⟩
   | ret =>
    obtain⟨s,j,m,q,z⟩:=N;obtain⟨hr,y,G,k4⟩:=a1 (some .ret) o q;obtain⟨g1,g2,g3,R⟩:=grow s (some .ret) o q j m;exact⟨_,_,hr,_,g1,g2,k4,.inr ⟨rfl,s,.ret,fun _=>Iff.rfl,g3,R,S _ _ _ _ _ _ _ z (by omega) R (q.same Y u) (ja.putObj o _ _),y,G⟩⟩
   | exit id =>
    obtain⟨s,j,m,q,z⟩:=N;obtain⟨hr,y,G,k4⟩:=a1 (some (.exit id)) o q;obtain⟨g1,g2,g3,R⟩:=grow s (some (.exit id)) o q j m;exact⟨_,_,hr,_,g1,g2,k4,.inr ⟨rfl,s,.exit id,fun _=>Iff.rfl,g3,R,S _ _ _ _ _ _ _ z (by omega) R (q.same Y u) (ja.putObj o _ _),y,G⟩⟩
   | goto t =>
    obtain⟨s,j,m,q,z⟩:=N;obtain⟨hr,y,G,k4⟩:=a1 (some (.goto t)) o q;obtain⟨g1,g2,g3,R⟩:=grow s (some (.goto t)) o q j m;exact⟨_,_,hr,_,g1,g2,k4,.inr ⟨rfl,s,.goto t,fun _=>Iff.rfl,g3,R,S _ _ _ _ _ _ _ z (by omega) R (q.same Y u) (ja.putObj o _ _),y,G⟩⟩
   | panic ch=>exact N.elim
   | outgrown=>exact N.elim
  | ret=>exact N.elim
  | exit id=>exact N.elim
  | goto t=>exact N.elim
  | panic ch=>exact N.elim
  | outgrown=>exact N.elim
 ·intro i h
  have:=Z.size;rcases h with h|h|h
  ·have:=(U i h).1;omega
  ·have:=zC ad;omega
  ·have:=zC ac;omega
 ·intro i h
  rcases h with h|h|h
  ·exact(U i h).2
  ·subst h;exact⟨fun h=>by have:=hT _ h;omega,fun h=>by have:=hN _ h;omega⟩
  ·subst h;exact⟨fun h=>by have:=hT _ h;omega,fun h=>by have:=hN _ h;omega⟩
 ·have:=Z.size;omega
 ·exact⟨J,fun _=>Iff.rfl,fun h=>by have:=(U _ h).1;omega,fun h=>by have:=(U _ h).1;omega,hI _ _ _ _ h0 (Qz Z),ac,ad⟩
 ·rintro e W2 ⟨s,_,_,⟨v,rfl⟩,(⟨xs,hS,E,H,n1,u,X,O,hd⟩|⟨b,hS,E,c,H,n1,u,X,O,hd⟩)⟩
  ·have kb:=ja.putObj W2 (D+1) (.loop { d .ready none with state:= .exhausted })
   refine⟨none,_,by have:=run_endLoop (P:=P) O (by rw[f];simp);rw[f] at this;exact this,?_⟩;have:=hdone D (D+1) E xs W2 _ (ZQ _) (by omega) (by omega) n1 u hS kb (hI _ _ _ _ X (V u kb)) (kb.same hd (by omega));rw[f] at this;exact this
  ·have kb:=ja.putObj W2 (D+1) (.loop { d .done (some c)with state:= .exhausted })
   refine⟨some c,_,by have:=run_endLoop (P:=P) O (by rw[f];simp);rw[f] at this;exact this,?_⟩;have:=hstop D (D+1) E c b W2 _ (ZQ _) (by omega) (by omega) n1 u hS kb (S _ _ _ _ _ _ _ X (by omega) u O kb) (kb.same hd (by omega));rw[f] at this;exact this
end Go.Proofs.YtnipbplghijdmaaGreatDoor

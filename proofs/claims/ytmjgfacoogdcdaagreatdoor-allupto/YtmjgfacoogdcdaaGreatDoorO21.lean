/-
-/
import Derived.RangeFuncNested
import Derived.Test.YtmjgfacoogdcdaaGreatDoorO02
set_option linter.all false
namespace Go.Proofs.YtmjgfacoogdcdaaGreatDoor
open RowKit Maps
variable {n₀:Nat} {C T:Nat->Prop} {A B:World}
def Aside(n₀:Nat)(T C:Nat->Prop)(A B:World):Prop:=ja A B (λi=>T i\/(n₀<=i/\¬C i))
theorem iq{U:Nat->Prop}(h:ja A B U)(b:∀ i,i<A.heap.size->U i->T i\/(n₀<=i/\¬C i)):Aside n₀ T C A B:=h.mono b
theorem Qk(h:ja A B No):Aside n₀ T C A B:=h.up
def Gn{α:Type}(F:Fence)(n:Nat)(P:Program)(g:Nat)(rv lb:Array Value)(encs:α->Array Value)(T Needs:Nat->Prop)(Start:World->Prop)(Can:List α->α->World->Prop)(Fin Lw:List α->World->Prop):Prop :=
 ∀(l n₀:Nat) (J Jx:List α->(Nat->Prop)->World->Prop),
  (∀ pre C A B,J pre C A->Aside n₀ T C A B->J pre C B) ->
  (∀ pre x C W1,J pre C W1->(∀ i,C i->i<W1.heap.size)->Can pre x W1->YieldAt F (n-1) P l (encs x) W1 λe W' =>
   ∃ C':Nat->Prop,(∀ i,C' i->C i\/W1.heap.size<=i)/\(∀ i,C' i->i<W'.heap.size)/\ja W1 W' C /\
    ((e=.returned (.bool true)/\J (pre++[x]) C' W')\/(e=.returned (.bool false)/\Jx (pre++[x]) C' W'))) ->
  ∀(C:Nat->Prop) (W:World),(∀ i,C i->i<W.heap.size)->(∀ i,C i->¬T i/\¬Needs i)->n₀<=W.heap.size->Start W->J [] C W ->
   CallsIn F n P g (rv++#[.func (.yield l) #[] #[]]++lb) W λe W'=>∃ C':Nat->Prop,(∀ i,C' i->C i\/W.heap.size<=i)/\(∀ i,C' i->i<W'.heap.size)/\(∃ v,e=.returned v) /\
    ((∃ xs,Fin xs W'/\J xs C' W')\/(∃ pre,Lw pre W'/\Jx pre C' W'))
def jlo{α:Type}(I:List α->(Nat->Prop)->World->Prop)(Ix:Code->List α->(Nat->Prop)->World->Prop)(xs:List α)(C:Nat->Prop)(n:Nat)(W:World):Exit->Act->World->Prop
 | .normal,_,W'=>∃ C':Nat->Prop,(∀ i,C' i->C i\/n<=i)/\(∀ i,C' i->i<W'.heap.size)/\ja W W' C/\I xs C' W'
 | .ret,_,W'=>∃ C':Nat->Prop,(∀ i,C' i->C i\/n<=i)/\(∀ i,C' i->i<W'.heap.size)/\ja W W' C/\Ix .ret xs C' W'
 | .exit id,_,W'=>∃ C':Nat->Prop,(∀ i,C' i->C i\/n<=i)/\(∀ i,C' i->i<W'.heap.size)/\ja W W' C/\Ix (.exit id) xs C' W'
 | .goto t,_,W'=>∃ C':Nat->Prop,(∀ i,C' i->C i\/n<=i)/\(∀ i,C' i->i<W'.heap.size)/\ja W W' C/\Ix (.goto t) xs C' W'
 | .panic _,_,_=>False
 | .outgrown,_,_=>False
theorem ja.putObj(W:World)(l:Nat)(o:Obj):ja W (W.putObj l o) (λi=>i=l):=⟨rfl,rfl,rfl,zD,λk _ hk=>World.putObj_heap_other hk⟩
theorem gh{α:Type}{F:Fence}{n:Nat}{P:Program}{g:Operand}{ps:Array Tmp}{assign body:Code}{Q:Exit->Act->World->Prop}{a:Act}{w:World}(aq:F.round=none)(h1:1<=n){gf:Nat}{rv lb:Array Value}(hg:a.eval g=.func (.func gf) rv lb)(bd:F.fn gf)(eg:∀ args w,(callFunc gf args).run P w=.ok (.enter gf args) w){J:α->Array Value}{Needs:Nat->Prop}{Start:World->Prop}{ai:List α->α->World->Prop}{ah Lw:List α->World->Prop}(aj:Gn F (n-1) P gf rv lb J T Needs Start ai ah Lw)(ar:∀ x,(J x).size=ps.size)(hT:∀ i,T i->i<w.heap.size)(hN:∀ i,Needs i->i<w.heap.size)(Y:∀ W1,ja w W1 No->Start W1)(I:List α->(Nat->Prop)->World->Prop)(Ix:Code->List α->(Nat->Prop)->World->Prop)(hI:∀ b C A B,I b C A->Aside w.heap.size T C A B->I b C B)(U:∀ c b C A B l r,Ix c b C A->w.heap.size<=l->¬C l->A.heap[l]?=some (.loop r)->ja A B (λi=>i=l)->Ix c b C B)(H:Nat->Prop)(a9:∀ i,H i->i<w.heap.size/\¬T i/\¬Needs i)(h0:I [] H w)(L:∀(l:Nat) (b:List α) (x:α) (C:Nat->Prop) (W:World),w.heap.size<=l->(∃ r,W.heap[l]?=some (.loop r))->¬C l->(∀ i,C i->i<W.heap.size)->I b C W->ai b x W->assign.wpIn (F.inRound l) (n-1-1) P (Exit.then (λa' W'=>ja W W' No/\∀ W2,ja W' W2 (λi=>i=l)->I b C W2->body.wpIn (F.inRound l) (n-1-1) P (jlo I Ix (b++[x]) C W.heap.size W2) a' W2) (λ_ _ _=>False))
  { tmps:=(ps.zip (J x)).foldl (λt (p,v)=>t.setIfInBounds p v) a.tmps,defers:=[] } W)(hdone:∀(D l:Nat) (C:Nat->Prop) (xs:List α) (W2 W:World),w.heap.size<=D->w.heap.size<=l->D≠l->¬C D->¬C l->ah xs W2->ja W2 W (λi=>i=l)->I xs C W->W.heap[D]?=some (.deferred (some []))->Q .normal { a with defers:={ target:=.collected D,args:=#[] }::a.defers } W)(hstop:∀(D l:Nat) (C:Nat->Prop) (c:Code) (b:List α) (W2 W:World),w.heap.size<=D->w.heap.size<=l->D≠l->¬C D->¬C l->Lw b W2->ja W2 W (λi=>i=l)->Ix c b C W->W.heap[D]?=some (.deferred (some []))->c.wpIn F n P Q { a with defers:={ target:=.collected D,args:=#[] }::a.defers } W):(Code.rangeFunc g ps assign body).wpIn F n P Q a w:=by
 refine wpIn_rangeFunc ?_
 intro fn av
 rw[aq]
 obtain⟨D,hD⟩:∃ D,w.heap.size=D:=⟨_,rfl⟩
 obtain⟨d,f⟩:∃ d:LoopState->Option Code->Loop,d=λst pe=>{ state:=st,pending:=pe,fn,tmps:=a.tmps,params:=ps,assign,body,defers:=w.heap.size }:=⟨_,rfl⟩
 obtain⟨W1,b0⟩:∃ W1,(w.alloc (.deferred (some []))).alloc (.loop (d .ready none))=W1:=⟨_,rfl⟩
 have a8:ja w W1 No:=by rw[<-b0];exact(ja.alloc w _ _).more _
 have af:W1.heap[w.heap.size+1]?=some (.loop (d .ready none)):=by
  grind [World.alloc_heap_new,ZQ]
 have ag:W1.heap[w.heap.size]?=some (.deferred (some [])):=by
  grind [Below.heap_alloc,World.alloc_heap_new]
 refine⟨w.heap.size+1,[{ target:=.collected w.heap.size,args:=#[] }],W1,{ target:=.fn (.func gf) lb,args:=rv++#[.func (.yield (w.heap.size+1)) #[] #[]] },W1,gf,
  rv++#[.func (.yield (w.heap.size+1)) #[] #[]]++lb,W1,?_,?_,?_,?_,λ_=>h1,?_⟩
 .grind [run_enterLoop_outer]
 .simp only[resolve,hg]
  simp[go_sem]
 .grind [Target.leads]
 .simp[invoke,go_sem,eg]
 rw[hD] at hT hN hI U a9 L hdone hstop af ag f ⊢
 have side:∀ {C:Nat->Prop} {A B:World} (h:¬C (D+1)) (k:ja A B (λi=>i=D+1)),Aside D T C A B:=λh k=>iq k (λi _ e=>.inr ⟨by rw[e];omega,by rw[e];exact h⟩)
 have b3:∀ {C:Nat->Prop} {A B:World},Aside D T (λi=>C i\/i=D\/i=D+1) A B->Aside D T C A B:=λk=>iq k (λi _ h=>h.imp id (λh=>⟨h.1,λhc=>h.2 (.inl hc)⟩))
 have ac:∀ {C:Nat->Prop} {i:Nat},D<=i->C i->¬(T i\/(D<=i/\¬C i)):=λhi hc h=>h.elim (λh=>by have:=hT _ h;omega) (λh=>h.2 hc)
 refine(aj (D+1) D
  (λb C W=>∃ H:Nat->Prop,(∀ i,C i↔H i\/i=D\/i=D+1)/\¬H D/\¬H (D+1)/\I b H W/\W.heap[D+1]?=some (.loop (d .ready none))/\W.heap[D]?=some (.deferred (some [])))
  (λb C W=>∃(H:Nat->Prop) (c:Code),(∀ i,C i↔H i\/i=D\/i=D+1)/\¬H D/\¬H (D+1)/\Ix c b H W/\W.heap[D+1]?=some (.loop (d .done (some c)))/\W.heap[D]?=some (.deferred (some [])))
  ?_ ?_ (λi=>H i\/i=D\/i=D+1) W1 ?_ ?_ ?_ (Y W1 a8) ?_).mono ?_
 .rintro b C A B ⟨E,R,Z,G,hi,O,hd⟩ hk
  refine⟨E,R,Z,G,hI _ _ _ _ hi (iq hk (λi _ h=>h.imp id (λh=>⟨h.1,λhc=>h.2 ((R i).2 (.inl hc))⟩))),?_,?_⟩
  .exact ja.same hk O (ac (by omega) ((R _).2 (.inr (.inr rfl))))
  .exact ja.same hk hd (ac (zR _) ((R _).2 (.inr (.inl rfl))))
 .rintro b x C W ⟨E,R,Z,G,hi,O,hd⟩ az al
  have bc:D+1<W.heap.size:=(Array.getElem?_eq_some_iff.1 O).1
  have hy:=run_yield (P:=P) (args:=J x) O (by rw[f];exact ar x)
  rw[f] at hy
  refine⟨fn,_,assign,body,hy,roundIn_of_wpIn av (wpIn_mono (L (D+1) b x E W (by omega) ⟨_,O⟩ G (λi h=>az i ((R i).2 (.inl h))) hi al) ?_)⟩
  clear hy
  rintro e a' Wa M
  cases e with
  | normal =>
   obtain⟨ka,hb⟩:=M
   have ad:=ka.same O (λh=>h)
   have aw:=ka.same hd (λh=>h)
   have ak:D+1<Wa.heap.size:=zO ad
   refine⟨_,run_beginRound ad (by rw[f]),?_⟩
   have N:=ja.putObj Wa (D+1) (.loop { d .ready none with state:=.busy })
   have V:(Wa.putObj (D+1) (.loop { d .ready none with state:=.busy })).heap[D+1]?=some (.loop { d .ready none with state:=.busy }):=World.putObj_heap_same ak
   have ay:=N.same aw (by omega)
   have au:=hI _ _ _ _ (hI _ _ _ _ hi (Qk ka)) (side G N)
   refine wpIn_mono (hb _ N au) ?_
   have X:∀(jump:Option Code) (j:World),ja (Wa.putObj (D+1) (.loop { d .ready none with state:=.busy })) j E->(Instr.endRound (D+1) jump).run P j=.ok (.bool jump.isNone) (j.putObj (D+1) (.loop (d (if jump.isNone then .ready else .done) jump)))/\(j.putObj (D+1) (.loop (d (if jump.isNone then .ready else .done) jump))).heap[D+1]?=some (.loop (d (if jump.isNone then .ready else .done) jump))/\(j.putObj (D+1) (.loop (d (if jump.isNone then .ready else .done) jump))).heap[D]?=some (.deferred (some []))/\ja W (j.putObj (D+1) (.loop (d (if jump.isNone then .ready else .done) jump))) C:=λjump j s=>by
    have ae:=s.same V G
    have ax:=s.same ay Z
    have he:=run_endRound (P:=P) jump ae
    have kc:=ja.putObj j (D+1) (.loop (d (if jump.isNone then .ready else .done) jump))
    refine⟨by rw[he,f],World.putObj_heap_same (zO ae),kc.same ax (by omega),?_⟩
    exact(((ka.up).trans N (λi _ e=>(R i).2 (.inr (.inr e)))).trans s (λi _ h=>(R i).2 (.inl h))).trans kc (λi _ e=>(R i).2 (.inr (.inr e)))
   have grow:∀(q:Nat->Prop) (jump:Option Code) (j:World),ja (Wa.putObj (D+1) (.loop { d .ready none with state:=.busy })) j E->(∀ i,q i->E i\/W.heap.size<=i)->(∀ i,q i->i<j.heap.size)->(∀ i,(q i\/i=D\/i=D+1)->C i\/W.heap.size<=i)/\(∀ i,(q i\/i=D\/i=D+1)->i<(j.putObj (D+1) (.loop (d (if jump.isNone then .ready else .done) jump))).heap.size)/\¬q D/\¬q (D+1):=λq jump j s m o=>by
    grind [World.putObj_size]
   rintro e a3 j M
   cases e with
   | normal =>
    obtain⟨q,m,o,s,y⟩:=M
    obtain⟨hr,u,z,k4⟩:=X none j s
    obtain⟨g1,g2,g3,S⟩:=grow q none j s m o
    exact⟨_,_,hr,_,g1,g2,k4,.inl ⟨rfl,q,λ_=>Iff.rfl,g3,S,hI _ _ _ _ y (side S (ja.putObj j _ _)),u,z⟩⟩
   | ret =>
    obtain⟨q,m,o,s,y⟩:=M
    obtain⟨hr,u,z,k4⟩:=X (some .ret) j s
    obtain⟨g1,g2,g3,S⟩:=grow q (some .ret) j s m o
    exact⟨_,_,hr,_,g1,g2,k4,.inr ⟨rfl,q,.ret,λ_=>Iff.rfl,g3,S,U _ _ _ _ _ _ _ y (by omega) S (s.same V G) (ja.putObj j _ _),u,z⟩⟩
   | exit id =>
    obtain⟨q,m,o,s,y⟩:=M
    obtain⟨hr,u,z,k4⟩:=X (some (.exit id)) j s
    obtain⟨g1,g2,g3,S⟩:=grow q (some (.exit id)) j s m o
    exact⟨_,_,hr,_,g1,g2,k4,.inr ⟨rfl,q,.exit id,λ_=>Iff.rfl,g3,S,U _ _ _ _ _ _ _ y (by omega) S (s.same V G) (ja.putObj j _ _),u,z⟩⟩
   | goto t =>
    obtain⟨q,m,o,s,y⟩:=M
    obtain⟨hr,u,z,k4⟩:=X (some (.goto t)) j s
    obtain⟨g1,g2,g3,S⟩:=grow q (some (.goto t)) j s m o
    exact⟨_,_,hr,_,g1,g2,k4,.inr ⟨rfl,q,.goto t,λ_=>Iff.rfl,g3,S,U _ _ _ _ _ _ _ y (by omega) S (s.same V G) (ja.putObj j _ _),u,z⟩⟩
   | panic ch=>exact M.elim
   | outgrown=>exact M.elim
  | ret=>exact M.elim
  | exit id=>exact M.elim
  | goto t=>exact M.elim
  | panic ch=>exact M.elim
  | outgrown=>exact M.elim
 .grind
 .grind
 .have:=a8.size;omega
 .exact⟨H,λ_=>Iff.rfl,λh=>by have:=(a9 _ h).1;omega,λh=>by have:=(a9 _ h).1;omega,hI _ _ _ _ h0 (Qk a8),af,ag⟩
 .rintro e W2 ⟨q,_,_,⟨v,rfl⟩,(⟨xs,hS,E,R,Z,G,hi,O,hd⟩|⟨b,hS,E,c,R,Z,G,hi,O,hd⟩)⟩
  .have N:=ja.putObj W2 (D+1) (.loop { d .ready none with state:=.exhausted })
   refine⟨none,_,by have:=run_endLoop (P:=P) O (by rw[f];simp);rw[f] at this;exact this,?_⟩
   have:=hdone D (D+1) E xs W2 _ (zR _) (by omega) (by omega) Z G hS N (hI _ _ _ _ hi (side G N)) (N.same hd (by omega))
   rw[f] at this
   exact this
  .have N:=ja.putObj W2 (D+1) (.loop { d .done (some c)with state:=.exhausted })
   refine⟨some c,_,by have:=run_endLoop (P:=P) O (by rw[f];simp);rw[f] at this;exact this,?_⟩
   have:=hstop D (D+1) E c b W2 _ (zR _) (by omega) (by omega) Z G hS N (U _ _ _ _ _ _ _ hi (by omega) G O N) (N.same hd (by omega))
   rw[f] at this
   exact this

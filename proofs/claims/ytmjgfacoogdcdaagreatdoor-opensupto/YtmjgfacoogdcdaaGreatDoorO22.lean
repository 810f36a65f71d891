/-
-/
import Derived.Test.YtmjgfacoogdcdaaGreatDoorO21
import Derived.Test.YtmjgfacoogdcdaaGreatDoorO19
set_option maxRecDepth 100000
set_option maxHeartbeats 8000000
set_option linter.all false
namespace Go.Proofs.YtmjgfacoogdcdaaGreatDoor
open RowKit Maps WideShapes Go.Shelf Go.Proofs.Tryz
attribute [local go_sem] Oper.semAt_some
variable {E:Nat->Addr} {w w':World} {v:Value} {B d n:Nat}
abbrev Item:=Rf.Ch×Value
abbrev encI(x:Item):Array Value:=#[chV x.1,x.2]
abbrev Jb(c:Rf.Ch):Item:=(c,.nilIface)
def ei:Rf.Ch:=⟨[],[],false⟩
def ke(E:Nat->Addr)(w:World)(v:Value)(bad:Bool):Prop:=∃ g,Err E w v g/\g≠2/\(bad=true↔g=0)
theorem ke.same{bad:Bool}(h:ke E w v bad)(b:ja w w' (λ_=>False)):ke E w' v bad:=by obtain⟨g,d,c⟩:=h;exact⟨g,d.same b,c⟩
theorem ke.shape{bad:Bool}(h:ke E w v bad):∃ t a,v=.iface t (.pointer (some a)):=by obtain⟨g,b,_⟩:=h;exact b.shape
def jeu(E:Nat->Addr)(l:List Rf.Ch)(err:Option Bool)(pre:List Item)(x:Item)(W:World):Prop :=
 (∃ k c,pre=(l.take k).map Jb/\l[k]?=some c/\x=Jb c)\/(∃ bad,err=some bad/\pre=l.map Jb/\x.1=ei/\ke E W x.2 bad)
def jeq(E:Nat->Addr)(B:Nat)(ρ:Nat->jz)(d:Nat)(S:jg)(l:List Rf.Ch)(err:Option Bool)(xs:List Item)(W:World):Prop :=
 Dk E B W ρ d S/\((err=none/\xs=l.map Jb)\/∃ bad v,err=some bad/\(∃ t a,v=.iface t (.pointer (some a)))/\xs=l.map Jb++[(ei,v)])
def Lw(E:Nat->Addr)(B:Nat)(ρ:Nat->jz)(d:Nat)(S:jg)(xs:List Item)(W:World):Prop:=Dk E B W ρ d S
def qe(ρ:Nat->jz)(i:Nat):Prop:=ρ i≠.none
def jcb(B:Nat)(v:Value)(i:Nat):Prop:=i<B\/∃ p n c,v=.slice (some p) n c/\p.block=i
theorem Dk.apart{ρ:Nat->jz}{S:jg}{C:Nat->Prop}(h:Dk E B w ρ d S)(k:ja w w' C)(b:∀ i,i<w.heap.size->C i->¬qe ρ i/\B<=i):Dk E B w' ρ d S:=by have k':ja w w' (λi=>i<w.heap.size/\C i):=⟨k.os,k.tape,k.output,k.size,λi hi hn=>k.block i hi λhc=>hn ⟨hi,hc⟩⟩;refine⟨h.rep.keep k' λi hi _=>?_,h.Qo.keep k' λi hi=>(b i hi.1 hi.2).2,h.yc,zT h.size k.size⟩;exact XW λhn=>(b i hi.1 hi.2).1 hn
theorem Xi{F:Fence}{P:Program}(w:World){d:Array Oper}{rest:List Oper}{o:Oper}{a:Act}{Q:Exit->Act->World->Prop}(y:o.guard=none)(s x:Operand)(t:TypeId)(f:o.op=Op.call { callee:=Callee.builtin Builtin.append,args:=#[s,x],argTypes:=#[t,t] })(base:Nat)(e:TypeId)(i:TypeInfo)(z:Value)(size bytes:Nat)(h1:P.underlying t=some (.slice e))(h2:P.info? e=some i)(h3:i.zero=some z)(h4:i.size=size)(h5:i.bytes=bytes)(h6:z.cells.size=size)(h7:0<size)(v:Value)(k:Nat)(xs:List Value)(hs:a.eval s=v)(hown:w.ownsRow base e size v k xs)(ad:Addr)(m c:Nat)(news:List Value)(hx:a.eval x=.slice (some ad) m c)(hn:news.length=m*size)(hc:∀ j u,news[j]?=some u->w.cell? (ad.add j)=some u)(h1c:∀ u∈news,u.oneCell'=true)(b1:k+m<=maxLen)(b2:(k+m)*bytes<=140737488355328)(b3:base<=w.heap.size)(hK:∀(p:Option Addr) (b:Nat) (w':World),w'.ownsRow base e size (.slice p (k+m) b) (k+m) (xs++news)->w.grownBy w' v.ownBlock->((Value.slice p (k+m) b).ownBlock=v.ownBlock\/(Value.slice p (k+m) b).ownBlock=some w.heap.size)->wpListIn F n P d Q rest (a.put o.dst (.slice p (k+m) b)) w'):wpListIn F n P d Q (o::rest) a w:=by
 refine wpListIn_plain y λK hK'=>?_
 obtain⟨v',w',g,l,r,A,q⟩:=run_append_own_at (P:=P) w base t o.type e i z size bytes h1 h2 h3 h4 h5 h6 h7 v k xs hown ad m c news hn hc h1c b1 b2 b3;obtain⟨p,b,rfl⟩:=ji l;unfold Oper.wpIn;refine⟨?_,?_⟩;simp[Oper.about,f,resolve,Target.leads,Sem.run_pure];rw[Oper.semAt_plain F _ _ zG];simp[execOp,f,resolve,invoke,builtin,hs,hx,g,Result.andThen];exact hK' _ _<|hK p b w' l r q
theorem il(b:Array Value)(w:World):(callFunc 122 b).run prog w=.ok (.enter 122 b) w:=by kernel_rfl
theorem nd{l:List Rf.Ch}{k:Nat}{c:Rf.Ch}(h:l[k]?=some c):(l.take (k+1)).map Jb=(l.take k).map Jb++[Jb c]:=by grind [zX]
theorem ie{ρ:Nat->jz}{S:jg}(v:Value)(l:List Rf.Ch)(hl:l.length<1048576):Gn Fence.wide n prog 122 #[v] #[] encI (qe ρ) (jcb B v) (λW=>Chs W v l/\Dk E B W ρ d S) (jeu E l none) (jeq E B ρ d S l none) (Lw E B ρ d S):=by
 intro lp n₀ J Jx aJ hY C W A L ab hS U;obtain⟨r,D⟩:=hS;obtain⟨p,cp,rfl,h1,h2,h3,h4⟩:=id r;have G:∀ i,i<W.heap.size->C i->¬qe ρ i/\B<=i:=λi _ hc=>⟨(L i hc).1,Nat.le_of_not_lt λh=>(L i hc).2<|.inl h⟩
 have V:=jb r;change Hid _ at L A;clear h3 h4 r;show CallsIn Fence.wide n prog 122 #[.slice p l.length cp,.func (.yield lp) #[] #[]] W _;refine callsIn_of_wp func122 rfl trivial ?_ rfl;simp only[ntmps122,ZJ,zZ,ZA,Nat.reduceAdd,Nat.reduceSub,ZK,ZL,ZM,ZN,ZO,ZP];gi_wp2;gi_loopw [8] (λi wr=>∃(k:Nat) (t:Nat->Prop),k<=l.length/\i=.int .i64 k/\J ((l.take k).map Jb) t wr/\(∀ i,t i->C i\/W.heap.size<=i)/\(∀ i,t i->i<wr.heap.size)/\ja W wr C) (λi _=>l.length-(intOf i).toNat);case atStart=>exact⟨0,C,ZC _,rfl,U,λ_ h=>.inl h,A.out,ja.refl _ _⟩
 case round=>obtain⟨k,t,hk,rfl,s,c,g,f⟩:=hrel;obtain y|ac:=zS k l.length;(· (have H:Chs wr (.slice p l.length cp) l:=V.out.keep f λ_ p' n' c' e hc=>(L.out _ hc).2<|.inr ⟨p',n',c',e,rfl⟩);obtain⟨b,o,rfl,e0,Z,Y⟩:=H.at y;generalize hx:l[k]=x at e0 Z Y;obtain⟨M,cv,N⟩:=x;simp only at e0 Z Y;(have m:l[k]?=some ⟨M,cv,N⟩:=zG);(have j:=ja.alloc wr (Xf ⟨M,cv,N⟩) λ_=>False);have R:=aJ _ _ _ _ s<|Qk j;obtain⟨fn,tmps,assign,body,X,O⟩:=hY ((l.take k).map Jb) (Jb ⟨M,cv,N⟩) t (wr.alloc<|Xf ⟨M,cv,N⟩) R (λi hi=>zU (g i hi) j.size)<|.inl ⟨k,_,rfl,m,rfl⟩;dsimp only[encI,Jb] at X;unfold Xf at X O j;change Hid _ at m;have HR:=jb O;clear hx O;gi_wp2;refine⟨λh=>by simp[Fence.wide] at h,HR.out.mono ?_⟩;rintro e W3 ⟨C2,u,F,z,⟨rfl,T⟩|⟨rfl,I⟩⟩;(· have q:ja W W3 C:=(f.tt (j.up)).trans z (λi hi hc=>(c i hc).resolve_right zC);gi_wp2;go_roundw;(case rel=>refine⟨k+1,C2,y,zD,by rw[nd m.out];exact T,λi hi=>?_,F,q⟩;obtain h|h:=u i hi;exact c i h;have:=f.size;have:=j.size;exact .inr zC);grind [intOf]);· gi_wp2;refine bodyPost_ret (results_none rfl _ _ _) rfl ?_;have q:ja W W3 C:=(f.tt (j.up)).trans z (λi hi hc=>(c i hc).resolve_right zC);refine⟨C2,λi hi=>?_,F,⟨_,rfl⟩,.inr ⟨_,D.apart q G,I⟩⟩;obtain h|h:=u i hi;exact c i h;have:=f.size;have:=j.size;exact .inr zC);· (obtain rfl:k=l.length:=zC);gi_wp2;go_end0;rw[ZX] at s;exact⟨t,c,g,⟨_,rfl⟩,.inl ⟨_,⟨D.apart f G,.inl ⟨rfl,rfl⟩⟩,s⟩⟩

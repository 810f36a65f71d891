/-
  D: LayerM.
-/
import Derived.Test.YtnipbplghijdmaaGreatDoorD22
import Derived.Test.YtnipbplghijdmaaGreatDoorD20
set_option maxRecDepth 100000
set_option maxHeartbeats 8000000
set_option linter.unusedVariables false
set_option linter.unusedSimpArgs false
namespace Go.Proofs.YtnipbplghijdmaaGreatDoor
open RowKit Maps WideShapes Go.Shelf Go.Proofs.Tryz
attribute [local go_sem] Oper.semAt_some
variable {E:Nat->Addr} {w w':World} {v:Value} {B d n:Nat}
abbrev Item:=Rf.Ch×Value
abbrev encI(x:Item):Array Value:=#[chV x.1,x.2]
abbrev Ja(c:Rf.Ch):Item:=(c,.nilIface)
def eu:Rf.Ch:=⟨[],[],false⟩
def lu(E:Nat->Addr)(w:World)(v:Value)(bad:Bool):Prop:=∃ g,Err E w v g/\g≠0/\(bad=true↔g=1)
theorem lu.same{bad:Bool}(h:lu E w v bad)(b:ja w w' (fun _=>False)):lu E w' v bad:=by
 obtain⟨g,d,c⟩:=h;exact⟨g,d.same b,c⟩
theorem lu.shape{bad:Bool}(h:lu E w v bad):∃ t a,v = .iface t (.pointer (some a)):=by
 obtain⟨g,b,_⟩:=h;exact b.shape
def je8(E:Nat->Addr)(l:List Rf.Ch)(err:Option Bool)(pre:List Item)(x:Item)(W:World):Prop :=
 (∃ k c,pre=(l.take k).map Ja/\l[k]?=some c/\x=Ja c)\/(∃ bad,err=some bad/\pre=l.map Ja/\x.1=eu/\lu E W x.2 bad)
def je6(E:Nat->Addr)(B:Nat)(ρ:Nat->j3)(d:Nat)(S:jc)(l:List Rf.Ch)(err:Option Bool)(xs:List Item)(W:World):Prop :=
 Dk E B W ρ d S/\((err=none/\xs=l.map Ja)\/∃ bad v,err=some bad/\(∃ t a,v = .iface t (.pointer (some a)))/\xs=l.map Ja++[(eu,v)])
def Ls(E:Nat->Addr)(B:Nat)(ρ:Nat->j3)(d:Nat)(S:jc)(xs:List Item)(W:World):Prop:=Dk E B W ρ d S
def qj(ρ:Nat->j3)(i:Nat):Prop:=ρ i≠ .none
def jah(B:Nat)(v:Value)(i:Nat):Prop:=i<B\/∃ p n c,v = .slice (some p) n c/\p.block=i
theorem Dk.apart{ρ:Nat->j3}{S:jc}{C:Nat->Prop}(h:Dk E B w ρ d S)(k:ja w w' C)(b:∀ i,i<w.heap.size->C i->¬qj ρ i/\B<=i):Dk E B w' ρ d S:=by
 have k':ja w w' (fun i=>i<w.heap.size/\C i):=⟨k.os,k.tape,k.output,k.size,fun i hi hn=>k.block i hi (fun hc=>hn ⟨hi,hc⟩)⟩;refine⟨h.rep.keep k' (fun i hi _=>?_),h.z8.keep k' (fun i hi=>(b i hi.1 hi.2).2),h.yz,ZI h.size k.size⟩;exact yE (fun hn=>(b i hi.1 hi.2).1 hn)
theorem Xa{F:Fence}{P:Program}(w:World){f:Array Oper}{rest:List Oper}{o:Oper}{a:Act}{Q:Exit->Act->World->Prop}(A:o.guard=none)(s x:Operand)(t:TypeId)(b:o.op=Op.call { callee:=Callee.builtin Builtin.append,args:=#[s,x],argTypes:=#[t,t] })(base:Nat)(e:TypeId)(i:TypeInfo)(z:Value)(size bytes:Nat)(h1:P.underlying t=some (.slice e))(h2:P.info? e=some i)(h3:i.zero=some z)(h4:i.size=size)(h5:i.bytes=bytes)(h6:z.cells.size=size)(h7:0<size)(v:Value)(k:Nat)(xs:List Value)(hs:a.eval s=v)(hown:w.ownsRow base e size v k xs)(ad:Addr)(m c:Nat)(news:List Value)(hx:a.eval x = .slice (some ad) m c)(hn:news.length=m*size)(hc:∀ j u,news[j]?=some u->w.cell? (ad.add j)=some u)(h1c:∀ u∈news,u.oneCell'=true)(b1:k+m<=maxLen)(b2:(k+m)*bytes<=140737488355328)(b3:base<=w.heap.size)(hK:∀(p:Option Addr) (d:Nat) (w':World),w'.ownsRow base e size (.slice p (k+m) d) (k+m) (xs++news)->w.grownBy w' v.ownBlock->((Value.slice p (k+m) d).ownBlock=v.ownBlock\/(Value.slice p (k+m) d).ownBlock=some w.heap.size)->wpListIn F n P f Q rest (a.put o.dst (.slice p (k+m) d)) w') :
 wpListIn F n P f Q (o::rest) a w:=by
 refine wpListIn_plain A fun K hK'=>?_;obtain⟨v',w',g,q,y,B,r⟩:=run_append_own_at (P:=P) w base t o.type e i z size bytes h1 h2 h3 h4 h5 h6 h7 v k xs hown ad m c news hn hc h1c b1 b2 b3;obtain⟨p,d,rfl⟩:=jl q;unfold Oper.wpIn;refine⟨?_,?_⟩
 ·simp[Oper.about,b,resolve,Target.leads,Sem.run_pure]
 ·rw[Oper.semAt_plain F _ _ (by rw[b];intro c l;cases l)]
  simp[execOp,b,resolve,invoke,builtin,hs,hx,g,Result.andThen];exact hK' _ _ (hK p d w' q y r)
theorem fo(b:Array Value)(w:World):(callFunc 158 b).run prog w = .ok (.enter 158 b) w:=by kernel_rfl
theorem ki{l:List Rf.Ch}{k:Nat}{c:Rf.Ch}(h:l[k]?=some c):(l.take (k+1)).map Ja=(l.take k).map Ja++[Ja c]:=by
 rw[xH,h,xO,xP];rfl
theorem fg{ρ:Nat->j3}{S:jc}(v:Value)(l:List Rf.Ch)(hl:l.length<1048576) :
 Kj Fence.wide n prog 158 #[v] #[] encI (qj ρ) (jah B v) (fun W=>Chs W v l/\Dk E B W ρ d S) (je8 E l none) (je6 E B ρ d S l none) (Ls E B ρ d S):=by
 intro lp n₀ J Jx aJ hY C W A L af hS V;obtain⟨s,D⟩:=hS;obtain⟨p,cp,rfl,h1,h2,h3,h4⟩:=id s;have G:∀ i,i<W.heap.size->C i->¬qj ρ i/\B<=i:=fun i _ hc=>⟨(L i hc).1,Nat.le_of_not_lt (fun h=>(L i hc).2 (.inl h))⟩;have X:=jb s;have HC:=jb L;have HB:=jb A;clear h3 h4 s L A;show CallsIn Fence.wide n prog 158 #[.slice p l.length cp,.func (.yield lp) #[] #[]] W _;refine callsIn_of_wp func158 rfl trivial ?_ rfl;simp only[ntmps158,xY,zH,zX,Nat.reduceAdd,Nat.reduceSub,xZ,XA,XB,XC,xL,xM]
 gi_wp2
 gi_loopw [8] (fun i wr=>∃(k:Nat) (u:Nat->Prop),k<=l.length/\i = .int .i64 k/\J ((l.take k).map Ja) u wr/\(∀ i,u i->C i\/W.heap.size<=i)/\(∀ i,u i->i<wr.heap.size)/\ja W wr C)
  (fun i _=>l.length-(intOf i).toNat)
 case atStart=>exact⟨0,C,zG _,rfl,V,fun _ h=> .inl h,HB.out,ja.refl _ _⟩
 case round =>
  obtain⟨k,u,hk,rfl,t,c,g,f⟩:=hrel;rcases zV k l.length with m|ag
  ·have H:Chs wr (.slice p l.length cp) l:=X.out.keep f (fun _ p' n' c' e hc=>(HC.out _ hc).2 (.inr ⟨p',n',c',e,rfl⟩))
   obtain⟨b,o,rfl,e0,e1,Z⟩:=H.at m;generalize hx:l[k]=x at e0 e1 Z;obtain⟨N,M,O⟩:=x;simp only at e0 e1 Z;have q:l[k]?=some ⟨N,M,O⟩:=by rw[xB m,hx]
   have j:=ja.alloc wr (Q7 ⟨N,M,O⟩) (fun _=>False);have T:=aJ _ _ _ _ t (Q2 j);obtain⟨fn,tmps,assign,body,Y,R⟩:=hY ((l.take k).map Ja) (Ja ⟨N,M,O⟩) u (wr.alloc (Q7 ⟨N,M,O⟩)) T (fun i hi=>ZH (g i hi) j.size) (.inl ⟨k,_,rfl,q,rfl⟩);dsimp only[encI,Ja] at Y;unfold Q7 at Y R j;have HX:=jb q;have HR:=jb R;clear hx q R
   gi_wp2
   refine⟨fun h=>by simp[Fence.wide] at h,HR.out.mono ?_⟩;rintro e W3 ⟨C2,y,F,z,⟨rfl,U⟩|⟨rfl,I⟩⟩
   ·have r:ja W W3 C:=(f.tt (j.up)).trans z (fun i hi hc=>(c i hc).resolve_right (by omega))
    gi_wp2
    go_roundw
    case rel =>
     refine⟨k+1,C2,m,by simp,by rw[ki HX.out];exact U,fun i hi=>?_,F,r⟩;rcases y i hi with h|h
     ·exact c i h
     ·have:=f.size
      have:=j.size;exact .inr (by omega)
    case measure=>simp[intOf];omega
   ·gi_wp2
    refine bodyPost_ret (results_none rfl _ _ _) rfl ?_;have r:ja W W3 C:=(f.tt (j.up)).trans z (fun i hi hc=>(c i hc).resolve_right (by omega));refine⟨C2,fun i hi=>?_,F,⟨_,rfl⟩,.inr ⟨_,D.apart r G,I⟩⟩;rcases y i hi with h|h
    ·exact c i h
    ·have:=f.size
     have:=j.size;exact .inr (by omega)
  ·obtain rfl:k=l.length:=by omega
   gi_wp2
   go_end0;rw[xR] at t;exact⟨u,c,g,⟨_,rfl⟩,.inl ⟨_,⟨D.apart f G,.inl ⟨rfl,rfl⟩⟩,t⟩⟩
end Go.Proofs.YtnipbplghijdmaaGreatDoor

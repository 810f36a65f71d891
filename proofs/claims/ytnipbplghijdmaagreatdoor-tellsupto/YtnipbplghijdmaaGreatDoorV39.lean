/-
  V: PwG PwH PwI Read Settle SettleRep Crash PwJ.
-/
import Derived.Test.YtnipbplghijdmaaGreatDoorV38
import Derived.Test.YtnipbplghijdmaaGreatDoorV47
set_option maxRecDepth 100000
set_option maxHeartbeats 8000000
set_option linter.unusedVariables false
set_option linter.unusedSimpArgs false
namespace Go.Proofs.YtnipbplghijdmaaGreatDoor
open RowKit Maps WideShapes Go.Proofs.Tryz
variable {S S':jc} {U:Nat} {m:Rf.Man} {bls:List (List Rf.Ch)} {Q R:Want} {s:Rf.St}
theorem lu{n:Nat}(h:n<=9223372036854775807):(jo n).length<=60:=by
 have:=yj h;unfold jo;simp only[ZC,zP,zQ];omega
theorem mc{n:Nat}(h:n<=9223372036854775807):(jh n).length<=60:=by
 have:=yj h;unfold jh;simp only[ZC,zP,zQ];omega
def Jm(S:jc)(s:Rf.St):Prop:=∀ p∈qn s.m.settled s.bls,At S p.1 (yt p.2)
theorem Norm.Q2(h:Norm S U s Q):Jm S s:=h.pow.held.2.1
theorem Jm.bytes(h:Jm S s):∀ p∈qn s.m.settled s.bls,At S p.1 (fun a=>a.bytes=p.2):=fun p hp=>(h p hp).mono (fun a q=>q.bytes)
theorem ed(h:s.Ok):1<=s.m.next:=by
 have:=h.yy.2.2.1 s.m.log (xY _ (ZW.2 rfl));omega
theorem Ni(h:s.Ok):s.m.log<s.m.next:=(h.yy.2.2.1 s.m.log (xY _ (ZW.2 rfl))).2
theorem Aw(b:s.bs≠[]):s.flush=⟨s.m.yh s.last,[],s.mem::s.bls⟩:=by unfold Rf.St.flush;rw[if_neg b]
theorem Norm.jdu(h:Norm S U s Q)(C:s.bs≠[])(ag:s.mem.length<60000)(d:s.m.next+2<=2000000000)(hr:s.m.runs.length+1<60000)(V:Q.now s.flush)(h6:(Rf.j6 s.mem).length<=20000)(h7:(s.m.yh s.last).bytes.length<=20000){O:Bool}(r:rk s.m s.last s.mem S S' O) :
 Jm S' s/\(O=false->Safe S' U Q\/Safe S' (U+4+(Rf.j6 s.mem).length+2*(s.m.yh s.last).bytes.length) Q.whole) /\
 (O=true->Pow S' (U+4+(Rf.j6 s.mem).length+2*(s.m.yh s.last).bytes.length) (s.m.yh s.last) (s.mem::s.bls) Q.whole/\S'.late=[]/\At S' (jh (s.m.next+1)) (yt [])/\Qe S' (ji::jh (s.m.next+1)::jo s.m.next::ju s.m)):=by
 have a5:=ed h.ok;have ar:=Ni h.ok;have R:=h.ok.yy;have g:=h.ok.flush (by omega) d a5 (by omega);have N:=Rf.St.Un h.ok C (by omega);rw[Aw C] at V g;obtain⟨RB,f⟩:∃ RB,RB=Rf.j6 s.mem:=⟨_,rfl⟩;obtain⟨u,i⟩:∃ u,u=s.m.yh s.last:=⟨_,rfl⟩;rw[<-f] at h6 ⊢;rw[<-i] at h7 V g ⊢
 have I:∀ {p},p∈qn s.m.settled s.bls->∀ {n:Nat},s.m.next<=n->p.1≠jo n/\p.1≠jh n:=fun {p} b {n} d=>by
  refine⟨(rj R d).run b,vl b n⟩
 unfold rk at r;rw[<-i] at r;rcases r with⟨r,rfl⟩|⟨Y,r,k⟩
 ·have H:S.qm (jh s.m.log)=(S',false):=r
  have P:=h.pow.sync (jh s.m.log);have K:Jm (S.qm (jh s.m.log)).1 s:=fun p b=>(h.Q2 p b).sync _ (fun a q=>q.synced);rw[H] at P K;exact⟨K,fun _=> .inl ⟨_,_,P⟩,fun t=>(by cases t)⟩
 have H:S.qm (jh s.m.log)=(Y,true):=r;obtain⟨B,G1⟩:=h.sync (by rw[H]);rw[H] at B G1;have K1:Jm Y s:=B.Q2;have L2:∀ {A ok2},Xk (jo s.m.next) (Rf.j6 s.mem) Y A ok2->_:=fun {A} {ok2} q=>B.pow.lay (rj R (ZQ _)) (Jc _) (lu (by omega)) (by rw[<-f];omega) q;rcases k with⟨G,rfl⟩|⟨A,G,k⟩
 ·obtain⟨x,l,v,W⟩:=L2 G
  rw[<-f] at x;exact⟨fun p b=>v _ _ (I b (ZQ _)).1 (K1 p b),fun _=> .inr ⟨_,_,x.grow (by omega)⟩,fun t=>(by cases t)⟩
 obtain⟨Z,M,B2,_⟩:=L2 G;have M:=M rfl;have O2:=B.only.lay B.pow (Jc _) (lu (by omega)) G;rw[<-f] at Z M;have K2:Jm A s:=fun p b=>B2 _ _ (I b (ZQ _)).1 (K1 p b);have L3:∀ {z ok3},Xk (jh (s.m.next+1)) [] A z ok3->_:=fun {z} {ok3} q=>Z.lay (Rx R (Nat.le_succ _)) (Js _) (mc (by omega)) (zX _) q;rcases k with⟨F,rfl⟩|⟨z,F,k⟩
 ·obtain⟨x,l,v,W⟩:=L3 F
  exact⟨fun p b=>v _ _ (I b (Nat.le_succ _)).2 (K2 p b),fun _=> .inr ⟨_,_,x.grow (by simp only[zQ];omega)⟩,fun t=>(by cases t)⟩
 obtain⟨P3,L,B3,_⟩:=L3 F;have L:=L rfl;have O3:=O2.lay Z (Js _) (mc (by omega)) F;have J:Jm z s:=fun p b=>B3 _ _ (I b (Nat.le_succ _)).2 (K2 p b);have D:=B3 _ _ (fun e=>Yf _ _ e.symm) M;have o:u.settled=s.m.next::s.m.settled:=by rw[i];exact Rf.Man.J6 _ _
 have y:u.log=s.m.next+1:=by rw[i];rfl
 have a0:qn u.settled (s.mem::s.bls)=(jo s.m.next,Rf.j6 s.mem)::qn s.m.settled s.bls:=by rw[o];rfl
 have R3:Mi z u (s.mem::s.bls) [] Q.whole:=by
  refine⟨fun p b=>?_,?_,g,fun n d=>?_,V⟩
  ·rw[a0] at b
   rcases zN.1 b with rfl|b
   ·exact D.mono (fun a q=>by rw[<-f];exact q.1)
   ·exact(J p b).mono (fun a q=>q.bytes)
  ·rw[y]
   exact L.mono (fun a q=>by simpa [Rf.jk] using q.1)
  ·unfold jt at d
   rw[o,y,ZP] at d;rcases ZV.1 d with d|d
   ·rcases zN.1 d with rfl|d
    ·exact D.mono (fun _ _=>trivial)
    ·obtain⟨q,hq,rfl⟩:=zO.1 d
     obtain⟨c,T⟩:=h.ok.there (jo q) (xX _ d);rcases Zx.1 T with e|e|T
     ·exact absurd (congrArg Prod.fst e).symm (gk q)
     ·exact absurd (congrArg Prod.fst e).symm (Yf _ q)
     ·exact(J _ T).mono (fun _ _=>trivial)
   ·rw[ZW.1 d]
    exact L.mono (fun _ _=>trivial)
 have hI:∀ {X ok4},yr u z X ok4->_:=fun {X} {ok4} q=>P3.install R3 (by omega) q
 have j:∀ {p},p∈qn s.m.settled s.bls->p.1≠jq/\p.1≠ji:=fun {p} b=>by
  obtain⟨q,hq,e⟩:=X7 b;rw[e];exact⟨fun e=>En _ e.symm,fun e=>gk _ e.symm⟩
 rcases k with⟨E,rfl⟩|⟨X,E,e4,rfl⟩
 ·obtain⟨x,l,v,W⟩:=hI E
  refine⟨fun p b=>v _ _ (j b).1 (j b).2 (fun a q=>q.synced) (J p b),fun _=>?_,fun t=>(by cases t)⟩;rcases l rfl with l|l
  ·exact .inr ⟨_,_,l.grow (by simp only[zQ];omega)⟩
  ·exact .inr ⟨_,_,l.grow (by simp only[zQ];omega)⟩
 ·subst e4
  obtain⟨x,l,v,W⟩:=hI E;obtain⟨b1,b2,b3⟩:=x rfl;refine⟨fun p b=>v _ _ (j b).1 (j b).2 (fun a q=>q.synced) (J p b),fun t=>(by cases t),fun _=>⟨b1.grow (by simp only[zQ];omega),b2,?_,O3.install P3 R3 (by omega) E⟩⟩;rw[y] at b3;exact b3.mono (fun a q=>by simpa [Rf.jk] using q)
end Go.Proofs.YtnipbplghijdmaaGreatDoor
namespace Go.Proofs.YtnipbplghijdmaaGreatDoor
open RowKit Maps WideShapes Go.Proofs.Tryz
variable {S S':jc} {U:Nat} {m:Rf.Man} {bls:List (List Rf.Ch)} {Q R:Want} {s:Rf.St}
theorem Qg{m:Rf.Man}{n:Str}:n∈ju m↔(∃ k∈m.settled,n=jo k)\/n=jh m.log\/n=ji:=by
 unfold ju jt;rw[ZV,ZV,zO,ZW,ZW];constructor
 ·rintro((⟨k,b,rfl⟩|h)|h)
  ·exact .inl ⟨k,b,rfl⟩
  ·exact .inr (.inl h)
  ·exact .inr (.inr h)
 ·rintro(⟨k,b,rfl⟩|h|h)
  ·exact .inl (.inl ⟨k,b,rfl⟩)
  ·exact .inl (.inr h)
  ·exact .inr h
theorem jbd{m:Rf.Man}{n:Str}(h:n∉ju m):Idle m n:=⟨fun e=>h (Qg.2 (.inr (.inr e))),fun e=>h (xX _ e)⟩
theorem ix(g:Pow S U m bls Q)(d:S.late=[]){bs:List (List Rf.Ch)}(j:At S (jh m.log) (yt (Rf.jk m.last bs)))(f:(⟨m,bs,bls⟩:Rf.St).Ok)(b:Q.now ⟨m,bs,bls⟩)(c:Qe S (ju m)):Norm S U ⟨m,bs,bls⟩ Q :=
 ⟨g,d,j.mono (fun a q=>⟨bs,[],by rw[ZB],q.jgi,fun i hi=>by
  have:i=0:=Nat.le_zero.1 hi
  subst this
  simpa using Q.le _ b⟩),b,f,c⟩
theorem Norm.jgo(h:Norm S U s Q)(i:s.bs≠[])(o:s.mem.length<60000)(f:s.m.next+2<=2000000000)(v:s.m.runs.length+1<60000)(p:Q.now s.flush)(z:(Rf.j6 s.mem).length<=20000)(y:(s.m.yh s.last).bytes.length<=20000)(r:rk s.m s.last s.mem S S' true) :
 Jm (jc.jr [jh s.m.log] S').1 s.flush/\Pow (jc.jr [jh s.m.log] S').1 (U+4+(Rf.j6 s.mem).length+2*(s.m.yh s.last).bytes.length) s.flush.m s.flush.bls Q.whole /\
 ((jc.jr [jh s.m.log] S').2=true->Norm (jc.jr [jh s.m.log] S').1 (U+4+(Rf.j6 s.mem).length+2*(s.m.yh s.last).bytes.length) s.flush Q.whole/\At (jc.jr [jh s.m.log] S').1 (jh s.flush.m.log) (yt (Rf.jk s.flush.m.last s.flush.bs))):=by
 obtain⟨_,_,H⟩:=h.jdu i o f v p z y r;obtain⟨P,L,A,O⟩:=H rfl;have b:=h.ok.flush (by omega) f (ed h.ok) (by omega);have B:=Ni h.ok;rw[Aw i] at p b ⊢;have l:=Rf.Man.J6 s.m s.last
 have d:∀ n∈[jh s.m.log],Idle (s.m.yh s.last) n:=fun n f=>by
  rw[ZW.1 f];refine⟨fun e=>tg _ e.symm,fun g=>?_⟩;rcases ZV.1 g with g|g
  ·obtain⟨k,_,e⟩:=zO.1 g
   exact Yf _ _ e.symm
  ·have e:s.m.log=s.m.next+1:=re (ZW.1 g)
   omega
 have t:=P.removeAll [jh s.m.log] d
 have j:At (jc.jr [jh s.m.log] S').1 (jh (s.m.next+1)) (yt (Rf.jk s.last [])):=by
  refine At.removeAll P [jh s.m.log] d (A.mono (fun a q=>by simpa [Rf.jk] using q)) (fun e=>?_);have:s.m.next+1=s.m.log:=re (ZW.1 e);omega
 refine⟨t.held.2.1,t,fun ok=>⟨ix t (dx _ L ok) j b p ?_,j⟩⟩
 ·refine(O.removeAll P [jh s.m.log] d ok).sub (fun n f=>?_)
  obtain⟨c,u⟩:=XC.1 f;simp only[decide_eq_true_eq,ZW] at u;rw[Qg,l];rcases zN.1 c with e|c
  ·exact .inr (.inr e)
  rcases zN.1 c with e|c
  ·exact .inr (.inl e)
  rcases zN.1 c with e|c
  ·exact .inl ⟨_,ZG,e⟩
  rcases Qg.1 c with⟨k,x,e⟩|e|e
  ·exact .inl ⟨k,ZH _ x,e⟩
  ·exact absurd e u
  ·exact .inr (.inr e)
theorem Norm.Bj(h:Norm S U s Q){n:Str}(d:n∈s.m.settled.map jo):At S n (fun _=>True):=by
 obtain⟨q,f,rfl⟩:=zO.1 d;obtain⟨c,b⟩:=h.ok.there (jo q) (xX _ d);rcases Zx.1 b with e|e|b
 ·exact absurd (congrArg Prod.fst e).symm (gk q)
 ·exact absurd (congrArg Prod.fst e).symm (Yf _ q)
 ·exact(h.Q2 _ b).mono (fun _ _=>trivial)
theorem Norm.th(h:Norm S U s Q):At S (jh s.m.log) (fun a=>a.bytes=Rf.jk s.m.last s.bs/\Q.now s):=h.log.mono (fun a ⟨bs,u,e,hF,hq⟩=>by
 have b:=hF.bytes
 rw[ZB,<-e] at b
 exact⟨b,h.now⟩)
theorem Norm.Sn(h:Norm S U s Q)(z:s.m.runs≠[])(hl:s.live.length<60000)(f:s.m.next+1<=2000000000)(v:Q.now s.j8)(h6:(Rf.j6 s.live).length<=20000){J:Bool}(r:Qj s.m s.live S S' J) :
 Jm S' s/\(J=false->Safe S' (U+90) Q\/Safe S' (U+90+(Rf.j6 s.live).length) Q.whole) /\
 (J=true->Pow S' (U+90+(Rf.j6 s.live).length) s.j8.m s.j8.bls Q.whole/\S'.late=[]/\At S' (jh s.m.log) (yt (Rf.jk s.m.last s.bs))/\Qe S' (ji::jo s.m.next::ju s.m)/\(s.live=[]->Qe S' (ji::ju s.m))):=by
 have W:=ed h.ok;have ac:=Ni h.ok;have L:=h.ok.yy;have c:=h.ok.j8 (by omega) f
 have g:∀ {p},p∈qn s.m.settled s.bls->p.1≠jq/\p.1≠ji:=fun {p} b=>by
  obtain⟨q,hq,e⟩:=X7 b;rw[e];exact⟨fun e=>En _ e.symm,fun e=>gk _ e.symm⟩
 unfold Qj at r;by_cases hle:s.live=[]
 ·rw[if_pos hle] at r
  have M:s.j8=⟨s.m.bare,s.bs,[]⟩:=by unfold Rf.St.j8;rw[if_neg z,if_pos hle]
  rw[M] at v c ⊢;have i:s.m.bare.bytes.length=42:=by rw[ql];rfl
  have B:=Rf.Man.mx s.m
  have x:Mi S s.m.bare [] s.bs Q:=by
   refine⟨fun p b=>?_,h.th.mono (fun a q=>q.1),c,fun n f=>?_,v⟩
   ·rw[B] at b
    cases b
   ·unfold jt at f
    rw[B] at f;have e:n=jh s.m.bare.log:=by simpa using f
    rw[e];exact h.th.mono (fun _ _=>trivial)
  obtain⟨j,d,l,O⟩:=h.pow.install x (by omega) r;rw[i] at j d;refine⟨fun p b=>l _ _ (g b).1 (g b).2 (fun a q=>q.synced) (h.Q2 p b),fun e=>?_,fun e=>?_⟩
  ·rcases d e with d|d
   ·exact .inl ⟨_,_,d.grow (by omega)⟩
   ·exact .inl ⟨_,_,d.grow (by omega)⟩
  ·obtain⟨N,H,G⟩:=j e
   subst e;have o:=h.only.install h.pow x (by omega) r
   exact⟨(N.grow (by omega)).again H G c v,H,G,o.sub (fun n f=>by
    rcases zN.1 f with e|f
    ·rw[e];exact ZG
    ·exact ZH _ (ZH _ f)),fun _=>o⟩
 ·rw[if_neg hle] at r
  have M:s.j8=⟨s.m.zg,s.bs,[s.live]⟩:=by unfold Rf.St.j8;rw[if_neg z,if_neg hle]
  rw[M] at v c ⊢;have i:s.m.zg.bytes.length=42:=by rw[ql];rfl
  have A:=Rf.Man.bq (m:=s.m) W;obtain⟨V,C⟩:∃ V,V=Rf.j6 s.live:=⟨_,rfl⟩;rw[<-C] at h6 r ⊢;rcases r with⟨r,rfl⟩|⟨T,r,k⟩
  ·have F:S.qm (jh s.m.log)=(S',false):=r
   have P:=h.pow.sync (jh s.m.log);have K:Jm (S.qm (jh s.m.log)).1 s:=fun p b=>(h.Q2 p b).sync _ (fun a q=>q.synced);rw[F] at P K;exact⟨K,fun _=> .inl ⟨_,_,P.grow (by omega)⟩,fun t=>(by cases t)⟩
  have F:S.qm (jh s.m.log)=(T,true):=r;obtain⟨y,G1⟩:=h.sync (by rw[F]);rw[F] at y G1;have K1:Jm T s:=y.Q2;have Z:∀ {u ok2},Xk (jo s.m.next) V T u ok2->_:=fun {u} {ok2} q=>y.pow.lay (rj L (ZQ _)) (Jc _) (lu (by omega)) (by omega) q;rcases k with⟨E,rfl⟩|⟨u,E,k⟩
  ·obtain⟨j,d,l,O⟩:=Z E
   exact⟨fun p b=>l _ _ ((rj L (ZQ _)).run b) (K1 p b),fun _=> .inr ⟨_,_,j.grow (by omega)⟩,fun t=>(by cases t)⟩
  obtain⟨Y,I,B2,_⟩:=Z E;have I:=I rfl;have O2:=y.only.lay y.pow (Jc _) (lu (by omega)) E;have K2:Jm u s:=fun p b=>B2 _ _ ((rj L (ZQ _)).run b) (K1 p b);have G2:=B2 _ _ (Yf _ _) G1
  have x:Mi u s.m.zg [s.live] s.bs Q.whole:=by
   refine⟨fun p b=>?_,G2.mono (fun a q=>q.bytes),c,fun n f=>?_,v⟩
   ·rw[A] at b
    rcases zN.1 b with rfl|b
    ·exact I.mono (fun a q=>by show a.bytes=Rf.j6 s.live;rw[<-C];exact q.1)
    ·cases b
   ·unfold jt at f
    rw[A] at f;have e:n=jo s.m.next\/n=jh s.m.zg.log:=by simpa using f
    rcases e with e|e
    ·rw[e];exact I.mono (fun _ _=>trivial)
    ·rw[e];exact G2.mono (fun _ _=>trivial)
  have X:∀ {R ok4},yr s.m.zg u R ok4->_:=fun {R} {ok4} q=>Y.install x (by omega) q;rcases k with⟨D,rfl⟩|⟨R,D,e4,rfl⟩
  ·obtain⟨j,d,l,O⟩:=X D
   rw[i] at d;refine⟨fun p b=>l _ _ (g b).1 (g b).2 (fun a q=>q.synced) (K2 p b),fun _=>?_,fun t=>(by cases t)⟩;rcases d rfl with d|d
   ·exact .inr ⟨_,_,d.grow (by omega)⟩
   ·exact .inr ⟨_,_,d.grow (by omega)⟩
  ·subst e4
   obtain⟨j,d,l,O⟩:=X D;rw[i] at j;obtain⟨N,H,G⟩:=j rfl;exact⟨fun p b=>l _ _ (g b).1 (g b).2 (fun a q=>q.synced) (K2 p b),fun t=>(by cases t),fun _=>⟨N.grow (by omega),H,G,O2.install Y x (by omega) D,fun e=>absurd e hle⟩⟩
theorem A5(b:s.m.runs≠[]):s.j8.m=s.m.Xh s.live/\s.j8.bs=s.bs:=by
 unfold Rf.St.j8 Rf.Man.Xh;rw[if_neg b]
 split<;>exact⟨rfl,rfl⟩
theorem Norm.jd1(h:Norm S U s Q)(c:s.m.runs≠[])(B:s.live.length<60000)(g:s.m.next+1<=2000000000)(u:Q.now s.j8)(C:(Rf.j6 s.live).length<=20000)(r:Qj s.m s.live S S' true) :
 Jm (jc.jr (s.m.settled.map jo) S').1 s.j8/\Pow (jc.jr (s.m.settled.map jo) S').1 (U+90+(Rf.j6 s.live).length) s.j8.m s.j8.bls Q.whole /\
 ((jc.jr (s.m.settled.map jo) S').2=true->Norm (jc.jr (s.m.settled.map jo) S').1 (U+90+(Rf.j6 s.live).length) s.j8 Q.whole):=by
 obtain⟨_,_,H⟩:=h.Sn c B g u C r;obtain⟨P,L,A,O,D⟩:=H rfl;have l:=h.ok.j8 (by omega) g;have x:=ed h.ok
 have j:s.j8.m.settled=if s.live=[] then [] else [s.m.next]:=by
  unfold Rf.St.j8;rw[if_neg c]
  split
  ·exact Rf.Man.mx _
  ·exact Rf.Man.bq x
 have d:s.j8.m.log=s.m.log/\s.j8.m.last=s.m.last:=by
  unfold Rf.St.j8;rw[if_neg c]
  split<;>exact⟨rfl,rfl⟩
 have f:∀ n∈s.m.settled.map jo,Idle s.j8.m n:=fun n g=>by
  obtain⟨q,y,rfl⟩:=zO.1 g;refine⟨fun e=>gk _ e.symm,fun o=>?_⟩;rcases ZV.1 o with o|o
  ·obtain⟨k,i,e⟩:=zO.1 o
   rw[j] at i
   split at i
   ·cases i
   ·have F:=fx e
    have E:=ZW.1 i;have:=(h.ok.Bh y).2;omega
  ·exact Yf _ _ (ZW.1 o).symm
 have v:=P.removeAll (s.m.settled.map jo) f;have t:=(A5 c).2;have z:s.j8=⟨s.j8.m,s.bs,s.j8.bls⟩:=by rw[<-t]
 refine⟨v.held.2.1,v,fun ok=>?_⟩;rw[z];rw[z] at l u;refine ix v (dx _ L ok) ?_ l u ?_
 ·rw[d.1,d.2]
  exact At.removeAll P (s.m.settled.map jo) f A (fun e=>by
   obtain⟨q,y,e⟩:=zO.1 e
   exact Yf _ _ e.symm)
 ·by_cases hle:s.live=[]
  ·refine((D hle).removeAll P _ f ok).sub (fun n g=>?_)
   obtain⟨b,p⟩:=XC.1 g;simp only[decide_eq_true_eq] at p;rw[Qg,d.1];rcases zN.1 b with e|b
   ·exact .inr (.inr e)
   rcases Qg.1 b with⟨k,i,e⟩|e|e
   ·exact absurd (zO.2 ⟨k,i,e.symm⟩) p
   ·exact .inr (.inl e)
   ·exact .inr (.inr e)
  ·refine(O.removeAll P _ f ok).sub (fun n g=>?_)
   obtain⟨b,p⟩:=XC.1 g;simp only[decide_eq_true_eq] at p;rw[Qg,d.1,j,if_neg hle];rcases zN.1 b with e|b
   ·exact .inr (.inr e)
   rcases zN.1 b with e|b
   ·exact .inl ⟨_,ZG,e⟩
   rcases Qg.1 b with⟨k,i,e⟩|e|e
   ·exact absurd (zO.2 ⟨k,i,e.symm⟩) p
   ·exact .inr (.inl e)
   ·exact .inr (.inr e)
end Go.Proofs.YtnipbplghijdmaaGreatDoor
namespace Go.Proofs.YtnipbplghijdmaaGreatDoor
open RowKit Maps WideShapes Go.Proofs.Tryz
variable {S S':jc} {U:Nat} {m:Rf.Man} {bls:List (List Rf.Ch)} {Q R:Want} {s:Rf.St}
theorem Pow.keys(h:Pow S U m bls Q):S.keys.Nodup/\(∀ n,n∈S.keys↔∃ f,S.at n=some f)/\∀ n∈S.keys,At S n (fun _=>True):=by
 obtain⟨T,b,l⟩:=h.cur;have g:View S (Ql S.files T):=⟨T,b.fs,List.Perm.refl _⟩;have j:=g.keys
 have d:∀ n,n∈S.keys↔∃ f,S.at n=some f:=fun n=>by
  rw[j.mem_iff];unfold Ql;rw[XS,zO];constructor
  ·rintro⟨p,i,rfl⟩
   exact⟨p.2,b.fs.at.2 i⟩
  ·rintro⟨f,c⟩
   exact⟨(n,f),b.fs.at.1 c,rfl⟩
 refine⟨g.ja5,d,fun n hn=>?_⟩;obtain⟨f,c⟩:=(d n).1 hn;obtain⟨a,k⟩:=b.files _ (b.fs.at.1 c);exact⟨f,a,c,k,trivial⟩
theorem Oc(ks:List Str)(S:jc):(S.bad=true/\jc.zj ks S=(S.called false,false))\/(S.bad=false/\jc.zj ks S=jc.jr (others ks S.keys) (S.called false)):=by
 unfold jc.zj
 cases hb:S.bad with
 | true=>exact .inl ⟨rfl,by simp⟩
 | false=>exact .inr ⟨rfl,by simp⟩
theorem Pow.clear(h:Pow S U m bls Q):Pow (jc.zj (ju m) S).1 U m bls Q/\(∀ n P,n∈ju m->At S n P->At (jc.zj (ju m) S).1 n P) /\
 ((jc.zj (ju m) S).2=true->(S.late=[]->(jc.zj (ju m) S).1.late=[])/\Qe (jc.zj (ju m) S).1 (ju m)) /\
 (qh S->(jc.zj (ju m) S).2=true/\qh (jc.zj (ju m) S).1):=by
 have c:=h.called false;obtain⟨l,k,p⟩:=h.keys
 have d:∀ n,n∈others (ju m) S.keys↔n∈S.keys/\n∉ju m:=fun n=>by
  unfold others;rw[XC];simp
 have b:∀ n∈others (ju m) S.keys,Idle m n:=fun n hn=>jbd ((d n).1 hn).2;have i:(others (ju m) S.keys).Nodup:=l.sublist XQ;rcases Oc (ju m) S with⟨g,e⟩|⟨g,e⟩
 ·rw[e]
  exact⟨c,fun n P _ q=>q.zr rfl rfl,fun t=>(by cases t),fun w=>by rw[w.bad] at g;cases g⟩
 ·rw[e]
  refine⟨c.removeAll _ b,fun n P hn q=>At.removeAll c _ b (q.zr rfl rfl) (fun t=>((d n).1 t).2 hn),fun ok=>⟨fun hl=>dx _ hl ok,?_⟩,fun w=>Gp c (w.called false) _ b i (fun n hn=>(p n ((d n).1 hn).1).zr rfl rfl)⟩;have o:Qe (S.called false) S.keys:=fun n f hf=>(k n).2 ⟨f,hf⟩;refine(o.removeAll c _ b ok).sub (fun n hn=>?_);obtain⟨r,j⟩:=XC.1 hn;simp only[decide_eq_true_eq] at j;exact yD (fun h3=>j ((d n).2 ⟨r,h3⟩))
def Oj(S:jc)(U:Nat)(s:Rf.St)(Q:Want)(No Yes:jc->Prop):Prop:=(∃ T,No T/\Safe T U Q/\¬qh S)\/∃ T,Yes T/\Norm T U s Q/\At T (jh s.m.log) (yt (Rf.jk s.m.last s.bs))/\(qh S->qh T)
theorem Pow.Uh(h:Pow S U m bls Q){bs:List (List Rf.Ch)}(I:At S (jh m.log) (fun a=>a.bytes=Rf.jk m.last bs))(x:(⟨m,bs,bls⟩:Rf.St).Ok)(L:Q.now ⟨m,bs,bls⟩){C l:jc->Prop}(r:Xi S (Fn (jc.xu (ju m))) m C l):Oj S U ⟨m,bs,bls⟩ Q C l:=by
 obtain⟨c,g,⟨G,j⟩|⟨s,u,E,k⟩⟩:=r
 ·exact .inl ⟨c,j,⟨_,_,g.pow h⟩,G⟩
 have y:=g.pow h;have F:=g.at I;have b:jc.xu (ju m) c=(s,u):=E;have t:=y.sure (ju m)
 have o:∀ n∈ju m,At c n (fun _=>True):=fun n hn=>by
  obtain⟨V,T,R⟩:=y.held;rcases Qg.1 hn with⟨q,H,rfl⟩|rfl|rfl
  ·obtain⟨i,W,e⟩:=XX.1 H
   have D:bls.length=m.settled.length:=x.len;exact(T (jo q,Rf.j6 (bls[i]'(by omega))) (J8.2 ⟨(q,bls[i]'(by omega)),by rw[<-e];exact XX.2 ⟨i,by rw[List.length_zip];omega,by simp⟩,rfl⟩)).mono (fun _ _=>trivial)
  ·exact R.mono (fun _ _=>trivial)
  ·exact V.mono (fun _ _=>trivial)
 have p:qh c->(jc.xu (ju m) c).2=true/\qh (jc.xu (ju m) c).1:=fun w=>Ln w _ o;rw[b] at t p;rcases k with⟨rfl,j⟩|⟨rfl,k⟩
 ·exact .inl ⟨s,j,⟨_,_,t⟩,fun w=>by have:=(p (g.u9 w)).1;cases this⟩
 have v:At s (jh m.log) (yt (Rf.jk m.last bs)):=by
  have:=sy F (ju m) (Qg.2 (.inr (.inl rfl))) (by rw[b]) (fun a e=>e);rw[b] at this;exact this.mono (fun a q=>by rw[<-q.1];exact q.2)
 have f:s.late=[]:=by have:=Lo (S:=c) (ju m) (by rw[b]);rwa [b] at this
 obtain⟨B,A,O,z⟩:=t.clear;rcases k with⟨d,J⟩|⟨d,j⟩
 ·obtain⟨N,M⟩:=O d
  exact .inr ⟨_,J,ix B (N f) (A _ _ (Qg.2 (.inr (.inl rfl))) v) x L M,A _ _ (Qg.2 (.inr (.inl rfl))) v,fun w=>(z (p (g.u9 w)).2).2⟩
 ·exact .inl ⟨_,j,⟨_,_,B⟩,fun w=>by have:=(z (p (g.u9 w)).2).1;rw[d] at this;cases this⟩
theorem Tx{bs:List (List Rf.Ch)}(h:(⟨m,bs,bls⟩:Rf.St).Ok)(b:m.next+1<=2000000000):(⟨m.xr,bs,bls⟩:Rf.St).Ok :=
 ⟨(show m.Good from h.yy).xr b,h.runs,h.len,h.bl,h.log,h.cap⟩
theorem Pow.jau(h:Pow S U m bls Q){bs:List (List Rf.Ch)}{g:List UInt8}(hl:At S (jh m.log) (fun a=>a.bytes=Rf.jk m.last bs++g))(H:(⟨m,bs,bls⟩:Rf.St).Ok)(c:m.next+1<=2000000000)(O:Q.now ⟨m.xr,bs,bls⟩)(h6:(Rf.jk m.last bs).length<=20000)(h7:m.bytes.length<=20000)(hU:U+4+(Rf.jk m.last bs).length+2*m.bytes.length<=20000){No B:jc->Prop}(r:Xi S (Bm m (Rf.jk m.last bs)) m.xr No B):Oj S (U+4+(Rf.jk m.last bs).length+2*m.bytes.length) ⟨m.xr,bs,bls⟩ Q No B:=by
 obtain⟨L,y,⟨hw,x⟩|⟨v,o,u,k⟩⟩:=r
 ·exact .inl ⟨L,x,⟨_,_,(y.pow h).grow (by omega)⟩,hw⟩
 have I:=y.pow h;have hg:m.Good:=H.yy;have A:m.xr.bytes.length=m.bytes.length:=by rw[ql,ql];rfl
 have f:=Tx H c;unfold Bm at u;have M:m.next<=9223372036854775807:=by omega
 have L2:∀ {T ok},Xk (jh m.next) (Rf.jk m.last bs) L T ok->_:=fun {T} {ok} q=>I.lay (Rx hg (ZQ _)) (Js _) (mc M) (by omega) q
 have key:(o=false->Safe v (U+4+(Rf.jk m.last bs).length+2*m.bytes.length) Q)/\(o=true->Pow v (U+4+(Rf.jk m.last bs).length+2*m.bytes.length) m.xr bls Q/\v.late=[]/\At v (jh m.xr.log) (yt (Rf.jk m.last bs)))/\(qh L->o=true/\qh v):=by
  rcases u with⟨u,rfl⟩|⟨T,u,k2⟩
  ·obtain⟨z,d,Y,j⟩:=L2 u
   exact⟨fun _=>⟨_,_,z.grow (by omega)⟩,fun t=>(by cases t),fun w=>by have:=(j w (by omega)).1;cases this⟩
  obtain⟨P2,F,B2,Z⟩:=L2 u;have F:=F rfl
  have hR:Mi T m.xr bls bs Q:=by
   have E:∀ n∈m.settled.map jo,At T n (fun _=>True):=fun n c=>by
    obtain⟨q,hq,rfl⟩:=zO.1 c;obtain⟨i,hi,e⟩:=XX.1 hq;have a7:bls.length=m.settled.length:=H.len;refine B2 _ _ (fun e=>Yf _ _ e.symm) ((I.held.2.1 (jo q,Rf.j6 (bls[i]'(by omega))) (J8.2 ⟨(q,bls[i]'(by omega)),by rw[<-e];exact XX.2 ⟨i,by rw[List.length_zip];omega,by simp⟩,rfl⟩)).mono (fun _ _=>trivial))
   refine⟨fun p hp=>B2 _ _ (vl hp _) ((I.held.2.1 p hp).mono (fun a q=>q.bytes)),F.mono (fun a q=>q.1),f,fun n c=>?_,O⟩;rcases ZV.1 c with c|c
   ·exact E n c
   ·rw[ZW.1 c]
    exact F.mono (fun _ _=>trivial)
  have R:∀ {J ok4},yr m.xr T J ok4->_:=fun {J} {ok4} q=>P2.install hR (by omega) q;rcases k2 with⟨G,rfl⟩|⟨J,G,e4,rfl⟩
  ·obtain⟨z,d,Y,j⟩:=R G
   rw[A] at d j;refine⟨fun _=>?_,fun t=>(by cases t),fun w=>by have:=(j (Z w (by omega)).2 (by omega)).1;cases this⟩;rcases d rfl with d|d
   ·exact⟨_,_,d.grow (by omega)⟩
   ·exact⟨_,_,d.grow (by omega)⟩
  ·subst e4
   obtain⟨z,d,Y,j⟩:=R G;rw[A] at z j;obtain⟨b1,b2,b3⟩:=z rfl;exact⟨fun t=>(by cases t),fun _=>⟨b1.grow (by omega),b2,b3⟩,fun w=>⟨rfl,(j (Z w (by omega)).2 (by omega)).2⟩⟩
 obtain⟨D,C,b⟩:=key;rcases k with⟨rfl,x⟩|⟨rfl,k⟩
 ·exact .inl ⟨v,x,D rfl,fun w=>by have:=(b (y.u9 w)).1;cases this⟩
 obtain⟨P3,s,N⟩:=C rfl;obtain⟨X,W,c3,V⟩:=P3.clear;rcases k with⟨l,hY⟩|⟨l,x⟩
 ·obtain⟨d1,d2⟩:=c3 l
  exact .inr ⟨_,hY,ix X (d1 s) (W _ _ (Qg.2 (.inr (.inl rfl))) N) f O d2,W _ _ (Qg.2 (.inr (.inl rfl))) N,fun w=>(V (b (y.u9 w)).2).2⟩
 ·exact .inl ⟨_,x,⟨_,_,X⟩,fun w=>by have:=(V (b (y.u9 w)).2).1;rw[l] at this;cases this⟩
end Go.Proofs.YtnipbplghijdmaaGreatDoor
namespace Go.Proofs.YtnipbplghijdmaaGreatDoor
open RowKit Maps WideShapes Go.Proofs.Tryz
variable {S S':jc} {U:Nat} {m:Rf.Man} {bls:List (List Rf.Ch)} {Q R:Want} {s:Rf.St}
structure Zl(D:DataW Nat)(U:Nat)(m:Rf.Man)(bls:List (List Rf.Ch))(Q:Want)(S:jc):Prop where
 names:S.names=D
 safe:S.safe=D
 late:S.late=[]
 wf:∀ f a,S.files f=some a->a.Wf
 small:∀ f a,S.files f=some a->a.bytes.length<=60000
 yy:Qv S.files U m bls Q D
theorem Zl.one{D:DataW Nat}(h:Zl D U m bls Q.down S)(ch:List Int)(x:Str):Zl D U m bls Q.down (Xd S ch x).1:=by
 unfold Xd
 split
 ·rename_i p hp
  obtain⟨f,_,j⟩:=Option.bind_eq_some_iff.1 hp;obtain⟨a,g,rfl⟩:=XK.1 j;have k:=h.wf f a g;have l:=Cc k ch;refine⟨h.names,h.safe,h.late,fun i b hb=>?_,fun i b hb=>?_,h.yy.write (c:=0) g (nd.settled Q a ch) l⟩
  ·have d:Fls.put S.files f (a.settled ch) i=some b:=hb
   by_cases e:i=f
   ·subst e;rw[Fls.yl] at d;cases d;exact Gg a ch
   ·rw[Fls.yu _ _ e] at d;exact h.wf i b d
  ·have d:Fls.put S.files f (a.settled ch) i=some b:=hb
   by_cases e:i=f
   ·subst e;rw[Fls.yl] at d;cases d;have:=h.small _ a g;omega
   ·rw[Fls.yu _ _ e] at d;exact h.small i b d
 ·exact h
theorem Zl.all{D:DataW Nat}(ch:List Int):∀(l:List Str) (S:jc),Zl D U m bls Q.down S->Zl D U m bls Q.down (ze l S ch).1:=by
 intro l;suffices H:∀(p:jc×List Int),Zl D U m bls Q.down p.1->Zl D U m bls Q.down (l.foldl (fun p x=>Xd p.1 p.2 x) p).1 from fun S h=>H (S,ch) h
 induction l with
 | nil=>intro p h;exact h
 | cons x r ih=>intro p h;exact ih _ (h.one p.2 x)
theorem Pow.Jj(h:Pow S U m bls Q)(ch:List Int):∃ m' bls',Pow (S.crashed ch) U m' bls' Q.down/\(S.crashed ch).late=[]/\qh (S.crashed ch):=by
 obtain⟨m',bls',c⟩:=h.all.at (Jq (ch.headD 0) (S.late.length+1));have d:Zl (Jo S.safe S.late (Jq (ch.headD 0) (S.late.length+1))) U m' bls' Q.down (S.Zg (Jq (ch.headD 0) (S.late.length+1))):=⟨rfl,rfl,rfl,h.wf,h.small,c.mono (ZQ _) Q.jf0⟩;have b:=d.all ch.tail (S.Zg (Jq (ch.headD 0) (S.late.length+1))).keys;refine⟨m',bls',⟨?_,b.wf,b.small,?_,?_⟩,b.late,⟨rfl,rfl⟩⟩
 ·show(ze _ _ _).1.names=(ze _ _ _).1.late.foldl doA (ze _ _ _).1.safe
  rw[b.late,b.names,b.safe];rfl
 ·show sv _ (ze _ _ _).1.safe (ze _ _ _).1.late
  rw[b.late,b.safe];exact⟨m',bls',b.yy⟩
 ·show Qv _ _ _ _ _ (ze _ _ _).1.names
  rw[b.names];exact b.yy
theorem su.length:∀ {l:List (Nat×Nat)} {s e:Nat},su s l e->s+l.length<=e
 | [],_,_,h=>Nat.le_of_eq h
 | x::r,s,e,h=>by
  have:=h.2.2.length
  have:=h.2.1
  rw[zP]
  omega
theorem Ns(fs:Fls)(T:List Tok):T.length<=Zp fs T:=by
 induction T with
 | nil=>exact ZQ _
 | cons x r ih=>rw[Qi,zP];omega
theorem Pow.fit(h:Pow S U m bls Q)(g:S.late=[])(p:U<=60000):Fit 60000 S:=by
 obtain⟨T,b,q⟩:=h.cur;have c:S.safe=S.names:=by have:=h.tied;rw[g] at this;exact this.symm
 have k:T.length<=60000:=by have:=Ns S.files T;have:=b.size;omega
 have d:Maps.size S.names<=60000:=by rw[b.X6.size];exact k
 refine⟨⟨T,b.fs⟩,d,by rw[c,g];exact d,?_,fun f a ha=>?_,by have:=h.total;omega,fun n hk=>?_⟩
 ·rw[c]
  obtain⟨⟨l,e,_⟩,_⟩:=b.X6;exact⟨l,e⟩
 ·obtain⟨o,i⟩:=h.wf f a ha
  have:=h.small f a ha;have:=i.length;omega
 ·obtain⟨f,j⟩:=(h.keys.2.1 n).1 hk
  have:=(b.short _ (b.fs.at.1 j)).1;simp only at this;omega
end Go.Proofs.YtnipbplghijdmaaGreatDoor

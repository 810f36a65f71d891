/-
  D: PwG PwH PwI.
-/
import Derived.Test.YtnipbplghijdmaaGreatDoorD42
set_option linter.unusedVariables false
set_option linter.unusedSimpArgs false
namespace Go.Proofs.YtnipbplghijdmaaGreatDoor
open RowKit Maps WideShapes
variable {S S':jc} {U:Nat} {m:Rf.Man} {bls:List (List Rf.Ch)} {Q R:Want} {s:Rf.St}
theorem l9{n:Nat}(h:n<=9223372036854775807):(jo n).length<=60:=by
 have:=yj h;unfold jo;simp only[zW,zH,zX];omega
theorem mm{n:Nat}(h:n<=9223372036854775807):(jh n).length<=60:=by
 have:=yj h;unfold jh;simp only[zW,zH,zX];omega
def Jm(S:jc)(s:Rf.St):Prop:=∀ p∈qq s.m.settled s.bls,At S p.1 (yw p.2)
theorem Norm.Q5(h:Norm S U s Q):Jm S s:=h.pow.held.2.1
theorem Jm.bytes(h:Jm S s):∀ p∈qq s.m.settled s.bls,At S p.1 (fun a=>a.bytes=p.2):=fun p hp=>(h p hp).mono (fun a q=>q.bytes)
theorem fc(h:s.Ok):1<=s.m.next:=by
 have:=h.y7.2.2.1 s.m.log (zY _ (zZ.2 rfl));omega
theorem Nz(h:s.Ok):s.m.log<s.m.next:=(h.y7.2.2.1 s.m.log (zY _ (zZ.2 rfl))).2
theorem Az(b:s.bs≠[]):s.flush=⟨s.m.yh s.last,[],s.mem::s.bls⟩:=by unfold Rf.St.flush;rw[if_neg b]
theorem Norm.jec(h:Norm S U s Q)(C:s.bs≠[])(ag:s.mem.length<60000)(d:s.m.next+2<=2000000000)(hr:s.m.runs.length+1<60000)(V:Q.now s.flush)(h6:(Rf.j7 s.mem).length<=20000)(h7:(s.m.yh s.last).bytes.length<=20000){O:Bool}(r:r8 s.m s.last s.mem S S' O) :
 Jm S' s/\(O=false->Safe S' U Q\/Safe S' (U+4+(Rf.j7 s.mem).length+2*(s.m.yh s.last).bytes.length) Q.whole) /\
 (O=true->Pow S' (U+4+(Rf.j7 s.mem).length+2*(s.m.yh s.last).bytes.length) (s.m.yh s.last) (s.mem::s.bls) Q.whole/\S'.late=[]/\At S' (jh (s.m.next+1)) (yw [])/\Qf S' (ji::jh (s.m.next+1)::jo s.m.next::ju s.m)):=by
 have a5:=fc h.ok;have ar:=Nz h.ok;have R:=h.ok.y7;have g:=h.ok.flush (by omega) d a5 (by omega);have N:=Rf.St.Vb h.ok C (by omega);rw[Az C] at V g;obtain⟨RB,f⟩:∃ RB,RB=Rf.j7 s.mem:=⟨_,rfl⟩;obtain⟨u,i⟩:∃ u,u=s.m.yh s.last:=⟨_,rfl⟩;rw[<-f] at h6 ⊢;rw[<-i] at h7 V g ⊢
 have I:∀ {p},p∈qq s.m.settled s.bls->∀ {n:Nat},s.m.next<=n->p.1≠jo n/\p.1≠jh n:=fun {p} b {n} d=>by
  refine⟨(rz R d).run b,vq b n⟩
 unfold r8 at r;rw[<-i] at r;rcases r with⟨r,rfl⟩|⟨Y,r,k⟩
 ·have H:S.qn (jh s.m.log)=(S',false):=r
  have P:=h.pow.sync (jh s.m.log);have K:Jm (S.qn (jh s.m.log)).1 s:=fun p b=>(h.Q5 p b).sync _ (fun a q=>q.synced);rw[H] at P K;exact⟨K,fun _=> .inl ⟨_,_,P⟩,fun t=>(by cases t)⟩
 have H:S.qn (jh s.m.log)=(Y,true):=r;obtain⟨B,G1⟩:=h.sync (by rw[H]);rw[H] at B G1;have K1:Jm Y s:=B.Q5;have L2:∀ {A ok2},Xp (jo s.m.next) (Rf.j7 s.mem) Y A ok2->_:=fun {A} {ok2} q=>B.pow.lay (rz R (zJ _)) (Jc _) (l9 (by omega)) (by rw[<-f];omega) q;rcases k with⟨G,rfl⟩|⟨A,G,k⟩
 ·obtain⟨x,l,v,W⟩:=L2 G
  rw[<-f] at x;exact⟨fun p b=>v _ _ (I b (zJ _)).1 (K1 p b),fun _=> .inr ⟨_,_,x.grow (by omega)⟩,fun t=>(by cases t)⟩
 obtain⟨Z,M,B2,_⟩:=L2 G;have M:=M rfl;have O2:=B.only.lay B.pow (Jc _) (l9 (by omega)) G;rw[<-f] at Z M;have K2:Jm A s:=fun p b=>B2 _ _ (I b (zJ _)).1 (K1 p b);have L3:∀ {z ok3},Xp (jh (s.m.next+1)) [] A z ok3->_:=fun {z} {ok3} q=>Z.lay (Ss R (Nat.le_succ _)) (Jt _) (mm (by omega)) (zG _) q;rcases k with⟨F,rfl⟩|⟨z,F,k⟩
 ·obtain⟨x,l,v,W⟩:=L3 F
  exact⟨fun p b=>v _ _ (I b (Nat.le_succ _)).2 (K2 p b),fun _=> .inr ⟨_,_,x.grow (by simp only[zX];omega)⟩,fun t=>(by cases t)⟩
 obtain⟨P3,L,B3,_⟩:=L3 F;have L:=L rfl;have O3:=O2.lay Z (Jt _) (mm (by omega)) F;have J:Jm z s:=fun p b=>B3 _ _ (I b (Nat.le_succ _)).2 (K2 p b);have D:=B3 _ _ (fun e=>Yj _ _ e.symm) M;have o:u.settled=s.m.next::s.m.settled:=by rw[i];exact Rf.Man.J7 _ _
 have y:u.log=s.m.next+1:=by rw[i];rfl
 have a0:qq u.settled (s.mem::s.bls)=(jo s.m.next,Rf.j7 s.mem)::qq s.m.settled s.bls:=by rw[o];rfl
 have R3:My z u (s.mem::s.bls) [] Q.whole:=by
  refine⟨fun p b=>?_,?_,g,fun n d=>?_,V⟩
  ·rw[a0] at b
   rcases zF.1 b with rfl|b
   ·exact D.mono (fun a q=>by rw[<-f];exact q.1)
   ·exact(J p b).mono (fun a q=>q.bytes)
  ·rw[y]
   exact L.mono (fun a q=>by simpa [Rf.jk] using q.1)
  ·unfold jt at d
   rw[o,y,zP] at d;rcases ZA.1 d with d|d
   ·rcases zF.1 d with rfl|d
    ·exact D.mono (fun _ _=>trivial)
    ·obtain⟨q,hq,rfl⟩:=zS.1 d
     obtain⟨c,T⟩:=h.ok.there (jo q) (ZB _ d);rcases Z5.1 T with e|e|T
     ·exact absurd (congrArg Prod.fst e).symm (gq q)
     ·exact absurd (congrArg Prod.fst e).symm (Yj _ q)
     ·exact(J _ T).mono (fun _ _=>trivial)
   ·rw[zZ.1 d]
    exact L.mono (fun _ _=>trivial)
 have hI:∀ {X ok4},yt u z X ok4->_:=fun {X} {ok4} q=>P3.install R3 (by omega) q
 have j:∀ {p},p∈qq s.m.settled s.bls->p.1≠jq/\p.1≠ji:=fun {p} b=>by
  obtain⟨q,hq,e⟩:=X9 b;rw[e];exact⟨fun e=>Ey _ e.symm,fun e=>gq _ e.symm⟩
 rcases k with⟨E,rfl⟩|⟨X,E,e4,rfl⟩
 ·obtain⟨x,l,v,W⟩:=hI E
  refine⟨fun p b=>v _ _ (j b).1 (j b).2 (fun a q=>q.synced) (J p b),fun _=>?_,fun t=>(by cases t)⟩;rcases l rfl with l|l
  ·exact .inr ⟨_,_,l.grow (by simp only[zX];omega)⟩
  ·exact .inr ⟨_,_,l.grow (by simp only[zX];omega)⟩
 ·subst e4
  obtain⟨x,l,v,W⟩:=hI E;obtain⟨b1,b2,b3⟩:=x rfl;refine⟨fun p b=>v _ _ (j b).1 (j b).2 (fun a q=>q.synced) (J p b),fun t=>(by cases t),fun _=>⟨b1.grow (by simp only[zX];omega),b2,?_,O3.install P3 R3 (by omega) E⟩⟩;rw[y] at b3;exact b3.mono (fun a q=>by simpa [Rf.jk] using q)
end Go.Proofs.YtnipbplghijdmaaGreatDoor
namespace Go.Proofs.YtnipbplghijdmaaGreatDoor
open RowKit Maps WideShapes
variable {S S':jc} {U:Nat} {m:Rf.Man} {bls:List (List Rf.Ch)} {Q R:Want} {s:Rf.St}
theorem Qh{m:Rf.Man}{n:Str}:n∈ju m↔(∃ k∈m.settled,n=jo k)\/n=jh m.log\/n=ji:=by
 unfold ju jt;rw[ZA,ZA,zS,zZ,zZ];constructor
 ·rintro((⟨k,b,rfl⟩|h)|h)
  ·exact .inl ⟨k,b,rfl⟩
  ·exact .inr (.inl h)
  ·exact .inr (.inr h)
 ·rintro(⟨k,b,rfl⟩|h|h)
  ·exact .inl (.inl ⟨k,b,rfl⟩)
  ·exact .inl (.inr h)
  ·exact .inr h
theorem jbu{m:Rf.Man}{n:Str}(h:n∉ju m):Idle m n:=⟨fun e=>h (Qh.2 (.inr (.inr e))),fun e=>h (ZB _ e)⟩
theorem kj(g:Pow S U m bls Q)(d:S.late=[]){bs:List (List Rf.Ch)}(j:At S (jh m.log) (yw (Rf.jk m.last bs)))(f:(⟨m,bs,bls⟩:Rf.St).Ok)(b:Q.now ⟨m,bs,bls⟩)(c:Qf S (ju m)):Norm S U ⟨m,bs,bls⟩ Q :=
 ⟨g,d,j.mono (fun a q=>⟨bs,[],by rw[ZC],q.jg2,fun i hi=>by
  have:i=0:=Nat.le_zero.1 hi
  subst this
  simpa using Q.le _ b⟩),b,f,c⟩
theorem Norm.jg8(h:Norm S U s Q)(i:s.bs≠[])(o:s.mem.length<60000)(f:s.m.next+2<=2000000000)(v:s.m.runs.length+1<60000)(p:Q.now s.flush)(z:(Rf.j7 s.mem).length<=20000)(y:(s.m.yh s.last).bytes.length<=20000)(r:r8 s.m s.last s.mem S S' true) :
 Jm (jc.jr [jh s.m.log] S').1 s.flush/\Pow (jc.jr [jh s.m.log] S').1 (U+4+(Rf.j7 s.mem).length+2*(s.m.yh s.last).bytes.length) s.flush.m s.flush.bls Q.whole /\
 ((jc.jr [jh s.m.log] S').2=true->Norm (jc.jr [jh s.m.log] S').1 (U+4+(Rf.j7 s.mem).length+2*(s.m.yh s.last).bytes.length) s.flush Q.whole/\At (jc.jr [jh s.m.log] S').1 (jh s.flush.m.log) (yw (Rf.jk s.flush.m.last s.flush.bs))):=by
 obtain⟨_,_,H⟩:=h.jec i o f v p z y r;obtain⟨P,L,A,O⟩:=H rfl;have b:=h.ok.flush (by omega) f (fc h.ok) (by omega);have B:=Nz h.ok;rw[Az i] at p b ⊢;have l:=Rf.Man.J7 s.m s.last
 have d:∀ n∈[jh s.m.log],Idle (s.m.yh s.last) n:=fun n f=>by
  rw[zZ.1 f];refine⟨fun e=>tn _ e.symm,fun g=>?_⟩;rcases ZA.1 g with g|g
  ·obtain⟨k,_,e⟩:=zS.1 g
   exact Yj _ _ e.symm
  ·have e:s.m.log=s.m.next+1:=rq (zZ.1 g)
   omega
 have t:=P.removeAll [jh s.m.log] d
 have j:At (jc.jr [jh s.m.log] S').1 (jh (s.m.next+1)) (yw (Rf.jk s.last [])):=by
  refine At.removeAll P [jh s.m.log] d (A.mono (fun a q=>by simpa [Rf.jk] using q)) (fun e=>?_);have:s.m.next+1=s.m.log:=rq (zZ.1 e);omega
 refine⟨t.held.2.1,t,fun ok=>⟨kj t (ed _ L ok) j b p ?_,j⟩⟩
 ·refine(O.removeAll P [jh s.m.log] d ok).sub (fun n f=>?_)
  obtain⟨c,u⟩:=ZD.1 f;simp only[decide_eq_true_eq,zZ] at u;rw[Qh,l];rcases zF.1 c with e|c
  ·exact .inr (.inr e)
  rcases zF.1 c with e|c
  ·exact .inr (.inl e)
  rcases zF.1 c with e|c
  ·exact .inl ⟨_,zR,e⟩
  rcases Qh.1 c with⟨k,x,e⟩|e|e
  ·exact .inl ⟨k,zQ _ x,e⟩
  ·exact absurd e u
  ·exact .inr (.inr e)
theorem Norm.Br(h:Norm S U s Q){n:Str}(d:n∈s.m.settled.map jo):At S n (fun _=>True):=by
 obtain⟨q,f,rfl⟩:=zS.1 d;obtain⟨c,b⟩:=h.ok.there (jo q) (ZB _ d);rcases Z5.1 b with e|e|b
 ·exact absurd (congrArg Prod.fst e).symm (gq q)
 ·exact absurd (congrArg Prod.fst e).symm (Yj _ q)
 ·exact(h.Q5 _ b).mono (fun _ _=>trivial)
theorem Norm.tq(h:Norm S U s Q):At S (jh s.m.log) (fun a=>a.bytes=Rf.jk s.m.last s.bs/\Q.now s):=h.log.mono (fun a ⟨bs,u,e,hF,hq⟩=>by
 have b:=hF.bytes
 rw[ZC,<-e] at b
 exact⟨b,h.now⟩)
theorem Norm.Tj(h:Norm S U s Q)(z:s.m.runs≠[])(hl:s.live.length<60000)(f:s.m.next+1<=2000000000)(v:Q.now s.j8)(h6:(Rf.j7 s.live).length<=20000){J:Bool}(r:Qk s.m s.live S S' J) :
 Jm S' s/\(J=false->Safe S' (U+90) Q\/Safe S' (U+90+(Rf.j7 s.live).length) Q.whole) /\
 (J=true->Pow S' (U+90+(Rf.j7 s.live).length) s.j8.m s.j8.bls Q.whole/\S'.late=[]/\At S' (jh s.m.log) (yw (Rf.jk s.m.last s.bs))/\Qf S' (ji::jo s.m.next::ju s.m)/\(s.live=[]->Qf S' (ji::ju s.m))):=by
 have W:=fc h.ok;have ac:=Nz h.ok;have L:=h.ok.y7;have c:=h.ok.j8 (by omega) f
 have g:∀ {p},p∈qq s.m.settled s.bls->p.1≠jq/\p.1≠ji:=fun {p} b=>by
  obtain⟨q,hq,e⟩:=X9 b;rw[e];exact⟨fun e=>Ey _ e.symm,fun e=>gq _ e.symm⟩
 unfold Qk at r;by_cases hle:s.live=[]
 ·rw[if_pos hle] at r
  have M:s.j8=⟨s.m.bare,s.bs,[]⟩:=by unfold Rf.St.j8;rw[if_neg z,if_pos hle]
  rw[M] at v c ⊢;have i:s.m.bare.bytes.length=42:=by rw[ql];rfl
  have B:=Rf.Man.ng s.m
  have x:My S s.m.bare [] s.bs Q:=by
   refine⟨fun p b=>?_,h.tq.mono (fun a q=>q.1),c,fun n f=>?_,v⟩
   ·rw[B] at b
    cases b
   ·unfold jt at f
    rw[B] at f;have e:n=jh s.m.bare.log:=by simpa using f
    rw[e];exact h.tq.mono (fun _ _=>trivial)
  obtain⟨j,d,l,O⟩:=h.pow.install x (by omega) r;rw[i] at j d;refine⟨fun p b=>l _ _ (g b).1 (g b).2 (fun a q=>q.synced) (h.Q5 p b),fun e=>?_,fun e=>?_⟩
  ·rcases d e with d|d
   ·exact .inl ⟨_,_,d.grow (by omega)⟩
   ·exact .inl ⟨_,_,d.grow (by omega)⟩
  ·obtain⟨N,H,G⟩:=j e
   subst e;have o:=h.only.install h.pow x (by omega) r
   exact⟨(N.grow (by omega)).again H G c v,H,G,o.sub (fun n f=>by
    rcases zF.1 f with e|f
    ·rw[e];exact zR
    ·exact zQ _ (zQ _ f)),fun _=>o⟩
 ·rw[if_neg hle] at r
  have M:s.j8=⟨s.m.zh,s.bs,[s.live]⟩:=by unfold Rf.St.j8;rw[if_neg z,if_neg hle]
  rw[M] at v c ⊢;have i:s.m.zh.bytes.length=42:=by rw[ql];rfl
  have A:=Rf.Man.br (m:=s.m) W;obtain⟨V,C⟩:∃ V,V=Rf.j7 s.live:=⟨_,rfl⟩;rw[<-C] at h6 r ⊢;rcases r with⟨r,rfl⟩|⟨T,r,k⟩
  ·have F:S.qn (jh s.m.log)=(S',false):=r
   have P:=h.pow.sync (jh s.m.log);have K:Jm (S.qn (jh s.m.log)).1 s:=fun p b=>(h.Q5 p b).sync _ (fun a q=>q.synced);rw[F] at P K;exact⟨K,fun _=> .inl ⟨_,_,P.grow (by omega)⟩,fun t=>(by cases t)⟩
  have F:S.qn (jh s.m.log)=(T,true):=r;obtain⟨y,G1⟩:=h.sync (by rw[F]);rw[F] at y G1;have K1:Jm T s:=y.Q5;have Z:∀ {u ok2},Xp (jo s.m.next) V T u ok2->_:=fun {u} {ok2} q=>y.pow.lay (rz L (zJ _)) (Jc _) (l9 (by omega)) (by omega) q;rcases k with⟨E,rfl⟩|⟨u,E,k⟩
  ·obtain⟨j,d,l,O⟩:=Z E
   exact⟨fun p b=>l _ _ ((rz L (zJ _)).run b) (K1 p b),fun _=> .inr ⟨_,_,j.grow (by omega)⟩,fun t=>(by cases t)⟩
  obtain⟨Y,I,B2,_⟩:=Z E;have I:=I rfl;have O2:=y.only.lay y.pow (Jc _) (l9 (by omega)) E;have K2:Jm u s:=fun p b=>B2 _ _ ((rz L (zJ _)).run b) (K1 p b);have G2:=B2 _ _ (Yj _ _) G1
  have x:My u s.m.zh [s.live] s.bs Q.whole:=by
   refine⟨fun p b=>?_,G2.mono (fun a q=>q.bytes),c,fun n f=>?_,v⟩
   ·rw[A] at b
    rcases zF.1 b with rfl|b
    ·exact I.mono (fun a q=>by show a.bytes=Rf.j7 s.live;rw[<-C];exact q.1)
    ·cases b
   ·unfold jt at f
    rw[A] at f;have e:n=jo s.m.next\/n=jh s.m.zh.log:=by simpa using f
    rcases e with e|e
    ·rw[e];exact I.mono (fun _ _=>trivial)
    ·rw[e];exact G2.mono (fun _ _=>trivial)
  have X:∀ {R ok4},yt s.m.zh u R ok4->_:=fun {R} {ok4} q=>Y.install x (by omega) q;rcases k with⟨D,rfl⟩|⟨R,D,e4,rfl⟩
  ·obtain⟨j,d,l,O⟩:=X D
   rw[i] at d;refine⟨fun p b=>l _ _ (g b).1 (g b).2 (fun a q=>q.synced) (K2 p b),fun _=>?_,fun t=>(by cases t)⟩;rcases d rfl with d|d
   ·exact .inr ⟨_,_,d.grow (by omega)⟩
   ·exact .inr ⟨_,_,d.grow (by omega)⟩
  ·subst e4
   obtain⟨j,d,l,O⟩:=X D;rw[i] at j;obtain⟨N,H,G⟩:=j rfl;exact⟨fun p b=>l _ _ (g b).1 (g b).2 (fun a q=>q.synced) (K2 p b),fun t=>(by cases t),fun _=>⟨N.grow (by omega),H,G,O2.install Y x (by omega) D,fun e=>absurd e hle⟩⟩
theorem Ba(b:s.m.runs≠[]):s.j8.m=s.m.Xm s.live/\s.j8.bs=s.bs:=by
 unfold Rf.St.j8 Rf.Man.Xm;rw[if_neg b]
 split<;>exact⟨rfl,rfl⟩
theorem Norm.jej(h:Norm S U s Q)(c:s.m.runs≠[])(B:s.live.length<60000)(g:s.m.next+1<=2000000000)(u:Q.now s.j8)(C:(Rf.j7 s.live).length<=20000)(r:Qk s.m s.live S S' true) :
 Jm (jc.jr (s.m.settled.map jo) S').1 s.j8/\Pow (jc.jr (s.m.settled.map jo) S').1 (U+90+(Rf.j7 s.live).length) s.j8.m s.j8.bls Q.whole /\
 ((jc.jr (s.m.settled.map jo) S').2=true->Norm (jc.jr (s.m.settled.map jo) S').1 (U+90+(Rf.j7 s.live).length) s.j8 Q.whole):=by
 obtain⟨_,_,H⟩:=h.Tj c B g u C r;obtain⟨P,L,A,O,D⟩:=H rfl;have l:=h.ok.j8 (by omega) g;have x:=fc h.ok
 have j:s.j8.m.settled=if s.live=[] then [] else [s.m.next]:=by
  unfold Rf.St.j8;rw[if_neg c]
  split
  ·exact Rf.Man.ng _
  ·exact Rf.Man.br x
 have d:s.j8.m.log=s.m.log/\s.j8.m.last=s.m.last:=by
  unfold Rf.St.j8;rw[if_neg c]
  split<;>exact⟨rfl,rfl⟩
 have f:∀ n∈s.m.settled.map jo,Idle s.j8.m n:=fun n g=>by
  obtain⟨q,y,rfl⟩:=zS.1 g;refine⟨fun e=>gq _ e.symm,fun o=>?_⟩;rcases ZA.1 o with o|o
  ·obtain⟨k,i,e⟩:=zS.1 o
   rw[j] at i
   split at i
   ·cases i
   ·have F:=gj e
    have E:=zZ.1 i;have:=(h.ok.Bp y).2;omega
  ·exact Yj _ _ (zZ.1 o).symm
 have v:=P.removeAll (s.m.settled.map jo) f;have t:=(Ba c).2;have z:s.j8=⟨s.j8.m,s.bs,s.j8.bls⟩:=by rw[<-t]
 refine⟨v.held.2.1,v,fun ok=>?_⟩;rw[z];rw[z] at l u;refine kj v (ed _ L ok) ?_ l u ?_
 ·rw[d.1,d.2]
  exact At.removeAll P (s.m.settled.map jo) f A (fun e=>by
   obtain⟨q,y,e⟩:=zS.1 e
   exact Yj _ _ e.symm)
 ·by_cases hle:s.live=[]
  ·refine((D hle).removeAll P _ f ok).sub (fun n g=>?_)
   obtain⟨b,p⟩:=ZD.1 g;simp only[decide_eq_true_eq] at p;rw[Qh,d.1];rcases zF.1 b with e|b
   ·exact .inr (.inr e)
   rcases Qh.1 b with⟨k,i,e⟩|e|e
   ·exact absurd (zS.2 ⟨k,i,e.symm⟩) p
   ·exact .inr (.inl e)
   ·exact .inr (.inr e)
  ·refine(O.removeAll P _ f ok).sub (fun n g=>?_)
   obtain⟨b,p⟩:=ZD.1 g;simp only[decide_eq_true_eq] at p;rw[Qh,d.1,j,if_neg hle];rcases zF.1 b with e|b
   ·exact .inr (.inr e)
   rcases zF.1 b with e|b
   ·exact .inl ⟨_,zR,e⟩
   rcases Qh.1 b with⟨k,i,e⟩|e|e
   ·exact absurd (zS.2 ⟨k,i,e.symm⟩) p
   ·exact .inr (.inl e)
   ·exact .inr (.inr e)
end Go.Proofs.YtnipbplghijdmaaGreatDoor
namespace Go.Proofs.YtnipbplghijdmaaGreatDoor
open RowKit Maps WideShapes
variable {S S':jc} {U:Nat} {m:Rf.Man} {bls:List (List Rf.Ch)} {Q R:Want} {s:Rf.St}
theorem Pow.keys(h:Pow S U m bls Q):S.keys.Nodup/\(∀ n,n∈S.keys↔∃ f,S.at n=some f)/\∀ n∈S.keys,At S n (fun _=>True):=by
 obtain⟨T,b,l⟩:=h.cur;have g:View S (Qm S.files T):=⟨T,b.fs,List.Perm.refl _⟩;have j:=g.keys
 have d:∀ n,n∈S.keys↔∃ f,S.at n=some f:=fun n=>by
  rw[j.mem_iff];unfold Qm;rw[ZE,zS];constructor
  ·rintro⟨p,i,rfl⟩
   exact⟨p.2,b.fs.at.2 i⟩
  ·rintro⟨f,c⟩
   exact⟨(n,f),b.fs.at.1 c,rfl⟩
 refine⟨g.jbn,d,fun n hn=>?_⟩;obtain⟨f,c⟩:=(d n).1 hn;obtain⟨a,k⟩:=b.files _ (b.fs.at.1 c);exact⟨f,a,c,k,trivial⟩
theorem Ox(ks:List Str)(S:jc):(S.bad=true/\jc.zl ks S=(S.called false,false))\/(S.bad=false/\jc.zl ks S=jc.jr (others ks S.keys) (S.called false)):=by
 unfold jc.zl
 cases hb:S.bad with
 | true=>exact .inl ⟨rfl,by simp⟩
 | false=>exact .inr ⟨rfl,by simp⟩
theorem Pow.clear(h:Pow S U m bls Q):Pow (jc.zl (ju m) S).1 U m bls Q/\(∀ n P,n∈ju m->At S n P->At (jc.zl (ju m) S).1 n P) /\
 ((jc.zl (ju m) S).2=true->(S.late=[]->(jc.zl (ju m) S).1.late=[])/\Qf (jc.zl (ju m) S).1 (ju m)) /\
 (qe S->(jc.zl (ju m) S).2=true/\qe (jc.zl (ju m) S).1):=by
 have c:=h.called false;obtain⟨l,k,p⟩:=h.keys
 have d:∀ n,n∈others (ju m) S.keys↔n∈S.keys/\n∉ju m:=fun n=>by
  unfold others;rw[ZD];simp
 have b:∀ n∈others (ju m) S.keys,Idle m n:=fun n hn=>jbu ((d n).1 hn).2;have i:(others (ju m) S.keys).Nodup:=l.sublist ZF;rcases Ox (ju m) S with⟨g,e⟩|⟨g,e⟩
 ·rw[e]
  exact⟨c,fun n P _ q=>q.zu rfl rfl,fun t=>(by cases t),fun w=>by rw[w.bad] at g;cases g⟩
 ·rw[e]
  refine⟨c.removeAll _ b,fun n P hn q=>At.removeAll c _ b (q.zu rfl rfl) (fun t=>((d n).1 t).2 hn),fun ok=>⟨fun hl=>ed _ hl ok,?_⟩,fun w=>Gp c (w.called false) _ b i (fun n hn=>(p n ((d n).1 hn).1).zu rfl rfl)⟩;have o:Qf (S.called false) S.keys:=fun n f hf=>(k n).2 ⟨f,hf⟩;refine(o.removeAll c _ b ok).sub (fun n hn=>?_);obtain⟨r,j⟩:=ZD.1 hn;simp only[decide_eq_true_eq] at j;exact yE (fun h3=>j ((d n).2 ⟨r,h3⟩))
def Pd(S:jc)(U:Nat)(s:Rf.St)(Q:Want)(No Yes:jc->Prop):Prop:=(∃ T,No T/\Safe T U Q/\¬qe S)\/∃ T,Yes T/\Norm T U s Q/\At T (jh s.m.log) (yw (Rf.jk s.m.last s.bs))/\(qe S->qe T)
theorem Pow.U4(h:Pow S U m bls Q){bs:List (List Rf.Ch)}(I:At S (jh m.log) (fun a=>a.bytes=Rf.jk m.last bs))(x:(⟨m,bs,bls⟩:Rf.St).Ok)(L:Q.now ⟨m,bs,bls⟩){C l:jc->Prop}(r:Xn S (Fn (jc.xx (ju m))) m C l):Pd S U ⟨m,bs,bls⟩ Q C l:=by
 obtain⟨c,g,⟨G,j⟩|⟨s,u,E,k⟩⟩:=r
 ·exact .inl ⟨c,j,⟨_,_,g.pow h⟩,G⟩
 have y:=g.pow h;have F:=g.at I;have b:jc.xx (ju m) c=(s,u):=E;have t:=y.sure (ju m)
 have o:∀ n∈ju m,At c n (fun _=>True):=fun n hn=>by
  obtain⟨V,T,R⟩:=y.held;rcases Qh.1 hn with⟨q,H,rfl⟩|rfl|rfl
  ·obtain⟨i,W,e⟩:=ZG.1 H
   have D:bls.length=m.settled.length:=x.len;exact(T (jo q,Rf.j7 (bls[i]'(by omega))) (J9.2 ⟨(q,bls[i]'(by omega)),by rw[<-e];exact ZG.2 ⟨i,by rw[List.length_zip];omega,by simp⟩,rfl⟩)).mono (fun _ _=>trivial)
  ·exact R.mono (fun _ _=>trivial)
  ·exact V.mono (fun _ _=>trivial)
 have p:qe c->(jc.xx (ju m) c).2=true/\qe (jc.xx (ju m) c).1:=fun w=>L0 w _ o;rw[b] at t p;rcases k with⟨rfl,j⟩|⟨rfl,k⟩
 ·exact .inl ⟨s,j,⟨_,_,t⟩,fun w=>by have:=(p (g.ou w)).1;cases this⟩
 have v:At s (jh m.log) (yw (Rf.jk m.last bs)):=by
  have:=tj F (ju m) (Qh.2 (.inr (.inl rfl))) (by rw[b]) (fun a e=>e);rw[b] at this;exact this.mono (fun a q=>by rw[<-q.1];exact q.2)
 have f:s.late=[]:=by have:=L5 (S:=c) (ju m) (by rw[b]);rwa [b] at this
 obtain⟨B,A,O,z⟩:=t.clear;rcases k with⟨d,J⟩|⟨d,j⟩
 ·obtain⟨N,M⟩:=O d
  exact .inr ⟨_,J,kj B (N f) (A _ _ (Qh.2 (.inr (.inl rfl))) v) x L M,A _ _ (Qh.2 (.inr (.inl rfl))) v,fun w=>(z (p (g.ou w)).2).2⟩
 ·exact .inl ⟨_,j,⟨_,_,B⟩,fun w=>by have:=(z (p (g.ou w)).2).1;rw[d] at this;cases this⟩
theorem Uo{bs:List (List Rf.Ch)}(h:(⟨m,bs,bls⟩:Rf.St).Ok)(b:m.next+1<=2000000000):(⟨m.xw,bs,bls⟩:Rf.St).Ok :=
 ⟨(show m.Good from h.y7).xw b,h.runs,h.len,h.bl,h.log,h.cap⟩
theorem Pow.jbd(h:Pow S U m bls Q){bs:List (List Rf.Ch)}{g:List UInt8}(hl:At S (jh m.log) (fun a=>a.bytes=Rf.jk m.last bs++g))(H:(⟨m,bs,bls⟩:Rf.St).Ok)(c:m.next+1<=2000000000)(O:Q.now ⟨m.xw,bs,bls⟩)(h6:(Rf.jk m.last bs).length<=20000)(h7:m.bytes.length<=20000)(hU:U+4+(Rf.jk m.last bs).length+2*m.bytes.length<=20000){No B:jc->Prop}(r:Xn S (Bt m (Rf.jk m.last bs)) m.xw No B):Pd S (U+4+(Rf.jk m.last bs).length+2*m.bytes.length) ⟨m.xw,bs,bls⟩ Q No B:=by
 obtain⟨L,y,⟨hw,x⟩|⟨v,o,u,k⟩⟩:=r
 ·exact .inl ⟨L,x,⟨_,_,(y.pow h).grow (by omega)⟩,hw⟩
 have I:=y.pow h;have hg:m.Good:=H.y7;have A:m.xw.bytes.length=m.bytes.length:=by rw[ql,ql];rfl
 have f:=Uo H c;unfold Bt at u;have M:m.next<=9223372036854775807:=by omega
 have L2:∀ {T ok},Xp (jh m.next) (Rf.jk m.last bs) L T ok->_:=fun {T} {ok} q=>I.lay (Ss hg (zJ _)) (Jt _) (mm M) (by omega) q
 have key:(o=false->Safe v (U+4+(Rf.jk m.last bs).length+2*m.bytes.length) Q)/\(o=true->Pow v (U+4+(Rf.jk m.last bs).length+2*m.bytes.length) m.xw bls Q/\v.late=[]/\At v (jh m.xw.log) (yw (Rf.jk m.last bs)))/\(qe L->o=true/\qe v):=by
  rcases u with⟨u,rfl⟩|⟨T,u,k2⟩
  ·obtain⟨z,d,Y,j⟩:=L2 u
   exact⟨fun _=>⟨_,_,z.grow (by omega)⟩,fun t=>(by cases t),fun w=>by have:=(j w (by omega)).1;cases this⟩
  obtain⟨P2,F,B2,Z⟩:=L2 u;have F:=F rfl
  have hR:My T m.xw bls bs Q:=by
   have E:∀ n∈m.settled.map jo,At T n (fun _=>True):=fun n c=>by
    obtain⟨q,hq,rfl⟩:=zS.1 c;obtain⟨i,hi,e⟩:=ZG.1 hq;have a7:bls.length=m.settled.length:=H.len;refine B2 _ _ (fun e=>Yj _ _ e.symm) ((I.held.2.1 (jo q,Rf.j7 (bls[i]'(by omega))) (J9.2 ⟨(q,bls[i]'(by omega)),by rw[<-e];exact ZG.2 ⟨i,by rw[List.length_zip];omega,by simp⟩,rfl⟩)).mono (fun _ _=>trivial))
   refine⟨fun p hp=>B2 _ _ (vq hp _) ((I.held.2.1 p hp).mono (fun a q=>q.bytes)),F.mono (fun a q=>q.1),f,fun n c=>?_,O⟩;rcases ZA.1 c with c|c
   ·exact E n c
   ·rw[zZ.1 c]
    exact F.mono (fun _ _=>trivial)
  have R:∀ {J ok4},yt m.xw T J ok4->_:=fun {J} {ok4} q=>P2.install hR (by omega) q;rcases k2 with⟨G,rfl⟩|⟨J,G,e4,rfl⟩
  ·obtain⟨z,d,Y,j⟩:=R G
   rw[A] at d j;refine⟨fun _=>?_,fun t=>(by cases t),fun w=>by have:=(j (Z w (by omega)).2 (by omega)).1;cases this⟩;rcases d rfl with d|d
   ·exact⟨_,_,d.grow (by omega)⟩
   ·exact⟨_,_,d.grow (by omega)⟩
  ·subst e4
   obtain⟨z,d,Y,j⟩:=R G;rw[A] at z j;obtain⟨b1,b2,b3⟩:=z rfl;exact⟨fun t=>(by cases t),fun _=>⟨b1.grow (by omega),b2,b3⟩,fun w=>⟨rfl,(j (Z w (by omega)).2 (by omega)).2⟩⟩
 obtain⟨D,C,b⟩:=key;rcases k with⟨rfl,x⟩|⟨rfl,k⟩
 ·exact .inl ⟨v,x,D rfl,fun w=>by have:=(b (y.ou w)).1;cases this⟩
 obtain⟨P3,s,N⟩:=C rfl;obtain⟨X,W,c3,V⟩:=P3.clear;rcases k with⟨l,hY⟩|⟨l,x⟩
 ·obtain⟨d1,d2⟩:=c3 l
  exact .inr ⟨_,hY,kj X (d1 s) (W _ _ (Qh.2 (.inr (.inl rfl))) N) f O d2,W _ _ (Qh.2 (.inr (.inl rfl))) N,fun w=>(V (b (y.ou w)).2).2⟩
 ·exact .inl ⟨_,x,⟨_,_,X⟩,fun w=>by have:=(V (b (y.ou w)).2).1;rw[l] at this;cases this⟩
end Go.Proofs.YtnipbplghijdmaaGreatDoor

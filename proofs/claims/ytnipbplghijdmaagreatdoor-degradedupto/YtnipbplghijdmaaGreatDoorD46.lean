/-
  D: OwnR2 OwnR3 BookP SameR DownR FullR KeepR OpenedR BookR BookS CrashedR ActR.
-/
import Derived.Test.YtnipbplghijdmaaGreatDoorD45
import Derived.Test.YtnipbplghijdmaaGreatDoorD34
set_option maxRecDepth 100000
set_option maxHeartbeats 8000000
set_option linter.unusedVariables false
set_option linter.unusedSimpArgs false
namespace Go.Proofs.YtnipbplghijdmaaGreatDoor
open RowKit Maps WideShapes Go.Proofs.Tryz
variable {E:Nat->Addr} {B:Nat} {w w':World} {d b k U:Nat} {S S':jc} {s:Rf.St} {deg:Bool} {F:Nat->Prop} {Q R:Want}
def Left(S:jc)(U:Nat)(Q:Want):Prop:=Safe S (U+600) Q\/Safe S (U+14000) Q.whole
def Bi(S:jc)(U:Nat)(s:Rf.St)(Q:Want):Prop:=Norm S (U+600) s Q\/Norm S (U+14000) s Q.whole
theorem Bi.left(h:Bi S U s Q):Left S U Q:=h.imp (fun h=>h.safe) (fun h=>h.safe)
theorem Bi.norm(h:Bi S U s Q):Norm S (U+14000) s Q:=by
 rcases h with h|h
 ·exact h.mono (by omega) (Want.Le.refl _)
 ·exact h.mono (zJ _) Q.Fc
theorem Norm.bare(h:Norm S U s Q)(b:s.bs=[]):At S (jh s.m.log) (yw (Rf.jk s.m.last s.bs)):=h.log.mono (fun a ⟨bs,u,e,hF,_⟩=>by
 rw[b] at e
 obtain⟨rfl,rfl⟩:=List.append_eq_nil_iff.1 e.symm
 rw[b]
 exact⟨by rw[hF.bytes];simp,hF.safe,by rw[hF.late];rfl⟩)
theorem Ia{s:Rf.St}(h:s.Ok)(f:qu s.files<=5000):4+(Rf.j7 s.mem).length+2*(s.m.yh s.last).bytes.length<=14000/\(Rf.j7 s.mem).length<=20000/\(s.m.yh s.last).bytes.length<=20000:=by
 have i:=f;rw[Ys,ql,Rf.gv] at i;have o:=ql (s.m.yh s.last);have n:(s.m.yh s.last).runs.length=s.m.runs.length+1:=rfl
 have k:=(Rf.ra (l:=s.mem) (fun c hc=>by
  obtain⟨b,g,d⟩:=Rf.vo hc
  exact(ft h).1 b g c d)).1
 have j:Rf.sg s.mem<=Rf.sgs s.bs:=Rf.ja3 s.bs;omega
theorem Bb{s:Rf.St}(h:s.Ok)(f:qu s.files<=5000):90+(Rf.j7 s.live).length<=14000:=by
 have g:=f;rw[Ys,ql,Rf.gv] at g;have n:=ig s.m.settled s.bls h.len (ft h).2
 have k:=(Rf.ra (l:=s.live) (fun c hc=>by
  obtain⟨l,b,d⟩:=Rf.Hl (fun l b=>(h.bl l b).rising) (Rf.Bm _ c hc)
  exact(h.bl l b).allowed c d)).1
 have j:Rf.sg s.live<=Rf.sg (Rf.merged s.bls):=Rf.jcu _;have i:=Rf.ja2 s.bls;omega
theorem Zg{V:List (Str×List UInt8)}{n:Str}(h:∃ b,(n,b)∈V)(m:Str)(c:List UInt8):∃ b,(n,b)∈Xb V m c:=by
 obtain⟨b,d⟩:=h;by_cases e:n=m
 ·exact⟨c,by rw[e];exact zR⟩
 ·exact⟨b,zQ _ (ZD.2 ⟨d,by simpa using e⟩)⟩
theorem C1{V:List (Str×List UInt8)}{n m:Str}(h:∃ b,(n,b)∈V)(c:n≠m):∃ b,(n,b)∈jn V m:=by
 obtain⟨b,d⟩:=h;exact⟨b,ZD.2 ⟨d,by simpa using c⟩⟩
theorem vf(V:List (Str×List UInt8))(n:Str)(b:List UInt8):qu (Xb V n b)<=b.length+qu V:=by
 unfold Xb;rw[zx];have:=yn V n;simp only;omega
theorem Norm.Ib(N:Norm S U s Q)(F:qe S)(Y:total S.files S.names<=5000){j:Bool}(r:r8 s.m s.last s.mem S S' j):j=true/\qe S'/\(jc.jr [jh s.m.log] S').2=true/\qe (jc.jr [jh s.m.log] S').1:=by
 obtain⟨V,G,e,t⟩:=N.M0;have J:=N.qu;obtain⟨X,W,T⟩:=Ia N.ok (by omega);have i:=t _ _ N.log;obtain⟨c,v⟩:=i;obtain⟨x,g,f⟩:=F.sync G v;have R:=yn V (jo s.m.next);have O:=vf V (jo s.m.next) (Rf.j7 s.mem);have M:=yn (Xb V (jo s.m.next) (Rf.j7 s.mem)) (jh (s.m.next+1));have y:=vf (Xb V (jo s.m.next) (Rf.j7 s.mem)) (jh (s.m.next+1)) [];have L:=yn (Xb (Xb V (jo s.m.next) (Rf.j7 s.mem)) (jh (s.m.next+1)) []) jq
 have u:∀ n∈jt (s.m.yh s.last),∃ b,(n,b)∈Xb (Xb V (jo s.m.next) (Rf.j7 s.mem)) (jh (s.m.next+1)) []:=fun n d=>by
  rcases ZA.1 d with d|d
  ·rw[Rf.Man.J7] at d
   rcases zF.1 d with rfl|d
   ·exact Zg ⟨_,zR⟩ _ _
   ·exact Zg (Zg (t _ _ (N.Br d)) _ _) _ _
  ·rw[zZ.1 d]
   exact⟨_,zR⟩
 simp only[zX,xK] at y;unfold r8 at r;obtain⟨r,_⟩|⟨I,E,r⟩:=r
 ·have e:S.qn (jh s.m.log)=(S',false):=r
  rw[e] at x;cases x
 have H:S.qn (jh s.m.log)=(I,true):=E;rw[H] at g f;obtain⟨r,_⟩|⟨S2,D,r⟩:=r
 ·obtain⟨e,_⟩:=g.lay (Jc _) f (by omega) r
  cases e
 obtain⟨_,q,p⟩:=g.lay (Jc _) f (by omega) D;obtain⟨r,_⟩|⟨S3,C,r⟩:=r
 ·obtain⟨e,_⟩:=q.lay (Jt _) p (by simp only[zX];omega) r
  cases e
 obtain⟨_,o,l⟩:=q.lay (Jt _) p (by simp only[zX];omega) C;obtain⟨r,_⟩|⟨Z,B,rfl,rfl⟩:=r
 ·obtain⟨e,_⟩:=o.install l u (by omega) r
  cases e
 obtain⟨_,k,m2,_⟩:=o.install l u (by omega) B
 obtain⟨A,z,_⟩:=k.removeAll m2 [jh s.m.log] (by simp) (fun n d=>by
  rw[zZ.1 d]
  exact Zg (C1 (Zg (Zg ⟨c,v⟩ _ _) _ _) (Ez _).symm) _ _)
 exact⟨rfl,k,A,z⟩
theorem Norm.I3(N:Norm S U s Q)(C:qe S)(hv:total S.files S.names<=5000){z:Bool}(r:Qk s.m s.live S S' z):z=true/\qe S'/\(jc.jr (s.m.settled.map jo) S').2=true/\qe (jc.jr (s.m.settled.map jo) S').1:=by
 obtain⟨V,D,e,o⟩:=N.M0;have O:=N.qu;have r1:=Bb N.ok (by omega);obtain⟨c,p⟩:=o _ _ N.log
 have u:(s.m.settled.map jo).Nodup:=by
  refine xS.2 (List.Pairwise.imp ?_ N.ok.Ai);intro a b y e;exact y (gj e)
 have j:∀ {T:jc} {W:List (Str×List UInt8)} {x:List UInt8},qe T->View T (Xb (jn W jq) ji x)->(∀ n∈s.m.settled.map jo,∃ b,(n,b)∈W)->(jc.jr (s.m.settled.map jo) T).2=true/\qe (jc.jr (s.m.settled.map jo) T).1:=fun {T W x} h1 h2 h3=>by
  obtain⟨g,f,_⟩:=h1.removeAll h2 (s.m.settled.map jo) u (fun n d=>by
   refine Zg (C1 (h3 n d) (fun e=>?_)) _ _
   obtain⟨k,_,rfl⟩:=zS.1 d
   exact Ey k e.symm)
  exact⟨g,f⟩
 have b1:s.m.bare.bytes.length=42:=by rw[ql];rfl
 have b2:s.m.zh.bytes.length=42:=by rw[ql];rfl
 have Z:=yn V jq;have Y:=yn V (jo s.m.next);have X:=vf V (jo s.m.next) (Rf.j7 s.live);have R:=yn (Xb V (jo s.m.next) (Rf.j7 s.live)) jq;unfold Qk at r
 split at r
 ·have l:∀ n∈jt s.m.bare,∃ b,(n,b)∈V:=fun n d=>by
   have v:n∈[jh s.m.log]:=d;rw[zZ.1 v];exact⟨c,p⟩
  obtain⟨L,i,m2,_⟩:=C.install D l (by omega) r
  obtain⟨g,f⟩:=j i m2 (fun n d=>o _ _ (N.Br d))
  exact⟨L,i,g,f⟩
 ·obtain⟨E,t,q⟩:=C.sync D p
  have l:∀ n∈jt s.m.zh,∃ b,(n,b)∈Xb V (jo s.m.next) (Rf.j7 s.live):=fun n d=>by
   rcases ZA.1 d with d|d
   ·have I:s.m.zh.settled=[s.m.next]:=by
     unfold Rf.Man.settled Rf.Man.zh;rw[if_neg (by have:=fc N.ok;simp only;omega)];rfl
    rw[I] at d
    rw[zZ.1 d]
    exact⟨_,zR⟩
   ·rw[zZ.1 d]
    exact Zg ⟨c,p⟩ _ _
  obtain⟨r,_⟩|⟨M,H,r⟩:=r
  ·have e:S.qn (jh s.m.log)=(S',false):=r
   rw[e] at E;cases E
  have J:S.qn (jh s.m.log)=(M,true):=H;rw[J] at t q;obtain⟨r,_⟩|⟨S2,G,r⟩:=r
  ·obtain⟨e,_⟩:=t.lay (Jc _) q (by omega) r
   cases e
  obtain⟨_,B,A⟩:=t.lay (Jc _) q (by omega) G;obtain⟨r,_⟩|⟨S4,F,rfl,rfl⟩:=r
  ·obtain⟨e,_⟩:=B.install A l (by omega) r
   cases e
  obtain⟨_,i,m2,_⟩:=B.install A l (by omega) F;obtain⟨g,f⟩:=j i m2 (fun n d=>Zg (o _ _ (N.Br d)) _ _);exact⟨rfl,i,g,f⟩
theorem H9(b:s.bs=[]):s.flush=s:=by unfold Rf.St.flush;rw[if_pos b]
theorem jan(O:Qu E B w d b S 60000 s false F)(N:Norm S U s Q)(M:U<=6000)(p:total S.files S.names<=5000)(q:s.m.next+2<=2000000000)(v:Q.now s.flush) :
 Calls prog 26 #[.pointer (some ⟨b,0,none⟩)] w fun e w'=>(e = .returned (.int .i64 0)/\∃ S',qg E B w d b S' 60000 s.flush false F w'/\Bi S' U s.flush Q/\At S' (jh s.flush.m.log) (yw (Rf.jk s.flush.m.last s.flush.bs))/\Cl S S'/\(qe S->qe S')) \/
  (e = .returned (.int .i64 1)/\∃ S' s',qg E B w d b S' 130000 s' true F w'/\(s'=s\/s'=s.flush)/\Left S' U Q/\Jm S' s'/\Cl S S'/\¬qe S):=by
 obtain⟨ρ,rv,L,T,k⟩:=O;have j:=(N.bnd (by omega));have G:=N.qu;obtain⟨J,n,l⟩:=Ia N.ok (by omega);by_cases hb:s.bs=[]
 ·have e:s.last=s.m.last:=by unfold Rf.St.last;rw[hb];rfl
  refine(Pg T e).mono ?_;rintro e w' ⟨rfl,h⟩;rw[H9 hb];exact .inl ⟨rfl,S,qg.of (s':=s) T k h,.inl (N.mono (by omega) (Want.Le.refl _)),N.bare hb,Cl.refl _,id⟩
 ·have u:s.m.last<s.last:=by unfold Rf.St.last;have:=ZX.2 hb;omega
  have H:=j.runs;have I:=j.mem;refine(Pf T u (fun W kk=>jfy (T.same kk) (by omega) (Rf.St.Vb N.ok hb (by omega)) N.ok.cap q (by omega) n l)).mono ?_;rintro e w' ⟨y,D,r,⟨rfl,g,h⟩|⟨rfl,g,h⟩⟩
  ·obtain⟨t,f,x⟩:=N.jec hb (by omega) q (by omega) v n l r
   refine .inr ⟨g,y,s,qg.of (s':=s) T k h,.inl rfl,?_,t,J2.flush _ _ _ _ _ _ r,fun hw=>(by cases (N.Ib hw p r).1)⟩;rcases f rfl with⟨o,b',f⟩|⟨o,b',f⟩
   ·exact .inl ⟨o,b',f.grow (by omega)⟩
   ·exact .inr ⟨o,b',f.grow (by omega)⟩
  ·obtain⟨t,f,x⟩:=N.jg8 hb (by omega) q (by omega) v n l r
   have C:=Az hb;have c:s.flush.m=s.m.yh s.last/\s.flush.last=s.last/\s.flush.mem=[]:=by rw[C];exact⟨rfl,by show s.last+0=s.last;omega,rfl⟩
   cases hok:(jc.jr [jh s.m.log] y).2 with
   | true =>
    obtain⟨A,z⟩:=x hok;rw[hok] at g h;have i:=A.mono (V:=U+14000) (by omega) (Want.Le.refl _);exact .inl ⟨g,_,(qg.of (s':=s.flush) T k (by rw[c.1,c.2.1,c.2.2];exact h)).fit (i.fit (by omega)),.inr i,z,(J2.flush _ _ _ _ _ _ r).trans (Cl.removeAll _ _),fun hw=>(N.Ib hw p r).2.2.2⟩
   | false =>
    rw[hok] at g h;exact .inr ⟨g,_,s.flush,qg.of (s':=s.flush) T k (by rw[c.1,c.2.1,c.2.2];exact h),.inr rfl,.inr ⟨_,_,f.grow (by omega)⟩,t,(J2.flush _ _ _ _ _ _ r).trans (Cl.removeAll _ _),fun hw=>(by rw[(N.Ib hw p r).2.2.1] at hok;cases hok)⟩
theorem mx(b:s.m.runs=[]):s.j8=s:=by unfold Rf.St.j8;rw[if_pos b]
theorem my(h:s.m.runs≠[]):s.j8.last=s.last/\s.j8.mem=s.mem:=by
 unfold Rf.St.j8;rw[if_neg h]
 split<;>exact⟨rfl,rfl⟩
theorem Mo(O:Qu E B w d b S 60000 s false F)(N:Norm S U s Q)(R:U<=6000)(x:total S.files S.names<=5000)(n:s.m.next+1<=2000000000)(y:Q.now s.j8) :
 Calls prog 27 #[.pointer (some ⟨b,0,none⟩)] w fun e w'=>(e = .returned (.int .i64 0)/\∃ S',qg E B w d b S' 60000 s.j8 false F w'/\Bi S' U s.j8 Q/\Cl S S'/\(qe S->qe S')) \/
  (e = .returned (.int .i64 1)/\∃ S' s',qg E B w d b S' 160000 s' true F w'/\(s'=s\/s'=s.j8)/\Left S' U Q/\Jm S' s'/\Cl S S'/\¬qe S):=by
 obtain⟨ρ,rv,D,T,k⟩:=O;have l:=(N.bnd (by omega));have I:=N.qu;have M:=Bb N.ok (by omega);by_cases hb:s.m.runs=[]
 ·refine(Km T hb).mono ?_
  rintro e w' ⟨rfl,h⟩;rw[mx hb];exact .inl ⟨rfl,S,qg.of (s':=s) T k h,.inl (N.mono (by omega) (Want.Le.refl _)),Cl.refl _,id⟩
 ·have J:=l.mrg
  have L:=l.live
  have q:Calls prog 69 #[.pointer (some ⟨b,0,none⟩)] w (X1 E B w ρ d b rv D S 60000 s.m s.last s.mem s.live):=by
   by_cases hle:s.live=[]
   ·exact I4 T (by omega) n N.ok.len N.ok.bl N.Q5.bytes (by omega) rfl hle
   ·exact I2 T (by omega) n N.ok.len N.ok.bl N.Q5.bytes (by omega) rfl hle (Rf.St.jai N.ok hle (by omega)) (by omega)
  refine(Kl T hb q).mono ?_;rintro e w' ⟨G,c,⟨f,i,h⟩|⟨C,H,r,⟨rfl,i,h⟩|⟨rfl,i,h⟩⟩⟩
  ·exact .inr ⟨i,G,s,qg.of (s':=s) T k h,.inl rfl,.inl ⟨_,_,(c.pow N.pow).grow (by omega)⟩,(N.looked c).Q5,c.cut,f⟩
  ·have g:=fun f=>(N.looked c).I3 (c.ou f) (by rw[c.files,c.names];exact x) r
   obtain⟨p,j,A⟩:=(N.looked c).Tj hb (by omega) n y (by omega) r;refine .inr ⟨i,C,s,qg.of (s':=s) T k h,.inl rfl,?_,p,Cl.trans c.cut (J2.j8 _ _ _ _ _ r),fun f=>(by cases (g f).1)⟩;rcases j rfl with⟨o,b',j⟩|⟨o,b',j⟩
   ·exact .inl ⟨o,b',j.grow (by omega)⟩
   ·exact .inr ⟨o,b',j.grow (by omega)⟩
  ·have g:=fun f=>(N.looked c).I3 (c.ou f) (by rw[c.files,c.names];exact x) r
   obtain⟨p,j,A⟩:=(N.looked c).jej hb (by omega) n y (by omega) r;have z:=(Ba hb).1;obtain⟨v,u⟩:=my hb
   cases hok:(jc.jr (s.m.settled.map jo) C).2 with
   | true =>
    have t:=(A hok).mono (V:=U+14000) (by omega) (Want.Le.refl _);rw[hok] at i h;exact .inl ⟨i,_,(qg.of (s':=s.j8) T k (by rw[z,v,u];exact h)).fit (t.fit (by omega)),.inr t,(Cl.trans c.cut (J2.j8 _ _ _ _ _ r)).trans (Cl.removeAll _ _),fun f=>(g f).2.2.2⟩
   | false =>
    rw[hok] at i h;refine .inr ⟨i,_,s.j8,qg.of (s':=s.j8) T k (by rw[z,v,u];exact h),.inr rfl,.inr ⟨_,_,j.grow (by omega)⟩,p,(Cl.trans c.cut (J2.j8 _ _ _ _ _ r)).trans (Cl.removeAll _ _),fun f=>(by rw[(g f).2.2.1] at hok;cases hok)⟩
end Go.Proofs.YtnipbplghijdmaaGreatDoor
namespace Go.Proofs.YtnipbplghijdmaaGreatDoor
open RowKit Maps WideShapes Go.Proofs.Tryz
variable {E:Nat->Addr} {B:Nat} {w w':World} {d b k U V:Nat} {S S':jc} {s:Rf.St} {deg:Bool} {F:Nat->Prop} {Q R:Want} {m:Rf.Man} {bls:List (List Rf.Ch)} {ρ:Nat->j3}
theorem Pow.len(h:Pow S U m bls Q){n:Str}{P:jz->Prop}(i:At S n P):At S n (fun a=>P a/\a.bytes.length<=U):=by
 obtain⟨T,c,j⟩:=h.cur;obtain⟨f,a,g,d,k⟩:=i;refine⟨f,a,g,d,k,ZI ?_ c.size⟩;have b:=c.fs.at.1 g;clear c j
 induction T with
 | nil=>cases b
 | cons x r ih =>
  rw[Qj];rcases zF.1 b with e|b
  ·subst e
   have:xm S.files f=a.bytes:=by unfold xm;rw[d];rfl
   simp only[this];omega
  ·have:=ih b
   omega
theorem Va{last:Nat}{bs:List (List Rf.Ch)}(h:∀ b∈bs,Rf.zq b=true)(c:(Rf.jk last bs).length<=20000):(Rf.memory bs).length<20000:=by
 rw[Rf.gv] at c;have f:=Rf.Ho (ls:=bs) (fun b hb=>((Rf.Ji b).1 (h b hb)).2.2);have d:(Rf.memory bs).length<=Zt bs:=Hk bs;omega
def Tx(E:Nat->Addr)(B:Nat)(w:World)(ρ:Nat->j3)(d:Nat)(S:jc)(V k:Nat)(R:Want)(e:Ending)(w':World):Prop :=
 (e = .returned (.tuple #[.pointer none,.int .i64 1])/\¬qe S/\∃ ρ' S',Dk E B w' ρ' d S'/\Fit k S'/\Safe S' V R/\Cl S S'/\ja w w' (fun i=>ρ i≠ .none)/\∀ i,i<w.heap.size->ρ' i=ρ i) \/
 ∃ b F S' s,e = .returned (.tuple #[.pointer (some ⟨b,0,none⟩),.int .i64 0])/\w.heap.size<=b/\Qu E B w' d b S' 60000 s false F/\Norm S' V s R/\At S' (jh s.m.log) (yw (Rf.jk s.m.last s.bs))/\(qe S->qe S')/\Cl S S'/\ja w w' (fun i=>ρ i≠ .none)/\∀ i,F i->ρ i≠ .none\/w.heap.size<=i
theorem Tx.of{e:Ending}(C:V<=60000)(I:R.now s)(h:Pd S V s R (fun T=>jav E B w ρ d k e w' T/\Cl S T) (fun T=>Wo E B w ρ d k s.m s.last s.mem e w' T/\Cl S T)):Tx E B w ρ d S V k R e w':=by
 rcases h with⟨T,⟨⟨l,f,H,G,g,j⟩,o⟩,D,x⟩|⟨T,⟨⟨b,f,rv,v,l,z,M,g,j,y,q⟩,o⟩,N,F,A⟩
 ·exact .inl ⟨l,x,f,T,H,G,D,o,g,j⟩
 ·refine .inr ⟨b,fun i=>StF f b v i\/∃ p n c,rv = .slice (some p) n c/\p.block=i,T,s,l,z,Qu.fit ⟨f,rv,v,M,fun _=>Iff.rfl⟩ (N.fit C),N,F,A,o,g,fun i hi=>?_⟩
  rcases zV i w.heap.size with r|u
  ·refine .inl ?_
   rcases hi with(t|t|t)|⟨p,n,c,e,rfl⟩
   ·rw[<-j i r];exact t
   ·omega
   ·have:=y i t;omega
   ·have:=q p n c e;omega
  ·exact .inr u
theorem U0(D:Dk E B w ρ d S)(O:Fit k S)(H:Env E B w)(hk:k<400000000000)(P:Pow S U m bls Q)(y:Q.Le R)(J:∀ t,Q.now t->Q.Qd t->R.now ⟨t.m.xw,t.bs,t.bls⟩)(C:∀ t,Q.now t->t.m.next+1<=2000000000)(hU:U<=V)(hV:V<=20000)(z:∀ t:Rf.St,Q.Qd t->qu t.files<=5700/\U+5800<=V) :
 Calls prog 45 #[.pointer (some ⟨d,0,none⟩)] w (Tx E B w ρ d S V (2*k+300000) R):=by
 obtain⟨o,A,L⟩:=P.held;obtain⟨f1,l,q1,q2,q3,Z⟩:=P.len o;rw[q3.bytes] at Z;have ah:=ql m;obtain⟨f,a,hA,ha,hg,ai⟩:=P.len L;obtain⟨bs,g,N,ho,i,M,ht⟩:=hg.2;have I:∀ p∈qq m.settled bls,At (S.called false) p.1 (fun a=>a.bytes=p.2):=fun p hp=>((A p hp).mono (fun a q=>q.bytes)).zu rfl rfl;have j:At S ji (fun a=>a.bytes=m.bytes):=o.mono (fun a q=>q.bytes);have r:(Rf.jk m.last bs++g).length<=20000:=by rw[<-N];omega
 have c:(Rf.jk m.last bs).length<=20000:=by rw[zW] at r;omega
 have aa:(Rf.memory bs).length<20000:=Va (last:=m.last) i.log c;have PR:=P.mono (zJ _) y;by_cases hg0:g=[]
 ·subst hg0
  rw[ZC] at N;have F:At S (jh m.log) (fun a=>a.bytes=Rf.jk m.last bs):=⟨f,a,hA,ha,N⟩;refine(je0 (k:=2*k+300000) (m2:=m) (last:=m.last+bs.length) (ml:=Rf.memory bs) (R:=Fn (jc.xx (ju m))) D (fun W kk b hb hρ hB=>?_)).mono ?_
  ·exact jdj (D.same kk) O (H.same kk) (by omega) (by omega) j (fun W' vm D' E' hb' hvm=>N4 D' (O.called false) E' hk i I (F.zu rfl rfl) ⟨by omega,c⟩ (by omega) (by omega) hb' hρ hB vm hvm) hb hρ hB
  ·intro e w' h
   have:=PR.U4 F i (y.now _ M) (h.cut (J2.fn (Cl.sure _)));refine Tx.of (s:=⟨m,bs,bls⟩) (by omega) (y.now _ M) ?_;rcases this with⟨T,l,⟨X,b',v⟩,u⟩|⟨T,l,v,u,Y⟩
   ·exact .inl ⟨T,l,⟨X,b',v.grow hU⟩,u⟩
   ·exact .inr ⟨T,l,v.mono hU (Want.Le.refl _),u,Y⟩
 ·have G:=ht hg0
  obtain⟨v1,v2⟩:=z _ G;rw[Ys] at v1;have F:At S (jh m.log) (fun a=>a.bytes=Rf.jk m.last bs++g):=⟨f,a,hA,ha,N⟩;have x:=C _ M;simp only at x v1;have ag:=vh m.settled bls i.len;have af:m.runs.length<=m.settled.length:=by unfold Rf.Man.settled;split<;>simp
  have n:=J _ M G;refine(je0 (k:=2*k+300000) (m2:=m.xw) (last:=m.last+bs.length) (ml:=Rf.memory bs) (R:=Bt m (Rf.jk m.last bs)) D (fun W kk b hb hρ hB=>?_)).mono ?_
  ·exact jdj (D.same kk) O (H.same kk) (by omega) (by omega) j (fun W' vm D' E' hb' hvm=>R8 D' (O.called false) E' hk i I (F.zu rfl rfl) hg0 ho x ⟨by omega,r⟩ (by omega) (by omega) hb' hρ hB vm hvm) hb hρ hB
  ·intro e w' h
   have:=PR.jbd F i x n c (by omega) (by omega) (h.cut (J2.renew _ _));refine Tx.of (s:=⟨m.xw,bs,bls⟩) (by omega) n ?_;rcases this with⟨T,l,⟨X,b',v⟩,u⟩|⟨T,l,v,u,Y⟩
   ·exact .inl ⟨T,l,⟨X,b',v.grow (by omega)⟩,u⟩
   ·exact .inr ⟨T,l,v.mono (by omega) (Want.Le.refl _),u,Y⟩
theorem jcz(O:Qu E B w d b S k s deg F)(m:s.Ok)(i:Jm S s)(r:k<540000000000)(p:s.all.length<1048576)(lo f:Str)(most:Nat)(c:most<9223372036854775808) :
 Calls prog 29 #[.pointer (some ⟨b,0,none⟩),jf lo,jf f,j6 most] w fun e w'=>∃ S',qo S S'/\((∃ v,e = .returned (.tuple #[v,.int .i64 0])/\w'.ownsRow w.heap.size 65 2 v (Rf.pj s.all lo f most).length (qm (Rf.pj s.all lo f most))/\qg E B w d b S' k s deg F w') \/
  (¬qe S/\e = .returned (.tuple #[.slice none 0 0,.int .i64 1])/\qg E B w d b S' k s true F w')):=by
 obtain⟨ρ,rv,q,T,l⟩:=O;refine(jgt T m i (by omega) p lo f most c).mono ?_;rintro e w' ⟨S',j,⟨v,g,o,h⟩|⟨n,g,h⟩⟩
 ·exact⟨S',j,.inl ⟨v,g,o,qg.of (s':=s) T l h⟩⟩
 ·exact⟨S',j,.inr ⟨n,g,qg.of (s':=s) T l h⟩⟩
end Go.Proofs.YtnipbplghijdmaaGreatDoor
namespace Go.Proofs.YtnipbplghijdmaaGreatDoor
open RowKit Maps WideShapes Go.Proofs.Tryz
variable {U:Nat} {S S':jc} {s t:Rf.St} {Q R:Want} {ess:List (List Rf.Ch)} {es:List Rf.Ch} {sf lv N L:Nat}
def qi(ess:List (List Rf.Ch))(sf lv N L:Nat):Want where
 Jj t:=t.m.next<=N/\t.last<=L/\∃ n,sf<=n/\n<=ess.length/\t.tell=Rf.zj (ess.take n)
 now t:=(t.m.next<=N/\t.last<=L/\∃ n,sf<=n/\n<=ess.length/\t.tell=Rf.zj (ess.take n))/\t.tell=Rf.zj (ess.take lv)
 le _ h:=h.1
 Qd t:=qu t.files<=5700
theorem qi.le{N' d:Nat}(b:N<=N')(c:L<=d):(qi ess sf lv N L).Le (qi ess sf lv N' d) :=
 ⟨fun t ⟨h1,h2,h3⟩=>⟨ZI h1 b,ZI h2 c,h3⟩,fun t ⟨⟨h1,h2,h3⟩,h4⟩=>⟨⟨ZI h1 b,ZI h2 c,h3⟩,h4⟩,fun t h=>h⟩
theorem qi.now(g:s.m.next<=N)(f:s.last<=L)(d:sf<=lv)(c:lv<=ess.length)(b:s.tell=Rf.zj (ess.take lv)):(qi ess sf lv N L).now s:=⟨⟨g,f,lv,d,c,b⟩,b⟩
theorem Bn(ess:List (List Rf.Ch))(b:List Rf.Ch){n:Nat}(h:n<=ess.length):(ess++[b]).take n=ess.take n:=xE h
theorem qi.snoc(h:(qi ess sf lv N L).Jj t)(b:Nat):(qi (ess++[es]) sf b N (L+1)).Jj t:=by
 obtain⟨i,g,n,f,d,c⟩:=h;exact⟨i,ZI g (Nat.le_succ _),n,f,by rw[zW];omega,by rw[Bn ess es d];exact c⟩
theorem Ph(s:Rf.St)(b:List Rf.Ch):(s.write b).m=s.m/\(s.write b).last=s.last+1:=⟨rfl,by show s.m.last+(s.bs++[b]).length=s.m.last+s.bs.length+1;simp;omega⟩
theorem qi.write(h:(qi ess sf ess.length N L).now s)(b:List Rf.Ch)(f:sf<=ess.length):(qi (ess++[b]) sf (ess.length+1) N (L+1)).now (s.write b):=by
 obtain⟨⟨d,g,_⟩,c⟩:=h;rw[xR] at c;refine qi.now d (by rw[(Ph s b).2];omega) (by omega) (by simp) ?_;rw[Rf.St.Uf,c,<-Rf.vv,xF (by simp)]
theorem qi.Lu(h:(qi ess sf ess.length N L).now s)(b:List Rf.Ch)(f:sf<=ess.length):(qi (ess++[b]) sf ess.length N (L+1)).now s:=by
 obtain⟨⟨d,g,_⟩,c⟩:=h;exact qi.now d (by omega) (by omega) (by simp) (by rw[Bn ess b (zJ _)];exact c)
theorem Vp(s:Rf.St):s.flush.m.next<=s.m.next+2/\s.flush.last=s.last:=by
 by_cases hb:s.bs=[]
 ·rw[H9 hb]
  exact⟨by omega,rfl⟩
 ·rw[Az hb]
  exact⟨zJ _,by show s.last+0=s.last;omega⟩
theorem Ou(s:Rf.St):s.j8.m.next<=s.m.next+1/\s.j8.last=s.last:=by
 by_cases hb:s.m.runs=[]
 ·rw[mx hb]
  exact⟨by omega,rfl⟩
 ·refine⟨?_,(my hb).1⟩
  unfold Rf.St.j8;rw[if_neg hb]
  split
  ·show s.m.next<=_;omega
  ·exact zJ _
theorem qi.flush(h:(qi ess sf lv N L).now s):(qi ess sf lv (N+2) L).now s.flush:=by
 obtain⟨⟨i,g,n,f,d,c⟩,b⟩:=h;have:=Vp s;exact⟨⟨by omega,by omega,n,f,d,by rw[Rf.St.vg];exact c⟩,by rw[Rf.St.vg];exact b⟩
theorem qi.j8(b:s.Ok)(h:(qi ess sf lv N L).now s):(qi ess sf lv (N+2) L).now s.j8:=by
 obtain⟨⟨j,i,n,g,f,d⟩,c⟩:=h;have:=Ou s;exact⟨⟨by omega,by omega,n,g,f,by rw[Rf.St.lx b];exact d⟩,by rw[Rf.St.lx b];exact c⟩
theorem qi.xw(h:(qi ess sf lv N L).now t):(qi ess sf lv (N+1) L).now ⟨t.m.xw,t.bs,t.bls⟩:=by
 obtain⟨⟨f,d,c⟩,b⟩:=h;exact⟨⟨by show t.m.next+1<=N+1;omega,d,c⟩,b⟩
theorem Vc{last:Nat}{l m:List (List Rf.Ch)}(h:l <+: m):(Rf.jk last l).length<=(Rf.jk last m).length:=by
 obtain⟨u,rfl⟩:=h;rw[Qn,zW];omega
theorem tg(b:qu s.files<=5700){l:List (List Rf.Ch)}(h:l <+: s.bs):qu (⟨s.m,l,s.bls⟩:Rf.St).files<=5700:=by
 rw[Ys] at b ⊢;have:=Vc (last:=s.m.last) h;show s.m.bytes.length+((Rf.jk s.m.last l).length+qu (qq s.m.settled s.bls))<=5700;omega
theorem Fj(b:qu s.files<=5000)(c:Rf.zq es=true):qu (s.write es).files<=5700:=by
 rw[Ys] at b ⊢;have e:Rf.jk s.m.last (s.bs++[es])=Rf.jk s.m.last s.bs++Rf.jm (s.m.last+s.bs.length+1) es:=Rf.al _ _ _;have:=gz c (s.m.last+s.bs.length+1);show s.m.bytes.length+((Rf.jk s.m.last (s.bs++[es])).length+qu (qq s.m.settled s.bls))<=5700;rw[e,zW];omega
theorem Norm.book(h:Norm S U s Q)(b:At S (jh s.m.log) (yw (Rf.jk s.m.last s.bs)))(f:s.m.next<=N)(d:s.last<=L){n:Nat}(g:n<=ess.length)(c:s.tell=Rf.zj (ess.take n)):Norm S U s (qi (ess.take n) n n N L).whole :=
 h.again b (qi.now f d (zJ _) (by rw[zK];omega) (by rw[List.take_take,Nat.min_self];exact c))
theorem Norm.jgv(h:Norm S U s (qi ess sf lv N L))(c:At S (jh s.m.log) (yw (Rf.jk s.m.last s.bs)))(b:lv<=ess.length):Norm S U s (qi ess lv lv N L):=by
 obtain⟨⟨g,f,_⟩,d⟩:=h.now;exact h.again c (qi.now g f (zJ _) b d)
end Go.Proofs.YtnipbplghijdmaaGreatDoor
namespace Go.Proofs.YtnipbplghijdmaaGreatDoor
open RowKit Maps WideShapes Go.Proofs.Tryz
theorem jgu{w:World}(u t:Value)(b lb:List Rf.Ch)(x:Prs w u b)(v:Prs w t lb)(N:b.length<1100000)(G:lb.length<1100000) :
 Calls prog 31 #[u,t] w fun e w'=>e = .returned (.bool (decide (b.map bt=lb.map bt)))/\ja w w' (fun _=>False):=by
 obtain⟨pa,ca,l⟩:∃ p c,u = .slice p b.length c:=by obtain⟨_,h⟩:=x;obtain⟨p,c,e⟩:=jl h;exact⟨p,c,e⟩
 obtain⟨pb,cb,j⟩:∃ p c,t = .slice p lb.length c:=by obtain⟨_,h⟩:=v;obtain⟨p,c,e⟩:=jl h;exact⟨p,c,e⟩
 by_cases he:b.map bt=lb.map bt
 ·rw[decide_eq_true he]
  exact P8 u t b lb x v he (by omega)
 rw[decide_eq_false he];obtain⟨n,C⟩:∃ n,n=b.length:=⟨_,rfl⟩;obtain⟨m,D⟩:∃ m,m=lb.length:=⟨_,rfl⟩;rw[<-C] at l N;rw[<-D] at j G;have V:=jb x;have T:=jb v;have S:=jb he;have L:=jb C;have M:=jb D;subst l;subst j;clear x v he C D;by_cases hlen:n=m
 ·subst hlen
  go_enter func31,ntmps31;go_wp2_with fail
  go_loopw [5] (fun i wr=>∃ k:Nat,k<=n/\i = .int .i64 k/\(b.map bt).take k=(lb.map bt).take k/\ja w wr (fun _=>False)) (fun i _=>n-(intOf i).toNat)
  case atStart=>exact⟨0,zG _,rfl,rfl,ja.refl _ _⟩
  case round =>
   obtain⟨k,hk,rfl,d,g⟩:=hrel;have HS:=jb d;clear d;rcases zV k n with q|r
   ·have z:k<b.length:=by rw[<-L.out];exact q
    have y:k<lb.length:=by rw[<-M.out];exact q
    obtain⟨ga,a2,R,J,I⟩:=(V.out.same g).at z;obtain⟨gb,Z,O,F,E⟩:=(T.out.same g).at y;have Y:(k:Int)<(n:Int):=by omega
    have W:IntKind.i64.wrap ((k:Int)+1)=(k:Int)+1:=zE (by omega) (by omega)
    have f:Hid (bt b[k]=bt lb[k]->(b.map bt).take (k+1)=(lb.map bt).take (k+1)):=fun e=>by
     rw[xH,xH,HS.out,ZN,ZN,xB z,xB y];simp[e]
    unfold bt at f;injection R with ea1 ea2 ea3;injection O with eb1 eb2 eb3;subst ea1;subst eb1;clear ea2 ea3 eb2 eb3;by_cases hee:(b[k].key,b[k].value)=(lb[k].key,lb[k].value)
    ·have o:=f.out hee
     injection hee with B A;rw[<-B] at F;rw[<-A] at E;have s:=jb o;clear o B A f;generalize b[k].key=K at J F;generalize b[k].value=U at I E;clear z y;go_wp2_with fail;go_quiet (fail);go_wp2;exact⟨⟨k+1,by omega,by simp,s.out,g.tt (ja.drewN wr nq _)⟩,by simp[intOf];omega⟩
    ·clear f
     generalize b[k].key=K1 at J hee;generalize b[k].value=U1 at I hee;generalize lb[k].key=K2 at F hee;generalize lb[k].value=U2 at E hee;clear z y;by_cases hK:K1=K2
     ·subst hK
      have H:(U1==U2)=false:=by simpa using fun e=>hee (by rw[e])
      clear hee;go_wp2_with fail;go_quiet (fail);go_wp2;go_ret;exact⟨rfl,g.tt (ja.drewN wr nq _)⟩
     ·have H:(K1==K2)=false:=by simpa using hK
      clear hee hK;go_wp2_with fail;go_quiet (fail);go_wp2;go_ret;exact⟨rfl,g.tt (ja.drewN wr nq _)⟩
   ·exfalso
    have B:(b.map bt).take k=b.map bt:=xF (by rw[zL,<-L.out];exact r);have A:(lb.map bt).take k=lb.map bt:=xF (by rw[zL,<-M.out];exact r);have:=HS.out;rw[B,A] at this;exact S.out this
 ·have X:¬(n:Int)=(m:Int):=by omega
  go_enter func31,ntmps31;go_wp2;go_ret;exact⟨rfl,ja.refl _ _⟩
end Go.Proofs.YtnipbplghijdmaaGreatDoor
namespace Go.Proofs.YtnipbplghijdmaaGreatDoor
open RowKit Maps WideShapes Go.Proofs.Tryz
variable {E:Nat->Addr} {B:Nat} {w w':World} {d b k U V:Nat} {S S':jc} {s:Rf.St} {deg:Bool} {F:Nat->Prop}
theorem Qu.row(h:Qu E B w d b S k s deg F):∃ rv mv,w.heap[b]?=some (.cells (ah d s.m rv s.last mv deg) 121 (0,0)):=by
 obtain⟨ρ,rv,mv,T,c⟩:=h;exact⟨rv,mv,T.row⟩
theorem Ub(h:Qu E B w d b S k s true F)(p:Option Addr)(n c:Nat):Calls prog 24 #[.pointer (some ⟨b,0,none⟩),.slice p n c] w fun e w'=>e = .returned (.int .i64 4)/\w'=w:=by
 obtain⟨rv,j,f⟩:=h.row;have g:=jb (Qb f);clear f;go_enter func24,ntmps24;go_wp2_with fail;refine g.out.mono ?_;rintro e i ⟨rfl,rfl⟩;rw[show Xt true false=4 from rfl];go_wp2;go_ret;exact⟨rfl,rfl⟩
theorem jaz(h:Qu E B w d b S k s true F):Calls prog 77 #[.pointer (some ⟨b,0,none⟩)] w fun e w'=>e = .returned (.int .i64 4)/\w'=w:=by
 obtain⟨rv,i,c⟩:=h.row;have f:=jb (Qb c);clear c;go_enter func77,ntmps77;go_wp2_with fail;refine f.out.mono ?_;rintro e g ⟨rfl,rfl⟩;rw[show Xt true false=4 from rfl];go_wp2;go_ret;exact⟨rfl,rfl⟩
theorem Vq(h:Qu E B w d b S k s true F):Calls prog 26 #[.pointer (some ⟨b,0,none⟩)] w fun e w'=>e = .returned (.int .i64 4)/\w'=w:=by
 obtain⟨rv,i,c⟩:=h.row;have f:=jb (Qb c);clear c;go_enter func26,ntmps26;go_wp2_with fail;refine f.out.mono ?_;rintro e g ⟨rfl,rfl⟩;rw[show Xt true false=4 from rfl];go_wp2;go_ret;exact⟨rfl,rfl⟩
theorem Ov(h:Qu E B w d b S k s true F):Calls prog 27 #[.pointer (some ⟨b,0,none⟩)] w fun e w'=>e = .returned (.int .i64 4)/\w'=w:=by
 obtain⟨rv,i,c⟩:=h.row;have f:=jb (Qb c);clear c;go_enter func27,ntmps27;go_wp2_with fail;refine f.out.mono ?_;rintro e g ⟨rfl,rfl⟩;rw[show Xt true false=4 from rfl];go_wp2;go_ret;exact⟨rfl,rfl⟩
end Go.Proofs.YtnipbplghijdmaaGreatDoor
namespace Go.Proofs.YtnipbplghijdmaaGreatDoor
open RowKit Maps WideShapes Go.Proofs.Tryz
theorem jg7{E:Nat->Addr}{B:Nat}{w:World}{d k:Nat}{ρ:Nat->j3}{S:jc}{V:List (Str×List UInt8)}(D:Dk E B w ρ d S)(C:Fit k S)(G:View S V)(hk:k<540000000000){kb:Nat}{x1 x2 x3 x4 x5:Value}(c:w.heap[kb]?=some (.cells #[.pointer (some ⟨d,0,none⟩),x1,x2,x3,x4,x5] 51 (0,0)))(hs:qu V<=40000) :
 Calls prog 28 #[.pointer (some ⟨kb,0,none⟩)] w fun e w'=>e = .returned (.bool (decide (5000<qu V)))/\ja w w' (fun _=>False):=by
 have Z:=C.small (by omega);have A:=jb (Fi D.rep Z);have HD:=jb D;have HZ:=jb Z;have m:=Rv G;have J:Maps.size S.names<=k:=C.names;have y:∀ n∈S.keys,n.length<=k:=C.keys
 have M:S.keys.length=Maps.size S.names:=by
  obtain⟨T,FT,p⟩:=G;have h1:S.keys.Perm (T.map Prod.fst):=(xU _ _).trans FT.X2.keys;rw[h1.length_eq,zL,FT.X2.size]
 obtain⟨N,H⟩:∃ N,N=qu V:=⟨_,rfl⟩;have f:Hid (z7 S S.keys.length=N):=jb (by unfold z7;rw[xR,m,H]);have U:=jb y;rw[<-H] at hs ⊢;obtain⟨n,Y⟩:∃ n,n=S.keys.length:=⟨_,rfl⟩;have aj:n<=k:=by omega
 have I:=jb Y;have W:=zA (o:=0) c;simp at W;have a2:=jb c;clear D m J y M H G C Z c Y;go_enter func28,ntmps28;go_wp2_with fail;refine A.out.mono ?_;rintro e w1 ⟨F,p1,c1,rfl,v⟩;have R:=jb v;rw[<-I.out];clear v;go_wp2_with fail
 go_loopw [3,5,6,7] (fun t3 t5 t6 t7 wr=>∃ i:Nat,t5 = .int .i64 i/\i<=n/\t3 = .int .i64 (z7 S i)/\ja w1 wr (fun _=>False)) (fun _ t5 _ _ _=>n-(intOf t5).toNat)
 case atStart=>exact⟨0,rfl,zG _,by simp[z7],ja.refl _ _⟩
 case round =>
  obtain⟨i,rfl,ak,rfl,t⟩:=hrel;have j:=Hh S i;rw[f.out] at j;rcases zV i n with L|al
  ·have O:(i:Int)<(n:Int):=by omega
   have ai:IntKind.i64.wrap ((i:Int)+1)=(i:Int)+1:=zE (by omega) (by omega);have l:i<S.keys.length:=by rw[<-I.out];exact L
   have r:=Nu S l;have q:=Hh S (i+1);rw[f.out] at q;obtain⟨g,rfl,a0⟩:=Wv (t.row R.out (fun _ _ h=>h)) l;have x:=U.out _ (xV l);have X:ja wr wr.drew (fun _=>False):=ja.drew wr _;have s:=jb (jde S.keys[i] (((HD.out.same F).same t).same X).rep HZ.out (by omega));generalize S.keys[i]=nm at a0 x r s;have ag:=t.cell (F.cell W id) id;have u:IntKind.i64.wrap ((z7 S i:Int)+(Qr S nm:Int))=(z7 S i:Int)+(Qr S nm:Int):=zE (by omega) (by omega);have b:Hid (z7 S (i+1)=z7 S i+Qr S nm):=r;generalize Qr S nm=ln at s u b;generalize z7 S i=sm at u b j ⊢;clear r q l x j;go_wp2_with fail
   go_region_with (go_at_call 46;refine s.out.mono ?_;rintro e w3 ⟨p3,c3,ah,rfl,k3⟩)
   all_goals
    go_wp2;exact⟨⟨i+1,by simp,by omega,by rw[b.out];simp,t.tt (X.trans k3 (fun _ _ h=>h))⟩,by simp[intOf];omega⟩
  ·have O:¬(i:Int)<(n:Int):=by omega
   have z:i=S.keys.length:=by rw[<-I.out];omega
   have HE:Hid (z7 S i=N):=jb (by rw[z];exact f.out);rw[HE.out];clear z j;go_wp2;go_ret;exact⟨by simp[decide_eq_decide];omega,F.tt t⟩
end Go.Proofs.YtnipbplghijdmaaGreatDoor
namespace Go.Proofs.YtnipbplghijdmaaGreatDoor
open RowKit Maps WideShapes Go.Proofs.Tryz
variable {E:Nat->Addr} {B:Nat} {w w':World} {d b k U V:Nat} {S S':jc} {s:Rf.St} {deg:Bool} {F:Nat->Prop}
abbrev zn(d b:Nat)(wv:Value)(failed:Bool)(safe:Nat)(bad:Bool):Array Value:=#[.pointer (some ⟨d,0,none⟩),.pointer (some ⟨b,0,none⟩),wv,.bool failed,.int .i64 safe,.bool bad]
theorem jb6{ρ:Nat->j3}(R:Rep w ρ d S):Calls prog 78 #[.pointer (some ⟨d,0,none⟩)] w fun e w'=>e = .returned (.tuple #[.int .i64 S.calls,.int .i64 S.wrote])/\ja w w' (fun _=>False):=by
 obtain⟨nm,g,lv,b,_⟩:=R.mem;have f:=zA (o:=3) b;have c:=zA (o:=6) b;simp at f c;clear b R;go_enter func78,ntmps78;go_wp2_with fail;go_quiet (fail);go_wp2;go_ret2;exact⟨rfl,ja.drewN _ _ _⟩
theorem jf3(h:Qu E B w d b S k s deg F):Calls prog 40 #[.pointer (some ⟨b,0,none⟩)] w fun e w'=>e = .returned (.int .i64 0)/\ja w w' (fun i=>i=b)/\∃ ρ,Dk E B w' ρ d S/\Fit k S/\(∀ i,ρ i≠ .none->F i)/\F b/\ρ b = .none/\Env E B w':=by
 obtain⟨ρ,rv,l,T,f⟩:=h;refine(jb3 T.row).mono ?_;rintro e j ⟨c,⟨h,_⟩|⟨_,rfl,g⟩⟩
 ·cases h
 ·exact⟨rfl,c,ρ,⟨T.xi.rep.keep c (fun i e _=>by rw[e];exact T.nb.1),T.xi.z8.keep c (fun i e=>by rw[e];exact T.nb.2),T.xi.yz,ZI T.xi.size c.size⟩,T.fit,fun i hi=>(f i).2 (.inl (.inl hi)),(f b).2 (.inl (.inr (.inl rfl))),T.nb.1,T.env.keep c (fun i e=>by rw[e];exact T.nb.2)⟩
theorem jbj(h:Qu E B w d b S k s true F):Calls prog 32 #[.pointer (some ⟨b,0,none⟩)] w fun e w'=>∃(l j i g:Nat) (p:Option Addr) (n c:Nat),e = .returned (.agg #[j6 l,j6 j,j6 i,j6 g,.slice p n c,.bool true,.bool false])/\ja w w' (fun _=>False):=by
 obtain⟨ρ,rv,o,T,r⟩:=h;have q:=T.ay;refine(jdu T.row T.runs (by omega)).mono ?_;rintro e m h;obtain⟨p,c,rfl,_,f⟩:=h;exact⟨_,_,_,_,_,_,_,rfl,f⟩
end Go.Proofs.YtnipbplghijdmaaGreatDoor
namespace Go.Proofs.YtnipbplghijdmaaGreatDoor
open RowKit Maps WideShapes Go.Proofs.Tryz
variable {E:Nat->Addr} {B:Nat} {w w' w0:World} {d b k kb U V N L:Nat} {S S':jc} {s:Rf.St} {deg:Bool} {F T:Nat->Prop} {Q R:Want} {m:Rf.Man} {bls:List (List Rf.Ch)} {ρ:Nat->j3} {ess:List (List Rf.Ch)} {wv:Value}
theorem Wr.take(h:Wr w0 w T wv ess){n:Nat}(A:n<=ess.length){p:Option Addr}{c:Nat}(e:wv = .slice p ess.length c):Wr w0 w T (.slice p n c) (ess.take n):=by
 obtain⟨⟨xs,z,y⟩,v⟩:=h;have m:(ess.take n).length=n:=by rw[zK];omega
 have l:∀ g,(Value.slice p n c).ownBlock=some g->wv.ownBlock=some g:=fun g b=>by rw[e];cases p<;>exact b
 refine⟨⟨xs.take n,?_,fun i hi=>?_⟩,fun g b=>v g (l g b)⟩
 ·rw[m]
  obtain⟨j,⟨d,C⟩|⟨g,cap,k,d,u,b,B,t,s,r⟩⟩:=z
  ·rw[e] at d
   injection d with a1 a2 a3;subst a1;subst a3;have f:n=0:=by omega
   subst f;exact⟨by simp,.inl ⟨rfl,rfl⟩⟩
  ·rw[e] at d
   injection d with a1 a2 a3;subst a1;subst a3;refine⟨by rw[zK,j];omega,.inr ⟨g,c,k,rfl,u,b,by omega,t,s,?_⟩⟩;rw[<-r,List.take_take];congr 1;omega
 ·rw[m] at hi
  obtain⟨x,d,o,q⟩:=y i (by omega);refine⟨x,by rw[xW,if_pos hi];exact d,?_,fun g b=>q g (l g b)⟩;rw[List.getElem_take];exact o
theorem Hm:∀ {a b:List Rf.Ch},Rf.Live a->Rf.Live b->a.map bt=b.map bt->a=b
 | [],[],_,_,_=>rfl
 | [],y::l,_,_,h=>by simp at h
 | x::r,[],_,_,h=>by simp at h
 | x::r,y::l,ha,hb,h=>by
  rw[zP,zP] at h
  injection h with h1 h2
  have e1:x=y:=by
   have d:=ha x (zR ..);have c:=hb y (zR ..);obtain⟨k,j,m⟩:=x;obtain⟨g,f,i⟩:=y;unfold bt at h1;simp only at d c h1;injection h1 with h3 h4;rw[h3,h4,d,c]
  rw[e1,Hm (fun z hz=>ha z (zQ _ hz)) (fun z hz=>hb z (zQ _ hz)) h2]
theorem Z6(w:World)(b d g:Nat)(c f:Value):ja w ((w.setCell ⟨b,d,none⟩ c).setCell ⟨b,g,none⟩ f) (fun i=>i=b):=by
 have k:=ja.setCell w ⟨b,d,none⟩ c;have j:=ja.setCell (w.setCell ⟨b,d,none⟩ c) ⟨b,g,none⟩ f;exact k.tt j
theorem Vi(w:World)(b g f k:Nat)(d c j:Value):ja w (((w.setCell ⟨b,g,none⟩ d).setCell ⟨b,f,none⟩ c).setCell ⟨b,k,none⟩ j) (fun i=>i=b):=by
 have m:=Z6 w b g f d c;have l:=ja.setCell ((w.setCell ⟨b,g,none⟩ d).setCell ⟨b,f,none⟩ c) ⟨b,k,none⟩ j;exact m.tt l
def jge(ess:List (List Rf.Ch))(least N L:Nat):Want where
 Jj _:=True
 now t:=t.m.next<=N/\t.last<=L/\∃ n,least<=n/\n<=ess.length/\t.tell=Rf.zj (ess.take n)
 le _ _:=trivial
 Qd _:=True
def jez(E:Nat->Addr)(B:Nat)(w0 w:World)(ρ:Nat->j3)(d kb N L:Nat)(ess:List (List Rf.Ch))(wv:Value)(w':World):Prop :=
 ∃ b F S' s n wv',w'.heap[kb]?=some (.cells (zn d b wv' false n false) 51 (0,0))/\Qu E B w' d b S' 60000 s false F/\Norm S' 20000 s (qi (ess.take n) n n (N+1) L).whole/\qe S'/\n<=ess.length/\Wr w0 w' (fun i=>F i\/i=kb) wv' (ess.take n)/\¬F kb/\(∀ i,F i->ρ i≠ .none\/w.heap.size<=i)/\ja w w' (fun i=>ρ i≠ .none\/i=kb)/\∀ g,wv'.ownBlock=some g->wv.ownBlock=some g
theorem jdi{least:Nat}{x1 x3 x4 x5:Value}(D:Dk E B w ρ d S)(Fk:Fit k S)(H:Env E B w)(hk:k<400000000000)(hw:qe S)(P:Pow S U m bls Q)(hU:U<=20000)(hQ:∀ t,Q.now t->t.m.next<=N/\t.last<=L/\∃ n,least<=n/\n<=ess.length/\t.tell=Rf.zj (ess.take n))(hT:∀ t:Rf.St,Q.Qd t->qu t.files<=5700/\U+5800<=20000)(hN:N+1<=2000000000)(A:w.heap[kb]?=some (.cells #[.pointer (some ⟨d,0,none⟩),x1,wv,x3,x4,x5] 51 (0,0)))(bb:ρ kb = .none)(bg:B<=kb)(a7:Wr w0 w T wv ess)(be:∀ i,ρ i≠ .none->T i)(bd:T kb)(h8:∀ b∈ess,b.length<=8)(bq:ess.length<=131072)(cb:least<=131072) :
 Calls prog 41 #[.pointer (some ⟨kb,0,none⟩),j6 least] w fun e w'=>e = .returned (.bool true)/\jez E B w0 w ρ d kb N L ess wv w':=by
 have bm:=jb (U0 (V:=20000) (R:=jge ess least (N+1) L) D Fk H hk P ⟨fun _ _=>trivial,fun t ht=>by obtain⟨a1,a2,a3⟩:=hQ t ht;exact⟨by omega,a2,a3⟩,fun _ _=>trivial⟩
  (fun t ht _=>by obtain⟨a1,a2,a3⟩:=hQ t ht;exact⟨by show t.m.next+1<=N+1;omega,a2,a3⟩) (fun t ht=>by have:=(hQ t ht).1;omega) hU (zJ _) hT)
 have G:=jb hw;have a5:=jb A;have bo:=jb bb;have bp:=jb bg;have bi:=jb a7;have bk:=jb be;have cm:=jb bd;have H8:=jb h8;obtain⟨pw,cw,ay⟩:∃ p c,wv = .slice p ess.length c:=by obtain⟨⟨xs,h1,_⟩,_⟩:=a7;exact jl h1
 have bh:=jb ay;have c0:=zA (o:=0) A;simp at c0;clear D Fk H hw P hQ hT hN A bb bg a7 be bd h8 ay hU hk;go_enter func41,ntmps41;go_wp2_with fail;refine bm.out.mono ?_;rintro e w1 (⟨_,a8,_⟩|⟨b,F,S1,s,rfl,hb,O1,N1,hA,bc,_,k1,hF⟩)
 ·exact absurd G.out a8
 have x:=k1.same a5.out (fun t=>t bo.out)
 have a9:¬F kb:=fun t=>by
  rcases hF kb t with t|t
  ·exact t bo.out
  ·have:=zC a5.out;omega
 have c1:=zA (o:=1) x;have f1:=zB (o:=1) x;have c5:=zA (o:=5) x;have f5:=zB (o:=5) x;simp at c1 c5;obtain⟨w2,I⟩:∃ w2,w2=(w1.setCell ⟨kb,1,none⟩ (.pointer (some ⟨b,0,none⟩))).setCell ⟨kb,5,none⟩ (.bool false):=⟨_,rfl⟩;have k2:ja w1 w2 (fun i=>i=kb):=by rw[I];exact Z6 _ _ _ _ _ _
 have b4:w2.heap[kb]?=some (.cells #[.pointer (some ⟨d,0,none⟩),.pointer (some ⟨b,0,none⟩),wv,x3,x4,.bool false] 51 (0,0)):=by rw[I];exact(jd ((jd x _).trans rfl) _).trans rfl
 have O2:=O1.keep k2 (fun i _ e=>⟨by rw[show i=kb from e];exact bp.out,by rw[show i=kb from e];exact a9⟩);have a0:=N1.bnd (ZI N1.pow.total (by omega));have bs:=a0.all;have y:s.tell.length<=100000:=by have:s.tell.length<=s.all.length:=ZT _ _;omega
 have ad:=jb (jcz O2 N1.ok N1.Q5 (by omega) (by omega) [] [] 100000 (by omega));rw[Rf.L8 s y] at ad;have HF:=jb hF;have ag:=jb a9;have ah:=jb N1;have HA:=jb hA;have ac:=jb (bc G.out);have W:=jb k1;have O:=jb k2;have ae:=jb b4;have cl:=jb y;have HB:=jb hb;have bj:=jb I;clear hF a9 N1 hA bc k1 k2 b4 x O1 O2 a0 bs y hb I c0;go_wp2_with fail;rw[<-bj.out];refine ad.out.mono ?_;rintro e w3 ⟨S3,hL,⟨lv,rfl,v,⟨F3,O3,k3,J⟩⟩|⟨a8,_⟩⟩
 case inr=>exact absurd ac.out a8
 have b3:=k3.same ae.out ag.out
 have Y:¬F3 kb:=fun t=>by
  rcases J kb t with t|t
  ·exact ag.out t
  ·have:=zC ae.out;omega
 have z:Wr w0 w3 (fun i=>F3 i\/i=kb) wv ess:=by
  have h1:Wr w0 w1 (fun i=>F i\/i=kb) wv ess:=bi.out.step W.out bk.out (fun i t=>by
   rcases t with t|t
   ·exact(HF.out i t).imp (bk.out i) id
   ·rw[t];exact .inl cm.out)
  have h2:Wr w0 w2 (fun i=>F i\/i=kb) wv ess:=h1.step O.out (fun i t=> .inr t) (fun i t=> .inl t)
  exact h2.step k3 (fun i t=> .inl t) (fun i t=>by
   rcases t with t|t
   ·exact(J i t).imp .inl id
   ·exact .inl (.inr t))
 obtain⟨b0,az,n0,b9,b6,C⟩:=ah.out.now;have cp:Hid (∀ n,n<=ess.length->s.tell=Rf.zj (ess.take n)->Norm S3 20000 s (qi (ess.take n) n n (N+1) L).whole):=fun n h1 h2=>(ah.out.looked hL).book (hL.at HA.out) b0 az h1 h2;have ck:=jb (hL.ou ac.out)
 have ba:ja w w3 (fun i=>ρ i≠ .none\/i=kb):=by
  refine((W.out.mono (fun _ _ t=> .inl t)).trans O.out (fun _ _ t=> .inr t)).trans k3 (fun i hi t=>?_);rcases HF.out i t with t|t
  ·exact .inl t
  ·omega
 have bf:∀ i,F3 i->ρ i≠ .none\/w.heap.size<=i:=fun i t=>by
  rcases J i t with t|t
  ·exact HF.out i t
  ·have:=W.out.size;have:=O.out.size;exact .inr (by omega)
 have bl:=jb b3;have a6:=jb Y;have a4:=jb z;have cr:=jb ba;have cu:=jb bf;have co:=jb O3;have aj:=jb C;have cn:Hid (Prs w3 lv s.tell):=⟨_,v⟩;obtain⟨ps,cs,b7⟩:=jl v;have dz:=jb b7;obtain⟨nl,r⟩:∃ nl,nl=ess.length:=⟨_,rfl⟩;have af:=jb r;have f:=bh.out;rw[<-r] at f b6 bq;have j:=jb f
 have Z:nl<=cw/\cw<=maxLen/\(pw=none\/∃ g,pw=some ⟨g,0,none⟩):=by
  obtain⟨⟨xs,⟨h1,⟨e1,h0⟩|⟨g,cap,dy,e1,_,_,hc,hm,_,_⟩⟩,_⟩,_⟩:=z
  ·rw[f] at e1
   injection e1 with a1 a2 a3;exact⟨by omega,by rw[a3];decide,.inl a1⟩
  ·rw[f] at e1
   injection e1 with a1 a2 a3;exact⟨by omega,by omega,.inr ⟨g,a1⟩⟩
 have bu:=jb Z;have dm:Hid (n0<=nl):=b6;have br:Hid (least<=n0):=b9;clear b7 r f v b0 az b3 Y z ba bf O3 C k3 J hL ad ah HA ac W O ae HF ag bm bi bh bj f1 f5 c1 c5 Z b9;go_wp2_with fail
 go_loopw [9,10] (fun t9 t10 wr=>∃ n:Nat,t9=j6 n/\least<=n/\n<=n0/\ja w3 wr (fun _=>False)) (fun t9 _ _=>n0+1-(intOf t9).toNat)
 case atStart=>exact⟨least,rfl,zJ _,br.out,ja.refl _ _⟩
 case round =>
  obtain⟨n,rfl,b8,b5,kk⟩:=hrel;have l:=kk.same bl.out id;have c2:=zA (o:=2) l;have f2:=zB (o:=2) l;have c3:=zA (o:=3) l;have f3:=zB (o:=3) l;have c4:=zA (o:=4) l;have f4:=zB (o:=4) l;simp at c2 c3 c4;rw[j.out] at c2;have ai:=jb (Hs wv ess ((a4.out.wri).same kk) H8.out n (by rw[<-af.out];omega) (by omega));rw[j.out] at ai;have dx:(n:Int)<=(nl:Int):=by omega
  have dv:IntKind.i64.wrap ((n:Int)+1)=(n:Int)+1:=zE (by omega) (by omega);have bn:=jb kk;have X:=jb b5;have cq:=jb b8;go_wp2_with fail;refine ai.out.mono ?_;rintro e w4 ⟨v4,rfl,b2,k4⟩;go_wp2_with fail;have aa:=Rf.Hu ess H8.out n;refine(jgu lv v4 s.tell (Rf.zj (ess.take n)) ((cn.out.same bn.out).same k4) ⟨_,b2⟩ (by have:=cl.out;omega) (by have:=aa.2.2;omega)).mono ?_;rintro e w5 ⟨rfl,k5⟩;obtain⟨q,hq⟩:∃ q,q=decide (s.tell.map bt=(Rf.zj (ess.take n)).map bt):=⟨_,rfl⟩;rw[<-hq];have ab:=(bn.out.tt k4).tt k5;have b1:=ab.same bl.out id;have HQ:=jb hq;have M:=jb ab;have u:=jb b1;have ct:=jb aa;clear hq ab b1 k4 k5 b2 aa l ai kk b5 b8 c2 f2 c3 f3 c4 f4
  cases q with
  | false =>
   go_wp2
   have dw:n≠n0:=fun e=>by
    have:=HQ.out;rw[e,<-aj.out,decide_eq_true rfl] at this;cases this
   exact⟨⟨n+1,by simp,by have:=cq.out;omega,by have:=X.out;omega,M.out⟩,by have:=X.out;simp[intOf];omega⟩
  | true =>
   have c2:=zA (o:=2) u.out;have f2:=zB (o:=2) u.out;have c3:=zA (o:=3) u.out;have f3:=zB (o:=3) u.out;have c4:=zA (o:=4) u.out;have f4:=zB (o:=4) u.out;simp at c2 c3 c4;rw[j.out] at c2;have dl:n<=cw:=by have:=bu.out.1;have:=X.out;omega
   go_wp2;go_ret;have k6:ja w5 (((w5.setCell ⟨kb,2,none⟩ (.slice pw n cw)).setCell ⟨kb,3,none⟩ (.bool false)).setCell ⟨kb,4,none⟩ (.int .i64 n)) (fun i=>i=kb):=Vi _ _ _ _ _ _ _ _;have r:n<=ess.length:=by have:=af.out;have:=X.out;omega
   have y:s.tell=Rf.zj (ess.take n):=Hm (Rf.St.Lv s).1 ct.out.2.1 (of_decide_eq_true HQ.out.symm);refine⟨rfl,b,F3,S3,s,n,.slice pw n cw,(jd ((jd ((jd u.out _).trans rfl) _).trans rfl) _).trans rfl,(co.out.same M.out).keep k6 (fun i _ e=>?_),cp.out n r y,ck.out,r,?_,a6.out,cu.out,(cr.out.trans M.out (fun _ _ t=>t.elim)).trans k6 (fun _ _ t=> .inr t),fun g hg=>by rw[j.out];cases pw<;>exact hg⟩
   ·have e':i=kb:=e
    rw[e'];exact⟨bp.out,a6.out⟩
   ·exact((a4.out.step M.out (fun _ t=>t.elim) (fun i t=> .inl t)).step k6 (fun i t=> .inr t) (fun i t=> .inl t)).take r (by rw[j.out,af.out])
end Go.Proofs.YtnipbplghijdmaaGreatDoor
namespace Go.Proofs.YtnipbplghijdmaaGreatDoor
open RowKit Maps WideShapes Go.Proofs.Tryz
variable {E:Nat->Addr} {B:Nat} {w w' w0:World} {d b k kb U V N L:Nat} {S S':jc} {s:Rf.St} {deg:Bool} {F T:Nat->Prop} {Q R:Want} {m:Rf.Man} {bls:List (List Rf.Ch)} {ρ:Nat->j3} {ess:List (List Rf.Ch)} {wv:Value}
def yu(w:World)(G:Nat->Prop)(w':World)(G':Nat->Prop):Prop:=ja w w' G/\∀ i,G' i->G i\/w.heap.size<=i
theorem yu.trans{w c b:World}{G f d:Nat->Prop}(h:yu w G c f)(k:yu c f b d):yu w G b d:=by
 have g:=h.1.size;refine⟨h.1.trans k.1 (fun i hi t=>?_),fun i t=>?_⟩
 ·rcases h.2 i t with t|t
  ·exact t
  ·omega
 ·rcases k.2 i t with t|t
  ·exact h.2 i t
  ·exact .inr (by omega)
theorem yu.same{w c b:World}{G d:Nat->Prop}(h:yu w G c d)(k:ja c b (fun _=>False)):yu w G b d:=⟨h.1.trans k (fun _ _ t=>t.elim),h.2⟩
theorem yu.after{w c b:World}{G d:Nat->Prop}(k:ja w c (fun _=>False))(h:yu c G b d):yu w G b d :=
 ⟨(k.up).tt h.1,fun i t=>(h.2 i t).imp id (fun t=>ZI k.size t)⟩
theorem yu.refl(w:World)(G:Nat->Prop):yu w G w G:=⟨ja.refl _ _,fun _ t=> .inl t⟩
structure Bk(E:Nat->Addr)(B:Nat)(w0:World)(kb d b:Nat)(S:jc)(s:Rf.St)(wv:Value)(ess:List (List Rf.Ch))(fl:Bool)(sf:Nat)(bd:Bool)(F:Nat->Prop)(w:World):Prop where
 row:w.heap[kb]?=some (.cells (zn d b wv fl sf bd) 51 (0,0))
 own:Qu E B w d b S 160000 s bd F
 wr:Wr w0 w (fun i=>F i\/i=kb) wv ess
 nkb:¬F kb/\w0.heap.size<=kb
 new:∀ i,F i->w0.heap.size<=i
 base:B<=w0.heap.size
def bkG(F:Nat->Prop)(kb:Nat)(wv:Value)(i:Nat):Prop:=F i\/i=kb\/wv.ownBlock=some i
section
variable {fl bd:Bool} {sf:Nat}
theorem Bk.same(h:Bk E B w0 kb d b S s wv ess fl sf bd F w)(k:ja w w' (fun _=>False)):Bk E B w0 kb d b S s wv ess fl sf bd F w' :=
 ⟨k.same h.row id,h.own.same k,h.wr.step k (fun _ t=>t.elim) (fun _ t=> .inl t),h.nkb,h.new,h.base⟩
theorem Bk.slice(h:Bk E B w0 kb d b S s wv ess fl sf bd F w):∃ p c,wv = .slice p ess.length c:=by
 obtain⟨⟨xs,f,_⟩,_⟩:=h.wr;exact jl f
theorem Bk.lt(h:Bk E B w0 kb d b S s wv ess fl sf bd F w){i:Nat}(c:bkG F kb wv i):w0.heap.size<=i/\i<w.heap.size:=by
 rcases c with t|t|t
 ·exact⟨h.new i t,(h.own.old t).2⟩
 ·rw[t];exact⟨h.nkb.2,zC h.row⟩
 ·obtain⟨⟨xs,f,_⟩,_⟩:=h.wr
  exact f.lt i t
theorem Bk.step{b':Nat}{S':jc}{s':Rf.St}{c:Bool}{k':Nat}(h:Bk E B w0 kb d b S s wv ess fl sf bd F w)(j:qg E B w d b S' k' s' c F w')(k:k'<=160000) :
 ∃ F',w'.heap[kb]?=some (.cells (zn d b wv fl sf bd) 51 (0,0))/\Qu E B w' d b S' 160000 s' c F'/\Wr w0 w' (fun i=>F' i\/i=kb) wv ess/\¬F' kb/\(∀ i,F' i->w0.heap.size<=i)/\yu w F w' F':=by
 obtain⟨F',O,g,f⟩:=j
 have l:¬F' kb:=fun t=>by
  rcases f kb t with t|t
  ·exact h.nkb.1 t
  ·have:=zC h.row;omega
 obtain⟨_,_,m,_⟩:=O.xi;refine⟨F',g.same h.row h.nkb.1,O.fit (m.mono k),h.wr.step g (fun i t=> .inl t) (fun i t=>?_),l,fun i t=>?_,g,f⟩
 ·rcases t with t|t
  ·exact(f i t).imp .inl id
  ·exact .inl (.inr t)
 ·rcases f i t with t|t
  ·exact h.new i t
  ·have:=(h.lt (.inr (.inl rfl):bkG F kb wv kb));omega
theorem yu.bk{b:Nat->Prop}(h:yu w F w' b):yu w (bkG F kb wv) w' (bkG b kb wv):=⟨h.1.mono (fun _ _ t=> .inl t),fun i t=>by
 rcases t with t|t
 ·exact(h.2 i t).imp .inl id
 ·exact .inl (.inr t)⟩
theorem B5{j i g f:Value}{p:Option Addr}{n c:Nat}{d:Bool}(b:w.heap[kb]?=some (.cells #[j,i,.slice p n c,.bool d,g,f] 51 (0,0)))(k:d=true->1<=n)(q:n<=131072) :
 Calls prog 42 #[.pointer (some ⟨kb,0,none⟩)] w fun e w'=>e = .returned (j6 (n-d.toNat))/\w'=w:=by
 have m:=zA (o:=2) b;have l:=zA (o:=3) b;simp at m l;clear b
 cases d with
 | false =>
  go_enter func42,ntmps42;go_wp2;go_ret;exact⟨rfl,rfl⟩
 | true =>
  have r:=k rfl
  have s:IntKind.i64.wrap ((n:Int)-1)=((n-1:Nat):Int):=by
   rw[zE (by omega) (by omega)];omega
  go_enter func42,ntmps42;go_wp2;go_ret;exact⟨rfl,rfl⟩
end
theorem jef(D:Dk E B w ρ d S)(H:Env E B w)(n:Int)(b:n<=9223372036854775807) :
 Calls prog 35 #[.pointer (some ⟨d,0,none⟩),.int .i64 n] w fun e w'=>e = .returned (.tuple #[])/\Dk E B w' ρ d { S with fail:=max n (-1) }/\ja w w' (fun i=>ρ i≠ .none)/\Env E B w':=by
 refine(jeg n b D.rep).mono ?_;rintro e c ⟨rfl,R,g⟩;exact⟨rfl,D.step g R,g.keeps,H.keep g.keeps (fun i t=>D.yz i t)⟩
theorem jhv(D:Dk E B w ρ d S)(H:Env E B w)(n:Int)(b:n<=9223372036854775807) :
 Calls prog 44 #[.pointer (some ⟨d,0,none⟩),.int .i64 n] w fun e w'=>e = .returned (.tuple #[])/\Dk E B w' ρ d { S with cut:=max n (-1) }/\ja w w' (fun i=>ρ i≠ .none)/\Env E B w':=by
 refine(jf1 n b D.rep).mono ?_;rintro e c ⟨rfl,R,g⟩;exact⟨rfl,D.step g R,g.keeps,H.keep g.keeps (fun i t=>D.yz i t)⟩
def Zp(w:World)(B0:Nat)(v:Value)(ch:List Int):Prop :=
 ∃ o c,v = .slice o ch.length c/\ch.length<=c/\c<=maxLen/\(∀ x∈ch,-9223372036854775808<=x/\x<=9223372036854775807)/\(ch≠[]->∃ g k,o=some ⟨g,k,none⟩/\g<B0/\∀ j,j<ch.length->w.cell? ⟨g,k+j,none⟩=some (.int .i64 (ch.getD j 0)))
theorem Zp.keep{b:Nat}{v:Value}{ch:List Int}{U:Nat->Prop}(h:Zp w b v ch)(f:ja w w' U)(m:∀ i,i<b->¬U i):Zp w' b v ch:=by
 obtain⟨o,c,e,r,q,p,n⟩:=h;refine⟨o,c,e,r,q,p,fun hne=>?_⟩;obtain⟨g,k,s,d,l⟩:=n hne;exact⟨g,k,s,d,fun j hj=>f.cell (l j hj) (m g d)⟩
theorem jar{m:Nat}{v:Value}{ch:List Int}(D:Dk E B w ρ d S)(x:Fit k S)(J:k<540000000000)(H:Env E B w)(n:∀ f a,S.files f=some a->a.Wf)(y:Zp w m v ch)(A:∀ i,ρ i≠ .none->m<=i){l:Nat}(q:l<w.heap.size)(p:ρ l = .none)(G:m<=w.heap.size) :
 Calls prog 43 #[.pointer (some ⟨d,0,none⟩),v] w fun e w'=>e = .returned (.tuple #[])/\∃ ρ',Dk E B w' ρ' d (S.crashed ch)/\ja w w' (fun i=>ρ i≠ .none)/\(∀ i,i<w.heap.size->ρ' i=ρ i)/\Env E B w':=by
 obtain⟨o,c,rfl,u,s,r,C⟩:=y;have F:=x.safe
 have b:∃ j,Bj w ρ (.slice o ch.length c) j ch:=by
  by_cases hne:ch=[]
  ·exact⟨l,q,p,o,c,rfl,u,s,r,fun h=>absurd hne h⟩
  ·obtain⟨g,k,e,L,z⟩:=C hne
   exact⟨g,by omega,yE (fun t=>by have:=A g t;omega),o,c,rfl,u,s,r,fun _=>⟨k,e,z⟩⟩
 obtain⟨j,b⟩:=b;refine(jb1 _ j ch D.rep (x.small (by omega)) n (by omega) b).mono ?_;rintro e I ⟨rfl,ρ',R,g⟩;exact⟨rfl,ρ',D.step g R,g.keeps,g.role,H.keep g.keeps (fun i t=>D.yz i t)⟩
theorem jha(O:Qu E B w d b S k s deg F)(n:Int)(f:n<=9223372036854775807) :
 Calls prog 35 #[.pointer (some ⟨d,0,none⟩),.int .i64 n] w fun e w'=>e = .returned (.tuple #[])/\qg E B w d b { S with fail:=max n (-1) } k s deg F w':=by
 obtain⟨ρ,rv,j,T,g⟩:=O;refine(jef T.xi T.env n f).mono ?_;rintro e i ⟨rfl,D,c,_⟩;exact⟨rfl,qg.of (s':=s) T g (T.next (c.mono (fun _ _ t=> .inl t)) (fun _ _=>rfl) D (T.fit.zu rfl rfl rfl rfl) (c.same T.row (fun t=>t T.nb.1)))⟩
theorem jhu(O:Qu E B w d b S k s deg F)(n:Int)(f:n<=9223372036854775807) :
 Calls prog 44 #[.pointer (some ⟨d,0,none⟩),.int .i64 n] w fun e w'=>e = .returned (.tuple #[])/\qg E B w d b { S with cut:=max n (-1) } k s deg F w':=by
 obtain⟨ρ,rv,j,T,g⟩:=O;refine(jhv T.xi T.env n f).mono ?_;rintro e i ⟨rfl,D,c,_⟩;exact⟨rfl,qg.of (s':=s) T g (T.next (c.mono (fun _ _ t=> .inl t)) (fun _ _=>rfl) D (T.fit.zu rfl rfl rfl rfl) (c.same T.row (fun t=>t T.nb.1)))⟩
end Go.Proofs.YtnipbplghijdmaaGreatDoor
namespace Go.Proofs.YtnipbplghijdmaaGreatDoor
open RowKit Maps WideShapes Go.Proofs.Tryz
variable {U:Nat} {S S':jc} {s t:Rf.St} {Q R:Want} {ess:List (List Rf.Ch)} {es:List Rf.Ch} {sf lv N L:Nat} {m:Rf.Man} {bls:List (List Rf.Ch)}
structure Alike(S S':jc):Prop where
 names:S'.names=S.names
 files:S'.files=S.files
 safe:S'.safe=S.safe
 late:S'.late=S.late
theorem Alike.fail(S:jc)(n:Int):Alike S { S with fail:=n }:=⟨rfl,rfl,rfl,rfl⟩
theorem Alike.cut(S:jc)(n:Int):Alike S { S with cut:=n }:=⟨rfl,rfl,rfl,rfl⟩
theorem Alike.trans{T:jc}(h:Alike S S')(k:Alike S' T):Alike S T:=⟨k.names.trans h.names,k.files.trans h.files,k.safe.trans h.safe,k.late.trans h.late⟩
theorem Alike.refl(S:jc):Alike S S:=⟨rfl,rfl,rfl,rfl⟩
theorem Pow.alike(h:Pow S U m bls Q)(k:Alike S S'):Pow S' U m bls Q:=h.zu k.names k.files k.safe k.late
theorem At.alike{n:Str}{P:jz->Prop}(h:At S n P)(k:Alike S S'):At S' n P:=h.zu k.names k.files
theorem Norm.alike(h:Norm S U s Q)(k:Alike S S'):Norm S' U s Q:=⟨h.pow.alike k,by rw[k.late];exact h.late,h.log.alike k,h.now,h.ok,h.only.zu k.names⟩
theorem Safe.alike(h:Safe S U Q)(k:Alike S S'):Safe S' U Q:=by
 obtain⟨m,b,h⟩:=h;exact⟨m,b,h.alike k⟩
theorem Left.alike(h:Left S U Q)(k:Alike S S'):Left S' U Q:=h.imp (fun h=>h.alike k) (fun h=>h.alike k)
theorem Jm.alike(h:Jm S s)(k:Alike S S'):Jm S' s:=fun p hp=>(h p hp).alike k
theorem Alike.total(k:Alike S S'):total S'.files S'.names=total S.files S.names:=by rw[k.files,k.names]
theorem Safe.mono{V:Nat}(h:Safe S U Q)(c:U<=V)(d:Q.Le R):Safe S V R:=by
 obtain⟨m,b,h⟩:=h;exact⟨m,b,h.mono c d⟩
def Rest(S:jc)(Q:Want):Prop:=Safe S 11800 Q\/Safe S 20000 Q.whole
theorem Left.rest(h:Left S 5400 Q):Rest S Q:=h.imp (fun h=>h.mono (by omega) (Want.Le.refl _)) (fun h=>h.mono (by omega) (Want.Le.refl _))
theorem Rest.alike(h:Rest S Q)(k:Alike S S'):Rest S' Q:=h.imp (fun h=>h.alike k) (fun h=>h.alike k)
theorem Rest.wf(h:Rest S Q):∀ f a,S.files f=some a->a.Wf:=by
 rcases h with⟨m,b,h⟩|⟨m,b,h⟩<;>exact h.wf
theorem Rest.mono(h:Rest S Q)(b:Q.Le R):Rest S R:=h.imp (fun h=>h.mono (zJ _) b) (fun h=>h.mono (zJ _) ⟨b.Jj,b.now,fun _ t=>t⟩)
def Yw(S:jc)(P:Rf.St->Prop):Prop:=∃ U m bls Q,U<=20000/\Pow S U m bls Q/\(∀ t,Q.now t->P t)/\∀ t:Rf.St,Q.Qd t->qu t.files<=5700/\U+5800<=20000
theorem Yw.mono{P c:Rf.St->Prop}(h:Yw S P)(d:∀ t,P t->c t):Yw S c:=by
 obtain⟨U,m,b,Q,j,i,g,f⟩:=h;exact⟨U,m,b,Q,j,i,fun t q=>d t (g t q),f⟩
theorem Yw.alike{P:Rf.St->Prop}(h:Yw S P)(k:Alike S S'):Yw S' P:=by
 obtain⟨U,m,b,Q,g,f,d,c⟩:=h;exact⟨U,m,b,Q,g,f.alike k,d,c⟩
theorem Rest.M1(h:Rest S Q)(c:∀ t:Rf.St,Q.Qd t->qu t.files<=5700):Yw S Q.now:=by
 rcases h with⟨m,b,h⟩|⟨m,b,h⟩
 ·exact⟨_,m,b,Q,by omega,h,fun _ q=>q,fun t q=>⟨c t q,by omega⟩⟩
 ·exact⟨_,m,b,Q.whole,by omega,h,fun _ q=>q,fun t q=>q.elim⟩
theorem Rest.Jj(h:Rest S Q)(j:∀ t:Rf.St,Q.Qd t->qu t.files<=5700)(ch:List Int):Yw (S.crashed ch) Q.Jj/\qe (S.crashed ch)/\Fit 60000 (S.crashed ch):=by
 rcases h with⟨m,i,h⟩|⟨m,i,h⟩
 ·obtain⟨d,b,c,g,f⟩:=h.Jj ch
  exact⟨⟨_,d,b,Q.down,by omega,c,fun _ q=>q,fun t q=>⟨j t q,by omega⟩⟩,f,c.fit g (by omega)⟩
 ·obtain⟨d,b,c,g,f⟩:=h.Jj ch
  exact⟨⟨_,d,b,Q.whole.down,by omega,c,fun _ q=>q,fun t q=>q.elim⟩,f,c.fit g (by omega)⟩
theorem Norm.rest(h:Norm S U s Q)(b:U<=20000)(d:At S (jh s.m.log) (yw (Rf.jk s.m.last s.bs)))(c:R.now s):Rest S R:=by
 have f:Norm S U s R.whole:=h.again d c;exact .inr (f.safe.mono b (Want.Le.refl _))
end Go.Proofs.YtnipbplghijdmaaGreatDoor
namespace Go.Proofs.YtnipbplghijdmaaGreatDoor
open RowKit Maps WideShapes Go.Proofs.Tryz
variable {E:Nat->Addr} {B:Nat} {w w' w0 wz:World} {d b k kb U V N L:Nat} {S S':jc} {s:Rf.St} {deg:Bool} {F T:Nat->Prop} {Q R:Want} {m:Rf.Man} {bls:List (List Rf.Ch)} {ρ:Nat->j3} {ess:List (List Rf.Ch)} {wv:Value} {fl bd:Bool} {sf lv:Nat}
def T8(E:Nat->Addr)(B:Nat)(w0 wz:World)(kb d:Nat)(F:Nat->Prop)(wv:Value)(N L:Nat)(ess:List (List Rf.Ch))(w':World):Prop :=
 ∃ b S' s n wv' F',Bk E B w0 kb d b S' s wv' (ess.take n) false n false F' w'/\Norm S' 20000 s (qi (ess.take n) n n (N+1) L).whole/\qe S'/\n<=ess.length/\yu wz (bkG F kb wv) w' (bkG F' kb wv')
structure Bd(E:Nat->Addr)(B:Nat)(w0 wz:World)(kb d:Nat)(F:Nat->Prop)(S:jc)(k:Nat)(wv:Value)(ess:List (List Rf.Ch))(ρ:Nat->j3)(w:World):Prop where
 xi:Dk E B w ρ d S
 fit:Fit k S
 env:Env E B w
 wr:Wr w0 w (fun i=>ρ i≠ .none\/i=kb) wv ess
 nkb:ρ kb = .none/\w0.heap.size<=kb
 new:∀ i,ρ i≠ .none->w0.heap.size<=i
 base:B<=w0.heap.size
 wx:yu wz (bkG F kb wv) w (bkG (fun i=>ρ i≠ .none) kb wv)
theorem Bd.same(h:Bd E B w0 wz kb d F S k wv ess ρ w)(b:ja w w' (fun _=>False)):Bd E B w0 wz kb d F S k wv ess ρ w' :=
 ⟨h.xi.same b,h.fit,h.env.same b,h.wr.step b (fun _ t=>t.elim) (fun _ t=> .inl t),h.nkb,h.new,h.base,h.wx.same b⟩
theorem Bd.step{c:Nat->j3}{k':Nat}(h:Bd E B w0 wz kb d F S k wv ess ρ w)(D:Dk E B w' c d S')(g:Fit k' S')(H:Env E B w')(f:ja w w' (fun i=>ρ i≠ .none))(b:∀ i,c i≠ .none->ρ i≠ .none\/w.heap.size<=i)(j:kb<w.heap.size):Bd E B w0 wz kb d F S' k' wv ess c w':=by
 refine⟨D,g,H,h.wr.step f (fun _ t=> .inl t) (fun i t=>?_),⟨yE (fun t=>?_),h.nkb.2⟩,fun i t=>?_,h.base,h.wx.trans ⟨f.mono (fun _ _ t=> .inl t),fun i t=>?_⟩⟩
 ·rcases t with t|t
  ·exact(b i t).imp .inl id
  ·exact .inl (.inr t)
 ·rcases b kb t with t|t
  ·exact t h.nkb.1
  ·omega
 ·rcases b i t with t|t
  ·exact h.new i t
  ·have:=h.nkb.2;omega
 ·rcases t with t|t
  ·exact(b i t).imp .inl id
  ·exact .inl (.inr t)
theorem vi{ρ c:Nat->j3}(h:∀ i,i<w.heap.size->c i=ρ i):∀ i,c i≠ .none->ρ i≠ .none\/w.heap.size<=i:=fun i t=>by
 rcases zV i w.heap.size with b|b
 ·rw[h i b] at t;exact .inl t
 ·exact .inr b
theorem er{least:Nat}{v u r q:Value}(h:Bd E B w0 wz kb d F S k wv ess ρ w)(D:k<400000000000)(y:qe S)(P:Yw S (fun t=>t.m.next<=N/\t.last<=L/\∃ n,least<=n/\n<=ess.length/\t.tell=Rf.zj (ess.take n)))(J:N+1<=2000000000)(f:w.heap[kb]?=some (.cells #[.pointer (some ⟨d,0,none⟩),v,wv,u,r,q] 51 (0,0)))(M:∀ b∈ess,b.length<=8)(g:ess.length<=131072)(c:least<=131072) :
 Calls prog 41 #[.pointer (some ⟨kb,0,none⟩),j6 least] w fun e w'=>e = .returned (.bool true)/\T8 E B w0 wz kb d F wv N L ess w':=by
 obtain⟨U,m,Y,Q,G,P,I,H⟩:=P;refine(jdi h.xi h.fit h.env D y P G I H J f h.nkb.1 (ZI h.base h.nkb.2) h.wr (fun i t=> .inl t) (.inr rfl) M g c).mono ?_;rintro e Z ⟨rfl,b,V,S',s,n,j,A,O,R,W,C,l,o,p,x,z⟩;obtain⟨_,_,T,_⟩:=O.xi;have X:=zC f;refine⟨rfl,b,S',s,n,j,V,⟨A,O.fit (T.mono (by omega)),l,⟨o,h.nkb.2⟩,fun i t=>?_,h.base⟩,R,W,C,h.wx.trans ⟨x.mono (fun i _ t=>t.imp id .inl),fun i t=>?_⟩⟩
 ·rcases p i t with t|t
  ·exact h.new i t
  ·have:=h.nkb.2;omega
 ·rcases t with t|t|t
  ·exact(p i t).imp .inl id
  ·exact .inl (.inr (.inl t))
  ·exact .inl (.inr (.inr (z i t)))
theorem Bk.closed(h:Bk E B w0 kb d b S s wv ess fl sf bd F w):Calls prog 40 #[.pointer (some ⟨b,0,none⟩)] w fun e w'=>e = .returned (.int .i64 0)/\w'.heap[kb]?=some (.cells (zn d b wv fl sf bd) 51 (0,0))/\∃ ρ,Bd E B w0 w kb d F S 160000 wv ess ρ w':=by
 refine(jf3 h.own).mono ?_;rintro e m ⟨rfl,f,ρ,D,k,c,g,l,H⟩;have j:kb≠b:=fun e=>h.nkb.1 (by rw[e];exact g);refine⟨rfl,f.same h.row (fun t=>j t),ρ,D,k,H,h.wr.step f (fun i t=> .inl (by rw[show i=b from t];exact g)) (fun i t=>?_),⟨yE (fun t=>h.nkb.1 (c kb t)),h.nkb.2⟩,fun i t=>h.new i (c i t),h.base,f.mono (fun i _ t=> .inl (by rw[show i=b from t];exact g)),fun i t=>?_⟩
 ·rcases t with t|t
  ·exact .inl (.inl (c i t))
  ·exact .inl (.inr t)
 ·rcases t with t|t
  ·exact .inl (.inl (c i t))
  ·exact .inl (.inr t)
theorem jb0(h:Bk E B w0 kb d b S s wv ess fl sf bd F w)(I:Rest S (qi ess sf lv N L))(hN:N+1<=2000000000)(J:∀ b∈ess,b.length<=8)(u:ess.length<=131072)(z:sf<=131072){y:Value}{ch:List Int}(x:Zp w w0.heap.size y ch) :
 Calls prog 126 #[.pointer (some ⟨kb,0,none⟩),y] w fun e w'=>e = .returned (.bool true)/\T8 E B w0 w kb d F wv N L ess w':=by
 have r:=jb h.closed;have O:=zA (o:=1) h.row;simp at O;have HP:=jb x;have HH:=jb h;have V:=jb I;have H8:=jb J;obtain⟨pc,nc,cc,A⟩:∃ p n c,y = .slice p n c:=by obtain⟨o,c,e,_⟩:=x;exact⟨o,_,c,e⟩
 subst A;clear h I J x;go_enter func126,ntmps126;go_wp2_with fail;refine r.out.mono ?_;rintro e w1 ⟨rfl,g,ρ,f⟩;have R:=zA (o:=0) g;simp at R;have k:=zC g;have m:=jb (jar (ch:=ch) f.xi f.fit (by omega) f.env V.out.wf (HP.out.keep f.wx.1 (fun i hi t=>by have:=(HH.out.lt t).1;omega)) f.new k f.nkb.1 (by have:=f.nkb.2;omega));have W:=jb f;have C:=jb g;have G:=jb k;clear f g k r O;go_wp2_with fail;refine m.out.mono ?_;rintro e w2 ⟨rfl,ρ',Z,v,H,Y⟩;obtain⟨U,T,X⟩:=V.out.Jj (fun t q=>q) ch;have l:=W.out.step Z X Y v (vi H) G.out;have j:=v.same C.out (fun t=>t W.out.nkb.1);have c4:=zA (o:=4) j;simp at c4;have D:=jb (er (least:=sf) l (by omega) T U hN j H8.out u z);clear l j H Z v Y U T X m R;go_wp2_with fail;refine D.out.mono ?_;rintro e w3 ⟨rfl,M⟩;have H3:=jb M;clear M;go_wp2;go_ret;exact⟨rfl,H3.out⟩
end Go.Proofs.YtnipbplghijdmaaGreatDoor
namespace Go.Proofs.YtnipbplghijdmaaGreatDoor
open RowKit Maps WideShapes Go.Proofs.Tryz
variable {E:Nat->Addr} {B:Nat} {w w' w0 wz:World} {d b k kb U V N L:Nat} {S S':jc} {s:Rf.St} {deg:Bool} {F T:Nat->Prop} {Q R:Want} {m:Rf.Man} {bls:List (List Rf.Ch)} {ρ:Nat->j3} {ess:List (List Rf.Ch)} {wv:Value} {fl bd:Bool} {sf lv:Nat}
structure Q8 where
 kd:Int
 A:Int
 N:Int
 kv:Value
 keys:List Int
 fa:Int
 ct:Int
 cv:Value
 chs:List Int
abbrev Q8.row(a:Q8):Array Value:=#[.int .i64 a.kd,.int .i64 a.A,.int .i64 a.N,a.kv,.int .i64 a.fa,.int .i64 a.ct,a.cv]
def I64(c:Int):Prop:= -9223372036854775808<=c/\c<=9223372036854775807
structure Zr(w:World)(B0:Nat)(a:Q8):Prop where
 kd:I64 a.kd
 A:I64 a.A
 N:I64 a.N
 fa:I64 a.fa
 ct:I64 a.ct
 keys:Zs w a.kv a.keys
 jd3:a.keys≠[]->∀ p n c,a.kv = .slice (some p) n c->p.block<B0
 chs:Zp w B0 a.cv a.chs
theorem Zr.keep{d:Nat}{a:Q8}{U:Nat->Prop}(h:Zr w d a)(f:ja w w' U)(g:∀ i,i<d->¬U i):Zr w' d a:=by
 refine⟨h.kd,h.A,h.N,h.fa,h.ct,?_,h.jd3,h.chs.keep f g⟩;obtain⟨p,c,e,q,n,m,l⟩:=h.keys;refine⟨p,c,e,q,n,m,fun j z hz=>?_⟩;obtain⟨b,o,r,k⟩:=l j z hz;subst r;exact⟨b,o,rfl,f.cell k (g b (h.jd3 (fun t=>by rw[t] at hz;cases hz) _ _ _ e))⟩
def jgg(E:Nat->Addr)(B:Nat)(w0 wz:World)(kb d:Nat)(F:Nat->Prop)(S:jc)(k:Nat)(wv:Value)(ess:List (List Rf.Ch))(sf lv N L:Nat)(ρ:Nat->j3)(w:World)(e:Ending)(w':World):Prop :=
 ∃ pv fv sf' ρ' S',e = .returned (.tuple #[.pointer pv,.int .i64 fv])/\Bd E B w0 wz kb d F S' (2*k+300000) wv ess ρ' w'/\Rest S' (qi ess sf' lv (N+1) L)/\Cl S S'/\ja w w' (fun i=>ρ i≠ .none) /\
  ((pv=none/\fv=1/\sf'=sf/\¬qe S)\/((∃ b,pv=some ⟨b,0,none⟩)/\fv=0/\sf'=lv))
theorem U3(h:Bd E B w0 wz kb d F S k wv ess ρ w)(y:k<400000000000)(A:Left S 5400 (qi ess sf lv N L))(r:lv<=ess.length)(hN:N+1<=2000000000)(j:kb<w.heap.size) :
 Calls prog 45 #[.pointer (some ⟨d,0,none⟩)] w (jgg E B w0 wz kb d F S k wv ess sf lv N L ρ w):=by
 have key:∀ {U V:Nat} {Q R:Want} {m:Rf.Man} {c:List (List Rf.Ch)},Pow S U m c Q->Q.Le R->(∀ t,Q.now t->Q.Qd t->R.now ⟨t.m.xw,t.bs,t.bls⟩)->(∀ t,Q.now t->t.m.next+1<=2000000000)->U<=V->V<=20000->(∀ t:Rf.St,Q.Qd t->qu t.files<=5700/\U+5800<=V)->(∀ t,R.now t->(qi ess lv lv (N+1) L).now t)->(∀ T,Safe T V R->Rest T (qi ess sf lv (N+1) L)) ->
  Calls prog 45 #[.pointer (some ⟨d,0,none⟩)] w (jgg E B w0 wz kb d F S k wv ess sf lv N L ρ w):=by
  intro U V Q R m c P X W M J u I l H
  refine(U0 h.xi h.fit h.env y P X W M J u I).mono ?_
  rintro e Y (⟨rfl,x,n,S',D,q,z,p,g,o⟩|⟨b,F',S',s,rfl,Z,O,v,G,hW,p,g,C⟩)
  ·exact⟨_,_,sf,n,S',rfl,h.step D q (h.env.keep g (fun i t=>h.xi.yz i t)) g (vi o) j,H _ z,p,g,.inl ⟨rfl,rfl,rfl,x⟩⟩
  ·obtain⟨n,D,q,o⟩:=O.xi
   exact⟨_,_,lv,n,S',rfl,h.step D (q.mono (by omega)) O.env g (fun i t=>C i (o i t)) j,v.rest u G (l _ v.now),p,g,.inr ⟨⟨b,rfl⟩,rfl,rfl⟩⟩
 have f:(qi ess sf lv N L).Le (qi ess sf lv (N+1) L):=qi.le (by omega) (by omega);have l:∀ t,(qi ess sf lv (N+1) L).now t->(qi ess lv lv (N+1) L).now t:=fun t ht=>qi.now ht.1.1 ht.1.2.1 (zJ _) r ht.2;rcases A with⟨m,c,P⟩|⟨m,c,P⟩
 ·exact key (V:=11800) P f (fun t ht _=>qi.xw ht) (fun t ht=>by have:=ht.1.1;omega) (by omega) (by omega) (fun t ht=>⟨ht,by omega⟩) l (fun T hT=> .inl hT)
 ·exact key (V:=20000) (R:=(qi ess sf lv (N+1) L).whole) P ⟨f.Jj,f.now,fun _ t=>t⟩ (fun t _ ht=>ht.elim) (fun t ht=>by have:=ht.1.1;omega) (by omega) (by omega) (fun t ht=>ht.elim) l (fun T hT=> .inr hT)
end Go.Proofs.YtnipbplghijdmaaGreatDoor

/-
  V: BeginR PwK ScanR CutR ROver RAll LawP WriteR OwnR OwnR2 OwnR3 BookP SameR DownR FullR KeepR.
-/
import Derived.Test.YtnipbplghijdmaaGreatDoorV39
import Derived.Test.YtnipbplghijdmaaGreatDoorV33
set_option maxRecDepth 100000
set_option maxHeartbeats 8000000
set_option linter.unusedVariables false
set_option linter.unusedSimpArgs false
namespace Go.Proofs.YtnipbplghijdmaaGreatDoor
open RowKit Maps WideShapes Go.Proofs.Tryz
variable {E:Nat->Addr} {B b d k:Nat} {w:World}
def Iy:DStep:=na [Fn (fun S=>(S.called false,true)),Xk (jh 1) [],yr Rf.Man.first]
theorem jfl{ρ:Nat->j3}{s:jc}(D:Dk E B w ρ d s)(ab:qh s)(ac:View s [])(F:Fit k s)(H:Env E B w)(hk:k<400000000000)(hb:w.heap[b]?=some (.cells (newRow d) 121 (0,0)))(aa:ρ b = .none)(a0:B<=b) :
 Calls prog 130 #[.pointer (some ⟨b,0,none⟩)] w fun e w'=>e = .returned .nilIface/\∃ S',Iy s S' true/\qh S'/\gw E B w ρ d b S' (k+1000) Rf.Man.first 0 [] w':=by
 have c0:=zA (o:=0) hb;simp at c0;have f:s.keys=[]:=by have:=ac.keys;simpa using this
 have ah:jc.zj [] s=(s.called false,true):=by
  unfold jc.zj;rw[if_neg (by rw[ab.bad];decide),f];rfl
 have v:=Zu D (F.small (by omega)) (.slice none 0 0) [] B (zY _ _ _ _) (fun g hg=>by cases hg) (by simp) (fun n hn=>by rw[f] at hn;cases hn) (by rw[f];have:=F.safe;simp only[zQ];omega);rw[ah] at v;have O:=jb v;have HB:=jb hb;have HK:=jb hk;have X:qh (s.called false):=ab.called false;have Y:View (s.called false) []:=ac.called false;have F1:=F.called false;obtain⟨u,A⟩:∃ u,u=s.called false:=⟨_,rfl⟩;rw[<-A] at O X Y F1;have an:=jb A;clear v hb hk ah f A;go_enter func130,ntmps130;go_wp2_with fail;refine O.out.mono ?_;rintro e w1 ⟨ρ1,U,D1,⟨_,rfl⟩|⟨am,_⟩⟩
 rotate_left
 ·cases am
 simp only at D1;obtain⟨G,b8⟩:=U.row HB.out aa;obtain⟨y,hy⟩:∃ y,y=w1.heap.size:=⟨_,rfl⟩;obtain⟨r,I⟩:∃ r,r=w1.alloc (.cells #[.int .i64 2,.int .i64 0,.int .i64 1,.int .i64 0,.slice none 0 0] 117):=⟨_,rfl⟩;have k2:ja w1 r (fun _=>False):=by rw[I];exact ja.alloc _ _ _
 have Z:r.heap[y]?=some (.cells #[.int .i64 2,.int .i64 0,.int .i64 1,.int .i64 0,.slice none 0 0] 117 (0,0)):=by rw[I,hy];exact je _ _
 have D2:=D1.same k2;have l:=k2.same G id;have ny:ρ1 y = .none:=yD (fun hn=>by have:=D1.rep.lt y hn;omega);have ba:Env E B w1:=H.keep U.keeps (fun i t=>D.yx i t);have ai:=ba.same k2;have d0:=zA (o:=0) l;have z2:=zA (o:=2) Z;simp at d0 z2;have d0:r.drew.cell? ⟨b,0,none⟩=some (.pointer (some ⟨d,0,none⟩)):=d0;have z2:r.drew.cell? ⟨y,2,none⟩=some (.int .i64 1):=z2;have ag:∀ W,ja r W (fun _=>False)->Calls prog 63 #[.int .i64 1] W fun e w'=>e = .returned (jf (jh 1))/\ja W w' (fun _=>False):=fun W S=>Qr 1 (by omega) (ai.same S);have ae:(jh 1).length<100:=by have:=yj (n:=1) (by omega);unfold jh;simp only[ZC,zP,zQ];omega
 have M:∀ W,ja r W (fun _=>False)->Calls prog 114 #[.pointer (some ⟨d,0,none⟩),jf (jh 1),.slice none 0 0] W fun e w'=>e = .returned .nilIface/\∃ V R,Xk (jh 1) [] u V true/\xy r ρ1 w' R/\Dk E B w' R d V:=fun W S=>by
  refine(tj (D2.same S) F1 (jh 1) (Js _) _ [] (Mb W) (fun p n c e=>by cases e) (by have:=HK.out;simp only[zQ];omega)).mono ?_;intro e w' h;obtain⟨V,cg,r2,R,g,D',aj⟩:=h.before (xy.of S (fun _ _ h=>h.elim));obtain⟨b6,_,_⟩:=X.lay (Js 1) Y (by simp[jn,qt]) r2;subst b6;rcases aj with⟨_,rfl⟩|⟨hf,_⟩
  ·exact⟨rfl,V,R,r2,g,D'⟩
  ·cases hf
 have a1:=jb ag;have C:=jb M;have a5:=jb l;have be:=jb Z;have HY:=jb hy;have kd:ja r r.drew (fun _=>False):=ja.drew _ _;have bh:=jb ae;clear ag M G l Z ae hy c0;obtain⟨J,x⟩:∃ J,J=jh 1:=⟨_,rfl⟩;rw[<-x] at a1 C;have m:=jb x;clear x;go_wp2_with fail;rw[<-I,<-HY.out];clear I
 go_cut [5] from 6 (fun s5 wd=>s5 = .nilIface/\∃ V R,Xk J [] u V true/\xy r ρ1 wd R/\Dk E B wd R d V)
 case first =>
  go_region_law (first
   | (refine jz rfl 63 [.tmp 20] _ rfl Jv [.int .i64 1] (by simp[Act.eval,Act.put]) (a1.out _ kd) ?_
      rintro e c9 ⟨rfl,a9⟩
      have d0:=a9.cell d0 id
      have kd:=kd.tt a9
      refine⟨_,rfl,?_⟩)
   | (refine jz rfl 114 [.tmp 18,.tmp 21,.const (.slice none 0 0)] _ rfl dm [.pointer (some ⟨d,0,none⟩),jf J,.slice none 0 0] (by simp[Act.eval,Act.put]) (C.out _ kd) ?_
      rintro e c8 ⟨rfl,ci,c7,bd,bb,bi⟩
      refine⟨_,rfl,?_⟩))
  all_goals
   go_wp2;go_meet
  all_goals exact⟨rfl,_,_,bd,bb,bi⟩
 case rest =>
  obtain⟨rfl,ch,ρ3,R3,T,D3⟩:=hcut;have N:J≠[]:=by rw[m.out];exact Js _
  have F3:=F1.Ef N R3;obtain⟨_,b3,b4⟩:=X.lay N Y (by simp[jn,qt]) R3;have a4:J.length<100:=by rw[m.out];exact bh.out
  have bg:=jb R3;clear R3;obtain⟨a2,b7⟩:=T.row a5.out b8;have q:=(T.row be.out ny).1;have t0:=zA (o:=0) q;have t1:=zA (o:=1) q;have t2:=zA (o:=2) q;have t3:=zA (o:=3) q;have t4:=zA (o:=4) q;simp at t0 t1 t2 t3 t4;have b9:=ai.keep T.keeps (fun i t=>D2.yx i t);have L:Rf.Man.first.bytes.length=42:=by rw[ql];rfl
  have z:=kt D3 F3 b9 Rf.Man.first Rf.St.Ok.first.yy (by decide) (.slice none 0 0) (Jw.nil _) (fun p n c e=>by cases e) a2 b7 a0 (by have:=HK.out;simp only[zQ];omega);have af:ij Rf.Man.first (.slice none 0 0) = .agg #[.int .i64 2,.int .i64 0,.int .i64 1,.int .i64 0,.slice none 0 0]:=rfl;rw[af] at z;have ap:=jb z;clear z af q d0 z2 kd a1 C;go_wp2_with fail;refine ap.out.mono ?_;rintro e w4 ⟨bc,cf,ρ4,R4,k4,b5,D4,a3,j⟩;have F4:=F3.yr R4;rw[L] at F4
  obtain⟨ak,b2,ca⟩:=b3.install b4 (fun n hn=>by
   have e:n=jh 1:=by simpa [jt,Rf.Man.first,Rf.Man.settled] using hn
   exact⟨[],jdb.2 (.inl (by rw[e,m.out]))⟩) (by
   rw[L]
   have h1:=yn (Q5 [] J []) jq
   have h2:qt (Q5 [] J [])=0:=by simp[Q5,jn,qt]
   omega) R4
  subst ak;rw[if_pos rfl] at j;rcases a3 with⟨_,rfl⟩|⟨hf,_⟩
  rotate_left
  ·cases hf
  have ao:=jb R4;have bt:=a4;clear R4;have bf:=jb j;clear j;go_wp2;go_ret;have ce:=U.keeps.size;have cd:=k2.size;have cc:=T.keeps.size;have cb:=k4.size;have al:b<w.heap.size:=zC HB.out;have ad:∀ i,i<w.heap.size->ρ4 i=ρ i:=fun i hi=>(b5 i (by omega)).trans ((T.role i (by omega)).trans (U.role i hi));have S:ja w w4 (fun i=>ρ i≠ .none\/i=b):=(((U.keeps.mono (fun i _ h=>(Or.inl h:ρ i≠ .none\/i=b))).trans k2 (fun _ _ h=>h.elim)).trans T.keeps (fun i hi h=> .inl (by rw[<-U.role i hi];exact h))).trans k4 (fun i hi h=>h.imp (fun h=>by rw[<-U.role i hi,<-T.role i (by omega)];exact h) id);refine⟨rfl,bc,.inr ⟨u,by show _=_;rw[an.out],.inr ⟨_,by rw[<-m.out];exact bg.out,.inr ⟨_,ao.out,rfl,rfl⟩⟩⟩,b2,ρ4,.slice none 0 0,.slice none 0 0,⟨H.keep (S.mono (fun i hi h=>(show B<=i from h.elim (fun h=>D.yx i h) (fun h=>by rw[h];exact a0)))) (fun i h=>h),D4,F4.mono (by simp only[zQ];omega),bf.out,Jw.nil _,zY _ _ _ _,⟨(ad b al).trans aa,a0⟩,fun p n c e=>(by cases e),fun g hg=>(by cases hg),Rf.St.Ok.first.yy,List.Pairwise.nil,ZD _,by decide⟩,S,ad,fun g hg=>(by cases hg),fun p n c e=>(by cases e)⟩
theorem Ue{ρ:Nat->j3}{u:jc}(D:Dk E B w ρ d u)(a1:qh u)(a2:View u [])(F:Fit k u)(H:Env E B w)(hk:k<400000000000)(hb:w.heap[b]?=some (.cells (newRow d) 121 (0,0)))(Z:ρ b = .none)(ac:B<=b) :
 Calls prog 83 #[.pointer (some ⟨b,0,none⟩)] w fun e w'=>e = .returned .nilIface/\∃ S',Iy (u.called false) S' true/\qh S'/\gw E B w ρ d b S' (k+1000) Rf.Man.first 0 [] w':=by
 obtain⟨x,hx⟩:∃ x,x=w.heap.size:=⟨_,rfl⟩;obtain⟨w1,q⟩:∃ w1,w1=w.alloc (.cells #[.nilIface] 128):=⟨_,rfl⟩;have k1:ja w w1 (fun _=>False):=by rw[q];exact ja.alloc _ _ _
 have aa:w1.heap[x]?=some (.cells #[.nilIface] 128 (0,0)):=by rw[q,hx];exact je _ _
 have M:=k1.same hb id;have bc:=zC hb;have l:ρ x = .none:=yD (fun hn=>by have:=D.rep.lt x hn;omega);have D1:=D.same k1
 have a5:∀ {W:World},Dk E B W ρ d u->Calls prog 129 #[.pointer (some ⟨d,0,none⟩),jf ji] W fun e w'=>xy W ρ w' ρ/\Dk E B w' ρ d (u.called false)/\∃ v,e = .returned (.tuple #[.slice none 0 0,v])/\Err E w' v 2:=fun {W} D'=>by
  refine(X9 D' (F.small (by omega)) ji (by decide)).mono ?_;rintro e w' ⟨g,b2,⟨A,_⟩|⟨_,_,v,rfl,hv⟩|⟨_,f,a,v,hA,ha,_⟩⟩
  ·rw[a1.bad] at A;cases A
  ·exact⟨g,b2,v,rfl,hv⟩
  ·have:=a2.of hA ha
   cases this
 have a4:=a5 D1;have c0:=zA (o:=0) M;simp at c0
 have ar:∀ o,(w.alloc o).cell? ⟨b,0,none⟩=some (.pointer (some ⟨d,0,none⟩)):=fun o=>by
  have:=zA (o:=0) ((ja.alloc w o (fun _=>False)).same hb id);simpa using this
 have ax:=jb a4;have V:=jb hx;have aw:=jb aa;have b1:=jb M;have HK:=jb hk;clear a4 hx aa M hb hk a5;go_enter_defers func83,ntmps83;go_wp2_with fail;rw[<-q,<-V.out];clear q ar;refine ax.out.mono ?_;rintro e w2 ⟨g2,U,v2,rfl,J⟩;obtain⟨tv,av,rfl⟩:=J.shape;have j:=(g2.row aw.out l).1;have a9:=(g2.row b1.out Z).1;have G:x≠b:=by have:=V.out;omega
 obtain⟨s,m⟩:∃ s,s=w2.setCell ⟨x,0,none⟩ (.iface tv (.pointer (some av))):=⟨_,rfl⟩;have T:ja w2 s (fun i=>i=x):=by rw[m];exact ja.setCell w2 ⟨x,0,none⟩ _
 have O:s.heap[x]?=some (.cells #[.iface tv (.pointer (some av))] 128 (0,0)):=by rw[m];exact(jd j _).trans rfl
 have a8:=T.same a9 (Ne.symm G);have ab:B<=x:=by rw[V.out];exact D.size
 have D3:Dk E B s ρ d (u.called false):=⟨U.rep.keep T (fun i e _=>by rw[e];exact l),U.z8.keep T (fun i e=>by rw[e];exact ab),U.yx,ZR U.size T.size⟩;have a3:Err E s (.iface tv (.pointer (some av))) 2:=J.keep T (fun i c e hc=>by rw[e,j] at hc;cases hc);have L:=ri D3.z8 a3 2 (by decide);rw[decide_eq_true rfl] at L;have gc:=D3.z8.cell 2 (by decide);have br:=U.z8.cell 2 (by decide);have bq:=U.z8.lt 2 (by decide);have bb:¬x=2:=by omega
 have ba:¬2=x:=by omega
 have x2:=zA (o:=0) j;have f2:=zB (o:=0) j;have x3:=zA (o:=0) O;simp at x2 x3;have C:ja w s (fun i=>ρ i≠ .none\/i=b):=((k1.up).trans g2.keeps (fun i _ h=> .inl h)).trans T (fun i hi e=>by have:=V.out;omega);have E3:Env E B s:=H.keep (C.mono (fun i hi h=>(show B<=i from h.elim (fun h=>D.yx i h) (fun h=>by rw[h];exact ac)))) (fun i h=>h);have a7:=jfl D3 (a1.called false) (a2.called false) (F.called false) E3 HK.out a8 Z ac;have az:=jb L;have b0:=jb a7;have ad:=jb O;clear L a7 j O a9 a8 J a3 c0;go_wp2_with fail;rw[<-m];clear m;refine az.out.mono ?_;rintro e w4 ⟨rfl,rfl⟩;go_wp2_with fail;refine b0.out.mono ?_;rintro e w5 ⟨rfl,R,R5,aq,ρ5,X,Y,S5,k5,a0,a6,y⟩;have r:=k5.same ad.out (fun t=>t.elim (fun t=>t l) G);have x5:=zA (o:=0) r;have f5:=zB (o:=0) r;simp at x5;obtain⟨S,I⟩:∃ S,S=w5.setCell ⟨x,0,none⟩ .nilIface:=⟨_,rfl⟩;have k6:ja w5 S (fun i=>i=x):=by rw[I];exact ja.setCell w5 ⟨x,0,none⟩ _
 have N:S.heap[x]?=some (.cells #[.nilIface] 128 (0,0)):=by rw[I];exact(jd r _).trans rfl
 have x6:=zA (o:=0) N;simp at x6;have ae:x<w4.heap.size:=zC ad.out
 have S6:StM E B S ρ5 d b R (k+1000) Rf.Man.first 0 [] false X Y:=S5.keep k6 (fun i _ e=>by
  rw[e]
  refine⟨ab,fun t=>?_,fun p n c e2 e3=>?_⟩
  ·rcases t with t|t|t
   ·rw[a0 x ae] at t;exact t l
   ·exact G t
   ·have:=a6 x t;omega
  ·have:=y p n c e2;omega)
 have z:gw E B w ρ d b R (k+1000) Rf.Man.first 0 [] S:=by
  have bp:=C.size;refine⟨ρ5,X,Y,S6,(C.trans k5 (fun i hi h=>h)).trans k6 (fun i hi e=>by have:=V.out;omega),fun i hi=>a0 i (by omega),fun g hg=>by have:=a6 g hg;omega,fun p n c e=>by have:=y p n c e;omega⟩
 have af:=jb z;have ay:=jb R5;clear R5;have au:=jb N;clear z r N;go_wp2;rw[<-I];refine leaves_cons (f:=127) (args:=#[.pointer (some ⟨b,0,none⟩),.pointer (some ⟨x,0,none⟩)]) (by simp) (by simp[go_sem]) ?_;refine(ug b x .returning _ x6).mono ?_;rintro e u' w' ⟨rfl,rfl,rfl⟩;exact⟨.nilIface,Yu rfl rfl au.out,rfl,R,ay.out,aq,af.out⟩
theorem Vs{ρ:Nat->j3}{m:jc}(D:Dk E B w ρ d m)(y:qh m)(z:View m [])(F:Fit k m)(H:Env E B w)(L:k<400000000000) :
 Calls prog 45 #[.pointer (some ⟨d,0,none⟩)] w fun e w'=>∃ S',Iy (m.called false) S' true/\qh S'/\Vy E B w ρ d (k+1000) Rf.Man.first 0 [] e w' S':=by
 obtain⟨b,j⟩:∃ b,b=w.heap.size:=⟨_,rfl⟩;obtain⟨s,f⟩:∃ s,s=w.alloc (.cells (newRow d) 121):=⟨_,rfl⟩;have t:ja w s (fun _=>False):=by rw[f];exact ja.alloc _ _ _
 have q:s.heap[b]?=some (.cells (newRow d) 121 (0,0)):=by rw[f,j];exact je _ _
 have o:=Ue (D.same t) y z F (H.same t) L q (yD (fun hn=>by have:=D.rep.lt b hn;omega)) (by rw[j];exact D.size);have G:=jb o;have l:=jb j;clear o q j;go_enter func45,ntmps45;go_wp2_with fail;rw[<-f,<-l.out];clear f;refine G.out.mono ?_;rintro e N ⟨rfl,S',R',w',I,u,v,M,J,x,A,r⟩;have C:=jb R';clear R';go_wp2;go_ret2;have O:=t.size;exact⟨S',C.out,w',b,I,u,v,rfl,by rw[l.out];exact ZQ _,M,(t.up).trans J (fun i hi h=>h.elim id (fun e=>by have:=l.out;omega)),fun i hi=>x i (by omega),fun g hg=>by have:=A g hg;omega,fun p n c e=>by have:=r p n c e;omega⟩
end Go.Proofs.YtnipbplghijdmaaGreatDoor
namespace Go.Proofs.YtnipbplghijdmaaGreatDoor
open RowKit Maps WideShapes Go.Proofs.Tryz
variable {S S':jc} {U:Nat} {m:Rf.Man} {bls:List (List Rf.Ch)} {Q R:Want} {s:Rf.St}
structure Pre(S:jc)(U:Nat):Prop where
 tied:S.names=S.late.foldl doA S.safe
 wf:∀ f a,S.files f=some a->a.Wf
 small:∀ f a,S.files f=some a->a.bytes.length<=60000
 cur:∃ T,Names S.names S.files U T
theorem Pre.zr(h:Pre S U)(c:S'.names=S.names)(b:S'.files=S.files)(f:S'.safe=S.safe)(d:S'.late=S.late):Pre S' U :=
 ⟨by rw[c,f,d];exact h.tied,by rw[b];exact h.wf,by rw[b];exact h.small,by rw[c,b];exact h.cur⟩
theorem Pre.sync(h:Pre S U)(n:Str):Pre (S.qm n).1 U:=by
 rcases Ys S n with⟨e,_⟩|⟨f,a,_,_,g,e⟩
 ·rw[e];exact h.zr rfl rfl rfl rfl
 ·rw[e]
  obtain⟨T,j⟩:=h.cur;refine⟨h.tied,fun i b hb=>?_,fun i b hb=>?_,T,j.write (c:=0) g (ZQ _)⟩
  all_goals
   have d:Fls.put S.files f a.synced i=some b:=hb;by_cases e:i=f
   ·subst e;rw[Fls.yl] at d;cases d;first|exact Ll a|exact h.small _ a g
   ·rw[Fls.yu _ _ e] at d;first|exact h.wf i b d|exact h.small i b d
theorem Pre.dir(h:Pre S U):Pre S.Yb.1 U:=by
 rcases Yq S with⟨_,e⟩|⟨_,e⟩
 ·rw[e];exact h.zr rfl rfl rfl rfl
 ·rw[e];exact⟨h.tied,h.wf,h.small,h.cur⟩
theorem Pre.sure(h:Pre S U)(ns:List Str):Pre (jc.xu ns S).1 U:=by
 induction ns generalizing S with
 | nil=>exact h.dir
 | cons n r ih =>
  unfold jc.xu
  split
  ·exact ih (h.sync n)
  ·exact h.sync n
theorem Pre.made(h:Pre S U){f:Nat}{a:jy}{n:Str}(k:S.files f=none)(m:a.Wf)(o:a.bytes.length<=60000)(r:n≠[])(q:n.length<=60)(l:S'.names=doA S.names ⟨n,[],[],some f⟩)(t:S'.late=S.late++[⟨n,[],[],some f⟩])(s:S'.safe=S.safe)(d:S'.files=Fls.put S.files f a) :
 Pre S' (U+1+a.bytes.length)/\S'.at n=some f/\(∀ x P,x≠n->At S x P->At S' x P)/\∀ ns,Qe S ns->Qe S' (n::ns):=by
 obtain⟨T,j⟩:=h.cur;have c:Names S'.names S'.files (U+1+a.bytes.length) ((n,f)::jn T n):=by rw[l,d];exact j.made k a r q
 refine⟨⟨by rw[l,t,s,xM,<-h.tied];rfl,fun i b hb=>?_,fun i b hb=>?_,_,c⟩,c.fs.at.2 ZG,fun x P hx hP=>(At.sat c).2 ?_,fun ns ho x g hx=>?_⟩
 ·rw[d] at hb
  by_cases e:i=f
  ·subst e;rw[Fls.yl] at hb;cases hb;exact m
  ·rw[Fls.yu _ _ e] at hb;exact h.wf i b hb
 ·rw[d] at hb
  by_cases e:i=f
  ·subst e;rw[Fls.yl] at hb;cases hb;exact o
  ·rw[Fls.yu _ _ e] at hb;exact h.small i b hb
 ·rw[d]
  exact((((At.sat j).1 hP).fresh k a).jn hx).cons _
 ·rcases zN.1 (c.fs.at.1 hx)with e|p
  ·cases e;exact ZG
  ·exact ZH _ (ho x g (j.fs.at.2 (qe.1 p).1))
theorem Pre.lay(h:Pre S U){n:Str}{b:List UInt8}(l:n≠[])(k:n.length<=60)(B:b.length<=60000)(r:Xk n b S S' true) :
 Pre S' (U+1+b.length)/\At S' n (fun a=>a.bytes=b/\(b=[]->yt [] a))/\(∀ x P,x≠n->At S x P->At S' x P)/\∀ ns,Qe S ns->Qe S' (n::ns):=by
 unfold Xk at r
 split at r
 ·rename_i hb
  subst hb;rcases r with⟨_,_,e⟩|⟨_,_,f,d,rfl⟩
  ·cases e
  ·obtain⟨i,p,o,m⟩:=Pre.made (S':=((S.called true).withFile f qd).named ⟨n,[],[],some f⟩) (a:=qd) h d ma (zX _) l k rfl rfl rfl rfl
   exact⟨i,⟨f,qd,p,Fls.yl _ _ _,rfl,fun _=>⟨rfl,rfl,rfl⟩⟩,o,m⟩
 ·rename_i hb
  rcases r with⟨_,e⟩|⟨E,u,t⟩
  ·cases e
  rcases u with⟨_,_,e⟩|⟨_,_,f,d,rfl⟩
  ·cases e
  have g:=Pre.made (S':=((S.called true).withFile f qd).named ⟨n,[],[],some f⟩) (a:=qd) h d ma (zX _) l k rfl rfl rfl rfl;rcases t with⟨_,e⟩|⟨D,⟨C,a',q,z,y⟩,A,_⟩
  ·cases e
  subst A;rw[g.2.1] at q;cases q;have c:Fls.put S.files f qd f=some a':=z;rw[Fls.yl] at c;cases c;rcases y with⟨_,_,e⟩|⟨_,_,rfl,_⟩
  ·cases e
  have s:(((((S.called true).withFile f qd).named ⟨n,[],[],some f⟩).called true).withFile f (qd.put b)).files=Fls.put S.files f (qd.put b):=Wg S.files f qd (qd.put b);obtain⟨v,j⟩:=Cj b;obtain⟨i,p,o,m⟩:=Pre.made (S':=((((S.called true).withFile f qd).named ⟨n,[],[],some f⟩).called true).withFile f (qd.put b)) (a:=qd.put b) h d v (by rw[j];omega) l k rfl rfl rfl s;rw[j] at i;exact⟨i,⟨f,qd.put b,p,by rw[s];exact Fls.yl _ _ _,j,fun e=>absurd e hb⟩,o,m⟩
theorem Vo(J:S.names = .map [])(hs:S.safe = .map [])(hl:S.late=[])(Y:∀ f,S.files f=none)(hQ:Q.now Rf.St.first)(r:Iy S S' true):Norm S' 200 Rf.St.first Q:=by
 have h0:Pre S 0:=⟨by rw[J,hs,hl];rfl,fun f a e=>(by rw[Y] at e;cases e),fun f a e=>(by rw[Y] at e;cases e),[],by rw[J];exact⟨bw.nil,fun p hp=>(by cases hp),List.Pairwise.nil,ZQ _,fun p hp=>(by cases hp)⟩⟩
 have o0:Qe S []:=fun n f s=>by
  unfold jc.at at s;rw[J] at s;rw[bw.nil.none (fun f h=>by cases h)] at s;cases s
 unfold Iy at r;rcases r with⟨_,e⟩|⟨I,W,k⟩
 ·cases e
 have A:(S.called false,true)=(I,true):=W;have A:I=S.called false:=(congrArg Prod.fst A).symm;have h1:Pre I 0:=by rw[A];exact h0.zr rfl rfl rfl rfl
 have o1:Qe I []:=by rw[A];exact o0.zr rfl
 clear W A;rcases k with⟨_,e⟩|⟨S2,r2,k⟩
 ·cases e
 have G:(jh 1).length<=60:=mc (by omega);obtain⟨h2,a2,b2,c2⟩:=h1.lay (Js 1) G (zX _) r2;have o2:=c2 _ o1;rcases k with⟨_,e⟩|⟨S3,V,e3,_⟩
 ·cases e
 subst e3;unfold yr at V;have O:jt Rf.Man.first=[jh 1]:=rfl;have E:Rf.Man.first.bytes.length=42:=by rw[ql];rfl
 rcases V with⟨_,e⟩|⟨T1,q1,k⟩
 ·cases e
 have t:jc.xu (jt Rf.Man.first) S2=(T1,true):=q1;have X:=h2.sure (jt Rf.Man.first);have U:=sy a2 (jt Rf.Man.first) (by rw[O];exact ZW.2 rfl) (by rw[t]) (fun a q=>⟨q.1,fun e=>(q.2 e).synced⟩);have n1:Qe T1 [jh 1]:=o2.zr (by have:=Ca (jt Rf.Man.first) S2;rwa [t] at this);rw[t] at X U;rcases k with⟨_,e⟩|⟨N,q2,k⟩
 ·cases e
 obtain⟨p2,a3,b3,c3⟩:=X.lay (n:=jq) (by decide) (by decide) (by omega) q2;have n2:=c3 _ n1;have s2:=b3 _ _ (fun e=>Eo 1 e.symm) U;rcases k with⟨_,e⟩|⟨d,q3,k⟩
 ·cases e
 have i:N.qm jq=(d,true):=q3;have y:=p2.sync jq
 have t3:At d jq (yt Rf.Man.first.bytes):=by
  have:=sx (S:=N) jq (by rw[i]) a3;rw[i] at this;exact this.mono (fun a ⟨b,q,e⟩=>by rw[e];exact⟨q.1,by show b.bytes.length=_;rw[q.1],rfl⟩)
 have s3:At d (jh 1) (yt []):=by
  have:=(s2.mono (fun a q=>q.1.2 rfl)).sync jq (fun a q=>q.synced);rwa [i] at this
 have n3:Qe d (jq::[jh 1]):=n2.zr (by have:=an N jq;rwa [i] at this);rw[i] at y;rcases k with⟨_,e⟩|⟨T4,q4,e4,_⟩
 ·cases e
 subst e4;have c:xq (d.qq jq ji)=(S',true):=q4;unfold xq at c
 split at c
 rotate_left
 ·cases c
 rename_i hok
 rcases ib d jq ji (by decide)with⟨e,_⟩|⟨f,_,s,e⟩
 ·rw[e] at hok;cases hok
 rw[e] at c;obtain⟨T,H⟩:=y.cur;have hm:=H.fs.at.1 s;obtain⟨f',a,F,Z,B⟩:=t3;rw[s] at F;cases F;have hN:=H.renamed (a:=a) hm (ds:=ji) (by decide) (by decide) (by decide);have R:(yc d.files f).length=42:=by unfold yc;rw[Z];show a.bytes.length=42;rw[B.bytes,E]
 rw[R,E] at hN;rcases Yq ((d.called true).named ⟨[],jq,ji,some f⟩)with⟨_,M⟩|⟨_,M⟩
 ·rw[M] at c;cases c
 rw[M] at c;have z:=(congrArg Prod.fst c).symm;simp only at z;have D:S'.names=doA d.names ⟨[],jq,ji,some f⟩:=by rw[z];rfl
 have j:S'.files=d.files:=by rw[z];rfl
 have u:S'.late=[]:=by rw[z]
 have C:S'.safe=S'.names:=by
  rw[D,z];show(d.late++[_]).foldl doA d.safe=_;rw[xM,<-y.tied];rfl
 have v:Names S'.names S'.files 200 ((ji,f)::jn (jn T ji) jq):=by rw[D,j];exact hN.mono (by simp only[zQ];omega)
 have m:Sat ((ji,f)::jn (jn T ji) jq) S'.files (jh 1) (yt []):=by
  rw[j];exact((((At.sat H).1 s3).jn (fun e=>tg 1 e.symm)).jn (fun e=>Eo 1 e.symm)).cons _
 have l:(⟨Rf.Man.first,[],[]⟩:Rf.St).Ok:=Rf.St.Ok.first;have o:Qv S'.files 200 Rf.Man.first [] Q S'.names:=⟨_,v,⟨f,a,ZG,by rw[j];exact Z,B⟩,fun p hp=>(by cases hp),m.mono (fun a q=>Jg.sure (bs:=[]) q l hQ)⟩;have hP:Pow S' 200 Rf.Man.first [] Q:=⟨by rw[u,C];rfl,by rw[j];exact y.wf,by rw[j];exact y.small,by rw[u,C];exact⟨_,_,o⟩,o⟩;refine ix hP u ((At.sat v).2 m) l hQ (fun x g hx=>?_);rw[Qg];rcases zN.1 (v.fs.at.1 hx)with e|hq
 ·cases e;exact .inr (.inr rfl)
 ·have h3:=qe.1 hq
  have L:=n3 x g (H.fs.at.2 (qe.1 h3.1).1);rcases zN.1 L with e|L
  ·exact absurd e h3.2
  ·exact .inr (.inl (ZW.1 L))
end Go.Proofs.YtnipbplghijdmaaGreatDoor
namespace Go.Proofs.YtnipbplghijdmaaGreatDoor
open RowKit Maps WideShapes Go.Proofs.Tryz
def jfo(E:Nat->Addr)(B:Nat)(w:World)(ρ:Nat->j3)(d b:Nat)(rv mv:Value)(S:jc)(k:Nat)(s:Rf.St)(deg:Bool)(lo hi:Str)(most:Nat)(e:Ending)(w':World):Prop :=
 ∃ S',xi S S'/\((∃ v,e = .returned (.tuple #[v,.int .i64 0])/\w'.ownsRow w.heap.size 65 2 v (Rf.oz s.all lo hi most).length (qo (Rf.oz s.all lo hi most))/\yz E B w ρ d b rv mv S' k s.m s.last s.mem deg w') \/
  (¬qh S/\e = .returned (.tuple #[.slice none 0 0,.int .i64 1])/\yz E B w ρ d b rv mv S' k s.m s.last s.mem true w'))
theorem jf9{E:Nat->Addr}{B:Nat}{w:World}{ρ:Nat->j3}{d b k:Nat}{S:jc}{s:Rf.St}{q:Bool}{rv x:Value}(T:StM E B w ρ d b S k s.m s.last s.mem q rv x)(o:s.Ok)(D:Jm S s)(O:k<549755813888)(W:s.all.length<1048576)(lo f:Str)(most:Nat)(r:most<9223372036854775808) :
 Calls prog 29 #[.pointer (some ⟨b,0,none⟩),jf lo,jf f,j7 most] w (jfo E B w ρ d b rv x S k s q lo f most):=by
 have U:Ba s.m s.bls k S:=⟨T.fit,D.bytes⟩;have R:=o7 o.yy o.len o.bl O;have F:s.mem.drop (Rf.below s.mem lo)=s.mem.filter (Rf.qk lo):=Rf.vv (Rf.za _) lo
 have J:Zd f (Yx (s.mem.drop (Rf.below s.mem lo)) S)=some (s.mem.filter (fun c=>Zo lo f c.key)):=by
  unfold Zd Yx;rw[if_pos (.inl rfl),F];show some (Y0 f (s.mem.filter (Rf.qk lo)))=_;rw[pz (l:=s.mem) (Rf.za _)]
 have I:(Yx (s.mem.drop (Rf.below s.mem lo)) S).1=S:=rfl;obtain⟨S',A,e⟩:=Hx f lo (s.bls.map Rf.chunks) S;rw[je0 o] at e
 have j:j9 f (Yx (s.mem.drop (Rf.below s.mem lo))::xx (s.bls.map Rf.chunks) lo) S=(S',.inl (s.mem.filter (fun c=>Zo lo f c.key)::s.bls.map (fun l=>l.filter (fun c=>Zo lo f c.key))))\/(j9 f (Yx (s.mem.drop (Rf.below s.mem lo))::xx (s.bls.map Rf.chunks) lo) S=(S',.inr true)/\¬qh S):=by
  rcases e with e|⟨e,z⟩
  ·left;rw[im,J,I,e]
  ·right;exact⟨by rw[im,J,I,e],z⟩
 have M:=Py o lo f
 have N:(Xa (j9 f (Yx (s.mem.drop (Rf.below s.mem lo))::xx (s.bls.map Rf.chunks) lo) S)).length<1048576:=by
  rcases j with j|⟨j,_⟩
  ·rw[j];show(Rf.merged _).length<_;omega
  ·rw[j];exact ZD _
 have V:=T.au;refine(jci s.m rv (jg s.last) x s.mem q (s.bls.map Rf.chunks) T.env T.xl U R T.row (fun h=>h T.nb.1) T.nb.2 T.runs (by omega) (Je T.mem) (Lw o T.few) (fun p n c e=>?_) lo f most r N).mono ?_
 ·have u:x.ownBlock=some p.block:=by rw[e];rfl
  exact⟨fun t=>t (T.nm _ u).1,(T.mem.lt _ u).2⟩
 ·rintro X w' ⟨G,y,h⟩
  have L:=A.fit T.fit;rcases j with j|⟨j,z⟩
  ·rw[j] at y h
   refine⟨S',A,?_⟩;rcases h with⟨v,rfl,_,H,i⟩|⟨g,_,_⟩
   ·refine .inl ⟨v,rfl,?_,T.next G (fun _ _=>rfl) y L i⟩
    have C:Xa (S',Sum.inl (s.mem.filter (fun c=>Zo lo f c.key)::s.bls.map (fun l=>l.filter (fun c=>Zo lo f c.key))))=Rf.merged (s.mem.filter (fun c=>Zo lo f c.key)::s.bls.map (fun l=>l.filter (fun c=>Zo lo f c.key))):=rfl;rw[C,jd7 o] at H;exact H
   ·exact(g rfl).elim
  ·rw[j] at y h
   refine⟨S',A,.inr ⟨z,?_⟩⟩;rcases h with⟨v,_,g,_,_⟩|⟨_,rfl,i⟩
   ·rcases g with g|g
    ·cases g
    ·exact(g rfl).elim
   ·exact⟨rfl,T.next G (fun _ _=>rfl) y L i⟩
end Go.Proofs.YtnipbplghijdmaaGreatDoor
namespace Go.Proofs.YtnipbplghijdmaaGreatDoor
open RowKit Maps WideShapes Go.Proofs.Tryz
variable {S S':jc}
def Cl(S S':jc):Prop:=S.cut = -1->S'.cut = -1
theorem Cl.refl(S:jc):Cl S S:=id
theorem Cl.trans{T:jc}(h:Cl S S')(k:Cl S' T):Cl S T:=fun c=>k (h c)
theorem Cl.sync(S:jc)(n:Str):Cl S (S.qm n).1:=fun c=>by
 unfold jc.qm
 split
 ·exact yq true c
 ·split
  ·exact yq true c
  ·split
   ·exact yq true c
   ·exact yq true c
theorem Cl.dir(S:jc):Cl S S.Yb.1:=fun c=>by
 unfold jc.Yb
 split
 ·exact yq true c
 ·exact yq true c
theorem Cl.remove(S:jc)(n:Str):Cl S (S.xh n).1:=fun c=>by
 unfold jc.xh
 split
 ·exact yq true c
 ·split
  ·exact yq true c
  ·exact yq true c
theorem Cl.rename(S:jc)(a b:Str):Cl S (S.qq a b).1:=fun c=>by
 unfold jc.qq
 split
 ·exact yq true c
 ·split
  ·exact yq true c
  ·split
   ·exact yq true c
   ·exact yq true c
theorem Cl.xq{F:jc×Bool}(h:Cl S F.1):Cl S (Go.Proofs.YtnipbplghijdmaaGreatDoor.xq F).1:=by
 unfold Go.Proofs.YtnipbplghijdmaaGreatDoor.xq
 split
 ·exact h.trans (Cl.dir _)
 ·exact h
theorem Cl.sure:∀(ns:List Str) (S:jc),Cl S (jc.xu ns S).1
 | [],S=>Cl.dir S
 | n::r,S=>by
  unfold jc.xu
  split
  ·exact(Cl.sync S n).trans (Cl.sure r _)
  ·exact Cl.sync S n
theorem Cl.Ye:∀(ns:List Str) (S:jc),Cl S (jc.yf ns S).1
 | [],S=>id
 | n::r,S=>by
  unfold jc.yf
  split
  ·exact(Cl.remove S n).trans (Cl.Ye r _)
  ·exact Cl.remove S n
theorem Cl.removeAll(ns:List Str)(S:jc):Cl S (jc.jr ns S).1:=by
 unfold jc.jr
 split
 ·exact id
 ·exact Cl.xq (Cl.Ye ns S)
theorem Cl.clear(ns:List Str)(S:jc):Cl S (jc.zj ns S).1:=by
 unfold jc.zj
 split
 ·exact yq false
 ·exact fun c=>Cl.removeAll _ _ (yq false c)
def J2(R:DStep):Prop:=∀ S S' ok,R S S' ok->Cl S S'
theorem J2.fn{f:jc->jc×Bool}(h:∀ S,Cl S (f S).1):J2 (Fn f):=fun S S' ok r=>by
 have:=h S
 rw[show f S=(S',ok)from r] at this
 exact this
theorem J2.app(n:Str)(b:List UInt8):J2 (Kc n b):=fun S S' ok r c=>by
 obtain⟨f,a,_,_,⟨_,rfl,_⟩|⟨_,_,rfl,_⟩⟩:=r
 ·exact yq true c
 ·exact yq true c
theorem J2.cre(n:Str):J2 (Lf n):=fun S S' ok r c=>by
 rcases r with⟨_,rfl,_⟩|⟨_,_,f,_,rfl⟩
 ·exact yq true c
 ·exact yq true c
theorem J2.turn:∀ {l:List DStep},(∀ r∈l,J2 r)->J2 (na l)
 | [],_=>fun S S' ok r=>by
  obtain⟨rfl,_⟩:=r
  exact id
 | x::l,h=>fun S S' ok r=>by
  have ih:=J2.turn (fun r hr=>h r (ZH _ hr))
  have b:=h x (ZG ..)
  rcases r with⟨r,_⟩|⟨f,d,c⟩
  ·exact b _ _ _ r
  ·exact(b _ _ _ d).trans (ih _ _ _ c)
theorem J2.lay(n:Str)(b:List UInt8):J2 (Xk n b):=by
 unfold Xk
 split
 ·exact J2.cre n
 ·exact J2.turn (fun r hr=>by
   simp only[zN,xR,or_false] at hr
   rcases hr with rfl|rfl
   ·exact J2.cre n
   ·exact J2.app n b)
theorem J2.install(m:Rf.Man):J2 (yr m):=J2.turn (fun r hr=>by
 simp only[zN,xR,or_false] at hr
 rcases hr with rfl|rfl|rfl|rfl
 ·exact J2.fn (Cl.sure _)
 ·exact J2.lay _ _
 ·exact J2.fn (fun S=>Cl.sync S _)
 ·exact J2.fn (fun S=>Cl.xq (Cl.rename S _ _)))
theorem J2.flush(m:Rf.Man)(last:Nat)(l:List Rf.Ch):J2 (rk m last l):=J2.turn (fun r hr=>by
 simp only[zN,xR,or_false] at hr
 rcases hr with rfl|rfl|rfl|rfl
 ·exact J2.fn (fun S=>Cl.sync S _)
 ·exact J2.lay _ _
 ·exact J2.lay _ _
 ·exact J2.install _)
theorem J2.j8(m:Rf.Man)(l:List Rf.Ch):J2 (Qj m l):=by
 unfold Qj
 split
 ·exact J2.install _
 ·exact J2.turn (fun r hr=>by
   simp only[zN,xR,or_false] at hr
   rcases hr with rfl|rfl|rfl
   ·exact J2.fn (fun S=>Cl.sync S _)
   ·exact J2.lay _ _
   ·exact J2.install _)
theorem J2.renew(m:Rf.Man)(b:List UInt8):J2 (Bm m b):=J2.turn (fun r hr=>by
 simp only[zN,xR,or_false] at hr
 rcases hr with rfl|rfl
 ·exact J2.lay _ _
 ·exact J2.install _)
theorem Xi.cut{R:DStep}{m:Rf.Man}{l g:jc->Prop}(h:Xi S R m l g)(j:J2 R):Xi S R m (fun T=>l T/\Cl S T) (fun T=>g T/\Cl S T):=by
 obtain⟨i,d,⟨a,b⟩|⟨k,f,r,⟨a,b⟩|⟨a,⟨b,c⟩|⟨b,c⟩⟩⟩⟩:=h
 ·exact⟨i,d,.inl ⟨a,b,d.cut⟩⟩
 ·exact⟨i,d,.inr ⟨k,f,r,.inl ⟨a,b,fun t=>j _ _ _ r (d.cut t)⟩⟩⟩
 ·exact⟨i,d,.inr ⟨k,f,r,.inr ⟨a,.inl ⟨b,c,fun t=>Cl.clear _ _ (j _ _ _ r (d.cut t))⟩⟩⟩⟩
 ·exact⟨i,d,.inr ⟨k,f,r,.inr ⟨a,.inr ⟨b,c,fun t=>Cl.clear _ _ (j _ _ _ r (d.cut t))⟩⟩⟩⟩
end Go.Proofs.YtnipbplghijdmaaGreatDoor
namespace Go.Proofs.YtnipbplghijdmaaGreatDoor
open RowKit Maps WideShapes Go.Proofs.Tryz
theorem Lt(l b:List Rf.Ch)(c:Rf.Ch):Rf.over l (b++[c])=Rf.put (Rf.over l b) c:=by simp[Rf.over,xM]
def Zn(ls:List (List Rf.Ch)):Nat:=(ls.map List.length).sum
theorem Hk(bs:List (List Rf.Ch)):(Rf.memory bs).length<=Zn bs:=by
 have H:∀(bs:List (List Rf.Ch)) (l:List Rf.Ch),Rf.jw l->(bs.foldl Rf.over l).length<=l.length+Zn bs:=by
  intro bs
  induction bs with
  | nil=>intro l _;simp[Zn]
  | cons b r ih =>
   intro l c;have g:=ih (Rf.over l b) (Rf.ym c);have f:=(Rf.gn (more:=b) c).1;have d:Zn (b::r)=b.length+Zn r:=by simp[Zn]
   rw[xS];omega
 have:=H bs [] List.Pairwise.nil;simpa [Rf.memory] using this
theorem vi(ls:List (List Rf.Ch)):(Rf.merged ls).length<=Zn ls:=Rf.K0 ls
end Go.Proofs.YtnipbplghijdmaaGreatDoor
namespace Go.Proofs.YtnipbplghijdmaaGreatDoor.Rf
open Go.Proofs.Tryz
variable {l:List Ch}
def sg(l:List Ch):Nat:=(l.flatMap entry).length
theorem Y2(c:Ch)(l:List Ch):sg (c::l)=(entry c).length+sg l:=by simp[sg]
theorem Lp(a b:List Ch):sg (a++b)=sg a+sg b:=by simp[sg]
theorem jf8(c:Ch)(l:List Ch):sg (ins c l)<=(entry c).length+sg l:=by
 induction l with
 | nil=>simp[ins,sg]
 | cons x r ih =>
  unfold ins
  split
  ·rw[Y2];exact ZQ _
  ·split
   ·rw[Y2,Y2];omega
   ·rw[Y2,Y2];omega
theorem Wb(h:jw l)(b:List Ch):sg (over l b)<=sg l+sg b:=by
 induction b generalizing l with
 | nil=>exact Nat.le_add_right _ _
 | cons c r ih =>
  have d:over l (c::r)=over (put l c) r:=rfl;rw[d,Xw h,Y2];have g:=ih (Jp (c:=c) h);have f:=jf8 c l;omega
def sgs(bs:List (List Ch)):Nat:=(bs.map sg).sum
theorem ox(b:List Ch)(bs:List (List Ch)):sgs (b::bs)=sg b+sgs bs:=by simp[sgs]
theorem jce(h:jw l)(bs:List (List Ch)):sg (bs.foldl over l)<=sg l+sgs bs:=by
 induction bs generalizing l with
 | nil=>exact Nat.le_add_right _ _
 | cons b r ih =>
  rw[xS,ox];have d:=ih (ym (more:=b) h);have c:=Wb h b;omega
theorem jaj(bs:List (List Ch)):sg (memory bs)<=sgs bs:=by
 have:=jce (l:=[]) List.Pairwise.nil bs;simpa [memory,sg] using this
theorem jai(ls:List (List Ch)):sg (merged ls)<=sgs ls:=by
 induction ls with
 | nil=>exact ZQ _
 | cons l r ih =>
  rw[Xq,ox];have:=Wb (y9 r) l;omega
theorem jcd(l:List Ch):sg (there l)<=sg l:=by
 induction l with
 | nil=>exact ZQ _
 | cons c r ih =>
  unfold there at ih ⊢;by_cases h:c.gone=true
  ·rw[xU (by simp[h]),Y2];omega
  ·rw[xV (by simpa using h),Y2,Y2];omega
theorem L7(c:Ch):c.key.length+2<=(entry c).length:=by
 unfold entry text
 split
 ·simp only[zP,ZC,js];omega
 ·simp only[zP,ZC,js];omega
theorem C3{c:Ch}(h:allowed c=true):1<=c.key.length/\c.key.length<=16:=by
 unfold allowed at h;simp only[xW,decide_eq_true_eq] at h;exact⟨h.1.1.1,h.1.1.2⟩
theorem Ts(h:∀ c∈l,allowed c=true):3*l.length<=sg l:=by
 induction l with
 | nil=>exact ZQ _
 | cons c r ih =>
  have f:=ih (fun x hx=>h x (ZH _ hx));have d:=L7 c;have b:=(C3 (h c ZG)).1;rw[Y2,zP];omega
theorem Kw(h:∀ c∈l,allowed c=true)(m:Nat)(f:4*m<=l.length):(zh l m).length+6*m<=sg (l.take (4*m)):=by
 induction m with
 | zero=>simp[zh,j2]
 | succ m ih =>
  have j:=ih (by omega);rw[ah l m (by omega)]
  have e:l.take (4*(m+1))=l.take (4*m)++(l.drop (4*m)).take 4:=by
   rw[show 4*(m+1)=4*m+4 by omega,List.take_add]
  rw[e,Lp];have d:((l.drop (4*m)).take 4).length=4:=by rw[ZN,ZZ];omega
  have b:∀ c∈(l.drop (4*m)).take 4,allowed c=true:=fun c hc=>h c (zL (ZU hc));generalize hB:(l.drop (4*m)).take 4=B at d b ⊢
  match B,d with
  | c::r,d =>
   have i:=Ts (l:=r) (fun x hx=>b x (ZH _ hx));have g:=L7 c;rw[zP] at d;rw[Y2];show((zh l m++big (zc l m).length 4)++text c.key).length+6*(m+1)<=_;unfold text;simp only[ZC,js];omega
theorem jet(l:List Ch)(n:Nat):sg (l.take n)<=sg l:=by
 have:=Lp (l.take n) (l.drop n);rw[zJ] at this;omega
theorem ph(h:∀ c∈l,allowed c=true):4*(j6 l).length<=9*sg l+176/\sg l<=(j6 l).length:=by
 rw[pd];have j:=La l ((l.length+3)/4) (by omega);rw[ZF (by omega)] at j;have m:(l.flatMap entry).length=sg l:=rfl;have o:=Ts h
 have i:(zh l ((l.length+3)/4)).length<=sg l+21-6*(l.length/4)/\6*(l.length/4)<=sg l/\((l.length+3)/4=l.length/4->(zh l ((l.length+3)/4)).length<=sg l-6*(l.length/4)):=by
  have k:=Kw h (l.length/4) (by omega);have g:=jet l (4*(l.length/4));refine⟨?_,by omega,fun e=>by rw[e];omega⟩;by_cases hc:4*(l.length/4)<l.length
  ·have e:(l.length+3)/4=l.length/4+1:=by omega
   rw[e,ah l _ hc]
   have n:(Jn ((l.drop (4*(l.length/4))).take 4)).length<=16:=by
    obtain⟨c,f,d⟩:=Zf (b:=(l.drop (4*(l.length/4))).take 4) (by rw[ZN,ZZ];omega);rw[d];exact(C3 (h c (zL (ZU f)))).2
   unfold text;simp only[ZC,js];omega
  ·have e:(l.length+3)/4=l.length/4:=by omega
   rw[e];omega
 obtain⟨i,k,g⟩:=i;simp only[ZC,js,frame];rw[m] at j;by_cases hc:(l.length+3)/4=l.length/4
 ·have:=g hc
  omega
 ·omega
theorem gm(last:Nat)(bs:List (List Ch)):(jk last bs).length=sgs bs+17*bs.length:=by
 induction bs generalizing last with
 | nil=>simp[jk,sgs]
 | cons b r ih =>
  have e:jk last (b::r)=jl (last+1) b++jk (last+1) r:=by simp[jk,jl]
  have g:=ih (last+1);have f:=Lb (last+1) b;have d:=Wj b;have c:(b.flatMap entry).length=sg b:=rfl;rw[e,ZC,ox,zP];omega
theorem Ho{ls:List (List Ch)}(h:∀ l∈ls,∀ c∈l,allowed c=true):3*Zn ls<=sgs ls:=by
 induction ls with
 | nil=>simp[Zn,sgs]
 | cons l r ih =>
  have f:=ih (fun x hx=>h x (ZH _ hx));have d:=Ts (h l ZG);have b:Zn (l::r)=l.length+Zn r:=by simp[Zn]
  rw[b,ox];omega
end Go.Proofs.YtnipbplghijdmaaGreatDoor.Rf
namespace Go.Proofs.YtnipbplghijdmaaGreatDoor
open Go.Proofs.Tryz
variable {s:Rf.St}
theorem gy:∀(ns:List Nat) (ls:List (List Rf.Ch)),ls.length=ns.length->(∀ l∈ls,∀ c∈l,Rf.allowed c=true)->Rf.sgs ls<=qt (qn ns ls)
 | [],[],_,_=>by simp[qn,qt,Rf.sgs]
 | n::r,l::q,hl,h=>by
  have h1:=gy r q (by simpa using hl) (fun x hx=>h x (ZH _ hx))
  have b:=(Rf.ph (h l ZG)).2
  have e:qn (n::r) (l::q)=(jo n,Rf.j6 l)::qn r q:=rfl
  rw[e,zv,Rf.ox]
  show Rf.sg l+Rf.sgs q<=(Rf.j6 l).length+_
  omega
theorem Yo(s:Rf.St):qt s.files=s.m.bytes.length+((Rf.jk s.m.last s.bs).length+qt (qn s.m.settled s.bls)):=by
 unfold Rf.St.files;rw[zv,zv]
structure Fits(n:Nat)(s:Rf.St):Prop where
 ok:s.Ok
 size:qt s.files<=20000
 last:s.last<=n
 next:1<=s.m.next/\s.m.next<=2+2*n
structure Bnd(s:Rf.St):Prop where
 lens:Zn s.bs+Zn s.bls<20000
 bs:s.bs.length<20000
 bls:s.bls.length<20000
 runs:s.m.runs.length<20000
 mem:s.mem.length<20000
 all:s.all.length<20000
 mrg:(Rf.merged s.bls).length<20000
 live:s.live.length<20000
theorem fj(h:s.Ok):(∀ b∈s.bs,∀ c∈b,Rf.allowed c=true)/\∀ l∈s.bls,∀ c∈l,Rf.allowed c=true:=⟨fun b hb=>((Rf.Ji b).1 (h.log b hb)).2.2,fun l hl=>(h.bl l hl).allowed⟩
theorem Fits.bnd{n:Nat}(h:Fits n s):Bnd s:=by
 have c:=h.size;rw[Yo,ql,Rf.gm] at c;obtain⟨d,b⟩:=fj h.ok;have r:=gy s.m.settled s.bls h.ok.len b;have q:=Rf.Ho d;have p:=Rf.Ho b;have o:=h.ok.len;have l:=Mu s.m;have k:s.mem.length<=Zn s.bs:=Hk s.bs;have j:s.all.length<=Zn (s.mem::s.bls):=vi _;have i:Zn (s.mem::s.bls)=s.mem.length+Zn s.bls:=by simp[Zn]
 have g:(Rf.merged s.bls).length<=Zn s.bls:=vi _;have f:s.live.length<=(Rf.merged s.bls).length:=ZT _ _;exact⟨by omega,by omega,by omega,by omega,by omega,by omega,by omega,by omega⟩
end Go.Proofs.YtnipbplghijdmaaGreatDoor
namespace Go.Proofs.YtnipbplghijdmaaGreatDoor
open RowKit Maps WideShapes Go.Proofs.Tryz
theorem jeo{E:Nat->Addr}{B:Nat}{w:World}{ρ:Nat->j3}{d b k:Nat}{SD:jc}{m:Rf.Man}{last:Nat}{mem:List Rf.Ch}{rv V:Value}(S:StM E B w ρ d b SD k m last mem false rv V)(hk:k<540000000000)(ev:Value)(j:List Rf.Ch)(N:Rf.zm j=true)(A:Chs w ev j)(a0:∀ p n c,ev = .slice (some p) n c->¬StF ρ b V p.block)(I:last<1000000000)(Z:mem.length+8<60000)(ad:∃ f a,SD.at (jh m.log)=some f/\SD.files f=some a) :
 Calls prog 24 #[.pointer (some ⟨b,0,none⟩),ev] w fun e w'=>∃ S' ok,Kc (jh m.log) (Rf.jl (last+1) j) SD S' ok /\
  ((ok=true/\e = .returned (.int .i64 0)/\yz E B w ρ d b rv V S' (k+(Rf.jl (last+1) j).length) m (last+1) (Rf.over mem j) false w') \/
   (ok=false/\e = .returned (.int .i64 1)/\yz E B w ρ d b rv V S' (k+(Rf.jl (last+1) j).length) m last mem true w')):=by
 obtain⟨h1,h8,u⟩:=(Rf.Ji j).1 N;have ar:∀ c∈j,c.key.length<1048576/\c.value.length<1048576:=fun c hc=>by have:=(Rf.Jk c).1 (u c hc);omega
 have F:∀ c∈j,c.key.length<1099511627776/\c.value.length<1099511627776:=fun c hc=>by have:=(Rf.Jk c).1 (u c hc);omega
 have ae:=Bz ev j w A (by omega) F;rw[N] at ae;have ag:=S.yy.log;have bk:=S.yy.1;have O:m.log<=9223372036854775807:=by omega
 have G:=Xg O
 have ac:(Rf.jl (last+1) j).length<600/\0<(Rf.jl (last+1) j).length:=by
  have hf:=Rf.Yy u;have e:(Rf.jl (last+1) j).length=17+(j.flatMap Rf.entry).length:=by simp only[Rf.jl,Rf.frame,ZC,Rf.js];omega
  omega
 obtain⟨pe,ce,rfl,_⟩:=id A;obtain⟨lo,x⟩:∃ lo,lo=m.log:=⟨_,rfl⟩;have s:=S.row;unfold Z9 at s;rw[<-x] at s;rw[<-x] at O G ad ⊢;obtain⟨y,U⟩:∃ y,y=Rf.jl (last+1) j:=⟨_,rfl⟩;rw[<-U] at ac ⊢;have Y:∀ W,ja w W (fun _=>False)->Calls prog 63 #[j7 lo] W fun e w'=>e = .returned (jf (jh lo))/\ja W w' (fun _=>False):=fun W k=>Qr lo O (S.env.same k)
 have a7:∀ W,ja w W (fun _=>False)->Calls prog 64 #[.int .i64 ((last:Int)+1),.slice pe j.length ce] W fun e w'=>∃ p c,e = .returned (.slice p y.length c)/\w'.ownsRow W.heap.size 5 1 (.slice p y.length c) y.length (y.map j5)/\ja W w' (fun _=>False):=fun W k=>by
  have:=jbw (last+1) (.slice pe j.length ce) j W (by omega) (by omega) ar (A.same k);rw[<-U] at this;simpa using this
 have a8:∀(W:World) (v:Value),ja w W (fun _=>False)->W.ownsRow w.heap.size 5 1 v y.length (y.map j5)->Calls prog 62 #[.pointer (some ⟨d,0,none⟩),jf (jh lo),v] W fun e w'=>∃ cc,e = .returned (.int .i64 cc)/\∃ S' ok ρ',Hid (Kc (jh lo) y SD S' ok)/\xy w ρ w' ρ'/\Dk E B w' ρ' d S'/\Hid ((ok=true/\cc=(0:Int))\/(ok=false/\cc=1)):=fun W v kk hr=>by
  obtain⟨f,a,hA,ha⟩:=ad;refine(jd6 (S.xl.same kk) S.fit (by omega) (jh lo) G hA ha v y ac.2 (by omega) (x7 hr) (Nb (fun i hi=>S.xl.rep.lt i hi) hr)).mono ?_;rintro e w' ⟨S',ok,ρ',cc,rfl,r,g,D',hc⟩;exact⟨cc,rfl,S',ok,ρ',r,(xy.of kk (fun _ _ h=>h.elim)).trans g,D',hc⟩
 have cj:=jb U;have br:=jb ae;have b1:=jb Y;have b2:=jb a7;have b3:=jb a8;have HB:=jb s;have b0:=jb x;have d2:=zA (o:=6) s;simp at d2;have hd:decide ((1000000000:Int)<=(last:Int))=false:=by rw[decide_eq_false_iff_not];omega
 have ay:(last:Int)<1000000000:=by omega
 have hw:IntKind.i64.wrap ((last:Int)+1)=(last:Int)+1:=zE (by omega) (by omega);have bp:=jb A;have c4:=jb u;have bm:=jb F;have H8:=jb h8;have aa:=jb Z;have c2:=jb N;have H:=jb a0;have bo:=jb I;clear U ae Y a7 a8 s ac N h1 h8 u ar F I hk G O x ad ag bk A Z a0;go_enter func24,ntmps24;go_wp2_with fail;refine(Qa HB.out).mono ?_;rintro e w0 ⟨rfl,rfl⟩;rw[show Xp false false=0 from rfl];go_wp2_with fail;refine br.out.mono ?_;rintro e w1 ⟨rfl,k1⟩;have T:=k1.same HB.out id;have c0:=zA (o:=0) T;have c3:=zA (o:=3) T;have c6:=zA (o:=6) T;simp at c0 c3 c6;clear T;have J:ja w0 w1.drew (fun _=>False):=k1.draw;go_wp2_with fail
 go_region_law (first
  | (refine jz rfl 63 [.tmp 27] _ rfl Jv [.int .i64 lo] (by simp[Act.eval,Act.put]) (b1.out _ J) ?_
     rintro e w2 ⟨rfl,k2⟩
     have J:=J.tt k2
     try have z:=k2.row z (fun _ _ h=>h)
     have l:=J.same HB.out id
     have c0:=zA (o:=0) l
     have c3:=zA (o:=3) l
     have c6:=zA (o:=6) l
     simp at c0 c3 c6
     clear l
     refine⟨_,rfl,?_⟩)
  | (refine jz rfl 64 [.tmp 33,.tmp 34] _ rfl Sh [.int .i64 ((last:Int)+1),.slice pe j.length ce] (by simp[Act.eval,Act.put]) (b2.out _ J) ?_
     rintro e w2 ⟨pb,cb,rfl,z,k2⟩
     have z:=q7 z J.size
     have J:=J.tt k2
     have l:=J.same HB.out id
     have c0:=zA (o:=0) l
     have c3:=zA (o:=3) l
     have c6:=zA (o:=6) l
     simp at c0 c3 c6
     clear l
     refine⟨_,rfl,?_⟩)
  | (refine jz rfl 62 [.tmp 22,.tmp 28,.tmp 35] _ rfl K9 [.pointer (some ⟨d,0,none⟩),jf (jh lo),.slice pb y.length cb] (by simp[Act.eval,Act.put]) (b3.out _ _ J z) ?_
     rintro e w3 ⟨cc,rfl,bl⟩
     refine⟨_,rfl,?_⟩))
 all_goals
  obtain⟨S',ok,ρ3,r3,q,M,hc⟩:=bl;have F3:=S.fit.jgw r3.out;have az:=r3;clear r3;rcases hc.out with⟨rfl,rfl⟩|⟨rfl,rfl⟩
  rotate_left
  ·have R:=q.keeps.same HB.out (fun t=>t S.nb.1)
   clear hd ay hw d2;go_wp2_with fail;refine(gp R).mono ?_;rintro e w4 ⟨rfl,C,L⟩;go_wp2;go_ret;have kT:ja w0 w4 (fun i=>ρ i≠ .none\/i=b):=(q.keeps.mono (fun i _ h=> .inl h)).trans L (fun i hi h=> .inr h);have D4:Dk E B w4 ρ3 d S':=⟨M.rep.keep L (fun i e _=>by rw[e,q.role b S.blt];exact S.nb.1),M.z8.keep L (fun i e=>by rw[e];exact S.nb.2),M.yx,ZR M.size L.size⟩;refine⟨S',false,az.out,.inr ⟨rfl,rfl,S.next kT q.role D4 F3 ?_⟩⟩;rw[b0.out] at C;exact C
  have R:=q.keeps.same HB.out (fun t=>t S.nb.1);have aw:=q.keeps.row S.mem (fun g X t=>t (S.nm g X).1);have a6:Chs w3 (.slice pe j.length ce) j:=bp.out.keep q.keeps (fun _ p n c e t=>H.out p n c e (.inl t))
  have a9:=Md b (.pointer (some ⟨d,0,none⟩)) (jg m.next) (jg m.last) (j7 lo) (jg m.base) rv (.bool false) (.bool false) last 121 V (.slice pe j.length ce) mem j B w3 R aw (fun e=>(S.nm b e).2 rfl) S.rising
   (by have:=aa.out;have:=H8.out;omega) (by have:=bo.out;omega) a6 bm.out (ZR S.xl.size q.keeps.size) (fun _ p n c e=>⟨fun t=>H.out p n c e (.inr (.inl t)),fun t=>H.out p n c e (.inr (.inr t))⟩)
  have b4:=jb a9;clear a9 R aw a6 hd ay hw d2;go_wp2_with fail;refine b4.out.mono ?_;rintro e w4 ⟨rfl,v4,C,av,ci,bj,L⟩;have bq:=jb C;have bn:=jb av;clear C av;go_wp2;go_ret
  have kT:ja w0 w4 (StF ρ b V):=(q.keeps.mono (fun i _ h=> .inl h)).trans L (fun i hi h=>by
   rcases h with h|h
   ·exact .inr (.inl h)
   ·exact .inr (.inr h.symm))
  have D:∀ g,v4.ownBlock=some g->V.ownBlock=some g\/w3.heap.size<=g:=fun g X=>by
   rcases bj with e|⟨g',e,h⟩
   ·exact .inl (e▸X)
   ·rw[X] at e;cases e;exact .inr h
  have ax:∀ i,i<w3.heap.size->i=b\/some i=V.ownBlock->ρ3 i = .none/\B<=i:=fun i hi h=>by
   rcases h with h|h
   ·rw[h,q.role b S.blt];exact S.nb
   ·have h':=S.mem.lt i h.symm
    rw[q.role i h'.2];exact⟨(S.nm i h.symm).1,h'.1⟩
  have af:=Rf.gn S.rising (more:=j);have D4:Dk E B w4 ρ3 d S':=⟨M.rep.keep L (fun i e hi=>(ax i hi e).1),M.z8.keep (L.mono (fun i hi e=>(show B<=i from(ax i hi e).2))) (fun i h=>h),M.yx,ZR M.size L.size⟩;refine⟨S',true,az.out,.inl ⟨rfl,rfl,ρ3,rv,v4,⟨S.env.keep (kT.mono (fun i hi h=>(show B<=i from(S.old h).1))) (fun i h=>h),D4,F3,?_,S.runs.keep kT ?_,bn.out,?_,?_,?_,S.yy,Rf.ym S.rising,?_,S.au⟩,kT,q.role,fun g X=>?_,fun p n c e=> .inl ⟨n,c,e⟩⟩⟩
  ·show _=some (Obj.cells (Z9 d m rv (last+1) v4 false) _ _)
   unfold Z9;rw[<-b0.out];exact bq.out
  ·intro _ p n c e t
   obtain⟨a1,a2,a3,a4,a5⟩:=S.nr p n c e;rcases t with t|t|t
   ·exact t a1
   ·exact a2 t
   ·exact a4 t
  ·rw[q.role b S.blt];exact S.nb
  ·intro p n c e
   obtain⟨a1,a2,a3,a4,a5⟩:=S.nr p n c e;refine⟨by rw[q.role _ a5];exact a1,a2,a3,fun t=>?_,ZA a5 kT.size⟩;rcases D _ t with t|t
   ·exact a4 t
   ·have:=q.keeps.size
    omega
  ·intro g X
   rcases D g X with t|t
   ·rw[q.role g (S.mem.lt g t).2]
    exact S.nm g t
   ·refine⟨yD (fun hn=>?_),fun e=>?_⟩
    ·have:=M.rep.lt g hn
     omega
    ·have:=S.blt
     have:=q.keeps.size;omega
  ·have:=aa.out
   have:=H8.out;have:=af.1;omega
  ·rcases D g X with t|t
   ·exact .inl t
   ·exact .inr (ZR q.keeps.size t)
end Go.Proofs.YtnipbplghijdmaaGreatDoor
namespace Go.Proofs.YtnipbplghijdmaaGreatDoor
open RowKit Maps WideShapes Go.Proofs.Tryz
def Qt(E:Nat->Addr)(B:Nat)(w:World)(d b:Nat)(S:jc)(k:Nat)(s:Rf.St)(deg:Bool)(F:Nat->Prop):Prop :=
 ∃ ρ rv mv,StM E B w ρ d b S k s.m s.last s.mem deg rv mv/\∀ i,F i↔(StF ρ b mv i\/∃ p n c,rv = .slice (some p) n c/\p.block=i)
def qg(E:Nat->Addr)(B:Nat)(w:World)(d b:Nat)(S:jc)(k:Nat)(s:Rf.St)(deg:Bool)(F:Nat->Prop)(w':World):Prop :=
 ∃ F',Qt E B w' d b S k s deg F'/\ja w w' F/\∀ i,F' i->F i\/w.heap.size<=i
variable {E:Nat->Addr} {B:Nat} {w w':World} {d b k U:Nat} {S S':jc} {s:Rf.St} {deg:Bool} {F:Nat->Prop} {Q R:Want}
theorem Qt.old(h:Qt E B w d b S k s deg F){i:Nat}(f:F i):B<=i/\i<w.heap.size:=by
 obtain⟨ρ,rv,m,T,g⟩:=h;rcases(g i).1 f with t|⟨p,n,c,e,rfl⟩
 ·exact T.old t
 ·obtain⟨r,q,l,o,j⟩:=T.nr p n c e
  exact⟨l,j⟩
theorem Qt.keep(h:Qt E B w d b S k s deg F){T:Nat->Prop}(m:ja w w' T)(g:∀ i,i<w.heap.size->T i->B<=i/\¬F i):Qt E B w' d b S k s deg F:=by
 obtain⟨ρ,rv,l,M,j⟩:=h;exact⟨ρ,rv,l,M.keep m (fun i hi t=>⟨(g i hi t).1,fun f=>(g i hi t).2 ((j i).2 (.inl f)),fun p n c e e2=>(g i hi t).2 ((j i).2 (.inr ⟨p,n,c,e,e2.symm⟩))⟩),j⟩
theorem Qt.same(h:Qt E B w d b S k s deg F)(c:ja w w' (fun _=>False)):Qt E B w' d b S k s deg F:=h.keep c (fun _ _ h=>h.elim)
theorem Qt.fit(h:Qt E B w d b S k s deg F){j:Nat}(f:Fit j S):Qt E B w d b S j s deg F:=by
 obtain⟨ρ,rv,c,T,g⟩:=h;exact⟨ρ,rv,c,⟨T.env,T.xl,f,T.row,T.runs,T.mem,T.nb,T.nr,T.nm,T.yy,T.rising,T.few,T.au⟩,g⟩
theorem Qt.env(h:Qt E B w d b S k s deg F):Env E B w:=by
 obtain⟨ρ,rv,c,T,f⟩:=h;exact T.env
theorem Qt.xl(h:Qt E B w d b S k s deg F):∃ ρ,Dk E B w ρ d S/\Fit k S/\∀ i,ρ i≠ .none->F i:=by
 obtain⟨ρ,rv,f,T,c⟩:=h;exact⟨ρ,T.xl,T.fit,fun i hi=>(c i).2 (.inl (.inl hi))⟩
theorem qg.of{ρ:Nat->j3}{rv l:Value}{s':Rf.St}{k':Nat}{f:Bool}(T:StM E B w ρ d b S k s.m s.last s.mem deg rv l)(v:∀ i,F i↔(StF ρ b l i\/∃ p n c,rv = .slice (some p) n c/\p.block=i))(h:yz E B w ρ d b rv l S' k' s'.m s'.last s'.mem f w'):qg E B w d b S' k' s' f F w':=by
 obtain⟨u,g,j,D,y,z,A,o⟩:=h;refine⟨fun i=>StF u b j i\/∃ p n c,g = .slice (some p) n c/\p.block=i,⟨u,g,j,D,fun _=>Iff.rfl⟩,y.mono (fun i _ t=>(v i).2 (.inl t)),fun i hi=>?_⟩;rcases ZM i w.heap.size with q|r
 ·refine .inl ((v i).2 ?_)
  rcases hi with(t|t|t)|⟨p,n,c,e,rfl⟩
  ·exact .inl (.inl (by rw[<-z i q];exact t))
  ·exact .inl (.inr (.inl t))
  ·rcases A i t with t|t
   ·exact .inl (.inr (.inr t))
   ·omega
  ·rcases o p n c e with⟨x,C,t⟩|t
   ·exact .inr ⟨p,x,C,t,rfl⟩
   ·omega
 ·exact .inr r
theorem qg.fit{s':Rf.St}{k' j:Nat}{c:Bool}(h:qg E B w d b S' k' s' c F w')(f:Fit j S'):qg E B w d b S' j s' c F w':=by
 obtain⟨l,k,i,g⟩:=h;exact⟨l,k.fit f,i,g⟩
theorem Norm.fit(h:Norm S U s Q)(b:U<=60000):Fit 60000 S:=h.pow.fit h.late b
theorem Er{α:Type}(f:α->Nat):∀ {l m:List α},l.Nodup->(∀ x∈l,x∈m)->(l.map f).sum<=(m.map f).sum
 | [],_,_,_=>by simp
 | x::r,m,hd,hs=>by
  obtain⟨a,c,rfl⟩:=List.append_of_mem (hs x ZG)
  have b:=ZI.1 hd
  have ih:=Er f (l:=r) (m:=a++c) b.2 (fun y hy=>by
   have:=hs y (ZH _ hy)
   rcases ZV.1 this with t|t
   ·exact xX _ t
   ·rcases zN.1 t with t|t
    ·rw[t] at hy;exact absurd hy b.1
    ·exact xY _ t)
  simp only[ZP,List.sum_cons,xZ,List.sum_append] at ih ⊢
  omega
theorem Norm.qt(h:Norm S U s Q):qt s.files<=total S.files S.names:=by
 obtain⟨T,l,m⟩:=h.pow.cur;have i:View S (Ql S.files T):=⟨T,l.fs,List.Perm.refl _⟩;rw[i.total];unfold Go.Proofs.YtnipbplghijdmaaGreatDoor.qt;refine Er _ ?_ (fun p j=>?_)
 ·refine List.Pairwise.imp ?_ h.ok.apart
  intro a c k e;exact k (by rw[e])
 ·rcases Zx.1 j with rfl|rfl|j
  ·obtain⟨f,a,g,d,b⟩:=h.pow.held.1
   have:=i.of g d;rwa [b.bytes] at this
  ·obtain⟨f,a,g,d,b⟩:=h.th
   have:=i.of g d;rwa [b.1] at this
  ·obtain⟨f,a,g,d,b⟩:=h.Q2 p j
   have:=i.of g d;rwa [b.bytes] at this
theorem Pk(l:List Rf.Ch):14<=(Rf.j6 l).length:=by
 simp only[Rf.j6,Rf.zx,Rf.frame,ZC,Rf.js];omega
theorem ve:∀(ns:List Nat) (ls:List (List Rf.Ch)),ls.length=ns.length->14*ns.length<=Go.Proofs.YtnipbplghijdmaaGreatDoor.qt (qn ns ls)
 | [],ls,_=>zX _
 | n::r,[],h=>by cases h
 | n::r,l::q,h=>by
  have ih:=ve r q (by simpa using h)
  have e:qn (n::r) (l::q)=(jo n,Rf.j6 l)::qn r q:=rfl
  have:=Pk l
  rw[e,zv,zP]
  simp only
  omega
theorem jaw{α:Type}[DecidableEq α]{l m:List α}(c:l.Nodup)(b:∀ x∈l,x∈m):l.length<=m.length:=by
 have:=Er (fun _=>1) c b
 have e:∀ l:List α,(l.map (fun _=>1)).sum=l.length:=fun l=>by induction l with
  | nil=>rfl
  | cons x r ih=>simp[ih];omega
 rw[e,e] at this;exact this
theorem Norm.reset(h:Norm S U s Q)(A:total S.files S.names<=5000):Norm S 5400 s Q:=by
 have o:=h.qt;rw[Yo] at o;have B:=ve s.m.settled s.bls h.ok.len;obtain⟨T,b,k⟩:=h.pow.cur
 have t:T.length<=(ju s.m).length:=by
  have:=jaw (l:=T.map Prod.fst) (m:=ju s.m) (XA.2 b.X6.apart) (fun n hn=>by
   obtain⟨p,c,rfl⟩:=zO.1 hn
   exact h.only p.1 p.2 (b.fs.at.2 c))
  rwa [XB] at this
 have C:(ju s.m).length=s.m.settled.length+2:=by unfold ju jt;simp
 have z:Zp S.files T=total S.files S.names+T.length:=by
  rw[b.X6.total];have g:=b.files;clear t b k
  induction T with
  | nil=>rfl
  | cons x r ih =>
   rw[Qi,ih (fun p c=>g p (ZH _ c)),ZP,List.sum_cons,zP];obtain⟨a,j⟩:=g x ZG;have y:(yc S.files x.2).length=a.bytes.length:=by unfold yc;rw[j];rfl
   have v:(S.files x.2).elim 0 (fun a=>a.bytes.length)=a.bytes.length:=by rw[j];rfl
   rw[y,v];omega
 have q:Zp S.files T<=5400:=by omega
 have u:Names S.names S.files 5400 T:=⟨b.X6,b.files,b.apart,q,b.short⟩;have f:=h.pow.tied;rw[h.late] at f;have d:S.names=S.safe:=f;have i:Qv S.files 5400 s.m s.bls Q S.names:=⟨T,u,k⟩;exact⟨⟨h.pow.tied,h.pow.wf,h.pow.small,by rw[h.late];show Mj _ _ _ S.safe;rw[<-d];exact⟨_,_,i⟩,i⟩,h.late,h.log,h.now,h.ok,h.only⟩
theorem Norm.bnd(h:Norm S U s Q)(c:total S.files S.names<=20000):Bnd s:=by
 have b:=h.qt;exact Fits.bnd (n:=s.last+s.m.next) ⟨h.ok,by omega,by omega,ed h.ok,by omega⟩
theorem Norm.Mk(h:Norm S U s Q):∃ V,View S V/\Go.Proofs.YtnipbplghijdmaaGreatDoor.qt V=total S.files S.names/\(∀ n P,At S n P->∃ b,(n,b)∈V):=by
 obtain⟨T,d,g⟩:=h.pow.cur;have c:View S (Ql S.files T):=⟨T,d.fs,List.Perm.refl _⟩;exact⟨_,c,c.total.symm,fun n P ⟨f,a,e1,e2,_⟩=>⟨_,c.of e1 e2⟩⟩
theorem Norm.jgv(h:Norm S U s Q)(f:qh S)(n:total S.files S.names<=6000){b:List UInt8}(o:b.length<=600){d:Bool}(r:Kc (jh s.m.log) b S S' d):d=true/\qh S':=by
 obtain⟨V,j,e,g⟩:=h.Mk;obtain⟨c,i⟩:=g _ _ h.log;obtain⟨l,k,_⟩:=f.app j i (by omega) r;exact⟨l,k⟩
theorem V6(O:Qt E B w d b S 60000 s false F)(N:Norm S U s Q)(hU:U<=20000)(L:total S.files S.names<=6000)(u:Value)(g:List Rf.Ch)(j:Rf.zm g=true)(A:Chs w u g)(q:∀ p n c,u = .slice (some p) n c->¬F p.block)(i:s.last<1000000000){R':Want}(X:∀ t,Q.Jj t->R.Jj t)(W:R.now (s.write g))(G:∀ t,Q.Jj t->R'.Jj t)(D:R'.now s)(V:∀ l,l <+: (s.write g).bs->R.Qc ⟨s.m,l,s.bls⟩)(C:∀ l,l <+: s.bs->R'.Qc ⟨s.m,l,s.bls⟩) :
 Calls prog 24 #[.pointer (some ⟨b,0,none⟩),u] w fun e w'=>(e = .returned (.int .i64 0)/\∃ S',qg E B w d b S' 60000 (s.write g) false F w'/\Norm S' (U+600) (s.write g) R/\Cl S S'/\(qh S->qh S')) \/
  (e = .returned (.int .i64 1)/\∃ S',qg E B w d b S' 61000 s true F w'/\Pow S' (U+600) s.m s.bls R'/\Jm S' s/\Cl S S'/\¬qh S):=by
 obtain⟨ρ,rv,mv,T,x⟩:=O;have hb:=(N.bnd (by omega)).mem;have z:=gu j (s.last+1);obtain⟨f,a,Y,M,_⟩:=N.log;refine(jeo T (by omega) u g j A (fun p n c e t=>q p n c e ((x _).2 (.inl t))) i (by omega) ⟨f,a,Y,M⟩).mono ?_;rintro e w' ⟨S',ok,r,h⟩;obtain⟨J,I⟩:=N.write j i (by omega) X W G D V C r;have k:=fun hw=>N.jgv hw L z r;rcases h with⟨rfl,rfl,h⟩|⟨rfl,rfl,h⟩
 ·have N':=J rfl
  have y:(s.write g).last=s.last+1:=by show s.m.last+(s.bs++[g]).length=s.m.last+s.bs.length+1;simp;omega
  have o:(s.write g).mem=Rf.over s.mem g:=Rf.Ck _ _;exact .inl ⟨rfl,S',(qg.of (s':=s.write g) T x (by rw[y,o];exact h)).fit (N'.fit (by omega)),N',J2.app _ _ _ _ _ r,fun hw=>(k hw).2⟩
 ·obtain⟨v,H,Z⟩:=I rfl
  refine .inr ⟨rfl,S',(qg.of (s':=s) T x h).fit ((v.fit H (by omega)).mono (by omega)),v,fun p hp=>v.held.2.1 p hp,J2.app _ _ _ _ _ r,fun hw=>(by cases (k hw).1)⟩
theorem jf1(O:Qt E B w d b S 60000 s false F)(N:Norm S U s Q)(u:U<=60000) :
 Calls prog 77 #[.pointer (some ⟨b,0,none⟩)] w fun e w'=>(e = .returned (.int .i64 0)/\∃ S',qg E B w d b S' 60000 s false F w'/\Norm S' U s Q.whole/\At S' (jh s.m.log) (yt (Rf.jk s.m.last s.bs))/\Cl S S') \/
  (e = .returned (.int .i64 1)/\∃ S',qg E B w d b S' 60000 s true F w'/\Pow S' U s.m s.bls Q/\Jm S' s/\Cl S S'):=by
 obtain⟨ρ,rv,t,T,l⟩:=O;have j:s.m.log<=9223372036854775807:=by have:=Ni N.ok;have:=N.ok.yy.1;omega
 refine(Kk T.xl T.env j T.nb.1 T.nb.2 T.row).mono ?_;rintro e w' (⟨k,rfl,n,f,g,i,c⟩|⟨k,rfl,n,f,g,i,c⟩)
 ·obtain⟨r,o⟩:=N.sync k
  exact .inl ⟨rfl,_,qg.of (s':=s) T l (T.next f g i (T.fit.qm _) c),r,o,Cl.sync _ _⟩
 ·exact .inr ⟨rfl,_,qg.of (s':=s) T l (T.next f g i (T.fit.qm _) c),N.pow.sync _,fun p hp=>(N.Q2 p hp).sync _ (fun a q=>q.synced),Cl.sync _ _⟩
end Go.Proofs.YtnipbplghijdmaaGreatDoor
namespace Go.Proofs.YtnipbplghijdmaaGreatDoor
open RowKit Maps WideShapes Go.Proofs.Tryz
variable {E:Nat->Addr} {B:Nat} {w w':World} {d b k U:Nat} {S S':jc} {s:Rf.St} {deg:Bool} {F:Nat->Prop} {Q R:Want}
def Left(S:jc)(U:Nat)(Q:Want):Prop:=Safe S (U+600) Q\/Safe S (U+14000) Q.whole
def Bc(S:jc)(U:Nat)(s:Rf.St)(Q:Want):Prop:=Norm S (U+600) s Q\/Norm S (U+14000) s Q.whole
theorem Bc.left(h:Bc S U s Q):Left S U Q:=h.imp (fun h=>h.safe) (fun h=>h.safe)
theorem Bc.norm(h:Bc S U s Q):Norm S (U+14000) s Q:=by
 rcases h with h|h
 ·exact h.mono (by omega) (Want.Le.refl _)
 ·exact h.mono (ZQ _) Q.Ev
theorem Norm.bare(h:Norm S U s Q)(b:s.bs=[]):At S (jh s.m.log) (yt (Rf.jk s.m.last s.bs)):=h.log.mono (fun a ⟨bs,u,e,hF,_⟩=>by
 rw[b] at e
 obtain⟨rfl,rfl⟩:=List.append_eq_nil_iff.1 e.symm
 rw[b]
 exact⟨by rw[hF.bytes];simp,hF.safe,by rw[hF.late];rfl⟩)
theorem H9{s:Rf.St}(h:s.Ok)(f:qt s.files<=5000):4+(Rf.j6 s.mem).length+2*(s.m.yh s.last).bytes.length<=14000/\(Rf.j6 s.mem).length<=20000/\(s.m.yh s.last).bytes.length<=20000:=by
 have i:=f;rw[Yo,ql,Rf.gm] at i;have o:=ql (s.m.yh s.last);have n:(s.m.yh s.last).runs.length=s.m.runs.length+1:=rfl
 have k:=(Rf.ph (l:=s.mem) (fun c hc=>by
  obtain⟨b,g,d⟩:=Rf.vj hc
  exact(fj h).1 b g c d)).1
 have j:Rf.sg s.mem<=Rf.sgs s.bs:=Rf.jaj s.bs;omega
theorem A6{s:Rf.St}(h:s.Ok)(f:qt s.files<=5000):90+(Rf.j6 s.live).length<=14000:=by
 have g:=f;rw[Yo,ql,Rf.gm] at g;have n:=gy s.m.settled s.bls h.len (fj h).2
 have k:=(Rf.ph (l:=s.live) (fun c hc=>by
  obtain⟨l,b,d⟩:=Rf.Hl (fun l b=>(h.bl l b).rising) (Rf.Li _ c hc)
  exact(h.bl l b).allowed c d)).1
 have j:Rf.sg s.live<=Rf.sg (Rf.merged s.bls):=Rf.jcd _;have i:=Rf.jai s.bls;omega
theorem Zc{V:List (Str×List UInt8)}{n:Str}(h:∃ b,(n,b)∈V)(m:Str)(c:List UInt8):∃ b,(n,b)∈Q5 V m c:=by
 obtain⟨b,d⟩:=h;by_cases e:n=m
 ·exact⟨c,by rw[e];exact ZG⟩
 ·exact⟨b,ZH _ (XC.2 ⟨d,by simpa using e⟩)⟩
theorem Cq{V:List (Str×List UInt8)}{n m:Str}(h:∃ b,(n,b)∈V)(c:n≠m):∃ b,(n,b)∈jn V m:=by
 obtain⟨b,d⟩:=h;exact⟨b,XC.2 ⟨d,by simpa using c⟩⟩
theorem vc(V:List (Str×List UInt8))(n:Str)(b:List UInt8):qt (Q5 V n b)<=b.length+qt V:=by
 unfold Q5;rw[zv];have:=yn V n;simp only;omega
theorem Norm.Ia(N:Norm S U s Q)(F:qh S)(Y:total S.files S.names<=5000){j:Bool}(r:rk s.m s.last s.mem S S' j):j=true/\qh S'/\(jc.jr [jh s.m.log] S').2=true/\qh (jc.jr [jh s.m.log] S').1:=by
 obtain⟨V,G,e,t⟩:=N.Mk;have J:=N.qt;obtain⟨X,W,T⟩:=H9 N.ok (by omega);have i:=t _ _ N.log;obtain⟨c,v⟩:=i;obtain⟨x,g,f⟩:=F.sync G v;have R:=yn V (jo s.m.next);have O:=vc V (jo s.m.next) (Rf.j6 s.mem);have M:=yn (Q5 V (jo s.m.next) (Rf.j6 s.mem)) (jh (s.m.next+1));have y:=vc (Q5 V (jo s.m.next) (Rf.j6 s.mem)) (jh (s.m.next+1)) [];have L:=yn (Q5 (Q5 V (jo s.m.next) (Rf.j6 s.mem)) (jh (s.m.next+1)) []) jq
 have u:∀ n∈jt (s.m.yh s.last),∃ b,(n,b)∈Q5 (Q5 V (jo s.m.next) (Rf.j6 s.mem)) (jh (s.m.next+1)) []:=fun n d=>by
  rcases ZV.1 d with d|d
  ·rw[Rf.Man.J6] at d
   rcases zN.1 d with rfl|d
   ·exact Zc ⟨_,ZG⟩ _ _
   ·exact Zc (Zc (t _ _ (N.Bj d)) _ _) _ _
  ·rw[ZW.1 d]
   exact⟨_,ZG⟩
 simp only[zQ,XD] at y;unfold rk at r;obtain⟨r,_⟩|⟨I,E,r⟩:=r
 ·have e:S.qm (jh s.m.log)=(S',false):=r
  rw[e] at x;cases x
 have H:S.qm (jh s.m.log)=(I,true):=E;rw[H] at g f;obtain⟨r,_⟩|⟨S2,D,r⟩:=r
 ·obtain⟨e,_⟩:=g.lay (Jc _) f (by omega) r
  cases e
 obtain⟨_,q,p⟩:=g.lay (Jc _) f (by omega) D;obtain⟨r,_⟩|⟨S3,C,r⟩:=r
 ·obtain⟨e,_⟩:=q.lay (Js _) p (by simp only[zQ];omega) r
  cases e
 obtain⟨_,o,l⟩:=q.lay (Js _) p (by simp only[zQ];omega) C;obtain⟨r,_⟩|⟨Z,B,rfl,rfl⟩:=r
 ·obtain⟨e,_⟩:=o.install l u (by omega) r
  cases e
 obtain⟨_,k,m2,_⟩:=o.install l u (by omega) B
 obtain⟨A,z,_⟩:=k.removeAll m2 [jh s.m.log] (by simp) (fun n d=>by
  rw[ZW.1 d]
  exact Zc (Cq (Zc (Zc ⟨c,v⟩ _ _) _ _) (Eo _).symm) _ _)
 exact⟨rfl,k,A,z⟩
theorem Norm.Io(N:Norm S U s Q)(C:qh S)(hv:total S.files S.names<=5000){z:Bool}(r:Qj s.m s.live S S' z):z=true/\qh S'/\(jc.jr (s.m.settled.map jo) S').2=true/\qh (jc.jr (s.m.settled.map jo) S').1:=by
 obtain⟨V,D,e,o⟩:=N.Mk;have O:=N.qt;have r1:=A6 N.ok (by omega);obtain⟨c,p⟩:=o _ _ N.log
 have u:(s.m.settled.map jo).Nodup:=by
  refine XA.2 (List.Pairwise.imp ?_ N.ok.Ag);intro a b y e;exact y (fx e)
 have j:∀ {T:jc} {W:List (Str×List UInt8)} {x:List UInt8},qh T->View T (Q5 (jn W jq) ji x)->(∀ n∈s.m.settled.map jo,∃ b,(n,b)∈W)->(jc.jr (s.m.settled.map jo) T).2=true/\qh (jc.jr (s.m.settled.map jo) T).1:=fun {T W x} h1 h2 h3=>by
  obtain⟨g,f,_⟩:=h1.removeAll h2 (s.m.settled.map jo) u (fun n d=>by
   refine Zc (Cq (h3 n d) (fun e=>?_)) _ _
   obtain⟨k,_,rfl⟩:=zO.1 d
   exact En k e.symm)
  exact⟨g,f⟩
 have b1:s.m.bare.bytes.length=42:=by rw[ql];rfl
 have b2:s.m.zg.bytes.length=42:=by rw[ql];rfl
 have Z:=yn V jq;have Y:=yn V (jo s.m.next);have X:=vc V (jo s.m.next) (Rf.j6 s.live);have R:=yn (Q5 V (jo s.m.next) (Rf.j6 s.live)) jq;unfold Qj at r
 split at r
 ·have l:∀ n∈jt s.m.bare,∃ b,(n,b)∈V:=fun n d=>by
   have v:n∈[jh s.m.log]:=d;rw[ZW.1 v];exact⟨c,p⟩
  obtain⟨L,i,m2,_⟩:=C.install D l (by omega) r
  obtain⟨g,f⟩:=j i m2 (fun n d=>o _ _ (N.Bj d))
  exact⟨L,i,g,f⟩
 ·obtain⟨E,t,q⟩:=C.sync D p
  have l:∀ n∈jt s.m.zg,∃ b,(n,b)∈Q5 V (jo s.m.next) (Rf.j6 s.live):=fun n d=>by
   rcases ZV.1 d with d|d
   ·have I:s.m.zg.settled=[s.m.next]:=by
     unfold Rf.Man.settled Rf.Man.zg;rw[if_neg (by have:=ed N.ok;simp only;omega)];rfl
    rw[I] at d
    rw[ZW.1 d]
    exact⟨_,ZG⟩
   ·rw[ZW.1 d]
    exact Zc ⟨c,p⟩ _ _
  obtain⟨r,_⟩|⟨M,H,r⟩:=r
  ·have e:S.qm (jh s.m.log)=(S',false):=r
   rw[e] at E;cases E
  have J:S.qm (jh s.m.log)=(M,true):=H;rw[J] at t q;obtain⟨r,_⟩|⟨S2,G,r⟩:=r
  ·obtain⟨e,_⟩:=t.lay (Jc _) q (by omega) r
   cases e
  obtain⟨_,B,A⟩:=t.lay (Jc _) q (by omega) G;obtain⟨r,_⟩|⟨S4,F,rfl,rfl⟩:=r
  ·obtain⟨e,_⟩:=B.install A l (by omega) r
   cases e
  obtain⟨_,i,m2,_⟩:=B.install A l (by omega) F;obtain⟨g,f⟩:=j i m2 (fun n d=>Zc (o _ _ (N.Bj d)) _ _);exact⟨rfl,i,g,f⟩
theorem H7(b:s.bs=[]):s.flush=s:=by unfold Rf.St.flush;rw[if_pos b]
theorem Ws(O:Qt E B w d b S 60000 s false F)(N:Norm S U s Q)(M:U<=6000)(p:total S.files S.names<=5000)(q:s.m.next+2<=2000000000)(v:Q.now s.flush) :
 Calls prog 26 #[.pointer (some ⟨b,0,none⟩)] w fun e w'=>(e = .returned (.int .i64 0)/\∃ S',qg E B w d b S' 60000 s.flush false F w'/\Bc S' U s.flush Q/\At S' (jh s.flush.m.log) (yt (Rf.jk s.flush.m.last s.flush.bs))/\Cl S S'/\(qh S->qh S')) \/
  (e = .returned (.int .i64 1)/\∃ S' s',qg E B w d b S' 130000 s' true F w'/\(s'=s\/s'=s.flush)/\Left S' U Q/\Jm S' s'/\Cl S S'/\¬qh S):=by
 obtain⟨ρ,rv,L,T,k⟩:=O;have j:=(N.bnd (by omega));have G:=N.qt;obtain⟨J,n,l⟩:=H9 N.ok (by omega);by_cases hb:s.bs=[]
 ·have e:s.last=s.m.last:=by unfold Rf.St.last;rw[hb];rfl
  refine(On T e).mono ?_;rintro e w' ⟨rfl,h⟩;rw[H7 hb];exact .inl ⟨rfl,S,qg.of (s':=s) T k h,.inl (N.mono (by omega) (Want.Le.refl _)),N.bare hb,Cl.refl _,id⟩
 ·have u:s.m.last<s.last:=by unfold Rf.St.last;have:=ZY.2 hb;omega
  have H:=j.runs;have I:=j.mem;refine(Om T u (fun W kk=>jfd (T.same kk) (by omega) (Rf.St.Un N.ok hb (by omega)) N.ok.cap q (by omega) n l)).mono ?_;rintro e w' ⟨y,D,r,⟨rfl,g,h⟩|⟨rfl,g,h⟩⟩
  ·obtain⟨t,f,x⟩:=N.jdu hb (by omega) q (by omega) v n l r
   refine .inr ⟨g,y,s,qg.of (s':=s) T k h,.inl rfl,?_,t,J2.flush _ _ _ _ _ _ r,fun hw=>(by cases (N.Ia hw p r).1)⟩;rcases f rfl with⟨o,b',f⟩|⟨o,b',f⟩
   ·exact .inl ⟨o,b',f.grow (by omega)⟩
   ·exact .inr ⟨o,b',f.grow (by omega)⟩
  ·obtain⟨t,f,x⟩:=N.jgo hb (by omega) q (by omega) v n l r
   have C:=Aw hb;have c:s.flush.m=s.m.yh s.last/\s.flush.last=s.last/\s.flush.mem=[]:=by rw[C];exact⟨rfl,by show s.last+0=s.last;omega,rfl⟩
   cases hok:(jc.jr [jh s.m.log] y).2 with
   | true =>
    obtain⟨A,z⟩:=x hok;rw[hok] at g h;have i:=A.mono (V:=U+14000) (by omega) (Want.Le.refl _);exact .inl ⟨g,_,(qg.of (s':=s.flush) T k (by rw[c.1,c.2.1,c.2.2];exact h)).fit (i.fit (by omega)),.inr i,z,(J2.flush _ _ _ _ _ _ r).trans (Cl.removeAll _ _),fun hw=>(N.Ia hw p r).2.2.2⟩
   | false =>
    rw[hok] at g h;exact .inr ⟨g,_,s.flush,qg.of (s':=s.flush) T k (by rw[c.1,c.2.1,c.2.2];exact h),.inr rfl,.inr ⟨_,_,f.grow (by omega)⟩,t,(J2.flush _ _ _ _ _ _ r).trans (Cl.removeAll _ _),fun hw=>(by rw[(N.Ia hw p r).2.2.1] at hok;cases hok)⟩
theorem mm(b:s.m.runs=[]):s.j8=s:=by unfold Rf.St.j8;rw[if_pos b]
theorem mn(h:s.m.runs≠[]):s.j8.last=s.last/\s.j8.mem=s.mem:=by
 unfold Rf.St.j8;rw[if_neg h]
 split<;>exact⟨rfl,rfl⟩
theorem L8(O:Qt E B w d b S 60000 s false F)(N:Norm S U s Q)(R:U<=6000)(x:total S.files S.names<=5000)(n:s.m.next+1<=2000000000)(y:Q.now s.j8) :
 Calls prog 27 #[.pointer (some ⟨b,0,none⟩)] w fun e w'=>(e = .returned (.int .i64 0)/\∃ S',qg E B w d b S' 60000 s.j8 false F w'/\Bc S' U s.j8 Q/\Cl S S'/\(qh S->qh S')) \/
  (e = .returned (.int .i64 1)/\∃ S' s',qg E B w d b S' 160000 s' true F w'/\(s'=s\/s'=s.j8)/\Left S' U Q/\Jm S' s'/\Cl S S'/\¬qh S):=by
 obtain⟨ρ,rv,D,T,k⟩:=O;have l:=(N.bnd (by omega));have I:=N.qt;have M:=A6 N.ok (by omega);by_cases hb:s.m.runs=[]
 ·refine(I9 T hb).mono ?_
  rintro e w' ⟨rfl,h⟩;rw[mm hb];exact .inl ⟨rfl,S,qg.of (s':=s) T k h,.inl (N.mono (by omega) (Want.Le.refl _)),Cl.refl _,id⟩
 ·have J:=l.mrg
  have L:=l.live
  have q:Calls prog 69 #[.pointer (some ⟨b,0,none⟩)] w (Xv E B w ρ d b rv D S 60000 s.m s.last s.mem s.live):=by
   by_cases hle:s.live=[]
   ·exact Ip T (by omega) n N.ok.len N.ok.bl N.Q2.bytes (by omega) rfl hle
   ·exact Im T (by omega) n N.ok.len N.ok.bl N.Q2.bytes (by omega) rfl hle (Rf.St.Wn N.ok hle (by omega)) (by omega)
  refine(I8 T hb q).mono ?_;rintro e w' ⟨G,c,⟨f,i,h⟩|⟨C,H,r,⟨rfl,i,h⟩|⟨rfl,i,h⟩⟩⟩
  ·exact .inr ⟨i,G,s,qg.of (s':=s) T k h,.inl rfl,.inl ⟨_,_,(c.pow N.pow).grow (by omega)⟩,(N.looked c).Q2,c.cut,f⟩
  ·have g:=fun f=>(N.looked c).Io (c.u9 f) (by rw[c.files,c.names];exact x) r
   obtain⟨p,j,A⟩:=(N.looked c).Sn hb (by omega) n y (by omega) r;refine .inr ⟨i,C,s,qg.of (s':=s) T k h,.inl rfl,?_,p,Cl.trans c.cut (J2.j8 _ _ _ _ _ r),fun f=>(by cases (g f).1)⟩;rcases j rfl with⟨o,b',j⟩|⟨o,b',j⟩
   ·exact .inl ⟨o,b',j.grow (by omega)⟩
   ·exact .inr ⟨o,b',j.grow (by omega)⟩
  ·have g:=fun f=>(N.looked c).Io (c.u9 f) (by rw[c.files,c.names];exact x) r
   obtain⟨p,j,A⟩:=(N.looked c).jd1 hb (by omega) n y (by omega) r;have z:=(A5 hb).1;obtain⟨v,u⟩:=mn hb
   cases hok:(jc.jr (s.m.settled.map jo) C).2 with
   | true =>
    have t:=(A hok).mono (V:=U+14000) (by omega) (Want.Le.refl _);rw[hok] at i h;exact .inl ⟨i,_,(qg.of (s':=s.j8) T k (by rw[z,v,u];exact h)).fit (t.fit (by omega)),.inr t,(Cl.trans c.cut (J2.j8 _ _ _ _ _ r)).trans (Cl.removeAll _ _),fun f=>(g f).2.2.2⟩
   | false =>
    rw[hok] at i h;refine .inr ⟨i,_,s.j8,qg.of (s':=s.j8) T k (by rw[z,v,u];exact h),.inr rfl,.inr ⟨_,_,j.grow (by omega)⟩,p,(Cl.trans c.cut (J2.j8 _ _ _ _ _ r)).trans (Cl.removeAll _ _),fun f=>(by rw[(g f).2.2.1] at hok;cases hok)⟩
end Go.Proofs.YtnipbplghijdmaaGreatDoor
namespace Go.Proofs.YtnipbplghijdmaaGreatDoor
open RowKit Maps WideShapes Go.Proofs.Tryz
variable {E:Nat->Addr} {B:Nat} {w w':World} {d b k U V:Nat} {S S':jc} {s:Rf.St} {deg:Bool} {F:Nat->Prop} {Q R:Want} {m:Rf.Man} {bls:List (List Rf.Ch)} {ρ:Nat->j3}
theorem Pow.len(h:Pow S U m bls Q){n:Str}{P:jy->Prop}(i:At S n P):At S n (fun a=>P a/\a.bytes.length<=U):=by
 obtain⟨T,c,j⟩:=h.cur;obtain⟨f,a,g,d,k⟩:=i;refine⟨f,a,g,d,k,ZR ?_ c.size⟩;have b:=c.fs.at.1 g;clear c j
 induction T with
 | nil=>cases b
 | cons x r ih =>
  rw[Qi];rcases zN.1 b with e|b
  ·subst e
   have:yc S.files f=a.bytes:=by unfold yc;rw[d];rfl
   simp only[this];omega
  ·have:=ih b
   omega
theorem Um{last:Nat}{bs:List (List Rf.Ch)}(h:∀ b∈bs,Rf.zm b=true)(c:(Rf.jk last bs).length<=20000):(Rf.memory bs).length<20000:=by
 rw[Rf.gm] at c;have f:=Rf.Ho (ls:=bs) (fun b hb=>((Rf.Ji b).1 (h b hb)).2.2);have d:(Rf.memory bs).length<=Zn bs:=Hk bs;omega
def Ta(E:Nat->Addr)(B:Nat)(w:World)(ρ:Nat->j3)(d:Nat)(S:jc)(V k:Nat)(R:Want)(e:Ending)(w':World):Prop :=
 (e = .returned (.tuple #[.pointer none,.int .i64 1])/\¬qh S/\∃ ρ' S',Dk E B w' ρ' d S'/\Fit k S'/\Safe S' V R/\Cl S S'/\ja w w' (fun i=>ρ i≠ .none)/\∀ i,i<w.heap.size->ρ' i=ρ i) \/
 ∃ b F S' s,e = .returned (.tuple #[.pointer (some ⟨b,0,none⟩),.int .i64 0])/\w.heap.size<=b/\Qt E B w' d b S' 60000 s false F/\Norm S' V s R/\At S' (jh s.m.log) (yt (Rf.jk s.m.last s.bs))/\(qh S->qh S')/\Cl S S'/\ja w w' (fun i=>ρ i≠ .none)/\∀ i,F i->ρ i≠ .none\/w.heap.size<=i
theorem Ta.of{e:Ending}(C:V<=60000)(I:R.now s)(h:Oj S V s R (fun T=>jaa E B w ρ d k e w' T/\Cl S T) (fun T=>Vy E B w ρ d k s.m s.last s.mem e w' T/\Cl S T)):Ta E B w ρ d S V k R e w':=by
 rcases h with⟨T,⟨⟨l,f,H,G,g,j⟩,o⟩,D,x⟩|⟨T,⟨⟨b,f,rv,v,l,z,M,g,j,y,q⟩,o⟩,N,F,A⟩
 ·exact .inl ⟨l,x,f,T,H,G,D,o,g,j⟩
 ·refine .inr ⟨b,fun i=>StF f b v i\/∃ p n c,rv = .slice (some p) n c/\p.block=i,T,s,l,z,Qt.fit ⟨f,rv,v,M,fun _=>Iff.rfl⟩ (N.fit C),N,F,A,o,g,fun i hi=>?_⟩
  rcases ZM i w.heap.size with r|u
  ·refine .inl ?_
   rcases hi with(t|t|t)|⟨p,n,c,e,rfl⟩
   ·rw[<-j i r];exact t
   ·omega
   ·have:=y i t;omega
   ·have:=q p n c e;omega
  ·exact .inr u
theorem Uf(D:Dk E B w ρ d S)(O:Fit k S)(H:Env E B w)(hk:k<400000000000)(P:Pow S U m bls Q)(y:Q.Le R)(J:∀ t,Q.now t->Q.Qc t->R.now ⟨t.m.xr,t.bs,t.bls⟩)(C:∀ t,Q.now t->t.m.next+1<=2000000000)(hU:U<=V)(hV:V<=20000)(z:∀ t:Rf.St,Q.Qc t->qt t.files<=5700/\U+5800<=V) :
 Calls prog 45 #[.pointer (some ⟨d,0,none⟩)] w (Ta E B w ρ d S V (2*k+300000) R):=by
 obtain⟨o,A,L⟩:=P.held;obtain⟨f1,l,q1,q2,q3,Z⟩:=P.len o;rw[q3.bytes] at Z;have ah:=ql m;obtain⟨f,a,hA,ha,hg,ai⟩:=P.len L;obtain⟨bs,g,N,ho,i,M,ht⟩:=hg.2;have I:∀ p∈qn m.settled bls,At (S.called false) p.1 (fun a=>a.bytes=p.2):=fun p hp=>((A p hp).mono (fun a q=>q.bytes)).zr rfl rfl;have j:At S ji (fun a=>a.bytes=m.bytes):=o.mono (fun a q=>q.bytes);have r:(Rf.jk m.last bs++g).length<=20000:=by rw[<-N];omega
 have c:(Rf.jk m.last bs).length<=20000:=by rw[ZC] at r;omega
 have aa:(Rf.memory bs).length<20000:=Um (last:=m.last) i.log c;have PR:=P.mono (ZQ _) y;by_cases hg0:g=[]
 ·subst hg0
  rw[ZB] at N;have F:At S (jh m.log) (fun a=>a.bytes=Rf.jk m.last bs):=⟨f,a,hA,ha,N⟩;refine(jeg (k:=2*k+300000) (m2:=m) (last:=m.last+bs.length) (ml:=Rf.memory bs) (R:=Fn (jc.xu (ju m))) D (fun W kk b hb hρ hB=>?_)).mono ?_
  ·exact jc3 (D.same kk) O (H.same kk) (by omega) (by omega) j (fun W' vm D' E' hb' hvm=>Nj D' (O.called false) E' hk i I (F.zr rfl rfl) ⟨by omega,c⟩ (by omega) (by omega) hb' hρ hB vm hvm) hb hρ hB
  ·intro e w' h
   have:=PR.Uh F i (y.now _ M) (h.cut (J2.fn (Cl.sure _)));refine Ta.of (s:=⟨m,bs,bls⟩) (by omega) (y.now _ M) ?_;rcases this with⟨T,l,⟨X,b',v⟩,u⟩|⟨T,l,v,u,Y⟩
   ·exact .inl ⟨T,l,⟨X,b',v.grow hU⟩,u⟩
   ·exact .inr ⟨T,l,v.mono hU (Want.Le.refl _),u,Y⟩
 ·have G:=ht hg0
  obtain⟨v1,v2⟩:=z _ G;rw[Yo] at v1;have F:At S (jh m.log) (fun a=>a.bytes=Rf.jk m.last bs++g):=⟨f,a,hA,ha,N⟩;have x:=C _ M;simp only at x v1;have ag:=ve m.settled bls i.len;have af:m.runs.length<=m.settled.length:=by unfold Rf.Man.settled;split<;>simp
  have n:=J _ M G;refine(jeg (k:=2*k+300000) (m2:=m.xr) (last:=m.last+bs.length) (ml:=Rf.memory bs) (R:=Bm m (Rf.jk m.last bs)) D (fun W kk b hb hρ hB=>?_)).mono ?_
  ·exact jc3 (D.same kk) O (H.same kk) (by omega) (by omega) j (fun W' vm D' E' hb' hvm=>Rg D' (O.called false) E' hk i I (F.zr rfl rfl) hg0 ho x ⟨by omega,r⟩ (by omega) (by omega) hb' hρ hB vm hvm) hb hρ hB
  ·intro e w' h
   have:=PR.jau F i x n c (by omega) (by omega) (h.cut (J2.renew _ _));refine Ta.of (s:=⟨m.xr,bs,bls⟩) (by omega) n ?_;rcases this with⟨T,l,⟨X,b',v⟩,u⟩|⟨T,l,v,u,Y⟩
   ·exact .inl ⟨T,l,⟨X,b',v.grow (by omega)⟩,u⟩
   ·exact .inr ⟨T,l,v.mono (by omega) (Want.Le.refl _),u,Y⟩
theorem jga(O:Qt E B w d b S k s deg F)(m:s.Ok)(i:Jm S s)(r:k<540000000000)(p:s.all.length<1048576)(lo f:Str)(most:Nat)(c:most<9223372036854775808) :
 Calls prog 29 #[.pointer (some ⟨b,0,none⟩),jf lo,jf f,j7 most] w fun e w'=>∃ S',xi S S'/\((∃ v,e = .returned (.tuple #[v,.int .i64 0])/\w'.ownsRow w.heap.size 65 2 v (Rf.oz s.all lo f most).length (qo (Rf.oz s.all lo f most))/\qg E B w d b S' k s deg F w') \/
  (¬qh S/\e = .returned (.tuple #[.slice none 0 0,.int .i64 1])/\qg E B w d b S' k s true F w')):=by
 obtain⟨ρ,rv,q,T,l⟩:=O;refine(jf9 T m i (by omega) p lo f most c).mono ?_;rintro e w' ⟨S',j,⟨v,g,o,h⟩|⟨n,g,h⟩⟩
 ·exact⟨S',j,.inl ⟨v,g,o,qg.of (s':=s) T l h⟩⟩
 ·exact⟨S',j,.inr ⟨n,g,qg.of (s':=s) T l h⟩⟩
end Go.Proofs.YtnipbplghijdmaaGreatDoor
namespace Go.Proofs.YtnipbplghijdmaaGreatDoor
open RowKit Maps WideShapes Go.Proofs.Tryz
variable {U:Nat} {S S':jc} {s t:Rf.St} {Q R:Want} {ess:List (List Rf.Ch)} {es:List Rf.Ch} {sf lv N L:Nat}
def qi(ess:List (List Rf.Ch))(sf lv N L:Nat):Want where
 Jj t:=t.m.next<=N/\t.last<=L/\∃ n,sf<=n/\n<=ess.length/\t.tell=Rf.zn (ess.take n)
 now t:=(t.m.next<=N/\t.last<=L/\∃ n,sf<=n/\n<=ess.length/\t.tell=Rf.zn (ess.take n))/\t.tell=Rf.zn (ess.take lv)
 le _ h:=h.1
 Qc t:=qt t.files<=5700
theorem qi.le{N' d:Nat}(b:N<=N')(c:L<=d):(qi ess sf lv N L).Le (qi ess sf lv N' d) :=
 ⟨fun t ⟨h1,h2,h3⟩=>⟨ZR h1 b,ZR h2 c,h3⟩,fun t ⟨⟨h1,h2,h3⟩,h4⟩=>⟨⟨ZR h1 b,ZR h2 c,h3⟩,h4⟩,fun t h=>h⟩
theorem qi.now(g:s.m.next<=N)(f:s.last<=L)(d:sf<=lv)(c:lv<=ess.length)(b:s.tell=Rf.zn (ess.take lv)):(qi ess sf lv N L).now s:=⟨⟨g,f,lv,d,c,b⟩,b⟩
theorem Bf(ess:List (List Rf.Ch))(b:List Rf.Ch){n:Nat}(h:n<=ess.length):(ess++[b]).take n=ess.take n:=XE h
theorem qi.snoc(h:(qi ess sf lv N L).Jj t)(b:Nat):(qi (ess++[es]) sf b N (L+1)).Jj t:=by
 obtain⟨i,g,n,f,d,c⟩:=h;exact⟨i,ZR g (Nat.le_succ _),n,f,by rw[ZC];omega,by rw[Bf ess es d];exact c⟩
theorem Oo(s:Rf.St)(b:List Rf.Ch):(s.write b).m=s.m/\(s.write b).last=s.last+1:=⟨rfl,by show s.m.last+(s.bs++[b]).length=s.m.last+s.bs.length+1;simp;omega⟩
theorem qi.write(h:(qi ess sf ess.length N L).now s)(b:List Rf.Ch)(f:sf<=ess.length):(qi (ess++[b]) sf (ess.length+1) N (L+1)).now (s.write b):=by
 obtain⟨⟨d,g,_⟩,c⟩:=h;rw[ZE] at c;refine qi.now d (by rw[(Oo s b).2];omega) (by omega) (by simp) ?_;rw[Rf.St.Tm,c,<-Rf.vr,ZF (by simp)]
theorem qi.Lh(h:(qi ess sf ess.length N L).now s)(b:List Rf.Ch)(f:sf<=ess.length):(qi (ess++[b]) sf ess.length N (L+1)).now s:=by
 obtain⟨⟨d,g,_⟩,c⟩:=h;exact qi.now d (by omega) (by omega) (by simp) (by rw[Bf ess b (ZQ _)];exact c)
theorem U5(s:Rf.St):s.flush.m.next<=s.m.next+2/\s.flush.last=s.last:=by
 by_cases hb:s.bs=[]
 ·rw[H7 hb]
  exact⟨by omega,rfl⟩
 ·rw[Aw hb]
  exact⟨ZQ _,by show s.last+0=s.last;omega⟩
theorem N9(s:Rf.St):s.j8.m.next<=s.m.next+1/\s.j8.last=s.last:=by
 by_cases hb:s.m.runs=[]
 ·rw[mm hb]
  exact⟨by omega,rfl⟩
 ·refine⟨?_,(mn hb).1⟩
  unfold Rf.St.j8;rw[if_neg hb]
  split
  ·show s.m.next<=_;omega
  ·exact ZQ _
theorem qi.flush(h:(qi ess sf lv N L).now s):(qi ess sf lv (N+2) L).now s.flush:=by
 obtain⟨⟨i,g,n,f,d,c⟩,b⟩:=h;have:=U5 s;exact⟨⟨by omega,by omega,n,f,d,by rw[Rf.St.vd];exact c⟩,by rw[Rf.St.vd];exact b⟩
theorem qi.j8(b:s.Ok)(h:(qi ess sf lv N L).now s):(qi ess sf lv (N+2) L).now s.j8:=by
 obtain⟨⟨j,i,n,g,f,d⟩,c⟩:=h;have:=N9 s;exact⟨⟨by omega,by omega,n,g,f,by rw[Rf.St.lh b];exact d⟩,by rw[Rf.St.lh b];exact c⟩
theorem qi.xr(h:(qi ess sf lv N L).now t):(qi ess sf lv (N+1) L).now ⟨t.m.xr,t.bs,t.bls⟩:=by
 obtain⟨⟨f,d,c⟩,b⟩:=h;exact⟨⟨by show t.m.next+1<=N+1;omega,d,c⟩,b⟩
theorem Uo{last:Nat}{l m:List (List Rf.Ch)}(h:l <+: m):(Rf.jk last l).length<=(Rf.jk last m).length:=by
 obtain⟨u,rfl⟩:=h;rw[Qm,ZC];omega
theorem sw(b:qt s.files<=5700){l:List (List Rf.Ch)}(h:l <+: s.bs):qt (⟨s.m,l,s.bls⟩:Rf.St).files<=5700:=by
 rw[Yo] at b ⊢;have:=Uo (last:=s.m.last) h;show s.m.bytes.length+((Rf.jk s.m.last l).length+qt (qn s.m.settled s.bls))<=5700;omega
theorem E0(b:qt s.files<=5000)(c:Rf.zm es=true):qt (s.write es).files<=5700:=by
 rw[Yo] at b ⊢;have e:Rf.jk s.m.last (s.bs++[es])=Rf.jk s.m.last s.bs++Rf.jl (s.m.last+s.bs.length+1) es:=Rf.ai _ _ _;have:=gu c (s.m.last+s.bs.length+1);show s.m.bytes.length+((Rf.jk s.m.last (s.bs++[es])).length+qt (qn s.m.settled s.bls))<=5700;rw[e,ZC];omega
theorem Norm.book(h:Norm S U s Q)(b:At S (jh s.m.log) (yt (Rf.jk s.m.last s.bs)))(f:s.m.next<=N)(d:s.last<=L){n:Nat}(g:n<=ess.length)(c:s.tell=Rf.zn (ess.take n)):Norm S U s (qi (ess.take n) n n N L).whole :=
 h.again b (qi.now f d (ZQ _) (by rw[ZN];omega) (by rw[List.take_take,Nat.min_self];exact c))
theorem Norm.jgc(h:Norm S U s (qi ess sf lv N L))(c:At S (jh s.m.log) (yt (Rf.jk s.m.last s.bs)))(b:lv<=ess.length):Norm S U s (qi ess lv lv N L):=by
 obtain⟨⟨g,f,_⟩,d⟩:=h.now;exact h.again c (qi.now g f (ZQ _) b d)
end Go.Proofs.YtnipbplghijdmaaGreatDoor
namespace Go.Proofs.YtnipbplghijdmaaGreatDoor
open RowKit Maps WideShapes Go.Proofs.Tryz
theorem jgb{w:World}(u t:Value)(b lb:List Rf.Ch)(x:Prs w u b)(v:Prs w t lb)(N:b.length<1100000)(G:lb.length<1100000) :
 Calls prog 31 #[u,t] w fun e w'=>e = .returned (.bool (decide (b.map br=lb.map br)))/\ja w w' (fun _=>False):=by
 obtain⟨pa,ca,l⟩:∃ p c,u = .slice p b.length c:=by obtain⟨_,h⟩:=x;obtain⟨p,c,e⟩:=jm h;exact⟨p,c,e⟩
 obtain⟨pb,cb,j⟩:∃ p c,t = .slice p lb.length c:=by obtain⟨_,h⟩:=v;obtain⟨p,c,e⟩:=jm h;exact⟨p,c,e⟩
 by_cases he:b.map br=lb.map br
 ·rw[decide_eq_true he]
  exact jcj u t b lb x v he (by omega)
 rw[decide_eq_false he];obtain⟨n,C⟩:∃ n,n=b.length:=⟨_,rfl⟩;obtain⟨m,D⟩:∃ m,m=lb.length:=⟨_,rfl⟩;rw[<-C] at l N;rw[<-D] at j G;have V:=jb x;have T:=jb v;have S:=jb he;have L:=jb C;have M:=jb D;subst l;subst j;clear x v he C D;by_cases hlen:n=m
 ·subst hlen
  go_enter func31,ntmps31;go_wp2_with fail
  go_loopw [5] (fun i wr=>∃ k:Nat,k<=n/\i = .int .i64 k/\(b.map br).take k=(lb.map br).take k/\ja w wr (fun _=>False)) (fun i _=>n-(intOf i).toNat)
  case atStart=>exact⟨0,zX _,rfl,rfl,ja.refl _ _⟩
  case round =>
   obtain⟨k,hk,rfl,d,g⟩:=hrel;have HS:=jb d;clear d;rcases ZM k n with q|r
   ·have z:k<b.length:=by rw[<-L.out];exact q
    have y:k<lb.length:=by rw[<-M.out];exact q
    obtain⟨ga,a2,R,J,I⟩:=(V.out.same g).at z;obtain⟨gb,Z,O,F,E⟩:=(T.out.same g).at y;have Y:(k:Int)<(n:Int):=by omega
    have W:IntKind.i64.wrap ((k:Int)+1)=(k:Int)+1:=zE (by omega) (by omega)
    have f:Hid (br b[k]=br lb[k]->(b.map br).take (k+1)=(lb.map br).take (k+1)):=fun e=>by
     rw[xJ,xJ,HS.out,xP,xP,xK z,xK y];simp[e]
    unfold br at f;injection R with ea1 ea2 ea3;injection O with eb1 eb2 eb3;subst ea1;subst eb1;clear ea2 ea3 eb2 eb3;by_cases hee:(b[k].key,b[k].value)=(lb[k].key,lb[k].value)
    ·have o:=f.out hee
     injection hee with B A;rw[<-B] at F;rw[<-A] at E;have s:=jb o;clear o B A f;generalize b[k].key=K at J F;generalize b[k].value=U at I E;clear z y;go_wp2_with fail;go_quiet (fail);go_wp2;exact⟨⟨k+1,by omega,by simp,s.out,g.tt (ja.drewN wr nq _)⟩,by simp[intOf];omega⟩
    ·clear f
     generalize b[k].key=K1 at J hee;generalize b[k].value=U1 at I hee;generalize lb[k].key=K2 at F hee;generalize lb[k].value=U2 at E hee;clear z y;by_cases hK:K1=K2
     ·subst hK
      have H:(U1==U2)=false:=by simpa using fun e=>hee (by rw[e])
      clear hee;go_wp2_with fail;go_quiet (fail);go_wp2;go_ret;exact⟨rfl,g.tt (ja.drewN wr nq _)⟩
     ·have H:(K1==K2)=false:=by simpa using hK
      clear hee hK;go_wp2_with fail;go_quiet (fail);go_wp2;go_ret;exact⟨rfl,g.tt (ja.drewN wr nq _)⟩
   ·exfalso
    have B:(b.map br).take k=b.map br:=ZF (by rw[XB,<-L.out];exact r);have A:(lb.map br).take k=lb.map br:=ZF (by rw[XB,<-M.out];exact r);have:=HS.out;rw[B,A] at this;exact S.out this
 ·have X:¬(n:Int)=(m:Int):=by omega
  go_enter func31,ntmps31;go_wp2;go_ret;exact⟨rfl,ja.refl _ _⟩
end Go.Proofs.YtnipbplghijdmaaGreatDoor
namespace Go.Proofs.YtnipbplghijdmaaGreatDoor
open RowKit Maps WideShapes Go.Proofs.Tryz
variable {E:Nat->Addr} {B:Nat} {w w':World} {d b k U V:Nat} {S S':jc} {s:Rf.St} {deg:Bool} {F:Nat->Prop}
theorem Qt.row(h:Qt E B w d b S k s deg F):∃ rv mv,w.heap[b]?=some (.cells (Z9 d s.m rv s.last mv deg) 121 (0,0)):=by
 obtain⟨ρ,rv,mv,T,c⟩:=h;exact⟨rv,mv,T.row⟩
theorem Th(h:Qt E B w d b S k s true F)(p:Option Addr)(n c:Nat):Calls prog 24 #[.pointer (some ⟨b,0,none⟩),.slice p n c] w fun e w'=>e = .returned (.int .i64 4)/\w'=w:=by
 obtain⟨rv,j,f⟩:=h.row;have g:=jb (Qa f);clear f;go_enter func24,ntmps24;go_wp2_with fail;refine g.out.mono ?_;rintro e i ⟨rfl,rfl⟩;rw[show Xp true false=4 from rfl];go_wp2;go_ret;exact⟨rfl,rfl⟩
theorem jaf(h:Qt E B w d b S k s true F):Calls prog 77 #[.pointer (some ⟨b,0,none⟩)] w fun e w'=>e = .returned (.int .i64 4)/\w'=w:=by
 obtain⟨rv,i,c⟩:=h.row;have f:=jb (Qa c);clear c;go_enter func77,ntmps77;go_wp2_with fail;refine f.out.mono ?_;rintro e g ⟨rfl,rfl⟩;rw[show Xp true false=4 from rfl];go_wp2;go_ret;exact⟨rfl,rfl⟩
theorem U7(h:Qt E B w d b S k s true F):Calls prog 26 #[.pointer (some ⟨b,0,none⟩)] w fun e w'=>e = .returned (.int .i64 4)/\w'=w:=by
 obtain⟨rv,i,c⟩:=h.row;have f:=jb (Qa c);clear c;go_enter func26,ntmps26;go_wp2_with fail;refine f.out.mono ?_;rintro e g ⟨rfl,rfl⟩;rw[show Xp true false=4 from rfl];go_wp2;go_ret;exact⟨rfl,rfl⟩
theorem Oa(h:Qt E B w d b S k s true F):Calls prog 27 #[.pointer (some ⟨b,0,none⟩)] w fun e w'=>e = .returned (.int .i64 4)/\w'=w:=by
 obtain⟨rv,i,c⟩:=h.row;have f:=jb (Qa c);clear c;go_enter func27,ntmps27;go_wp2_with fail;refine f.out.mono ?_;rintro e g ⟨rfl,rfl⟩;rw[show Xp true false=4 from rfl];go_wp2;go_ret;exact⟨rfl,rfl⟩
end Go.Proofs.YtnipbplghijdmaaGreatDoor
namespace Go.Proofs.YtnipbplghijdmaaGreatDoor
open RowKit Maps WideShapes Go.Proofs.Tryz
theorem jgn{E:Nat->Addr}{B:Nat}{w:World}{d k:Nat}{ρ:Nat->j3}{S:jc}{V:List (Str×List UInt8)}(D:Dk E B w ρ d S)(C:Fit k S)(G:View S V)(hk:k<540000000000){kb:Nat}{x1 x2 x3 x4 x5:Value}(c:w.heap[kb]?=some (.cells #[.pointer (some ⟨d,0,none⟩),x1,x2,x3,x4,x5] 51 (0,0)))(hs:qt V<=40000) :
 Calls prog 28 #[.pointer (some ⟨kb,0,none⟩)] w fun e w'=>e = .returned (.bool (decide (5000<qt V)))/\ja w w' (fun _=>False):=by
 have Z:=C.small (by omega);have A:=jb (Oh D.rep Z);have HD:=jb D;have HZ:=jb Z;have m:=P8 G;have J:Maps.size S.names<=k:=C.names;have y:∀ n∈S.keys,n.length<=k:=C.keys
 have M:S.keys.length=Maps.size S.names:=by
  obtain⟨T,FT,p⟩:=G;have h1:S.keys.Perm (T.map Prod.fst):=(List.mergeSort_perm _ _).trans FT.X6.keys;rw[h1.length_eq,XB,FT.X6.size]
 obtain⟨N,H⟩:∃ N,N=qt V:=⟨_,rfl⟩;have f:Hid (z7 S S.keys.length=N):=jb (by unfold z7;rw[ZE,m,H]);have U:=jb y;rw[<-H] at hs ⊢;obtain⟨n,Y⟩:∃ n,n=S.keys.length:=⟨_,rfl⟩;have aj:n<=k:=by omega
 have I:=jb Y;have W:=zA (o:=0) c;simp at W;have a2:=jb c;clear D m J y M H G C Z c Y;go_enter func28,ntmps28;go_wp2_with fail;refine A.out.mono ?_;rintro e w1 ⟨F,p1,c1,rfl,v⟩;have R:=jb v;rw[<-I.out];clear v;go_wp2_with fail
 go_loopw [3,5,6,7] (fun t3 t5 t6 t7 wr=>∃ i:Nat,t5 = .int .i64 i/\i<=n/\t3 = .int .i64 (z7 S i)/\ja w1 wr (fun _=>False)) (fun _ t5 _ _ _=>n-(intOf t5).toNat)
 case atStart=>exact⟨0,rfl,zX _,by simp[z7],ja.refl _ _⟩
 case round =>
  obtain⟨i,rfl,ak,rfl,t⟩:=hrel;have j:=Hh S i;rw[f.out] at j;rcases ZM i n with L|al
  ·have O:(i:Int)<(n:Int):=by omega
   have ai:IntKind.i64.wrap ((i:Int)+1)=(i:Int)+1:=zE (by omega) (by omega);have l:i<S.keys.length:=by rw[<-I.out];exact L
   have r:=Nc S l;have q:=Hh S (i+1);rw[f.out] at q;obtain⟨g,rfl,a0⟩:=jeq (t.row R.out (fun _ _ h=>h)) l;have x:=U.out _ (xL l);have X:ja wr wr.drew (fun _=>False):=ja.drew wr _;have s:=jb (jcx S.keys[i] (((HD.out.same F).same t).same X).rep HZ.out (by omega));generalize S.keys[i]=nm at a0 x r s;have ag:=t.cell (F.cell W id) id;have u:IntKind.i64.wrap ((z7 S i:Int)+(Qq S nm:Int))=(z7 S i:Int)+(Qq S nm:Int):=zE (by omega) (by omega);have b:Hid (z7 S (i+1)=z7 S i+Qq S nm):=r;generalize Qq S nm=ln at s u b;generalize z7 S i=sm at u b j ⊢;clear r q l x j;go_wp2_with fail
   go_region_with (go_at_call 46;refine s.out.mono ?_;rintro e w3 ⟨p3,c3,ah,rfl,k3⟩)
   all_goals
    go_wp2;exact⟨⟨i+1,by simp,by omega,by rw[b.out];simp,t.tt (X.trans k3 (fun _ _ h=>h))⟩,by simp[intOf];omega⟩
  ·have O:¬(i:Int)<(n:Int):=by omega
   have z:i=S.keys.length:=by rw[<-I.out];omega
   have HE:Hid (z7 S i=N):=jb (by rw[z];exact f.out);rw[HE.out];clear z j;go_wp2;go_ret;exact⟨by simp[decide_eq_decide];omega,F.tt t⟩
end Go.Proofs.YtnipbplghijdmaaGreatDoor
namespace Go.Proofs.YtnipbplghijdmaaGreatDoor
open RowKit Maps WideShapes Go.Proofs.Tryz
variable {E:Nat->Addr} {B:Nat} {w w':World} {d b k U V:Nat} {S S':jc} {s:Rf.St} {deg:Bool} {F:Nat->Prop}
abbrev zy(d b:Nat)(wv:Value)(failed:Bool)(safe:Nat)(bad:Bool):Array Value:=#[.pointer (some ⟨d,0,none⟩),.pointer (some ⟨b,0,none⟩),wv,.bool failed,.int .i64 safe,.bool bad]
theorem jbp{ρ:Nat->j3}(R:Rep w ρ d S):Calls prog 78 #[.pointer (some ⟨d,0,none⟩)] w fun e w'=>e = .returned (.tuple #[.int .i64 S.calls,.int .i64 S.wrote])/\ja w w' (fun _=>False):=by
 obtain⟨nm,g,lv,b,_⟩:=R.mem;have f:=zA (o:=3) b;have c:=zA (o:=6) b;simp at f c;clear b R;go_enter func78,ntmps78;go_wp2_with fail;go_quiet (fail);go_wp2;go_ret2;exact⟨rfl,ja.drewN _ _ _⟩
theorem jfi(h:Qt E B w d b S k s deg F):Calls prog 40 #[.pointer (some ⟨b,0,none⟩)] w fun e w'=>e = .returned (.int .i64 0)/\ja w w' (fun i=>i=b)/\∃ ρ,Dk E B w' ρ d S/\Fit k S/\(∀ i,ρ i≠ .none->F i)/\F b/\ρ b = .none/\Env E B w':=by
 obtain⟨ρ,rv,l,T,f⟩:=h;refine(jbm T.row).mono ?_;rintro e j ⟨c,⟨h,_⟩|⟨_,rfl,g⟩⟩
 ·cases h
 ·exact⟨rfl,c,ρ,⟨T.xl.rep.keep c (fun i e _=>by rw[e];exact T.nb.1),T.xl.z8.keep c (fun i e=>by rw[e];exact T.nb.2),T.xl.yx,ZR T.xl.size c.size⟩,T.fit,fun i hi=>(f i).2 (.inl (.inl hi)),(f b).2 (.inl (.inr (.inl rfl))),T.nb.1,T.env.keep c (fun i e=>by rw[e];exact T.nb.2)⟩
theorem ja1(h:Qt E B w d b S k s true F):Calls prog 32 #[.pointer (some ⟨b,0,none⟩)] w fun e w'=>∃(l j i g:Nat) (p:Option Addr) (n c:Nat),e = .returned (.agg #[j7 l,j7 j,j7 i,j7 g,.slice p n c,.bool true,.bool false])/\ja w w' (fun _=>False):=by
 obtain⟨ρ,rv,o,T,r⟩:=h;have q:=T.au;refine(jde T.row T.runs (by omega)).mono ?_;rintro e m h;obtain⟨p,c,rfl,_,f⟩:=h;exact⟨_,_,_,_,_,_,_,rfl,f⟩
end Go.Proofs.YtnipbplghijdmaaGreatDoor

/-
  D: PwJ BeginR PwK ScanR CutR ROver RAll LawP WriteR OwnR.
-/
import Derived.Test.YtnipbplghijdmaaGreatDoorD43
import Derived.Test.YtnipbplghijdmaaGreatDoorD44
set_option maxRecDepth 100000
set_option maxHeartbeats 8000000
set_option linter.unusedVariables false
set_option linter.unusedSimpArgs false
namespace Go.Proofs.YtnipbplghijdmaaGreatDoor
open RowKit Maps WideShapes Go.Proofs.Tryz
variable {S S':jc} {U:Nat} {m:Rf.Man} {bls:List (List Rf.Ch)} {Q R:Want} {s:Rf.St}
structure Zo(D:DataW Nat)(U:Nat)(m:Rf.Man)(bls:List (List Rf.Ch))(Q:Want)(S:jc):Prop where
 names:S.names=D
 safe:S.safe=D
 late:S.late=[]
 wf:∀ f a,S.files f=some a->a.Wf
 small:∀ f a,S.files f=some a->a.bytes.length<=60000
 y7:Qw S.files U m bls Q D
theorem Zo.one{D:DataW Nat}(h:Zo D U m bls Q.down S)(ch:List Int)(x:Str):Zo D U m bls Q.down (Xi S ch x).1:=by
 unfold Xi
 split
 ·rename_i p hp
  obtain⟨f,_,j⟩:=Option.bind_eq_some_iff.1 hp;obtain⟨a,g,rfl⟩:=ZO.1 j;have k:=h.wf f a g;have l:=Cn k ch;refine⟨h.names,h.safe,h.late,fun i b hb=>?_,fun i b hb=>?_,h.y7.write (c:=0) g (nu.settled Q a ch) l⟩
  ·have d:Fls.put S.files f (a.settled ch) i=some b:=hb
   by_cases e:i=f
   ·subst e;rw[Fls.yl] at d;cases d;exact Gg a ch
   ·rw[Fls.yx _ _ e] at d;exact h.wf i b d
  ·have d:Fls.put S.files f (a.settled ch) i=some b:=hb
   by_cases e:i=f
   ·subst e;rw[Fls.yl] at d;cases d;have:=h.small _ a g;omega
   ·rw[Fls.yx _ _ e] at d;exact h.small i b d
 ·exact h
theorem Zo.all{D:DataW Nat}(ch:List Int):∀(l:List Str) (S:jc),Zo D U m bls Q.down S->Zo D U m bls Q.down (zg l S ch).1:=by
 intro l;suffices H:∀(p:jc×List Int),Zo D U m bls Q.down p.1->Zo D U m bls Q.down (l.foldl (fun p x=>Xi p.1 p.2 x) p).1 from fun S h=>H (S,ch) h
 induction l with
 | nil=>intro p h;exact h
 | cons x r ih=>intro p h;exact ih _ (h.one p.2 x)
theorem Pow.Jj(h:Pow S U m bls Q)(ch:List Int):∃ m' bls',Pow (S.crashed ch) U m' bls' Q.down/\(S.crashed ch).late=[]/\qe (S.crashed ch):=by
 obtain⟨m',bls',c⟩:=h.all.at (Jr (ch.headD 0) (S.late.length+1));have d:Zo (Jp S.safe S.late (Jr (ch.headD 0) (S.late.length+1))) U m' bls' Q.down (S.Zl (Jr (ch.headD 0) (S.late.length+1))):=⟨rfl,rfl,rfl,h.wf,h.small,c.mono (zJ _) Q.jgk⟩;have b:=d.all ch.tail (S.Zl (Jr (ch.headD 0) (S.late.length+1))).keys;refine⟨m',bls',⟨?_,b.wf,b.small,?_,?_⟩,b.late,⟨rfl,rfl⟩⟩
 ·show(zg _ _ _).1.names=(zg _ _ _).1.late.foldl doA (zg _ _ _).1.safe
  rw[b.late,b.names,b.safe];rfl
 ·show tf _ (zg _ _ _).1.safe (zg _ _ _).1.late
  rw[b.late,b.safe];exact⟨m',bls',b.y7⟩
 ·show Qw _ _ _ _ _ (zg _ _ _).1.names
  rw[b.names];exact b.y7
theorem td.length:∀ {l:List (Nat×Nat)} {s e:Nat},td s l e->s+l.length<=e
 | [],_,_,h=>Nat.le_of_eq h
 | x::r,s,e,h=>by
  have:=h.2.2.length
  have:=h.2.1
  rw[zH]
  omega
theorem Od(fs:Fls)(T:List Tok):T.length<=Zv fs T:=by
 induction T with
 | nil=>exact zJ _
 | cons x r ih=>rw[Qj,zH];omega
theorem Pow.fit(h:Pow S U m bls Q)(g:S.late=[])(p:U<=60000):Fit 60000 S:=by
 obtain⟨T,b,q⟩:=h.cur;have c:S.safe=S.names:=by have:=h.tied;rw[g] at this;exact this.symm
 have k:T.length<=60000:=by have:=Od S.files T;have:=b.size;omega
 have d:Maps.size S.names<=60000:=by rw[b.X2.size];exact k
 refine⟨⟨T,b.fs⟩,d,by rw[c,g];exact d,?_,fun f a ha=>?_,by have:=h.total;omega,fun n hk=>?_⟩
 ·rw[c]
  obtain⟨⟨l,e,_⟩,_⟩:=b.X2;exact⟨l,e⟩
 ·obtain⟨o,i⟩:=h.wf f a ha
  have:=h.small f a ha;have:=i.length;omega
 ·obtain⟨f,j⟩:=(h.keys.2.1 n).1 hk
  have:=(b.short _ (b.fs.at.1 j)).1;simp only at this;omega
end Go.Proofs.YtnipbplghijdmaaGreatDoor
namespace Go.Proofs.YtnipbplghijdmaaGreatDoor
open RowKit Maps WideShapes Go.Proofs.Tryz
variable {E:Nat->Addr} {B b d k:Nat} {w:World}
def Kb:DStep:=nj [Fn (fun S=>(S.called false,true)),Xp (jh 1) [],yt Rf.Man.first]
theorem jf6{ρ:Nat->j3}{s:jc}(D:Dk E B w ρ d s)(ab:qe s)(ac:View s [])(F:Fit k s)(H:Env E B w)(hk:k<400000000000)(hb:w.heap[b]?=some (.cells (newRow d) 121 (0,0)))(aa:ρ b = .none)(a0:B<=b) :
 Calls prog 130 #[.pointer (some ⟨b,0,none⟩)] w fun e w'=>e = .returned .nilIface/\∃ S',Kb s S' true/\qe S'/\ic E B w ρ d b S' (k+1000) Rf.Man.first 0 [] w':=by
 have c0:=zA (o:=0) hb;simp at c0;have f:s.keys=[]:=by have:=ac.keys;simpa using this
 have ah:jc.zl [] s=(s.called false,true):=by
  unfold jc.zl;rw[if_neg (by rw[ab.bad];decide),f];rfl
 have v:=Zy D (F.small (by omega)) (.slice none 0 0) [] B (ZL _ _ _ _) (fun g hg=>by cases hg) (by simp) (fun n hn=>by rw[f] at hn;cases hn) (by rw[f];have:=F.safe;simp only[zX];omega);rw[ah] at v;have O:=jb v;have HB:=jb hb;have HK:=jb hk;have X:qe (s.called false):=ab.called false;have Y:View (s.called false) []:=ac.called false;have F1:=F.called false;obtain⟨u,A⟩:∃ u,u=s.called false:=⟨_,rfl⟩;rw[<-A] at O X Y F1;have an:=jb A;clear v hb hk ah f A;go_enter func130,ntmps130;go_wp2_with fail;refine O.out.mono ?_;rintro e w1 ⟨ρ1,U,D1,⟨_,rfl⟩|⟨am,_⟩⟩
 rotate_left
 ·cases am
 simp only at D1;obtain⟨G,b8⟩:=U.row HB.out aa;obtain⟨y,hy⟩:∃ y,y=w1.heap.size:=⟨_,rfl⟩;obtain⟨r,I⟩:∃ r,r=w1.alloc (.cells #[.int .i64 2,.int .i64 0,.int .i64 1,.int .i64 0,.slice none 0 0] 117):=⟨_,rfl⟩;have k2:ja w1 r (fun _=>False):=by rw[I];exact ja.alloc _ _ _
 have Z:r.heap[y]?=some (.cells #[.int .i64 2,.int .i64 0,.int .i64 1,.int .i64 0,.slice none 0 0] 117 (0,0)):=by rw[I,hy];exact je _ _
 have D2:=D1.same k2;have l:=k2.same G id;have ny:ρ1 y = .none:=yE (fun hn=>by have:=D1.rep.lt y hn;omega);have ba:Env E B w1:=H.keep U.keeps (fun i t=>D.yz i t);have ai:=ba.same k2;have d0:=zA (o:=0) l;have z2:=zA (o:=2) Z;simp at d0 z2;have d0:r.drew.cell? ⟨b,0,none⟩=some (.pointer (some ⟨d,0,none⟩)):=d0;have z2:r.drew.cell? ⟨y,2,none⟩=some (.int .i64 1):=z2;have ag:∀ W,ja r W (fun _=>False)->Calls prog 63 #[.int .i64 1] W fun e w'=>e = .returned (jf (jh 1))/\ja W w' (fun _=>False):=fun W S=>Qs 1 (by omega) (ai.same S);have ae:(jh 1).length<100:=by have:=yj (n:=1) (by omega);unfold jh;simp only[zW,zH,zX];omega
 have M:∀ W,ja r W (fun _=>False)->Calls prog 114 #[.pointer (some ⟨d,0,none⟩),jf (jh 1),.slice none 0 0] W fun e w'=>e = .returned .nilIface/\∃ V R,Xp (jh 1) [] u V true/\x7 r ρ1 w' R/\Dk E B w' R d V:=fun W S=>by
  refine(tr (D2.same S) F1 (jh 1) (Jt _) _ [] (Mr W) (fun p n c e=>by cases e) (by have:=HK.out;simp only[zX];omega)).mono ?_;intro e w' h;obtain⟨V,cg,r2,R,g,D',aj⟩:=h.before (x7.of S (fun _ _ h=>h.elim));obtain⟨b6,_,_⟩:=X.lay (Jt 1) Y (by simp[jn,qu]) r2;subst b6;rcases aj with⟨_,rfl⟩|⟨hf,_⟩
  ·exact⟨rfl,V,R,r2,g,D'⟩
  ·cases hf
 have a1:=jb ag;have C:=jb M;have a5:=jb l;have be:=jb Z;have HY:=jb hy;have kd:ja r r.drew (fun _=>False):=ja.drew _ _;have bh:=jb ae;clear ag M G l Z ae hy c0;obtain⟨J,x⟩:∃ J,J=jh 1:=⟨_,rfl⟩;rw[<-x] at a1 C;have m:=jb x;clear x;go_wp2_with fail;rw[<-I,<-HY.out];clear I
 go_cut [5] from 6 (fun s5 wd=>s5 = .nilIface/\∃ V R,Xp J [] u V true/\x7 r ρ1 wd R/\Dk E B wd R d V)
 case first =>
  go_region_law (first
   | (refine jx rfl 63 [.tmp 20] _ rfl Jv [.int .i64 1] (by simp[Act.eval,Act.put]) (a1.out _ kd) ?_
      rintro e c9 ⟨rfl,a9⟩
      have d0:=a9.cell d0 id
      have kd:=kd.tt a9
      refine⟨_,rfl,?_⟩)
   | (refine jx rfl 114 [.tmp 18,.tmp 21,.const (.slice none 0 0)] _ rfl dr [.pointer (some ⟨d,0,none⟩),jf J,.slice none 0 0] (by simp[Act.eval,Act.put]) (C.out _ kd) ?_
      rintro e c8 ⟨rfl,ci,c7,bd,bb,bi⟩
      refine⟨_,rfl,?_⟩))
  all_goals
   go_wp2;go_meet
  all_goals exact⟨rfl,_,_,bd,bb,bi⟩
 case rest =>
  obtain⟨rfl,ch,ρ3,R3,T,D3⟩:=hcut;have N:J≠[]:=by rw[m.out];exact Jt _
  have F3:=F1.Du N R3;obtain⟨_,b3,b4⟩:=X.lay N Y (by simp[jn,qu]) R3;have a4:J.length<100:=by rw[m.out];exact bh.out
  have bg:=jb R3;clear R3;obtain⟨a2,b7⟩:=T.row a5.out b8;have q:=(T.row be.out ny).1;have t0:=zA (o:=0) q;have t1:=zA (o:=1) q;have t2:=zA (o:=2) q;have t3:=zA (o:=3) q;have t4:=zA (o:=4) q;simp at t0 t1 t2 t3 t4;have b9:=ai.keep T.keeps (fun i t=>D2.yz i t);have L:Rf.Man.first.bytes.length=42:=by rw[ql];rfl
  have z:=lg D3 F3 b9 Rf.Man.first Rf.St.Ok.first.y7 (by decide) (.slice none 0 0) (Jw.nil _) (fun p n c e=>by cases e) a2 b7 a0 (by have:=HK.out;simp only[zX];omega);have af:iu Rf.Man.first (.slice none 0 0) = .agg #[.int .i64 2,.int .i64 0,.int .i64 1,.int .i64 0,.slice none 0 0]:=rfl;rw[af] at z;have ap:=jb z;clear z af q d0 z2 kd a1 C;go_wp2_with fail;refine ap.out.mono ?_;rintro e w4 ⟨bc,cf,ρ4,R4,k4,b5,D4,a3,j⟩;have F4:=F3.yt R4;rw[L] at F4
  obtain⟨ak,b2,ca⟩:=b3.install b4 (fun n hn=>by
   have e:n=jh 1:=by simpa [jt,Rf.Man.first,Rf.Man.settled] using hn
   exact⟨[],jdr.2 (.inl (by rw[e,m.out]))⟩) (by
   rw[L]
   have h1:=yn (Xb [] J []) jq
   have h2:qu (Xb [] J [])=0:=by simp[Xb,jn,qu]
   omega) R4
  subst ak;rw[if_pos rfl] at j;rcases a3 with⟨_,rfl⟩|⟨hf,_⟩
  rotate_left
  ·cases hf
  have ao:=jb R4;have bt:=a4;clear R4;have bf:=jb j;clear j;go_wp2;go_ret;have ce:=U.keeps.size;have cd:=k2.size;have cc:=T.keeps.size;have cb:=k4.size;have al:b<w.heap.size:=zC HB.out;have ad:∀ i,i<w.heap.size->ρ4 i=ρ i:=fun i hi=>(b5 i (by omega)).trans ((T.role i (by omega)).trans (U.role i hi));have S:ja w w4 (fun i=>ρ i≠ .none\/i=b):=(((U.keeps.mono (fun i _ h=>(Or.inl h:ρ i≠ .none\/i=b))).trans k2 (fun _ _ h=>h.elim)).trans T.keeps (fun i hi h=> .inl (by rw[<-U.role i hi];exact h))).trans k4 (fun i hi h=>h.imp (fun h=>by rw[<-U.role i hi,<-T.role i (by omega)];exact h) id);refine⟨rfl,bc,.inr ⟨u,by show _=_;rw[an.out],.inr ⟨_,by rw[<-m.out];exact bg.out,.inr ⟨_,ao.out,rfl,rfl⟩⟩⟩,b2,ρ4,.slice none 0 0,.slice none 0 0,⟨H.keep (S.mono (fun i hi h=>(show B<=i from h.elim (fun h=>D.yz i h) (fun h=>by rw[h];exact a0)))) (fun i h=>h),D4,F4.mono (by simp only[zX];omega),bf.out,Jw.nil _,ZL _ _ _ _,⟨(ad b al).trans aa,a0⟩,fun p n c e=>(by cases e),fun g hg=>(by cases hg),Rf.St.Ok.first.y7,List.Pairwise.nil,ZM _,by decide⟩,S,ad,fun g hg=>(by cases hg),fun p n c e=>(by cases e)⟩
theorem Uz{ρ:Nat->j3}{u:jc}(D:Dk E B w ρ d u)(a1:qe u)(a2:View u [])(F:Fit k u)(H:Env E B w)(hk:k<400000000000)(hb:w.heap[b]?=some (.cells (newRow d) 121 (0,0)))(Z:ρ b = .none)(ac:B<=b) :
 Calls prog 83 #[.pointer (some ⟨b,0,none⟩)] w fun e w'=>e = .returned .nilIface/\∃ S',Kb (u.called false) S' true/\qe S'/\ic E B w ρ d b S' (k+1000) Rf.Man.first 0 [] w':=by
 obtain⟨x,hx⟩:∃ x,x=w.heap.size:=⟨_,rfl⟩;obtain⟨w1,q⟩:∃ w1,w1=w.alloc (.cells #[.nilIface] 128):=⟨_,rfl⟩;have k1:ja w w1 (fun _=>False):=by rw[q];exact ja.alloc _ _ _
 have aa:w1.heap[x]?=some (.cells #[.nilIface] 128 (0,0)):=by rw[q,hx];exact je _ _
 have M:=k1.same hb id;have bc:=zC hb;have l:ρ x = .none:=yE (fun hn=>by have:=D.rep.lt x hn;omega);have D1:=D.same k1
 have a5:∀ {W:World},Dk E B W ρ d u->Calls prog 129 #[.pointer (some ⟨d,0,none⟩),jf ji] W fun e w'=>x7 W ρ w' ρ/\Dk E B w' ρ d (u.called false)/\∃ v,e = .returned (.tuple #[.slice none 0 0,v])/\Err E w' v 2:=fun {W} D'=>by
  refine(Yc D' (F.small (by omega)) ji (by decide)).mono ?_;rintro e w' ⟨g,b2,⟨A,_⟩|⟨_,_,v,rfl,hv⟩|⟨_,f,a,v,hA,ha,_⟩⟩
  ·rw[a1.bad] at A;cases A
  ·exact⟨g,b2,v,rfl,hv⟩
  ·have:=a2.of hA ha
   cases this
 have a4:=a5 D1;have c0:=zA (o:=0) M;simp at c0
 have ar:∀ o,(w.alloc o).cell? ⟨b,0,none⟩=some (.pointer (some ⟨d,0,none⟩)):=fun o=>by
  have:=zA (o:=0) ((ja.alloc w o (fun _=>False)).same hb id);simpa using this
 have ax:=jb a4;have V:=jb hx;have aw:=jb aa;have b1:=jb M;have HK:=jb hk;clear a4 hx aa M hb hk a5;go_enter_defers func83,ntmps83;go_wp2_with fail;rw[<-q,<-V.out];clear q ar;refine ax.out.mono ?_;rintro e w2 ⟨g2,U,v2,rfl,J⟩;obtain⟨tv,av,rfl⟩:=J.shape;have j:=(g2.row aw.out l).1;have a9:=(g2.row b1.out Z).1;have G:x≠b:=by have:=V.out;omega
 obtain⟨s,m⟩:∃ s,s=w2.setCell ⟨x,0,none⟩ (.iface tv (.pointer (some av))):=⟨_,rfl⟩;have T:ja w2 s (fun i=>i=x):=by rw[m];exact ja.setCell w2 ⟨x,0,none⟩ _
 have O:s.heap[x]?=some (.cells #[.iface tv (.pointer (some av))] 128 (0,0)):=by rw[m];exact(jd j _).trans rfl
 have a8:=T.same a9 (Ne.symm G);have ab:B<=x:=by rw[V.out];exact D.size
 have D3:Dk E B s ρ d (u.called false):=⟨U.rep.keep T (fun i e _=>by rw[e];exact l),U.z8.keep T (fun i e=>by rw[e];exact ab),U.yz,ZI U.size T.size⟩;have a3:Err E s (.iface tv (.pointer (some av))) 2:=J.keep T (fun i c e hc=>by rw[e,j] at hc;cases hc);have L:=ry D3.z8 a3 2 (by decide);rw[decide_eq_true rfl] at L;have gc:=D3.z8.cell 2 (by decide);have br:=U.z8.cell 2 (by decide);have bq:=U.z8.lt 2 (by decide);have bb:¬x=2:=by omega
 have ba:¬2=x:=by omega
 have x2:=zA (o:=0) j;have f2:=zB (o:=0) j;have x3:=zA (o:=0) O;simp at x2 x3;have C:ja w s (fun i=>ρ i≠ .none\/i=b):=((k1.up).trans g2.keeps (fun i _ h=> .inl h)).trans T (fun i hi e=>by have:=V.out;omega);have E3:Env E B s:=H.keep (C.mono (fun i hi h=>(show B<=i from h.elim (fun h=>D.yz i h) (fun h=>by rw[h];exact ac)))) (fun i h=>h);have a7:=jf6 D3 (a1.called false) (a2.called false) (F.called false) E3 HK.out a8 Z ac;have az:=jb L;have b0:=jb a7;have ad:=jb O;clear L a7 j O a9 a8 J a3 c0;go_wp2_with fail;rw[<-m];clear m;refine az.out.mono ?_;rintro e w4 ⟨rfl,rfl⟩;go_wp2_with fail;refine b0.out.mono ?_;rintro e w5 ⟨rfl,R,R5,aq,ρ5,X,Y,S5,k5,a0,a6,y⟩;have r:=k5.same ad.out (fun t=>t.elim (fun t=>t l) G);have x5:=zA (o:=0) r;have f5:=zB (o:=0) r;simp at x5;obtain⟨S,I⟩:∃ S,S=w5.setCell ⟨x,0,none⟩ .nilIface:=⟨_,rfl⟩;have k6:ja w5 S (fun i=>i=x):=by rw[I];exact ja.setCell w5 ⟨x,0,none⟩ _
 have N:S.heap[x]?=some (.cells #[.nilIface] 128 (0,0)):=by rw[I];exact(jd r _).trans rfl
 have x6:=zA (o:=0) N;simp at x6;have ae:x<w4.heap.size:=zC ad.out
 have S6:StM E B S ρ5 d b R (k+1000) Rf.Man.first 0 [] false X Y:=S5.keep k6 (fun i _ e=>by
  rw[e]
  refine⟨ab,fun t=>?_,fun p n c e2 e3=>?_⟩
  ·rcases t with t|t|t
   ·rw[a0 x ae] at t;exact t l
   ·exact G t
   ·have:=a6 x t;omega
  ·have:=y p n c e2;omega)
 have z:ic E B w ρ d b R (k+1000) Rf.Man.first 0 [] S:=by
  have bp:=C.size;refine⟨ρ5,X,Y,S6,(C.trans k5 (fun i hi h=>h)).trans k6 (fun i hi e=>by have:=V.out;omega),fun i hi=>a0 i (by omega),fun g hg=>by have:=a6 g hg;omega,fun p n c e=>by have:=y p n c e;omega⟩
 have af:=jb z;have ay:=jb R5;clear R5;have au:=jb N;clear z r N;go_wp2;rw[<-I];refine leaves_cons (f:=127) (args:=#[.pointer (some ⟨b,0,none⟩),.pointer (some ⟨x,0,none⟩)]) (by simp) (by simp[go_sem]) ?_;refine(um b x .returning _ x6).mono ?_;rintro e u' w' ⟨rfl,rfl,rfl⟩;exact⟨.nilIface,Yz rfl rfl au.out,rfl,R,ay.out,aq,af.out⟩
theorem Wj{ρ:Nat->j3}{m:jc}(D:Dk E B w ρ d m)(y:qe m)(z:View m [])(F:Fit k m)(H:Env E B w)(L:k<400000000000) :
 Calls prog 45 #[.pointer (some ⟨d,0,none⟩)] w fun e w'=>∃ S',Kb (m.called false) S' true/\qe S'/\Wo E B w ρ d (k+1000) Rf.Man.first 0 [] e w' S':=by
 obtain⟨b,j⟩:∃ b,b=w.heap.size:=⟨_,rfl⟩;obtain⟨s,f⟩:∃ s,s=w.alloc (.cells (newRow d) 121):=⟨_,rfl⟩;have t:ja w s (fun _=>False):=by rw[f];exact ja.alloc _ _ _
 have q:s.heap[b]?=some (.cells (newRow d) 121 (0,0)):=by rw[f,j];exact je _ _
 have o:=Uz (D.same t) y z F (H.same t) L q (yE (fun hn=>by have:=D.rep.lt b hn;omega)) (by rw[j];exact D.size);have G:=jb o;have l:=jb j;clear o q j;go_enter func45,ntmps45;go_wp2_with fail;rw[<-f,<-l.out];clear f;refine G.out.mono ?_;rintro e N ⟨rfl,S',R',w',I,u,v,M,J,x,A,r⟩;have C:=jb R';clear R';go_wp2;go_ret2;have O:=t.size;exact⟨S',C.out,w',b,I,u,v,rfl,by rw[l.out];exact zJ _,M,(t.up).trans J (fun i hi h=>h.elim id (fun e=>by have:=l.out;omega)),fun i hi=>x i (by omega),fun g hg=>by have:=A g hg;omega,fun p n c e=>by have:=r p n c e;omega⟩
end Go.Proofs.YtnipbplghijdmaaGreatDoor
namespace Go.Proofs.YtnipbplghijdmaaGreatDoor
open RowKit Maps WideShapes Go.Proofs.Tryz
variable {S S':jc} {U:Nat} {m:Rf.Man} {bls:List (List Rf.Ch)} {Q R:Want} {s:Rf.St}
structure Pre(S:jc)(U:Nat):Prop where
 tied:S.names=S.late.foldl doA S.safe
 wf:∀ f a,S.files f=some a->a.Wf
 small:∀ f a,S.files f=some a->a.bytes.length<=60000
 cur:∃ T,Names S.names S.files U T
theorem Pre.zu(h:Pre S U)(c:S'.names=S.names)(b:S'.files=S.files)(f:S'.safe=S.safe)(d:S'.late=S.late):Pre S' U :=
 ⟨by rw[c,f,d];exact h.tied,by rw[b];exact h.wf,by rw[b];exact h.small,by rw[c,b];exact h.cur⟩
theorem Pre.sync(h:Pre S U)(n:Str):Pre (S.qn n).1 U:=by
 rcases Yx S n with⟨e,_⟩|⟨f,a,_,_,g,e⟩
 ·rw[e];exact h.zu rfl rfl rfl rfl
 ·rw[e]
  obtain⟨T,j⟩:=h.cur;refine⟨h.tied,fun i b hb=>?_,fun i b hb=>?_,T,j.write (c:=0) g (zJ _)⟩
  all_goals
   have d:Fls.put S.files f a.synced i=some b:=hb;by_cases e:i=f
   ·subst e;rw[Fls.yl] at d;cases d;first|exact Ly a|exact h.small _ a g
   ·rw[Fls.yx _ _ e] at d;first|exact h.wf i b d|exact h.small i b d
theorem Pre.dir(h:Pre S U):Pre S.Ye.1 U:=by
 rcases Yu S with⟨_,e⟩|⟨_,e⟩
 ·rw[e];exact h.zu rfl rfl rfl rfl
 ·rw[e];exact⟨h.tied,h.wf,h.small,h.cur⟩
theorem Pre.sure(h:Pre S U)(ns:List Str):Pre (jc.xx ns S).1 U:=by
 induction ns generalizing S with
 | nil=>exact h.dir
 | cons n r ih =>
  unfold jc.xx
  split
  ·exact ih (h.sync n)
  ·exact h.sync n
theorem Pre.made(h:Pre S U){f:Nat}{a:jz}{n:Str}(k:S.files f=none)(m:a.Wf)(o:a.bytes.length<=60000)(r:n≠[])(q:n.length<=60)(l:S'.names=doA S.names ⟨n,[],[],some f⟩)(t:S'.late=S.late++[⟨n,[],[],some f⟩])(s:S'.safe=S.safe)(d:S'.files=Fls.put S.files f a) :
 Pre S' (U+1+a.bytes.length)/\S'.at n=some f/\(∀ x P,x≠n->At S x P->At S' x P)/\∀ ns,Qf S ns->Qf S' (n::ns):=by
 obtain⟨T,j⟩:=h.cur;have c:Names S'.names S'.files (U+1+a.bytes.length) ((n,f)::jn T n):=by rw[l,d];exact j.made k a r q
 refine⟨⟨by rw[l,t,s,XM,<-h.tied];rfl,fun i b hb=>?_,fun i b hb=>?_,_,c⟩,c.fs.at.2 zR,fun x P hx hP=>(At.sat c).2 ?_,fun ns ho x g hx=>?_⟩
 ·rw[d] at hb
  by_cases e:i=f
  ·subst e;rw[Fls.yl] at hb;cases hb;exact m
  ·rw[Fls.yx _ _ e] at hb;exact h.wf i b hb
 ·rw[d] at hb
  by_cases e:i=f
  ·subst e;rw[Fls.yl] at hb;cases hb;exact o
  ·rw[Fls.yx _ _ e] at hb;exact h.small i b hb
 ·rw[d]
  exact((((At.sat j).1 hP).fresh k a).jn hx).cons _
 ·rcases zF.1 (c.fs.at.1 hx)with e|p
  ·cases e;exact zR
  ·exact zQ _ (ho x g (j.fs.at.2 (qh.1 p).1))
theorem Pre.lay(h:Pre S U){n:Str}{b:List UInt8}(l:n≠[])(k:n.length<=60)(B:b.length<=60000)(r:Xp n b S S' true) :
 Pre S' (U+1+b.length)/\At S' n (fun a=>a.bytes=b/\(b=[]->yw [] a))/\(∀ x P,x≠n->At S x P->At S' x P)/\∀ ns,Qf S ns->Qf S' (n::ns):=by
 unfold Xp at r
 split at r
 ·rename_i hb
  subst hb;rcases r with⟨_,_,e⟩|⟨_,_,f,d,rfl⟩
  ·cases e
  ·obtain⟨i,p,o,m⟩:=Pre.made (S':=((S.called true).withFile f qd).named ⟨n,[],[],some f⟩) (a:=qd) h d mj (zG _) l k rfl rfl rfl rfl
   exact⟨i,⟨f,qd,p,Fls.yl _ _ _,rfl,fun _=>⟨rfl,rfl,rfl⟩⟩,o,m⟩
 ·rename_i hb
  rcases r with⟨_,e⟩|⟨E,u,t⟩
  ·cases e
  rcases u with⟨_,_,e⟩|⟨_,_,f,d,rfl⟩
  ·cases e
  have g:=Pre.made (S':=((S.called true).withFile f qd).named ⟨n,[],[],some f⟩) (a:=qd) h d mj (zG _) l k rfl rfl rfl rfl;rcases t with⟨_,e⟩|⟨D,⟨C,a',q,z,y⟩,A,_⟩
  ·cases e
  subst A;rw[g.2.1] at q;cases q;have c:Fls.put S.files f qd f=some a':=z;rw[Fls.yl] at c;cases c;rcases y with⟨_,_,e⟩|⟨_,_,rfl,_⟩
  ·cases e
  have s:(((((S.called true).withFile f qd).named ⟨n,[],[],some f⟩).called true).withFile f (qd.put b)).files=Fls.put S.files f (qd.put b):=jab S.files f qd (qd.put b);obtain⟨v,j⟩:=Cu b;obtain⟨i,p,o,m⟩:=Pre.made (S':=((((S.called true).withFile f qd).named ⟨n,[],[],some f⟩).called true).withFile f (qd.put b)) (a:=qd.put b) h d v (by rw[j];omega) l k rfl rfl rfl s;rw[j] at i;exact⟨i,⟨f,qd.put b,p,by rw[s];exact Fls.yl _ _ _,j,fun e=>absurd e hb⟩,o,m⟩
theorem We(J:S.names = .map [])(hs:S.safe = .map [])(hl:S.late=[])(Y:∀ f,S.files f=none)(hQ:Q.now Rf.St.first)(r:Kb S S' true):Norm S' 200 Rf.St.first Q:=by
 have h0:Pre S 0:=⟨by rw[J,hs,hl];rfl,fun f a e=>(by rw[Y] at e;cases e),fun f a e=>(by rw[Y] at e;cases e),[],by rw[J];exact⟨bz.nil,fun p hp=>(by cases hp),List.Pairwise.nil,zJ _,fun p hp=>(by cases hp)⟩⟩
 have o0:Qf S []:=fun n f s=>by
  unfold jc.at at s;rw[J] at s;rw[bz.nil.none (fun f h=>by cases h)] at s;cases s
 unfold Kb at r;rcases r with⟨_,e⟩|⟨I,W,k⟩
 ·cases e
 have A:(S.called false,true)=(I,true):=W;have A:I=S.called false:=(congrArg Prod.fst A).symm;have h1:Pre I 0:=by rw[A];exact h0.zu rfl rfl rfl rfl
 have o1:Qf I []:=by rw[A];exact o0.zu rfl
 clear W A;rcases k with⟨_,e⟩|⟨S2,r2,k⟩
 ·cases e
 have G:(jh 1).length<=60:=mm (by omega);obtain⟨h2,a2,b2,c2⟩:=h1.lay (Jt 1) G (zG _) r2;have o2:=c2 _ o1;rcases k with⟨_,e⟩|⟨S3,V,e3,_⟩
 ·cases e
 subst e3;unfold yt at V;have O:jt Rf.Man.first=[jh 1]:=rfl;have E:Rf.Man.first.bytes.length=42:=by rw[ql];rfl
 rcases V with⟨_,e⟩|⟨T1,q1,k⟩
 ·cases e
 have t:jc.xx (jt Rf.Man.first) S2=(T1,true):=q1;have X:=h2.sure (jt Rf.Man.first);have U:=tj a2 (jt Rf.Man.first) (by rw[O];exact zZ.2 rfl) (by rw[t]) (fun a q=>⟨q.1,fun e=>(q.2 e).synced⟩);have n1:Qf T1 [jh 1]:=o2.zu (by have:=Ck (jt Rf.Man.first) S2;rwa [t] at this);rw[t] at X U;rcases k with⟨_,e⟩|⟨N,q2,k⟩
 ·cases e
 obtain⟨p2,a3,b3,c3⟩:=X.lay (n:=jq) (by decide) (by decide) (by omega) q2;have n2:=c3 _ n1;have s2:=b3 _ _ (fun e=>Ez 1 e.symm) U;rcases k with⟨_,e⟩|⟨d,q3,k⟩
 ·cases e
 have i:N.qn jq=(d,true):=q3;have y:=p2.sync jq
 have t3:At d jq (yw Rf.Man.first.bytes):=by
  have:=th (S:=N) jq (by rw[i]) a3;rw[i] at this;exact this.mono (fun a ⟨b,q,e⟩=>by rw[e];exact⟨q.1,by show b.bytes.length=_;rw[q.1],rfl⟩)
 have s3:At d (jh 1) (yw []):=by
  have:=(s2.mono (fun a q=>q.1.2 rfl)).sync jq (fun a q=>q.synced);rwa [i] at this
 have n3:Qf d (jq::[jh 1]):=n2.zu (by have:=au N jq;rwa [i] at this);rw[i] at y;rcases k with⟨_,e⟩|⟨T4,q4,e4,_⟩
 ·cases e
 subst e4;have c:xu (d.qt jq ji)=(S',true):=q4;unfold xu at c
 split at c
 rotate_left
 ·cases c
 rename_i hok
 rcases il d jq ji (by decide)with⟨e,_⟩|⟨f,_,s,e⟩
 ·rw[e] at hok;cases hok
 rw[e] at c;obtain⟨T,H⟩:=y.cur;have hm:=H.fs.at.1 s;obtain⟨f',a,F,Z,B⟩:=t3;rw[s] at F;cases F;have hN:=H.renamed (a:=a) hm (ds:=ji) (by decide) (by decide) (by decide);have R:(xm d.files f).length=42:=by unfold xm;rw[Z];show a.bytes.length=42;rw[B.bytes,E]
 rw[R,E] at hN;rcases Yu ((d.called true).named ⟨[],jq,ji,some f⟩)with⟨_,M⟩|⟨_,M⟩
 ·rw[M] at c;cases c
 rw[M] at c;have z:=(congrArg Prod.fst c).symm;simp only at z;have D:S'.names=doA d.names ⟨[],jq,ji,some f⟩:=by rw[z];rfl
 have j:S'.files=d.files:=by rw[z];rfl
 have u:S'.late=[]:=by rw[z]
 have C:S'.safe=S'.names:=by
  rw[D,z];show(d.late++[_]).foldl doA d.safe=_;rw[XM,<-y.tied];rfl
 have v:Names S'.names S'.files 200 ((ji,f)::jn (jn T ji) jq):=by rw[D,j];exact hN.mono (by simp only[zX];omega)
 have m:Sat ((ji,f)::jn (jn T ji) jq) S'.files (jh 1) (yw []):=by
  rw[j];exact((((At.sat H).1 s3).jn (fun e=>tn 1 e.symm)).jn (fun e=>Ez 1 e.symm)).cons _
 have l:(⟨Rf.Man.first,[],[]⟩:Rf.St).Ok:=Rf.St.Ok.first;have o:Qw S'.files 200 Rf.Man.first [] Q S'.names:=⟨_,v,⟨f,a,zR,by rw[j];exact Z,B⟩,fun p hp=>(by cases hp),m.mono (fun a q=>Jg.sure (bs:=[]) q l hQ)⟩;have hP:Pow S' 200 Rf.Man.first [] Q:=⟨by rw[u,C];rfl,by rw[j];exact y.wf,by rw[j];exact y.small,by rw[u,C];exact⟨_,_,o⟩,o⟩;refine kj hP u ((At.sat v).2 m) l hQ (fun x g hx=>?_);rw[Qh];rcases zF.1 (v.fs.at.1 hx)with e|hq
 ·cases e;exact .inr (.inr rfl)
 ·have h3:=qh.1 hq
  have L:=n3 x g (H.fs.at.2 (qh.1 h3.1).1);rcases zF.1 L with e|L
  ·exact absurd e h3.2
  ·exact .inr (.inl (zZ.1 L))
end Go.Proofs.YtnipbplghijdmaaGreatDoor
namespace Go.Proofs.YtnipbplghijdmaaGreatDoor
open RowKit Maps WideShapes Go.Proofs.Tryz
def jf9(E:Nat->Addr)(B:Nat)(w:World)(ρ:Nat->j3)(d b:Nat)(rv mv:Value)(S:jc)(k:Nat)(s:Rf.St)(deg:Bool)(lo hi:Str)(most:Nat)(e:Ending)(w':World):Prop :=
 ∃ S',qo S S'/\((∃ v,e = .returned (.tuple #[v,.int .i64 0])/\w'.ownsRow w.heap.size 65 2 v (Rf.pj s.all lo hi most).length (qm (Rf.pj s.all lo hi most))/\y8 E B w ρ d b rv mv S' k s.m s.last s.mem deg w') \/
  (¬qe S/\e = .returned (.tuple #[.slice none 0 0,.int .i64 1])/\y8 E B w ρ d b rv mv S' k s.m s.last s.mem true w'))
theorem jgt{E:Nat->Addr}{B:Nat}{w:World}{ρ:Nat->j3}{d b k:Nat}{S:jc}{s:Rf.St}{q:Bool}{rv x:Value}(T:StM E B w ρ d b S k s.m s.last s.mem q rv x)(o:s.Ok)(D:Jm S s)(O:k<549755813888)(W:s.all.length<1048576)(lo f:Str)(most:Nat)(r:most<9223372036854775808) :
 Calls prog 29 #[.pointer (some ⟨b,0,none⟩),jf lo,jf f,j6 most] w (jf9 E B w ρ d b rv x S k s q lo f most):=by
 have U:Bg s.m s.bls k S:=⟨T.fit,D.bytes⟩;have R:=pn o.y7 o.len o.bl O;have F:s.mem.drop (Rf.below s.mem lo)=s.mem.filter (Rf.qk lo):=Rf.vy (Rf.zb _) lo
 have J:Zh f (Y2 (s.mem.drop (Rf.below s.mem lo)) S)=some (s.mem.filter (fun c=>Zu lo f c.key)):=by
  unfold Zh Y2;rw[if_pos (.inl rfl),F];show some (Y5 f (s.mem.filter (Rf.qk lo)))=_;rw[rk (l:=s.mem) (Rf.zb _)]
 have I:(Y2 (s.mem.drop (Rf.below s.mem lo)) S).1=S:=rfl;obtain⟨S',A,e⟩:=Hy f lo (s.bls.map Rf.chunks) S;rw[jfl o] at e
 have j:j9 f (Y2 (s.mem.drop (Rf.below s.mem lo))::xz (s.bls.map Rf.chunks) lo) S=(S',.inl (s.mem.filter (fun c=>Zu lo f c.key)::s.bls.map (fun l=>l.filter (fun c=>Zu lo f c.key))))\/(j9 f (Y2 (s.mem.drop (Rf.below s.mem lo))::xz (s.bls.map Rf.chunks) lo) S=(S',.inr true)/\¬qe S):=by
  rcases e with e|⟨e,z⟩
  ·left;rw[iy,J,I,e]
  ·right;exact⟨by rw[iy,J,I,e],z⟩
 have M:=Rp o lo f
 have N:(Xf (j9 f (Y2 (s.mem.drop (Rf.below s.mem lo))::xz (s.bls.map Rf.chunks) lo) S)).length<1048576:=by
  rcases j with j|⟨j,_⟩
  ·rw[j];show(Rf.merged _).length<_;omega
  ·rw[j];exact ZM _
 have V:=T.ay;refine(jc0 s.m rv (jg s.last) x s.mem q (s.bls.map Rf.chunks) T.env T.xi U R T.row (fun h=>h T.nb.1) T.nb.2 T.runs (by omega) (Je T.mem) (Mh o T.few) (fun p n c e=>?_) lo f most r N).mono ?_
 ·have u:x.ownBlock=some p.block:=by rw[e];rfl
  exact⟨fun t=>t (T.nm _ u).1,(T.mem.lt _ u).2⟩
 ·rintro X w' ⟨G,y,h⟩
  have L:=A.fit T.fit;rcases j with j|⟨j,z⟩
  ·rw[j] at y h
   refine⟨S',A,?_⟩;rcases h with⟨v,rfl,_,H,i⟩|⟨g,_,_⟩
   ·refine .inl ⟨v,rfl,?_,T.next G (fun _ _=>rfl) y L i⟩
    have C:Xf (S',Sum.inl (s.mem.filter (fun c=>Zu lo f c.key)::s.bls.map (fun l=>l.filter (fun c=>Zu lo f c.key))))=Rf.merged (s.mem.filter (fun c=>Zu lo f c.key)::s.bls.map (fun l=>l.filter (fun c=>Zu lo f c.key))):=rfl;rw[C,jer o] at H;exact H
   ·exact(g rfl).elim
  ·rw[j] at y h
   refine⟨S',A,.inr ⟨z,?_⟩⟩;rcases h with⟨v,_,g,_,_⟩|⟨_,rfl,i⟩
   ·rcases g with g|g
    ·cases g
    ·exact(g rfl).elim
   ·exact⟨rfl,T.next G (fun _ _=>rfl) y L i⟩
end Go.Proofs.YtnipbplghijdmaaGreatDoor
namespace Go.Proofs.YtnipbplghijdmaaGreatDoor
open RowKit Maps WideShapes Go.Proofs.Tryz
variable {S S':jc}
def Cl(S S':jc):Prop:=S.cut = -1->S'.cut = -1
theorem Cl.refl(S:jc):Cl S S:=id
theorem Cl.trans{T:jc}(h:Cl S S')(k:Cl S' T):Cl S T:=fun c=>k (h c)
theorem Cl.sync(S:jc)(n:Str):Cl S (S.qn n).1:=fun c=>by
 unfold jc.qn
 split
 ·exact yq true c
 ·split
  ·exact yq true c
  ·split
   ·exact yq true c
   ·exact yq true c
theorem Cl.dir(S:jc):Cl S S.Ye.1:=fun c=>by
 unfold jc.Ye
 split
 ·exact yq true c
 ·exact yq true c
theorem Cl.remove(S:jc)(n:Str):Cl S (S.xj n).1:=fun c=>by
 unfold jc.xj
 split
 ·exact yq true c
 ·split
  ·exact yq true c
  ·exact yq true c
theorem Cl.rename(S:jc)(a b:Str):Cl S (S.qt a b).1:=fun c=>by
 unfold jc.qt
 split
 ·exact yq true c
 ·split
  ·exact yq true c
  ·split
   ·exact yq true c
   ·exact yq true c
theorem Cl.xu{F:jc×Bool}(h:Cl S F.1):Cl S (Go.Proofs.YtnipbplghijdmaaGreatDoor.xu F).1:=by
 unfold Go.Proofs.YtnipbplghijdmaaGreatDoor.xu
 split
 ·exact h.trans (Cl.dir _)
 ·exact h
theorem Cl.sure:∀(ns:List Str) (S:jc),Cl S (jc.xx ns S).1
 | [],S=>Cl.dir S
 | n::r,S=>by
  unfold jc.xx
  split
  ·exact(Cl.sync S n).trans (Cl.sure r _)
  ·exact Cl.sync S n
theorem Cl.Yi:∀(ns:List Str) (S:jc),Cl S (jc.yf ns S).1
 | [],S=>id
 | n::r,S=>by
  unfold jc.yf
  split
  ·exact(Cl.remove S n).trans (Cl.Yi r _)
  ·exact Cl.remove S n
theorem Cl.removeAll(ns:List Str)(S:jc):Cl S (jc.jr ns S).1:=by
 unfold jc.jr
 split
 ·exact id
 ·exact Cl.xu (Cl.Yi ns S)
theorem Cl.clear(ns:List Str)(S:jc):Cl S (jc.zl ns S).1:=by
 unfold jc.zl
 split
 ·exact yq false
 ·exact fun c=>Cl.removeAll _ _ (yq false c)
def J2(R:DStep):Prop:=∀ S S' ok,R S S' ok->Cl S S'
theorem J2.fn{f:jc->jc×Bool}(h:∀ S,Cl S (f S).1):J2 (Fn f):=fun S S' ok r=>by
 have:=h S
 rw[show f S=(S',ok)from r] at this
 exact this
theorem J2.app(n:Str)(b:List UInt8):J2 (Kp n b):=fun S S' ok r c=>by
 obtain⟨f,a,_,_,⟨_,rfl,_⟩|⟨_,_,rfl,_⟩⟩:=r
 ·exact yq true c
 ·exact yq true c
theorem J2.cre(n:Str):J2 (Lt n):=fun S S' ok r c=>by
 rcases r with⟨_,rfl,_⟩|⟨_,_,f,_,rfl⟩
 ·exact yq true c
 ·exact yq true c
theorem J2.turn:∀ {l:List DStep},(∀ r∈l,J2 r)->J2 (nj l)
 | [],_=>fun S S' ok r=>by
  obtain⟨rfl,_⟩:=r
  exact id
 | x::l,h=>fun S S' ok r=>by
  have ih:=J2.turn (fun r hr=>h r (zQ _ hr))
  have b:=h x (zR ..)
  rcases r with⟨r,_⟩|⟨f,d,c⟩
  ·exact b _ _ _ r
  ·exact(b _ _ _ d).trans (ih _ _ _ c)
theorem J2.lay(n:Str)(b:List UInt8):J2 (Xp n b):=by
 unfold Xp
 split
 ·exact J2.cre n
 ·exact J2.turn (fun r hr=>by
   simp only[zF,XJ,or_false] at hr
   rcases hr with rfl|rfl
   ·exact J2.cre n
   ·exact J2.app n b)
theorem J2.install(m:Rf.Man):J2 (yt m):=J2.turn (fun r hr=>by
 simp only[zF,XJ,or_false] at hr
 rcases hr with rfl|rfl|rfl|rfl
 ·exact J2.fn (Cl.sure _)
 ·exact J2.lay _ _
 ·exact J2.fn (fun S=>Cl.sync S _)
 ·exact J2.fn (fun S=>Cl.xu (Cl.rename S _ _)))
theorem J2.flush(m:Rf.Man)(last:Nat)(l:List Rf.Ch):J2 (r8 m last l):=J2.turn (fun r hr=>by
 simp only[zF,XJ,or_false] at hr
 rcases hr with rfl|rfl|rfl|rfl
 ·exact J2.fn (fun S=>Cl.sync S _)
 ·exact J2.lay _ _
 ·exact J2.lay _ _
 ·exact J2.install _)
theorem J2.j8(m:Rf.Man)(l:List Rf.Ch):J2 (Qk m l):=by
 unfold Qk
 split
 ·exact J2.install _
 ·exact J2.turn (fun r hr=>by
   simp only[zF,XJ,or_false] at hr
   rcases hr with rfl|rfl|rfl
   ·exact J2.fn (fun S=>Cl.sync S _)
   ·exact J2.lay _ _
   ·exact J2.install _)
theorem J2.renew(m:Rf.Man)(b:List UInt8):J2 (Bt m b):=J2.turn (fun r hr=>by
 simp only[zF,XJ,or_false] at hr
 rcases hr with rfl|rfl
 ·exact J2.lay _ _
 ·exact J2.install _)
theorem Xn.cut{R:DStep}{m:Rf.Man}{l g:jc->Prop}(h:Xn S R m l g)(j:J2 R):Xn S R m (fun T=>l T/\Cl S T) (fun T=>g T/\Cl S T):=by
 obtain⟨i,d,⟨a,b⟩|⟨k,f,r,⟨a,b⟩|⟨a,⟨b,c⟩|⟨b,c⟩⟩⟩⟩:=h
 ·exact⟨i,d,.inl ⟨a,b,d.cut⟩⟩
 ·exact⟨i,d,.inr ⟨k,f,r,.inl ⟨a,b,fun t=>j _ _ _ r (d.cut t)⟩⟩⟩
 ·exact⟨i,d,.inr ⟨k,f,r,.inr ⟨a,.inl ⟨b,c,fun t=>Cl.clear _ _ (j _ _ _ r (d.cut t))⟩⟩⟩⟩
 ·exact⟨i,d,.inr ⟨k,f,r,.inr ⟨a,.inr ⟨b,c,fun t=>Cl.clear _ _ (j _ _ _ r (d.cut t))⟩⟩⟩⟩
end Go.Proofs.YtnipbplghijdmaaGreatDoor
namespace Go.Proofs.YtnipbplghijdmaaGreatDoor
open RowKit Maps WideShapes Go.Proofs.Tryz
theorem Mc(l b:List Rf.Ch)(c:Rf.Ch):Rf.over l (b++[c])=Rf.put (Rf.over l b) c:=by simp[Rf.over,XM]
def Zt(ls:List (List Rf.Ch)):Nat:=(ls.map List.length).sum
theorem Hk(bs:List (List Rf.Ch)):(Rf.memory bs).length<=Zt bs:=by
 have H:∀(bs:List (List Rf.Ch)) (l:List Rf.Ch),Rf.jw l->(bs.foldl Rf.over l).length<=l.length+Zt bs:=by
  intro bs
  induction bs with
  | nil=>intro l _;simp[Zt]
  | cons b r ih =>
   intro l c;have g:=ih (Rf.over l b) (Rf.ym c);have f:=(Rf.gw (more:=b) c).1;have d:Zt (b::r)=b.length+Zt r:=by simp[Zt]
   rw[XN];omega
 have:=H bs [] List.Pairwise.nil;simpa [Rf.memory] using this
theorem vn(ls:List (List Rf.Ch)):(Rf.merged ls).length<=Zt ls:=Rf.Li ls
end Go.Proofs.YtnipbplghijdmaaGreatDoor
namespace Go.Proofs.YtnipbplghijdmaaGreatDoor.Rf
open Go.Proofs.Tryz
variable {l:List Ch}
def sg(l:List Ch):Nat:=(l.flatMap entry).length
theorem Y7(c:Ch)(l:List Ch):sg (c::l)=(entry c).length+sg l:=by simp[sg]
theorem L7(a b:List Ch):sg (a++b)=sg a+sg b:=by simp[sg]
theorem jgs(c:Ch)(l:List Ch):sg (ins c l)<=(entry c).length+sg l:=by
 induction l with
 | nil=>simp[ins,sg]
 | cons x r ih =>
  unfold ins
  split
  ·rw[Y7];exact zJ _
  ·split
   ·rw[Y7,Y7];omega
   ·rw[Y7,Y7];omega
theorem Wx(h:jw l)(b:List Ch):sg (over l b)<=sg l+sg b:=by
 induction b generalizing l with
 | nil=>exact Nat.le_add_right _ _
 | cons c r ih =>
  have d:over l (c::r)=over (put l c) r:=rfl;rw[d,X3 h,Y7];have g:=ih (Jq (c:=c) h);have f:=jgs c l;omega
def sgs(bs:List (List Ch)):Nat:=(bs.map sg).sum
theorem pd(b:List Ch)(bs:List (List Ch)):sgs (b::bs)=sg b+sgs bs:=by simp[sgs]
theorem jcv(h:jw l)(bs:List (List Ch)):sg (bs.foldl over l)<=sg l+sgs bs:=by
 induction bs generalizing l with
 | nil=>exact Nat.le_add_right _ _
 | cons b r ih =>
  rw[XN,pd];have d:=ih (ym (more:=b) h);have c:=Wx h b;omega
theorem ja3(bs:List (List Ch)):sg (memory bs)<=sgs bs:=by
 have:=jcv (l:=[]) List.Pairwise.nil bs;simpa [memory,sg] using this
theorem ja2(ls:List (List Ch)):sg (merged ls)<=sgs ls:=by
 induction ls with
 | nil=>exact zJ _
 | cons l r ih =>
  rw[Xv,pd];have:=Wx (yr r) l;omega
theorem jcu(l:List Ch):sg (there l)<=sg l:=by
 induction l with
 | nil=>exact zJ _
 | cons c r ih =>
  unfold there at ih ⊢;by_cases h:c.gone=true
  ·rw[XV (by simp[h]),Y7];omega
  ·rw[XW (by simpa using h),Y7,Y7];omega
theorem Mn(c:Ch):c.key.length+2<=(entry c).length:=by
 unfold entry text
 split
 ·simp only[zH,zW,js];omega
 ·simp only[zH,zW,js];omega
theorem De{c:Ch}(h:allowed c=true):1<=c.key.length/\c.key.length<=16:=by
 unfold allowed at h;simp only[ZU,decide_eq_true_eq] at h;exact⟨h.1.1.1,h.1.1.2⟩
theorem Uj(h:∀ c∈l,allowed c=true):3*l.length<=sg l:=by
 induction l with
 | nil=>exact zJ _
 | cons c r ih =>
  have f:=ih (fun x hx=>h x (zQ _ hx));have d:=Mn c;have b:=(De (h c zR)).1;rw[Y7,zH];omega
theorem Lc(h:∀ c∈l,allowed c=true)(m:Nat)(f:4*m<=l.length):(zi l m).length+6*m<=sg (l.take (4*m)):=by
 induction m with
 | zero=>simp[zi,j2]
 | succ m ih =>
  have j:=ih (by omega);rw[ak l m (by omega)]
  have e:l.take (4*(m+1))=l.take (4*m)++(l.drop (4*m)).take 4:=by
   rw[show 4*(m+1)=4*m+4 by omega,List.take_add]
  rw[e,L7];have d:((l.drop (4*m)).take 4).length=4:=by rw[zK,XQ];omega
  have b:∀ c∈(l.drop (4*m)).take 4,allowed c=true:=fun c hc=>h c (XX (zM hc));generalize hB:(l.drop (4*m)).take 4=B at d b ⊢
  match B,d with
  | c::r,d =>
   have i:=Uj (l:=r) (fun x hx=>b x (zQ _ hx));have g:=Mn c;rw[zH] at d;rw[Y7];show((zi l m++big (ze l m).length 4)++text c.key).length+6*(m+1)<=_;unfold text;simp only[zW,js];omega
theorem jfe(l:List Ch)(n:Nat):sg (l.take n)<=sg l:=by
 have:=L7 (l.take n) (l.drop n);rw[xQ] at this;omega
theorem ra(h:∀ c∈l,allowed c=true):4*(j7 l).length<=9*sg l+176/\sg l<=(j7 l).length:=by
 rw[pz];have j:=Lp l ((l.length+3)/4) (by omega);rw[xF (by omega)] at j;have m:(l.flatMap entry).length=sg l:=rfl;have o:=Uj h
 have i:(zi l ((l.length+3)/4)).length<=sg l+21-6*(l.length/4)/\6*(l.length/4)<=sg l/\((l.length+3)/4=l.length/4->(zi l ((l.length+3)/4)).length<=sg l-6*(l.length/4)):=by
  have k:=Lc h (l.length/4) (by omega);have g:=jfe l (4*(l.length/4));refine⟨?_,by omega,fun e=>by rw[e];omega⟩;by_cases hc:4*(l.length/4)<l.length
  ·have e:(l.length+3)/4=l.length/4+1:=by omega
   rw[e,ak l _ hc]
   have n:(Jo ((l.drop (4*(l.length/4))).take 4)).length<=16:=by
    obtain⟨c,f,d⟩:=Zj (b:=(l.drop (4*(l.length/4))).take 4) (by rw[zK,XQ];omega);rw[d];exact(De (h c (XX (zM f)))).2
   unfold text;simp only[zW,js];omega
  ·have e:(l.length+3)/4=l.length/4:=by omega
   rw[e];omega
 obtain⟨i,k,g⟩:=i;simp only[zW,js,frame];rw[m] at j;by_cases hc:(l.length+3)/4=l.length/4
 ·have:=g hc
  omega
 ·omega
theorem gv(last:Nat)(bs:List (List Ch)):(jk last bs).length=sgs bs+17*bs.length:=by
 induction bs generalizing last with
 | nil=>simp[jk,sgs]
 | cons b r ih =>
  have e:jk last (b::r)=jm (last+1) b++jk (last+1) r:=by simp[jk,jm]
  have g:=ih (last+1);have f:=Lq (last+1) b;have d:=jae b;have c:(b.flatMap entry).length=sg b:=rfl;rw[e,zW,pd,zH];omega
theorem Ho{ls:List (List Ch)}(h:∀ l∈ls,∀ c∈l,allowed c=true):3*Zt ls<=sgs ls:=by
 induction ls with
 | nil=>simp[Zt,sgs]
 | cons l r ih =>
  have f:=ih (fun x hx=>h x (zQ _ hx));have d:=Uj (h l zR);have b:Zt (l::r)=l.length+Zt r:=by simp[Zt]
  rw[b,pd];omega
end Go.Proofs.YtnipbplghijdmaaGreatDoor.Rf
namespace Go.Proofs.YtnipbplghijdmaaGreatDoor
open Go.Proofs.Tryz
variable {s:Rf.St}
theorem ig:∀(ns:List Nat) (ls:List (List Rf.Ch)),ls.length=ns.length->(∀ l∈ls,∀ c∈l,Rf.allowed c=true)->Rf.sgs ls<=qu (qq ns ls)
 | [],[],_,_=>by simp[qq,qu,Rf.sgs]
 | n::r,l::q,hl,h=>by
  have h1:=ig r q (by simpa using hl) (fun x hx=>h x (zQ _ hx))
  have b:=(Rf.ra (h l zR)).2
  have e:qq (n::r) (l::q)=(jo n,Rf.j7 l)::qq r q:=rfl
  rw[e,zx,Rf.pd]
  show Rf.sg l+Rf.sgs q<=(Rf.j7 l).length+_
  omega
theorem Ys(s:Rf.St):qu s.files=s.m.bytes.length+((Rf.jk s.m.last s.bs).length+qu (qq s.m.settled s.bls)):=by
 unfold Rf.St.files;rw[zx,zx]
structure Fits(n:Nat)(s:Rf.St):Prop where
 ok:s.Ok
 size:qu s.files<=20000
 last:s.last<=n
 next:1<=s.m.next/\s.m.next<=2+2*n
structure Bnd(s:Rf.St):Prop where
 lens:Zt s.bs+Zt s.bls<20000
 bs:s.bs.length<20000
 bls:s.bls.length<20000
 runs:s.m.runs.length<20000
 mem:s.mem.length<20000
 all:s.all.length<20000
 mrg:(Rf.merged s.bls).length<20000
 live:s.live.length<20000
theorem ft(h:s.Ok):(∀ b∈s.bs,∀ c∈b,Rf.allowed c=true)/\∀ l∈s.bls,∀ c∈l,Rf.allowed c=true:=⟨fun b hb=>((Rf.Ji b).1 (h.log b hb)).2.2,fun l hl=>(h.bl l hl).allowed⟩
theorem Fits.bnd{n:Nat}(h:Fits n s):Bnd s:=by
 have c:=h.size;rw[Ys,ql,Rf.gv] at c;obtain⟨d,b⟩:=ft h.ok;have r:=ig s.m.settled s.bls h.ok.len b;have q:=Rf.Ho d;have p:=Rf.Ho b;have o:=h.ok.len;have l:=Na s.m;have k:s.mem.length<=Zt s.bs:=Hk s.bs;have j:s.all.length<=Zt (s.mem::s.bls):=vn _;have i:Zt (s.mem::s.bls)=s.mem.length+Zt s.bls:=by simp[Zt]
 have g:(Rf.merged s.bls).length<=Zt s.bls:=vn _;have f:s.live.length<=(Rf.merged s.bls).length:=ZT _ _;exact⟨by omega,by omega,by omega,by omega,by omega,by omega,by omega,by omega⟩
end Go.Proofs.YtnipbplghijdmaaGreatDoor
namespace Go.Proofs.YtnipbplghijdmaaGreatDoor
open RowKit Maps WideShapes Go.Proofs.Tryz
theorem je9{E:Nat->Addr}{B:Nat}{w:World}{ρ:Nat->j3}{d b k:Nat}{SD:jc}{m:Rf.Man}{last:Nat}{mem:List Rf.Ch}{rv V:Value}(S:StM E B w ρ d b SD k m last mem false rv V)(hk:k<540000000000)(ev:Value)(j:List Rf.Ch)(N:Rf.zq j=true)(A:Chs w ev j)(a0:∀ p n c,ev = .slice (some p) n c->¬StF ρ b V p.block)(I:last<1000000000)(Z:mem.length+8<60000)(ad:∃ f a,SD.at (jh m.log)=some f/\SD.files f=some a) :
 Calls prog 24 #[.pointer (some ⟨b,0,none⟩),ev] w fun e w'=>∃ S' ok,Kp (jh m.log) (Rf.jm (last+1) j) SD S' ok /\
  ((ok=true/\e = .returned (.int .i64 0)/\y8 E B w ρ d b rv V S' (k+(Rf.jm (last+1) j).length) m (last+1) (Rf.over mem j) false w') \/
   (ok=false/\e = .returned (.int .i64 1)/\y8 E B w ρ d b rv V S' (k+(Rf.jm (last+1) j).length) m last mem true w')):=by
 obtain⟨h1,h8,u⟩:=(Rf.Ji j).1 N;have au:∀ c∈j,c.key.length<1048576/\c.value.length<1048576:=fun c hc=>by have:=(Rf.Jk c).1 (u c hc);omega
 have F:∀ c∈j,c.key.length<1099511627776/\c.value.length<1099511627776:=fun c hc=>by have:=(Rf.Jk c).1 (u c hc);omega
 have ae:=Cc ev j w A (by omega) F;rw[N] at ae;have ag:=S.y7.log;have bl:=S.y7.1;have O:m.log<=9223372036854775807:=by omega
 have G:=Xl O
 have ac:(Rf.jm (last+1) j).length<600/\0<(Rf.jm (last+1) j).length:=by
  have hf:=Rf.Y3 u;have e:(Rf.jm (last+1) j).length=17+(j.flatMap Rf.entry).length:=by simp only[Rf.jm,Rf.frame,zW,Rf.js];omega
  omega
 obtain⟨pe,ce,rfl,_⟩:=id A;obtain⟨lo,x⟩:∃ lo,lo=m.log:=⟨_,rfl⟩;have s:=S.row;unfold ah at s;rw[<-x] at s;rw[<-x] at O G ad ⊢;obtain⟨y,U⟩:∃ y,y=Rf.jm (last+1) j:=⟨_,rfl⟩;rw[<-U] at ac ⊢;have Y:∀ W,ja w W (fun _=>False)->Calls prog 63 #[j6 lo] W fun e w'=>e = .returned (jf (jh lo))/\ja W w' (fun _=>False):=fun W k=>Qs lo O (S.env.same k)
 have a7:∀ W,ja w W (fun _=>False)->Calls prog 64 #[.int .i64 ((last:Int)+1),.slice pe j.length ce] W fun e w'=>∃ p c,e = .returned (.slice p y.length c)/\w'.ownsRow W.heap.size 5 1 (.slice p y.length c) y.length (y.map j5)/\ja W w' (fun _=>False):=fun W k=>by
  have:=jcd (last+1) (.slice pe j.length ce) j W (by omega) (by omega) au (A.same k);rw[<-U] at this;simpa using this
 have a8:∀(W:World) (v:Value),ja w W (fun _=>False)->W.ownsRow w.heap.size 5 1 v y.length (y.map j5)->Calls prog 62 #[.pointer (some ⟨d,0,none⟩),jf (jh lo),v] W fun e w'=>∃ cc,e = .returned (.int .i64 cc)/\∃ S' ok ρ',Hid (Kp (jh lo) y SD S' ok)/\x7 w ρ w' ρ'/\Dk E B w' ρ' d S'/\Hid ((ok=true/\cc=(0:Int))\/(ok=false/\cc=1)):=fun W v kk hr=>by
  obtain⟨f,a,hA,ha⟩:=ad;refine(jeq (S.xi.same kk) S.fit (by omega) (jh lo) G hA ha v y ac.2 (by omega) (xr hr) (Nt (fun i hi=>S.xi.rep.lt i hi) hr)).mono ?_;rintro e w' ⟨S',ok,ρ',cc,rfl,r,g,D',hc⟩;exact⟨cc,rfl,S',ok,ρ',r,(x7.of kk (fun _ _ h=>h.elim)).trans g,D',hc⟩
 have ck:=jb U;have bs:=jb ae;have b2:=jb Y;have b3:=jb a7;have b4:=jb a8;have HB:=jb s;have b1:=jb x;have d2:=zA (o:=6) s;simp at d2;have hd:decide ((1000000000:Int)<=(last:Int))=false:=by rw[decide_eq_false_iff_not];omega
 have az:(last:Int)<1000000000:=by omega
 have hw:IntKind.i64.wrap ((last:Int)+1)=(last:Int)+1:=zE (by omega) (by omega);have bq:=jb A;have c5:=jb u;have bn:=jb F;have H8:=jb h8;have aa:=jb Z;have c4:=jb N;have H:=jb a0;have bp:=jb I;clear U ae Y a7 a8 s ac N h1 h8 u au F I hk G O x ad ag bl A Z a0;go_enter func24,ntmps24;go_wp2_with fail;refine(Qb HB.out).mono ?_;rintro e w0 ⟨rfl,rfl⟩;rw[show Xt false false=0 from rfl];go_wp2_with fail;refine bs.out.mono ?_;rintro e w1 ⟨rfl,k1⟩;have T:=k1.same HB.out id;have c0:=zA (o:=0) T;have c3:=zA (o:=3) T;have c6:=zA (o:=6) T;simp at c0 c3 c6;clear T;have J:ja w0 w1.drew (fun _=>False):=k1.draw;go_wp2_with fail
 go_region_law (first
  | (refine jx rfl 63 [.tmp 27] _ rfl Jv [.int .i64 lo] (by simp[Act.eval,Act.put]) (b2.out _ J) ?_
     rintro e w2 ⟨rfl,k2⟩
     have J:=J.tt k2
     try have z:=k2.row z (fun _ _ h=>h)
     have l:=J.same HB.out id
     have c0:=zA (o:=0) l
     have c3:=zA (o:=3) l
     have c6:=zA (o:=6) l
     simp at c0 c3 c6
     clear l
     refine⟨_,rfl,?_⟩)
  | (refine jx rfl 64 [.tmp 33,.tmp 34] _ rfl Tf [.int .i64 ((last:Int)+1),.slice pe j.length ce] (by simp[Act.eval,Act.put]) (b3.out _ J) ?_
     rintro e w2 ⟨pb,cb,rfl,z,k2⟩
     have z:=xd z J.size
     have J:=J.tt k2
     have l:=J.same HB.out id
     have c0:=zA (o:=0) l
     have c3:=zA (o:=3) l
     have c6:=zA (o:=6) l
     simp at c0 c3 c6
     clear l
     refine⟨_,rfl,?_⟩)
  | (refine jx rfl 62 [.tmp 22,.tmp 28,.tmp 35] _ rfl Ln [.pointer (some ⟨d,0,none⟩),jf (jh lo),.slice pb y.length cb] (by simp[Act.eval,Act.put]) (b4.out _ _ J z) ?_
     rintro e w3 ⟨cc,rfl,bm⟩
     refine⟨_,rfl,?_⟩))
 all_goals
  obtain⟨S',ok,ρ3,r3,q,M,hc⟩:=bm;have F3:=S.fit.jhf r3.out;have b0:=r3;clear r3;rcases hc.out with⟨rfl,rfl⟩|⟨rfl,rfl⟩
  rotate_left
  ·have R:=q.keeps.same HB.out (fun t=>t S.nb.1)
   clear hd az hw d2;go_wp2_with fail;refine(gx R).mono ?_;rintro e w4 ⟨rfl,C,L⟩;go_wp2;go_ret;have kT:ja w0 w4 (fun i=>ρ i≠ .none\/i=b):=(q.keeps.mono (fun i _ h=> .inl h)).trans L (fun i hi h=> .inr h);have D4:Dk E B w4 ρ3 d S':=⟨M.rep.keep L (fun i e _=>by rw[e,q.role b S.blt];exact S.nb.1),M.z8.keep L (fun i e=>by rw[e];exact S.nb.2),M.yz,ZI M.size L.size⟩;refine⟨S',false,b0.out,.inr ⟨rfl,rfl,S.next kT q.role D4 F3 ?_⟩⟩;rw[b1.out] at C;exact C
  have R:=q.keeps.same HB.out (fun t=>t S.nb.1);have aw:=q.keeps.row S.mem (fun g X t=>t (S.nm g X).1);have a6:Chs w3 (.slice pe j.length ce) j:=bq.out.keep q.keeps (fun _ p n c e t=>H.out p n c e (.inl t))
  have a9:=Mt b (.pointer (some ⟨d,0,none⟩)) (jg m.next) (jg m.last) (j6 lo) (jg m.base) rv (.bool false) (.bool false) last 121 V (.slice pe j.length ce) mem j B w3 R aw (fun e=>(S.nm b e).2 rfl) S.rising
   (by have:=aa.out;have:=H8.out;omega) (by have:=bp.out;omega) a6 bn.out (ZI S.xi.size q.keeps.size) (fun _ p n c e=>⟨fun t=>H.out p n c e (.inr (.inl t)),fun t=>H.out p n c e (.inr (.inr t))⟩)
  have b5:=jb a9;clear a9 R aw a6 hd az hw d2;go_wp2_with fail;refine b5.out.mono ?_;rintro e w4 ⟨rfl,v4,C,av,cj,bk,L⟩;have br:=jb C;have bo:=jb av;clear C av;go_wp2;go_ret
  have kT:ja w0 w4 (StF ρ b V):=(q.keeps.mono (fun i _ h=> .inl h)).trans L (fun i hi h=>by
   rcases h with h|h
   ·exact .inr (.inl h)
   ·exact .inr (.inr h.symm))
  have D:∀ g,v4.ownBlock=some g->V.ownBlock=some g\/w3.heap.size<=g:=fun g X=>by
   rcases bk with e|⟨g',e,h⟩
   ·exact .inl (e▸X)
   ·rw[X] at e;cases e;exact .inr h
  have ax:∀ i,i<w3.heap.size->i=b\/some i=V.ownBlock->ρ3 i = .none/\B<=i:=fun i hi h=>by
   rcases h with h|h
   ·rw[h,q.role b S.blt];exact S.nb
   ·have h':=S.mem.lt i h.symm
    rw[q.role i h'.2];exact⟨(S.nm i h.symm).1,h'.1⟩
  have af:=Rf.gw S.rising (more:=j);have D4:Dk E B w4 ρ3 d S':=⟨M.rep.keep L (fun i e hi=>(ax i hi e).1),M.z8.keep (L.mono (fun i hi e=>(show B<=i from(ax i hi e).2))) (fun i h=>h),M.yz,ZI M.size L.size⟩;refine⟨S',true,b0.out,.inl ⟨rfl,rfl,ρ3,rv,v4,⟨S.env.keep (kT.mono (fun i hi h=>(show B<=i from(S.old h).1))) (fun i h=>h),D4,F3,?_,S.runs.keep kT ?_,bo.out,?_,?_,?_,S.y7,Rf.ym S.rising,?_,S.ay⟩,kT,q.role,fun g X=>?_,fun p n c e=> .inl ⟨n,c,e⟩⟩⟩
  ·show _=some (Obj.cells (ah d m rv (last+1) v4 false) _ _)
   unfold ah;rw[<-b1.out];exact br.out
  ·intro _ p n c e t
   obtain⟨a1,a2,a3,a4,a5⟩:=S.nr p n c e;rcases t with t|t|t
   ·exact t a1
   ·exact a2 t
   ·exact a4 t
  ·rw[q.role b S.blt];exact S.nb
  ·intro p n c e
   obtain⟨a1,a2,a3,a4,a5⟩:=S.nr p n c e;refine⟨by rw[q.role _ a5];exact a1,a2,a3,fun t=>?_,ZH a5 kT.size⟩;rcases D _ t with t|t
   ·exact a4 t
   ·have:=q.keeps.size
    omega
  ·intro g X
   rcases D g X with t|t
   ·rw[q.role g (S.mem.lt g t).2]
    exact S.nm g t
   ·refine⟨yE (fun hn=>?_),fun e=>?_⟩
    ·have:=M.rep.lt g hn
     omega
    ·have:=S.blt
     have:=q.keeps.size;omega
  ·have:=aa.out
   have:=H8.out;have:=af.1;omega
  ·rcases D g X with t|t
   ·exact .inl t
   ·exact .inr (ZI q.keeps.size t)
end Go.Proofs.YtnipbplghijdmaaGreatDoor
namespace Go.Proofs.YtnipbplghijdmaaGreatDoor
open RowKit Maps WideShapes Go.Proofs.Tryz
def Qu(E:Nat->Addr)(B:Nat)(w:World)(d b:Nat)(S:jc)(k:Nat)(s:Rf.St)(deg:Bool)(F:Nat->Prop):Prop :=
 ∃ ρ rv mv,StM E B w ρ d b S k s.m s.last s.mem deg rv mv/\∀ i,F i↔(StF ρ b mv i\/∃ p n c,rv = .slice (some p) n c/\p.block=i)
def qg(E:Nat->Addr)(B:Nat)(w:World)(d b:Nat)(S:jc)(k:Nat)(s:Rf.St)(deg:Bool)(F:Nat->Prop)(w':World):Prop :=
 ∃ F',Qu E B w' d b S k s deg F'/\ja w w' F/\∀ i,F' i->F i\/w.heap.size<=i
variable {E:Nat->Addr} {B:Nat} {w w':World} {d b k U:Nat} {S S':jc} {s:Rf.St} {deg:Bool} {F:Nat->Prop} {Q R:Want}
theorem Qu.old(h:Qu E B w d b S k s deg F){i:Nat}(f:F i):B<=i/\i<w.heap.size:=by
 obtain⟨ρ,rv,m,T,g⟩:=h;rcases(g i).1 f with t|⟨p,n,c,e,rfl⟩
 ·exact T.old t
 ·obtain⟨r,q,l,o,j⟩:=T.nr p n c e
  exact⟨l,j⟩
theorem Qu.keep(h:Qu E B w d b S k s deg F){T:Nat->Prop}(m:ja w w' T)(g:∀ i,i<w.heap.size->T i->B<=i/\¬F i):Qu E B w' d b S k s deg F:=by
 obtain⟨ρ,rv,l,M,j⟩:=h;exact⟨ρ,rv,l,M.keep m (fun i hi t=>⟨(g i hi t).1,fun f=>(g i hi t).2 ((j i).2 (.inl f)),fun p n c e e2=>(g i hi t).2 ((j i).2 (.inr ⟨p,n,c,e,e2.symm⟩))⟩),j⟩
theorem Qu.same(h:Qu E B w d b S k s deg F)(c:ja w w' (fun _=>False)):Qu E B w' d b S k s deg F:=h.keep c (fun _ _ h=>h.elim)
theorem Qu.fit(h:Qu E B w d b S k s deg F){j:Nat}(f:Fit j S):Qu E B w d b S j s deg F:=by
 obtain⟨ρ,rv,c,T,g⟩:=h;exact⟨ρ,rv,c,⟨T.env,T.xi,f,T.row,T.runs,T.mem,T.nb,T.nr,T.nm,T.y7,T.rising,T.few,T.ay⟩,g⟩
theorem Qu.env(h:Qu E B w d b S k s deg F):Env E B w:=by
 obtain⟨ρ,rv,c,T,f⟩:=h;exact T.env
theorem Qu.xi(h:Qu E B w d b S k s deg F):∃ ρ,Dk E B w ρ d S/\Fit k S/\∀ i,ρ i≠ .none->F i:=by
 obtain⟨ρ,rv,f,T,c⟩:=h;exact⟨ρ,T.xi,T.fit,fun i hi=>(c i).2 (.inl (.inl hi))⟩
theorem qg.of{ρ:Nat->j3}{rv l:Value}{s':Rf.St}{k':Nat}{f:Bool}(T:StM E B w ρ d b S k s.m s.last s.mem deg rv l)(v:∀ i,F i↔(StF ρ b l i\/∃ p n c,rv = .slice (some p) n c/\p.block=i))(h:y8 E B w ρ d b rv l S' k' s'.m s'.last s'.mem f w'):qg E B w d b S' k' s' f F w':=by
 obtain⟨u,g,j,D,y,z,A,o⟩:=h;refine⟨fun i=>StF u b j i\/∃ p n c,g = .slice (some p) n c/\p.block=i,⟨u,g,j,D,fun _=>Iff.rfl⟩,y.mono (fun i _ t=>(v i).2 (.inl t)),fun i hi=>?_⟩;rcases zV i w.heap.size with q|r
 ·refine .inl ((v i).2 ?_)
  rcases hi with(t|t|t)|⟨p,n,c,e,rfl⟩
  ·exact .inl (.inl (by rw[<-z i q];exact t))
  ·exact .inl (.inr (.inl t))
  ·rcases A i t with t|t
   ·exact .inl (.inr (.inr t))
   ·omega
  ·rcases o p n c e with⟨x,C,t⟩|t
   ·exact .inr ⟨p,x,C,t,rfl⟩
   ·omega
 ·exact .inr r
theorem qg.fit{s':Rf.St}{k' j:Nat}{c:Bool}(h:qg E B w d b S' k' s' c F w')(f:Fit j S'):qg E B w d b S' j s' c F w':=by
 obtain⟨l,k,i,g⟩:=h;exact⟨l,k.fit f,i,g⟩
theorem Norm.fit(h:Norm S U s Q)(b:U<=60000):Fit 60000 S:=h.pow.fit h.late b
theorem E5{α:Type}(f:α->Nat):∀ {l m:List α},l.Nodup->(∀ x∈l,x∈m)->(l.map f).sum<=(m.map f).sum
 | [],_,_,_=>by simp
 | x::r,m,hd,hs=>by
  obtain⟨a,c,rfl⟩:=List.append_of_mem (hs x zR)
  have b:=XE.1 hd
  have ih:=E5 f (l:=r) (m:=a++c) b.2 (fun y hy=>by
   have:=hs y (zQ _ hy)
   rcases ZA.1 this with t|t
   ·exact ZB _ t
   ·rcases zF.1 t with t|t
    ·rw[t] at hy;exact absurd hy b.1
    ·exact zY _ t)
  simp only[zP,List.sum_cons,xP,List.sum_append] at ih ⊢
  omega
theorem Norm.qu(h:Norm S U s Q):qu s.files<=total S.files S.names:=by
 obtain⟨T,l,m⟩:=h.pow.cur;have i:View S (Qm S.files T):=⟨T,l.fs,List.Perm.refl _⟩;rw[i.total];unfold Go.Proofs.YtnipbplghijdmaaGreatDoor.qu;refine E5 _ ?_ (fun p j=>?_)
 ·refine List.Pairwise.imp ?_ h.ok.apart
  intro a c k e;exact k (by rw[e])
 ·rcases Z5.1 j with rfl|rfl|j
  ·obtain⟨f,a,g,d,b⟩:=h.pow.held.1
   have:=i.of g d;rwa [b.bytes] at this
  ·obtain⟨f,a,g,d,b⟩:=h.tq
   have:=i.of g d;rwa [b.1] at this
  ·obtain⟨f,a,g,d,b⟩:=h.Q5 p j
   have:=i.of g d;rwa [b.bytes] at this
theorem Rc(l:List Rf.Ch):14<=(Rf.j7 l).length:=by
 simp only[Rf.j7,Rf.zz,Rf.frame,zW,Rf.js];omega
theorem vh:∀(ns:List Nat) (ls:List (List Rf.Ch)),ls.length=ns.length->14*ns.length<=Go.Proofs.YtnipbplghijdmaaGreatDoor.qu (qq ns ls)
 | [],ls,_=>zG _
 | n::r,[],h=>by cases h
 | n::r,l::q,h=>by
  have ih:=vh r q (by simpa using h)
  have e:qq (n::r) (l::q)=(jo n,Rf.j7 l)::qq r q:=rfl
  have:=Rc l
  rw[e,zx,zH]
  simp only
  omega
theorem jbe{α:Type}[DecidableEq α]{l m:List α}(c:l.Nodup)(b:∀ x∈l,x∈m):l.length<=m.length:=by
 have:=E5 (fun _=>1) c b
 have e:∀ l:List α,(l.map (fun _=>1)).sum=l.length:=fun l=>by induction l with
  | nil=>rfl
  | cons x r ih=>simp[ih];omega
 rw[e,e] at this;exact this
theorem Norm.reset(h:Norm S U s Q)(A:total S.files S.names<=5000):Norm S 5400 s Q:=by
 have o:=h.qu;rw[Ys] at o;have B:=vh s.m.settled s.bls h.ok.len;obtain⟨T,b,k⟩:=h.pow.cur
 have t:T.length<=(ju s.m).length:=by
  have:=jbe (l:=T.map Prod.fst) (m:=ju s.m) (xS.2 b.X2.apart) (fun n hn=>by
   obtain⟨p,c,rfl⟩:=zS.1 hn
   exact h.only p.1 p.2 (b.fs.at.2 c))
  rwa [zL] at this
 have C:(ju s.m).length=s.m.settled.length+2:=by unfold ju jt;simp
 have z:Zv S.files T=total S.files S.names+T.length:=by
  rw[b.X2.total];have g:=b.files;clear t b k
  induction T with
  | nil=>rfl
  | cons x r ih =>
   rw[Qj,ih (fun p c=>g p (zQ _ c)),zP,List.sum_cons,zH];obtain⟨a,j⟩:=g x zR;have y:(xm S.files x.2).length=a.bytes.length:=by unfold xm;rw[j];rfl
   have v:(S.files x.2).elim 0 (fun a=>a.bytes.length)=a.bytes.length:=by rw[j];rfl
   rw[y,v];omega
 have q:Zv S.files T<=5400:=by omega
 have u:Names S.names S.files 5400 T:=⟨b.X2,b.files,b.apart,q,b.short⟩;have f:=h.pow.tied;rw[h.late] at f;have d:S.names=S.safe:=f;have i:Qw S.files 5400 s.m s.bls Q S.names:=⟨T,u,k⟩;exact⟨⟨h.pow.tied,h.pow.wf,h.pow.small,by rw[h.late];show Mz _ _ _ S.safe;rw[<-d];exact⟨_,_,i⟩,i⟩,h.late,h.log,h.now,h.ok,h.only⟩
theorem Norm.bnd(h:Norm S U s Q)(c:total S.files S.names<=20000):Bnd s:=by
 have b:=h.qu;exact Fits.bnd (n:=s.last+s.m.next) ⟨h.ok,by omega,by omega,fc h.ok,by omega⟩
theorem Norm.M0(h:Norm S U s Q):∃ V,View S V/\Go.Proofs.YtnipbplghijdmaaGreatDoor.qu V=total S.files S.names/\(∀ n P,At S n P->∃ b,(n,b)∈V):=by
 obtain⟨T,d,g⟩:=h.pow.cur;have c:View S (Qm S.files T):=⟨T,d.fs,List.Perm.refl _⟩;exact⟨_,c,c.total.symm,fun n P ⟨f,a,e1,e2,_⟩=>⟨_,c.of e1 e2⟩⟩
theorem Norm.jhe(h:Norm S U s Q)(f:qe S)(n:total S.files S.names<=6000){b:List UInt8}(o:b.length<=600){d:Bool}(r:Kp (jh s.m.log) b S S' d):d=true/\qe S':=by
 obtain⟨V,j,e,g⟩:=h.M0;obtain⟨c,i⟩:=g _ _ h.log;obtain⟨l,k,_⟩:=f.app j i (by omega) r;exact⟨l,k⟩
theorem Ws(O:Qu E B w d b S 60000 s false F)(N:Norm S U s Q)(hU:U<=20000)(L:total S.files S.names<=6000)(u:Value)(g:List Rf.Ch)(j:Rf.zq g=true)(A:Chs w u g)(q:∀ p n c,u = .slice (some p) n c->¬F p.block)(i:s.last<1000000000){R':Want}(X:∀ t,Q.Jj t->R.Jj t)(W:R.now (s.write g))(G:∀ t,Q.Jj t->R'.Jj t)(D:R'.now s)(V:∀ l,l <+: (s.write g).bs->R.Qd ⟨s.m,l,s.bls⟩)(C:∀ l,l <+: s.bs->R'.Qd ⟨s.m,l,s.bls⟩) :
 Calls prog 24 #[.pointer (some ⟨b,0,none⟩),u] w fun e w'=>(e = .returned (.int .i64 0)/\∃ S',qg E B w d b S' 60000 (s.write g) false F w'/\Norm S' (U+600) (s.write g) R/\Cl S S'/\(qe S->qe S')) \/
  (e = .returned (.int .i64 1)/\∃ S',qg E B w d b S' 61000 s true F w'/\Pow S' (U+600) s.m s.bls R'/\Jm S' s/\Cl S S'/\¬qe S):=by
 obtain⟨ρ,rv,mv,T,x⟩:=O;have hb:=(N.bnd (by omega)).mem;have z:=gz j (s.last+1);obtain⟨f,a,Y,M,_⟩:=N.log;refine(je9 T (by omega) u g j A (fun p n c e t=>q p n c e ((x _).2 (.inl t))) i (by omega) ⟨f,a,Y,M⟩).mono ?_;rintro e w' ⟨S',ok,r,h⟩;obtain⟨J,I⟩:=N.write j i (by omega) X W G D V C r;have k:=fun hw=>N.jhe hw L z r;rcases h with⟨rfl,rfl,h⟩|⟨rfl,rfl,h⟩
 ·have N':=J rfl
  have y:(s.write g).last=s.last+1:=by show s.m.last+(s.bs++[g]).length=s.m.last+s.bs.length+1;simp;omega
  have o:(s.write g).mem=Rf.over s.mem g:=Rf.Cv _ _;exact .inl ⟨rfl,S',(qg.of (s':=s.write g) T x (by rw[y,o];exact h)).fit (N'.fit (by omega)),N',J2.app _ _ _ _ _ r,fun hw=>(k hw).2⟩
 ·obtain⟨v,H,Z⟩:=I rfl
  refine .inr ⟨rfl,S',(qg.of (s':=s) T x h).fit ((v.fit H (by omega)).mono (by omega)),v,fun p hp=>v.held.2.1 p hp,J2.app _ _ _ _ _ r,fun hw=>(by cases (k hw).1)⟩
theorem jgl(O:Qu E B w d b S 60000 s false F)(N:Norm S U s Q)(u:U<=60000) :
 Calls prog 77 #[.pointer (some ⟨b,0,none⟩)] w fun e w'=>(e = .returned (.int .i64 0)/\∃ S',qg E B w d b S' 60000 s false F w'/\Norm S' U s Q.whole/\At S' (jh s.m.log) (yw (Rf.jk s.m.last s.bs))/\Cl S S') \/
  (e = .returned (.int .i64 1)/\∃ S',qg E B w d b S' 60000 s true F w'/\Pow S' U s.m s.bls Q/\Jm S' s/\Cl S S'):=by
 obtain⟨ρ,rv,t,T,l⟩:=O;have j:s.m.log<=9223372036854775807:=by have:=Nz N.ok;have:=N.ok.y7.1;omega
 refine(Kv T.xi T.env j T.nb.1 T.nb.2 T.row).mono ?_;rintro e w' (⟨k,rfl,n,f,g,i,c⟩|⟨k,rfl,n,f,g,i,c⟩)
 ·obtain⟨r,o⟩:=N.sync k
  exact .inl ⟨rfl,_,qg.of (s':=s) T l (T.next f g i (T.fit.qn _) c),r,o,Cl.sync _ _⟩
 ·exact .inr ⟨rfl,_,qg.of (s':=s) T l (T.next f g i (T.fit.qn _) c),N.pow.sync _,fun p hp=>(N.Q5 p hp).sync _ (fun a q=>q.synced),Cl.sync _ _⟩
end Go.Proofs.YtnipbplghijdmaaGreatDoor

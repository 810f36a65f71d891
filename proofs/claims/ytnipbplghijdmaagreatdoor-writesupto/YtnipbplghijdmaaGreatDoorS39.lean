/- S39 -/
import Derived.Test.YtnipbplghijdmaaGreatDoorS38
set_option maxRecDepth 100000
set_option maxHeartbeats 8000000
set_option linter.unusedVariables false
set_option linter.unusedSimpArgs false
namespace Go.Proofs.YtnipbplghijdmaaGreatDoor
open RowKit Maps WideShapes Go.Proofs.Tryz
variable {W w:World} {i n nn np nt wb y:Nat} {e:TypeId} {xs:List Value} {bv lv rv sv v xv:Value} {G K:Nat->Prop} {s:Rf.St} {m:Rf.Man} {bls bs:List (List Rf.Ch)} {l x:List Rf.Ch}
theorem Tryz.jeh:(prog.info? 55).map (fun i=>(i.zero,i.size,i.bytes))=some (some (.slice none 0 0),1,24):=by kernel_rfl
theorem Tryz.jcf:(prog.info? 39).map (fun i=>(i.zero,i.size,i.bytes))=some (some (.slice none 0 0),1,24):=by kernel_rfl
theorem oh{base b c:Nat}{p:Option Addr}(h:w.ownsRow base e b (.slice p n c) n xs)(hi:i<n):∃ g,p=some ⟨g,0,none⟩:=by
 rcases h.2 with⟨e,f⟩|⟨g,cap,d,e,_⟩
 ·omega
 ·injection e with e1 e2 e3
  exact⟨g,e1⟩
theorem mw.keeps{wr:World}{c:List Value}(h:mw W wr e c v n i):ja W wr (fun j=>v.ownBlock=some j):=by
 obtain⟨_,_,_,k⟩:=h;exact k
theorem Zs.back{b c:World}(h:Zs b wb sv np nn nt K v c)(k:ja w b (fun _=>False)):Zs w wb sv np nn nt K v c:=by
 obtain⟨j,g,f,d⟩:=h;have:=k.size;refine⟨j,g,(k.up).tt f,fun i t=>?_⟩;rcases d i t with t|t|t
 ·exact .inl t
 ·exact .inr (.inl t)
 ·exact .inr (.inr (by omega))
theorem kt{g o:Nat}{u:Value}(h:w.cell? ⟨g,o,none⟩=some u):g<w.heap.size:=by
 unfold World.cell? at h;apply yG;intro b;have e:w.heap[g]?=none:=xN (by omega);simp[e] at h
theorem Md(h:Z8 w wb sv np nn nt K)(hb:nn<1000000000)(v:Value)(n:Nat)(cs:List Value)(hv:w.ownsRow 0 3 1 v n cs)(a2:∀ g,v.ownBlock=some g->¬K g)(hn:n<1000000000):Calls prog 143 #[.pointer (some ⟨wb,0,none⟩),v] w fun e w'=>e = .returned (.tuple #[])/\Zs w wb sv np (nn+4) nt K v w':=by
 obtain⟨j0,hj,aw,av,au⟩:=info_parts Tryz.dz;obtain⟨j1,b1,ar,aq,ao⟩:=info_parts Tryz.jcf;obtain⟨pv,nv,tv,T,O⟩:=h;obtain⟨ap,ac,rfl⟩:=O.n.shape;obtain⟨k,q,rfl⟩:=jj hv;have R:=zA (o:=2) O.row;simp at R;have hm:=O.m4.2;obtain⟨X,hX⟩:∃ X:Int,X = -1-(nn:Int):=⟨_,rfl⟩;have bq:wrap64 (-1-(nn:Int))=X:=by rw[hX];unfold wrap64;omega
 have bp:IntKind.i64.wrap (-1-(nn:Int))=X:=by rw[hX];exact zE (by omega) (by omega)
 have HF:Hid (∀ r,r<4->fN (nn+r)=[.int .i64 X]):=fun r hr=>by
  unfold fN;rw[hX,show(nn+r)/4*4=nn by omega]
 have d:=jb O;have HV:=jb hv;have f:=jb a2;have HB:=jb hb;have HN:=jb hn;have z:wb<w.heap.size:=zC O.row;have b8:=jb z;clear O hv a2 hb hn hX hm z;go_enter func143,ntmps143;go_wp2_with fail
 go_loopw [5] (fun t5 wr=>∃ i:Nat,t5 = .int .i64 i/\i<=n/\mw w wr 3 [.int .i64 X] (.slice k n q) n i) (fun t5 _=>n-(intOf t5).toNat)
 case atStart=>exact⟨0,rfl,zU _,mw.first HV.out⟩
 case round =>
  obtain⟨i,rfl,c7,W⟩:=hrel;clear R;rcases ZJ i n with s|c9
  ·have b2:(i:Int)<(n:Int):=by omega
   have c4:IntKind.i64.wrap ((i:Int)+1)=(i:Int)+1:=zE (by have:=HN.out;omega) (by have:=HN.out;omega);obtain⟨g,rfl⟩:=oh HV.out s;obtain⟨b7,V,a4⟩:=W.heap;have A:i<b7.size:=by simp at a4;omega
   obtain⟨u0,y0⟩:∃ u0,wr.cell? ⟨g,i,none⟩=some u0:=⟨_,(zA (o:=i) V).trans (XE A)⟩;have z0:=zB (o:=i) V;have bf:=jb (W.one s);clear V W a4 A;go_wp2;exact⟨⟨i+1,by simp,by omega,bf.out⟩,by simp[intOf];omega⟩
  ·have b2:¬(i:Int)<(n:Int):=by omega
   have e:i=n:=by omega
   subst e;obtain⟨D,rfl⟩:∃ D,D=wr:=⟨_,rfl⟩;obtain⟨G,k1⟩:=W.done;have Y:=d.out.keep k1 f.out
   obtain⟨am,a9⟩:=CL.gr (e:=3) (c:=[.int .i64 X]) (m:=i) (lv:= .slice k i q) (T':=fun g=>T g\/(Value.slice k i q).ownBlock=some g) Y.n G (fun g t=> .inl t) (fun g t=>⟨.inr t,fun u=>f.out g t ((d.out.J9 g).2 (.inl u))⟩) (fun g t u=>by
    rcases u with u|u
    ·exact Y.nT.2.2.1 g t u
    ·exact f.out g u ((d.out.J9 g).2 (.inr (.inr (.inr (.inl t)))))) (fun g t=>by
    rcases t with t|t
    ·exact Y.lt g t
    ·exact(G.lt g t).2)
   have C:KP D D wb 39 3 [.int .i64 X] fN (fun p=>#[sv,pv,p,tv]) (.slice ap nn ac) (.slice k i q) T nn i (.slice ap nn ac) (.slice k i q) am (fun g=>T g\/(Value.slice k i q).ownBlock=some g):=⟨Y.row,a9,fun g t=> .inl t,fun g t=>t.elim .inl (fun t=> .inr (.inl t)),fun g t=> .inl t,ja.refl _ _⟩;have be:=jb C;have bd:=jb k1;have a7:wb<D.heap.size:=zT b8.out k1.size;have L:=jb a7;clear G Y a9 C k1 W a7;go_wp2_with fail
   go_loopw [1,6,7] (fun t1 t6 _ wr=>∃(r:Nat) (Z:Value) (us:List Value) (T':Nat->Prop),t6 = .int .i64 r/\r<=4/\KP D wr wb 39 3 [.int .i64 X] fN (fun p=>#[sv,pv,p,tv]) (.slice ap nn ac) (.slice k i q) T (nn+r) (i+r) Z t1 us T'/\(∀ g,t1.ownBlock=some g->(Value.slice k i q).ownBlock=some g\/D.heap.size<=g)) (fun _ t6 _ _=>4-(intOf t6).toNat)
   case atStart=>exact⟨0,_,_,_,rfl,by omega,be.out,fun g t=> .inl t⟩
   case round =>
    obtain⟨r,Z,us,T',rfl,c5,b,I⟩:=hrel;obtain⟨E,F,rfl⟩:=jj b.gr.row;obtain⟨S,U,rfl⟩:=jj b.gr.l;rcases ZJ r 4 with s|br
    ·have ax:(r:Int)<4:=by omega
     have c3:IntKind.i64.wrap ((r:Int)+1)=(r:Int)+1:=zE (by omega) (by omega);have R:=zA (o:=2) b.row;simp at R;have y:=jb b;have bb:=jb I;have j:=b.gr.row.alloc (.cells #[.slice S (i+r) U] 39);have B:∀ u∈[Value.slice S (i+r) U],u.oneCell'=true:=fun u hu=>by rw[ZE.1 hu];rfl
     have a1:¬T wb:=d.out.nT.1;have a3:(Value.slice k i q).ownBlock≠some wb:=fun t=>f.out wb t ((d.out.J9 wb).2 (.inr (.inl rfl)));have H:(Value.slice ap nn ac).ownBlock≠some wb:=fun t=>(d.out.an wb t).1 rfl;have aa:=jb a1;have ab:=jb a3;have ba:=jb H
     have a6:(Value.slice E (nn+r) F).ownBlock≠some wb:=fun t=>by
      rcases b.pvb wb t with t|t
      ·exact H t
      ·have:=L.out;omega
     have b9:Hid (∀ W6,(wr.alloc (.cells #[.slice S (i+r) U] 39)).grownBy W6 (Value.slice E (nn+r) F).ownBlock->W6.cell? ⟨wb,2,none⟩=some (.slice E (nn+r) F)/\W6.frozen? ⟨wb,2,none⟩=false):=fun W6 V=>by
      have hk:=(ja.grown V).same ((ja.alloc wr (.cells #[.slice S (i+r) U] 39) (fun _=>False)).same y.out.row id) (fun e=>a6 e.symm);have hc:=zA (o:=2) hk;exact⟨by simpa using hc,zB hk⟩
     have b6:Hid (nn+r+1<=maxLen):=jb (by have:=HB.out;unfold maxLen;omega);have b4:Hid ((nn+r+1)*24<=140737488355328):=jb (by have:=HB.out;omega);have ae:Hid (i+r+1<=maxLen):=jb (by have:=HN.out;unfold maxLen;omega);have ad:Hid ((i+r+1)*8<=140737488355328):=jb (by have:=HN.out;omega);clear b I a1 a3 H a6
     go_upto_region 9 with(first|(at_builtin;refine jk _ rfl (.tmp 32) (.tmp 34) 26 rfl 0 39 j1 (.slice none 0 0) 1 24 underlying26 b1 ar aq ao rfl xD _ _ _ rfl j ⟨wr.heap.size,0,none⟩ 1 1 [.slice S (i+r) U] rfl rfl (cell_one_new _ _ _) B b6.out b4.out (zU _) ?_;intro p6 c6 w6 a5 J a8;obtain⟨r2,r3⟩:=b9.out w6 J))
     have x:=y.out.push (i:=2) aa.out ab.out ba.out L.out (HF.out r s) a5 J a8 (fun p=>rfl);obtain⟨w7,a0⟩:∃ w7,w7=w6.setCell ⟨wb,2,none⟩ (.slice p6 (nn+r+1) c6):=⟨_,rfl⟩;rw[<-a0] at x ⊢;have bc:=jb x;have M:=x.gr.l.alloc (.cells #[.int .i64 X] 3);have N:∀ u∈[Value.int .i64 X],u.oneCell'=true:=fun u hu=>by rw[ZE.1 hu];rfl
     clear x a0 a5 J a8 r2 r3 j B R
     go_wp2_with (first|(at_builtin;refine Z0 _ rfl (.tmp 38) (.tmp 40) 39 rfl 0 3 j0 (.int .i64 0) 1 8 underlying39 hj aw av au rfl xD _ _ _ rfl M ⟨w7.heap.size,0,none⟩ 1 1 [.int .i64 X] rfl rfl (cell_one_new _ _ _) N ae.out ad.out (zU _) ?_;intro p8 c8 w8 ay b3 az))
     obtain⟨b5,b0⟩:=bc.out.grow aa.out ab.out L.out bb.out ay b3 az;exact⟨⟨r+1,_,_,_,by simp,by omega,b5,b0⟩,by simp[intOf];omega⟩
    ·have ax:¬(r:Int)<4:=by omega
     have e:r=4:=by omega
     subst e;have y:=jb b;clear b I;go_wp2;refine bodyPost_end (results_none rfl _ _ _) rfl ?_;exact⟨rfl,KP.jg1 d.out f.out bd.out y.out⟩
theorem Iv(h:Z8 w wb sv np nn nt K)(hb:np<1000000000)(v:Value)(n:Nat)(cs:List Value)(hv:w.ownsRow 0 65 2 v n cs)(aq:∀ g,v.ownBlock=some g->¬K g)(hn:n<1000000000):Calls prog 141 #[.pointer (some ⟨wb,0,none⟩),v] w fun e w'=>e = .returned (.tuple #[])/\Zs w wb sv (np+4) nn nt K v w':=by
 obtain⟨j0,hj,bp,bo,bn⟩:=info_parts Tryz.jcg;obtain⟨j1,bu,bm,bl,bk⟩:=info_parts Tryz.jeh;obtain⟨pv,nv,tv,T,hL⟩:=h;obtain⟨ap,ac,rfl⟩:=hL.p.shape;obtain⟨y,z,rfl⟩:=jj hv;have q1:=zA (o:=1) hL.row;simp at q1;have hm:=hL.m4.1;obtain⟨D,hD⟩:∃ D,D=Rf.j4 np:=⟨_,rfl⟩;have cf:Hid (∀ W,Calls prog 88 #[.int .i64 (np:Int)] W fun e w'=>e = .returned (jd D)/\ja W w' (fun _=>False)):=fun W=>by rw[hD];exact J0 _ (by omega) W
 have HF:Hid (∀ r,r<4->fP (np+r)=[jd su,jd D]):=fun r hr=>by
  unfold fP;rw[hD,show(np+r)/4*4=np by omega]
 have d:=jb hL;have HV:=jb hv;have s:=jb aq;have HB:=jb hb;have HN:=jb hn;have M:wb<w.heap.size:=zC hL.row;have G:=jb M;clear hL hv aq hb hn hD hm M;go_enter func141,ntmps141;go_wp2_with fail;refine(cf.out w).mono ?_;rintro e w2 ⟨rfl,k2⟩
 go_upto_region 1 with fail
 obtain⟨w3,A⟩:∃ w3,w3=w2.alloc (.cells #[.string ⟨#[109,105,110,101]⟩,jd D] 65):=⟨_,rfl⟩;rw[<-A];obtain⟨f,E⟩:∃ f,f=w2.heap.size:=⟨_,rfl⟩;rw[<-E];have k3:ja w w3 (fun _=>False):=by rw[A];exact k2.tt (ja.alloc _ _ _)
 have a3:w3.heap[f]?=some (.cells #[.string ⟨#[109,105,110,101]⟩,jd D] 65 (0,0)):=by rw[A,E];exact je _ _
 have c0:w.heap.size<=f:=by rw[E];exact k2.size
 have az:wb≠f:=by have:=G.out;omega
 have ay:(Value.slice ap np ac).ownBlock≠some f:=fun t=>by have:=d.out.old ((d.out.J9 f).2 (.inr (.inr (.inl t))));omega
 have ax:(Value.slice y n z).ownBlock≠some f:=fun t=>by have:=(HV.out.lt f t).2;omega
 have B0:=jb (zA (o:=0) a3);have B1:=jb (zA (o:=1) a3);have I:=jb az;have a4:=jb ay;have H:=jb ax;have d:=jb (d.out.keep k3 (fun _ t=>t.elim));have HV:=jb (k3.row HV.out (fun _ _ h=>h));have G:Hid (wb<w3.heap.size):=zT G.out k3.size;have ca:=jb k3
 have HC:Hid (∀(W:World) (j':Nat) (u:Value),[jd su,jd D][j']?=some u->(W.alloc (.cells #[.string ⟨#[109,105,110,101]⟩,jd D] 65)).cell? ((⟨W.heap.size,0,none⟩:Addr).add j')=some u):=fun W j' u hu=>by
  rw[add_zero,zA (je W _)];have e:(#[Value.string ⟨#[109,105,110,101]⟩,jd D]:Array Value)=#[jd su,jd D]:=rfl;rw[e];simpa using hu
 clear q1 A E k3 k2 a3 c0 az ay ax;go_wp2_with fail
 go_loopw [5] (fun t5 wr=>∃ i:Nat,t5 = .int .i64 i/\i<=n/\mw w3 wr 65 [jd su,jd D] (.slice y n z) n i) (fun t5 _=>n-(intOf t5).toNat)
 case atStart=>exact⟨0,rfl,zU _,mw.first HV.out⟩
 case round =>
  obtain⟨i,rfl,d8,hF⟩:=hrel;have C:=hF.keeps;have b0:=C.cell B0.out H.out;have b1:=C.cell B1.out H.out;simp at b0 b1;rcases ZJ i n with B|d9
  ·have bv:(i:Int)<(n:Int):=by omega
   have d6:IntKind.i64.wrap ((i:Int)+1)=(i:Int)+1:=zE (by have:=HN.out;omega) (by have:=HN.out;omega);obtain⟨g,rfl⟩:=oh HV.out B;obtain⟨b6,L,X⟩:=hF.heap;have O:i*2<b6.size:=by simp at X;omega
   have N:i*2+1<b6.size:=by simp at X;omega
   obtain⟨u0,y0⟩:∃ u0,wr.cell? ⟨g,i*2,none⟩=some u0:=⟨_,(zA (o:=i*2) L).trans (XE O)⟩;obtain⟨u1,y1⟩:∃ u1,wr.cell? ⟨g,i*2+1,none⟩=some u1:=⟨_,(zA (o:=i*2+1) L).trans (XE N)⟩;have z0:=zB (o:=i*2) L;have z1:=zB (o:=i*2+1) L;have ce:=jb (hF.two B);clear L hF X O N C;go_wp2;exact⟨⟨i+1,by simp,by omega,ce.out⟩,by simp[intOf];omega⟩
  ·have bv:¬(i:Int)<(n:Int):=by omega
   have e:i=n:=by omega
   subst e;obtain⟨U,rfl⟩:∃ U,U=wr:=⟨_,rfl⟩;obtain⟨Y,k1⟩:=hF.done;have L1:=d.out.keep k1 s.out
   obtain⟨bj,b5⟩:=CL.gr (e:=65) (c:=[jd su,jd D]) (m:=i) (lv:= .slice y i z) (T':=fun g=>T g\/(Value.slice y i z).ownBlock=some g) L1.p Y (fun g t=> .inl t) (fun g t=>⟨.inr t,fun u=>s.out g t ((d.out.J9 g).2 (.inl u))⟩) (fun g t u=>by
    rcases u with u|u
    ·exact L1.nT.2.1 g t u
    ·exact s.out g u ((d.out.J9 g).2 (.inr (.inr (.inl t))))) (fun g t=>by
    rcases t with t|t
    ·exact L1.lt g t
    ·exact(Y.lt g t).2)
   have S:KP U U wb 55 65 [jd su,jd D] fP (fun p=>#[sv,p,nv,tv]) (.slice ap np ac) (.slice y i z) T np i (.slice ap np ac) (.slice y i z) bj (fun g=>T g\/(Value.slice y i z).ownBlock=some g):=⟨L1.row,b5,fun g t=> .inl t,fun g t=>t.elim .inl (fun t=> .inr (.inl t)),fun g t=> .inl t,ja.refl _ _⟩;have cd:=jb S;have cc:=jb k1;have b2:wb<U.heap.size:=zT G.out k1.size;have a5:=jb b2;have b4:=jb b0;have c2:=jb b1;clear Y L1 b5 S k1 hF b2 C b0 b1;go_wp2_with fail
   go_loopw [1,6,7] (fun t1 t6 _ wr=>∃(r:Nat) (an:Value) (us:List Value) (T':Nat->Prop),t6 = .int .i64 r/\r<=4/\KP U wr wb 55 65 [jd su,jd D] fP (fun p=>#[sv,p,nv,tv]) (.slice ap np ac) (.slice y i z) T (np+r) (i+r) an t1 us T'/\(∀ g,t1.ownBlock=some g->(Value.slice y i z).ownBlock=some g\/U.heap.size<=g)) (fun _ t6 _ _=>4-(intOf t6).toNat)
   case atStart=>exact⟨0,_,_,_,rfl,by omega,cd.out,fun g t=> .inl t⟩
   case round =>
    obtain⟨r,an,us,T',rfl,d7,b,a0⟩:=hrel;obtain⟨k,q,rfl⟩:=jj b.gr.row;obtain⟨lp,lc,rfl⟩:=jj b.gr.l;rcases ZJ r 4 with B|cq
    ·have bq:(r:Int)<4:=by omega
     have d5:IntKind.i64.wrap ((r:Int)+1)=(r:Int)+1:=zE (by omega) (by omega);have q1:=zA (o:=1) b.row;simp at q1;have J:=jb b;have c9:=jb a0;have b0:=b.kk.cell b4.out (fun t=>t.elim (fun t=>I.out t.symm) (fun t=>t.elim a4.out H.out));have b1:=b.kk.cell c2.out (fun t=>t.elim (fun t=>I.out t.symm) (fun t=>t.elim a4.out H.out));have x:=b.gr.row.alloc (.cells #[.slice lp (i+r) lc] 55);have R:∀ u∈[Value.slice lp (i+r) lc],u.oneCell'=true:=fun u hu=>by rw[ZE.1 hu];rfl
     have ao:¬T wb:=d.out.nT.1;have ar:(Value.slice y i z).ownBlock≠some wb:=fun t=>s.out wb t ((d.out.J9 wb).2 (.inr (.inl rfl)));have Z:(Value.slice ap np ac).ownBlock≠some wb:=fun t=>(d.out.ap wb t).1 rfl;have b7:=jb ao;have b8:=jb ar;have c7:=jb Z
     have aw:(Value.slice k (np+r) q).ownBlock≠some wb:=fun t=>by
      rcases b.pvb wb t with t|t
      ·exact Z t
      ·have:=a5.out;omega
     have c5:Hid (∀ W6,(wr.alloc (.cells #[.slice lp (i+r) lc] 55)).grownBy W6 (Value.slice k (np+r) q).ownBlock->W6.cell? ⟨wb,1,none⟩=some (.slice k (np+r) q)/\W6.frozen? ⟨wb,1,none⟩=false/\ja wr W6 (fun j=>(Value.slice k (np+r) q).ownBlock=some j)):=fun W6 L=>by
      have hk:=(ja.grown L).same ((ja.alloc wr (.cells #[.slice lp (i+r) lc] 55) (fun _=>False)).same J.out.row id) (fun e=>aw e.symm);have hc:=zA (o:=1) hk;exact⟨by simpa using hc,zB hk,((ja.alloc wr (.cells #[.slice lp (i+r) lc] 55) (fun _=>False)).up).trans (ja.grown L) (fun j _ e=>e.symm)⟩
     have c4:Hid (np+r+1<=maxLen):=jb (by have:=HB.out;unfold maxLen;omega);have c1:Hid ((np+r+1)*24<=140737488355328):=jb (by have:=HB.out;omega);have bb:Hid (i+r+1<=maxLen):=jb (by have:=HN.out;unfold maxLen;omega);have ba:Hid ((i+r+1)*32<=140737488355328):=jb (by have:=HN.out;omega)
     have av:¬(Value.slice k (np+r) q).ownBlock=some f:=fun t=>by
      rcases b.pvb f t with t|t
      ·exact a4.out t
      ·have h1:=(kt b4.out);omega
     have b9:=jb av;clear b a0 ao ar Z aw av
     go_upto_region 9 with(first|(at_builtin;refine jk _ rfl (.tmp 33) (.tmp 35) 25 rfl 0 55 j1 (.slice none 0 0) 1 24 underlying25 bu bm bl bk rfl xD _ _ _ rfl x ⟨wr.heap.size,0,none⟩ 1 1 [.slice lp (i+r) lc] rfl rfl (cell_one_new _ _ _) R c4.out c1.out (zU _) ?_;intro p6 c6 w6 au a2 b3;obtain⟨r2,r3,r4⟩:=c5.out w6 a2))
     have F:=J.out.push (i:=1) b7.out b8.out c7.out a5.out (HF.out r B) au a2 b3 (fun p=>rfl);obtain⟨w7,V⟩:∃ w7,w7=w6.setCell ⟨wb,1,none⟩ (.slice p6 (np+r+1) c6):=⟨_,rfl⟩;have a1:ja w6 w7 (fun i=>i=wb):=by rw[V];exact ja.setCell _ _ _
     rw[<-V] at F ⊢;have b0:=a1.cell (r4.cell b0 b9.out) (fun t=>I.out t.symm);have b1:=a1.cell (r4.cell b1 b9.out) (fun t=>I.out t.symm);have cb:=jb F;have a6:=F.gr.l.alloc (.cells #[.string ⟨#[109,105,110,101]⟩,jd D] 65);have a7:∀ u∈[jd su,jd D],u.oneCell'=true:=fun u hu=>by simp at hu;rcases hu with rfl|rfl<;>rfl
     have bz:=HC.out w7;clear F V a1 au a2 b3 r2 r3 r4 x R q1
     go_wp2_with (first|(at_builtin;refine Z0 _ rfl (.tmp 39) (.tmp 41) 55 rfl 0 65 j0 prZ 2 32 underlying55 hj bp bo bn rfl (ZG 1) _ _ _ rfl a6 ⟨w7.heap.size,0,none⟩ 1 1 [jd su,jd D] rfl rfl bz a7 bb.out ba.out (zU _) ?_;intro p8 c8 w8 br bw bs))
     obtain⟨c3,bt⟩:=cb.out.grow b7.out b8.out a5.out c9.out br bw bs;exact⟨⟨r+1,_,_,_,by simp,by omega,c3,bt⟩,by simp[intOf];omega⟩
    ·have bq:¬(r:Int)<4:=by omega
     have e:r=4:=by omega
     subst e;have J:=jb b;clear b a0;go_wp2;refine bodyPost_end (results_none rfl _ _ _) rfl ?_;exact⟨rfl,(KP.jg0 d.out s.out cc.out J.out).back ca.out⟩
theorem pj.je4{W':World}{b:Rf.St}{cl:Bool}{H:Nat->Prop}{d:Value}(B:pj w y s cl G bv lv rv xv H xs)(k:ja w W' (fun i=>i=y))(q:W'.heap[y]?=some (.cells #[jf b.m.next,jf b.m.last,jf b.m.log,jf b.m.base,bv,d,.slice none 0 0,.slice none 0 0,.bool cl] 108 (0,0)))(l:b.bs=s.bs)(f:b.m.runs=[])(D:Chs w d b.bl)(u:∀ g,d.ownBlock=some g->g<w.heap.size/\g≠y/\bv.ownBlock≠some g)(ok:b.Ok)(F:x7 b.bls<=x7 s.bls/\b.bls.length<1000000):dc W' y b cl (fun i=>(H i\/d.ownBlock=some i)\/i=y\/bv.ownBlock=some i):=by
 have E:∀ i,H i->¬i=y:=fun i hi e=>by rw[e] at hi;exact B.ny hi
 have o:b.rls=[]:=by unfold Rf.St.rls;rw[f];rfl
 have I:=B.few;refine⟨bv,d,.slice none 0 0,.slice none 0 0,fun i=>H i\/d.ownBlock=some i,xs,q,?_,?_,⟨D.keep k (fun _ p n c e t=>(u p.block (by rw[e];rfl)).2.1 t),fun g t=> .inr t⟩,by rw[f];exact zl.nil _,fun g t=>(by cases t),⟨[],Vls.nil _,by rw[o];rfl,fun g t=>(by cases t),fun j r=>by rw[o] at r;cases r⟩,ok,?_,?_,?_,?_,fun i=>Iff.rfl⟩
 ·rw[l]
  exact k.row B.G5 (fun g t e=>(B.nb g t).2 e)
 ·intro j r
  have z:j<s.bs.length:=by rw[<-l];exact r
  obtain⟨x,C,A⟩:=B.bel j z;refine⟨x,C,?_⟩;have e:b.bs[j]=s.bs[j]:=by congr 1
  rw[e];exact A.keep k E (fun _ t=> .inl t)
 ·rw[l]
  omega
 ·rintro(t|t)
  ·exact B.ny t
  ·exact(u y t).2.1 rfl
 ·intro g t
  refine⟨?_,(B.nb g t).2⟩;rintro(v|v)
  ·exact(B.nb g t).1 v
  ·exact(u g v).2.2 t
 ·rintro i (t|t)
  ·exact zT (B.lt i t) k.size
  ·exact zT (u i t).1 k.size
theorem jet:(Rf.St.mk m bs []).bl=[]:=by unfold Rf.St.bl;simp
theorem jf3(h:m.runs=[]):(Rf.St.mk m bs [l]).bl=l:=by unfold Rf.St.bl;simp[h]
theorem Lq{cl:Bool}(h:dc W y s cl G)(hn:s.m.next+1<=2000000000)(hl:s.live.length<65536):Calls prog 98 #[.pointer (some ⟨y,0,none⟩)] W fun e W'=>e = .returned (.int .i64 (if cl=true then 3 else 0))/\ym W y (if cl=true then s else s.qd) cl G W':=by
 obtain⟨bv,lv,rv,xv,H,xs,l⟩:=h;have L:=jb l;have R:=l.rat;have q0:=zA (o:=0) l.row;have q3:=zA (o:=3) l.row;have q5:=zA (o:=5) l.row;have q6:=zA (o:=6) l.row;have q7:=zA (o:=7) l.row;have q8:=zA (o:=8) l.row;simp at q0 q3 q5 q6 q7 q8;obtain⟨pr,cr,rfl⟩:∃ p c,rv = .slice p s.m.runs.length c:=by obtain⟨p,c,e,_⟩:=l.run;exact⟨p,c,e⟩
 obtain⟨V,n⟩:∃ V,V=s.m.runs.length:=⟨_,rfl⟩;rw[<-n] at q6
 cases cl with
 | true =>
  rw[if_pos rfl,if_pos rfl];clear l R n;go_enter func98,ntmps98;go_wp2;go_ret;exact⟨rfl,ym.same ⟨_,_,_,_,_,_,L.out⟩ (ja.refl _ _)⟩
 | false =>
  rw[if_neg (by simp),if_neg (by simp)];rcases ZB V with E|E
  ·have v:s.m.runs=[]:=xB (by omega)
   have j:Hid (s.qd=s):=jb (by unfold Rf.St.qd;rw[if_pos v]);have ak:((V:Int)==0)=true:=by simp;omega
   clear l R n E v;go_enter func98,ntmps98;go_wp2;go_ret;exact⟨rfl,by rw[j.out];exact ym.same ⟨_,_,_,_,_,_,L.out⟩ (ja.refl _ _)⟩
  ·have v:s.m.runs≠[]:=fun e=>by rw[e] at n;simp at n;omega
   have ak:((V:Int)==0)=false:=by simp;omega
   have I:=R.few;have hcut:=Rf.St.On R.ok;have a4:=jb (Br q5 q7 R.bas R.rls (by omega) (by have:=R.Ln;omega));rw[Rf.St.Fz R.ok] at a4;have X:=Yz s.bls;have a3:=jb X;have aa:=jb I;have J:=jb (R.ok.qd hl hn);have bf:=zC l.row;have bh:Hid (s.m.next+1<=2000000000):=hn;obtain⟨r,M⟩:∃ r,r=s.m.next:=⟨_,rfl⟩;have b9:decide ((2000000000:Int)<=(r:Int))=false:=by simp;omega
   have bg:IntKind.i64.wrap ((r:Int)+1)=(r:Int)+1:=zE (by omega) (by omega);rw[<-M] at q0;have HX:=jb M;have a1:=jb v;have am:=jb l.row;clear l R n E v I hcut X hn hl M q3;go_enter func98,ntmps98;go_wp2_with fail;refine a4.out.mono ?_;rintro e w1 ⟨v1,rfl,h1,f1,k1⟩;have al:=jb (E0 _ _ h1 (by have:=a3.out;have:=aa.out;omega));clear h1;go_wp2_with fail;refine al.out.mono ?_;rintro e A ⟨v2,rfl,U,k2⟩;have B:=k1.tt k2;have B2:=L.out.keep B (fun _ t=>t.elim);have b:=B.same am.out id;have q0:=B.cell q0 id;have q3:=zA (o:=3) b;have q5:=zA (o:=5) b;have q6:=zA (o:=6) b;have q7:=zA (o:=7) b;simp at q3 q5 q6 q7;have f0:=zB (o:=0) b;have f3:=zB (o:=3) b;have f5:=zB (o:=5) b;have f6:=zB (o:=6) b;have f7:=zB (o:=7) b;obtain⟨q,u,rfl⟩:=jj U;have Y:Hid (Rf.there (Rf.merged s.bls)=s.live):=jb (rfl);rw[Y.out] at U ⊢
   have O:∀ g,(Value.slice q s.live.length u).ownBlock=some g->g<A.heap.size/\g≠y/\bv.ownBlock≠some g/\W.heap.size<=g:=fun g hg=>by
    have ha:=U.lt g hg;have hw:=k1.size;refine⟨ha.2,by omega,fun e=>?_,by omega⟩;have:=(L.out.G5.lt g e).2;omega
   have S:=jb (xw U);have a8:=jb B2;have a9:=jb b;obtain⟨f,N⟩:∃ f,f=s.live.length:=⟨_,rfl⟩;rw[<-N] at S O ⊢;have C:=jb O;have a2:=jb N;clear U B2 b O N;have F:∀(W':World),ja A W' (fun i=>i=y)->ja W W' G:=fun W' k=>(B.up).trans k (fun i _ e=>(L.out.J9 i).2 (.inr (.inl e)))
   have z:∀ i,((H i\/(Value.slice q f u).ownBlock=some i)\/i=y\/bv.ownBlock=some i)->G i\/W.heap.size<=i:=fun i t=>by
    rcases t with(t|t)|t
    ·exact .inl ((L.out.J9 i).2 (.inl t))
    ·exact .inr (C.out i t).2.2.2
    ·exact .inl ((L.out.J9 i).2 (.inr t))
   have a0:∀ g,(Value.slice q f u).ownBlock=some g->g<A.heap.size/\g≠y/\bv.ownBlock≠some g:=fun g t=>⟨(C.out g t).1,(C.out g t).2.1,(C.out g t).2.2.1⟩;have m1:=ja.setCell A ⟨y,3,none⟩ (.int .i64 0);have e1:(A.setCell ⟨y,3,none⟩ (.int .i64 0)).heap[y]?=some (.cells #[jf s.m.next,jf s.m.last,jf s.m.log,jf 0,bv,lv,.slice pr s.m.runs.length cr,xv,.bool false] 108 (0,0)):=(jc a9.out _).trans rfl;have m2:=m1.set (p:=⟨y,5,none⟩) rfl (.slice q f u);have e2:((A.setCell ⟨y,3,none⟩ (.int .i64 0)).setCell ⟨y,5,none⟩ (.slice q f u)).heap[y]?=some (.cells #[jf s.m.next,jf s.m.last,jf s.m.log,jf 0,bv,.slice q f u,.slice pr s.m.runs.length cr,xv,.bool false] 108 (0,0)):=(jc e1 _).trans rfl;have m3:=m2.set (p:=⟨y,6,none⟩) rfl (.slice none 0 0);have e3:(((A.setCell ⟨y,3,none⟩ (.int .i64 0)).setCell ⟨y,5,none⟩ (.slice q f u)).setCell ⟨y,6,none⟩ (.slice none 0 0)).heap[y]?=some (.cells #[jf s.m.next,jf s.m.last,jf s.m.log,jf 0,bv,.slice q f u,.slice none 0 0,xv,.bool false] 108 (0,0)):=(jc e2 _).trans rfl;have m4:=m3.set (p:=⟨y,7,none⟩) rfl (.slice none 0 0);have e4:((((A.setCell ⟨y,3,none⟩ (.int .i64 0)).setCell ⟨y,5,none⟩ (.slice q f u)).setCell ⟨y,6,none⟩ (.slice none 0 0)).setCell ⟨y,7,none⟩ (.slice none 0 0)).heap[y]?=some (.cells #[jf s.m.next,jf s.m.last,jf s.m.log,jf 0,bv,.slice q f u,.slice none 0 0,.slice none 0 0,.bool false] 108 (0,0)):=(jc e3 _).trans rfl;have M4:=jb m4;have E4:=jb e4;have a6:=jb a0;have a5:=jb F;have a7:=jb z;clear m1 m2 m3 m4 e1 e2 e3 e4 a0 F z Y;rcases ZB f with E|E
   ·have d:s.live=[]:=xB (by rw[<-a2.out];exact E)
    have j:Hid (s.qd=⟨s.m.bare,s.bs,[]⟩):=jb (by unfold Rf.St.qd;rw[if_neg a1.out,if_pos d]);have ao:Hid (Chs A (.slice q f u) []):=jb (by have:=S.out;rw[d] at this;exact this);have aj:¬(0:Int)<(f:Int):=by omega
    clear E d;go_wp2;go_ret;have x:=J.out;rw[j.out] at x;refine⟨rfl,?_⟩;rw[j.out];exact⟨_,a8.out.je4 M4.out E4.out rfl rfl (by rw[jet];exact ao.out) a6.out x ⟨by simp[x7],by simp⟩,a5.out _ M4.out,fun i t=>a7.out i t⟩
   ·have d:s.live≠[]:=fun e=>by have:=a2.out;rw[e] at this;simp at this;omega
    have j:Hid (s.qd=⟨s.m.yf,s.bs,[s.live]⟩):=jb (by unfold Rf.St.qd;rw[if_neg a1.out,if_neg d]);have aj:(0:Int)<(f:Int):=by omega
    have m5:=M4.out.set (p:=⟨y,3,none⟩) rfl (.int .i64 r);have m6:=m5.set (p:=⟨y,0,none⟩) rfl (.int .i64 ((r:Int)+1));have M6:=jb m6
    have Z:x7 [s.live]<=x7 s.bls:=by
     have h1:=a3.out;have U:s.live.length<=(Rf.merged s.bls).length:=XF _ _;have h3:x7 [s.live]=s.live.length:=by simp[x7]
     omega
    have an:=jb Z;clear E d m5 m6 Z;go_wp2;go_ret;have x:=J.out;rw[j.out] at x;refine⟨rfl,?_⟩;rw[j.out];have T:(Value.int .i64 ((r:Int)+1))=jf (s.m.next+1):=by rw[<-HX.out];simp
    have D:(Value.int .i64 (r:Int))=jf s.m.next:=by rw[<-HX.out]
    have e5:=(jc (o:=3) E4.out (.int .i64 (r:Int)));have e6:=(jc (o:=0) e5 (.int .i64 ((r:Int)+1)));exact⟨_,a8.out.je4 M6.out (by rw[e6,T,D];rfl) rfl rfl (by rw[jf3 rfl];exact S.out) a6.out x ⟨an.out,by simp⟩,a5.out _ M6.out,fun i t=>a7.out i t⟩
theorem nu{last:Nat}:(Rf.St.mk (m.qn last) [] (x::bls)).rls=x::(Rf.St.mk m bs bls).rls:=by
 unfold Rf.St.rls Rf.Man.qn;simp
theorem Tl{last:Nat}:(Rf.St.mk (m.qn last) [] (x::bls)).bl=(Rf.St.mk m bs bls).bl:=by
 unfold Rf.St.bl Rf.Man.qn;simp
theorem Ut{x:Value}(h:Chs W x l):x.oneCell'=true:=by
 obtain⟨p,c,rfl⟩:=h.shape;rfl
theorem Rt{cl:Bool}(h:dc W y s cl G)(hn:s.m.next+2<=2000000000)(hr:s.m.runs.length+1<60000)(hm:s.mem.length<65536):Calls prog 97 #[.pointer (some ⟨y,0,none⟩)] W fun e W'=>e = .returned (.int .i64 (if cl=true then 3 else 0))/\ym W y (if cl=true then s else s.flush) cl G W':=by
 obtain⟨j0,V,ci,ch,cg⟩:=info_parts Tryz.dz;obtain⟨j1,cp,cf,ce,cd⟩:=info_parts Tryz.wx;obtain⟨bv,lv,rv,xv,H,xs,X⟩:=h;have O:=jb X;have R:=X.rat;have q0:=zA (o:=0) X.row;have q4:=zA (o:=4) X.row;have q8:=zA (o:=8) X.row;simp at q0 q4 q8;obtain⟨pb,cb,rfl⟩:=jj X.G5;obtain⟨I,r⟩:∃ I,I=s.bs.length:=⟨_,rfl⟩;rw[<-r] at q4
 cases cl with
 | true =>
  rw[if_pos rfl,if_pos rfl];clear X R r;go_enter func97,ntmps97;go_wp2;go_ret;exact⟨rfl,ym.same ⟨_,_,_,_,_,_,O.out⟩ (ja.refl _ _)⟩
 | false =>
  rw[if_neg (by simp),if_neg (by simp)];rcases ZB I with h0|h0
  ·have Z:s.bs=[]:=xB (by omega)
   have ao:Hid (s.flush=s):=jb (by unfold Rf.St.flush;rw[if_pos Z]);have e2:((I:Int)==0)=true:=by simp;omega
   clear X R r h0 Z;go_enter func97,ntmps97;go_wp2;go_ret;exact⟨rfl,by rw[ao.out];exact ym.same ⟨_,_,_,_,_,_,O.out⟩ (ja.refl _ _)⟩
  ·have Z:s.bs≠[]:=fun e=>by rw[e] at r;simp at r;omega
   have ao:Hid (s.flush=⟨s.m.qn s.last,[],s.mem::s.bls⟩):=(show s.flush=_ from by unfold Rf.St.flush;rw[if_neg Z]);have e2:((I:Int)==0)=false:=by simp;omega
   have b0:=R.few
   have ay:1<=s.m.next:=by
    have h1:=(R.ok.Je.2.2.1 s.m.log (ZD.2 (.inr (ZE.2 rfl))));omega
   have ea:=jb (R.ok.flush hm hn ay (by omega));have cn:=bq s.bs;have ec:=jb cn;have a9:=jb b0;have eb:=jb r;have a8:=R.ok.cap;have a7:s.last=s.m.last+I:=by rw[r];rfl
   have ef:=jb a7;rw[a7] at a8;obtain⟨la,bh⟩:∃ la,la=s.m.last:=⟨_,rfl⟩;rw[<-bh] at a8;have b1:=jb bh;obtain⟨b,bf⟩:∃ b,b=s.m.next:=⟨_,rfl⟩;rw[<-bf] at q0 hn;have HX:=jb bf;have fa:decide ((2000000000:Int)<(b:Int)+2)=false:=by simp;omega
   have fv:IntKind.i64.wrap ((b:Int)+1)=(b:Int)+1:=zE (by omega) (by omega);have fu:IntKind.i64.wrap ((b:Int)+2)=(b:Int)+2:=zE (by omega) (by omega);have ft:IntKind.i64.wrap ((la:Int)+(I:Int))=(la:Int)+(I:Int):=zE (by omega) (by omega);have fs:=zC X.row;have fy:=jb X.row;have az:W.ownsRow W.heap.size 3 1 (.slice none 0 0) 0 []:=zS _ _ _ _;have ab:=az.alloc (.cells #[.int .i64 b] 3);have bo:∀ u∈[Value.int .i64 (b:Int)],u.oneCell'=true:=fun u hu=>by rw[ZE.1 hu];rfl
   have da:Hid (0+1<=maxLen):=jb (by unfold maxLen;omega);have d6:Hid ((0+1)*8<=140737488355328):=jb (by omega);have ax:W.heap.size<=(W.alloc (.cells #[.int .i64 b] 3)).heap.size:=(ja.alloc W _ (fun _=>False)).size;have ej:Hid (∀ W3,(W.alloc (.cells #[.int .i64 b] 3)).grownBy W3 (Value.slice none 0 0).ownBlock->ja W W3 (fun _=>False)):=fun W3 hg=>(ja.alloc W _ (fun _=>False)).grow hg (fun i e _=>by cases e);clear X R r h0 Z b0 cn hn bf a7 bh a8 ay;go_enter func97,ntmps97
   go_upto_region 10 with(first|(at_builtin;refine jk _ rfl (.tmp 21) (.tmp 26) 39 rfl W.heap.size 3 j0 (.int .i64 0) 1 8 underlying39 V ci ch cg rfl xD _ _ _ rfl ab ⟨W.heap.size,0,none⟩ 1 1 [.int .i64 b] rfl rfl (cell_one_new _ _ _) bo da.out d6.out ax ?_;intro p2 c2 w2 C cs dy))
   have k2:=ej.out w2 cs;simp only[zP,xZ] at C;have cw:=jb C;have B2:=O.out.keep k2 (fun _ t=>t.elim);have eq:=jb B2;have ee:=jb (Bq (by have:=zA (o:=4) B2.row;simpa using this) B2.rat.bat (by have:=a9.out;omega) (by have:=a9.out;omega));clear C cs dy ab az ax B2 q4 q8;go_wp2_with fail;refine ee.out.mono ?_;rintro e A ⟨mv,rfl,z,a6,k3⟩;have D:=Ut z;obtain⟨E,N,rfl⟩:=z.shape;obtain⟨nm,bg⟩:∃ nm,nm=(Rf.memory s.bs).length:=⟨_,rfl⟩;rw[<-bg] at z a6 D ⊢;have g0:=jb bg;have cz:=jb z;have ed:=jb a6;have aa:=(zS A A.heap.size 38 1).alloc (.cells #[.slice E nm N] 38);have ac:∀ u∈[Value.slice E nm N],u.oneCell'=true:=fun u hu=>by rw[ZE.1 hu];exact D
   have d9:Hid (0+1<=maxLen):=jb (by unfold maxLen;omega);have d5:Hid ((0+1)*24<=140737488355328):=jb (by omega);have aw:A.heap.size<=(A.alloc (.cells #[.slice E nm N] 38)).heap.size:=(ja.alloc A _ (fun _=>False)).size;have ei:Hid (∀ W4,(A.alloc (.cells #[.slice E nm N] 38)).grownBy W4 (Value.slice none 0 0).ownBlock->ja A W4 (fun _=>False)):=fun W4 hg=>(ja.alloc A _ (fun _=>False)).grow hg (fun i e _=>by cases e);clear bg z a6
   go_upto_region 11 with(first|(at_builtin;refine jk _ rfl (.tmp 28) (.tmp 31) 27 rfl A.heap.size 38 j1 (.slice none 0 0) 1 24 underlying27 cp cf ce cd rfl xD _ _ _ rfl aa ⟨A.heap.size,0,none⟩ 1 1 [.slice E nm N] rfl rfl (cell_one_new _ _ _) ac d9.out d5.out aw ?_;intro p4 c4 w4 bd cq dx))
   have k4:=ei.out w4 cq;simp only[zP,xZ] at bd;have b6:=k3.tt k4;have C:=b6.row cw.out (fun _ _ h=>h);have B4:=eq.out.keep b6 (fun _ t=>t.elim);have bn:=jb B4;have bm:=jb bd;have fc:=jb C;obtain⟨d,al⟩:∃ d,d=s.m.runs.length:=⟨_,rfl⟩;obtain⟨pr,cr,ba⟩:∃ p c,rv = .slice p d c:=by obtain⟨p,c,e,_⟩:=B4.run;rw[al];exact⟨p,c,e⟩
   have e7:=jb ba;have M:=B4.run.src;rw[<-al] at M hr;have cy:=jb al;have q6:=zA (o:=6) B4.row;simp at q6;have f6:=zB (o:=6) B4.row;rw[ba] at M q6;have d8:Hid (1+d<=maxLen):=jb (by unfold maxLen;omega);have d4:Hid ((1+d)*8<=140737488355328):=jb (by omega);have f9:=b6.size;have fn:=k2.size;have av:W.heap.size<=w4.heap.size:=by omega
   have B:∀ g,(Value.slice p2 1 c2).ownBlock=some g->W.heap.size<=g/\g<w2.heap.size:=fun g hg=>cw.out.lt g hg;have ap:=jb B
   have e5:Hid (∀ W5,w4.grownBy W5 (Value.slice p2 1 c2).ownBlock->W5.cell? ⟨y,6,none⟩=some (.slice pr d cr)/\W5.frozen? ⟨y,6,none⟩=false/\W5.heap[y]?=some (.cells #[jf s.m.next,jf s.m.last,jf s.m.log,jf s.m.base,.slice pb s.bs.length cb,lv,.slice pr d cr,xv,.bool false] 108 (0,0))):=fun W5 hg=>by
    have hk:=(ja.grown hg).same bn.out.row (fun e=>by have:=(ap.out y e.symm).1;omega);rw[e7.out] at hk;have hc:=zA (o:=6) hk;exact⟨by simpa using hc,zB hk,hk⟩
   clear al ba B4 cq dx bd B aa aw ac D
   go_upto_region 12 with(first|(at_builtin;refine za _ rfl (.tmp 34) (.tmp 38) 39 39 rfl W.heap.size 3 j0 (.int .i64 0) 1 8 underlying39 V ci ch cg rfl xD _ 1 [.int .i64 b] rfl C _ d (s.m.runs.map jf) rfl M d8.out d4.out av ?_;intro F J w5 bc bj co;obtain⟨r2,r3,r4⟩:=e5.out w5 bj))
   have cc:ja w4 w5 (fun i=>(Value.slice p2 1 c2).ownBlock=some i):=(ja.grown bj).mono (fun i _ e=>e.symm);have q:ja w4 (w5.setCell ⟨y,6,none⟩ (.slice F (1+d) J)) (fun i=>(Value.slice p2 1 c2).ownBlock=some i\/i=y):=(cc.mono (fun _ _ t=> .inl t)).trans (ja.setCell w5 ⟨y,6,none⟩ _) (fun i _ e=> .inr e);have e6:(w5.setCell ⟨y,6,none⟩ (.slice F (1+d) J)).heap[y]?=some (.cells #[jf s.m.next,jf s.m.last,jf s.m.log,jf s.m.base,.slice pb s.bs.length cb,lv,.slice F (1+d) J,xv,.bool false] 108 (0,0)):=(jc r4 _).trans rfl;have a4:=(ja.setCell w5 ⟨y,6,none⟩ (.slice F (1+d) J)).row bc (fun g hg e=>by have e':g=y:=e;have:=(bc.lt g hg).1;omega);obtain⟨w6,ck⟩:∃ w6,w6=w5.setCell ⟨y,6,none⟩ (.slice F (1+d) J):=⟨_,rfl⟩;rw[<-ck] at q e6 a4 ⊢;have fm:=k3.size
   have a5:=q.row bm.out (fun g hg t=>by
    have h1:=(bm.out.lt g hg).1
    rcases t with t|t
    ·have:=(ap.out g t).2;omega
    ·omega)
   obtain⟨ys,b9,ar,b7,a1⟩:=bn.out.rls
   have bk:∀ i,H i->¬((Value.slice p2 1 c2).ownBlock=some i\/i=y):=fun i hi t=>by
    have h1:=O.out.lt i hi;rcases t with t|t
    ·have:=(ap.out i t).1;omega
    ·rw[t] at hi;exact O.out.ny hi
   have a2:=b9.keep q (fun g hg=>bk g (b7 g hg))
   have aq:∀ u∈ys,u.oneCell'=true:=fun u hu=>by
    obtain⟨j,e0,rfl⟩:=XG hu;obtain⟨x,hx,a0⟩:=a1 j (by omega);rw[zL e0] at hx;cases hx;exact Ut a0.1
   have k:=a2.src aq;obtain⟨f,ak⟩:∃ f,f=ys.length:=⟨_,rfl⟩;obtain⟨px,cx,b8⟩:∃ p c,xv = .slice p f c:=by obtain⟨p,c,e,_⟩:=b9;rw[ak];exact⟨p,c,e⟩
   rw[<-ak] at k
   have fr:f<1000000:=by
    have:=O.out.rat.Ln;omega
   have e4:=jb b8;have fz:=jb ak;have db:=jb a1;have fw:=jb b7;have e3:=jb ar;have fx:=jb a2;have g1:=jb bk;have em:=jb e6;have cv:=jb a4;have fb:=jb a5;have q7:=zA (o:=7) e6;simp at q7;have f7:=zB (o:=7) e6;rw[b8] at k q7;have d7:Hid (1+f<=maxLen):=jb (by unfold maxLen;omega);have d3:Hid ((1+f)*24<=140737488355328):=jb (by omega);have f8:=q.size;have fl:=k4.size;have au:A.heap.size<=w6.heap.size:=by omega
   have d0:Hid (∀ g,(Value.slice p4 1 c4).ownBlock=some g->A.heap.size<=g/\g<w4.heap.size):=jb (fun g hg=>bm.out.lt g hg)
   have dd:Hid (∀ W7,w6.grownBy W7 (Value.slice p4 1 c4).ownBlock->W7.cell? ⟨y,7,none⟩=some (.slice px f cx)/\W7.frozen? ⟨y,7,none⟩=false/\W7.heap[y]?=some (.cells #[jf s.m.next,jf s.m.last,jf s.m.log,jf s.m.base,.slice pb s.bs.length cb,lv,.slice F (1+d) J,.slice px f cx,.bool false] 108 (0,0))):=fun W7 hg=>by
    have hk:=(ja.grown hg).same em.out (fun e=>by have:=(d0.out y e.symm).1;omega);rw[e4.out] at hk;have hc:=zA (o:=7) hk;exact⟨by simpa using hc,zB hk,hk⟩
   have eg:=jb co;clear ak b8 a1 b7 ar b9 a2 bk bc a4 bj co r2 r3 r4 cc M e6 ck q6 f6 aq C av
   go_upto_region 13 with(first|(at_builtin;refine za _ rfl (.tmp 43) (.tmp 47) 27 27 rfl A.heap.size 38 j1 (.slice none 0 0) 1 24 underlying27 cp cf ce cd rfl xD _ 1 [.slice E nm N] rfl a5 _ f ys rfl k d7.out d3.out au ?_;intro U Y w7 bb bi dw;obtain⟨r2,r3,r4⟩:=dd.out w7 bi))
   have S:ja w6 (w7.setCell ⟨y,7,none⟩ (.slice U (1+f) Y)) (fun i=>(Value.slice p4 1 c4).ownBlock=some i\/i=y):=((ja.grown bi).mono (fun i _ e=> .inl e.symm)).trans (ja.setCell w7 ⟨y,7,none⟩ _) (fun i _ e=> .inr e);have T:(w7.setCell ⟨y,7,none⟩ (.slice U (1+f) Y)).heap[y]?=some (.cells #[jf s.m.next,jf s.m.last,jf s.m.log,jf s.m.base,.slice pb s.bs.length cb,lv,.slice F (1+d) J,.slice U (1+f) Y,.bool false] 108 (0,0)):=(jc r4 _).trans rfl;have a3:=(ja.setCell w7 ⟨y,7,none⟩ (.slice U (1+f) Y)).row bb (fun g hg e=>by have e':g=y:=e;have:=(bb.lt g hg).1;omega);obtain⟨w8,cj⟩:∃ w8,w8=w7.setCell ⟨y,7,none⟩ (.slice U (1+f) Y):=⟨_,rfl⟩;rw[<-cj] at S T a3 ⊢;rw[<-HX.out,<-b1.out,<-eb.out] at T;have el:=jb T;have cu:=jb a3;have q0:=zA (o:=0) T;have q1:=zA (o:=1) T;have q2:=zA (o:=2) T;have q4:=zA (o:=4) T;simp at q0 q1 q2 q4;have f0:=zB (o:=0) T;have f1:=zB (o:=1) T;have f2:=zB (o:=2) T;have f4:=zB (o:=4) T;clear T bb a3 bi dw r2 r3 r4 cj k q7 f7 a5 au
   go_region
   have l:ja w8 ((((w8.setCell ⟨y,1,none⟩ (.int .i64 ((la:Int)+(I:Int)))).setCell ⟨y,4,none⟩ (.slice none 0 0)).setCell ⟨y,2,none⟩ (.int .i64 ((b:Int)+1))).setCell ⟨y,0,none⟩ (.int .i64 ((b:Int)+2))).drew (fun i=>i=y):=(((((ja.refl w8 (fun i=>i=y)).set (p:=⟨y,1,none⟩) rfl _).set (p:=⟨y,4,none⟩) rfl _).set (p:=⟨y,2,none⟩) rfl _).set (p:=⟨y,0,none⟩) rfl _).draw;have hD:w8.heap[y]?=some (.cells #[jf b,jf la,jf s.m.log,jf s.m.base,.slice pb I cb,lv,.slice F (1+d) J,.slice U (1+f) Y,.bool false] 108 (0,0)):=el.out;have ct:=jc (o:=0) (jc (o:=2) (jc (o:=4) (jc (o:=1) hD (.int .i64 ((la:Int)+(I:Int)))) (.slice none 0 0)) (.int .i64 ((b:Int)+1))) (.int .i64 ((b:Int)+2));have e9:((((w8.setCell ⟨y,1,none⟩ (.int .i64 ((la:Int)+(I:Int)))).setCell ⟨y,4,none⟩ (.slice none 0 0)).setCell ⟨y,2,none⟩ (.int .i64 ((b:Int)+1))).setCell ⟨y,0,none⟩ (.int .i64 ((b:Int)+2))).drew.heap[y]?=_:=ct;have c1:(Value.int .i64 ((b:Int)+2))=jf (s.m.next+2):=by rw[<-HX.out];simp
   have c2:(Value.int .i64 ((b:Int)+1))=jf (s.m.next+1):=by rw[<-HX.out];simp
   have c3:(Value.int .i64 ((la:Int)+(I:Int)))=jf s.last:=by rw[ef.out,<-b1.out];simp
   have eh:=jb l;have ek:=jb e9;have ep:=jb c1;have eo:=jb c2;have en:=jb c3;have df:=jb q;have de:=jb S;clear l e9 ct c1 c2 c3 hD;go_wp2;go_ret;refine⟨rfl,?_⟩;rw[ao.out];have q:=df.out;have S:=de.out;have l:=eh.out;have be:=ea.out;rw[ao.out] at be;have d1:Rf.mo s.mem:=be.bl s.mem xJ;generalize hW9:((((w8.setCell ⟨y,1,none⟩ (.int .i64 ((la:Int)+(I:Int)))).setCell ⟨y,4,none⟩ (.slice none 0 0)).setCell ⟨y,2,none⟩ (.int .i64 ((b:Int)+1))).setCell ⟨y,0,none⟩ (.int .i64 ((b:Int)+2))).drew=W9 at l ⊢;have e9:=ek.out;rw[hW9,ep.out,eo.out,en.out] at e9;have fq:=q.size;have fp:=S.size;have fo:=l.size;have s3:=k3.size;have s4:=k4.size
   have am:∀ g,(Value.slice E nm N).ownBlock=some g->w2.heap.size<=g/\g<A.heap.size:=fun g hg=>by
    refine⟨ed.out g hg,?_⟩
    cases E with
    | none=>cases hg
    | some ad =>
     have:=cz.out.lt d1.some;cases hg;exact this
   have B:=ap.out;have an:=d0.out
   have v:∀ g,(Value.slice F (1+d) J).ownBlock=some g->W.heap.size<=g/\g<w6.heap.size/\¬(Value.slice p4 1 c4).ownBlock=some g:=fun g hg=>by
    have h1:=cv.out.lt g hg;refine⟨h1.1,h1.2,fun e=>?_⟩;have h2:=an g e;rcases eg.out with t|t
    ·rw[t] at hg
     have:=B g hg;omega
    ·rw[t] at hg
     cases hg;omega
   have L:∀ g,(Value.slice U (1+f) Y).ownBlock=some g->A.heap.size<=g/\g<w8.heap.size:=fun g hg=>cu.out.lt g hg
   have kT:ja w4 W9 (fun i=>(Value.slice p2 1 c2).ownBlock=some i\/(Value.slice p4 1 c4).ownBlock=some i\/i=y):=by
    refine((q.mono (fun i _ t=>?_)).trans S (fun i _ t=>?_)).trans l (fun i _ t=> .inr (.inr t))
    ·rcases t with t|t
     ·exact .inl t
     ·exact .inr (.inr t)
    ·exact .inr t
   have hT:∀ i,H i->¬((Value.slice p2 1 c2).ownBlock=some i\/(Value.slice p4 1 c4).ownBlock=some i\/i=y):=fun i hi t=>by
    have h1:=O.out.lt i hi;rcases t with t|t|t
    ·have:=B i t;omega
    ·have:=an i t;omega
    ·rw[t] at hi;exact O.out.ny hi
   have B4:=bn.out
   have d2:Chs W9 (.slice E nm N) s.mem:=(cz.out.same k4).keep kT (fun _ p n c e t=>by
    have h1:=am p.block (by rw[e];rfl)
    rcases t with t|t|t
    ·have:=B _ t;omega
    ·have:=an _ t;omega
    ·omega)
   refine⟨fun i=>(H i\/(Value.slice F (1+d) J).ownBlock=some i\/(Value.slice U (1+f) Y).ownBlock=some i\/(Value.slice E nm N).ownBlock=some i)\/i=y,⟨.slice none 0 0,lv,.slice F (1+d) J,.slice U (1+f) Y,fun i=>H i\/(Value.slice F (1+d) J).ownBlock=some i\/(Value.slice U (1+f) Y).ownBlock=some i\/(Value.slice E nm N).ownBlock=some i,[],?_⟩,?_,?_⟩
   ·refine⟨e9.trans rfl,zS _ _ _ _,fun j V=>(by cases V),?_,?_,fun g t=> .inr (.inl t),?_,be,?_,?_,fun g t=>(by cases t),?_,fun i=>⟨fun t=>?_,fun t=>?_⟩⟩
    ·rw[Tl (bs:=s.bs)]
     exact B4.bas.keep kT hT (fun _ t=> .inl t)
    ·have h1:zl w6 (.slice F (1+d) J) (s.m.next::s.m.runs):=ze (n:=1+d) (by have:=cv.out;rw[HX.out] at this;exact this) (by rw[zX,cy.out];omega)
     refine(h1.keep S (fun _ p n c e t=>?_)).keep l (fun _ p n c e t=>?_)
     ·have h2:=v p.block (by rw[e];rfl)
      rcases t with t|t
      ·exact h2.2.2 t
      ·omega
     ·have h2:=v p.block (by rw[e];rfl)
      have t':p.block=y:=t;omega
    ·refine⟨.slice E nm N::ys,?_,?_,fun g t=> .inr (.inr (.inl t)),?_⟩
     ·exact(Dd cu.out).keep l (fun g hg t=>by have:=L g hg;have t':g=y:=t;omega)
     ·rw[nu (bs:=s.bs),zX,zX,e3.out]
     ·have key:∀ j (V:j<(s.mem::s.rls).length),∃ x,(Value.slice E nm N::ys)[j]?=some x/\ElG W9 (fun i=>H i\/(Value.slice F (1+d) J).ownBlock=some i\/(Value.slice U (1+f) Y).ownBlock=some i\/(Value.slice E nm N).ownBlock=some i) x ((s.mem::s.rls)[j]'V):=fun j V=>?_
      ·intro j V
       have e1:j<(s.mem::s.rls).length:=by rw[nu (bs:=s.bs)] at V;exact V
       obtain⟨x,hx,a0⟩:=key j e1;refine⟨x,hx,?_⟩;have e:=List.getElem_of_eq (nu (m:=s.m) (bs:=s.bs) (bls:=s.bls) (x:=s.mem) (last:=s.last)) V;exact(congrArg (ElG W9 _ x) e).mpr a0
      cases j with
      | zero=>exact⟨_,rfl,d2,fun g t=> .inr (.inr (.inr t))⟩
      | succ j =>
       obtain⟨x,hx,a0⟩:=db.out j (by simpa using V);exact⟨x,by simpa using hx,by simpa using a0.keep kT hT (fun _ t=> .inl t)⟩
    ·have h1:=a9.out
     have h2:=ec.out;have h3:x7 (s.mem::s.bls)=s.mem.length+x7 s.bls:=by simp[x7]
     have h4:s.mem.length=(Rf.memory s.bs).length:=rfl;have h5:=B4.ok.len;have h6:s.m.settled.length<=s.m.runs.length+1:=by unfold Rf.Man.settled;split<;>simp
     have h7:=cy.out;refine⟨?_,by simp,?_⟩
     ·show x7 []+x7 (s.mem::s.bls)<4000000
      have h8:x7 []=0:=rfl;omega
     ·show(s.mem::s.bls).length<1000000
      rw[zX];omega
    ·rintro(t|t|t|t)
     ·exact O.out.ny t
     ·have:=v y t;omega
     ·have:=L y t;omega
     ·have:=am y t;omega
    ·rintro i (t|t|t|t)
     ·have:=O.out.lt i t;omega
     ·have:=v i t;omega
     ·have:=L i t;omega
     ·have:=am i t;omega
    ·rcases t with t|t
     ·exact .inl t
     ·exact .inr (.inl t)
    ·rcases t with t|t|t
     ·exact .inl t
     ·exact .inr t
     ·cases t
   ·refine((k2.tt k3).tt k4).up |>.trans kT (fun i hi t=>?_)
    rcases t with t|t|t
    ·have:=B i t;omega
    ·have:=an i t;omega
    ·exact(O.out.J9 i).2 (.inr (.inl t))
   ·rintro i ((t|t|t|t)|t)
    ·exact .inl ((O.out.J9 i).2 (.inl t))
    ·have:=v i t;exact .inr (by omega)
    ·have:=L i t;exact .inr (by omega)
    ·have:=am i t;exact .inr (by omega)
    ·exact .inl ((O.out.J9 i).2 (.inr (.inl t)))
theorem Mx{T:List Rf.Ch}{lo hi:Str}{m j:Nat}(h:¬(z7 T lo hi m j).length<m):z7 T lo hi m T.length=z7 T lo hi m j:=by
 unfold z7 at h ⊢;rw[ZT] at h;have e:T=T.take j++T.drop j:=(ZR j T).symm;rw[zW]
 conv=>lhs;rw[e]
 rw[xR,XH (by omega)]
def Xc(s:Rf.St)(cl:Bool)(lo hi:Str)(most:Int):List Rf.Ch×Int:=if cl=true then([],3)else if most<0 then([],5)else(Rf.Zw s.all lo hi most.toNat,0)
theorem Vh{cl:Bool}(R:RAt w y s cl bv lv rv xv)(lo hi:Str)(most:Int)(b8:-9223372036854775808<=most)(b7:most<=9223372036854775807):Calls prog 140 #[.pointer (some ⟨y,0,none⟩),jd lo,jd hi,.int .i64 most] w fun e w'=>∃ v',e = .returned (.tuple #[v',.int .i64 (Xc s cl lo hi most).2])/\w'.ownsRow w.heap.size 88 3 v' (Xc s cl lo hi most).1.length (jg (Xc s cl lo hi most).1)/\ja w w' (fun _=>False):=by
 obtain⟨j1,a3,X,W,V⟩:=info_parts Tryz.Jz;have q8:=zA (o:=8) R.row;simp at q8
 cases cl with
 | true =>
  have d:Hid (Xc s true lo hi most=([],3)):=jb (rfl);clear R;go_enter func140,ntmps140;go_wp2;go_ret2;exact⟨.slice none 0 0,by rw[d.out];rfl,by rw[d.out];exact zS _ _ _ _,ja.refl _ _⟩
 | false =>
  rcases(by omega:most<0\/0<=most)with a7|D
  ·have d:Hid (Xc s false lo hi most=([],5)):=jb (by unfold Xc;rw[if_neg (by simp),if_pos a7])
   clear R;go_enter func140,ntmps140;go_wp2;go_ret2;exact⟨.slice none 0 0,by rw[d.out];rfl,by rw[d.out];exact zS _ _ _ _,ja.refl _ _⟩
  ·obtain⟨m,rfl⟩:=Int.eq_ofNat_of_zero_le D
   have ag:¬(m:Int)<0:=by omega
   have HT:=jb (Kd R);have Y:=R.M3
   have d:Hid (Xc s false lo hi m=(z7 s.tell lo hi m s.tell.length,0)):=jb (by
    unfold Xc z7 Rf.Zw
    rw[if_neg (by simp),if_neg ag,zW]
    rfl)
   generalize s.tell=T at HT Y d;clear R D;go_enter func140,ntmps140;go_wp2_with fail;refine HT.out.mono ?_;rintro e v ⟨v1,rfl,I,k1⟩;obtain⟨p1,c1,rfl⟩:=jj I;have an:=jb (xw I);obtain⟨n,hn⟩:∃ n,n=T.length:=⟨_,rfl⟩;rw[<-hn] at Y ⊢;have HN:=jb hn;clear I hn
   go_upto_block 0 with fail
   go_cut [10,12] from 13 (fun t10 _ wc=>wc.ownsRow v.heap.size 88 3 t10 (z7 T lo hi m T.length).length (jg (z7 T lo hi m T.length))/\ja v wc (fun _=>False))
   case first =>
    go_wp2_with fail
    go_loopw [10,12] (fun t10 t12 wr=>∃ j:Nat,t12 = .int .i64 j/\j<=n/\wr.ownsRow v.heap.size 88 3 t10 (z7 T lo hi m j).length (jg (z7 T lo hi m j))/\ja v wr (fun _=>False)) (fun _ t12 _=>n-(intOf t12).toNat)
    case atStart=>exact⟨0,rfl,zU _,by unfold z7;simp[jg];exact zS _ _ _ _,ja.refl _ _⟩
    case round =>
     obtain⟨j,rfl,b9,G,B⟩:=hrel;have am:=jb G;obtain⟨pq,cq,rfl⟩:=jj G;have ae:=Hi T lo hi m j;obtain⟨q,C⟩:∃ q,q=(z7 T lo hi m j).length:=⟨_,rfl⟩;obtain⟨L,hL⟩:∃ L,L=z7 T lo hi m j:=⟨_,rfl⟩;rw[<-C] at ae ⊢;have p:Hid (q=(z7 T lo hi m j).length):=C;have b:Hid (wr.ownsRow v.heap.size 88 3 (.slice pq q cq) q (jg L)):=by have:=am.out;rw[<-C,<-hL] at this;exact this
     have l:=jb hL;clear G C hL;rcases ZJ j n with ah|ba
     ·have aj:(j:Int)<(n:Int):=by omega
      rcases ZJ q m with J|J
      ·have af:(q:Int)<(m:Int):=by omega
       have M:j<T.length:=by rw[<-HN.out];exact ah
       obtain⟨g,og,rfl,a0,a1,a2⟩:=(by have:=an.out.same B;exact this:Chs wr (.slice p1 T.length c1) T).at M;have O:T[j]?=some T[j]:=zL M;generalize T[j]=x at a0 a1 a2 O;obtain⟨k,c,z⟩:=x;simp only at a0 a1 a2;have A:=jb O;have b6:IntKind.i64.wrap ((j:Int)+1)=(j:Int)+1:=zE (by omega) (by omega);have a5:Hid (q+1<=maxLen):=jb (by unfold maxLen;omega);have a4:Hid ((q+1)*40<=140737488355328):=jb (by omega);have t:=b.out.alloc (.cells #[jd k,jd c,.bool z] 88);have E:∀ u∈jg [⟨k,c,z⟩],u.oneCell'=true:=Xf _
       have F:∀ j' u,(jg [⟨k,c,z⟩])[j']?=some u->(wr.alloc (.cells #[jd k,jd c,.bool z] 88)).cell? ((⟨wr.heap.size,0,none⟩:Addr).add j')=some u:=fun j' u hu=>by
        rw[Ju,zA (je wr _)];simpa [jg] using hu
       have Z:v.heap.size<=(wr.alloc (.cells #[jd k,jd c,.bool z] 88)).heap.size:=ZF B.size (ja.alloc wr _ (fun _=>False)).size;clear O M;by_cases hK:k<lo
       ·have ak:Op.bytesLess k lo=true:=by rw[bytesLess_eq];simpa using hK
        have f:=jb (Db (lo:=lo) (hi:=hi) (m:=m) A.out (by simp[Rf.Xy,hK]));clear hK;go_wp2;exact⟨⟨j+1,by simp,by omega,by rw[f.out,<-p.out,<-l.out];exact b.out,B⟩,by simp[intOf];omega⟩
       ·have ak:Op.bytesLess k lo=false:=by rw[bytesLess_eq];simpa using hK
        by_cases h0:hi=[]
        ·have U:Hid (Rf.Xy lo hi ⟨k,c,z⟩=true):=jb (by simp[Rf.Xy,hK,h0])
         have hE:List.isEmpty hi=true:=by rw[h0];rfl
         clear hK h0;have f:=jb (I7 A.out U.out (by rw[<-p.out];exact J));have S:Hid ((z7 T lo hi m (j+1)).length=q+1):=by rw[f.out,ZY,<-p.out];rfl
         go_wp2_with (first|(at_builtin;refine jk _ rfl (.tmp 53) (.tmp 58) 38 rfl v.heap.size 88 j1 Jy 3 40 underlying38 a3 X W V rfl (ZG 2) _ _ _ rfl t ⟨wr.heap.size,0,none⟩ 1 1 (jg [⟨k,c,z⟩]) rfl rfl F E a5.out a4.out Z ?_;intro p7 c7 w7 r N ai))
         have k7:ja v w7 (fun _=>False):=(B.more _).grow N (fun i e hi=>by have:=(b.out.lt i e).1;omega);rw[<-yq,l.out,<-f.out] at r;exact⟨⟨j+1,by simp,by omega,by rw[S.out];exact r,k7⟩,by simp[intOf];omega⟩
        ·have hE:List.isEmpty hi=false:=by cases hi<;>simp_all
         by_cases hH:k<hi
         ·have U:Hid (Rf.Xy lo hi ⟨k,c,z⟩=true):=jb (by simp[Rf.Xy,hK,hH])
          have al:Op.bytesLess k hi=true:=by rw[bytesLess_eq];simpa using hH
          clear hK h0 hH;have f:=jb (I7 A.out U.out (by rw[<-p.out];exact J));have S:Hid ((z7 T lo hi m (j+1)).length=q+1):=by rw[f.out,ZY,<-p.out];rfl
          go_wp2_with (first|(at_builtin;refine jk _ rfl (.tmp 53) (.tmp 58) 38 rfl v.heap.size 88 j1 Jy 3 40 underlying38 a3 X W V rfl (ZG 2) _ _ _ rfl t ⟨wr.heap.size,0,none⟩ 1 1 (jg [⟨k,c,z⟩]) rfl rfl F E a5.out a4.out Z ?_;intro p7 c7 w7 r N ai))
          have k7:ja v w7 (fun _=>False):=(B.more _).grow N (fun i e hi=>by have:=(b.out.lt i e).1;omega);rw[<-yq,l.out,<-f.out] at r;exact⟨⟨j+1,by simp,by omega,by rw[S.out];exact r,k7⟩,by simp[intOf];omega⟩
         ·have al:Op.bytesLess k hi=false:=by rw[bytesLess_eq];simpa using hH
          have f:=jb (Db (lo:=lo) (hi:=hi) (m:=m) A.out (by simp[Rf.Xy,hK,h0,hH]));clear hK h0 hH;go_wp2;exact⟨⟨j+1,by simp,by omega,by rw[f.out,<-p.out,<-l.out];exact b.out,B⟩,by simp[intOf];omega⟩
      ·have af:¬(q:Int)<(m:Int):=by omega
       have HD:=jb (Mx (T:=T) (lo:=lo) (hi:=hi) (m:=m) (j:=j) (by rw[<-p.out];omega));go_wp2;go_meet
       case rel=>exact⟨by rw[HD.out,<-p.out,<-l.out];exact b.out,B⟩
     ·have aj:¬(j:Int)<(n:Int):=by omega
      have HJ:Hid (T.length=j):=jb (by rw[<-HN.out];omega);go_wp2;go_meet
      case rel=>exact⟨by rw[HJ.out,<-p.out,<-l.out];exact b.out,B⟩
   case rest =>
    obtain⟨H,kc⟩:=hcut;obtain⟨pq,cq,rfl⟩:=jj H;have a6:=jb H;clear H;obtain⟨q,C⟩:∃ q,q=(z7 T lo hi m T.length).length:=⟨_,rfl⟩;rw[<-C] at a6 ⊢;have p:=jb C;clear C;go_wp2;go_ret2;exact⟨.slice pq q cq,by rw[d.out];rfl,by rw[d.out];simp only;rw[<-p.out];exact qg a6.out k1.size,k1.tt kc⟩
theorem Sf{b:Nat}{l k j g f d c v0 v1 v2 v3 v4 v5 v6:Value}(h:w.heap[b]?=some (.cells #[l,k,j,g,f,d,c] 61 (0,0))):(((((((w.setCell ⟨b,0,none⟩ v0).setCell ⟨b,1,none⟩ v1).setCell ⟨b,2,none⟩ v2).setCell ⟨b,3,none⟩ v3).setCell ⟨b,4,none⟩ v4).setCell ⟨b,5,none⟩ v5).setCell ⟨b,6,none⟩ v6).heap[b]?=some (.cells #[v0,v1,v2,v3,v4,v5,v6] 61 (0,0))/\ja w (((((((w.setCell ⟨b,0,none⟩ v0).setCell ⟨b,1,none⟩ v1).setCell ⟨b,2,none⟩ v2).setCell ⟨b,3,none⟩ v3).setCell ⟨b,4,none⟩ v4).setCell ⟨b,5,none⟩ v5).setCell ⟨b,6,none⟩ v6) (fun i=>i=b):=by
 have B:(w.setCell ⟨b,0,none⟩ v0).heap[b]?=some (.cells #[v0,k,j,g,f,d,c] 61 (0,0)):=(jc h _).trans rfl;have t:ja w (w.setCell ⟨b,0,none⟩ v0) (fun i=>i=b):=ja.setCell w _ _;have A:((w.setCell ⟨b,0,none⟩ v0).setCell ⟨b,1,none⟩ v1).heap[b]?=some (.cells #[v0,v1,j,g,f,d,c] 61 (0,0)):=(jc B _).trans rfl;have s:ja w ((w.setCell ⟨b,0,none⟩ v0).setCell ⟨b,1,none⟩ v1) (fun i=>i=b):=t.set (p:=⟨b,1,none⟩) rfl _;have z:(((w.setCell ⟨b,0,none⟩ v0).setCell ⟨b,1,none⟩ v1).setCell ⟨b,2,none⟩ v2).heap[b]?=some (.cells #[v0,v1,v2,g,f,d,c] 61 (0,0)):=(jc A _).trans rfl;have r:ja w (((w.setCell ⟨b,0,none⟩ v0).setCell ⟨b,1,none⟩ v1).setCell ⟨b,2,none⟩ v2) (fun i=>i=b):=s.set (p:=⟨b,2,none⟩) rfl _;have y:((((w.setCell ⟨b,0,none⟩ v0).setCell ⟨b,1,none⟩ v1).setCell ⟨b,2,none⟩ v2).setCell ⟨b,3,none⟩ v3).heap[b]?=some (.cells #[v0,v1,v2,v3,f,d,c] 61 (0,0)):=(jc z _).trans rfl;have q:ja w ((((w.setCell ⟨b,0,none⟩ v0).setCell ⟨b,1,none⟩ v1).setCell ⟨b,2,none⟩ v2).setCell ⟨b,3,none⟩ v3) (fun i=>i=b):=r.set (p:=⟨b,3,none⟩) rfl _;have x:(((((w.setCell ⟨b,0,none⟩ v0).setCell ⟨b,1,none⟩ v1).setCell ⟨b,2,none⟩ v2).setCell ⟨b,3,none⟩ v3).setCell ⟨b,4,none⟩ v4).heap[b]?=some (.cells #[v0,v1,v2,v3,v4,d,c] 61 (0,0)):=(jc y _).trans rfl;have o:ja w (((((w.setCell ⟨b,0,none⟩ v0).setCell ⟨b,1,none⟩ v1).setCell ⟨b,2,none⟩ v2).setCell ⟨b,3,none⟩ v3).setCell ⟨b,4,none⟩ v4) (fun i=>i=b):=q.set (p:=⟨b,4,none⟩) rfl _;have v:((((((w.setCell ⟨b,0,none⟩ v0).setCell ⟨b,1,none⟩ v1).setCell ⟨b,2,none⟩ v2).setCell ⟨b,3,none⟩ v3).setCell ⟨b,4,none⟩ v4).setCell ⟨b,5,none⟩ v5).heap[b]?=some (.cells #[v0,v1,v2,v3,v4,v5,c] 61 (0,0)):=(jc x _).trans rfl;have n:ja w ((((((w.setCell ⟨b,0,none⟩ v0).setCell ⟨b,1,none⟩ v1).setCell ⟨b,2,none⟩ v2).setCell ⟨b,3,none⟩ v3).setCell ⟨b,4,none⟩ v4).setCell ⟨b,5,none⟩ v5) (fun i=>i=b):=o.set (p:=⟨b,5,none⟩) rfl _;have u:(((((((w.setCell ⟨b,0,none⟩ v0).setCell ⟨b,1,none⟩ v1).setCell ⟨b,2,none⟩ v2).setCell ⟨b,3,none⟩ v3).setCell ⟨b,4,none⟩ v4).setCell ⟨b,5,none⟩ v5).setCell ⟨b,6,none⟩ v6).heap[b]?=some (.cells #[v0,v1,v2,v3,v4,v5,v6] 61 (0,0)):=(jc v _).trans rfl;have m:ja w (((((((w.setCell ⟨b,0,none⟩ v0).setCell ⟨b,1,none⟩ v1).setCell ⟨b,2,none⟩ v2).setCell ⟨b,3,none⟩ v3).setCell ⟨b,4,none⟩ v4).setCell ⟨b,5,none⟩ v5).setCell ⟨b,6,none⟩ v6) (fun i=>i=b):=n.set (p:=⟨b,6,none⟩) rfl _;exact⟨u,m⟩
theorem Vk{cl:Bool}(R:RAt w y s cl bv lv rv xv):Calls prog 142 #[.pointer (some ⟨y,0,none⟩)] w fun e w'=>∃ p c,e = .returned (.agg #[ju s.last,ju s.m.log,ju s.m.base,ju s.m.next,.slice p s.m.runs.length c,.bool false,.bool cl])/\w'.ownsRow w.heap.size 3 1 (.slice p s.m.runs.length c) s.m.runs.length (s.m.runs.map jf)/\ja w w' (fun _=>False):=by
 obtain⟨j0,hj,af,ae,ad⟩:=info_parts Tryz.dz;obtain⟨n1,n2,n3,n4,n5,n6⟩:=R.bounds;have q:=R.few;have q0:=zA (o:=0) R.row;have q1:=zA (o:=1) R.row;have q2:=zA (o:=2) R.row;have q3:=zA (o:=3) R.row;have q4:=zA (o:=4) R.row;have S:=zA (o:=6) R.row;have q8:=zA (o:=8) R.row;simp at q0 q1 q2 q3 q4 S q8;have ag:=zC R.row;have C:=R.run;obtain⟨pb,cb,rfl⟩:=R.bat.shape;obtain⟨pr,cr,rfl⟩:∃ p c,rv = .slice p s.m.runs.length c:=by obtain⟨p,c,e,_⟩:=C;exact⟨p,c,e⟩
 have r:s.last=s.m.last+s.bs.length:=rfl;rw[r];obtain⟨l,V⟩:∃ l,l=s.bs.length:=⟨_,rfl⟩;rw[<-V] at q4 q ⊢;have ar:l<1000000:=q.2.1;have bi:IntKind.i64.wrap ((s.m.last:Int)+(l:Int))=(s.m.last:Int)+(l:Int):=zE (by omega) (by omega);have al:=jb C;clear V q r R C n5;generalize s.m.last=la at *
 generalize s.m.log=lo at *
 generalize s.m.base=ba at *
 generalize s.m.next=nx at *
 generalize s.m.runs=runs at *
 obtain⟨k,E⟩:∃ k,k=runs.length:=⟨_,rfl⟩;rw[<-E] at S n6 ⊢;have am:=jb E;clear E;obtain⟨u,x⟩:∃ u,u=w.alloc (.cells #[.int .i64 0,.int .i64 0,.int .i64 0,.int .i64 0,.slice none 0 0,.bool false,.bool false] 61):=⟨_,rfl⟩;obtain⟨d,G⟩:∃ d,d=w.heap.size:=⟨_,rfl⟩;have bm:¬y=d:=by omega
 have bl:¬d=y:=by omega
 have bk:¬y=d+1:=by omega
 have bj:¬d+1=y:=by omega
 have v:ja w u (fun _=>False):=by rw[x];exact ja.alloc _ _ _
 have B:u.heap.size=d+1:=by rw[x,G];exact Array.size_push _
 have q0:=v.cell q0 id;have q1:=v.cell q1 id;have q2:=v.cell q2 id;have q3:=v.cell q3 id;have q4:=v.cell q4 id;have S:=v.cell S id;have q8:=v.cell q8 id;have Y:=jb x;have L:=jb G;clear x G ag;go_enter func142,ntmps142;go_wp2_with fail;rw[<-Y.out,<-L.out]
 go_region_held (fun W=>W.cell? ⟨y,0,none⟩=some (jf nx)/\W.cell? ⟨y,1,none⟩=some (jf la)/\W.cell? ⟨y,2,none⟩=some (jf lo)/\W.cell? ⟨y,3,none⟩=some (jf ba)/\W.cell? ⟨y,4,none⟩=some (.slice pb l cb)/\W.cell? ⟨y,8,none⟩=some (.bool cl)) (go_keep) (fail)
 obtain⟨j,n⟩:∃ j,j=(u.alloc (.cells #[.int .i64 ((la:Int)+(l:Int)),.int .i64 lo,.int .i64 ba,.int .i64 nx,.slice none 0 0,.bool false,.bool cl] 61)).drew:=⟨_,rfl⟩;rw[<-n];have kA:=ja.alloc u (.cells #[.int .i64 ((la:Int)+(l:Int)),.int .i64 lo,.int .i64 ba,.int .i64 nx,.slice none 0 0,.bool false,.bool cl] 61) (fun _=>False);have k2:ja u j (fun _=>False):=by rw[n];exact kA.tt (ja.drew _ _)
 have A:j.heap.size=d+2:=by rw[n];show(u.alloc _).heap.size=_;rw[xO,B]
 have H:j.heap[d+1]?=some (.cells #[.int .i64 ((la:Int)+(l:Int)),.int .i64 lo,.int .i64 ba,.int .i64 nx,.slice none 0 0,.bool false,.bool cl] 61 (0,0)):=by rw[n,<-B];exact je u _
 have X:j.heap[d]?=some (.cells #[.int .i64 0,.int .i64 0,.int .i64 0,.int .i64 0,.slice none 0 0,.bool false,.bool false] 61 (0,0)):=k2.same (by rw[Y.out,L.out];exact je _ _) id;have kd:ja j j.drew (fun _=>False):=ja.drew _ _;have r6:=k2.cell S id;have z4:=zA (o:=4) H;simp at z4;have z:=jb ((((al.out.same v).same k2).same kd).src);rw[<-am.out] at z;have aj:Hid (0+k<=maxLen):=jb (by unfold maxLen;omega);have ai:Hid ((0+k)*8<=140737488355328):=jb (by omega);have t:d+2<=j.drew.heap.size:=Nat.le_of_eq A.symm;have a1:j.drew.ownsRow (d+2) 3 1 (.slice none 0 0) 0 []:=zS _ _ _ _;have Z:=jb H;have an:=jb X;have bn:=jb A;have a0:Hid (∀ W3,j.drew.grownBy W3 (Value.slice none 0 0).ownBlock->ja j W3 (fun _=>False)):=fun W3 hg=>kd.grow hg (fun i e _=>by cases e)
 have ak:Hid (∀ W3,j.drew.grownBy W3 (Value.slice none 0 0).ownBlock->W3.cell? ⟨d+1,4,none⟩=some (.slice none 0 0)/\W3.frozen? ⟨d+1,4,none⟩=false):=fun W3 hg=>by
  have h:=(a0.out W3 hg).same Z.out id;have hc:=zA (o:=4) h;exact⟨by simpa using hc,zB h⟩
 clear n H X A kA B;go_wp2_with fail
 go_region_law (first
  | (refine Xo rfl (.tmp 32) (.tmp 36) 39 39 rfl (d+2) 3 j0 (.int .i64 0) 1 8 underlying39 hj af ae ad rfl xD (.slice none 0 0) 0 [] (by simp[Act.eval,Act.put]) a1 (.slice pr k cr) k (runs.map jf) (by simp[Act.eval,Act.put]) z.out aj.out ai.out t ?_
     intro M N O D F ah
     obtain⟨u4,f4⟩:=ak.out O F))
 all_goals
  have k3:=a0.out O F;rw[xZ,zP] at D;have f:(O.setCell ⟨d+1,4,none⟩ (.slice M k N)).heap[d+1]?=some (.cells #[.int .i64 ((la:Int)+(l:Int)),.int .i64 lo,.int .i64 ba,.int .i64 nx,.slice M k N,.bool false,.bool cl] 61 (0,0)):=(jc (k3.same Z.out id) _).trans rfl;have k4:=ja.setCell O ⟨d+1,4,none⟩ (.slice M k N);have b:=k4.same (k3.same an.out id) (show ¬d=d+1 from by omega);obtain⟨w4,T⟩:∃ w4,w4=O.setCell ⟨d+1,4,none⟩ (.slice M k N):=⟨_,rfl⟩;rw[<-T] at f k4 b ⊢;have z0:=zA (o:=0) f;have z1:=zA (o:=1) f;have z2:=zA (o:=2) f;have z3:=zA (o:=3) f;have z4:=zA (o:=4) f;have z5:=zA (o:=5) f;have z6:=zA (o:=6) f;have x0:=zA (o:=0) b;have x1:=zA (o:=1) b;have x2:=zA (o:=2) b;have x3:=zA (o:=3) b;have x4:=zA (o:=4) b;have x5:=zA (o:=5) b;have x6:=zA (o:=6) b;simp at z0 z1 z2 z3 z4 z5 z6 x0 x1 x2 x3 x4 x5 x6;have y0:=zB (o:=0) b;have y1:=zB (o:=1) b;have y2:=zB (o:=2) b;have y3:=zB (o:=3) b;have y4:=zB (o:=4) b;have y5:=zB (o:=5) b;have y6:=zB (o:=6) b;have U:=Sf (v0:= .int .i64 ((la:Int)+(l:Int))) (v1:= .int .i64 lo) (v2:= .int .i64 ba) (v3:= .int .i64 nx) (v4:= .slice M k N) (v5:= .bool false) (v6:= .bool cl) b;have I:=jb U;have J:=jb D;clear U D f b T F ah u4 f4 t;go_wp2;refine bodyPost_ret (vi rfl rfl I.out.1) rfl ?_;have hb:=L.out;refine⟨M,N,by simp,?_,((((v.tt k2).tt k3).trans k4 (fun i hi e=>by have e':i=d+1:=e;omega)).trans I.out.2 (fun i hi e=>by have e':i=d:=e;omega))⟩;refine qg (I.out.2.row (k4.row J.out (fun g hg e=>?_)) (fun g hg e=>?_)) (show w.heap.size<=d+2 from by omega)
  ·have e':g=d+1:=e
   have:=(J.out.lt g hg).1;omega
  ·have e':g=d:=e
   have:=(J.out.lt g hg).1;omega
end Go.Proofs.YtnipbplghijdmaaGreatDoor
namespace Go.Proofs.YtnipbplghijdmaaGreatDoor
open RowKit Maps WideShapes Go.Proofs.Tryz
section
variable {E:Nat->Addr} {B:Nat} {w w':World} {d b k n:Nat} {s:Rf.St} {cl:Bool} {F:Nat->Prop}
def xm(E:Nat->Addr)(B:Nat)(w:World)(d b:Nat)(s:Rf.St)(k:Nat)(cl:Bool)(F:Nat->Prop)(w':World):Prop :=
 ∃ F' k',k'<=k/\Yc E B w' d b s k' cl F'/\ja w w' F/\∀ i,F' i->F i\/w.heap.size<=i
theorem xm.same(h:Yc E B w d b s k cl F)(c:ja w w' (fun _=>False)){m:Nat}(f:k<=m):xm E B w d b s m cl F w':=⟨F,k,f,h.keep c (fun _ _ t=>t.elim),c.up,fun _ t=> .inl t⟩
theorem xm.open{c:Rf.St}{k':Nat}(h:Qu E B w d b c k' F w'):xm E B w d b c k' false F w':=by
 obtain⟨j,i,g,f⟩:=h;exact⟨j,k',xA _,.inl ⟨rfl,i⟩,g,f⟩
theorem jdi(h:Yc E B w d b s k cl F)(m:Fits n s)(A:n<2000000)(z:j3 s.files<=6000)(v:k<530000000000)(g:Value)(es:List Rf.Ch)(i:Chs w g es)(j:∀ p n c,g = .slice (some p) n c->¬F p.block)(u:es.length<1099511627776)(q:∀ c∈es,c.key.length<1099511627776/\c.value.length<1099511627776):Calls prog 24 #[.pointer (some ⟨b,0,none⟩),g] w fun e w'=>e = .returned (.int .i64 (Jb s cl es).2)/\xm E B w d b (Jb s cl es).1 (k+20000) cl F w':=by
 cases cl with
 | true =>
  obtain⟨rv,r,_⟩:=h.shut.row;refine(P6 r g).mono ?_;rintro e w' ⟨rfl,rfl⟩;exact⟨rfl,xm.same h (ja.refl _ _) (by omega)⟩
 | false =>
  by_cases hok:Rf.qy es=true
  ·have y:=m.last
   have x:=m.bnd;have C:=x.mem;refine(K9 h.op v g es hok i j (by omega) (by omega) (by have:=Rf.Za hok (s.last+1);omega)).mono ?_;rintro e w' ⟨rfl,t⟩;have l:Jb s false es=(s.write es,0):=by simp[Jb,hok]
   rw[l];exact⟨rfl,xm.open t⟩
  ·have f:Rf.qy es=false:=by simpa using hok
   refine(Uz h.op g es i f u q).mono ?_;rintro e w' ⟨rfl,o⟩;have l:Jb s false es=(s,5):=by simp[Jb,f]
   rw[l];exact⟨rfl,xm.same h o (by omega)⟩
def jgn(E:Nat->Addr)(B:Nat)(w:World)(d b:Nat)(s:Rf.St)(k:Nat)(cl:Bool)(F:Nat->Prop)(r:List Rf.Ch×Int)(e:Ending)(w':World):Prop :=
 ∃ v,e = .returned (.tuple #[v,.int .i64 r.2])/\w'.ownsRow w.heap.size 65 2 v r.1.length (yy r.1)/\Yc E B w' d b s k cl F/\ja w w' F
theorem jfg(h:Yc E B w d b s k cl F)(l:Fits n s)(r:k<530000000000)(lo hi:Str)(most:Int)(q:most<9223372036854775808):Calls prog 29 #[.pointer (some ⟨b,0,none⟩),jd lo,jd hi,.int .i64 most] w (jgn E B w d b s k cl F (Xc s cl lo hi most)):=by
 cases cl with
 | true =>
  obtain⟨rv,f,_⟩:=h.shut.row;refine(Ve f lo hi most).mono ?_;rintro e i ⟨rfl,c⟩;exact⟨_,rfl,zS _ _ _ _,h.keep c (fun _ _ t=>t.elim),c.up⟩
 | false =>
  by_cases hneg:most<0
  ·obtain⟨ρ,rv,p,S,x⟩:=h.op
   refine(jay S.row lo hi most hneg).mono ?_;rintro e i ⟨rfl,c⟩;have g:Xc s false lo hi most=([],5):=by simp[Xc,hneg]
   rw[g];exact⟨_,rfl,zS _ _ _ _,h.keep c (fun _ _ t=>t.elim),c.up⟩
  ·obtain⟨m,rfl⟩:∃ m:Nat,most=(m:Int):=⟨most.toNat,by omega⟩
   have o:=l.bnd;have u:=o.all;have g:Xc s false lo hi (m:Int)=(Rf.Zw s.all lo hi m,0):=by simp[Xc,hneg]
   rw[g];refine(jfi h.op (by omega) (by omega) lo hi m (by omega)).mono ?_;rintro e i ⟨⟨v,rfl,f⟩,j,c⟩;exact⟨v,rfl,f,.inl ⟨rfl,j⟩,c⟩
theorem Wl(s:Rf.St)(key:Str):Iw (Rf.xh s.all key)=Cq s.tell key:=by
 unfold Cq Rf.St.tell;rw[Rf.O5 (Rf.St.Tm s)]
 cases h:Rf.xh s.all key with
 | none=>rfl
 | some c =>
  by_cases hg:c.gone=true
  ·simp[Iw,Option.filter,hg]
  ·simp[Iw,Option.filter,hg]
def jcj(s:Rf.St)(cl:Bool)(key:Str):Value:=if cl=true then .tuple #[jd [],.bool false,.int .i64 3] else .tuple #[jd (Cq s.tell key).1,.bool (Cq s.tell key).2,.int .i64 0]
theorem jgi(h:Yc E B w d b s k cl F)(i:k<530000000000)(key:Str):Calls prog 33 #[.pointer (some ⟨b,0,none⟩),jd key] w fun e w'=>e = .returned (jcj s cl key)/\Yc E B w' d b s k cl F/\ja w w' F:=by
 cases cl with
 | true =>
  obtain⟨rv,f,_⟩:=h.shut.row;refine(jci f key).mono ?_;rintro e w' ⟨rfl,c⟩;exact⟨rfl,h.keep c (fun _ _ t=>t.elim),c.up⟩
 | false =>
  refine(je5 h.op (by omega) key).mono ?_;rintro e w' ⟨rfl,g,c⟩;refine⟨?_,.inl ⟨rfl,g⟩,c⟩;rw[Wl];rfl
def I0(cl:Bool):Int:=if cl=true then 3 else 0
theorem jfa(h:Yc E B w d b s k cl F):Calls prog 77 #[.pointer (some ⟨b,0,none⟩)] w fun e w'=>e = .returned (.int .i64 (I0 cl))/\xm E B w d b s k cl F w':=by
 cases cl with
 | true =>
  obtain⟨rv,c,_⟩:=h.shut.row;refine(U4 c).mono ?_;rintro e w' ⟨rfl,rfl⟩;exact⟨rfl,xm.same h (ja.refl _ _) (xA _)⟩
 | false =>
  refine(jfc h.op).mono ?_;rintro e w' ⟨rfl,f⟩;exact⟨rfl,xm.open f⟩
theorem jej(h:Yc E B w d b s k cl F)(c:Fits n s)(o:n<2000000)(g:j3 s.files<=6000)(j:k<530000000000):Calls prog 26 #[.pointer (some ⟨b,0,none⟩)] w fun e w'=>e = .returned (.int .i64 (I0 cl))/\xm E B w d b (if cl=true then s else s.flush) (k+50000) cl F w':=by
 cases cl with
 | true =>
  obtain⟨rv,f,_⟩:=h.shut.row;refine(Sv f).mono ?_;rintro e w' ⟨rfl,rfl⟩;exact⟨rfl,xm.same h (ja.refl _ _) (by omega)⟩
 | false =>
  have l:=c.bnd;have f:=l.runs;have m:=c.next;refine(Un h.op j (by omega) (by omega) (tw c.ok g)).mono ?_;rintro e w' ⟨rfl,i⟩;exact⟨rfl,xm.open i⟩
theorem Wq(h:Yc E B w d b s k cl F)(c:Fits n s)(o:n<2000000)(g:j3 s.files<=6000)(j:k<530000000000):Calls prog 27 #[.pointer (some ⟨b,0,none⟩)] w fun e w'=>e = .returned (.int .i64 (I0 cl))/\xm E B w d b (if cl=true then s else s.qd) (k+100000) cl F w':=by
 cases cl with
 | true =>
  obtain⟨rv,f,_⟩:=h.shut.row;refine(Mo f).mono ?_;rintro e w' ⟨rfl,rfl⟩;exact⟨rfl,xm.same h (ja.refl _ _) (by omega)⟩
 | false =>
  have l:=c.bnd;have f:=l.mrg;have m:=c.next;refine(Wt h.op j (by omega) (by omega) (vh c.ok g)).mono ?_;rintro e w' ⟨rfl,i⟩;exact⟨rfl,xm.open i⟩
theorem jep(h:Yc E B w d b s k cl F):Calls prog 40 #[.pointer (some ⟨b,0,none⟩)] w fun e w'=>e = .returned (.int .i64 (I0 cl))/\xm E B w d b s k true F w':=by
 cases cl with
 | true =>
  refine(jer h.shut).mono ?_;rintro e w' ⟨rfl,rfl⟩;exact⟨rfl,xm.same h (ja.refl _ _) (xA _)⟩
 | false =>
  refine(jeq h.op).mono ?_;rintro e w' ⟨rfl,f,g⟩;have c:=f;obtain⟨ρ,rv,_,_,_,_,_,_,_,_,_,j,_⟩:=c;exact⟨rfl,F,k,xA _,.inr ⟨rfl,f⟩,g.mono (fun i _ e=>by have l:i=b:=e;rw[l];exact j),fun _ t=> .inl t⟩
def je7(s:Rf.St)(cl:Bool)(w:World)(e:Ending)(w':World):Prop:=∃ p c,e = .returned (.agg #[ju s.last,ju s.m.log,ju s.m.base,ju s.m.next,.slice p s.m.runs.length c,.bool false,.bool cl])/\w'.ownsRow w.heap.size 3 1 (.slice p s.m.runs.length c) s.m.runs.length (s.m.runs.map jf)/\ja w w' (fun _=>False)
theorem jfq(h:Yc E B w d b s k cl F):Calls prog 32 #[.pointer (some ⟨b,0,none⟩)] w (je7 s cl w):=by
 cases cl with
 | true=>exact(jfr h.shut).mono (fun e w' h=>h)
 | false=>exact(jb2 h.op).mono (fun e w' h=>h)
end
theorem ik.both{E:Nat->Addr}{B:Nat}{W A m:World}{j d x y k v:Nat}{s n:Rf.St}{cl b:Bool}{F G:Nat->Prop}(h:ik E B W j d x y s cl k F G)(D:xm E B W d x n v b F A)(C:ym A y n b G m):∃ F' G' k',k'<=v/\ik E B m j d x y n b k' F' G'/\ja W m (fun i=>F i\/G i)/\(∀ i,F' i->F i\/W.heap.size<=i)/\(∀ i,G' i->G i\/W.heap.size<=i):=by
 obtain⟨F',k',p,z,r,o⟩:=D;obtain⟨G',H,q,l⟩:=C;have J:=r.size;have I:=zC h.row;have u:ja W m (fun i=>F i\/G i):=(r.mono (fun _ _ t=> .inl t)).trans q (fun _ _ t=> .inr t)
 have c:∀ i,F' i->¬G i:=fun i f g=>by
  rcases o i f with t|t
  ·exact h.fg i t g
  ·have:=h.y.old g;omega
 refine⟨F',G',k',p,⟨u.same h.row (fun t=>t.elim h.sF h.sG),z.keep q (fun i _ g=>⟨h.ge.2 i g,fun f=>c i f g⟩),H,fun i f g=>?_,fun f=>?_,fun g=>?_,⟨h.ge.1,fun i g=>?_⟩⟩,u,o,fun i g=>?_⟩
 ·rcases l i g with t|t
  ·exact c i f t
  ·have:=(z.old f).2;omega
 ·rcases o j f with t|t
  ·exact h.sF t
  ·omega
 ·rcases l j g with t|t
  ·exact h.sG t
  ·omega
 ·rcases l i g with t|t
  ·exact h.ge.2 i t
  ·have:=h.x.size;omega
 ·rcases l i g with t|t
  ·exact .inl t
  ·exact .inr (by omega)
theorem qi.xy{E:Nat->Addr}{B:Nat}{W z v:World}{m b d x y n k u q r p:Nat}{o:Value}{s g:Rf.St}{cl c:Bool}{F G Q K:Nat->Prop}(h:Wd E B W m o b s cl k q r p Q K)(L:ik E B W b d x y s cl k F G)(f:∀ i,Q i↔(F i\/G i\/i=b))(J:Fits n g)(I:xm E B W d x g u c F z)(H:ym z y g c G v):qi E B W m o b n u q r p Q K v:=by
 obtain⟨C,A,k',j,l,D,N,M⟩:=L.both I H;refine qi.mono (qi.side (Q':=fun i=>C i\/A i\/i=b) h ⟨d,x,y,C,A,l,fun i=>Iff.rfl⟩ (D.mono (fun i _ t=>(f i).2 (t.elim .inl (fun t=> .inr (.inl t))))) (fun i t=>?_) J) (xA _) j (xA _) (xA _) (xA _);rcases t with t|t|t
 ·rcases N i t with t|t
  ·exact .inl ((f i).2 (.inl t))
  ·exact .inr t
 ·rcases M i t with t|t
  ·exact .inl ((f i).2 (.inr (.inl t)))
  ·exact .inr t
 ·exact .inl ((f i).2 (.inr (.inr t)))
theorem dc.close{W:World}{y:Nat}{s:Rf.St}{cl:Bool}{G:Nat->Prop}(h:dc W y s cl G):ym W y s true G (W.setCell ⟨y,8,none⟩ (.bool true)):=by
 obtain⟨bv,lv,rv,q,H,xs,h⟩:=h;have k:=ja.setCell W ⟨y,8,none⟩ (.bool true);have d:∀ i,H i->¬i=y:=fun i hi e=>by rw[e] at hi;exact h.ny hi
 have r:G y:=(h.J9 y).2 (.inr (.inl rfl));refine⟨G,⟨bv,lv,rv,q,H,xs,⟨(jc h.row _).trans rfl,k.row h.G5 (fun g hg e=>(h.nb g hg).2 e),fun j hj=>?_,h.bas.keep k d (fun _ t=>t),h.run.keep k (fun _ p n c e t=>d _ (h.Vf p.block (by rw[e];rfl)) t),h.Vf,?_,h.ok,h.few,h.ny,h.nb,fun i hi=>zT (h.lt i hi) k.size,h.J9⟩⟩,k.mono (fun i _ e=>by have z:i=y:=e;rw[z];exact r),fun _ t=> .inl t⟩
 ·obtain⟨x,l,b⟩:=h.bel j hj
  exact⟨x,l,b.keep k d (fun _ t=>t)⟩
 ·obtain⟨o,u,f,m,v⟩:=h.rls
  refine⟨o,u.keep k (fun g hg=>d g (m g hg)),f,m,fun j hj=>?_⟩;obtain⟨x,l,b⟩:=v j hj;exact⟨x,l,b.keep k d (fun _ t=>t)⟩
end Go.Proofs.YtnipbplghijdmaaGreatDoor
namespace Go.Proofs.YtnipbplghijdmaaGreatDoor
open RowKit Maps WideShapes Go.Proofs.Tryz
variable {W W' w w1 w3 w5 wr:World} {sv u v:Value} {l:List Rf.Ch} {B d g i j k n nl nn np nt sd wb y:Nat} {E:Nat->Addr} {s:Rf.St} {G K Q T:Nat->Prop} {P:Program} {cs3:List Value}
theorem jcv{base:Nat}(h:w.ownsRow base 88 3 v l.length (jg l))(d:k<l.length):∃ g c,v = .slice (some ⟨g,0,none⟩) l.length c/\w.cell? ⟨g,k*3,none⟩=some (jd l[k].key)/\w.cell? ⟨g,k*3+1,none⟩=some (jd l[k].value):=by
 obtain⟨p,c,rfl⟩:=jj h;obtain⟨g,rfl⟩:=oh h d;obtain⟨b,o,e,i,f,_⟩:=(xw h).at d;cases e;simp only[zP] at i f;exact⟨g,c,rfl,i,f⟩
theorem Ar{cl:Bool}(h:Wd E B W wb sv sd s cl k np nn nt Q K)(hf:Fits n s)(hk:k<520000000000)(hb:np<900000000/\nn<900000000/\nt<900000000)(lo hi:Str)(most:Int)(Y:-9223372036854775808<=most)(V:most<=9223372036854775807):Calls prog 94 #[.pointer (some ⟨wb,0,none⟩),.pointer (some ⟨sd,0,none⟩),jd lo,jd hi,.int .i64 most] W (Jk E B W wb sv sd n k np nn nt Q K):=by
 obtain⟨d,x,y,F,G,j,hQ⟩:=h.side;have c1:=zA (o:=1) j.row;have c2:=zA (o:=2) j.row;simp at c1 c2;have J:=jb (jfg j.x hf (by omega) lo hi most (by omega))
 have L:Hid (∀ w1,ja W w1 F->Calls prog 140 #[.pointer (some ⟨y,0,none⟩),jd lo,jd hi,.int .i64 most] w1 fun e w'=>∃ v',e = .returned (.tuple #[v',.int .i64 (Xc s cl lo hi most).2])/\w'.ownsRow w1.heap.size 88 3 v' (Xc s cl lo hi most).1.length (jg (Xc s cl lo hi most).1)/\ja w1 w' (fun _=>False)):=fun w1 T=>by
  obtain⟨bv,lv,rv,xv,H,xs,hB⟩:=j.y.keep T (fun i f g=>j.fg i f g);exact Vh hB.rat lo hi most Y V
 have c:(Xc s cl lo hi most).1.length<20000:=by
  unfold Xc
  split
  ·simp
  ·split
   ·simp
   ·have h1:=hf.bnd.all
    have h2:(Rf.Zw s.all lo hi most.toNat).length<=s.all.length:=by
     unfold Rf.Zw;refine ZF (by rw[ZT];exact Nat.min_le_right _ _) ?_;exact ZF (XF _ _) (XF _ _)
    show(Rf.Zw s.all lo hi most.toNat).length<20000;omega
 generalize Xc s cl lo hi most=r at J L c;obtain⟨u,rn⟩:=r;simp only at J L c;have HS:=jb j;have HQ:=jb hQ;have R:=jb h;have ay:=jb hf;have HB:=jb hb;have U:¬F sd:=j.sF;have a7:=jb j.x.size;clear j hQ h hf hb hk Y V;go_enter func94,ntmps94;go_wp2_with fail;refine J.out.mono ?_;rintro e w1 ⟨v,rfl,hr,hx,T⟩;obtain⟨vp,vc,rfl⟩:=jj hr;have c2:=T.cell c2 U;have M:=jb hr;have au:=jb hx;have O:=jb T;clear c1 hr hx T;go_wp2_with fail;refine(L.out w1 O.out).mono ?_;rintro e w2 ⟨v',rfl,C,k2⟩;obtain⟨bg,bh,rfl⟩:=jj C;have aw:Hid (Prs w2 (.slice vp u.length vc) u):=jb (⟨_,k2.row M.out (fun _ _ h=>h)⟩);have az:=jb C;have a6:=jb k2;obtain⟨N,hN⟩:∃ N,N=u.length:=⟨_,rfl⟩;have HN:=jb hN;rw[<-hN] at c;have bn:=jb (M.out);clear c2 C k2 U;rw[<-hN];clear hN;go_wp2_with fail;refine(rh _ _).mono ?_;rintro e w2 ⟨rfl,rfl⟩;go_wp2_with fail
 go_loopw [15,16] (fun t15 t16 wr=>∃ i:Nat,t15 = .bool true/\t16 = .int .i64 i/\i<=N/\ja w2 wr (fun _=>False)) (fun _ t16 _=>N-(intOf t16).toNat)
 case atStart=>exact⟨0,rfl,rfl,zU _,ja.refl _ _⟩
 case round =>
  obtain⟨i,rfl,rfl,bj,z⟩:=hrel;rcases ZJ i N with an|bk
  ·have ao:(i:Int)<(N:Int):=by omega
   have bi:IntKind.i64.wrap ((i:Int)+1)=(i:Int)+1:=zE (by omega) (by omega);have D:i<u.length:=by rw[<-HN.out];exact an
   obtain⟨g,cg,eg,a0,a1⟩:=aw.out.at D;obtain⟨g2,bm,ar,b0,b1⟩:=jcv az.out D;injection eg with e1 e2 e3;injection ar with e4 e5 e6;subst e1;subst e4;generalize u[i]=X at a0 a1 b0 b1;obtain⟨xk,xv,xg⟩:=X;simp only at a0 a1 b0 b1;have a0:=z.cell a0 id;have a1:=z.cell a1 id;have b0:=z.cell b0 id;have b1:=z.cell b1 id;clear e2 e3 e5 e6 D;go_wp2_with fail;go_quiet (fail);go_wp2;exact⟨⟨i+1,rfl,by simp,by omega,z.tt (ja.drewN _ _ _)⟩,by simp[intOf];omega⟩
  ·have ao:¬(i:Int)<(N:Int):=by omega
   have a3:=(R.out.lists.keep O.out (fun i t=>R.out.apart i ((HQ.out i).2 (.inl t)))).same (a6.out.tt z);have a5:=jb a3;clear a3;go_wp2_with fail;refine(oq a5.out (by have:=HB.out;omega)).mono ?_;rintro e S ⟨rfl,k4⟩;have l:ja w1 S (fun _=>False):=(a6.out.tt z).tt k4;have m:ja W S F:=O.out.trans l (fun _ _ h=>h.elim);have b:S.ownsRow W.heap.size 65 2 (.slice vp N vc) N (yy u):=by rw[HN.out];exact l.row M.out (fun _ _ h=>h)
   have a2:ik E B S sd d x y s cl k F G:=⟨m.same HS.out.row HS.out.sF,au.out.keep l (fun _ _ t=>t.elim),HS.out.y.keep m (fun i f g=>HS.out.fg i f g),HS.out.fg,HS.out.sF,HS.out.sG,HS.out.ge⟩;have I:=a5.out.same k4;have Z:Wd E B S wb sv sd s cl k np nn nt Q K:=⟨⟨d,x,y,F,G,a2,HQ.out⟩,I,R.out.apart,R.out.ge⟩;have A:∀ g,(Value.slice vp N vc).ownBlock=some g->W.heap.size<=g:=fun g hg=>(b.lt g hg).1
   have ax:=jb (Iv I (by have:=HB.out;omega) (.slice vp N vc) N (yy u) (qg b (zU _)) (fun g hg t=>by
    have h1:=A g hg
    have h2:=R.out.lists.old t
    omega) (by omega))
   have av:=jb Z;have a4:=jb A;have p:=jb m;clear l m b a2 I Z A k4;go_wp2_with fail;refine ax.out.mono ?_;rintro e w5 ⟨rfl,K',ap,k5,aq⟩;go_wp2;go_ret;have bl:=a7.out;have ba:=p.out.size
   have a8:qi E B W wb sv sd n k (np+4) nn nt Q K w5:=qi.lists av.out ay.out ap (p.out.mono (fun i _ f=> .inl ((HQ.out i).2 (.inl f)))) (fun _ t=> .inl t) (fun _ t=> .inl t) k5 a4.out a7.out (fun i t q=>by
    have h1:=a4.out i t
    have h2:=(R.out.side.old q).2
    omega) aq
   exact⟨rfl,a8.mono (by omega) (by omega) (by omega) (by omega) (by omega)⟩
theorem Ki{base:Nat}{l:List Nat}(h:w.ownsRow base 3 1 v l.length (l.map jf))(f:k<l.length):∃ g c,v = .slice (some ⟨g,0,none⟩) l.length c/\w.cell? ⟨g,k,none⟩=some (jf l[k]):=by
 rcases h.2 with⟨_,p⟩|⟨g,cap,j,e,_,d,o,n,m,i⟩
 ·omega
 ·refine⟨g,cap,e,?_⟩
  have b:(l.map jf)[k]?=some (jf l[k]):=by simp[f]
  rw[<-i,zK] at b;rw[zA d]
  split at b
  ·simpa using b
  ·cases b
theorem Kn{cl:Bool}(h:Wd E B W wb sv sd s cl k np nn nt Q K)(hf:Fits n s)(hb:np<900000000/\nn<900000000/\nt<900000000):Calls prog 95 #[.pointer (some ⟨wb,0,none⟩),.pointer (some ⟨sd,0,none⟩)] W (Jk E B W wb sv sd n k np nn nt Q K):=by
 obtain⟨d,x,y,F,G,Y,hQ⟩:=h.side;have c1:=zA (o:=1) Y.row;have c2:=zA (o:=2) Y.row;simp at c1 c2;have bg:=jb (jfq Y.x)
 have bd:Hid (∀ w1,ja W w1 (fun _=>False)->Calls prog 142 #[.pointer (some ⟨y,0,none⟩)] w1 (je7 s cl w1)):=fun w1 k1=>by
  obtain⟨bv,lv,rv,xv,H,xs,hB⟩:=Y.y.same k1;exact Vk hB.rat
 have af:s.m.runs.length<20000:=hf.bnd.runs;obtain⟨N,hN⟩:∃ N,N=s.m.runs.length:=⟨_,rfl⟩;have HN:=jb hN;rw[<-hN] at af;have HH:=jb h;have bl:=jb hf;have HB:=jb hb;have ae:=jb Y.x.size;clear Y hQ h hf hb hN;go_enter func95,ntmps95;go_wp2_with fail;refine bg.out.mono ?_;rintro e w1 ⟨p1,Z,rfl,R,k1⟩;rw[<-HN.out] at R ⊢
 go_upto_region 2 with fail
 obtain⟨v,j⟩:∃ v,v=w1.alloc (.cells #[ju s.last,ju s.m.log,ju s.m.base,ju s.m.next,.slice p1 N Z,.bool false,.bool cl] 61):=⟨_,rfl⟩;rw[<-j];obtain⟨ba,U⟩:∃ ba,ba=w1.heap.size:=⟨_,rfl⟩;rw[<-U];have ka:ja W v (fun _=>False):=by rw[j];exact k1.tt (ja.alloc _ _ _)
 have hA:v.heap[ba]?=some (.cells #[ju s.last,ju s.m.log,ju s.m.base,ju s.m.next,.slice p1 N Z,.bool false,.bool cl] 61 (0,0)):=by rw[j,U];exact je _ _
 have aa:v.ownsRow W.heap.size 3 1 (.slice p1 N Z) N (s.m.runs.map jf):=by rw[j];exact R.alloc _
 have c2:=ka.cell c2 id;have HA:=jb hA;have bf:=jb aa;have ad:=jb ka;clear c1 R k1 j U hA aa ka;go_wp2_with fail;refine(bd.out v ad.out).mono ?_;rintro e w2 ⟨p2,q2,rfl,O,k2⟩;rw[<-HN.out] at O ⊢
 go_upto_region 3 with fail
 obtain⟨w3,l⟩:∃ w3,w3=w2.alloc (.cells #[ju s.last,ju s.m.log,ju s.m.base,ju s.m.next,.slice p2 N q2,.bool false,.bool cl] 61):=⟨_,rfl⟩;rw[<-l];obtain⟨bb,T⟩:∃ bb,bb=w2.heap.size:=⟨_,rfl⟩;rw[<-T];have k3:ja v w3 (fun _=>False):=by rw[l];exact k2.tt (ja.alloc _ _ _)
 have c:w3.heap[bb]?=some (.cells #[ju s.last,ju s.m.log,ju s.m.base,ju s.m.next,.slice p2 N q2,.bool false,.bool cl] 61 (0,0)):=by rw[l,T];exact je _ _
 have ab:w3.ownsRow v.heap.size 3 1 (.slice p2 N q2) N (s.m.runs.map jf):=by rw[l];exact O.alloc _
 have b:=k3.same HA.out id;have z:=k3.row bf.out (fun _ _ h=>h);have a0:=zA (o:=0) b;have a1:=zA (o:=1) b;have a2:=zA (o:=2) b;have a3:=zA (o:=3) b;have I:=zA (o:=4) b;have a5:=zA (o:=5) b;have a6:=zA (o:=6) b;have b0:=zA (o:=0) c;have b1:=zA (o:=1) c;have b2:=zA (o:=2) c;have b3:=zA (o:=3) c;have b4:=zA (o:=4) c;have b6:=zA (o:=6) c;simp at a0 a1 a2 a3 I a5 a6 b0 b1 b2 b3 b4 b6;have be:=jb ab;have A:=jb z;have bk:Hid (ja W w3 (fun _=>False)):=ad.out.tt k3;have A4:=jb I;have B4:=jb b4;clear c2 O k2 l T k3 c ab b z;generalize s.last=la at *
 generalize s.m.log=lg at *
 generalize s.m.base=bz at *
 generalize s.m.next=nx at *
 go_wp2_with fail;clear a0 a1 a2 a3 I a5 a6 b0 b1 b2 b3 b4 b6
 go_loopw [7,8] (fun t7 t8 wr=>∃ i:Nat,t7 = .bool true/\t8 = .int .i64 i/\i<=N/\ja w3 wr (fun _=>False)) (fun _ t8 _=>N-(intOf t8).toNat)
 case atStart=>exact⟨0,rfl,rfl,zU _,ja.refl _ _⟩
 case round =>
  obtain⟨i,rfl,rfl,cm,D⟩:=hrel;have I:=D.cell A4.out id;have b4:=D.cell B4.out id;rcases ZJ i N with az|cn
  ·have b5:(i:Int)<(N:Int):=by omega
   have ck:IntKind.i64.wrap ((i:Int)+1)=(i:Int)+1:=zE (by omega) (by omega);have S:i<s.m.runs.length:=by rw[<-HN.out];exact az
   have u:=A.out;have r:=be.out;rw[HN.out] at u r;obtain⟨g,cg,eg,x0⟩:=Ki u S;obtain⟨g2,cp,b9,y0⟩:=Ki r S;injection eg with e1 e2 e3;injection b9 with e4 e5 e6;subst e1;subst e4;generalize s.m.runs[i]=X at x0 y0;have x0:=D.cell x0 id;have y0:=D.cell y0 id;clear e2 e3 e5 e6 S u r;go_wp2_with fail;go_quiet (fail);go_wp2;exact⟨⟨i+1,rfl,by simp,by omega,D.tt (ja.drewN _ _ _)⟩,by simp[intOf];omega⟩
  ·have b5:¬(i:Int)<(N:Int):=by omega
   have L:ja W wr (fun _=>False):=bk.out.tt D;have bh:=jb (HH.out.lists.same L);have ah:=jb L;have bj:=jb D;clear L b4;go_wp2_with fail;refine(oq bh.out (by have:=HB.out;omega)).mono ?_;rintro e w4 ⟨rfl,k4⟩;have a9:ja w3 w4 (fun _=>False):=bj.out.tt k4;have J:ja W w4 (fun _=>False):=ah.out.tt k4;have I:=k4.cell I id;have p:=a9.row A.out (fun _ _ h=>h);have V:=HH.out.same J;have M:∀ g,(Value.slice p1 N Z).ownBlock=some g->W.heap.size<=g:=fun g hg=>(p.lt g hg).1
   have bi:=jb (Md V.lists (by have:=HB.out;omega) (.slice p1 N Z) N (s.m.runs.map jf) (qg p (zU _)) (fun g hg t=>by
    have h1:=M g hg
    have h2:=HH.out.lists.old t
    omega) (by omega))
   have bc:=jb V;have ac:=jb M;have C:=jb J;clear a9 J p V M k4;go_wp2_with fail;refine bi.out.mono ?_;rintro e w5 ⟨rfl,K',b7,k5,b8⟩;clear I;go_wp2;go_ret;have co:=ae.out;have c9:=C.out.size
   have ag:qi E B W wb sv sd n k np (nn+4) nt Q K w5:=qi.lists bc.out bl.out b7 (C.out.mono (fun i _ f=>f.elim)) (fun _ t=> .inl t) (fun _ t=> .inl t) k5 ac.out ae.out (fun i t q=>by
    have h1:=ac.out i t
    have h2:=(HH.out.side.old q).2
    omega) b8
   exact⟨rfl,ag.mono (by omega) (by omega) (by omega) (by omega) (by omega)⟩
def Bi(E:Nat->Addr)(B:Nat)(w:World)(ρ:Nat->jz)(d:Nat)(s:Rf.St)(k:Nat)(e:Ending)(w':World):Prop :=
 ∃ sd x y F G,e = .returned (.tuple #[.pointer (some ⟨sd,0,none⟩),.bool true])/\ik E B w' sd d x y s false k F G/\ja w w' (fun i=>ρ i≠ .none)/\(∀ i,F i->ρ i≠ .none\/w.heap.size<=i)/\(∀ i,G i->w.heap.size<=i)/\w.heap.size<=sd
theorem Kh{ρ:Nat->jz}{k':Nat}{V:List (Str×List UInt8)}(D:DW E B w ρ d V k)(hk:k<520000000000)(ao:k'<520000000000)(hV:V.length<1000000)(hO:∀ W,ja w W (fun _=>False)->Calls prog 45 #[.pointer (some ⟨d,0,none⟩)] W (Hc E B W ρ d s k'))(hR:∀ W v fs,Fls W v fs->fs.Perm V->Calls prog 48 #[v] W fun e w'=>Bh W s e w'):Calls prog 15 #[.pointer (some ⟨d,0,none⟩)] w (Bi E B w ρ d s k'):=by
 have HD:=jb (Sa D (by omega) hV);have a2:=jb D.size;have Y:=jb D.ya;have HO:=jb hO;have HR:=jb hR;clear D hO hR;go_enter func15,ntmps15;go_wp2_with fail;refine HD.out.mono ?_;rintro e w1 ⟨v,fs,rfl,q,hp,R⟩;go_wp2_with fail;refine(HO.out w1 R).mono ?_;rintro e N ⟨b,F,rfl,hb,p,O,hF⟩
 have I:Fls N v fs:=⟨_,O.row q (fun g hg t=>by
  have h1:=(q.lt g hg).1
  have h2:=(Y.out g t).2
  omega)⟩
 have a0:=jb I;have HP:=jb hp;have C:=jb R;have A:=jb O;have L:=jb p;have HF:=jb hF;have ap:=jb hb;clear I hp q R O p hF hb;go_wp2_with fail;refine(HR.out N v fs a0.out HP.out).mono ?_;rintro e w3 ⟨y,G,rfl,j,hG,k3⟩;have J:=jb j;have S:=jb hG;have o:=jb k3;clear j hG k3;go_wp2_with fail;refine(rh _ _).mono ?_;rintro e w3 ⟨rfl,rfl⟩
 go_upto_region 7 with fail
 obtain⟨l,m⟩:∃ l,l=w3.alloc (.cells #[.pointer (some ⟨d,0,none⟩),.pointer (some ⟨b,0,none⟩),.pointer (some ⟨y,0,none⟩)] 96):=⟨_,rfl⟩;rw[<-m];obtain⟨sd,n⟩:∃ sd,sd=w3.heap.size:=⟨_,rfl⟩;rw[<-n];have M:ja w3 l (fun _=>False):=by rw[m];exact ja.alloc _ _ _
 have r:l.heap[sd]?=some (.cells #[.pointer (some ⟨d,0,none⟩),.pointer (some ⟨b,0,none⟩),.pointer (some ⟨y,0,none⟩)] 96 (0,0)):=by rw[m,n];exact je _ _
 have s1:=C.out.size;have s2:=A.out.size;have s3:=o.out.size;have T:=a2.out;have x:Own E B l d b s k' F:=(L.out.same o.out).same M;have u:dc l y s false G:=J.out.same M;have z:∀ i,F i->i<N.heap.size:=fun i t=>(L.out.old t).2
 have c:ik E B l sd d b y s false k' F G:=⟨r,.inl ⟨rfl,x⟩,u,fun i f g=>by
  have h1:=z i f
  have h2:=S.out i g
  omega,fun f=>by have:=z sd f;omega,fun g=>by have:=J.out.old g;omega,⟨by omega,fun i g=>by have:=S.out i g;omega⟩⟩
 have a1:Hid (Calls prog 51 #[.pointer (some ⟨sd,0,none⟩)] l fun e w'=>e = .returned (.bool true)/\ja l w' (fun _=>False)):=by
  obtain⟨ρ4,D4,_⟩:=x.zw;obtain⟨bv,lv,rv,xv,H,xs,hB⟩:=u;exact ff r hB.rat D4 (by omega)
 have U:=jb c;have Z:=jb M;have X:=jb n;clear m M r x u z c n s1 s2 s3 T;go_wp2_with fail;refine a1.out.mono ?_;rintro e w5 ⟨rfl,k5⟩;go_wp2;go_ret2;have s1:=C.out.size;have s2:=A.out.size;have s3:=o.out.size;have s4:=X.out;refine⟨sd,b,y,F,G,rfl,U.out.keep k5 (fun _ _ t=>t.elim),?_,fun i f=>?_,fun i g=>?_,?_⟩
 ·exact((((C.out.up).tt A.out).trans o.out (fun _ _ t=>t.elim)).trans Z.out (fun _ _ t=>t.elim)).trans k5 (fun _ _ t=>t.elim)
 ·rcases HF.out i f with t|t
  ·exact .inl t
  ·exact .inr (by omega)
 ·have:=S.out i g;omega
 ·omega
theorem Vs{ρ:Nat->jz}(D:DW E B w ρ d [] k)(H:Env E B w)(b:k<510000000000):Calls prog 15 #[.pointer (some ⟨d,0,none⟩)] w (Bi E B w ρ d Rf.St.first (k+1000)) :=
 Kh D (by omega) (by omega) (by simp) (fun W kk=>tz (D.same kk) (H.same kk) (by omega)) (fun W v fs hv hp=>by
  have e:fs=[]:=List.Perm.eq_nil hp
  subst e
  exact Vj v [] hv (by simp) rfl)
theorem Kr(h:s.Ok):s.files.length<=s.m.runs.length+3:=by
 unfold Rf.St.files j9;have b:=ve s.m;simp only[zX,ZM,List.length_zip];omega
theorem N9{ρ:Nat->jz}(D:DW E B w ρ d s.files k)(H:Env E B w)(q:k<510000000000)(c:Fits n s):Calls prog 15 #[.pointer (some ⟨d,0,none⟩)] w (Bi E B w ρ d s (k+s.files.length)):=by
 have p:=Kr c.ok;have g:=c.bnd;have o:=g.runs;have i:=c.size;have j:=g.mem;refine Kh D (by omega) (by omega) (by omega) (fun W kk=>Lz (D.same kk) (H.same kk) (by omega) c.ok i (by omega)) (fun W v fs hv hp=>?_);refine Ro v fs hv (by rw[hp.length_eq];omega) c.ok hp D.apart (fun f j=>?_) ?_
 ·have m:f.2.length<=j3 s.files:=by
   obtain⟨a,b,e⟩:=List.append_of_mem j;rw[e];have l:j3 (a++f::b)=j3 a+(f.2.length+j3 b):=by simp[j3]
   omega
  omega
 ·have m:=g.lens
  have l:=g.bs;have r:=g.bls;omega
def im(W:World)(v:Value)(l:List Rf.Ch):Prop:=Chs W v l\/(l=[]/\∃ a c,v = .slice (some a) 0 c)
theorem im.keep(h:im W v l)(k:ja W W' T)(b:l≠[]->∀ p n c,v = .slice (some p) n c->¬T p.block):im W' v l:=by
 rcases h with h|h
 ·exact .inl (h.keep k b)
 ·exact .inr h
theorem im.same(h:im W v l)(k:ja W W' (fun _=>False)):im W' v l:=h.keep k (fun _ _ _ _ _ t=>t)
theorem im.shape(h:im W v l):∃ p c,v = .slice p l.length c:=by
 rcases h with h|⟨rfl,a,c,rfl⟩
 ·exact h.shape
 ·exact⟨_,_,rfl⟩
theorem im.chs(h:im W v l)(b:l≠[]):Chs W v l:=by
 rcases h with h|⟨e,_⟩
 ·exact h
 ·exact(b e).elim
theorem Lr(a:Addr)(c:Nat):Calls prog 185 #[.slice (some a) 0 c] w fun e w'=>e = .returned (.bool false)/\ja w w' (fun _=>False):=by
 go_enter func185,ntmps185;go_wp2_with fail
 go_loopw [2,3] (fun _ t3 wr=>t3 = .int .i64 0/\ja w wr (fun _=>False)) (fun _ t3 _=>0)
 case atStart=>exact⟨rfl,ja.refl _ _⟩
 case round =>
  obtain⟨rfl,b⟩:=hrel;go_wp2;go_ret;exact⟨rfl,b⟩
theorem Lk{cl:Bool}(h:dc W y s cl G)(a:Addr)(c:Nat):Calls prog 138 #[.pointer (some ⟨y,0,none⟩),.slice (some a) 0 c] W fun e W'=>e = .returned (.int .i64 (Jb s cl []).2)/\ym W y (Jb s cl []).1 cl G W':=by
 obtain⟨bv,lv,rv,k,H,xs,i⟩:=h;have j:=jb i;have g:=jb (Lr (w:=W) a c);have b:=zA (o:=8) i.row;simp at b
 cases cl with
 | true =>
  have f:Hid (Jb s true []=(s,3)):=jb (rfl);clear i;go_enter func138,ntmps138;go_wp2_with fail;refine g.out.mono ?_;rintro e w1 ⟨rfl,d⟩;have b:=d.cell b id;go_wp2;go_ret;exact⟨by rw[f.out];rfl,by rw[f.out];exact ym.same ⟨_,_,_,_,_,_,j.out⟩ d⟩
 | false =>
  have f:Hid (Jb s false []=(s,5)):=jb (rfl);clear i;go_enter func138,ntmps138;go_wp2_with fail;refine g.out.mono ?_;rintro e w1 ⟨rfl,d⟩;have b:=d.cell b id;go_wp2;go_ret;exact⟨by rw[f.out];rfl,by rw[f.out];exact ym.same ⟨_,_,_,_,_,_,j.out⟩ d⟩
theorem ja0{cl:Bool}(h:dc W y s cl G)(v:Value)(l:List Rf.Ch)(f:im W v l)(i:l.length<100000000)(g:∀ c∈l,c.key.length<1000000000/\c.value.length<1000000000)(b:s.last<900000000)(d:x7 s.bs+x7 s.bls<3000000/\s.bs.length<900000):Calls prog 138 #[.pointer (some ⟨y,0,none⟩),v] W fun e W'=>e = .returned (.int .i64 (Jb s cl l).2)/\ym W y (Jb s cl l).1 cl G W':=by
 rcases f with f|⟨rfl,a,c,rfl⟩
 ·exact Rl h v l f i g b d
 ·exact Lk h a c
theorem Ll(w:World)(s z y d:TypeId)(g b k:Nat)(v:Value)(l:List Rf.Ch)(f:Array Value)(t:TypeId)(m:P.underlying s=some (.slice d))(r:(P.info? d).map (·.size)=some 3)(A:im w v l)(n:w.heap[g]?=some (.cells f t (0,0)))(C:l.length<=b)(E:(jg l).length<=f.size):∃ w',(Builtin.copy_ #[s,z] y #[.slice (some ⟨g,0,none⟩) b k,v]).run P w = .ok (goInt l.length) w'/\uv w g 0 f t (jg l) w':=by
 rcases A with A|⟨rfl,x,c,rfl⟩
 rotate_left
 ·have B:=dj (P:=P) w s z y d g 0 b k x 0 c f t (jg []) 0 3 m r n (Nat.zero_min b).symm rfl (fun j u m=>by simp[jg] at m) (by simp[jg]) (Xf [])
  exact⟨_,B,lj (o:=0) n⟩
 obtain⟨p,c,rfl,L,J,H,G⟩:=A;have q:l.length=Nat.min l.length b:=(XI C).symm
 cases p with
 | none =>
  have I:=H rfl;have D:l=[]:=xB (by omega);subst D;refine⟨w,?_,⟨?_,ja.refl _ _⟩⟩
  ·cases hq:P.info? d with
   | none=>simp[hq] at r
   | some i =>
    have hi:i.size=3:=by simpa [hq] using r
    simp[Builtin.copy_,run_underlying m,Builtin.lenOf,Builtin.firstCells,sizeOf,typeInfo,hq,hi,storeCells,Nat.zero_min]
  ·simp[jg];exact n
 | some x =>
  obtain⟨_,F⟩:=G x rfl;have B:=dj (P:=P) w s z y d g 0 b k x l.length c f t (jg l) l.length 3 m r n q (qq l) F (by omega) (Xf l);exact⟨_,B,lj (o:=0) n⟩
theorem Cg{b:Array Oper}{rest:List Oper}{o:Oper}{a:Act}{Q:Exit->Act->World->Prop}(j:o.guard=none)(d s:Operand)(i k:TypeId)(m:o.op = .call { callee:= .builtin .copy,args:=#[d,s],argTypes:=#[i,k] })(elem:TypeId)(hu:P.underlying i=some (.slice elem))(hsz:(P.info? elem).map (·.size)=some 3)(g dLen dCap:Nat)(v:Value)(l:List Rf.Ch)(hd:a.eval d = .slice (some ⟨g,0,none⟩) dLen dCap)(hs:a.eval s=v)(hv:im w v l)(cur:Array Value)(t:TypeId)(hg:w.heap[g]?=some (.cells cur t (0,0)))(hle:l.length<=dLen)(hfit:(jg l).length<=cur.size)(h:∀ f,uv w g 0 cur t (jg l) f->wpList P b Q rest (a.put o.dst (goInt l.length)) f):wpList P b Q (o::rest) a w:=by
 refine wpList_plain j fun K hK=>?_;obtain⟨f,c,n⟩:=Ll (P:=P) w i k o.type elem g dLen dCap v l cur t hu hsz hv hg hle hfit;unfold Oper.wp execOp;simp only[m,resolve,invoke,builtin,Sem.run_bind,Sem.run_pure,Result.andThen_ok,List.map_toArray,zI,ZI,hd,hs,c];exact hK _ _ (h _ n)
def Tz:List Value:=[jd Cz,jd Ud,.bool false]
def lx(w5 wr:World)(g nl i:Nat)(cs3:List Value):Prop:=∃ cs,wr.ownsRow 0 88 3 (.slice (some ⟨g,0,none⟩) (nl+1) (nl+1)) (nl+1) cs/\cs.take (i*3)=cst i Tz/\cs.drop (i*3)=cs3.drop (i*3)/\ja w5 wr (fun j=>j=g)
theorem lx.first(h:w5.ownsRow 0 88 3 (.slice (some ⟨g,0,none⟩) (nl+1) (nl+1)) (nl+1) cs3):lx w5 w5 g nl 0 cs3:=⟨cs3,h,by simp[cst],rfl,ja.refl _ _⟩
theorem lx.keeps(h:lx w5 wr g nl i cs3):ja w5 wr (fun j=>j=g):=by
 obtain⟨_,_,_,_,k⟩:=h;exact k
theorem lx.heap(h:lx w5 wr g nl i cs3):∃ cur:Array Value,wr.heap[g]?=some (.cells cur 88 (0,0))/\(nl+1)*3<=cur.size:=by
 obtain⟨cs,d,_⟩:=h;rcases d.2 with⟨e,_⟩|⟨m,c,cur,e,_,b,j,l,f,k⟩
 ·cases e
 ·cases e
  exact⟨cur,b,by rw[f];exact XJ _ j⟩
theorem lx.at(h:lx w5 wr g nl i cs3)(hi:i<nl+1)(s:j<3)(k:cs3[i*3+j]?=some u):wr.cell? ⟨g,i*3+j,none⟩=some u:=by
 obtain⟨cs,m,r,n,_⟩:=h
 have b:cs[i*3+j]?=some u:=by
  have d:=congrArg (fun l=>l[j]?) n;simp only[ZV] at d;rw[d,k]
 rcases m.2 with⟨e,_⟩|⟨x,f,q,e,_,c,p,v,t,o⟩
 ·cases e
 ·cases e
  rw[zA c];rw[<-o,zK] at b
  split at b
  ·simpa using b
  ·cases b
theorem lx.step(h:lx w5 wr g nl i cs3)(hi:i<nl+1):lx w5 (((wr.setCell ⟨g,i*3,none⟩ (jd Cz)).setCell ⟨g,i*3+1,none⟩ (jd Ud)).setCell ⟨g,i*3+2,none⟩ (.bool false)) g nl (i+1) cs3:=by
 obtain⟨cs,b,c,d,k⟩:=h;have l:cs.length=(nl+1)*3:=b.1;refine⟨((cs.set (i*3) (jd Cz)).set (i*3+1) (jd Ud)).set (i*3+2) (.bool false),Q8 (Q8 (Q8 b (by omega) _) (by omega) _) (by omega) _,?_,?_,((k.set (p:=⟨g,i*3,none⟩) rfl _).set (p:=⟨g,i*3+1,none⟩) rfl _).set (p:=⟨g,i*3+2,none⟩) rfl _⟩
 ·rw[show(i+1)*3=i*3+1+1+1 by omega,Ql (by rw[XK,XK];omega),Ql (by rw[XK];omega),Ql (by omega),c,o7,ZK,ZK]
  rfl
 ·rw[List.drop_set_of_lt (by omega),List.drop_set_of_lt (by omega),List.drop_set_of_lt (by omega)]
  have j:cs.drop ((i+1)*3)=(cs.drop (i*3)).drop 3:=by rw[XL];congr 1;omega
  have f:cs3.drop ((i+1)*3)=(cs3.drop (i*3)).drop 3:=by rw[XL];congr 1;omega
  rw[j,f,d]
theorem lx.done(h:lx w5 wr g nl (nl+1) cs3):wr.ownsRow 0 88 3 (.slice (some ⟨g,0,none⟩) (nl+1) (nl+1)) (nl+1) (cst (nl+1) Tz):=by
 obtain⟨cs,b,c,_,_⟩:=h;rw[ZO (by rw[b.1];exact xA _)] at c;rw[c] at b;exact b
theorem KP.jgz{M:Nat}{m pv l s lv:Value}{c D:List Value}{y:Nat->Prop}{e:TypeId}(d:lz w wb sv pv l m np nn nt y K)(o:∀ g,v.ownBlock=some g->¬K g)(x:ja w w1 (fun j=>v.ownBlock=some j))(h:KP w1 wr wb 38 e c fT (fun p=>#[sv,pv,l,p]) m v y (nt+1) M s lv D T):Zs w wb sv np nn (nt+1) K v wr:=by
 have z:=d.keep x o;have q:∀ {A B a b c:Prop},A\/B\/a\/b\/c->A\/B\/b\/c\/a:=fun h=>h.elim .inl (fun h=> .inr (h.elim .inl (fun h=> .inr (h.elim (fun h=> .inr (.inr h)) (fun h=>h.elim .inl (fun h=> .inr (.inl h)))))));have C:∀ {A B a b c:Prop},A\/B\/b\/c\/a->A\/B\/a\/b\/c:=fun h=>q (q h);obtain⟨r,f,k,E,hi⟩:=h.ends (b:=pv) (c:=l) (K:=K) (fun g t=>⟨(d.J9 g).2 (q t),d.old ((d.J9 g).2 (q t))⟩) ⟨d.nT.1,d.nT.2.2.2,d.nT.2.1,d.nT.2.2.1⟩ (fun g t=>⟨d.at' g t,fun e=>(d.ap g e).2.2 t,fun e=>(d.an g e).2 t⟩) (fun g e=>(d.ap g e).1) (fun g e=>(d.an g e).1) o x;exact⟨fun g=>T g\/g=wb\/pv.ownBlock=some g\/l.ownBlock=some g\/s.ownBlock=some g,⟨pv,l,s,T,⟨h.row,z.p.keep h.kk (fun g e u=>(r g u).2.1 e) (fun g t u=>(r g u).1 t) h.tT,z.n.keep h.kk (fun g e u=>(r g u).2.2 e) (fun g t u=>(r g u).1 t) h.tT,h.gr.cl,d.m4,⟨fun t=>f wb t (.inl rfl),fun g u t=>f g t (.inr (.inl u)),fun g u t=>f g t (.inr (.inr u)),h.gr.nT⟩,fun g e=>⟨(d.ap g e).1,(d.ap g e).2.1,fun t=>(k g t).2.1 e⟩,fun g e=>⟨(d.an g e).1,fun t=>(k g t).2.2 e⟩,fun g e=>(k g e).1,h.gr.lt,fun g=>Iff.rfl⟩⟩,E,fun i t=>hi i (C t)⟩
def Ag:Value:= .string ⟨#[98,101,104,105,110,100]⟩
structure Hb(w3:World)(base g nl:Nat)(l:List Rf.Ch)(cs3:List Value):Prop where
 row:w3.ownsRow base 88 3 (.slice (some ⟨g,0,none⟩) (nl+1) (nl+1)) (nl+1) cs3
 cells:∀(j:Nat) (u:Value),(jg l)[j]?=some u->cs3[j]?=some u
 behind:cs3[nl*3]?=some Ag
theorem jd2{m:World}{base:Nat}{p:List Value}{d:Array Value}(q:w1.ownsRow base 88 3 (.slice (some ⟨g,0,none⟩) (l.length+1) (l.length+1)) (l.length+1) p)(s:w1.heap[g]?=some (.cells d 88 (0,0)))(t:uv w1 g 0 d 88 (jg l) m):∃ cs3,Hb (m.setCell ⟨g,l.length*3,none⟩ Ag) base g l.length l cs3:=by
 rcases q.2 with⟨e,_⟩|⟨D,cap,o,e,v,b,C,y,x,B⟩
 ·cases e
 ·injection e with e1 e2 e3
  injection e1 with e1;injection e1 with e1 _ _;subst e1;subst e3;rw[s] at b;injection b with b;injection b with b;subst b;have A:=qq l;have z:d.toList.length=(l.length+1)*3:=by rw[XM];exact x
  obtain⟨c,i⟩:∃ c,c=d.toList.take 0++jg l++d.toList.drop (0+(jg l).length):=⟨_,rfl⟩
  have f:c.length=(l.length+1)*3:=by
   rw[i];simp only[ZY,ZT,ZU];omega
  have n:=t.1;rw[<-i] at n;have k:m.ownsRow base 88 3 (.slice (some ⟨g,0,none⟩) (l.length+1) (l.length+1)) (l.length+1) c:=⟨f,.inr ⟨g,l.length+1,c.toArray,rfl,v,n,xA _,y,by simp[f],by rw[ZO];simp[f]⟩⟩;refine⟨c.set (l.length*3) Ag,Q8 k (by omega) _,fun j u hu=>?_,?_⟩
  ·have r:j<(jg l).length:=(XA.1 hu).1
   rw[XO (by omega),i];simp only[List.take_zero,xZ];rw[zQ r];exact hu
  ·rw[XP (by omega)]
theorem Hb.cell{base:Nat}(h:Hb w3 base g nl l cs3)(b:cs3[j]?=some u):w3.cell? ⟨g,j,none⟩=some u:=by
 rcases h.row.2 with⟨e,_⟩|⟨o,d,k,e,_,c,i,n,m,f⟩
 ·cases e
 ·cases e
  rw[zA c];rw[<-f,zK] at b
  split at b
  ·simpa using b
  ·cases b
theorem Hb.chs{base:Nat}(h:Hb w3 base g l.length l cs3)(b:l.length<10000000):Chs w3 (.slice (some ⟨g,0,none⟩) l.length (l.length+1)) l:=by
 refine⟨_,_,rfl,by omega,by unfold maxLen;omega,fun e=>(by cases e),fun ad e=>?_⟩;cases e;refine⟨rfl,fun j u hu=>?_⟩;rw[add_zero];exact h.cell (h.cells j u hu)
theorem Hb.keep{b:World}{base:Nat}(h:Hb w3 base g nl l cs3)(k:ja w3 b T)(c:¬T g):Hb b base g nl l cs3:=⟨k.row h.row (fun g' e t=>by cases e;exact c t),h.cells,h.behind⟩
theorem xm.back{c:World}{b:Nat}{cl:Bool}{F:Nat->Prop}(h:xm E B w1 d b s k cl F c)(f:ja w w1 (fun _=>False)):xm E B w d b s k cl F c:=by
 obtain⟨n,k',m,l,j,g⟩:=h;have:=f.size;refine⟨n,k',m,l,(f.up).tt j,fun i t=>?_⟩;rcases g i t with t|t
 ·exact .inl t
 ·exact .inr (by omega)
theorem Dr(h:n<10000000):wrap64 ((n:Int)+1)=(n:Int)+1/\IntKind.i64.wrap ((n:Int)+1)=(n:Int)+1:=⟨wrap_small (by omega) (by omega),zE (by omega) (by omega)⟩
theorem Mj(b:Array Value)(w:World):(callFunc 24 b).run prog w = .ok (.enter 24 b) w:=by kernel_rfl
theorem Tryz.jdp:(prog.info? 88).map (·.size)=some 3:=by kernel_rfl
theorem lx.same{b:World}(h:lx w5 wr g nl i cs3)(k:ja wr b (fun _=>False)):lx w5 b g nl i cs3:=by
 obtain⟨cs,j,f,d,c⟩:=h;exact⟨cs,k.row j (fun _ _ t=>t),f,d,c.trans k (fun _ _ t=>t.elim)⟩
theorem P5{cl:Bool}(h:Wd E B W wb sv sd s cl k np nn nt Q K)(hf:Fits n s)(hn:n<2000000)(ao:j3 s.files<=6000)(hk:k<520000000000)(hb:np<900000000/\nn<900000000/\nt<900000000)(v:Value)(l:List Rf.Ch)(hl:im W v l)(ap:l≠[]->∀ p n c,v = .slice (some p) n c->p.block<B)(au:l.length<10000000)(hs:∀ c∈l,c.key.length<10000000/\c.value.length<10000000):Calls prog 92 #[.pointer (some ⟨wb,0,none⟩),.pointer (some ⟨sd,0,none⟩),v] W (Jk E B W wb sv sd n k np nn nt Q K):=by
 obtain⟨j1,dl,db,da,d9⟩:=info_parts Tryz.Jz;obtain⟨j0,hj,de,dd,dc⟩:=info_parts Tryz.wx;obtain⟨d,x,y,F,G,J,hQ⟩:=h.side;have c1:=zA (o:=1) J.row;have c2:=zA (o:=2) J.row;simp at c1 c2;have ca:=J.x.size;obtain⟨g,hg⟩:∃ g,g=W.heap.size:=⟨_,rfl⟩;have ay:¬F g:=fun t=>by have:=(J.x.old t).2;omega
 have ax:¬G g:=fun t=>by have:=J.y.old t;omega
 have br:¬K g:=fun t=>by have:=h.lists.old t;omega
 have bp:¬g=sd:=fun e=>by have:=zC J.row;omega
 have bq:¬Q g:=fun t=>((hQ g).1 t).elim ay (fun t=>t.elim ax bp);obtain⟨r,hr⟩:∃ r,r=Jb s cl l:=⟨_,rfl⟩
 have HX:Hid (∀ w3 ev,ja W w3 (fun _=>False)->Chs w3 ev l->(∀ p n c,ev = .slice (some p) n c->¬F p.block)->Calls prog 24 #[.pointer (some ⟨x,0,none⟩),ev] w3 fun e w'=>e = .returned (.int .i64 r.2)/\xm E B w3 d x r.1 (k+20000) cl F w'):=fun w3 ev kk he ho=>by
  rw[hr];exact jdi (J.x.keep kk (fun _ _ t=>t.elim)) hf hn ao (by omega) ev l he ho (by omega) (fun c hc=>by have:=hs c hc;omega)
 have HR:Hid (∀ w4,ja W w4 F->Calls prog 138 #[.pointer (some ⟨y,0,none⟩),v] w4 fun e w'=>e = .returned (.int .i64 r.2)/\ym w4 y r.1 cl G w'):=fun w4 kk=>by
  rw[hr];have c0:=hf.bnd;have b4:=c0.lens;have b3:=c0.bs;have fs:=hf.last;exact ja0 (J.y.keep kk (fun i f g=>J.fg i f g)) v l (hl.keep kk (fun a7 p n c e t=>by have:=ap a7 p n c e;have:=(J.x.old t).1;omega)) (by omega) (fun c hc=>by have:=hs c hc;omega) (by omega) ⟨by omega,by omega⟩
 have eg:Hid (Fits (n+1) r.1):=jb (by
  rw[hr]
  unfold Jb
  split
  ·exact hf.mono (by omega)
  ·split
   ·rename_i hok
    exact hf.write hok ao hn
   ·exact hf.mono (by omega))
 obtain⟨p,c,rfl⟩:=hl.shape
 have cj:Hid (∀ w',ja W w' (fun i=>(Q i\/K i)\/i=g)->im w' (.slice p l.length c) l):=fun w' kk=>hl.keep kk (fun a7 p' n c e t=>by
  have h1:=ap a7 p' n c e
  rcases t with(t|t)|t
  ·have:=(h.side.old t).1;omega
  ·have:=h.ge _ t;omega
  ·omega)
 have ce:=jb hl;have c6:=au;obtain⟨nl,O⟩:∃ nl,nl=l.length:=⟨_,rfl⟩;have S:=jb O;rw[<-O] at c6 cj ce HR ⊢
 have e8:Hid (∀ w1 w2 zs q,w1.ownsRow g 88 3 (.slice (some ⟨g,0,none⟩) (nl+1) (nl+1)) (nl+1) zs->w1.heap[g]?=some (.cells q 88 (0,0))->uv w1 g 0 q 88 (jg l) w2->∃ cs3,Hb (w2.setCell ⟨g,nl*3,none⟩ Ag) g g nl l cs3):=fun w1 w2 zs q a b c=>by
  rw[O] at a ⊢;exact jd2 a b c
 have e9:Hid (∀ w3 cs3,Hb w3 g g nl l cs3->Chs w3 (.slice (some ⟨g,0,none⟩) nl (nl+1)) l):=fun w3 cs3 a=>by
  rw[O] at a ⊢;exact a.chs au
 have HH:=jb h;have HS:=jb J;have HQ:=jb hQ;have HB:=jb hb;have HG:=jb hg;have ef:=jb ay;have fu:=jb ax;have ci:=jb br;have ch:=jb bq;have ej:=jb ca;have e0:=jb J.sF;have V:(nl:Int)+1=((nl+1:Nat):Int):=by omega
 have b4:j1.bytes*(nl+1)<=281474976710656:=by rw[d9];omega
 have b3:nl+1<=maxLen:=by unfold maxLen;omega
 have fo:=(Dr c6).2;have ck:=jb V;have el:=jb b4;have ek:=jb b3;clear V b4 b3;clear h J hQ hb hg ay ax br bp bq ca hr hf ao hl ap au hs O hn hk;go_enter func92,ntmps92
 go_upto_region 2 with(first|(at_make;refine wpList_make_full _ rfl (.tmp 14) (.tmp 14) 38 rfl W.heap.size 88 j1 Jy 3 underlying38 dl db da .i64 .i64 ((nl:Int)+1) ((nl:Int)+1) (nl+1) rfl rfl ck.out ck.out el.out ek.out (xA _) ?_;intro w1 a6 bu))
 rw[<-HG.out] at a6;rw[<-HG.out]
 obtain⟨q,aw,bw⟩:∃ q:Array Value,w1.heap[g]?=some (.cells q 88 (0,0))/\(nl+1)*3<=q.size:=by
  rcases a6.2 with⟨e,_⟩|⟨A,f7,q,e,_,dn,h1,h2,h3,h4⟩
  ·cases e
  ·injection e with e1 e2 e3
   injection e1 with e1;injection e1 with e1 _ _;subst e1;exact⟨q,dn,by rw[h3];exact XJ _ h1⟩
 have k1:ja W w1 (fun _=>False):=(ja.refl W _).grow bu (fun i e _=>by cases e);have bn:im w1 (.slice p nl c) l:=ce.out.same k1;have bm:l.length<=nl+1:=by rw[<-S.out];omega
 have ag:(jg l).length<=q.size:=by rw[qq,<-S.out];omega
 have ei:=jb bw;have ed:=jb k1;have e7:=jb a6;have ee:=jb aw;clear a6 bu bw k1
 go_upto_region 3 with(first|(refine Cg rfl (.tmp 16) (.tmp 17) 38 38 rfl 88 underlying38 Tryz.jdp g (nl+1) (nl+1) _ l rfl rfl bn q 88 aw bm ag ?_;intro w2 I))
 obtain⟨u0,y0⟩:∃ u0,w2.cell? ⟨g,nl*3,none⟩=some u0:=by
  have h1:=zA (o:=nl*3) I.1;have h2:(jg l).length=nl*3:=by rw[qq,<-S.out]
  have h3:=ei.out;rw[XE (by simp only[xP,ZY,ZT,ZU,XM];omega)] at h1;exact⟨_,h1⟩
 have z0:=zB (o:=nl*3) I.1;have cm:=jb I;clear I aw bn bm ag
 go_upto_region 4 with fail
 obtain⟨w3,a5⟩:∃ w3,w3=w2.setCell ⟨g,nl*3,none⟩ (.string ⟨#[98,101,104,105,110,100]⟩):=⟨_,rfl⟩;rw[<-a5];obtain⟨cs3,M⟩:=e8.out w1 w2 _ q e7.out ee.out cm.out;have M:Hb w3 g g nl l cs3:=by rw[a5];exact M
 have k3:ja W w3 (fun _=>False):=by
  have h1:=HG.out;rw[a5];refine(ed.out.trans cm.out.2 (fun i hi e=>?_)).trans (ja.setCell _ _ _) (fun i hi e=>?_)
  ·have e':i=g:=e
   omega
  ·have e':i=g:=e
   omega
 have av:g<w3.heap.size:=(M.row.lt g rfl).2;have c1:=k3.cell c1 id;have c2:=k3.cell c2 id;have dw:=jb (HH.out.same k3);have e6:=jb (HS.out.keep k3 (fun _ _ t=>t.elim));have dv:Hid (∀ w3',ja w3 w3' (fun _=>False)->Calls prog 24 #[.pointer (some ⟨x,0,none⟩),.slice (some ⟨g,0,none⟩) nl (nl+1)] w3' fun e w'=>e = .returned (.int .i64 r.2)/\xm E B w3' d x r.1 (k+20000) cl F w'):=fun w3' kk=>HX.out w3' _ (k3.tt kk) ((e9.out w3 cs3 M).same kk) (fun p n c e=>by cases e;exact ef.out);have ct:=jb M;have a9:=jb k3;have cg:=jb av;clear a5 y0 z0 M k3 av;go_wp2_with fail
 go_cut [8] from 24 (fun s8 wd=>s8 = .int .i64 r.2/\xm E B w3 d x r.1 (k+20000) cl F wd)
 case first =>
  have kd:ja w3 w3.drew (fun _=>False):=ja.drew _ _;have c1:w3.drew.cell? ⟨sd,1,none⟩=some (.pointer (some ⟨x,0,none⟩)):=kd.cell c1 id;have f4:(nl:Int)<=(nl:Int)+1:=by omega
  go_region_law (first
   | (refine jr rfl 24 [.tmp 27,.tmp 31] _ rfl Mj [.pointer (some ⟨x,0,none⟩),.slice (some ⟨g,0,none⟩) nl (nl+1)] (by simp[Act.eval,Act.put]) (dv.out _ kd) ?_
      rintro e w4 ⟨rfl,Z⟩
      have df:=Z.back kd
      refine⟨_,rfl,?_⟩))
  all_goals
   go_wp2;go_meet
  all_goals exact⟨rfl,df⟩
 case rest =>
  obtain⟨rfl,Z⟩:=hcut;have du:=jb Z;obtain⟨F4,k4,dk,dh,am,ds⟩:=Z;have c2:=am.cell c2 e0.out;have eb:=jb am;clear dk dh am ds c1;go_wp2_with fail;refine(HR.out wc ((a9.out.up).tt eb.out)).mono ?_;rintro e w5 ⟨rfl,bj⟩;obtain⟨s2,ft,k2,bg,bh,z,Q2,K2,c3,bv,a1,a2,a3,a4,an,c5,c8⟩:=qi.xy dw.out e6.out HQ.out eg.out du.out bj;have a8:=ct.out.keep an (fun t=>t.elim ch.out ci.out);have u5:=a8.cell a8.behind;unfold Ag at u5;have cb:=jb c3;have eh:=jb bv;have HA:Hid (k2<=k+20000/\bg<=np/\bh<=nn/\z<=nt):=(show _/\_ from⟨a1,a2,a3,a4⟩);have ah:=jb an;have cd:=jb c5;have cf:=jb c8;have aa:=jb a8;clear bj c3 bv a1 a2 a3 a4 an c5 c8 a8 c2;go_wp2_with fail;refine(rh _ _).mono ?_;rintro e w5 ⟨rfl,rfl⟩;go_wp2_with fail;clear u5;have c4:lx w5 w5 g nl 0 cs3:=lx.first (qg aa.out.row (zU _));have dy:=jb c4;clear c4
  go_loopw [10,11] (fun t10 t11 wr=>∃ i:Nat,t10 = .bool true/\t11 = .int .i64 i/\i<=nl+1/\lx w5 wr g nl i cs3) (fun _ t11 _=>nl+1-(intOf t11).toNat)
  case atStart=>exact⟨0,rfl,rfl,zU _,dy.out⟩
  case round =>
   obtain⟨i,rfl,rfl,fq,N⟩:=hrel;rcases ZJ i (nl+1)with R|fr
   ·have dm:(i:Int)<(nl:Int)+1:=by omega
    have fp:IntKind.i64.wrap ((i:Int)+1)=(i:Int)+1:=(Dr (by omega)).2;obtain⟨f6,H,cn⟩:=N.heap;obtain⟨v0,y0⟩:∃ u0,wr.cell? ⟨g,i*3,none⟩=some u0:=⟨_,(zA (o:=i*3) H).trans (XE (by omega))⟩;obtain⟨v1,y1⟩:∃ u0,wr.cell? ⟨g,i*3+1,none⟩=some u0:=⟨_,(zA (o:=i*3+1) H).trans (XE (by omega))⟩;obtain⟨v2,y2⟩:∃ u0,wr.cell? ⟨g,i*3+2,none⟩=some u0:=⟨_,(zA (o:=i*3+2) H).trans (XE (by omega))⟩;have z0:=zB (o:=i*3) H;have z1:=zB (o:=i*3+1) H;have z2:=zB (o:=i*3+2) H;have cc:=jb N;clear H cn;rcases ZJ i nl with cp|f5
    ·have D:i<l.length:=by rw[<-S.out];exact cp
     have a7:((i:Int)==(nl:Int))=false:=by simp;omega
     have bo:ja W wr (fun i=>(Q i\/K i)\/i=g):=((a9.out.up).tt (ah.out.mono (fun _ _ t=> .inl t))).trans N.keeps (fun _ _ e=> .inr e);have az:=(cj.out wr bo).chs (fun e=>by rw[e] at D;simp at D);rw[S.out] at az;obtain⟨b,o,hp,b0,b1,b2⟩:=az.at D;have bz:=aa.out.cells (i*3) _ (Y2 D).1;have bx:=aa.out.cells (i*3+1) _ (Y2 D).2.1;have I:=aa.out.cells (i*3+2) _ (Y2 D).2.2;have a0:=N.at (j:=0) R (by omega) bz;have a1:=N.at (j:=1) R (by omega) bx;have a2:=N.at (j:=2) R (by omega) I;rw[Nat.add_zero] at a0;subst hp;generalize l[i]=X at a0 a1 a2 b0 b1 b2;obtain⟨xk,xv,xg⟩:=X;simp only at a0 a1 a2 b0 b1 b2;clear y0 y1 y2 N bz bx I D bo az;go_wp2_with fail;go_quiet (fail);go_wp2;exact⟨⟨i+1,rfl,by simp,by omega,(cc.out.same (ja.drewN _ _ _)).step R⟩,by simp[intOf];omega⟩
    ·have e:i=nl:=by omega
     subst e;clear N;go_wp2_with fail;go_quiet (fail);go_wp2;exact⟨⟨i+1,rfl,by simp,by omega,(cc.out.same (ja.drewN _ _ _)).step R⟩,by simp[intOf]⟩
   ·have dm:¬(i:Int)<(nl:Int)+1:=by omega
    have e:i=nl+1:=by omega
    subst e;have aq:=N.done;have bi:=N.keeps;obtain⟨Y,rfl⟩:∃ Y,Y=wr:=⟨_,rfl⟩;obtain⟨pv,nv,tv,T,C⟩:=cb.out.lists;obtain⟨tp,tc,rfl⟩:=C.t.shape
    have af:¬K2 g:=fun t=>by
     rcases cf.out g t with t|t
     ·exact ci.out t
     ·have:=cg.out;omega
    have ae:¬Q2 g:=fun t=>by
     rcases cd.out g t with t|t
     ·exact ch.out t
     ·have:=cg.out;omega
    have U:ja w5 Y (fun j=>(Value.slice (some ⟨g,0,none⟩) (nl+1) (nl+1)).ownBlock=some j):=bi.mono (fun i _ e=>by have e':i=g:=e;rw[e'];rfl);have L:∀ A,(Value.slice (some ⟨g,0,none⟩) (nl+1) (nl+1)).ownBlock=some A->¬K2 A:=fun A e=>by cases e;exact af
    have L6:=C.keep U L
    obtain⟨d7,c9⟩:=CL.gr (e:=88) (c:=Tz) (m:=nl+1) (lv:= .slice (some ⟨g,0,none⟩) (nl+1) (nl+1)) (T':=fun A=>T A\/(Value.slice (some ⟨g,0,none⟩) (nl+1) (nl+1)).ownBlock=some A) L6.t aq (fun g t=> .inl t) (fun A t=>⟨.inr t,fun u=>L A t ((C.J9 A).2 (.inl u))⟩) (fun A t u=>by
     rcases u with u|u
     ·exact L6.nT.2.2.2 A t u
     ·exact L A u ((C.J9 A).2 (.inr (.inr (.inr (.inr t)))))) (fun A t=>by
     rcases t with t|t
     ·exact L6.lt A t
     ·exact(aq.lt A t).2)
    have b5:KP Y Y wb 38 88 Tz fT (fun p=>#[sv,pv,nv,p]) (.slice tp z tc) (.slice (some ⟨g,0,none⟩) (nl+1) (nl+1)) T z (nl+1) (.slice tp z tc) (.slice (some ⟨g,0,none⟩) (nl+1) (nl+1)) d7 (fun A=>T A\/(Value.slice (some ⟨g,0,none⟩) (nl+1) (nl+1)).ownBlock=some A):=⟨L6.row,c9,fun g t=> .inl t,fun g t=>t.elim .inl (fun t=> .inr (.inl t)),fun g t=> .inl t,ja.refl _ _⟩;have q3:=zA (o:=3) L6.row;simp at q3;have ad:wb<Y.heap.size:=zC L6.row;have bk:¬T wb:=C.nT.1;have bl:(Value.slice (some ⟨g,0,none⟩) (nl+1) (nl+1)).ownBlock≠some wb:=fun t=>L wb t ((C.J9 wb).2 (.inr (.inl rfl)));have ar:(Value.slice tp z tc).ownBlock≠some wb:=fun t=>C.at' wb t rfl;have b6:=b5.gr.row.alloc (.cells #[.slice (some ⟨g,0,none⟩) (nl+1) (nl+1)] 38);have co:∀ u∈[Value.slice (some ⟨g,0,none⟩) (nl+1) (nl+1)],u.oneCell'=true:=fun u hu=>by rw[ZE.1 hu];rfl
    have dz:Hid (∀ W6,(Y.alloc (.cells #[.slice (some ⟨g,0,none⟩) (nl+1) (nl+1)] 38)).grownBy W6 (Value.slice tp z tc).ownBlock->W6.cell? ⟨wb,3,none⟩=some (.slice tp z tc)/\W6.frozen? ⟨wb,3,none⟩=false):=fun W6 hg=>by
     have hk:=(ja.grown hg).same ((ja.alloc Y (.cells #[.slice (some ⟨g,0,none⟩) (nl+1) (nl+1)] 38) (fun _=>False)).same L6.row id) (fun e=>ar e.symm);have hc:=zA (o:=3) hk;exact⟨by simpa using hc,zB hk⟩
    have dt:Hid (z+1<=maxLen):=jb (by have:=HB.out;have:=HA.out;unfold maxLen;omega);have dp:Hid ((z+1)*24<=140737488355328):=jb (by have:=HB.out;have:=HA.out;omega);have ea:=jb C;have dx:=jb L;have cs:=jb U;have ec:=jb b5;have H6:Hid (wb<Y.heap.size/\¬T wb/\(Value.slice (some ⟨g,0,none⟩) (nl+1) (nl+1)).ownBlock≠some wb/\(Value.slice tp z tc).ownBlock≠some wb/\¬Q2 g):=(show _/\_ from⟨ad,bk,bl,ar,ae⟩);clear N aq bi U C af ae L L6 c9 b5 ad bk bl ar
    go_wp2_with (first|(at_builtin;refine jk _ rfl (.tmp 84) (.tmp 86) 27 rfl 0 38 j0 (.slice none 0 0) 1 24 underlying27 hj de dd dc rfl xD _ _ _ rfl b6 ⟨Y.heap.size,0,none⟩ 1 1 [.slice (some ⟨g,0,none⟩) (nl+1) (nl+1)] rfl rfl (cell_one_new _ _ _) co dt.out dp.out (zU _) ?_;intro p7 c7 w7 dg bt di;obtain⟨r2,r3⟩:=dz.out w7 bt))
    go_ret;obtain⟨e1,e2,e3,e4,e5⟩:=H6.out;have cr:=ec.out.push (i:=3) e2 e3 e4 e1 rfl dg bt di (fun p=>rfl);obtain⟨K',dq,d8,dr⟩:=KP.jgz ea.out dx.out cs.out cr;have dj:ja W w5 (fun i=>Q i\/K i):=(a9.out.up).tt ah.out;have s3:=a9.out.size;have av:=HG.out;have cq:qi E B W wb sv sd (n+1) k2 bg bh (z+1) Q K _:=qi.lists cb.out eh.out dq dj (fun i t=>(cd.out i t).elim .inl (fun t=> .inr (by omega))) (fun i t=>(cf.out i t).elim .inl (fun t=> .inr (by omega))) d8 (fun i t=>by cases t;show W.heap.size<=g;omega) ej.out (fun i t=>by cases t;exact e5) dr;have ha:=HA.out;exact⟨rfl,cq.mono (by omega) (by omega) (by omega) (by omega) (by omega)⟩
end Go.Proofs.YtnipbplghijdmaaGreatDoor

/-
  D: CompactR2 SettleR RenewR.
-/
import Derived.Test.YtnipbplghijdmaaGreatDoorD40
set_option maxRecDepth 100000
set_option maxHeartbeats 8000000
set_option linter.unusedVariables false
set_option linter.unusedSimpArgs false
namespace Go.Proofs.YtnipbplghijdmaaGreatDoor
open RowKit Maps WideShapes Go.Proofs.Tryz
theorem I2{E:Nat->Addr}{B:Nat}{w:World}{ρ:Nat->j3}{d b k:Nat}{SD:jc}{m:Rf.Man}{last:Nat}{s:List Rf.Ch}{X:List (List Rf.Ch)}{rv mv:Value}(S:StM E B w ρ d b SD k m last s false rv mv)(hk:k<530000000000)(hn:m.next+1<=2000000000)(c8:X.length=m.settled.length)(e4:∀ l∈X,Rf.sx l)(e5:∀ p∈qq m.settled X,At SD p.1 (fun a=>a.bytes=p.2))(hl:(Rf.merged X).length<60000){live:List Rf.Ch}(a0:Rf.there (Rf.merged X)=live)(ag:live≠[])(bz:Rf.sx live)(hs:(Rf.j7 live).length<=20000) :
 Calls prog 69 #[.pointer (some ⟨b,0,none⟩)] w (X1 E B w ρ d b rv mv SD k m last s live):=by
 obtain⟨O,T,dv,fs⟩:=id S.runs;have el:∃ n,rv = .slice O n T:=⟨_,dv⟩;clear dv fs;obtain⟨nr,rfl⟩:=el;obtain⟨n1,c6⟩:∃ n1,n1=m.next+1:=⟨_,rfl⟩;have ef:=jb c6;clear c6;have u:=S.row;have c1:=zA (o:=1) u;have c2:=zA (o:=2) u;have c3:=zA (o:=3) u;have c4:=zA (o:=4) u;have c5:=zA (o:=5) u;simp at c1 c2 c3 c4 c5;have a1:∀ o1,(w.alloc o1).cell? ⟨b,1,none⟩=some (jg m.next):=fun o1=>(ja.alloc w o1 (fun _=>False)).cell c1 id;have b1:∀ o1 o2,((w.alloc o1).alloc o2).cell? ⟨b,1,none⟩=some (jg m.next):=fun o1 o2=>((ja.alloc w o1 (fun _=>False)).more o2).cell c1 id;have a2:∀ o1,(w.alloc o1).cell? ⟨b,2,none⟩=some (jg m.last):=fun o1=>(ja.alloc w o1 (fun _=>False)).cell c2 id;have b2:∀ o1 o2,((w.alloc o1).alloc o2).cell? ⟨b,2,none⟩=some (jg m.last):=fun o1 o2=>((ja.alloc w o1 (fun _=>False)).more o2).cell c2 id;have a3:∀ o1,(w.alloc o1).cell? ⟨b,3,none⟩=some (jg m.log):=fun o1=>(ja.alloc w o1 (fun _=>False)).cell c3 id;have b3:∀ o1 o2,((w.alloc o1).alloc o2).cell? ⟨b,3,none⟩=some (jg m.log):=fun o1 o2=>((ja.alloc w o1 (fun _=>False)).more o2).cell c3 id;have a4:∀ o1,(w.alloc o1).cell? ⟨b,4,none⟩=some (jg m.base):=fun o1=>(ja.alloc w o1 (fun _=>False)).cell c4 id;have b4:∀ o1 o2,((w.alloc o1).alloc o2).cell? ⟨b,4,none⟩=some (jg m.base):=fun o1 o2=>((ja.alloc w o1 (fun _=>False)).more o2).cell c4 id;have a5:∀ o1,(w.alloc o1).cell? ⟨b,5,none⟩=some (.slice O nr T):=fun o1=>(ja.alloc w o1 (fun _=>False)).cell c5 id;have b5:∀ o1 o2,((w.alloc o1).alloc o2).cell? ⟨b,5,none⟩=some (.slice O nr T):=fun o1 o2=>((ja.alloc w o1 (fun _=>False)).more o2).cell c5 id
 have gj:Hid (live.length<60000):=by
  have h1:=ZT (fun c:Rf.Ch=>!c.gone) (Rf.merged X);rw[<-a0];show(Rf.there (Rf.merged X)).length<60000;unfold Rf.there;omega
 have HN:=jb hn;have HL:=jb hl;have HS:=jb hs;have HK:=jb hk;have f2:=jb c8;have gl:=jb e4;have gm:=jb e5;have d4:=jb a0;have ey:=jb bz;have hf:=jb u;have a9:0<live.length:=ZX.2 ag;have ah:=jb ag;have ex:=jb a9;clear u hn hl hk c8 e4 e5 a0 ag bz hs a9;go_enter func69,ntmps69;go_wp2_with fail
 go_cut [3,4] from 10 (fun s3 s4 wc=>∃(x y:Nat),s3 = .pointer (some ⟨x,0,none⟩)/\s4 = .pointer (some ⟨y,0,none⟩)/\x≠y/\w.heap.size<=x/\w.heap.size<=y/\wc.heap[x]?=some (.cells #[jg m.next,jg m.last,jg m.log,jg m.base,.slice O nr T] 117 (0,0)) /\
  wc.heap[y]?=some (.cells #[jg m.next,jg m.last,jg m.log,jg m.base,.slice O nr T] 117 (0,0))/\ja w wc (fun _=>False))
 case first =>
  go_region
  all_goals
   go_wp2;go_meet
  case rel =>
   obtain⟨h1,h2,h3⟩:=di w (.cells #[jg m.next,jg m.last,jg m.log,jg m.base,.slice O nr T] 117)
   first
    | exact⟨_,_,rfl,rfl,by omega,by omega,by omega,h1,h2,h3⟩
    | exact⟨_,_,rfl,rfl,by omega,by omega,by omega,h2,h1,h3⟩
  case rel =>
   obtain⟨h1,h2,h3⟩:=di w (.cells #[jg m.next,jg m.last,jg m.log,jg m.base,.slice O nr T] 117)
   first
    | exact⟨_,_,rfl,rfl,by omega,by omega,by omega,h1,h2,h3⟩
    | exact⟨_,_,rfl,rfl,by omega,by omega,by omega,h2,h1,h3⟩
 case rest =>
  obtain⟨x,y,rfl,rfl,ds,hx,hy,hX,hY,kc⟩:=hcut;clear a1 a2 a3 a4 a5 b1 b2 b3 b4 b5 c1 c2 c3 c4 c5;have N:=S.same kc;have cx:=jdy N (by have:=HK.out;omega) f2.out gl.out gm.out HL.out;rw[d4.out] at cx;have gi:=jb cx;have HX:=jb hX;have HY:=jb hY;have dk:ρ x = .none:=yE (fun hn=>by have:=S.xi.rep.lt x hn;omega);have cs:ρ y = .none:=yE (fun hn=>by have:=S.xi.rep.lt y hn;omega);clear cx hX hY;go_wp2_with fail;refine gi.out.mono ?_;rintro e w2 ⟨v2,iq,r,rfl,al,g2,D2,⟨rfl,bg⟩|⟨e3,rfl,fx⟩⟩
  rotate_left
  ·obtain⟨t2,a2,rfl⟩:=e3.shape
   have g4:=al.fit S.fit;go_wp2;go_ret;exact⟨r,al,.inl ⟨fx,⟨_,rfl,e3⟩,S.gone kc g2 D2 (g4.mono (by omega))⟩⟩
  have F2:=al.fit S.fit;have bk:=jb al;clear al;obtain⟨b6,_⟩:=g2.row N.row N.nb.1
  have S2:StM E B w2 ρ d b r k m last s false (.slice O nr T) mv:=by
   have bb:ja wc w2 (fun i=>ρ i≠ .none\/i=b):=g2.keeps.mono (fun i _ h=> .inl h);refine⟨N.env.keep bb (fun i t=>t.elim (fun t=>S.xi.yz i t) (fun t=>by rw[t];exact S.nb.2)),D2,F2,b6,N.runs.keep bb (fun _ p n c e t=>?_),bb.row N.mem (fun g hg t=>t.elim (fun t=>t (N.nm g hg).1) (N.nm g hg).2),N.nb,fun p n c e=>?_,N.nm,N.y7,N.rising,N.few,N.ay⟩
   ·obtain⟨a1,a2,a3,a4,a5⟩:=N.nr p n c e
    exact t.elim (fun t=>t a1) a2
   ·obtain⟨a1,a2,a3,a4,a5⟩:=N.nr p n c e
    exact⟨a1,a2,a3,a4,ZH a5 bb.size⟩
  have G:=(g2.row HY.out cs).1;have ea:=(g2.row HX.out dk).1;have y0:=zA (o:=0) G;have y1:=zA (o:=1) G;have y2:=zA (o:=2) G;have y3:=zA (o:=3) G;have y4:=zA (o:=4) G;have q3:=zB (o:=3) G;have q4:=zB (o:=4) G;simp at y0 y1 y2 y3 y4;obtain⟨w3,bd⟩:∃ w3,w3=(w2.setCell ⟨y,3,none⟩ (.int .i64 0)).setCell ⟨y,4,none⟩ (.slice none 0 0):=⟨_,rfl⟩;have k3:ja w2 w3 (fun i=>i=y):=by rw[bd];exact(ja.setCell w2 ⟨y,3,none⟩ _).set (p:=⟨y,4,none⟩) rfl _
  have eb:B<=y:=ZI S.xi.size hy;have dq:¬StF ρ b mv y:=fun h=>by have:=(S.old h).2;omega
  have dp:∀ p n c,(Value.slice O nr T) = .slice (some p) n c->y≠p.block:=fun p n c e h=>by
   have:=(S.nr p n c e).2.2.2.2;omega
  have S3:StM E B w3 ρ d b r k m last s false (.slice O nr T) mv:=S2.keep k3 (fun i hi e=>by rw[e];exact⟨eb,dq,dp⟩);have e7:w3.heap[y]?=some (.cells #[jg m.next,jg m.last,jg m.log,.int .i64 0,.slice none 0 0] 117 (0,0)):=by rw[bd];exact(jd (jd G _) _).trans rfl
  have e9:=k3.same ea ds;have dl:ja w w3 (StF ρ b mv):=((kc.up).trans g2.keeps (fun i _ h=> .inl h)).trans k3 (fun i hi e=>by omega);have du:v2.ownBlock≠some y:=fun e=>by have:=(bg.lt y e).1;have:=zC HY.out;omega
  have cu:=k3.row bg (fun g hg e=>du (by rw[<-(show g=y from e)];exact hg))
  have eo:∀ g,v2.ownBlock=some g->ρ g = .none/\w.heap.size<=g:=fun g hg=>by
   have h1:=(bg.lt g hg).1;have h2:=kc.size;exact⟨yE (fun hn=>by have:=S.xi.rep.lt g hn;omega),by omega⟩
  have f3:Hid (ja w w3 (fun i=>ρ i≠ .none\/i=b)):=(show ja w w3 _ from((kc.up).trans g2.keeps (fun i _ h=> .inl h)).trans k3 (fun i hi e=>by omega));have io:=dl.size;have gb:=jb e9;have g9:=jb e7;have d2:=jb cu;obtain⟨pv,cv,rfl⟩:=jl cu;have fz:=S.y7.log;have fw:=S.y7.1;have f1:Hid (m.log<=9223372036854775807):=jb (by omega);clear ea G e9 e7 bg cu b6 fz fw D2 g2 S2 du F2;have ag:=ah.out;have a9:=ex.out
  have fv:∃ g0,pv=some ⟨g0,0,none⟩:=by
   rcases d2.out.2 with⟨e,h0⟩|⟨g,cap,ir,e,_⟩
   ·exact(ag (zT h0)).elim
   ·cases e
    exact⟨g,rfl⟩
  obtain⟨g0,rfl⟩:=fv;have fy:(0:Int)<(live.length:Int):=by omega
  have ep:decide ((0:Int)<(live.length:Int))=true:=by simp;omega
  have dz:m.next<2000000000:=by have:=HN.out;omega
  have ct:=ab g9.out dz;rw[<-ef.out] at ct;have gc:=jb ct;obtain⟨ml,cw⟩:∃ ml,ml=live.length:=⟨_,rfl⟩;rw[<-cw] at fy ep ⊢;have gh:=jb cw;clear ct dz ag cw a9;go_wp2_with fail;rw[<-bd];clear bd y0 y1 y2 y3 y4 q3 q4;refine gc.out.mono ?_;rintro e w4 ⟨rfl,bh,k4⟩;have t3:=zA (o:=3) bh;have r3:=zB (o:=3) bh;simp at t3;obtain⟨w5,bc⟩:∃ w5,w5=w4.setCell ⟨y,3,none⟩ (jg m.next):=⟨_,rfl⟩;have k5:ja w3 w5 (fun i=>i=y):=by rw[bc];exact k4.set (p:=⟨y,3,none⟩) rfl _
  have e6:w5.heap[y]?=some (.cells #[jg n1,jg m.last,jg m.log,jg m.next,.slice none 0 0] 117 (0,0)):=by rw[bc];exact(jd bh _).trans rfl
  have U:StM E B w5 ρ d b r k m last s false (.slice O nr T) mv:=S3.keep k5 (fun i hi e=>by rw[e];exact⟨eb,dq,dp⟩);have e8:=k5.same gb.out ds
  have dy:=k5.row d2.out (fun g hg e=>by
   have h1:=(d2.out.lt g hg).1
   have h2:=zC HY.out
   have e':g=y:=e
   omega)
  have be:=oz U.xi U.env (lo:=m.log) f1.out U.row;have ba:ja w w5 (StF ρ b mv):=dl.trans k5 (fun i hi e=>by omega);have aq:ja w w5 (fun i=>ρ i≠ .none\/i=b):=f3.out.trans k5 (fun i hi e=>by omega);have ge:=jb be;have ga:=jb e8;have ee:=jb e6;have gg:=jb dy;clear be e8 e6 dy bh;go_wp2_with fail;rw[<-bc];clear bc t3 r3;refine ge.out.mono ?_;rintro e q ⟨dj,V,bn,⟨a8,rfl⟩|⟨a8,ig,rfl,cc⟩⟩
  rotate_left
  ·obtain⟨ik,iv,rfl⟩:=cc.shape
   go_wp2;go_ret;refine⟨r,bk.out,.inr ⟨_,false,?_,.inl ⟨rfl,⟨_,rfl,cc⟩,S.wx aq U.row V bn ((U.fit.qn _).mono (by omega))⟩⟩⟩;unfold Qk;rw[if_neg ah.out];exact .inl ⟨Prod.ext rfl a8,rfl⟩
  have bl:=U.fit.qn (jh m.log);have cz:Fn (fun S=>S.qn (jh m.log)) r (r.qn (jh m.log)).1 true:=Prod.ext rfl a8;generalize (r.qn (jh m.log)).1=SD10 at bn bl cz;have b0:=jb cz;clear cz a8;obtain⟨ac,hd⟩:=V.row U.row U.nb.1;have cf:=(V.row ee.out cs).1;have M:=zA (o:=0) ac;have z3:=zA (o:=3) cf;simp at M z3;have M:q.drew.cell? ⟨b,0,none⟩=some (.pointer (some ⟨d,0,none⟩)):=M;have z3:q.drew.cell? ⟨y,3,none⟩=some (jg m.next):=z3;obtain⟨RB,bi⟩:∃ RB,RB=Rf.j7 live:=⟨_,rfl⟩;have g1:live.length<60000:=gj.out;have aa:=ey.out;have cj:=U.env.keep V.keeps (fun i t=>U.xi.yz i t);have J:=V.keeps.row gg.out (fun g hg t=>t (eo g hg).1);have dw:∀ W,ja q W (fun _=>False)->Calls prog 115 #[j6 m.next] W fun e w'=>e = .returned (jf (jo m.next))/\ja W w' (fun _=>False):=fun W A=>gk m.next (by have:=HN.out;omega) (cj.same A)
  have e1:∀ W,ja q W (fun _=>False)->Calls prog 116 #[.slice (some ⟨g0,0,none⟩) ml cv] W fun e w'=>∃ p c,e = .returned (.slice p RB.length c)/\w'.ownsRow q.heap.size 5 1 (.slice p RB.length c) RB.length (RB.map j5)/\ja W w' (fun _=>False):=fun W A=>by
   have g3:Chs W (.slice (some ⟨g0,0,none⟩) live.length cv) live:=(Je J).same A;rw[gh.out,bi];refine(Cw g0 0 cv live W g3 aa.some aa.allowed aa.few).mono ?_;rintro e w' ⟨p,c,rfl,h,k'⟩;exact⟨p,c,rfl,xd h A.size,k'⟩
  have ak:(jo m.next).length<100:=by have:=yj (n:=m.next) (by have:=HN.out;omega);unfold jo;simp only[zW,zH,zX];omega
  have e2:∀(W:World) (v:Value),ja q W (fun _=>False)->W.ownsRow q.heap.size 5 1 v RB.length (RB.map j5)->Calls prog 114 #[.pointer (some ⟨d,0,none⟩),jf (jo m.next),v] W fun e w'=>∃ b9,e = .returned b9/\cd E B q dj d SD10 (Xp (jo m.next) RB) (.returned b9) w':=fun W v A af=>by
   have ft:=HS.out;rw[<-bi] at ft;refine(tr (bn.same A) bl (jo m.next) (Jc _) v RB (xr af) (Nt (fun i hi=>bn.rep.lt i hi) af) (by have:=HK.out;omega)).mono ?_;intro e w' h;exact(h.before (x7.of A (fun _ _ h=>h.elim))).ret
  have d1:=jb dw;have eg:=jb e1;have d3:=jb e2;have bj:=jb bi;have L:ja q q.drew (fun _=>False):=ja.drew _ _;clear dw e1 e2 bi aa cj J ak ac cf g1;obtain⟨rn,au⟩:∃ rn,rn=jo m.next:=⟨_,rfl⟩;rw[<-au] at d1 d3;have F:=jb au;clear au;go_wp2_with fail
  go_cut [8] from 10 (fun s8 wd=>cd E B q dj d SD10 (Xp rn RB) (.returned s8) wd)
  case first =>
   go_region_law (first
    | (refine jx rfl 115 [.tmp 49] _ rfl u5 [j6 m.next] (by simp[Act.eval,Act.put]) (d1.out _ L) ?_
       rintro e fo ⟨rfl,H⟩
       try have af:=H.row af (fun _ _ h=>h)
       have M:=H.cell M id
       have z3:=H.cell z3 id
       have L:=L.tt H
       refine⟨_,rfl,?_⟩)
    | (refine jx rfl 116 [.tmp 51] _ rfl u9 [.slice (some ⟨g0,0,none⟩) ml cv] (by simp[Act.eval,Act.put]) (eg.out _ L) ?_
       rintro e fo ⟨pb,cb,rfl,af,H⟩
       have M:=H.cell M id
       have z3:=H.cell z3 id
       have L:=L.tt H
       refine⟨_,rfl,?_⟩)
    | (refine jx rfl 114 [.tmp 47,.tmp 50,.tmp 52] _ rfl dr [.pointer (some ⟨d,0,none⟩),jf rn,.slice pb RB.length cb] (by simp[Act.eval,Act.put]) (d3.out _ _ L af) ?_
       rintro e ic ⟨b9,rfl,g6⟩
       refine⟨_,rfl,?_⟩))
   all_goals
    go_wp2;go_meet
   all_goals exact g6
  case rest =>
   have hc:rn.length<100:=by have:=yj (n:=m.next) (by have:=HN.out;omega);rw[F.out];unfold jo;simp only[zW,zH,zX];omega
   have he:RB.length<=20000:=by rw[bj.out];exact HS.out
   obtain⟨et,hb,ao,fn,ed,eh,⟨z,cy⟩|⟨z,b9,cy,ca⟩⟩:=hcut
   rotate_left
   ·simp only at z
    subst z;cases cy;have ap:=bl.Du (by rw[F.out];exact Jc _) ao;obtain⟨ij,it,rfl⟩:=ca.shape;have R:=V.trans ed;go_wp2;go_ret;refine⟨r,bk.out,.inr ⟨et,false,?_,.inl ⟨rfl,⟨_,rfl,ca⟩,S.wx aq U.row R eh (ap.mono (by omega))⟩⟩⟩;unfold Qk;rw[if_neg ah.out];exact .inr ⟨_,b0.out,.inl ⟨by rw[<-F.out,<-bj.out];exact ao,rfl⟩⟩
   simp only at z;subst z;cases cy;have ap:=bl.Du (by rw[F.out];exact Jc _) ao;have ck:=jb ao;clear ao;have R:=V.trans ed;obtain⟨bp,ce⟩:=R.row U.row U.nb.1;obtain⟨cg,ei⟩:=R.row ga.out dk;have C:=(R.row ee.out cs).1;have t0:=zA (o:=0) C;have t1:=zA (o:=1) C;have t2:=zA (o:=2) C;have t3:=zA (o:=3) C;have t4:=zA (o:=4) C;simp at t0 t1 t2 t3 t4;have es:=U.env.keep R.keeps (fun i t=>U.xi.yz i t);have bw:ja w wc (StF ρ b mv):=ba.trans R.keeps (fun i _ h=> .inl h);have av:ja w wc (fun i=>ρ i≠ .none\/i=b):=aq.trans R.keeps (fun i _ h=> .inl h);have im:=ba.size;have eu:=jb cg;clear C cg M z3 L d1 eg d3;have e0:iu m.zh (.slice none 0 0) = .agg #[jg n1,jg m.last,jg m.log,jg m.next,.slice none 0 0]:=by rw[ef.out];rfl
   have b7:Rf.Man.Good m.zh:=S.y7.zh HN.out;have ip:Rf.Man.bytes m.zh=Rf.Man.bytes m.zh:=rfl;have c7:(Rf.Man.bytes m.zh).length=42:=by rw[ql];rfl
   have ax:=lg eh ap es m.zh b7 (by show([]:List Nat).length<65536;decide) (.slice none 0 0) (Jw.nil _) (fun p n c e=>by cases e) bp ce S.nb.2 (by have:=HK.out;omega);rw[e0] at ax;have f4:=jb ax;clear ax e0;go_wp2_with fail;refine f4.out.mono ?_;rintro e f ⟨az,ha,co,an,ai,I,bm,⟨Z,rfl⟩|⟨Z,ie,rfl,c9⟩,j⟩
   rotate_left
   ·subst Z
    rw[if_neg (by decide)] at j;have Y:=ap.yt an;rw[c7] at Y;obtain⟨ii,is,rfl⟩:=c9.shape;have A:ja w f (fun i=>ρ i≠ .none\/i=b):=av.trans ai (fun i hi h=>h.imp (fun h=>by rw[<-(show fn i=ρ i from R.role i (by have:=ba.size;omega))];exact h) id);have bf:∀ i,i<w.heap.size->co i=ρ i:=fun i hi=>(I i (ZH hi av.size)).trans (R.role i (by have:=ba.size;omega));go_wp2;go_ret;refine⟨r,bk.out,.inr ⟨az,false,?_,.inl ⟨rfl,⟨_,rfl,c9⟩,S.next A bf bm (Y.mono (by omega)) j⟩⟩⟩;unfold Qk;rw[if_neg ah.out];exact .inr ⟨_,b0.out,.inr ⟨_,by rw[<-F.out,<-bj.out];exact ck.out,.inl ⟨an,rfl⟩⟩⟩
   subst Z;rw[if_pos rfl] at j;have Y:=ap.yt an;rw[c7] at Y;have ew:=jb an;clear an;have fr:x≠b:=fun e=>by have:=S.blt;omega
   have D:=ai.same eu.out (fun t=>t.elim (fun t=>t ei) fr);have il:=bw.size;have h9:=ai.size;have er:co b = .none:=(I b (by have:=S.blt;omega)).trans ce;have ar:ja w f (StF ρ b mv):=bw.trans ai (fun i hi h=>h.elim (fun h=> .inl (by rw[<-(fun(i:Nat) (hi:i<w.heap.size)=>R.role i (by omega)) i hi];exact h)) (fun h=> .inr (.inl h)));have ci:Env E B f:=S.env.keep (ar.mono (fun i hi h=>(show B<=i from(S.old h).1))) (fun i h=>h)
   have ch:Jw f (.slice O nr T) m.runs:=S.runs.keep ar (fun _ p n c e t=>by
    obtain⟨a1,a2,a3,a4,a5⟩:=S.nr p n c e
    rcases t with t|t|t
    ·exact t a1
    ·exact a2 t
    ·exact a4 t)
   have M:=zA (o:=0) j;have x0:=zA (o:=0) D;have x1:=zA (o:=1) D;have x2:=zA (o:=2) D;have x3:=zA (o:=3) D;have x4:=zA (o:=4) D;simp at M x0 x1 x2 x3 x4;have M:f.drew.cell? ⟨b,0,none⟩=some (.pointer (some ⟨d,0,none⟩)):=M;have x0:f.drew.cell? ⟨x,0,none⟩=some (jg m.next):=x0;have x1:f.drew.cell? ⟨x,1,none⟩=some (jg m.last):=x1;have x2:f.drew.cell? ⟨x,2,none⟩=some (jg m.log):=x2;have x3:f.drew.cell? ⟨x,3,none⟩=some (jg m.base):=x3;have x4:f.drew.cell? ⟨x,4,none⟩=some (.slice O nr T):=x4;obtain⟨ns,aj⟩:∃ ns,ns=m.settled.length:=⟨_,rfl⟩;have be:=xy m;have fu:=S.ay
   have dt:∀ W,ja f W (fun _=>False)->Calls prog 121 #[iu m (.slice O nr T)] W fun e w'=>∃ p c,e = .returned (.slice p ns c)/\w'.ownsRow f.heap.size 3 1 (.slice p ns c) ns (m.settled.map jg)/\ja W w' (fun _=>False):=fun W A=>by
    rw[aj];refine(aw W m _ (ch.same A) (by omega)).mono ?_;rintro e w' ⟨p,c,rfl,h,k'⟩;exact⟨p,c,rfl,xd h A.size,k'⟩
   have bx:∀(W:World) (v:Value),ja f W (fun _=>False)->W.ownsRow f.heap.size 3 1 v ns (m.settled.map jg)->Calls prog 120 #[v] W fun e w'=>∃ p c,e = .returned (.slice p ns c)/\w'.ownsRow f.heap.size 9 1 (.slice p ns c) ns ((m.settled.map jo).map jf)/\ja W w' (fun _=>False):=fun W v A hr=>by
    rw[aj] at hr ⊢;refine(l8 v m.settled (ci.same A) (Jz hr rfl) (by omega) (fun n hn=>by have:=S.y7.2.2.1 n (ZB _ hn);have:=S.y7.1;omega)).mono ?_;rintro e w' ⟨p,c,rfl,h,k'⟩;exact⟨p,c,rfl,xd h A.size,k'⟩
   have dx:∀(W:World) (v:Value),ja f W (fun _=>False)->W.ownsRow f.heap.size 9 1 v ns ((m.settled.map jo).map jf)->Calls prog 118 #[.pointer (some ⟨d,0,none⟩),v] W fun e w'=>∃ cq,e = .returned cq/\Xr E B f co d (jc.jr (m.settled.map jo) az) (.returned cq) w':=fun W v A hr=>by
    have ak:(m.settled.map jo).length=ns:=by rw[zL,aj]
    refine(Yk (bm.same A) (Y.small (by have:=HK.out;omega)) v (m.settled.map jo) f.heap.size (by rw[ak];exact hr) (fun g hg=>yE (fun hn=>by have:=(hr.lt g hg).1;have:=bm.rep.lt g hn;omega)) (fun n hn=>Za S.y7 n (ZA.2 (.inl hn))) (by rw[ak];omega) (by have:=Y.safe;have:=HK.out;rw[ak];omega)).mono ?_;intro e w' h;exact(h.before (x7.of A (fun _ _ h=>h.elim))).ret
   have c0:ns<60001:=by omega
   have f0:=jb c0;have ez:Hid ((m.settled.map jo).length=ns):=jb (by rw[zL,aj]);have gd:=jb dt;have ev:=jb bx;have gf:=jb dx;have br:=jb j;have L:ja f f.drew (fun _=>False):=ja.drew _ _;clear dt bx dx aj be fu j D ch c0;go_wp2_with fail
   go_region_law (first
    | (refine jx rfl 121 [.tmp 67] _ rfl Yd [iu m (.slice O nr T)] (by simp[Act.eval,Act.put]) (gd.out _ L) ?_
       rintro e ib ⟨fq,g8,rfl,en,dn⟩
       have M:=dn.cell M id
       have L:=L.tt dn
       refine⟨_,rfl,?_⟩)
    | (refine jx rfl 120 [.tmp 68] _ rfl fj [.slice fq ns g8] (by simp[Act.eval,Act.put]) (ev.out _ _ L en) ?_
       rintro e ia ⟨fp,g7,rfl,em,dm⟩
       have M:=dm.cell M id
       have L:=L.tt dm
       refine⟨_,rfl,?_⟩)
    | (refine jx rfl 118 [.tmp 66,.tmp 69] _ rfl mw [.pointer (some ⟨d,0,none⟩),.slice fp ns g7] (by simp[Act.eval,Act.put]) (gf.out _ _ L em) ?_
       rintro e cp ⟨cq,rfl,g5⟩
       refine⟨_,rfl,?_⟩))
   all_goals
    obtain⟨dh,am,go,bq⟩:=g5;have gn:=Y.jr (m.settled.map jo);have h6:=f0.out;have h7:=ez.out;go_wp2;go_ret;obtain⟨bo,eq⟩:=am.row br.out er;have bf:∀ i,i<w.heap.size->dh i=ρ i:=fun i hi=>(am.role i (by omega)).trans ((I i (by omega)).trans ((fun(i:Nat) (hi:i<w.heap.size)=>R.role i (by omega)) i (by omega)));have ej:ja w cp (StF ρ b mv):=ar.trans am.keeps (fun i hi t=> .inl (by rw[<-(fun(i:Nat) (hi:i<w.heap.size)=>R.role i (by omega)) i hi,<-I i (by omega)];exact t))
    have ek:cp.ownsRow B 88 3 mv s.length (jj s):=by
     have A:ja w cp (fun i=>ρ i≠ .none\/i=b):=(av.trans ai (fun i hi h=>h.imp (fun h=>by rw[<-(fun(i:Nat) (hi:i<w.heap.size)=>R.role i (by omega)) i hi];exact h) id)).trans am.keeps (fun i hi t=> .inl (by rw[<-(fun(i:Nat) (hi:i<w.heap.size)=>R.role i (by omega)) i hi,<-I i (by omega)];exact t));exact A.row S.mem (fun g hg t=>t.elim (fun t=>t (S.nm g hg).1) (S.nm g hg).2)
    have ec:m.Xm live=m.zh:=by unfold Rf.Man.Xm;rw[if_neg ah.out]
    refine⟨r,bk.out,.inr ⟨az,true,?_,.inr ⟨rfl,bq,dh,.slice none 0 0,mv,⟨ci.keep am.keeps (fun i t=>bm.yz i t),go,gn.mono (by rw[h7];omega),?_,?_,ek,⟨eq,S.nb.2⟩,fun p n c e=>(by cases e),fun g hg=>⟨by rw[bf g (S.mem.lt g hg).2];exact(S.nm g hg).1,(S.nm g hg).2⟩,?_,S.rising,S.few,?_⟩,ej,bf,fun g hg=> .inl hg,fun p n c e=>(by cases e)⟩⟩⟩
    ·unfold Qk
     rw[if_neg ah.out];exact .inr ⟨_,b0.out,.inr ⟨_,by rw[<-F.out,<-bj.out];exact ck.out,.inr ⟨_,ew.out,rfl,rfl⟩⟩⟩
    ·rw[ec]
     exact bo
    ·rw[ec]
     exact Jw.nil _
    ·rw[ec]
     exact b7
    ·rw[ec]
     exact ZM _
end Go.Proofs.YtnipbplghijdmaaGreatDoor
namespace Go.Proofs.YtnipbplghijdmaaGreatDoor
open RowKit Maps WideShapes Go.Proofs.Tryz
def uc(E:Nat->Addr)(B:Nat)(w:World)(ρ:Nat->j3)(d b:Nat)(rv mv:Value)(S:jc)(k:Nat)(m:Rf.Man)(last:Nat)(ml:List Rf.Ch)(ok:Bool)(e:Ending)(w':World):Prop :=
 e = .returned (.int .i64 (if ok=true then 0 else 1))/\y8 E B w ρ d b rv mv S k m last ml (!ok) w'
variable {E:Nat->Addr} {B:Nat} {w w':World} {ρ:Nat->j3} {d b k:Nat} {S:jc} {m:Rf.Man} {last:Nat} {ml:List Rf.Ch} {rv mv:Value}
theorem StM.mono{c:Bool}{j:Nat}(h:StM E B w ρ d b S k m last ml c rv mv)(f:k<=j):StM E B w ρ d b S j m last ml c rv mv :=
 ⟨h.env,h.xi,h.fit.mono f,h.row,h.runs,h.mem,h.nb,h.nr,h.nm,h.y7,h.rising,h.few,h.ay⟩
theorem y8.still{f:Bool}{j:Nat}(h:StM E B w ρ d b S k m last ml f rv mv)(i:ja w w' (fun _=>False))(l:k<=j):y8 E B w ρ d b rv mv S j m last ml f w' :=
 ⟨ρ,rv,mv,(h.same i).mono l,i.up,fun _ _=>rfl,fun g hg=> .inl hg,fun p n c e=> .inl ⟨n,c,e⟩⟩
theorem y8.before{u:World}{f:Bool}(l:ja w u (fun _=>False))(h:y8 E B u ρ d b rv mv S k m last ml f w'):y8 E B w ρ d b rv mv S k m last ml f w':=by
 obtain⟨v,o,q,y,x,r,s,j⟩:=h;exact⟨v,o,q,y,(l.up).tt x,fun i hi=>r i (ZH hi l.size),fun g hg=>(s g hg).imp id (fun t=>ZI l.size t),fun p n c e=>(j p n c e).imp id (fun t=>ZI l.size t)⟩
theorem y8.down{o:World}(h:y8 E B w ρ d b rv mv S k m last ml false o):∃ rv1 mv1,o.heap[b]?=some (.cells (ah d m rv1 last mv1 false) 121 (0,0))/\Xg E B o /\
 ∀ w2,w2.heap[b]?=some (.cells (ah d m rv1 last mv1 true) 121 (0,0))->ja o w2 (fun i=>i=b)->y8 E B w ρ d b rv mv S k m last ml true w2:=by
 obtain⟨F,s,v,f,q,y,A,l⟩:=h;refine⟨s,v,f.row,f.xi.z8,fun w2 hrow kk=>?_⟩;have D:Dk E B w2 F d S:=⟨f.xi.rep.keep kk (fun i e _=>by rw[e];exact f.nb.1),f.xi.z8.keep kk (fun i e=>by rw[e];exact f.nb.2),f.xi.yz,ZI f.xi.size kk.size⟩;obtain⟨C,r,u,H,J,x,z,j⟩:=f.next (kk.mono (fun i _ t=> .inr t)) (fun _ _=>rfl) D f.fit hrow;refine⟨C,r,u,H,q.trans kk (fun i _ t=> .inr (.inl t)),fun i hi=>(x i (ZH hi q.size)).trans (y i hi),fun g hg=>?_,fun p n c e=>?_⟩
 ·rcases z g hg with t|t
  ·exact A g t
  ·exact .inr (ZI q.size t)
 ·rcases j p n c e with⟨G,I,t⟩|t
  ·exact l p G I t
  ·exact .inr (ZI q.size t)
theorem sv{g:World}{v:Value}{j:Bool}(h:y8 E B w ρ d b rv mv S k m last ml false g)(n:jcj E g (.returned v) j):Calls prog 67 #[.pointer (some ⟨b,0,none⟩),v] g (uc E B w ρ d b rv mv S k m last ml j):=by
 rcases n with⟨rfl,e⟩|⟨rfl,v',e,o⟩
 ·cases e
  refine(Kd b).mono ?_;rintro e i ⟨rfl,rfl⟩;exact⟨rfl,h⟩
 ·cases e
  obtain⟨r,s,f,q,p⟩:=h.down;refine(Ke f q o (by decide)).mono ?_;rintro e i ⟨rfl,c,l⟩;exact⟨rfl,p i c l⟩
def T5(E:Nat->Addr)(B:Nat)(w:World)(ρ:Nat->j3)(d b:Nat)(rv mv:Value)(S:jc)(k:Nat)(m:Rf.Man)(last:Nat)(ml:List Rf.Ch)(e:Ending)(w':World):Prop :=
 ∃ S1 ok1,r8 m last ml S S1 ok1 /\
  ((ok1=false/\uc E B w ρ d b rv mv S1 (k+70000) m last ml false e w') \/
   (ok1=true/\uc E B w ρ d b rv mv (jc.jr [jh m.log] S1).1 (k+70000) (m.yh last) last [] (jc.jr [jh m.log] S1).2 e w'))
theorem H7{f:World}{v:Value}(h:Y4 E B w ρ d b rv mv S k m last ml (.returned v) f):Calls prog 67 #[.pointer (some ⟨b,0,none⟩),v] f (T5 E B w ρ d b rv mv S k m last ml):=by
 obtain⟨g,n,r,⟨rfl,⟨v',e,l⟩,h⟩|⟨rfl,j,h⟩⟩:=h
 ·refine(sv h (.inr ⟨rfl,v',e,l⟩)).mono ?_
  intro e i c;exact⟨g,false,r,.inl ⟨rfl,c⟩⟩
 ·refine(sv h j).mono ?_
  intro e i c;exact⟨g,true,r,.inr ⟨rfl,c⟩⟩
theorem Y4.ret{e:Ending}{c:World}(h:Y4 E B w ρ d b rv mv S k m last ml e c):∃ v,e = .returned v:=by
 obtain⟨j,g,r,⟨_,⟨v',e,i⟩,h⟩|⟨_,f,h⟩⟩:=h
 ·exact⟨v',e⟩
 ·rcases f with⟨_,e⟩|⟨_,v',e,_⟩
  ·exact⟨_,e⟩
  ·exact⟨_,e⟩
theorem Y4.before{g:World}{e:Ending}(i:ja w g (fun _=>False))(h:Y4 E B g ρ d b rv mv S k m last ml e w'):Y4 E B w ρ d b rv mv S k m last ml e w':=by
 obtain⟨j,c,r,⟨f,n,h⟩|⟨f,l,h⟩⟩:=h
 ·exact⟨j,c,r,.inl ⟨f,n,h.before i⟩⟩
 ·exact⟨j,c,r,.inr ⟨f,l,h.before i⟩⟩
theorem Pg(T:StM E B w ρ d b S k m last ml false rv mv)(g:last=m.last) :
 Calls prog 26 #[.pointer (some ⟨b,0,none⟩)] w fun e w'=>e = .returned (.int .i64 0)/\y8 E B w ρ d b rv mv S k m last ml false w':=by
 have c:=T.row;have j:=zA (o:=2) c;have i:=zA (o:=6) c;simp at j i;rw[g] at i;have f:=jb c;clear c g;go_enter func26,ntmps26;go_wp2_with fail;refine(Qb f.out).mono ?_;rintro e l ⟨rfl,rfl⟩;rw[show Xt false false=0 from rfl];go_wp2_with fail;go_quiet (fail);go_wp2;go_ret;exact⟨rfl,y8.still T (ja.drewN _ _ _) (zJ _)⟩
theorem Pf(T:StM E B w ρ d b S k m last ml false rv mv)(n:m.last<last)(i:∀ W,ja w W (fun _=>False)->Calls prog 68 #[.pointer (some ⟨b,0,none⟩)] W (Y4 E B W ρ d b rv mv S k m last ml)) :
 Calls prog 26 #[.pointer (some ⟨b,0,none⟩)] w (T5 E B w ρ d b rv mv S k m last ml):=by
 have c:=T.row;have v:=zA (o:=2) c;have u:=zA (o:=6) c;simp at v u;have j:=jb c;clear c;obtain⟨l,g⟩:∃ l,l=m.last:=⟨_,rfl⟩;obtain⟨ls,f⟩:∃ ls,ls=last:=⟨_,rfl⟩;rw[<-g] at v n;rw[<-f] at u n;have C:((ls:Int)==(l:Int))=false:=by simp;omega
 have x:¬((ls:Int)=(l:Int)):=by omega
 have s:=jb i;clear i g f n;go_enter func26,ntmps26;go_wp2_with fail;refine(Qb j.out).mono ?_;rintro e G ⟨rfl,rfl⟩;rw[show Xt false false=0 from rfl];go_wp2_with fail;go_quiet (fail);go_wp2_with fail;refine(s.out _ (ja.drewN _ _ _)).mono ?_;intro e F q;obtain⟨H,rfl⟩:=q.ret;have z:=jb (H7 (q.before (ja.drewN _ _ _)));clear q;go_wp2_with fail;refine z.out.mono ?_;intro e D p;have y:=jb p
 obtain⟨t,rfl⟩:∃ t,e = .returned t:=by
  obtain⟨I,A,r,⟨_,h⟩|⟨_,h⟩⟩:=p
  ·exact⟨_,h.1⟩
  ·exact⟨_,h.1⟩
 clear p;go_wp2;go_ret;exact y.out
def Kn(E:Nat->Addr)(B:Nat)(w:World)(ρ:Nat->j3)(d b:Nat)(rv mv:Value)(S:jc)(k:Nat)(m:Rf.Man)(last:Nat)(ml l:List Rf.Ch)(e:Ending)(w':World):Prop :=
 ∃ S0,qo S S0 /\
  ((¬qe S/\uc E B w ρ d b rv mv S0 (k+100000) m last ml false e w') \/
   ∃ S1 ok1,Qk m l S0 S1 ok1 /\
    ((ok1=false/\uc E B w ρ d b rv mv S1 (k+100000) m last ml false e w') \/
     (ok1=true/\uc E B w ρ d b rv mv (jc.jr (m.settled.map jo) S1).1 (k+100000) (m.Xm l) last ml (jc.jr (m.settled.map jo) S1).2 e w')))
theorem B9{l:List Rf.Ch}{n:World}{v:Value}(h:X1 E B w ρ d b rv mv S k m last ml l (.returned v) n):Calls prog 67 #[.pointer (some ⟨b,0,none⟩),v] n (Kn E B w ρ d b rv mv S k m last ml l):=by
 obtain⟨i,g,⟨p,⟨v',e,f⟩,h⟩|⟨o,s,r,⟨rfl,⟨v',e,f⟩,h⟩|⟨rfl,q,h⟩⟩⟩:=h
 ·refine(sv h (.inr ⟨rfl,v',e,f⟩)).mono ?_
  intro e j c;exact⟨i,g,.inl ⟨p,c⟩⟩
 ·refine(sv h (.inr ⟨rfl,v',e,f⟩)).mono ?_
  intro e j c;exact⟨i,g,.inr ⟨o,false,r,.inl ⟨rfl,c⟩⟩⟩
 ·refine(sv h q).mono ?_
  intro e j c;exact⟨i,g,.inr ⟨o,true,r,.inr ⟨rfl,c⟩⟩⟩
theorem X1.ret{l:List Rf.Ch}{e:Ending}{c:World}(h:X1 E B w ρ d b rv mv S k m last ml l e c):∃ v,e = .returned v:=by
 obtain⟨p,n,⟨j,⟨v',e,g⟩,h⟩|⟨o,i,r,⟨_,⟨v',e,g⟩,h⟩|⟨_,f,h⟩⟩⟩:=h
 ·exact⟨v',e⟩
 ·exact⟨v',e⟩
 ·rcases f with⟨_,e⟩|⟨_,v',e,_⟩
  ·exact⟨_,e⟩
  ·exact⟨_,e⟩
theorem Km(T:StM E B w ρ d b S k m last ml false rv mv)(i:m.runs=[]) :
 Calls prog 27 #[.pointer (some ⟨b,0,none⟩)] w fun e w'=>e = .returned (.int .i64 0)/\y8 E B w ρ d b rv mv S k m last ml false w':=by
 have c:=T.row;obtain⟨n,p,f,_⟩:=id T.runs;have j:=zA (o:=5) c;simp at j;have g:=jb c;clear c;rw[f,i] at j;clear i f;go_enter func27,ntmps27;go_wp2_with fail;refine(Qb g.out).mono ?_;rintro e l ⟨rfl,rfl⟩;rw[show Xt false false=0 from rfl];go_wp2;go_ret;exact⟨rfl,y8.still T (ja.refl _ _) (zJ _)⟩
theorem Kl{l:List Rf.Ch}(T:StM E B w ρ d b S k m last ml false rv mv)(v:m.runs≠[])(j:Calls prog 69 #[.pointer (some ⟨b,0,none⟩)] w (X1 E B w ρ d b rv mv S k m last ml l)) :
 Calls prog 27 #[.pointer (some ⟨b,0,none⟩)] w (Kn E B w ρ d b rv mv S k m last ml l):=by
 have c:=T.row;obtain⟨I,J,g,_⟩:=id T.runs;have s:=zA (o:=5) c;simp at s;have n:=jb c;clear c;have f:=ZX.2 v;rw[g] at s;obtain⟨ls,i⟩:∃ ls,ls=m.runs.length:=⟨_,rfl⟩;rw[<-i] at s f;have C:((ls:Int)==0)=false:=by simp;omega
 have x:¬((ls:Int)=0):=by omega
 have t:=jb j;clear i f v g j;go_enter func27,ntmps27;go_wp2_with fail;refine(Qb n.out).mono ?_;rintro e G ⟨rfl,rfl⟩;rw[show Xt false false=0 from rfl];go_wp2_with fail;refine t.out.mono ?_;intro e F q;obtain⟨H,rfl⟩:=q.ret;have z:=jb (B9 q);clear q;go_wp2_with fail;refine z.out.mono ?_;intro e D p;have y:=jb p
 obtain⟨u,rfl⟩:∃ u,e = .returned u:=by
  obtain⟨M,_,⟨_,h⟩|⟨L,A,r,⟨_,h⟩|⟨_,h⟩⟩⟩:=p
  ·exact⟨_,h.1⟩
  ·exact⟨_,h.1⟩
  ·exact⟨_,h.1⟩
 clear p;go_wp2;go_ret;exact y.out
end Go.Proofs.YtnipbplghijdmaaGreatDoor
namespace Go.Proofs.YtnipbplghijdmaaGreatDoor
open RowKit Maps WideShapes Go.Proofs.Tryz
def Rf.Man.xw(m:Rf.Man):Rf.Man:=⟨m.next+1,m.last,m.next,m.base,m.runs⟩
theorem Rf.Man.Good.xw{m:Rf.Man}(h:m.Good)(d:m.next+1<=2000000000):m.xw.Good:=by
 obtain⟨o,k,i,j⟩:=h;have f:∀ n∈m.settled,1<=n/\n<m.next:=fun n d=>i n (ZB _ d);have l:=i m.log (zY _ (zZ.2 rfl));refine⟨d,k,fun n c=>?_,?_⟩
 ·show 1<=n/\n<m.next+1
  rcases ZA.1 c with c|c
  ·have:=f n c
   omega
  ·have e:n=m.next:=zZ.1 c
   omega
 ·have g:(m.settled++[m.log]).Nodup:=j
  show(m.settled++[m.next]).Nodup;rw[List.nodup_append] at g ⊢;refine⟨g.1,by simp,fun a ha b hb=>?_⟩;have:=f a ha;have e:b=m.next:=zZ.1 hb;omega
def Bt(m:Rf.Man)(fr:List UInt8):DStep:=nj [Xp (jh m.next) fr,yt m.xw]
variable {E:Nat->Addr} {B:Nat} {w w':World} {ρ:Nat->j3} {d b k:Nat} {S:jc} {m:Rf.Man} {last:Nat} {ml:List Rf.Ch} {deg:Bool} {rv mv:Value}
theorem StM.jhs{q:Nat->j3}{S':jc}{k':Nat}{m2:Rf.Man}(h:StM E B w ρ d b S k m last ml deg rv mv)(v:m2.runs=m.runs)(f:m2.Good)(j:ja w w' (fun i=>ρ i≠ .none\/i=b))(o:∀ i,i<w.heap.size->q i=ρ i)(D:Dk E B w' q d S')(F:Fit k' S')(l:w'.heap[b]?=some (.cells (ah d m2 rv last mv deg) 121 (0,0))) :
 y8 E B w ρ d b rv mv S' k' m2 last ml deg w':=by
 have z:ja w w' (StF ρ b mv):=j.mono (fun i _ t=>t.elim .inl (fun t=> .inr (.inl t)));refine⟨q,rv,mv,⟨h.env.keep j (fun i t=>t.elim (fun t=>h.xi.yz i t) (fun t=>by rw[t];exact h.nb.2)),D,F,l,by rw[v];exact h.runs.keep j (fun _ p n c e t=>by obtain⟨u,s,y,x,r⟩:=h.nr p n c e;exact t.elim (fun t=>t u) s),j.row h.mem (fun g f t=>?_),⟨(o b h.blt).trans h.nb.1,h.nb.2⟩,fun p n c e=>?_,fun g f=>?_,f,h.rising,h.few,by rw[v];exact h.ay⟩,z,o,fun g f=> .inl f,fun p n c e=> .inl ⟨n,c,e⟩⟩
 ·exact t.elim (fun t=>t (h.nm g f).1) (fun t=>(h.nm g f).2 t)
 ·obtain⟨u,s,y,x,r⟩:=h.nr p n c e
  exact⟨(o _ r).trans u,s,y,x,ZH r j.size⟩
 ·exact⟨(o g (h.mem.lt g f).2).trans (h.nm g f).1,(h.nm g f).2⟩
def jci(E:Nat->Addr)(B:Nat)(w:World)(ρ:Nat->j3)(d b:Nat)(rv mv:Value)(S:jc)(k:Nat)(m:Rf.Man)(last:Nat)(ml:List Rf.Ch)(fr:List UInt8)(e:Ending)(w':World):Prop :=
 ∃ S' ok,Bt m fr S S' ok/\jcj E w' e ok/\y8 E B w ρ d b rv mv S' (k+70000) (if ok=true then m.xw else m) last ml false w'
theorem Up(T:StM E B w ρ d b S k m last ml false rv mv)(hk:k<530000000000)(hn:m.next+1<=2000000000)(fv:Value)(fr:List UInt8)(af:Bytes w fv fr)(Y:Off ρ fv)(aw:fr.length<=20000)(ar:m.bytes.length<=20000) :
 Calls prog 181 #[.pointer (some ⟨b,0,none⟩),fv] w (jci E B w ρ d b rv mv S k m last ml fr):=by
 obtain⟨U,X,am,bv⟩:=id T.runs;have ba:∃ n,rv = .slice U n X:=⟨_,am⟩;clear am bv;obtain⟨nr,rfl⟩:=ba;obtain⟨n1,Z⟩:∃ n1,n1=m.next+1:=⟨_,rfl⟩;have b2:=jb Z;clear Z;obtain⟨pf,cf,rfl,bc⟩:=id af;clear bc;have f:=T.row;have c1:=zA (o:=1) f;have c2:=zA (o:=2) f;have c3:=zA (o:=3) f;have c4:=zA (o:=4) f;have c5:=zA (o:=5) f;simp at c1 c2 c3 c4 c5;obtain⟨y,hy⟩:∃ y,y=w.heap.size:=⟨_,rfl⟩;obtain⟨w1,N⟩:∃ w1,w1=w.alloc (.cells #[jg m.next,jg m.last,jg m.log,jg m.base,.slice U nr X] 117):=⟨_,rfl⟩;have k1:ja w w1 (fun _=>False):=by rw[N];exact ja.alloc _ _ _
 have az:w1.heap[y]?=some (.cells #[jg m.next,jg m.last,jg m.log,jg m.base,.slice U nr X] 117 (0,0)):=by rw[N,hy];exact je _ _
 have D:=ab az (by omega);rw[<-b2.out] at D;have bd:=jb D;have HY:=jb hy;have HN:=jb hn;have HK:=jb hk;have cq:=jb f;have b5:=jb af;have a7:=jb Y;have r:=jb aw;have c7:=jb ar;obtain⟨nf,ad⟩:∃ nf,nf=fr.length:=⟨_,rfl⟩;rw[<-ad] at b5 a7 ⊢;have d9:=jb ad;clear D az hy hn hk f af Y aw ar ad;go_enter func181,ntmps181;go_wp2_with fail;rw[<-N,<-HY.out];clear N c1 c2 c3 c4 c5;refine bd.out.mono ?_;rintro e w2 ⟨rfl,O,k2⟩;have bs:ja w w2 (fun _=>False):=k1.trans k2 (fun i hi e=>by have:=HY.out;omega);have z2:=zA (o:=2) O;have q2:=zB (o:=2) O;simp at z2;obtain⟨A,M⟩:∃ A,A=w2.setCell ⟨y,2,none⟩ (jg m.next):=⟨_,rfl⟩;have bu:w.heap.size<=y:=by rw[HY.out];exact zJ _
 have l:ja w A (fun _=>False):=by rw[M];exact bs.Xd bu _
 have ag:A.heap[y]?=some (.cells #[jg n1,jg m.last,jg m.next,jg m.base,.slice U nr X] 117 (0,0)):=by rw[M];exact(jd O _).trans rfl
 have u:=T.same l;have d0:=zA (o:=0) u.row;have x:=zA (o:=2) ag;simp at d0 x;have d0:A.drew.cell? ⟨b,0,none⟩=some (.pointer (some ⟨d,0,none⟩)):=d0;have x:A.drew.cell? ⟨y,2,none⟩=some (jg m.next):=x;have ae:m.next<=9223372036854775807:=by have:=HN.out;omega
 have av:∀ W,ja A W (fun _=>False)->Calls prog 63 #[j6 m.next] W fun e w'=>e = .returned (jf (jh m.next))/\ja W w' (fun _=>False):=fun W V=>Qs m.next ae (u.env.same V);have ao:(jh m.next).length<100:=by have:=yj ae;unfold jh;simp only[zW,zH,zX];omega
 have au:∀ W,ja A W (fun _=>False)->Calls prog 114 #[.pointer (some ⟨d,0,none⟩),jf (jh m.next),.slice pf nf cf] W fun e w'=>∃ aa,e = .returned aa/\cd E B A ρ d S (Xp (jh m.next) fr) (.returned aa) w':=fun W V=>by
  refine(tr (u.xi.same V) u.fit (jh m.next) (Jt _) _ fr ((b5.out.same l).same V) a7.out (by have:=HK.out;have:=r.out;omega)).mono ?_;intro e w' h;exact(h.before (x7.of V (fun _ _ h=>h.elim))).ret
 have b4:=jb av;have b3:=jb au;have c0:=jb ag;have R:=jb ao;have kd:ja A A.drew (fun _=>False):=ja.drew _ _;clear av au O ag ao ae;obtain⟨ln,F⟩:∃ ln,ln=jh m.next:=⟨_,rfl⟩;rw[<-F] at b4 b3 R;have q:=jb F;clear F;go_wp2_with fail;rw[<-M];clear M z2 q2
 go_cut [8] from 9 (fun s8 wd=>cd E B A ρ d S (Xp ln fr) (.returned s8) wd)
 case first =>
  go_region_law (first
   | (refine jx rfl 63 [.tmp 28] _ rfl Jv [j6 m.next] (by simp[Act.eval,Act.put]) (b4.out _ kd) ?_
      rintro e d7 ⟨rfl,ac⟩
      have d0:=ac.cell d0 id
      have x:=ac.cell x id
      have kd:=kd.tt ac
      refine⟨_,rfl,?_⟩)
   | (refine jx rfl 114 [.tmp 26,.tmp 29,.tmp 30] _ rfl dr [.pointer (some ⟨d,0,none⟩),jf ln,.slice pf nf cf] (by simp[Act.eval,Act.put]) (b3.out _ kd) ?_
      rintro e d6 ⟨aa,rfl,bx⟩
      refine⟨_,rfl,?_⟩))
  all_goals
   go_wp2;go_meet
  all_goals exact bx
 case rest =>
  have a0:ln≠[]:=by rw[q.out];exact Jt _
  obtain⟨S4,d8,R4,ρ4,L,D4,⟨j,e4⟩|⟨j,v4,e4,ax⟩⟩:=hcut
  rotate_left
  ·simp only at j
   subst j;cases e4;have F4:=u.fit.Du a0 R4;obtain⟨t4,a4,rfl⟩:=ax.shape;have h1:=R.out;have h2:=r.out;go_wp2;go_ret;exact⟨S4,false,.inl ⟨by rw[<-q.out];exact R4,rfl⟩,.inr ⟨rfl,_,rfl,ax⟩,T.gone l L D4 (F4.mono (by omega))⟩
  simp only at j;subst j;cases e4;have F4:=u.fit.Du a0 R4;have b1:=jb R4;clear R4;have bb:ρ y = .none:=yE (fun hn=>by have:=T.xi.rep.lt y hn;have:=HY.out;omega);obtain⟨H,bw⟩:=L.row u.row u.nb.1;obtain⟨z,_⟩:=L.row c0.out bb;have t0:=zA (o:=0) z;have t1:=zA (o:=1) z;have t2:=zA (o:=2) z;have t3:=zA (o:=3) z;have t4:=zA (o:=4) z;simp at t0 t1 t2 t3 t4;have b0:=u.env.keep L.keeps (fun i t=>u.xi.yz i t);have J:=T.y7.xw HN.out;have I:Jw wc (.slice U nr X) m.runs:=u.runs.keep L.keeps (fun _ p n c e t=>t (u.nr p n c e).1)
  have ap:iu m.xw (.slice U nr X) = .agg #[jg n1,jg m.last,jg m.next,jg m.base,.slice U nr X]:=by
   rw[b2.out];rfl
  have G:=lg D4 F4 b0 m.xw J (by show m.runs.length<65536;have:=T.ay;omega) (.slice U nr X) I (fun p n c e=>by
   obtain⟨a1,a2,a3,a4,a5⟩:=u.nr p n c e
   exact⟨(L.role _ a5).trans a1,a2⟩) H bw T.nb.2 (by have:=HK.out;have:=R.out;have:=r.out;omega)
  rw[ap] at G;have bf:=jb G;clear G I ap b0 H z d0 x
  have aq:m.xw.bytes.length<=20000:=by
   have h1:=ql m;have h2:=ql m.xw;have h3:m.xw.runs.length=m.runs.length:=rfl;have:=c7.out;omega
  have c6:=jb aq;clear aq;go_wp2_with fail;refine bf.out.mono ?_;rintro e br ⟨bz,C,bq,ah,bt,b8,b7,g,s⟩;have b6:=F4.yt ah
  obtain⟨al,b9⟩:∃ al,e = .returned al:=by
   rcases g with⟨_,e⟩|⟨_,v,e,_⟩
   ·exact⟨_,e⟩
   ·exact⟨_,e⟩
  subst b9;have V:ja w br (fun i=>ρ i≠ .none\/i=b):=(((l.up).trans L.keeps (fun i _ h=> .inl h)).trans bt (fun i hi h=>h.imp (fun h=>by rw[<-L.role i (ZH hi l.size)];exact h) id));have an:∀ i,i<w.heap.size->bq i=ρ i:=fun i hi=>(b8 i (ZH hi (ZI l.size L.keeps.size))).trans (L.role i (ZH hi l.size));have a6:=jb ah;have be:=jb g;clear ah g;go_wp2;go_ret;have h1:=R.out;have h2:=r.out;have h3:=c6.out;refine⟨bz,C,?_,be.out,?_⟩
  ·cases C with
   | true=>exact .inr ⟨_,by rw[<-q.out];exact b1.out,.inr ⟨_,a6.out,rfl,rfl⟩⟩
   | false=>exact .inr ⟨_,by rw[<-q.out];exact b1.out,.inl ⟨a6.out,rfl⟩⟩
  ·cases C with
   | true=>exact T.jhs rfl J V an b7 (b6.mono (by omega)) s
   | false=>exact T.next V an b7 (b6.mono (by omega)) s
end Go.Proofs.YtnipbplghijdmaaGreatDoor

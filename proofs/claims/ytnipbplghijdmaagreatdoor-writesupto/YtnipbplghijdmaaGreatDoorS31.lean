/-
  S: CompactA CompactB SettleW BeginW LoadW.
-/
import Derived.Test.YtnipbplghijdmaaGreatDoorS30
set_option maxRecDepth 100000
set_option maxHeartbeats 8000000
set_option linter.unusedVariables false
set_option linter.unusedSimpArgs false
namespace Go.Proofs.YtnipbplghijdmaaGreatDoor
open RowKit Maps WideShapes Go.Proofs.Tryz
variable {E:Nat->Addr} {B b d k m:Nat} {w:World} {s:Rf.St} {mv rv:Value} {V:List (Str×List UInt8)}
theorem Gu{ρ:Nat->jz}(S:qz E B w ρ d b s k rv mv)(hk:k<530000000000)(b0:s.m.runs≠[])(l:s.m.next+1<=2000000000)(hl:(Rf.merged s.bls).length<60000)(ag:s.live=[])(hs:42+(Rf.jn s.live).length+j3 s.files<=20000) :
 Calls prog 69 #[.pointer (some ⟨b,0,none⟩)] w fun e w'=>e = .returned .nilIface/\Qo E B w ρ d b rv mv s.qd (k+100000) w':=by
 obtain⟨C,D,az,cp⟩:=id S.runs;have bi:∃ n,rv = .slice C n D:=⟨_,az⟩;clear az cp;obtain⟨F,rfl⟩:=bi;obtain⟨n1,Z⟩:∃ n1,n1=s.m.next+1:=⟨_,rfl⟩;have ei:=jb Z;clear Z;have j:=S.row;have c1:=zA (o:=1) j;have c2:=zA (o:=2) j;have c3:=zA (o:=3) j;have c4:=zA (o:=4) j;have c5:=zA (o:=5) j;simp at c1 c2 c3 c4 c5;have a1:∀ o1,(w.alloc o1).cell? ⟨b,1,none⟩=some (jf s.m.next):=fun o1=>(ja.alloc w o1 (fun _=>False)).cell c1 id;have b1:∀ o1 o2,((w.alloc o1).alloc o2).cell? ⟨b,1,none⟩=some (jf s.m.next):=fun o1 o2=>((ja.alloc w o1 (fun _=>False)).more o2).cell c1 id;have a2:∀ o1,(w.alloc o1).cell? ⟨b,2,none⟩=some (jf s.m.last):=fun o1=>(ja.alloc w o1 (fun _=>False)).cell c2 id;have b2:∀ o1 o2,((w.alloc o1).alloc o2).cell? ⟨b,2,none⟩=some (jf s.m.last):=fun o1 o2=>((ja.alloc w o1 (fun _=>False)).more o2).cell c2 id;have a3:∀ o1,(w.alloc o1).cell? ⟨b,3,none⟩=some (jf s.m.log):=fun o1=>(ja.alloc w o1 (fun _=>False)).cell c3 id;have b3:∀ o1 o2,((w.alloc o1).alloc o2).cell? ⟨b,3,none⟩=some (jf s.m.log):=fun o1 o2=>((ja.alloc w o1 (fun _=>False)).more o2).cell c3 id;have a4:∀ o1,(w.alloc o1).cell? ⟨b,4,none⟩=some (jf s.m.base):=fun o1=>(ja.alloc w o1 (fun _=>False)).cell c4 id;have b4:∀ o1 o2,((w.alloc o1).alloc o2).cell? ⟨b,4,none⟩=some (jf s.m.base):=fun o1 o2=>((ja.alloc w o1 (fun _=>False)).more o2).cell c4 id;have a5:∀ o1,(w.alloc o1).cell? ⟨b,5,none⟩=some (.slice C F D):=fun o1=>(ja.alloc w o1 (fun _=>False)).cell c5 id;have b5:∀ o1 o2,((w.alloc o1).alloc o2).cell? ⟨b,5,none⟩=some (.slice C F D):=fun o1 o2=>((ja.alloc w o1 (fun _=>False)).more o2).cell c5 id
 have d6:Hid (s.live.length<60000):=by
  have h1:=XF (fun c:Rf.Ch=>!c.gone) (Rf.merged s.bls);show(Rf.there (Rf.merged s.bls)).length<60000;unfold Rf.there;omega
 have HN:=jb l;have HL:=jb hl;have HS:=jb hs;have HK:=jb hk;have bd:=jb b0;have dt:=jb j;have h0:s.live.length=0:=by rw[ag];rfl
 have be:=jb ag;have H0:=jb h0;clear j l hl hs hk b0 ag h0;go_enter func69,ntmps69;go_wp2_with fail
 go_cut [3,4] from 10 (fun s3 s4 wc=>∃(x y:Nat),s3 = .pointer (some ⟨x,0,none⟩)/\s4 = .pointer (some ⟨y,0,none⟩)/\x≠y/\w.heap.size<=x/\w.heap.size<=y/\wc.heap[x]?=some (.cells #[jf s.m.next,jf s.m.last,jf s.m.log,jf s.m.base,.slice C F D] 117 (0,0)) /\
  wc.heap[y]?=some (.cells #[jf s.m.next,jf s.m.last,jf s.m.log,jf s.m.base,.slice C F D] 117 (0,0))/\ja w wc (fun _=>False))
 case first =>
  go_region
  all_goals
   go_wp2;go_meet
  case rel =>
   obtain⟨h1,h2,h3⟩:=ao w (.cells #[jf s.m.next,jf s.m.last,jf s.m.log,jf s.m.base,.slice C F D] 117)
   first
    | exact⟨_,_,rfl,rfl,by omega,by omega,by omega,h1,h2,h3⟩
    | exact⟨_,_,rfl,rfl,by omega,by omega,by omega,h2,h1,h3⟩
  case rel =>
   obtain⟨h1,h2,h3⟩:=ao w (.cells #[jf s.m.next,jf s.m.last,jf s.m.log,jf s.m.base,.slice C F D] 117)
   first
    | exact⟨_,_,rfl,rfl,by omega,by omega,by omega,h1,h2,h3⟩
    | exact⟨_,_,rfl,rfl,by omega,by omega,by omega,h2,h1,h3⟩
 case rest =>
  obtain⟨x,y,rfl,rfl,cn,hx,hy,hX,hY,kc⟩:=hcut;clear a1 a2 a3 a4 a5 b1 b2 b3 b4 b5 c1 c2 c3 c4 c5;have S1:=S.same kc;have b9:=jb5 S1 (by have:=HK.out;omega) HL.out;have d5:=jb b9;have HX:=jb hX;have HY:=jb hY;have ar:ρ x = .none:=yG (fun l=>by have:=(S.zw.ya x l).2;omega);have ck:ρ y = .none:=yG (fun l=>by have:=(S.zw.ya y l).2;omega);clear b9 hX hY;go_wp2_with fail;refine d5.out.mono ?_;rintro e w2 ⟨v2,rfl,R,g2,D2⟩;obtain⟨J,_⟩:=g2.row S1.row S1.nb.1;obtain⟨S2,_⟩:=S1.read (g2.keeps.mono (fun i _ h=> .inl h)) D2 J;have u:=(g2.row HY.out ck).1;have bc:=(g2.row HX.out ar).1;have y0:=zA (o:=0) u;have y1:=zA (o:=1) u;have y2:=zA (o:=2) u;have y3:=zA (o:=3) u;have y4:=zA (o:=4) u;have q3:=zB (o:=3) u;have q4:=zB (o:=4) u;simp at y0 y1 y2 y3 y4;obtain⟨M,O⟩:∃ M,M=(w2.setCell ⟨y,3,none⟩ (.int .i64 0)).setCell ⟨y,4,none⟩ (.slice none 0 0):=⟨_,rfl⟩;have k3:ja w2 M (fun i=>i=y):=by rw[O];exact(ja.setCell w2 ⟨y,3,none⟩ _).set (p:=⟨y,4,none⟩) rfl _
  have cy:B<=y:=ZF S.zw.size hy;have cm:¬StF ρ b mv y:=fun h=>by have:=(StF.old S h).2;omega
  have cl:∀ p n c,(Value.slice C F D) = .slice (some p) n c->y≠p.block:=fun p n c e h=>by
   have:=(S.nr p n c e).2.2.2.2;omega
  have S3:qz E B M ρ d b s k (.slice C F D) mv:=S2.keep k3 (fun i hi e=>by rw[e];exact⟨cy,cm,cl⟩);have ba:M.heap[y]?=some (.cells #[jf s.m.next,jf s.m.last,jf s.m.log,.int .i64 0,.slice none 0 0] 117 (0,0)):=by rw[O];exact(jc (jc u _) _).trans rfl
  have bb:=k3.same bc cn;have ad:ja w M (StF ρ b mv):=((kc.up).trans g2.keeps (fun i _ h=> .inl h)).trans k3 (fun i hi e=>by omega);have ay:v2.ownBlock≠some y:=fun e=>by have:=(R.lt y e).1;have:=zC HY.out;omega
  have ae:=k3.row R (fun g hg e=>ay (by rw[<-(show g=y from e)];exact hg))
  have ds:∀ g,v2.ownBlock=some g->ρ g = .none/\w.heap.size<=g:=fun g hg=>by
   have h1:=(R.lt g hg).1;have h2:=kc.size;exact⟨yG (fun l=>by have:=(S.zw.ya g l).2;omega),by omega⟩
  have bp:Hid (ja w M (fun i=>ρ i≠ .none\/i=b)):=(show ja w M _ from((kc.up).trans g2.keeps (fun i _ h=> .inl h)).trans k3 (fun i hi e=>by omega));have ee:=ad.size;have d2:=jb bb;have eg:=jb ba;have eh:=jb ae;obtain⟨pv,cv,rfl⟩:=jj ae;have cw:=S.ok.Je.log;have ct:=S.ok.Je.1;have du:Hid (s.m.log<=9223372036854775807):=jb (by omega);clear bc u bb ba R ae J cw ct D2 g2 S2 ay;rw[H0.out];have bl:ja w M (fun i=>ρ i≠ .none\/i=b):=bp.out;go_wp2_with fail;rw[<-O];clear O y0 y1 y2 y3 y4 q3 q4;have b8:gv s.m.bare (.slice none 0 0) = .agg #[jf s.m.next,jf s.m.last,jf s.m.log,.int .i64 0,.slice none 0 0]:=rfl;have aj:Rf.Man.Good s.m.bare:=S.ok.Je.bare;have ef:Rf.Man.bytes s.m.bare=Rf.Man.bytes s.m.bare:=rfl;have a0:(Rf.Man.bytes s.m.bare).length=42:=by rw[yg];rfl
  have I:=rk S3.zw S3.env s.m.bare aj (by show([]:List Nat).length<65536;decide) (.slice none 0 0) (zl.nil _) (fun p n c e=>by cases e) S3.row S3.nb.1 S.nb.2 (fun n l=>by
   unfold j8 at l
   rw[Rf.Man.Ai] at l
   have e:n=jx s.m.bare.log:=by simpa using l
   rw[e]
   exact⟨_,xi.2 (.inr (.inl rfl))⟩) (by rw[a0];have:=HS.out;have:=yh s.files xx;omega) (by have:=HK.out;omega)
  rw[b8] at I;have bq:=jb I;clear I b8;refine bq.out.mono ?_;rintro e f ⟨rfl,aq,N,A,ah,z⟩;have co:x≠b:=fun e=>by have:=S.blt;omega
  have r:=N.same d2.out (fun t=>t.elim (fun t=>t ar) co);have ed:=ad.size;have dr:=N.size;have bn:aq b = .none:=(A b (by have:=S.blt;omega)).trans S3.nb.1;have H:ja w f (StF ρ b mv):=ad.trans N (fun i hi h=>h.elim (fun h=> .inl (by rw[<-(fun(i:Nat) (hi:i<w.heap.size)=>(rfl:ρ i=ρ i)) i hi];exact h)) (fun h=> .inr (.inl h)));have a7:Env E B f:=S.env.keep (H.mono (fun i hi h=>(show B<=i from(StF.old S h).1))) (fun i h=>h)
  have a6:zl f (.slice C F D) s.m.runs:=S.runs.keep H (fun _ p n c e t=>by
   obtain⟨a1,a2,a3,a4,a5⟩:=S.nr p n c e
   rcases t with t|t|t
   ·exact t a1
   ·exact a2 t
   ·exact a4 t)
  have d0:=zA (o:=0) z;have x0:=zA (o:=0) r;have x1:=zA (o:=1) r;have x2:=zA (o:=2) r;have x3:=zA (o:=3) r;have x4:=zA (o:=4) r;simp at d0 x0 x1 x2 x3 x4;have d0:f.drew.cell? ⟨b,0,none⟩=some (.pointer (some ⟨d,0,none⟩)):=d0;have x0:f.drew.cell? ⟨x,0,none⟩=some (jf s.m.next):=x0;have x1:f.drew.cell? ⟨x,1,none⟩=some (jf s.m.last):=x1;have x2:f.drew.cell? ⟨x,2,none⟩=some (jf s.m.log):=x2;have x3:f.drew.cell? ⟨x,3,none⟩=some (jf s.m.base):=x3;have x4:f.drew.cell? ⟨x,4,none⟩=some (.slice C F D):=x4;obtain⟨ns,T⟩:∃ ns,ns=s.m.settled.length:=⟨_,rfl⟩;have cq:=x8 s.m;have cs:=S.ok.runs
  have ax:∀ W,ja f W (fun _=>False)->Calls prog 121 #[gv s.m (.slice C F D)] W fun e w'=>∃ p c,e = .returned (.slice p ns c)/\w'.ownsRow f.heap.size 3 1 (.slice p ns c) ns (s.m.settled.map jf)/\ja W w' (fun _=>False):=fun W L=>by
   rw[T];refine(Zc W s.m _ (a6.same L) (by omega)).mono ?_;rintro e w' ⟨p,c,rfl,h,k'⟩;exact⟨p,c,rfl,qg h L.size,k'⟩
  have X:∀(W:World) (v:Value),ja f W (fun _=>False)->W.ownsRow f.heap.size 3 1 v ns (s.m.settled.map jf)->Calls prog 120 #[v] W fun e w'=>∃ p c,e = .returned (.slice p ns c)/\w'.ownsRow f.heap.size 9 1 (.slice p ns c) ns ((s.m.settled.map jq).map jd)/\ja W w' (fun _=>False):=fun W v L hr=>by
   rw[T] at hr ⊢;refine(iy v s.m.settled (a7.same L) (ze hr rfl) (by omega) (fun n l=>by have:=S.ok.au l;have:=S.ok.Je.1;omega)).mono ?_;rintro e w' ⟨p,c,rfl,h,k'⟩;exact⟨p,c,rfl,qg h L.size,k'⟩
  have b7:∀(W:World) (v:Value),ja f W (fun _=>False)->W.ownsRow f.heap.size 9 1 v ns ((s.m.settled.map jq).map jd)->Calls prog 118 #[.pointer (some ⟨d,0,none⟩),v] W fun e w'=>e = .returned .nilIface/\∃ ρ',xo f aq w' ρ'/\DW E B w' ρ' d (Zo s) (k+100000):=fun W v L hr=>by
   have af:(s.m.settled.map jq).length=ns:=by rw[ZM,T]
   have cu:(s.m.settled.map jq).Nodup:=by
    refine XW.2 (List.Pairwise.imp ?_ S.ok.iw);intro a b cx e;exact cx (Ze e)
   refine(Ff (ah.same L) (by have:=HK.out;omega) v (s.m.settled.map jq) f.heap.size (by rw[af];exact hr) (fun g hg=>yG (fun l=>by have:=(hr.lt g hg).1;have:=(ah.ya g l).2;omega)) (fun n l=>Yg S.ok.Je n (ZD.2 (.inl l))) (by rw[af];omega) cu (fun n l=>?_)).mono ?_
   ·obtain⟨q,hq,rfl⟩:=ZN.1 l
    obtain⟨c,hc⟩:=S.ok.there (jq q) (ZD.2 (.inl l));exact⟨c,yl.2 (.inr ⟨xf.2 ⟨hc,fun e=>pw _ e.symm⟩,fun e=>ai _ e.symm⟩)⟩
   ·rintro e w' ⟨rfl,ρ',g,D'⟩
    refine⟨rfl,ρ',(xo.of L (fun _ _ h=>h.elim)).trans g,?_⟩;have bf:=D'.mono (m:=k+100000) (by rw[af,a0];omega)
    have ev:(yc (jo s.files xx) jw (Rf.Man.bytes s.m.bare)).filter (fun p=>decide (p.1∉s.m.settled.map jq))=Zo s:=by
     unfold Zo;rw[if_pos be.out]
    rw[ev] at bf;exact bf
  have d3:=jb ax;have bo:=jb X;have d4:=jb b7;have V:=jb z;have kd:ja f f.drew (fun _=>False):=ja.drew _ _;clear ax X b7 T cq cs z r a6;go_wp2_with fail
  go_region_law (first
   | (refine jr rfl 121 [.tmp 67] _ rfl Xk [gv s.m (.slice C F D)] (by simp[Act.eval,Act.put]) (d3.out _ kd) ?_
      rintro e eb ⟨cj,d1,rfl,bk,aw⟩
      have d0:=aw.cell d0 id
      have kd:=kd.tt aw
      refine⟨_,rfl,?_⟩)
   | (refine jr rfl 120 [.tmp 68] _ rfl bw [.slice cj ns d1] (by simp[Act.eval,Act.put]) (bo.out _ _ kd bk) ?_
      rintro e ea ⟨ci,cz,rfl,bj,av⟩
      have d0:=av.cell d0 id
      have kd:=kd.tt av
      refine⟨_,rfl,?_⟩)
   | (refine jr rfl 118 [.tmp 66,.tmp 69] _ rfl lh [.pointer (some ⟨d,0,none⟩),.slice ci ns cz] (by simp[Act.eval,Act.put]) (d4.out _ _ kd bj) ?_
      rintro e ac ⟨rfl,ap,G,d8⟩
      refine⟨_,rfl,?_⟩))
  all_goals
   go_wp2;go_ret;have Y:=S.ok.qd (by have:=d6.out;omega) HN.out;have d7:=d8.perm (tj S.ok bd.out Y);have ec:s.qd=⟨s.m.bare,s.bs,[]⟩:=by unfold Rf.St.qd;rw[if_neg bd.out,if_pos be.out]
   obtain⟨U,bm⟩:=G.row V.out bn;have b6:∀ i,i<w.heap.size->ap i=ρ i:=fun i hi=>(G.role i (by omega)).trans ((A i (by omega)).trans ((fun(i:Nat) (hi:i<w.heap.size)=>(rfl:ρ i=ρ i)) i (by omega)));have bg:ja w ac (StF ρ b mv):=H.trans G.keeps (fun i hi t=> .inl (by rw[<-(fun(i:Nat) (hi:i<w.heap.size)=>(rfl:ρ i=ρ i)) i hi,<-A i (by omega)];exact t))
   have bh:ac.ownsRow B 88 3 mv s.mem.length (jg s.mem):=by
    have L:ja w ac (fun i=>ρ i≠ .none\/i=b):=(bl.trans N (fun i hi h=>h.imp (fun h=>by rw[<-(fun(i:Nat) (hi:i<w.heap.size)=>(rfl:ρ i=ρ i)) i hi];exact h) id)).trans G.keeps (fun i hi t=> .inl (by rw[<-(fun(i:Nat) (hi:i<w.heap.size)=>(rfl:ρ i=ρ i)) i hi,<-A i (by omega)];exact t));exact L.row S.mem (fun g hg t=>t.elim (fun t=>t (S.nm g hg).1) (S.nm g hg).2)
   refine⟨rfl,ap,.slice none 0 0,mv,⟨a7.keep G.keeps (fun i t=>(ah.ya i t).1),d7,?_,?_,?_,⟨bm,S.nb.2⟩,fun p n c e=>(by cases e),fun g hg=>⟨by rw[b6 g (S.mem.lt g hg).2];exact(S.nm g hg).1,(S.nm g hg).2⟩,Y,?_⟩,bg,b6,fun g hg=> .inl hg,fun p n c e=>(by cases e)⟩
   ·rw[ec]
    exact U
   ·rw[ec]
    exact zl.nil _
   ·rw[ec]
    exact bh
   ·rw[ec]
    exact S.few
theorem Gt{ρ:Nat->jz}(S:qz E B w ρ d b s k rv mv)(hk:k<530000000000)(cn:s.m.runs≠[])(r:s.m.next+1<=2000000000)(hl:(Rf.merged s.bls).length<60000)(X:s.live≠[])(hs:42+(Rf.jn s.live).length+j3 s.files<=20000) :
 Calls prog 69 #[.pointer (some ⟨b,0,none⟩)] w fun e w'=>e = .returned .nilIface/\Qo E B w ρ d b rv mv s.qd (k+100000) w':=by
 obtain⟨L,M,cm,es⟩:=id S.runs;have di:∃ n,rv = .slice L n M:=⟨_,cm⟩;clear cm es;obtain⟨U,rfl⟩:=di;obtain⟨n1,b8⟩:∃ n1,n1=s.m.next+1:=⟨_,rfl⟩;have d9:=jb b8;clear b8;have l:=S.row;have c1:=zA (o:=1) l;have c2:=zA (o:=2) l;have c3:=zA (o:=3) l;have c4:=zA (o:=4) l;have c5:=zA (o:=5) l;simp at c1 c2 c3 c4 c5;have a1:∀ o1,(w.alloc o1).cell? ⟨b,1,none⟩=some (jf s.m.next):=fun o1=>(ja.alloc w o1 (fun _=>False)).cell c1 id;have b1:∀ o1 o2,((w.alloc o1).alloc o2).cell? ⟨b,1,none⟩=some (jf s.m.next):=fun o1 o2=>((ja.alloc w o1 (fun _=>False)).more o2).cell c1 id;have a2:∀ o1,(w.alloc o1).cell? ⟨b,2,none⟩=some (jf s.m.last):=fun o1=>(ja.alloc w o1 (fun _=>False)).cell c2 id;have b2:∀ o1 o2,((w.alloc o1).alloc o2).cell? ⟨b,2,none⟩=some (jf s.m.last):=fun o1 o2=>((ja.alloc w o1 (fun _=>False)).more o2).cell c2 id;have a3:∀ o1,(w.alloc o1).cell? ⟨b,3,none⟩=some (jf s.m.log):=fun o1=>(ja.alloc w o1 (fun _=>False)).cell c3 id;have b3:∀ o1 o2,((w.alloc o1).alloc o2).cell? ⟨b,3,none⟩=some (jf s.m.log):=fun o1 o2=>((ja.alloc w o1 (fun _=>False)).more o2).cell c3 id;have a4:∀ o1,(w.alloc o1).cell? ⟨b,4,none⟩=some (jf s.m.base):=fun o1=>(ja.alloc w o1 (fun _=>False)).cell c4 id;have b4:∀ o1 o2,((w.alloc o1).alloc o2).cell? ⟨b,4,none⟩=some (jf s.m.base):=fun o1 o2=>((ja.alloc w o1 (fun _=>False)).more o2).cell c4 id;have a5:∀ o1,(w.alloc o1).cell? ⟨b,5,none⟩=some (.slice L U M):=fun o1=>(ja.alloc w o1 (fun _=>False)).cell c5 id;have b5:∀ o1 o2,((w.alloc o1).alloc o2).cell? ⟨b,5,none⟩=some (.slice L U M):=fun o1 o2=>((ja.alloc w o1 (fun _=>False)).more o2).cell c5 id
 have db:Hid (s.live.length<60000):=by
  have h1:=XF (fun c:Rf.Ch=>!c.gone) (Rf.merged s.bls);show(Rf.there (Rf.merged s.bls)).length<60000;unfold Rf.there;omega
 have HN:=jb r;have HL:=jb hl;have HS:=jb hs;have HK:=jb hk;have d7:=jb cn;have fy:=jb l;have O:0<s.live.length:=XY.2 X;have ar:=jb X;have dv:=jb O;clear l r hl hs hk cn X O;go_enter func69,ntmps69;go_wp2_with fail
 go_cut [3,4] from 10 (fun s3 s4 wc=>∃(x y:Nat),s3 = .pointer (some ⟨x,0,none⟩)/\s4 = .pointer (some ⟨y,0,none⟩)/\x≠y/\w.heap.size<=x/\w.heap.size<=y/\wc.heap[x]?=some (.cells #[jf s.m.next,jf s.m.last,jf s.m.log,jf s.m.base,.slice L U M] 117 (0,0)) /\
  wc.heap[y]?=some (.cells #[jf s.m.next,jf s.m.last,jf s.m.log,jf s.m.base,.slice L U M] 117 (0,0))/\ja w wc (fun _=>False))
 case first =>
  go_region
  all_goals
   go_wp2;go_meet
  case rel =>
   obtain⟨h1,h2,h3⟩:=ao w (.cells #[jf s.m.next,jf s.m.last,jf s.m.log,jf s.m.base,.slice L U M] 117)
   first
    | exact⟨_,_,rfl,rfl,by omega,by omega,by omega,h1,h2,h3⟩
    | exact⟨_,_,rfl,rfl,by omega,by omega,by omega,h2,h1,h3⟩
  case rel =>
   obtain⟨h1,h2,h3⟩:=ao w (.cells #[jf s.m.next,jf s.m.last,jf s.m.log,jf s.m.base,.slice L U M] 117)
   first
    | exact⟨_,_,rfl,rfl,by omega,by omega,by omega,h1,h2,h3⟩
    | exact⟨_,_,rfl,rfl,by omega,by omega,by omega,h2,h1,h3⟩
 case rest =>
  obtain⟨x,y,rfl,rfl,cj,hx,hy,hX,hY,kc⟩:=hcut;clear a1 a2 a3 a4 a5 b1 b2 b3 b4 b5 c1 c2 c3 c4 c5;have S1:=S.same kc;have cy:=jb5 S1 (by have:=HK.out;omega) HL.out;have ff:=jb cy;have HX:=jb hX;have HY:=jb hY;have cc:ρ x = .none:=yG (fun r=>by have:=(S.zw.ya x r).2;omega);have bj:ρ y = .none:=yG (fun r=>by have:=(S.zw.ya y r).2;omega);clear cy hX hY;go_wp2_with fail;refine ff.out.mono ?_;rintro e w2 ⟨v2,rfl,am,g2,D2⟩;obtain⟨ad,_⟩:=g2.row S1.row S1.nb.1;obtain⟨S2,_⟩:=S1.read (g2.keeps.mono (fun i _ h=> .inl h)) D2 ad;have A:=(g2.row HY.out bj).1;have d4:=(g2.row HX.out cc).1;have y0:=zA (o:=0) A;have y1:=zA (o:=1) A;have y2:=zA (o:=2) A;have y3:=zA (o:=3) A;have y4:=zA (o:=4) A;have q3:=zB (o:=3) A;have q4:=zB (o:=4) A;simp at y0 y1 y2 y3 y4;obtain⟨w3,ak⟩:∃ w3,w3=(w2.setCell ⟨y,3,none⟩ (.int .i64 0)).setCell ⟨y,4,none⟩ (.slice none 0 0):=⟨_,rfl⟩;have k3:ja w2 w3 (fun i=>i=y):=by rw[ak];exact(ja.setCell w2 ⟨y,3,none⟩ _).set (p:=⟨y,4,none⟩) rfl _
  have d5:B<=y:=ZF S.zw.size hy;have ci:¬StF ρ b mv y:=fun h=>by have:=(StF.old S h).2;omega
  have ch:∀ p n c,(Value.slice L U M) = .slice (some p) n c->y≠p.block:=fun p n c e h=>by
   have:=(S.nr p n c e).2.2.2.2;omega
  have S3:qz E B w3 ρ d b s k (.slice L U M) mv:=S2.keep k3 (fun i hi e=>by rw[e];exact⟨d5,ci,ch⟩);have d1:w3.heap[y]?=some (.cells #[jf s.m.next,jf s.m.last,jf s.m.log,.int .i64 0,.slice none 0 0] 117 (0,0)):=by rw[ak];exact(jc (jc A _) _).trans rfl
  have d3:=k3.same d4 cj;have ce:ja w w3 (StF ρ b mv):=((kc.up).trans g2.keeps (fun i _ h=> .inl h)).trans k3 (fun i hi e=>by omega);have cl:v2.ownBlock≠some y:=fun e=>by have:=(am.lt y e).1;have:=zC HY.out;omega
  have bm:=k3.row am (fun g hg e=>cl (by rw[<-(show g=y from e)];exact hg))
  have dl:∀ g,v2.ownBlock=some g->ρ g = .none/\w.heap.size<=g:=fun g hg=>by
   have h1:=(am.lt g hg).1;have h2:=kc.size;exact⟨yG (fun r=>by have:=(S.zw.ya g r).2;omega),by omega⟩
  have dx:Hid (ja w w3 (fun i=>ρ i≠ .none\/i=b)):=(show ja w w3 _ from((kc.up).trans g2.keeps (fun i _ h=> .inl h)).trans k3 (fun i hi e=>by omega));have gu:=ce.size;have f7:=jb d3;have f5:=jb d1;have bq:=jb bm;obtain⟨pv,cv,rfl⟩:=jj bm;have ez:=S.ok.Je.log;have ew:=S.ok.Je.1;have dw:Hid (s.m.log<=9223372036854775807):=jb (by omega);clear d4 A d3 d1 am bm ad ez ew D2 g2 S2 cl;have X:=ar.out;have O:=dv.out
  have eu:∃ g0,pv=some ⟨g0,0,none⟩:=by
   rcases bq.out.2 with⟨e,h0⟩|⟨g,cap,gx,e,_⟩
   ·exact(X (xB h0)).elim
   ·cases e
    exact⟨g,rfl⟩
  obtain⟨g0,rfl⟩:=eu;have ey:(0:Int)<(s.live.length:Int):=by omega
  have dn:decide ((0:Int)<(s.live.length:Int))=true:=by simp;omega
  have ct:s.m.next<2000000000:=by have:=HN.out;omega
  have bk:=fe f5.out ct;rw[<-d9.out] at bk;have f8:=jb bk;obtain⟨ml,bn⟩:∃ ml,ml=s.live.length:=⟨_,rfl⟩;rw[<-bn] at ey dn ⊢;have fd:=jb bn;clear bk ct X bn O;go_wp2_with fail;rw[<-ak];clear ak y0 y1 y2 y3 y4 q3 q4;refine f8.out.mono ?_;rintro e w4 ⟨rfl,ap,k4⟩;have t3:=zA (o:=3) ap;have r3:=zB (o:=3) ap;simp at t3;obtain⟨w5,aj⟩:∃ w5,w5=w4.setCell ⟨y,3,none⟩ (jf s.m.next):=⟨_,rfl⟩;have k5:ja w3 w5 (fun i=>i=y):=by rw[aj];exact k4.set (p:=⟨y,3,none⟩) rfl _
  have cz:w5.heap[y]?=some (.cells #[jf n1,jf s.m.last,jf s.m.log,jf s.m.next,.slice none 0 0] 117 (0,0)):=by rw[aj];exact(jc ap _).trans rfl
  have S5:qz E B w5 ρ d b s k (.slice L U M) mv:=S3.keep k5 (fun i hi e=>by rw[e];exact⟨d5,ci,ch⟩);have d2:=k5.same f7.out cj
  have cs:=k5.row bq.out (fun g hg e=>by
   have h1:=(bq.out.lt g hg).1
   have h2:=zC HY.out
   have e':g=y:=e
   omega)
  have al:=An S5.zw S5.env (lo:=s.m.log) dw.out (xi.2 (.inr (.inl rfl))) S5.row;have cd:ja w w5 (StF ρ b mv):=ce.trans k5 (fun i hi e=>by omega);have df:ja w w5 (fun i=>ρ i≠ .none\/i=b):=dx.out.trans k5 (fun i hi e=>by omega);have fa:=jb al;have f6:=jb d2;have d6:=jb cz;have fc:=jb cs;clear al d2 cz cs ap;go_wp2_with fail;rw[<-aj];clear aj t3 r3;refine fa.out.mono ?_;rintro e j ⟨rfl,ca,a8,dc⟩;obtain⟨T,fx⟩:=a8.row S5.row S5.nb.1;have bb:=(a8.row d6.out bj).1;have J:=zA (o:=0) T;have z3:=zA (o:=3) bb;simp at J z3;have J:j.drew.cell? ⟨b,0,none⟩=some (.pointer (some ⟨d,0,none⟩)):=J;have z3:j.drew.cell? ⟨y,3,none⟩=some (jf s.m.next):=z3;obtain⟨F,aq⟩:∃ F,F=Rf.jn s.live:=⟨_,rfl⟩;have f0:s.live.length<60000:=db.out;have R:=Rf.St.Ul S.ok ar.out (by omega);have bf:=S5.env.keep a8.keeps (fun i t=>(S5.zw.ya i t).1);have H:=a8.keeps.row fc.out (fun g hg t=>t (dl g hg).1);have cp:∀ W,ja j W (fun _=>False)->Calls prog 115 #[ju s.m.next] W fun e w'=>e = .returned (jd (jq s.m.next))/\ja W w' (fun _=>False):=fun W D=>dm s.m.next (by have:=HN.out;omega) (bf.same D)
  have cw:∀ W,ja j W (fun _=>False)->Calls prog 116 #[.slice (some ⟨g0,0,none⟩) ml cv] W fun e w'=>∃ p c,e = .returned (.slice p F.length c)/\w'.ownsRow j.heap.size 5 1 (.slice p F.length c) F.length (F.map j6)/\ja W w' (fun _=>False):=fun W D=>by
   have f1:Chs W (.slice (some ⟨g0,0,none⟩) s.live.length cv) s.live:=(xw H).same D;rw[fd.out,aq];refine(Bu g0 0 cv s.live W f1 R.some R.allowed R.few).mono ?_;rintro e w' ⟨p,c,rfl,h,k'⟩;exact⟨p,c,rfl,qg h D.size,k'⟩
  have a6:(jq s.m.next).length<100:=by have:=zn (n:=s.m.next) (by have:=HN.out;omega);unfold jq;simp only[ZY,zX,xU];omega
  have cx:∀(W:World) (v:Value),ja j W (fun _=>False)->W.ownsRow j.heap.size 5 1 v F.length (F.map j6)->Calls prog 114 #[.pointer (some ⟨d,0,none⟩),jd (jq s.m.next),v] W fun e w'=>e = .returned .nilIface/\∃ Y,xo j ca w' Y/\DW E B w' Y d (yc s.files (jq s.m.next) F) (k+20200):=fun W v D V=>by
   have bl:=HS.out;rw[<-aq] at bl;refine(Ot (dc.same D) (jq s.m.next) (Ex _) v F (xj V) (L4 (fun i hi=>(dc.ya i hi).2) V) (by have:=HK.out;omega) (by have:=yh s.files (jq s.m.next);omega)).mono ?_;rintro e w' ⟨rfl,Y,g,D'⟩;exact⟨rfl,Y,(xo.of D (fun _ _ h=>h.elim)).trans g,D'.mono (by omega)⟩
  have bp:=jb cp;have da:=jb cw;have br:=jb cx;have d8:=jb aq;have I:ja j j.drew (fun _=>False):=ja.drew _ _;clear cp cw cx aq R bf H a6 T bb f0;obtain⟨rn,aa⟩:∃ rn,rn=jq s.m.next:=⟨_,rfl⟩;rw[<-aa] at bp br;have ac:=jb aa;clear aa;go_wp2_with fail
  go_cut [8] from 10 (fun s8 wd=>s8 = .nilIface/\∃ Y,xo j ca wd Y/\DW E B wd Y d (yc s.files rn F) (k+20200))
  case first =>
   go_region_law (first
    | (refine jr rfl 115 [.tmp 49] _ rfl tk [ju s.m.next] (by simp[Act.eval,Act.put]) (bp.out _ I) ?_
       rintro e eo ⟨rfl,G⟩
       try have V:=G.row V (fun _ _ h=>h)
       have J:=G.cell J id
       have z3:=G.cell z3 id
       have I:=I.tt G
       refine⟨_,rfl,?_⟩)
    | (refine jr rfl 116 [.tmp 51] _ rfl tn [.slice (some ⟨g0,0,none⟩) ml cv] (by simp[Act.eval,Act.put]) (da.out _ I) ?_
       rintro e eo ⟨pb,cb,rfl,V,G⟩
       have J:=G.cell J id
       have z3:=G.cell z3 id
       have I:=I.tt G
       refine⟨_,rfl,?_⟩)
    | (refine jr rfl 114 [.tmp 47,.tmp 50,.tmp 52] _ rfl ib [.pointer (some ⟨d,0,none⟩),jd rn,.slice pb F.length cb] (by simp[Act.eval,Act.put]) (br.out _ _ I V) ?_
       rintro e gr ⟨rfl,en,bo,bu⟩
       refine⟨_,rfl,?_⟩))
   all_goals
    go_wp2;go_meet
   all_goals exact⟨rfl,_,bo,bu⟩
  case rest =>
   obtain⟨rfl,en,bo,bu⟩:=hcut;have Z:=a8.trans bo;obtain⟨aw,ba⟩:=Z.row S5.row S5.nb.1;obtain⟨bc,de⟩:=Z.row f6.out cc;have u:=(Z.row d6.out bj).1;have t0:=zA (o:=0) u;have t1:=zA (o:=1) u;have t2:=zA (o:=2) u;have t3:=zA (o:=3) u;have t4:=zA (o:=4) u;simp at t0 t1 t2 t3 t4;have ds:=S5.env.keep Z.keeps (fun i t=>(S5.zw.ya i t).1);have b0:ja w wc (StF ρ b mv):=cd.trans Z.keeps (fun i _ h=> .inl h);have dp:ja w wc (fun i=>ρ i≠ .none\/i=b):=df.trans Z.keeps (fun i _ h=> .inl h);have gt:=cd.size;have dt:=jb bc;clear u bc J z3 I bp da br;have cu:gv s.m.yf (.slice none 0 0) = .agg #[jf n1,jf s.m.last,jf s.m.log,jf s.m.next,.slice none 0 0]:=by rw[d9.out];rfl
   have bv:Rf.Man.Good s.m.yf:=S.ok.Je.yf HN.out;have gw:Rf.Man.bytes s.m.yf=Rf.Man.bytes s.m.yf:=rfl;have b9:(Rf.Man.bytes s.m.yf).length=42:=by rw[yg];rfl
   have ab:=rk bu ds s.m.yf bv (by show([]:List Nat).length<65536;decide) (.slice none 0 0) (zl.nil _) (fun p n c e=>by cases e) aw ba S.nb.2 (fun n r=>by
    unfold j8 at r
    rw[Rf.Man.Zx (by have:=S.ok.Je.log;omega)] at r
    have hm:n=jq s.m.next\/n=jx s.m.yf.log:=by simpa using r
    rcases hm with e|e
    ·exact⟨F,yl.2 (.inl (by rw[e,ac.out]))⟩
    ·have h:(jx s.m.log,Rf.jl s.m.last s.bs)∈yc s.files rn F:=yl.2 (.inr ⟨xi.2 (.inr (.inl rfl)),by rw[ac.out];exact Yh _ _⟩)
     rw[e]
     exact⟨_,h⟩) (by
    rw[b9]
    have bl:=HS.out
    rw[<-d8.out] at bl
    have h1:=yh (yc s.files rn F) xx
    have h2:=Y4 s.files rn F
    omega) (by have:=HK.out;omega)
   rw[cu] at ab;have dy:=jb ab;clear ab cu;go_wp2_with fail;refine dy.out.mono ?_;rintro e f ⟨rfl,c9,ah,N,bt,C⟩;have er:x≠b:=fun e=>by have:=S.blt;omega
   have z:=ah.same dt.out (fun t=>t.elim (fun t=>t de) er);have gs:=b0.size;have fw:=ah.size;have dr:c9 b = .none:=(N b (by have:=S.blt;omega)).trans ba;have a9:ja w f (StF ρ b mv):=b0.trans ah (fun i hi h=>h.elim (fun h=> .inl (by rw[<-(fun(i:Nat) (hi:i<w.heap.size)=>Z.role i (by omega)) i hi];exact h)) (fun h=> .inr (.inl h)));have be:Env E B f:=S.env.keep (a9.mono (fun i hi h=>(show B<=i from(StF.old S h).1))) (fun i h=>h)
   have bd:zl f (.slice L U M) s.m.runs:=S.runs.keep a9 (fun _ p n c e t=>by
    obtain⟨a1,a2,a3,a4,a5⟩:=S.nr p n c e
    rcases t with t|t|t
    ·exact t a1
    ·exact a2 t
    ·exact a4 t)
   have J:=zA (o:=0) C;have x0:=zA (o:=0) z;have x1:=zA (o:=1) z;have x2:=zA (o:=2) z;have x3:=zA (o:=3) z;have x4:=zA (o:=4) z;simp at J x0 x1 x2 x3 x4;have J:f.drew.cell? ⟨b,0,none⟩=some (.pointer (some ⟨d,0,none⟩)):=J;have x0:f.drew.cell? ⟨x,0,none⟩=some (jf s.m.next):=x0;have x1:f.drew.cell? ⟨x,1,none⟩=some (jf s.m.last):=x1;have x2:f.drew.cell? ⟨x,2,none⟩=some (jf s.m.log):=x2;have x3:f.drew.cell? ⟨x,3,none⟩=some (jf s.m.base):=x3;have x4:f.drew.cell? ⟨x,4,none⟩=some (.slice L U M):=x4;obtain⟨ns,an⟩:∃ ns,ns=s.m.settled.length:=⟨_,rfl⟩;have al:=x8 s.m;have et:=S.ok.runs
   have ck:∀ W,ja f W (fun _=>False)->Calls prog 121 #[gv s.m (.slice L U M)] W fun e w'=>∃ p c,e = .returned (.slice p ns c)/\w'.ownsRow f.heap.size 3 1 (.slice p ns c) ns (s.m.settled.map jf)/\ja W w' (fun _=>False):=fun W D=>by
    rw[an];refine(Zc W s.m _ (bd.same D) (by omega)).mono ?_;rintro e w' ⟨p,c,rfl,h,k'⟩;exact⟨p,c,rfl,qg h D.size,k'⟩
   have b6:∀(W:World) (v:Value),ja f W (fun _=>False)->W.ownsRow f.heap.size 3 1 v ns (s.m.settled.map jf)->Calls prog 120 #[v] W fun e w'=>∃ p c,e = .returned (.slice p ns c)/\w'.ownsRow f.heap.size 9 1 (.slice p ns c) ns ((s.m.settled.map jq).map jd)/\ja W w' (fun _=>False):=fun W v D hr=>by
    rw[an] at hr ⊢;refine(iy v s.m.settled (be.same D) (ze hr rfl) (by omega) (fun n r=>by have:=S.ok.au r;have:=S.ok.Je.1;omega)).mono ?_;rintro e w' ⟨p,c,rfl,h,k'⟩;exact⟨p,c,rfl,qg h D.size,k'⟩
   have cq:∀(W:World) (v:Value),ja f W (fun _=>False)->W.ownsRow f.heap.size 9 1 v ns ((s.m.settled.map jq).map jd)->Calls prog 118 #[.pointer (some ⟨d,0,none⟩),v] W fun e w'=>e = .returned .nilIface/\∃ Y,xo f c9 w' Y/\DW E B w' Y d (Zo s) (k+100000):=fun W v D hr=>by
    have a6:(s.m.settled.map jq).length=ns:=by rw[ZM,an]
    have ex:(s.m.settled.map jq).Nodup:=by
     refine XW.2 (List.Pairwise.imp ?_ S.ok.iw);intro a b f2 e;exact f2 (Ze e)
    refine(Ff (bt.same D) (by have:=HK.out;omega) v (s.m.settled.map jq) f.heap.size (by rw[a6];exact hr) (fun g hg=>yG (fun r=>by have:=(hr.lt g hg).1;have:=(bt.ya g r).2;omega)) (fun n r=>Yg S.ok.Je n (ZD.2 (.inl r))) (by rw[a6];omega) ex (fun n r=>?_)).mono ?_
    ·obtain⟨q,hq,rfl⟩:=ZN.1 r
     obtain⟨c,hc⟩:=S.ok.there (jq q) (ZD.2 (.inl r))
     exact(by
    by_cases he:jq q=rn
    ·exact⟨F,yl.2 (.inr ⟨xf.2 ⟨yl.2 (.inl (by rw[he])),fun e=>pw _ e.symm⟩,fun e=>ai _ e.symm⟩)⟩
    ·exact⟨c,yl.2 (.inr ⟨xf.2 ⟨yl.2 (.inr ⟨hc,he⟩),fun e=>pw _ e.symm⟩,fun e=>ai _ e.symm⟩)⟩)
    ·rintro e w' ⟨rfl,Y,g,D'⟩
     refine⟨rfl,Y,(xo.of D (fun _ _ h=>h.elim)).trans g,?_⟩;have dd:=D'.mono (m:=k+100000) (by rw[a6,b9];omega)
     have ev:(yc (jo (yc s.files rn F) xx) jw (Rf.Man.bytes s.m.yf)).filter (fun p=>decide (p.1∉s.m.settled.map jq))=Zo s:=by
      unfold Zo;rw[if_neg ar.out,ac.out,d8.out]
     rw[ev] at dd;exact dd
   have f9:=jb ck;have du:=jb b6;have fb:=jb cq;have ax:=jb C;have I:ja f f.drew (fun _=>False):=ja.drew _ _;clear ck b6 cq an al et C z bd;go_wp2_with fail
   go_region_law (first
    | (refine jr rfl 121 [.tmp 67] _ rfl Xk [gv s.m (.slice L U M)] (by simp[Act.eval,Act.put]) (f9.out _ I) ?_
       rintro e gq ⟨eq,f4,rfl,dk,cg⟩
       have J:=cg.cell J id
       have I:=I.tt cg
       refine⟨_,rfl,?_⟩)
    | (refine jr rfl 120 [.tmp 68] _ rfl bw [.slice eq ns f4] (by simp[Act.eval,Act.put]) (du.out _ _ I dk) ?_
       rintro e gp ⟨ep,f3,rfl,dj,cf⟩
       have J:=cf.cell J id
       have I:=I.tt cf
       refine⟨_,rfl,?_⟩)
    | (refine jr rfl 118 [.tmp 66,.tmp 69] _ rfl lh [.pointer (some ⟨d,0,none⟩),.slice ep ns f3] (by simp[Act.eval,Act.put]) (fb.out _ _ I dj) ?_
       rintro e bi ⟨rfl,c8,a7,fh⟩
       refine⟨_,rfl,?_⟩))
   all_goals
    go_wp2;go_ret;have b7:=S.ok.qd (by have:=db.out;omega) HN.out;have fg:=fh.perm (tj S.ok d7.out b7);have ec:s.qd=⟨s.m.yf,s.bs,[s.live]⟩:=by unfold Rf.St.qd;rw[if_neg d7.out,if_neg ar.out]
    obtain⟨av,dq⟩:=a7.row ax.out dr;have co:∀ i,i<w.heap.size->c8 i=ρ i:=fun i hi=>(a7.role i (by omega)).trans ((N i (by omega)).trans ((fun(i:Nat) (hi:i<w.heap.size)=>Z.role i (by omega)) i (by omega)));have dg:ja w bi (StF ρ b mv):=a9.trans a7.keeps (fun i hi t=> .inl (by rw[<-(fun(i:Nat) (hi:i<w.heap.size)=>Z.role i (by omega)) i hi,<-N i (by omega)];exact t))
    have dh:bi.ownsRow B 88 3 mv s.mem.length (jg s.mem):=by
     have D:ja w bi (fun i=>ρ i≠ .none\/i=b):=(dp.trans ah (fun i hi h=>h.imp (fun h=>by rw[<-(fun(i:Nat) (hi:i<w.heap.size)=>Z.role i (by omega)) i hi];exact h) id)).trans a7.keeps (fun i hi t=> .inl (by rw[<-(fun(i:Nat) (hi:i<w.heap.size)=>Z.role i (by omega)) i hi,<-N i (by omega)];exact t));exact D.row S.mem (fun g hg t=>t.elim (fun t=>t (S.nm g hg).1) (S.nm g hg).2)
    refine⟨rfl,c8,.slice none 0 0,mv,⟨be.keep a7.keeps (fun i t=>(bt.ya i t).1),fg,?_,?_,?_,⟨dq,S.nb.2⟩,fun p n c e=>(by cases e),fun g hg=>⟨by rw[co g (S.mem.lt g hg).2];exact(S.nm g hg).1,(S.nm g hg).2⟩,b7,?_⟩,dg,co,fun g hg=> .inl hg,fun p n c e=>(by cases e)⟩
    ·rw[ec]
     exact av
    ·rw[ec]
     exact zl.nil _
    ·rw[ec]
     exact dh
    ·rw[ec]
     exact S.few
theorem qz.mono{ρ:Nat->jz}(h:qz E B w ρ d b s k rv mv)(c:k<=m):qz E B w ρ d b s m rv mv :=
 ⟨h.env,h.zw.mono c,h.row,h.runs,h.mem,h.nb,h.nr,h.nm,h.ok,h.few⟩
theorem Qo.still{f:World}{ρ:Nat->jz}(h:qz E B w ρ d b s k rv mv)(i:ja w f (fun _=>False))(j:k<=m):Qo E B w ρ d b rv mv s m f :=
 ⟨ρ,rv,mv,(h.same i).mono j,i.up,fun _ _=>rfl,fun g hg=> .inl hg,fun p n c e=> .inl ⟨n,c,e⟩⟩
theorem Ws{ρ:Nat->jz}(S:qz E B w ρ d b s k rv mv)(j:k<530000000000)(c:s.m.runs≠[])(g:s.m.next+1<=2000000000)(i:(Rf.merged s.bls).length<60000)(f:42+(Rf.jn s.live).length+j3 s.files<=20000) :
 Calls prog 69 #[.pointer (some ⟨b,0,none⟩)] w fun e w'=>e = .returned .nilIface/\Qo E B w ρ d b rv mv s.qd (k+100000) w':=by
 rcases Classical.em (s.live=[])with h|h
 ·exact Gu S j c g i h f
 ·exact Gt S j c g i h f
theorem je2{ρ:Nat->jz}(S:qz E B w ρ d b s k rv mv)(z:k<530000000000)(y:s.m.next+2<=2000000000)(x:s.m.runs.length+1<60000)(v:(s.m.qn s.last).bytes.length+(Rf.jn s.mem).length+j3 s.files<=20000) :
 Calls prog 26 #[.pointer (some ⟨b,0,none⟩)] w fun e w'=>e = .returned (.int .i64 0)/\Qo E B w ρ d b rv mv s.flush (k+50000) w':=by
 have f:=S.row;have G:=zA (o:=2) f;have C:=zA (o:=6) f;simp at G C;have i:=jb f;clear f;rcases Classical.em (s.bs=[])with j|j
 ·have e:s.last=s.m.last:=by unfold Rf.St.last;rw[j];rfl
  have A:s.flush=s:=by unfold Rf.St.flush;rw[if_pos j]
  rw[e] at C;have O:=jb A;rw[A];clear e A j z y x v;go_enter func26,ntmps26;go_wp2_with fail;refine(Jc i.out).mono ?_;rintro e I ⟨rfl,rfl⟩;rw[show Qi false false=0 from rfl];go_wp2_with fail;go_quiet (fail);go_wp2;go_ret;exact⟨rfl,Qo.still S (ja.drewN _ _ _) (by omega)⟩
 ·have l:s.m.last<s.last:=by unfold Rf.St.last;have:=XY.2 j;omega
  obtain⟨u,r⟩:∃ u,u=s.m.last:=⟨_,rfl⟩;obtain⟨ls,q⟩:∃ ls,ls=s.last:=⟨_,rfl⟩;rw[<-r] at G l;rw[<-q] at C l;have L:((ls:Int)==(u:Int))=false:=by simp;omega
  have H:¬((ls:Int)=(u:Int)):=by omega
  have t:∀ W,ja w W (fun _=>False)->Calls prog 68 #[.pointer (some ⟨b,0,none⟩)] W fun e w'=>e = .returned .nilIface/\Qo E B w ρ d b rv mv s.flush (k+50000) w':=fun W kk=>by
   refine(jek (S.same kk) z j y x v).mono ?_;rintro e w' ⟨rfl,h⟩;exact⟨rfl,Qo.trans (S.same kk) (kk.up) (fun _ _=>rfl) (fun g hg=> .inl hg) (fun p n c e=> .inl ⟨n,c,e⟩) h⟩
  have D:=jb t;clear t r q l z y x v j;go_enter func26,ntmps26;go_wp2_with fail;refine(Jc i.out).mono ?_;rintro e I ⟨rfl,rfl⟩;rw[show Qi false false=0 from rfl];go_wp2_with fail;go_quiet (fail);go_wp2_with fail;refine(D.out _ (ja.drewN _ _ _)).mono ?_;rintro e N ⟨rfl,F⟩;have J:=jb F;clear F;go_wp2_with fail;refine(um b).mono ?_;rintro e M ⟨rfl,rfl⟩;go_wp2;go_ret;exact⟨rfl,J.out⟩
theorem jaf{ρ:Nat->jz}(S:qz E B w ρ d b s k rv mv)(r:k<530000000000)(q:s.m.next+1<=2000000000)(z:(Rf.merged s.bls).length<60000)(p:42+(Rf.jn s.live).length+j3 s.files<=20000) :
 Calls prog 27 #[.pointer (some ⟨b,0,none⟩)] w fun e w'=>e = .returned (.int .i64 0)/\Qo E B w ρ d b rv mv s.qd (k+100000) w':=by
 have c:=S.row;obtain⟨G,H,f,_⟩:=id S.runs;have n:=zA (o:=5) c;simp at n;have i:=jb c;clear c;rcases Classical.em (s.m.runs=[])with j|j
 ·have t:s.qd=s:=by unfold Rf.St.qd;rw[if_pos j]
  rw[f,j] at n;have I:=jb t;rw[t];clear t j r q p f;go_enter func27,ntmps27;go_wp2_with fail;refine(Jc i.out).mono ?_;rintro e y ⟨rfl,rfl⟩;rw[show Qi false false=0 from rfl];go_wp2;go_ret;exact⟨rfl,Qo.still S (ja.refl _ _) (by omega)⟩
 ·have g:=XY.2 j
  rw[f] at n;obtain⟨ls,l⟩:∃ ls,ls=s.m.runs.length:=⟨_,rfl⟩;rw[<-l] at n g;have C:((ls:Int)==0)=false:=by simp;omega
  have x:¬((ls:Int)=0):=by omega
  have u:=jb (Ws S r j q z p);clear l g r q p j f;go_enter func27,ntmps27;go_wp2_with fail;refine(Jc i.out).mono ?_;rintro e y ⟨rfl,rfl⟩;rw[show Qi false false=0 from rfl];go_wp2_with fail;refine u.out.mono ?_;rintro e F ⟨rfl,v⟩;have A:=jb v;clear v;go_wp2_with fail;refine(um b).mono ?_;rintro e D ⟨rfl,rfl⟩;go_wp2;go_ret;exact⟨rfl,A.out⟩
abbrev newRow(d:Nat):Array Value:=qe (.pointer (some ⟨d,0,none⟩)) (.int .i64 0) (.int .i64 0) (.int .i64 0) (.int .i64 0) (.slice none 0 0) (.int .i64 0) (.slice none 0 0) false false
def Zr(E:Nat->Addr)(B:Nat)(w:World)(ρ:Nat->jz)(d b:Nat)(s:Rf.St)(k:Nat)(w':World):Prop :=
 ∃ ρ' rv mv,qz E B w' ρ' d b s k rv mv/\ja w w' (fun i=>ρ i≠ .none\/i=b)/\(∀ i,i<w.heap.size->ρ' i=ρ i)/\(∀ g,mv.ownBlock=some g->w.heap.size<=g)/\(∀ p n c,rv = .slice (some p) n c->w.heap.size<=p.block)
theorem jew{ρ:Nat->jz}(D:DW E B w ρ d V k)(H:Env E B w)(hk:k+V.length<530000000000)(hb:w.heap[b]?=some (.cells (newRow d) 121 (0,0)))(Z:ρ b = .none)(M:B<=b) :
 Calls prog 130 #[.pointer (some ⟨b,0,none⟩)] w fun e w'=>e = .returned .nilIface/\Zr E B w ρ d b Rf.St.first (k+V.length+1000) w':=by
 have c0:=zA (o:=0) hb;simp at c0;have m:=ob D (by omega) (.slice none 0 0) [] B (zS _ _ _ _) (fun g hg=>by cases hg) (by simp);have a3:V.filter (fun p=>decide (p.1∈([]:List Str)))=[]:=List.filter_eq_nil_iff.2 (fun p _=>by simp);rw[a3] at m;have a6:=jb m;have HB:=jb hb;have HK:=jb hk;clear m hb hk a3;go_enter func130,ntmps130;go_wp2_with fail;refine a6.out.mono ?_;rintro e w1 ⟨rfl,ρ1,J,D1⟩;obtain⟨v,ag⟩:=J.row HB.out Z;obtain⟨y,hy⟩:∃ y,y=w1.heap.size:=⟨_,rfl⟩;obtain⟨l,x⟩:∃ l,l=w1.alloc (.cells #[.int .i64 2,.int .i64 0,.int .i64 1,.int .i64 0,.slice none 0 0] 117):=⟨_,rfl⟩;have X:ja w1 l (fun _=>False):=by rw[x];exact ja.alloc _ _ _
 have L:l.heap[y]?=some (.cells #[.int .i64 2,.int .i64 0,.int .i64 1,.int .i64 0,.slice none 0 0] 117 (0,0)):=by rw[x,hy];exact je _ _
 have D2:=D1.same X;have f:=X.same v id;have ny:ρ1 y = .none:=yG (fun hn=>by have:=(D1.ya y hn).2;omega);have ai:Env E B w1:=H.keep J.keeps (fun i t=>(D.ya i t).1);have a4:=ai.same X;have T:=zA (o:=0) f;have z2:=zA (o:=2) L;simp at T z2;have T:l.drew.cell? ⟨b,0,none⟩=some (.pointer (some ⟨d,0,none⟩)):=T;have z2:l.drew.cell? ⟨y,2,none⟩=some (.int .i64 1):=z2;have a2:∀ W,ja l W (fun _=>False)->Calls prog 63 #[.int .i64 1] W fun e w'=>e = .returned (jd (jx 1))/\ja W w' (fun _=>False):=fun W G=>Qy 1 (by omega) (a4.same G);have ae:(jx 1).length<100:=by have:=zn (n:=1) (by omega);unfold jx;simp only[ZY,zX,xU];omega
 have A:∀ W,ja l W (fun _=>False)->Calls prog 114 #[.pointer (some ⟨d,0,none⟩),jd (jx 1),.slice none 0 0] W fun e w'=>e = .returned .nilIface/\∃ F,xo l ρ1 w' F/\DW E B w' F d (yc [] (jx 1) []) (k+V.length+200):=fun W G=>by
  refine(Ot (D2.same G) (jx 1) (F9 _) _ [] (Kx W) (fun p n c e=>by cases e) (by have:=HK.out;simp only[xU];omega) (by simp[jo,j3])).mono ?_;rintro e w' ⟨rfl,F,g,D'⟩;exact⟨rfl,F,(xo.of G (fun _ _ h=>h.elim)).trans g,D'.mono (by simp only[xU];omega)⟩
 have N:=jb a2;have s:=jb A;have R:=jb f;have ak:=jb L;have HY:=jb hy;have U:ja l l.drew (fun _=>False):=ja.drew _ _;clear a2 A v f L ae hy c0;obtain⟨S,q⟩:∃ S,S=jx 1:=⟨_,rfl⟩;rw[<-q] at N s;have C:=jb q;clear q;go_wp2_with fail;rw[<-x,<-HY.out];clear x
 go_cut [5] from 6 (fun s5 wd=>s5 = .nilIface/\∃ F,xo l ρ1 wd F/\DW E B wd F d (yc [] S []) (k+V.length+200))
 case first =>
  go_region_law (first
   | (refine jr rfl 63 [.tmp 20] _ rfl J7 [.int .i64 1] (by simp[Act.eval,Act.put]) (N.out _ U) ?_
      rintro e ba ⟨rfl,Y⟩
      have T:=Y.cell T id
      have U:=U.tt Y
      refine⟨_,rfl,?_⟩)
   | (refine jr rfl 114 [.tmp 18,.tmp 21,.const (.slice none 0 0)] _ rfl ib [.pointer (some ⟨d,0,none⟩),jd S,.slice none 0 0] (by simp[Act.eval,Act.put]) (s.out _ U) ?_
      rintro e b9 ⟨rfl,b8,aj,am⟩
      refine⟨_,rfl,?_⟩))
  all_goals
   go_wp2;go_meet
  all_goals exact⟨rfl,_,aj,am⟩
 case rest =>
  obtain⟨rfl,ρ3,I,D3⟩:=hcut;obtain⟨O,af⟩:=I.row R.out ag;have j:=(I.row ak.out ny).1;have t0:=zA (o:=0) j;have t1:=zA (o:=1) j;have t2:=zA (o:=2) j;have t3:=zA (o:=3) j;have t4:=zA (o:=4) j;simp at t0 t1 t2 t3 t4;have ah:=a4.keep I.keeps (fun i t=>(D2.ya i t).1);have z:Rf.Man.first.bytes.length=42:=by rw[yg];rfl
  have r:=rk D3 ah Rf.Man.first Rf.St.Ok.first.Je (by decide) (.slice none 0 0) (zl.nil _) (fun p n c e=>by cases e) O af M (fun n hn=>by
   have e:n=jx 1:=by simpa [j8,Rf.Man.first,Rf.Man.settled] using hn
   exact⟨[],yl.2 (.inl (by rw[e,C.out]))⟩) (by
   rw[z]
   have h1:=yh (yc [] S []) xx
   have h2:j3 (yc [] S [])=0:=by simp[yc,jo,j3]
   omega) (by have:=HK.out;omega)
  have a1:gv Rf.Man.first (.slice none 0 0) = .agg #[.int .i64 2,.int .i64 0,.int .i64 1,.int .i64 0,.slice none 0 0]:=rfl;rw[a1] at r;have a7:=jb r;clear r a1 j T z2 U N s;go_wp2_with fail;refine a7.out.mono ?_;rintro e w4 ⟨rfl,ρ4,k4,ad,D4,u⟩;have al:=jb u;clear u;go_wp2;go_ret;have be:=J.keeps.size;have bd:=X.size;have bc:=I.keeps.size;have bb:=k4.size;have a5:b<w.heap.size:=zC HB.out;have a0:∀ i,i<w.heap.size->ρ4 i=ρ i:=fun i hi=>(ad i (by omega)).trans ((I.role i (by omega)).trans (J.role i hi));have G:ja w w4 (fun i=>ρ i≠ .none\/i=b):=(((J.keeps.mono (fun i _ h=>(Or.inl h:ρ i≠ .none\/i=b))).trans X (fun _ _ h=>h.elim)).trans I.keeps (fun i hi h=> .inl (by rw[<-J.role i hi];exact h))).trans k4 (fun i hi h=>h.imp (fun h=>by rw[<-J.role i hi,<-I.role i (by omega)];exact h) id);refine⟨rfl,ρ4,.slice none 0 0,.slice none 0 0,⟨H.keep (G.mono (fun i hi h=>(show B<=i from h.elim (fun h=>(D.ya i h).1) (fun h=>by rw[h];exact M)))) (fun i h=>h),?_,al.out,zl.nil _,zS _ _ _ _,⟨(a0 b a5).trans Z,M⟩,fun p n c e=>(by cases e),fun g hg=>(by cases hg),Rf.St.Ok.first,ZG _⟩,G,a0,fun g hg=>(by cases hg),fun p n c e=>(by cases e)⟩;rw[Pg,<-C.out];exact D4.mono (by rw[z];omega)
theorem gz(b:Array Value)(w:World):(callFunc 182 b).run prog w = .ok (.enter 182 b) w:=by kernel_rfl
theorem uh(b:Array Value)(w:World):(callFunc 177 b).run prog w = .ok (.enter 177 b) w:=by kernel_rfl
theorem Cu(b:Array Value)(w:World):(callFunc 129 b).run prog w = .ok (.enter 129 b) w:=by kernel_rfl
theorem S9(h:s.Ok)(g:Yt V)(f:∀ p∈s.files,p∈V):s.files.Perm (V.filter (fun p=>decide (p.1∈j8 s.m++[Y8]))):=by
 refine Zg h.apart (g.filter _) (fun p=>?_);rw[List.mem_filter,decide_eq_true_iff];constructor
 ·intro d
  refine⟨f p d,?_⟩;rcases xi.1 d with rfl|rfl|i
  ·exact ZD.2 (.inr (ZE.2 rfl))
  ·exact ZD.2 (.inl (ZD.2 (.inr (ZE.2 rfl))))
  ·obtain⟨n,b,e⟩:=Jm i
   exact ZD.2 (.inl (ZD.2 (.inl (ZN.2 ⟨n,b,e.symm⟩))))
 ·rintro⟨d,b⟩
  rcases ZD.1 b with b|b
  ·obtain⟨c,k⟩:=h.there p.1 b
   have e:p.2=c:=g.one (n:=p.1) d (f _ k);rw[show p=(p.1,c)from by rw[<-e]];exact k
  ·have l:p.1=jw:=ZE.1 b
   have j:(jw,s.m.bytes)∈s.files:=xi.2 (.inl rfl);have e:p.2=s.m.bytes:=g.one (n:=p.1) d (by rw[l];exact f _ j);rw[show p=(jw,s.m.bytes)from by rw[<-e,<-l]];exact j
theorem Kl{p:Str×List UInt8}(h:p∈V):p.2.length<=j3 V:=by
 induction V with
 | nil=>cases h
 | cons x r ih =>
  rw[y7];rcases zH.1 h with rfl|h
  ·omega
  ·have:=ih h
   omega
theorem DW.Qh{ρ:Nat->jz}(h:DW E B w ρ d V k):Qp E B w:=by
 obtain⟨S,b,_⟩:=h;exact b.Qh
theorem Pr{ρ:Nat->jz}{last:Value}{f cl:Bool}{t:TypeId}(D:DW E B w ρ d V k)(H:Env E B w)(n:k<549755813888)(ok:s.Ok)(q:∀ p∈j9 s.m.settled s.bls,p∈V)(o:w.heap[b]?=some (.cells (qe (.pointer (some ⟨d,0,none⟩)) (jf s.m.next) (jf s.m.last) (jf s.m.log) (jf s.m.base) rv last mv f cl) t (0,0)))(l:zl w rv s.m.runs) :
 Calls prog 179 #[.pointer (some ⟨b,0,none⟩)] w fun e w'=>e = .returned .nilIface/\xo w ρ w' ρ/\DW E B w' ρ d V k:=by
 obtain⟨T,x,v,u,r⟩:=D;have i:ie V k T:=⟨v,u,r⟩;have z:=ok.runs;refine(I3 s.m rv last mv f cl (s.bls.map Rf.chunks) H x i (vf ok q n) o l (by omega)).mono ?_;rintro e w' ⟨j,y,g,⟨_,rfl⟩|⟨bad,A,c,_⟩⟩
 ·exact⟨rfl,⟨j,fun _ _=>rfl⟩,_,y,g.1,g.2.1,g.2.2⟩
 ·rw[Wx [] _ i] at c
  cases c
theorem jft{ρ:Nat->jz}(D:DW E B w ρ d V k)(H:Env E B w)(hk:k+V.length<530000000000)(s:Rf.St)(ok:s.Ok)(hV:∀ p∈s.files,p∈V)(b9:j3 V<=20000)(ag:s.mem.length<60000)(hb:w.heap[b]?=some (.cells (newRow d) 121 (0,0)))(F:ρ b = .none)(N:B<=b)(vm:Value)(b8:Bytes w vm s.m.bytes) :
 Calls prog 131 #[.pointer (some ⟨b,0,none⟩),vm] w fun e w'=>e = .returned .nilIface/\Zr E B w ρ d b s (k+V.length) w':=by
 have ba:=ok.runs;have y:=ok.Je;have c4:=y.log;have cx:=y.1;have cy:=yg s.m;have ae:=Kl (hV _ (xi.2 (.inl rfl)));have I:=Ay D.Qh D.size b8 (by simp only at ae;omega);rw[Rf.Ij y (by omega)] at I;obtain⟨pm,cm,rfl,_⟩:=id b8;have ax:=jb I;have HB:=jb hb;have HK:=jb hk;have d4:=jb b9;have HF:=jb ag;have bw:Hid (s.m.log<=9223372036854775807):=jb (by omega);have av:=jb ba;have ac:∀ n∈s.m.settled,n<=9223372036854775807:=fun n l=>by have:=ok.au l;omega
 have c7:=jb ac;clear I hb hk b9 ba y c4 cx cy ae ac ag;go_enter func131,ntmps131;go_wp2_with fail;refine ax.out.mono ?_;rintro e w1 ⟨k1,⟨m1,R,S,an,rfl,a8⟩|⟨v1,an,_⟩⟩
 rotate_left
 ·cases an
 cases an;obtain⟨C,am⟩:∃ C,C=s.m.runs.length:=⟨_,rfl⟩;rw[<-am] at a8 ⊢;obtain⟨x,hx⟩:∃ x,x=w1.heap.size:=⟨_,rfl⟩;obtain⟨w2,X⟩:∃ w2,w2=w1.alloc (.cells #[jf s.m.next,jf s.m.last,jf s.m.log,jf s.m.base,.slice R C S] 117):=⟨_,rfl⟩;have k2:ja w w2 (fun _=>False):=by rw[X];exact k1.more _
 have G:w2.heap[x]?=some (.cells #[jf s.m.next,jf s.m.last,jf s.m.log,jf s.m.base,.slice R C S] 117 (0,0)):=by rw[X,hx];exact je _ _
 have bd:w2.ownsRow w.heap.size 3 1 (.slice R C S) C (s.m.runs.map jf):=by rw[X];exact a8.alloc _
 have f:=k2.same HB.out id;have e8:=zC HB.out;have ev:w.heap.size<=x:=by rw[hx];exact k1.size
 have Y:∀ g,(Value.slice R C S).ownBlock=some g->w.heap.size<=g/\g<x:=fun g hg=>by rw[hx];exact a8.lt g hg
 have x0:=zA (o:=0) G;have x1:=zA (o:=1) G;have x2:=zA (o:=2) G;have x3:=zA (o:=3) G;have x4:=zA (o:=4) G;have y1:=zA (o:=1) f;have y2:=zA (o:=2) f;have y3:=zA (o:=3) f;have y4:=zA (o:=4) f;have y5:=zA (o:=5) f;have y6:=zA (o:=6) f;have f1:=zB (o:=1) f;have f2:=zB (o:=2) f;have f3:=zB (o:=3) f;have f4:=zB (o:=4) f;have f5:=zB (o:=5) f;have f6:=zB (o:=6) f;simp at x0 x1 x2 x3 x4 y1 y2 y3 y4 y5 y6;have HX:=jb hx;have bt:=jb am;have d3:=jb G;have db:=jb f;have d7:=jb bd;have D2:=D.same k2;have E2:=H.same k2;clear hx am G f a8 bd;go_wp2_with fail;rw[<-X,<-HX.out];clear X
 go_cut [] from 10 (fun wd=>wd.heap[b]?=some (.cells (qe (.pointer (some ⟨d,0,none⟩)) (jf s.m.next) (jf s.m.last) (jf s.m.log) (jf s.m.base) (.slice R C S) (jf s.m.last) (.slice none 0 0) false false) 121 (0,0))/\ja w2 wd (fun i=>i=b))
 case first =>
  go_region
  all_goals
   go_wp2;go_meet
  all_goals
   have hh:∀ W:World,W.drew.heap=W.heap:=fun _=>rfl;refine⟨?_,ja.draw ?_⟩
   ·rw[hh]
    exact(jc (jc (jc (jc (jc (jc db.out _) _) _) _) _) _).trans rfl
   ·exact(((((ja.setCell w2 ⟨b,1,none⟩ _).set (p:=⟨b,2,none⟩) rfl _).set (p:=⟨b,3,none⟩) rfl _).set (p:=⟨b,4,none⟩) rfl _).set (p:=⟨b,5,none⟩) rfl _).set (p:=⟨b,6,none⟩) rfl _
 case rest =>
  obtain⟨aq,k3⟩:=hcut;clear x0 x1 x2 x3 x4 y1 y2 y3 y4 y5 y6 f1 f2 f3 f4 f5 f6;have D3:DW E B wc ρ d V k:=D2.keep k3 (fun i _ e=>by rw[e];exact⟨F,N⟩);have E3:Env E B wc:=E2.keep k3 (fun i e=>by rw[e];exact N);have ct:x≠b:=by omega
  have bm:=k3.same d3.out ct;have al:=k3.row d7.out (fun g hg e=>by have:=(Y g hg).1;have e':g=b:=e;omega);have cs:ρ x = .none:=yG (fun l=>by have:=(D.ya x l).2;omega);have a6:∀ g,(Value.slice R C S).ownBlock=some g->ρ g = .none:=fun g hg=>yG (fun l=>by have:=(D.ya g l).2;have:=(Y g hg).1;omega);have bf:zl wc (.slice R C S) s.m.runs:=ze al bt.out.symm;have ai:ja w wc (fun i=>i=b):=(k2.up).trans k3 (fun i _ e=>e);have bj:=Pr D3 E3 (by have:=HK.out;omega) ok (fun p hp=>hV p (xi.2 (.inr (.inr hp)))) aq bf;have d9:=jb bj;have c2:=jb aq;have bp:=jb bm;have d6:=jb al;clear bj aq bm al bf;go_wp2_with fail;refine d9.out.mono ?_;rintro e T ⟨rfl,g4,D4⟩;obtain⟨ap,_⟩:=g4.row c2.out F;obtain⟨bl,_⟩:=g4.row bp.out cs;have E4:=E3.keep g4.keeps (fun i t=>(D3.ya i t).1);have z:=zA (o:=0) ap;have z2:=zA (o:=2) bl;simp at z z2;obtain⟨lo,Z⟩:∃ lo,lo=s.m.log:=⟨_,rfl⟩;rw[<-Z] at z2;have z:T.drew.cell? ⟨b,0,none⟩=some (.pointer (some ⟨d,0,none⟩)):=z;have z2:T.drew.cell? ⟨x,2,none⟩=some (jf lo):=z2;obtain⟨L,hL⟩:∃ L,L=Rf.jl s.m.last s.bs:=⟨_,rfl⟩;have a3:(jx lo,L)∈V:=by rw[Z,hL];exact hV _ (xi.2 (.inr (.inl rfl)))
  have af:=Kl a3;have a4:lo<=9223372036854775807:=by rw[Z];exact bw.out
  have bi:∀ W,ja T W (fun _=>False)->Calls prog 63 #[ju lo] W fun e w'=>e = .returned (jd (jx lo))/\ja W w' (fun _=>False):=fun W M=>Qy lo a4 (E4.same M)
  have bb:∀ W,ja T W (fun _=>False)->Calls prog 129 #[.pointer (some ⟨d,0,none⟩),jd (jx lo)] W fun e w'=>∃ p c,e = .returned (.tuple #[.slice p L.length c,.nilIface])/\w'.ownsRow T.heap.size 5 1 (.slice p L.length c) L.length (L.map j6)/\xo T ρ w' ρ/\DW E B w' ρ d V k:=fun W M=>by
   refine(jba (D4.same M) (by have:=HK.out;omega) (jx lo) (Xi a4) a3).mono ?_;rintro e w' ⟨g,D',v,rfl,hr⟩;obtain⟨p,c,rfl⟩:=jj hr;exact⟨p,c,rfl,qg hr M.size,(xo.of M (fun _ _ h=>h.elim)).trans g,D'⟩
  have bx:=jb bi;have bq:=jb bb;have e9:=jb Z;have d8:=jb hL;have da:=jb ap;have ca:=jb af;have A:ja T T.drew (fun _=>False):=ja.drew _ _;clear bi bb Z hL a3 af a4 ap bl;go_wp2_with fail
  go_cut [8,6] from 10 (fun s8 s6 wd=>s6 = .nilIface/\∃(p:Option Addr) (c:Nat),s8 = .slice p L.length c/\wd.ownsRow T.heap.size 5 1 (.slice p L.length c) L.length (L.map j6)/\xo T ρ wd ρ/\DW E B wd ρ d V k)
  case first =>
   go_region_law (first
    | (refine jr rfl 63 [.tmp 38] _ rfl J7 [ju lo] (by simp[Act.eval,Act.put]) (bx.out _ A) ?_
       rintro e w5 ⟨rfl,k5⟩
       have z:=k5.cell z id
       have A:=A.tt k5
       refine⟨_,rfl,?_⟩)
    | (refine jr rfl 129 [.tmp 36,.tmp 39] _ rfl Cu [.pointer (some ⟨d,0,none⟩),jd (jx lo)] (by simp[Act.eval,Act.put]) (bq.out _ A) ?_
       rintro e w6 ⟨p6,c6,rfl,a7,g6,D6⟩
       refine⟨_,rfl,?_⟩))
   all_goals
    go_wp2;go_meet
   all_goals exact⟨rfl,_,_,rfl,a7,g6,D6⟩
  case rest =>
   obtain⟨rfl,p6,c6,rfl,a7,g6,D6⟩:=hcut;have a1:=g4.trans g6;obtain⟨bk,_⟩:=a1.row c2.out F
   have ad:=Rv b (.pointer (some ⟨d,0,none⟩)) (jf s.m.next) (jf s.m.last) (jf s.m.log) (jf s.m.base) (.slice R C S) (.bool false) (.bool false) s.m.last 121 (.slice none 0 0) (.slice p6 L.length c6) [] L w.heap.size wc D6.Qh N (fun g hg=>by cases hg) bk (zS _ _ _ _) (fun h=>by cases h) List.Pairwise.nil
    (by have h1:L.length<=j3 V:=ca.out;have h2:=d4.out;simp only[xU];omega) ok.Je.2.1 (xj a7) (by have:=ai.size;have:=a1.keeps.size;omega) (fun _ p n c e=>by
     have aa:(Value.slice p6 L.length c6).ownBlock=some p.block:=by rw[e];rfl
     have h1:=(a7.lt _ aa).1
     have h2:=zC da.out
     exact⟨by omega,fun h=>by cases h⟩)
   have c9:=jb ad;clear ad bk z z2 A bx bq;go_wp2_with fail;refine c9.out.mono ?_;rintro e J ⟨bs,r,v7,hT,hO,rfl,a0,ak,ew,cw,k7⟩;have ar:=Rf.U3 (last:=s.m.last) ok.log (by have:=ok.cap;unfold Rf.St.last at this;exact this) [];rw[ZC,<-d8.out] at ar;obtain⟨rfl,rfl⟩:=Rf.zz.unique hT hO ar (Rf.Ly _ _);rw[xU,Nat.sub_zero];have a5:s.m.last+s.bs.length=s.last:=rfl;rw[a5] at a0;have bh:Rf.Z5 [] s.bs=s.mem:=rfl;rw[bh] at ak;have eu:=ai.size;have es:=a1.keeps.size;have er:=k7.size
   have q:∀ g,v7.ownBlock=some g->T.heap.size<=g:=fun g hg=>by
    rcases cw with e|⟨g',e,h⟩
    ·rw[e] at hg
     cases hg
    ·rw[hg] at e
     cases e;have:=g6.keeps.size;omega
   have et:=g4.keeps.size
   have D7:DW E B J ρ d V k:=D6.keep k7 (fun i _ h=>by
    rcases h with h|h
    ·rw[h];exact⟨F,N⟩
    ·cases h)
   have b6:ja w J (fun i=>ρ i≠ .none\/i=b):=((ai.mono (fun i _ h=>(Or.inr h:ρ i≠ .none\/i=b))).trans a1.keeps (fun i _ h=> .inl h)).trans k7 (fun i _ h=>by
    rcases h with h|h
    ·exact .inr h
    ·cases h)
   have E7:Env E B J:=H.keep (b6.mono (fun i hi h=>(show B<=i from h.elim (fun h=>(D.ya i h).1) (fun h=>by rw[h];exact N)))) (fun i h=>h)
   have c3:=k7.row (a1.keeps.row d6.out (fun g hg t=>t (a6 g hg))) (fun g hg t=>by
    rcases t with t|t
    ·have:=(Y g hg).1
     omega
    ·cases t)
   have bn:zl J (.slice R C S) s.m.runs:=ze c3 bt.out.symm;obtain⟨U,a9⟩:∃ U,U=(j8 s.m).length+1:=⟨_,rfl⟩;have u:(j8 s.m++[Y8]).length=U:=by rw[a9];simp
   have cu:=x8 s.m;have bo:(j8 s.m).length=s.m.settled.length+1:=by unfold j8;simp
   have be:∀(W:World),(∃ w0 ρ0,xo J ρ w0 ρ0/\ja w0 W (fun _=>False))->Calls prog 182 #[.pointer (some ⟨b,0,none⟩)] W fun e w'=>∃ p c,e = .returned (.slice p U c)/\w'.ownsRow W.heap.size 9 1 (.slice p U c) U ((j8 s.m++[Y8]).map jd)/\ja W w' (fun _=>False):=fun W hW=>by
    obtain⟨w0,ρ0,g0,k0⟩:=hW;rw[a9];exact Dt s.m _ (.slice R C S) _ _ _ _ ((E7.keep g0.keeps (fun i t=>(D7.ya i t).1)).same k0) (k0.same (g0.row a0 F).1 id) ((bn.keep g0.keeps (fun _ p n c e t=>t (a6 _ (by rw[e];rfl)))).same k0) (by have:=av.out;omega) c7.out bw.out
   have bg:∀(W:World) (v:Value),ja J W (fun _=>False)->W.ownsRow J.heap.size 9 1 v U ((j8 s.m++[Y8]).map jd)->Calls prog 164 #[.pointer (some ⟨d,0,none⟩),v] W fun e w'=>e = .returned .nilIface/\∃ O,xo J ρ w' O/\DW E B w' O d V k:=fun W v M hr=>by
    refine(F8 (D7.same M) (by have:=HK.out;omega) v (j8 s.m++[Y8]) J.heap.size (by rw[u];exact hr) (fun g hg=>yG (fun l=>by have:=(hr.lt g hg).1;have:=(D7.ya g l).2;omega)) (fun n l=>?_) (by rw[u,a9,bo];have:=av.out;omega) (fun n l=>?_)).mono ?_
    ·rcases ZD.1 l with l|l
     ·exact Yg ok.Je n l
     ·rw[ZE.1 l];decide
    ·rcases ZD.1 l with l|l
     ·obtain⟨c,hc⟩:=ok.there n l
      exact⟨c,hV _ hc⟩
     ·rw[ZE.1 l]
      exact⟨_,hV _ (xi.2 (.inl rfl))⟩
    ·rintro e w' ⟨rfl,O,g,D'⟩
     exact⟨rfl,O,(xo.of M (fun _ _ h=>h.elim)).trans g,D'⟩
   have z:=zA (o:=0) a0;simp at z;have z:J.drew.cell? ⟨b,0,none⟩=some (.pointer (some ⟨d,0,none⟩)):=z;have bu:=jb be;have bv:=jb bg;have c0:=jb a0;have br:=jb ak;have bz:=jb u;have A:ja J J.drew (fun _=>False):=ja.drew _ _;have cz:Hid (U<1099511627776):=jb (by have:=av.out;omega);clear be bg a0 ak hT hO ar u cu bo a9 a5 bh;go_wp2_with fail
   go_cut [6] from 10 (fun s6 wd=>s6 = .nilIface/\∃ O,xo J ρ wd O/\DW E B wd O d V k)
   case first =>
    go_region_law (first
     | (refine jr rfl 182 [.tmp 62] _ rfl gz [.pointer (some ⟨b,0,none⟩)] (by simp[Act.eval,Act.put]) (bu.out _ ⟨_,_,xo.refl _ _,A⟩) ?_
        rintro e w8 ⟨p8,c8,rfl,aj,k8⟩
        have aj:=qg aj A.size
        have z:=k8.cell z id
        have A:=A.tt k8
        refine⟨_,rfl,?_⟩)
     | (refine jr rfl 164 [.tmp 61,.tmp 63] _ rfl oy [.pointer (some ⟨d,0,none⟩),.slice p8 U c8] (by simp[Act.eval,Act.put]) (bv.out _ _ A aj) ?_
        rintro e w9 ⟨rfl,ρ9,g9,D9⟩
        refine⟨_,rfl,?_⟩))
    all_goals
     go_wp2;go_meet
    all_goals exact⟨rfl,_,g9,D9⟩
   case rest =>
    obtain⟨rfl,ρ9,g9,D9⟩:=hcut;obtain⟨ao,e7⟩:=g9.row c0.out F
    have bc:∀(W:World) (v:Value),ja wc W (fun _=>False)->W.ownsRow wc.heap.size 9 1 v U ((j8 s.m++[Y8]).map jd)->Calls prog 177 #[.pointer (some ⟨d,0,none⟩),v] W fun e w'=>e = .returned .nilIface/\∃ O,xo wc ρ9 w' O/\DW E B w' O d s.files (k+V.length):=fun W v M hr=>by
     refine(ob (D9.same M) (by have:=HK.out;omega) v (j8 s.m++[Y8]) wc.heap.size (by rw[bz.out];exact hr) (fun g hg=>yG (fun l=>by have:=(hr.lt g hg).1;have:=(D9.ya g l).2;omega)) (by rw[bz.out];exact cz.out)).mono ?_;rintro e w' ⟨rfl,O,g,D'⟩;exact⟨rfl,O,(xo.of M (fun _ _ h=>h.elim)).trans g,D'.perm (S9 ok D.apart hV)⟩
    have z:=zA (o:=0) ao;simp at z;have z:wc.drew.cell? ⟨b,0,none⟩=some (.pointer (some ⟨d,0,none⟩)):=z;have d5:=jb bc;have ex:=jb ao;have A:ja wc wc.drew (fun _=>False):=ja.drew _ _;clear bc ao bv;go_wp2_with fail
    go_region_law (first
     | (refine jr rfl 182 [.tmp 72] _ rfl gz [.pointer (some ⟨b,0,none⟩)] (by simp[Act.eval,Act.put]) (bu.out _ ⟨_,_,g9,A⟩) ?_
        rintro e eq ⟨cr,d2,rfl,a2,b7⟩
        have a2:=qg a2 A.size
        have z:=b7.cell z id
        have A:=A.tt b7
        refine⟨_,rfl,?_⟩)
     | (refine jr rfl 177 [.tmp 71,.tmp 73] _ rfl uh [.pointer (some ⟨d,0,none⟩),.slice cr U d2] (by simp[Act.eval,Act.put]) (d5.out _ _ A a2) ?_
        rintro e cq ⟨rfl,b5,d1,dc⟩
        refine⟨_,rfl,?_⟩))
    all_goals
     go_wp2;go_ret;have j:=g9.trans d1;obtain⟨c5,aw⟩:=j.row c0.out F;have cv:∀ i,i<w.heap.size->b5 i=ρ i:=fun i hi=>j.role i (by omega);have M:ja w cq (fun i=>ρ i≠ .none\/i=b):=b6.trans j.keeps (fun i _ h=> .inl h);have nv:∀ g,v7.ownBlock=some g->ρ g = .none:=fun g hg=>yG (fun l=>by have:=(D.ya g l).2;have:=q g hg;omega);refine⟨rfl,b5,.slice R C S,v7,⟨E7.keep j.keeps (fun i t=>(D7.ya i t).1),dc,c5,bn.keep j.keeps (fun _ p n c e t=>t (a6 _ (by rw[e];rfl))),qg (j.keeps.row br.out (fun g hg t=>t (nv g hg))) D.size,⟨aw,N⟩,?_,fun g hg=>⟨?_,?_⟩,ok,HF.out⟩,M,cv,fun g hg=>?_,fun p n c e=>(Y p.block (by rw[e];rfl)).1⟩
     ·intro p n c e
      have aa:(Value.slice R C S).ownBlock=some p.block:=by rw[e];rfl
      have h1:=Y _ aa;have h2:=zC bp.out;have h3:=j.keeps.size;have h4:=D.size;refine⟨?_,by omega,by omega,fun h=>?_,by omega⟩
      ·rw[j.role _ (by omega)]
       exact a6 _ aa
      ·have:=q _ h
       omega
     ·rw[j.role g (br.out.lt g hg).2]
      exact nv g hg
     ·have:=q g hg
      omega
     ·have:=q g hg
      omega
end Go.Proofs.YtnipbplghijdmaaGreatDoor

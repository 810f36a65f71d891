/-
  V: InstallR FlushR ReadR CompactR CompactR2.
-/
import Derived.Test.YtnipbplghijdmaaGreatDoorV36
set_option maxRecDepth 100000
set_option maxHeartbeats 8000000
set_option linter.unusedVariables false
set_option linter.unusedSimpArgs false
namespace Go.Proofs.YtnipbplghijdmaaGreatDoor
open RowKit Maps WideShapes Go.Proofs.Tryz
variable {E:Nat->Addr} {B b d k:Nat} {w w':World} {mv rv:Value} {deg:Bool} {m:Rf.Man} {e:Ending}
def jek(E:Nat->Addr)(B:Nat)(w:World)(ρ:Nat->j3)(d b:Nat)(S:jc)(m:Rf.Man)(t:TypeId)(old new:Array Value)(e:Ending)(w':World):Prop :=
 ∃ S' ok ρ',yr m S S' ok/\ja w w' (fun i=>ρ i≠ .none\/i=b)/\(∀ i,i<w.heap.size->ρ' i=ρ i)/\Dk E B w' ρ' d S'/\jb2 E w' e ok/\w'.heap[b]?=some (.cells (if ok=true then new else old) t (0,0))
theorem kt{ρ:Nat->j3}{S:jc}{t:TypeId}{a1 a2 a3 a4 a5 last:Value}{cl:Bool}(D:Dk E B w ρ d S)(F:Fit k S)(H:Env E B w)(m:Rf.Man)(hg:m.Good)(hr:m.runs.length<65536)(rv:Value)(hv:Jw w rv m.runs)(d3:∀ p n c,rv = .slice (some p) n c->ρ p.block = .none/\p.block≠b)(hb:w.heap[b]?=some (.cells (qu (.pointer (some ⟨d,0,none⟩)) a1 a2 a3 a4 a5 last mv deg cl) t (0,0)))(b5:ρ b = .none)(db:B<=b)(hk:k<540000000000) :
 Calls prog 117 #[.pointer (some ⟨b,0,none⟩),ij m rv] w (jek E B w ρ d b S m t (qu (.pointer (some ⟨d,0,none⟩)) a1 a2 a3 a4 a5 last mv deg cl) (qu (.pointer (some ⟨d,0,none⟩)) (jg m.next) (jg m.last) (jg m.log) (jg m.base) rv last mv deg cl)):=by
 obtain⟨A,C,bq,d4⟩:=id hv;have c7:∃ n,rv = .slice A n C:=⟨_,bq⟩;clear bq d4;obtain⟨I,rfl⟩:=c7;have bw:=ql m;have bx:=hg.bounds;have d6:=hg.1;have y:=hg.2.2.1;have ca:=hg.log;have ar:∀ n∈m.settled,n<=9223372036854775807:=fun n hn=>by have:=y n (ZV.2 (.inl hn));omega
 have d5:=xw m;have d8:(jt m).length=m.settled.length+1:=by unfold jt;simp
 have a9:∀ r∈m.runs,r<m.next:=fun r hrr=>(y r (ZV.2 (.inl (by unfold Rf.Man.settled;split<;>simp[hrr])))).2
 have bg:m.base<m.next:=by
  by_cases e:m.base=0
  ·omega
  ·exact(y m.base (ZV.2 (.inl (by unfold Rf.Man.settled;rw[if_neg e];simp)))).2
 have bf:=hg.2.1;obtain⟨f,a0⟩:∃ f,f=w.heap.size:=⟨_,rfl⟩;obtain⟨q,am⟩:∃ q,q=w.alloc (.cells #[jg m.next,jg m.last,jg m.log,jg m.base,.slice A I C] 117):=⟨_,rfl⟩;have j:ja w q (fun _=>False):=by rw[am];exact ja.alloc _ _ _
 have bo:q.heap[f]?=some (.cells #[jg m.next,jg m.last,jg m.log,jg m.base,.slice A I C] 117 (0,0)):=by rw[am,a0];exact je w _
 have bz:=j.same hb id;have e0:=zC hb;have b0:b≠f:=by omega
 have D1:=D.same j;have ch:∀ i,ρ i≠ .none->B<=i/\i<w.heap.size:=fun i hi=>⟨D.yx i hi,D.rep.lt i hi⟩;have bl:ρ f = .none:=yD (fun hn=>by have:=D.rep.lt f hn;omega);have Y:∀ W,ja q W (fun i=>ρ i≠ .none)->Jw W (.slice A I C) m.runs:=fun W kk=>(hv.same j).keep kk (fun _ p n c e t=>t (d3 p n c e).1);have Z:∀ W,ja q W (fun i=>ρ i≠ .none)->Env E B W:=fun W kk=>(H.same j).keep kk (fun i t=>D.yx i t)
 have az:∀ W,ja q W (fun _=>False)->Calls prog 165 #[ij m (.slice A I C)] W fun e w'=>∃ p c,e = .returned (.slice p (jt m).length c)/\w'.ownsRow q.heap.size 9 1 (.slice p (jt m).length c) (jt m).length ((jt m).map jf)/\ja W w' (fun _=>False):=fun W kk=>by
  have al:ja q W (fun i=>ρ i≠ .none):=kk.up;refine(An m (.slice A I C) (Z W al) (Y W al) (by omega) ar (by omega)).mono ?_;rintro e w' ⟨p,c,rfl,h,k'⟩;exact⟨p,c,rfl,q7 h kk.size,k'⟩
 have a8:∀(W:World) (v:Value),ja q W (fun _=>False)->W.ownsRow q.heap.size 9 1 v (jt m).length ((jt m).map jf)->Calls prog 164 #[.pointer (some ⟨d,0,none⟩),v] W fun e w'=>∃ v3,e = .returned v3/\Xm E B q ρ d (jc.xu (jt m) S) (.returned v3) w':=fun W v kk hrow=>by
  refine(Ap (D1.same kk) v (jt m) q.heap.size hrow (fun g hg=>yD (fun hn=>by have:=(hrow.lt g hg).1;have:=D1.rep.lt g hn;omega)) (Y6 hg) (by omega) (by have:=F.safe;omega)).mono ?_;intro e w' h;have h':=h.before (xy.of kk (fun _ _ h=>h.elim));obtain⟨ρ',g,D',⟨_,N⟩|⟨_,v3,N,_⟩⟩:=id h'
  ·exact⟨_,N,N▸h'⟩
  ·exact⟨_,N,N▸h'⟩
 have b3:=jb az;have aa:=jb a8;have ao:=jb bz;have x:=jb bo;have dh:=jb a0;have cc:=jb Y;have e2:=jb Z;have di:=jb bx;have c6:=jb bw;have e4:=jb b0;have dg:Hid ((m.next:Int)<=9223372036854775807/\(m.last:Int)<=9223372036854775807/\(m.log:Int)<=9223372036854775807/\(m.base:Int)<=9223372036854775807/\∀ r∈m.runs,(r:Int)<=9223372036854775807):=(show _/\_ from⟨by omega,by omega,by omega,by omega,fun r hrr=>by have:=a9 r hrr;omega⟩);have HR:=jb hr;have HK:=jb hk;obtain⟨nF,br⟩:∃ nF,nF=(jt m).length:=⟨_,rfl⟩;rw[<-br] at b3 aa;clear az a8 bz bo Y Z bx bw d6 y ca ar d5 d8 a9 bg bf hb hr hk b0 a0 br;have L:=zA (o:=0) ao.out;have x0:=zA (o:=0) x.out;have x1:=zA (o:=1) x.out;have x2:=zA (o:=2) x.out;have x3:=zA (o:=3) x.out;have x4:=zA (o:=4) x.out;simp at L x0 x1 x2 x3 x4;have L:q.drew.cell? ⟨b,0,none⟩=some (.pointer (some ⟨d,0,none⟩)):=L;have x0:q.drew.cell? ⟨f,0,none⟩=some (jg m.next):=x0;have x1:q.drew.cell? ⟨f,1,none⟩=some (jg m.last):=x1;have x2:q.drew.cell? ⟨f,2,none⟩=some (jg m.log):=x2;have x3:q.drew.cell? ⟨f,3,none⟩=some (jg m.base):=x3;have x4:q.drew.cell? ⟨f,4,none⟩=some (.slice A I C):=x4;have kc:ja q q.drew (fun _=>False):=ja.drew _ _;go_enter func117,ntmps117;go_wp2_with fail;rw[<-am,<-dh.out];clear am
 go_region_law (first
  | (refine jz rfl 165 [.tmp 13] _ rfl Ij [ij m (.slice A I C)] (by simp[Act.eval,Act.put]) (b3.out _ kc) ?_
     rintro e w2 ⟨pf,cf,rfl,b6,k2⟩
     have L:=k2.cell L id
     have kc:=kc.tt k2
     refine⟨_,rfl,?_⟩)
  | (refine jz rfl 164 [.tmp 12,.tmp 14] _ rfl rq [.pointer (some ⟨d,0,none⟩),.slice pf nF cf] (by simp[Act.eval,Act.put]) (aa.out _ _ kc b6) ?_
     rintro e z ⟨v3,rfl,da⟩
     refine⟨_,rfl,?_⟩))
 all_goals
  obtain⟨ρ3,J,D3,be⟩:=da;have F3:=F.xu (jt m);rcases be with⟨ak,e3⟩|⟨ak,eh,e3,bv⟩
  rotate_left
  ·cases e3
   obtain⟨t3,a3,rfl⟩:=bv.shape;have T:=J.keeps.same ao.out (fun t=>t b5);go_wp2;go_ret;exact⟨_,_,ρ3,.inl ⟨Prod.ext rfl ak,rfl⟩,((j.up).trans J.keeps (fun i _ h=> .inl h)),fun i hi=>J.role i (ZA hi j.size),D3,.inr ⟨rfl,_,rfl,bv⟩,T⟩
  cases e3;generalize hS3:(jc.xu (jt m) S).1=S3 at D3 F3;have r3:Fn (jc.xu (jt m)) S S3 true:=Prod.ext hS3 ak;clear hS3 ak;have an:=jb r3;clear r3;have T:=J.keeps.same ao.out (fun t=>t b5);have u:=J.keeps.same x.out (fun t=>t bl);have X:ρ3 b = .none:=(J.role b (zC ao.out)).trans b5;have aw:ρ3 f = .none:=(J.role f (zC x.out)).trans bl
  have ay:∀ W,ja z W (fun _=>False)->Calls prog 166 #[ij m (.slice A I C)] W fun e w'=>∃ p c,e = .returned (.slice p m.bytes.length c)/\w'.ownsRow z.heap.size 5 1 (.slice p m.bytes.length c) m.bytes.length (m.bytes.map j5)/\ja W w' (fun _=>False):=fun W kk=>by
   have al:ja q W (fun i=>ρ i≠ .none):=J.keeps.trans kk (fun _ _ h=>h.elim);refine(Ng W m (.slice A I C) (cc.out W al) (by have:=HR.out;omega) di.out dg.out).mono ?_;rintro e w' ⟨p,c,rfl,h,k'⟩;exact⟨p,c,rfl,q7 h kk.size,k'⟩
  have ax:∀(W:World) (v:Value),ja z W (fun _=>False)->W.ownsRow z.heap.size 5 1 v m.bytes.length (m.bytes.map j5)->Calls prog 114 #[.pointer (some ⟨d,0,none⟩),jf jq,v] W fun e w'=>∃ v5,e = .returned v5/\b8 E B z ρ3 d S3 (Xk jq m.bytes) (.returned v5) w':=fun W v kk hrow=>by
   refine(tj (D3.same kk) F3 jq (by decide) v m.bytes (x7 hrow) (Nb (fun i hi=>D3.rep.lt i hi) hrow) (by have:=HK.out;have:=c6.out;have:=HR.out;have:jq.length=12:=rfl;omega)).mono ?_;intro e w' h;have h':=h.before (xy.of kk (fun _ _ h=>h.elim));obtain⟨S5,d2,r5,ρ',g,D',⟨_,N⟩|⟨_,v3,N,_⟩⟩:=id h'
   ·exact⟨_,N,N▸h'⟩
   ·exact⟨_,N,N▸h'⟩
  have b2:=jb ay;have b1:=jb ax;have L:=zA (o:=0) T;have x0:=zA (o:=0) u;have x1:=zA (o:=1) u;have x2:=zA (o:=2) u;have x3:=zA (o:=3) u;have x4:=zA (o:=4) u;simp at L x0 x1 x2 x3 x4;have L:z.drew.cell? ⟨b,0,none⟩=some (.pointer (some ⟨d,0,none⟩)):=L;have x0:z.drew.cell? ⟨f,0,none⟩=some (jg m.next):=x0;have x1:z.drew.cell? ⟨f,1,none⟩=some (jg m.last):=x1;have x2:z.drew.cell? ⟨f,2,none⟩=some (jg m.log):=x2;have x3:z.drew.cell? ⟨f,3,none⟩=some (jg m.base):=x3;have x4:z.drew.cell? ⟨f,4,none⟩=some (.slice A I C):=x4;have kc:ja z z.drew (fun _=>False):=ja.drew _ _;have bc:=jb T;have c4:=jb u;obtain⟨nB,b7⟩:∃ nB,nB=m.bytes.length:=⟨_,rfl⟩;rw[<-b7] at b2 b1;have ei:=jb b7;clear ay ax T u b7;go_wp2_with fail
  go_region_law (first
   | (refine jz rfl 166 [.tmp 23] _ rfl Ii [ij m (.slice A I C)] (by simp[Act.eval,Act.put]) (b2.out _ kc) ?_
      rintro e w4 ⟨d1,dc,rfl,b6,k4⟩
      have L:=k4.cell L id
      have kc:=kc.tt k4
      refine⟨_,rfl,?_⟩)
   | (refine jz rfl 114 [.tmp 22,.const (jf jq),.tmp 24] _ rfl dm [.pointer (some ⟨d,0,none⟩),jf jq,.slice d1 nB dc] (by simp[Act.eval,Act.put]) (b1.out _ _ kc b6) ?_
      rintro e w5 ⟨v5,rfl,d9⟩
      refine⟨_,rfl,?_⟩))
 all_goals
  obtain⟨S5,d2,r5,ρ5,g5,D5,bd⟩:=d9;rcases bd with⟨s,e5⟩|⟨s,eg,e5,bu⟩
  rotate_left
  ·cases e5
   obtain⟨t5,a5,rfl⟩:=bu.shape;have R:=g5.keeps.same bc.out (fun t=>t X);have M:=J.trans g5;simp only at s;subst s;go_wp2;go_ret;exact⟨_,_,ρ5,.inr ⟨_,an.out,.inl ⟨r5,rfl⟩⟩,((j.up).trans M.keeps (fun i _ h=> .inl h)),fun i hi=>M.role i (ZA hi j.size),D5,.inr ⟨rfl,_,rfl,bu⟩,R⟩
  cases e5;simp only at s;subst s;have F5:=F3.Ef (by decide) r5;have b9:=jb r5;clear r5;have R:=g5.keeps.same bc.out (fun t=>t X);have bn:=g5.keeps.same c4.out (fun t=>t aw);have V:ρ5 b = .none:=(g5.role b (zC bc.out)).trans X;have av:ρ5 f = .none:=(g5.role f (zC c4.out)).trans aw;have c2:=zA (o:=0) R;simp at c2;have bp:=rm D5 jq (by decide);have de:=jb bp;have bb:=jb R;have c3:=jb bn;clear bp R bn L x0 x1 x2 x3 x4;go_wp2_with fail;refine de.out.mono ?_;rintro e w6 ⟨ρ6,g6,D6,⟨aj,rfl⟩|⟨aj,v6,rfl,bt⟩⟩
  rotate_left
  ·obtain⟨t6,a6,rfl⟩:=bt.shape
   have O:=g6.keeps.same bb.out (fun t=>t V);have M:=(J.trans g5).trans g6;go_wp2;go_ret;exact⟨_,_,ρ6,.inr ⟨_,an.out,.inr ⟨_,b9.out,.inl ⟨Prod.ext rfl aj,rfl⟩⟩⟩,((j.up).trans M.keeps (fun i _ h=> .inl h)),fun i hi=>M.role i (ZA hi j.size),D6,.inr ⟨rfl,_,rfl,bt⟩,O⟩
  have F6:=F5.qm jq;generalize hS6:(S5.qm jq).1=S6 at D6 F6;have r6:Fn (fun S=>S.qm jq) S5 S6 true:=Prod.ext hS6 aj;clear hS6 aj;have c5:=jb r6;clear r6;have O:=g6.keeps.same bb.out (fun t=>t V);have bm:=g6.keeps.same c3.out (fun t=>t av);have U:ρ6 b = .none:=(g6.role b (zC bb.out)).trans V;have c9:ρ6 f = .none:=(g6.role f (zC c3.out)).trans av;have c1:=zA (o:=0) O;simp at c1;have d7:k+1+jq.length+m.bytes.length<549755813000:=by have:=HK.out;have:=c6.out;have:=HR.out;have:jq.length=12:=rfl;omega
  have au:=Eg D6 (F6.small (by omega)) jq ji (by decide) (by decide) (by have:=F6.safe;omega);have cb:=jb au;have ba:=jb O;have dd:=jb bm;clear au O bm c2 d7;go_wp2_with fail;refine cb.out.mono ?_;rintro e w7 ⟨ρ7,g7,D7,⟨ai,rfl⟩|⟨ai,v7,rfl,bs⟩⟩
  rotate_left
  ·obtain⟨t7,a7,rfl⟩:=bs.shape
   have l:=g7.keeps.same ba.out (fun t=>t U);have M:=((J.trans g5).trans g6).trans g7;go_wp2;go_ret;exact⟨_,_,ρ7,.inr ⟨_,an.out,.inr ⟨_,b9.out,.inr ⟨_,c5.out,.inl ⟨Prod.ext rfl ai,rfl⟩⟩⟩⟩,((j.up).trans M.keeps (fun i _ h=> .inl h)),fun i hi=>M.role i (ZA hi j.size),D7,.inr ⟨rfl,_,rfl,bs⟩,l⟩
  have r7:Fn (fun S=>xq (S.qq jq ji)) S6 (xq (S6.qq jq ji)).1 true:=Prod.ext rfl ai;generalize (xq (S6.qq jq ji)).1=S7 at D7 r7;have df:=jb r7;clear r7 ai;have l:=g7.keeps.same ba.out (fun t=>t U);have G:=g7.keeps.same dd.out (fun t=>t c9);have c8:ρ7 b = .none:=(g7.role b (zC ba.out)).trans U;have x0:=zA (o:=0) G;have x1:=zA (o:=1) G;have x2:=zA (o:=2) G;have x3:=zA (o:=3) G;have x4:=zA (o:=4) G;have y1:=zA (o:=1) l;have y2:=zA (o:=2) l;have y3:=zA (o:=3) l;have y4:=zA (o:=4) l;have y5:=zA (o:=5) l;have f1:=zB (o:=1) l;have f2:=zB (o:=2) l;have f3:=zB (o:=3) l;have f4:=zB (o:=4) l;have f5:=zB (o:=5) l;simp at x0 x1 x2 x3 x4 y1 y2 y3 y4 y5;have dj:=jb l;have M:xy q ρ w7 ρ7:=((J.trans g5).trans g6).trans g7;clear l G c1;go_wp2;go_ret;have ks:=((((ja.setCell w7 ⟨b,1,none⟩ (jg m.next)).set (p:=⟨b,2,none⟩) rfl (jg m.last)).set (p:=⟨b,3,none⟩) rfl (jg m.log)).set (p:=⟨b,4,none⟩) rfl (jg m.base)).set (p:=⟨b,5,none⟩) rfl (.slice A I C);refine⟨S7,true,ρ7,.inr ⟨_,an.out,.inr ⟨_,b9.out,.inr ⟨_,c5.out,.inr ⟨_,df.out,rfl,rfl⟩⟩⟩⟩,((j.up).trans M.keeps (fun i _ h=> .inl h)).trans ks (fun i _ e=> .inr e),fun i hi=>M.role i (ZA hi j.size),?_,.inl ⟨rfl,rfl⟩,?_⟩
  ·exact⟨D7.rep.keep ks (fun i e _=>by rw[e];exact c8),D7.z8.keep ks (fun i e=>by rw[e];exact db),D7.yx,ZR D7.size ks.size⟩
  ·exact(jd (jd (jd (jd (jd dj.out _) _) _) _) _).trans rfl
theorem R8{W:World}{ρ:Nat->j3}{S:jc}(D:Dk E B W ρ d S)(v:Value)(l:List Rf.Ch)(b:Chs W v l)(g:l.length<1048576)(j:∀ p n c,v = .slice (some p) n c->ρ p.block = .none/\p.block<W.heap.size) :
 Calls prog 111 #[Bq v,jf []] W fun e w'=>∃ v',e = .returned (.tuple #[v',.nilIface])/\w'.ownsRow W.heap.size 88 3 v' l.length (jj l)/\xy W ρ w' ρ/\Dk E B w' ρ d S:=by
 refine(vt (Needs:=Wm B v) (Start:=fun W'=>Chs W' v l/\Dk E B W' ρ d S) fg (fun n=>eu v l g) (fun i hi=>?_) (fun W' k'=>⟨b.same k',D.same k'⟩) D.rep.lt D.size [] g).mono ?_
 ·rcases hi with h|⟨p,n,c,e,rfl⟩
  ·have:=D.size
   omega
  ·exact(j p n c e).2
 ·rintro e w' ⟨v',q,rfl,k,o,⟨rfl,f,_⟩|⟨bad,m,_⟩⟩
  ·rw[jb6] at f
   exact⟨v',rfl,f,⟨k,fun _ _=>rfl⟩,o⟩
  ·cases m
theorem StM.gone{wc:World}{ρ f:Nat->j3}{k':Nat}{S S':jc}{last:Nat}{ml:List Rf.Ch}(h:StM E B w ρ d b S k m last ml deg rv mv)(c:ja w wc (fun _=>False))(g:xy wc ρ w' f)(D:Dk E B w' f d S')(F:Fit k' S'):yz E B w ρ d b rv mv S' k' m last ml deg w' :=
 h.next ((c.up).trans g.keeps (fun i _ t=> .inl t)) (fun i hi=>g.role i (ZA hi c.size)) D F (g.keeps.same (c.same h.row id) (fun t=>t h.nb.1))
theorem Xm.ret{ρ:Nat->j3}{F:jc×Bool}(h:Xm E B w ρ d F e w'):∃ v,e = .returned v/\Xm E B w ρ d F (.returned v) w':=by
 obtain⟨c,g,i,⟨_,b⟩|⟨_,f,b,_⟩⟩:=id h
 ·exact⟨_,b,b▸h⟩
 ·exact⟨_,b,b▸h⟩
theorem b8.ret{ρ:Nat->j3}{S:jc}{R:DStep}(h:b8 E B w ρ d S R e w'):∃ v,e = .returned v/\b8 E B w ρ d S R (.returned v) w':=by
 obtain⟨S',b,r,h⟩:=h;obtain⟨v,f,c⟩:=h.ret;exact⟨v,f,S',b,r,c⟩
def rk(m:Rf.Man)(last:Nat)(ml:List Rf.Ch):DStep:=na [Fn (fun S=>S.qm (jh m.log)),Xk (jo m.next) (Rf.j6 ml),Xk (jh (m.next+1)) [],yr (m.yh last)]
def Yz(E:Nat->Addr)(B:Nat)(w:World)(ρ:Nat->j3)(d b:Nat)(rv mv:Value)(S:jc)(k:Nat)(m:Rf.Man)(last:Nat)(ml:List Rf.Ch)(e:Ending)(w':World):Prop :=
 ∃ S1 ok1,rk m last ml S S1 ok1 /\
  ((ok1=false/\(∃ v,e = .returned v/\Err E w' v 1)/\yz E B w ρ d b rv mv S1 (k+70000) m last ml false w') \/
   (ok1=true/\jb2 E w' e (jc.jr [jh m.log] S1).2/\yz E B w ρ d b rv mv (jc.jr [jh m.log] S1).1 (k+70000) (m.yh last) last [] false w'))
theorem jfd{ρ:Nat->j3}{SD:jc}{last:Nat}{f:List Rf.Ch}(S:StM E B w ρ d b SD k m last f false rv mv)(hk:k<530000000000)(bu:Rf.sn f)(dc:last<=1000000000)(hn:m.next+2<=2000000000)(hr:m.runs.length+1<60000)(ey:(Rf.j6 f).length<=20000)(f7:(m.yh last).bytes.length<=20000) :
 Calls prog 68 #[.pointer (some ⟨b,0,none⟩)] w (Yz E B w ρ d b rv mv SD k m last f):=by
 obtain⟨pr,cr,ev,hl⟩:=id S.runs;have g4:∃ n,rv = .slice pr n cr:=⟨_,ev⟩;clear ev hl;obtain⟨q,rfl⟩:=g4
 have bd:Hid (q=m.runs.length):=by
  obtain⟨p',c',e,_⟩:=S.runs;cases e;rfl
 obtain⟨j0,hj,hf,he,hd⟩:=info_parts Tryz.Ey;obtain⟨J,d2⟩:∃ J,J=m.next+1:=⟨_,rfl⟩;obtain⟨n2,d1⟩:∃ n2,n2=J+1:=⟨_,rfl⟩;have V:=jb d2;have fs:=jb d1;clear d2 d1;have r:=S.row;have c1:=zA (o:=1) r;have c2:=zA (o:=2) r;have c3:=zA (o:=3) r;have c4:=zA (o:=4) r;have c5:=zA (o:=5) r;simp at c1 c2 c3 c4 c5;have a1:∀ o1,(w.alloc o1).cell? ⟨b,1,none⟩=some (jg m.next):=fun o1=>(ja.alloc w o1 (fun _=>False)).cell c1 id;have b1:∀ o1 o2,((w.alloc o1).alloc o2).cell? ⟨b,1,none⟩=some (jg m.next):=fun o1 o2=>((ja.alloc w o1 (fun _=>False)).more o2).cell c1 id;have a2:∀ o1,(w.alloc o1).cell? ⟨b,2,none⟩=some (jg m.last):=fun o1=>(ja.alloc w o1 (fun _=>False)).cell c2 id;have b2:∀ o1 o2,((w.alloc o1).alloc o2).cell? ⟨b,2,none⟩=some (jg m.last):=fun o1 o2=>((ja.alloc w o1 (fun _=>False)).more o2).cell c2 id;have a3:∀ o1,(w.alloc o1).cell? ⟨b,3,none⟩=some (jg m.log):=fun o1=>(ja.alloc w o1 (fun _=>False)).cell c3 id;have b3:∀ o1 o2,((w.alloc o1).alloc o2).cell? ⟨b,3,none⟩=some (jg m.log):=fun o1 o2=>((ja.alloc w o1 (fun _=>False)).more o2).cell c3 id;have a4:∀ o1,(w.alloc o1).cell? ⟨b,4,none⟩=some (jg m.base):=fun o1=>(ja.alloc w o1 (fun _=>False)).cell c4 id;have b4:∀ o1 o2,((w.alloc o1).alloc o2).cell? ⟨b,4,none⟩=some (jg m.base):=fun o1 o2=>((ja.alloc w o1 (fun _=>False)).more o2).cell c4 id;have a5:∀ o1,(w.alloc o1).cell? ⟨b,5,none⟩=some (.slice pr q cr):=fun o1=>(ja.alloc w o1 (fun _=>False)).cell c5 id;have b5:∀ o1 o2,((w.alloc o1).alloc o2).cell? ⟨b,5,none⟩=some (.slice pr q cr):=fun o1 o2=>((ja.alloc w o1 (fun _=>False)).more o2).cell c5 id;have HN:=jb hn;have HR:=jb hr;have HS:=jb ey;have ec:=jb f7;have ds:=jb bu;have dv:=jb dc;have HK:=jb hk;have gg:=jb r;clear r hn hr ey f7 bu dc hk;go_enter func68,ntmps68;go_wp2_with fail
 go_cut [3,4] from 12 (fun s3 s4 wc=>∃(x y:Nat),s3 = .pointer (some ⟨x,0,none⟩)/\s4 = .pointer (some ⟨y,0,none⟩)/\x≠y/\w.heap.size<=x/\w.heap.size<=y/\wc.heap[x]?=some (.cells #[jg m.next,jg m.last,jg m.log,jg m.base,.slice pr q cr] 117 (0,0)) /\
  wc.heap[y]?=some (.cells #[jg m.next,jg m.last,jg m.log,jg m.base,.slice pr q cr] 117 (0,0))/\ja w wc (fun _=>False))
 case first =>
  go_region
  all_goals
   go_wp2;go_meet
  case rel =>
   obtain⟨h1,h2,h3⟩:=de w (.cells #[jg m.next,jg m.last,jg m.log,jg m.base,.slice pr q cr] 117)
   first
    | exact⟨_,_,rfl,rfl,by omega,by omega,by omega,h1,h2,h3⟩
    | exact⟨_,_,rfl,rfl,by omega,by omega,by omega,h2,h1,h3⟩
  case rel =>
   obtain⟨h1,h2,h3⟩:=de w (.cells #[jg m.next,jg m.last,jg m.log,jg m.base,.slice pr q cr] 117)
   first
    | exact⟨_,_,rfl,rfl,by omega,by omega,by omega,h1,h2,h3⟩
    | exact⟨_,_,rfl,rfl,by omega,by omega,by omega,h2,h1,h3⟩
 case rest =>
  obtain⟨x,y,rfl,rfl,b0,hx,hy,hX,hY,kc⟩:=hcut;clear a1 a2 a3 a4 a5 b1 b2 b3 b4 b5 c1 c2 c3 c4 c5;have HX:=jb hX;have f3:m.next<2000000000:=by have:=HN.out;omega
  have bj:=Z8 hY f3;rw[<-V.out] at bj;have gf:=jb bj;clear bj hX hY f3;go_wp2_with fail;refine gf.out.mono ?_;rintro e w2 ⟨rfl,ff,k2⟩;have hc:ja w w2 (fun _=>False):=kc.trans k2 (fun i hi e=>by omega);have i6:=jb (k2.same HX.out b0);have f2:J<2000000000:=by have:=HN.out;have:=V.out;omega
  have bi:=Z8 ff f2;rw[<-fs.out] at bi;have ge:=jb bi;clear bi ff f2;go_wp2_with fail;refine ge.out.mono ?_;rintro e w3 ⟨rfl,ck,k3⟩;have hb:ja w w3 (fun _=>False):=hc.trans k3 (fun i hi e=>by omega);have i5:=jb (k3.same i6.out b0);have y2:=zA (o:=2) ck;have g2:=zB (o:=2) ck;simp at y2;have i2:=jb ck;clear ck;go_wp2_with fail;obtain⟨s,b6⟩:∃ s,s=w3.setCell ⟨y,2,none⟩ (jg J):=⟨_,rfl⟩;rw[<-b6];have N:ja w s (fun _=>False):=by rw[b6];exact hb.Q8 hy _
  have e4:s.heap[y]?=some (.cells #[jg n2,jg m.last,jg J,jg m.base,.slice pr q cr] 117 (0,0)):=by rw[b6];exact(jd i2.out _).trans rfl
  have ea:Hid (s.heap[x]?=some (.cells #[jg m.next,jg m.last,jg m.log,jg m.base,.slice pr q cr] 117 (0,0))):=by rw[b6];exact(ja.setCell w3 ⟨y,2,none⟩ _).same i5.out b0
  have e9:=jb e4;have bx:=jb (N.same gg.out id);have l6:=zA (o:=6) bx.out;have y4:=zA (o:=4) e4;simp at l6 y4;have ha:∀ o1,(s.alloc o1).cell? ⟨b,6,none⟩=some (jg last):=fun o1=>(ja.alloc s o1 (fun _=>False)).cell l6 id;have gz:∀ o1,(s.alloc o1).cell? ⟨y,4,none⟩=some (.slice pr q cr):=fun o1=>(ja.alloc s o1 (fun _=>False)).cell y4 id;have a0:ja s (s.alloc (.cells #[jg m.next] 3)).drew (fun _=>False):=(ja.alloc s _ _).draw;have d6:(s.alloc (.cells #[jg m.next] 3)).drew.ownsRow w.heap.size 3 1 (.slice (some ⟨s.heap.size,0,none⟩) 1 1) 1 [jg m.next]:=(ja.drew _ (fun _=>False)).row (World.ownsRow_lit (base:=w.heap.size) (e:=3) (size:=1) s #[jg m.next] 1 N.size (by unfold maxLen;omega) rfl) (fun _ _ h=>h)
  have cy:Src prog 1 39 (.slice pr q cr) q (m.runs.map jg) (s.alloc (.cells #[jg m.next] 3)).drew:=by
   have:=(S.runs.same (N.tt a0)).src;rw[<-bd.out] at this;exact this
  have du:=jb d6;have dq:=jb cy;have fj:Hid (1+q<=maxLen):=jb (by have:=HR.out;have:=bd.out;unfold maxLen;omega);have dd:Hid ((1+q)*8<=140737488355328):=jb (by have:=HR.out;have:=bd.out;omega);have fc:w.heap.size<=(s.alloc (.cells #[jg m.next] 3)).drew.heap.size:=ZR N.size a0.size;have fh:=a0.same ea.out id;have fe:=a0.same e9.out id;have i4:=jb fh;have i1:=jb fe;have g8:x<s.heap.size:=zC ea.out;have g7:y<s.heap.size:=zC e9.out;have d4:b<s.heap.size:=zC bx.out;clear b6 d6 cy e4 fh fe y2 g2
  go_cut [] from 12 (fun wc=>∃(p:Option Addr) (c:Nat),wc.heap[y]?=some (.cells #[jg n2,jg last,jg J,jg m.base,.slice p (1+q) c] 117 (0,0))/\wc.ownsRow w.heap.size 3 1 (.slice p (1+q) c) (1+q) ((m.next::m.runs).map jg) /\
   wc.heap[x]?=some (.cells #[jg m.next,jg m.last,jg m.log,jg m.base,.slice pr q cr] 117 (0,0))/\(∀ g,(Value.slice p (1+q) c).ownBlock=some g->s.heap.size<=g)/\ja w wc (fun _=>False))
  case first =>
   go_region_law (
    refine Yd rfl (.tmp 40) (.tmp 42) 39 39 rfl w.heap.size 3 j0 (.int .i64 0) 1 8 underlying39 hj hf he hd rfl ZX (.slice (some ⟨s.heap.size,0,none⟩) 1 1) 1 [jg m.next] (by simp[Act.eval,Act.put]) du.out (.slice pr q cr) q (m.runs.map jg) (by simp[Act.eval,Act.put]) dq.out fj.out dd.out fc ?_
    intro p6 c6 w6 f0 hs f9
    have k6:ja s w6 (fun i=>s.heap.size<=i):=(a0.up).trans (ja.grown hs) (fun i _ e=>by cases e;exact ZQ _)
    have ar:=k6.same e9.out (Nat.not_le.2 g7)
    have fp:=jb (k6.same ea.out (Nat.not_le.2 g8))
    have l2:=k6.cell l6 (Nat.not_le.2 d4)
    have z1:=zA (o:=1) ar
    have z4:=zA (o:=4) ar
    have q1:=zB (o:=1) ar
    have q4:=zB (o:=4) ar
    simp at z1 z4
    have fo:=jb ar
    have fr:=jb f0
    have ic:=jb f9
    clear ar f0 f9)
   all_goals
    go_wp2;go_meet
   all_goals
    have O:∀ g,(Value.slice p6 (1+q) c6).ownBlock=some g->s.heap.size<=g:=fun g hg=>by
     rcases ic.out with h|h
     ·rw[h] at hg
      cases hg;exact ZQ _
     ·rw[h] at hg
      cases hg;exact a0.size
    have ep:ja w w6 (fun _=>False):=N.trans k6 (fun i hi h=>by have:=N.size;omega)
    first
     | exact⟨p6,c6,(jd (jd fo.out _) _).trans rfl,((ja.setCell w6 ⟨y,1,none⟩ _).set (p:=⟨y,4,none⟩) rfl _).row fr.out (fun g hg e=>by have:=O g hg;have e':g=y:=e;omega),((ja.setCell w6 ⟨y,1,none⟩ _).set (p:=⟨y,4,none⟩) rfl _).same fp.out b0,O,(ep.Q8 (p:=⟨y,1,none⟩) hy _).Q8 (p:=⟨y,4,none⟩) hy _⟩
     | exact⟨p6,c6,(jd (jd fo.out _) _).trans rfl,((ja.setCell w6 ⟨y,4,none⟩ _).set (p:=⟨y,1,none⟩) rfl _).row fr.out (fun g hg e=>by have:=O g hg;have e':g=y:=e;omega),((ja.setCell w6 ⟨y,4,none⟩ _).set (p:=⟨y,1,none⟩) rfl _).same fp.out b0,O,(ep.Q8 (p:=⟨y,4,none⟩) hy _).Q8 (p:=⟨y,1,none⟩) hy _⟩
  case rest =>
   obtain⟨p7,c7,fd,ez,fg,a9,z⟩:=hcut;clear l6 y4 ha gz a0 du dq fj dd fc i4 i1;have bs:=S.few;have M:=S.same z;have a8:=M.row;have db:=Je M.mem;have e3:=Sa b 7 _ 121 mv f [] wc a8 rfl db M.rising (by omega);rw[jbu,List.drop_zero] at e3;have ig:=jb e3;have fn:=jb fd;have i3:=jb fg;have cn:=jb ez;have R:=jb a8;have h9:ρ x = .none:=yD (fun hn=>by have:=S.xl.rep.lt x hn;omega);have eo:ρ y = .none:=yD (fun hn=>by have:=S.xl.rep.lt y hn;omega);have ao:∀ g,(Value.slice p7 (1+q) c7).ownBlock=some g->ρ g = .none/\s.heap.size<=g:=fun g hg=>⟨yD (fun hn=>by have:=S.xl.rep.lt g hn;have:=a9 g hg;have:=N.size;omega),a9 g hg⟩;clear e3 fd fg ez a8 db a9;go_wp2_with fail;refine ig.out.mono ?_;rintro e w8 ⟨v8,rfl,fb,k8,f1⟩;have D8:=M.xl.same k8
   have fa:=R8 D8 v8 f fb (by omega) (fun p n c e=>by
    obtain⟨i0,n',c',e1,e2⟩:=f1 p n c e
    have U:mv.ownBlock=some i0.block:=by rw[e1];rfl
    rw[<-e2]
    exact⟨(M.nm _ U).1,ZA (M.mem.lt _ U).2 k8.size⟩)
   have ie:=jb fa;clear fa fb f1;go_wp2_with fail;refine ie.out.mono ?_;rintro e w9 ⟨v9,rfl,ci,g9,D9⟩;have cm:xy wc ρ w9 ρ:=(xy.of k8 (fun _ _ h=>h.elim)).trans g9;have br:=ds.out.some
   obtain⟨g0,av,hh⟩:∃ g0 av,v9 = .slice (some ⟨g0,0,none⟩) f.length av:=by
    rcases ci.2 with⟨_,h0⟩|⟨g,cap,l7,e,_⟩
    ·exact(br (ZK h0)).elim
    ·exact⟨g,cap,e⟩
   subst hh;have fi:=M.env.keep cm.keeps (fun i t=>M.xl.yx i t);obtain⟨bt,l4⟩:=cm.row R.out M.nb.1;obtain⟨lo,e0⟩:∃ lo,lo=m.log:=⟨_,rfl⟩;have ga:=S.yy.log;have hp:=S.yy.1;have aa:lo<=9223372036854775807:=by omega
   have eu:=oq D9 fi (lo:=lo) aa (by rw[e0];exact bt);have i7:=jb eu;have X:=jb e0;have fq:=jb ci;have bz:=jb aa;have je:wc.heap.size<=g0:=ZR k8.size (ci.lt g0 rfl).1;have f5:f.length<60000:=bs;obtain⟨ml,bm⟩:∃ ml,ml=f.length:=⟨_,rfl⟩;rw[<-bm];have ia:=jb bm;have lc:=jb f5;clear eu e0 ci ga hp aa bt fi bm f5 bs br;go_wp2_with fail;refine i7.out.mono ?_;rintro e u ⟨cc,e5,cp,⟨ae,rfl⟩|⟨ae,kw,rfl,da⟩⟩
   rotate_left
   ·obtain⟨l0,lb,rfl⟩:=da.shape
    have gA:xy wc ρ u cc:=cm.trans e5;go_wp2;go_ret;exact⟨_,false,.inl ⟨Prod.ext rfl (by rw[<-X.out];exact ae),rfl⟩,.inl ⟨rfl,⟨_,rfl,da⟩,S.gone z gA (by rw[<-X.out];exact cp) ((S.fit.qm _).mono (by omega))⟩⟩
   have gA:xy wc ρ u cc:=cm.trans e5;have co:=S.fit.qm (jh lo);have e8:Fn (fun S=>S.qm (jh lo)) SD (SD.qm (jh lo)).1 true:=Prod.ext rfl ae;generalize (SD.qm (jh lo)).1=SD10 at cp co e8;have ai:=jb e8;clear e8 ae;obtain⟨al,jj⟩:=gA.row R.out M.nb.1;have G:=zA (o:=0) al;simp at G;have G:u.drew.cell? ⟨b,0,none⟩=some (.pointer (some ⟨d,0,none⟩)):=G;obtain⟨RB,cl⟩:∃ RB,RB=Rf.j6 f:=⟨_,rfl⟩;have ag:=ds.out;have dp:=M.env.keep gA.keeps (fun i t=>M.xl.yx i t)
   have Z:=e5.keeps.row fq.out (fun g hg t=>t (yD (fun hn=>by
    have h1:=D8.rep.lt g hn
    have h2:=(fq.out.lt g hg).1
    omega)))
   have ew:∀ W,ja u W (fun _=>False)->Calls prog 115 #[j7 m.next] W fun e w'=>e = .returned (jf (jo m.next))/\ja W w' (fun _=>False):=fun W L=>fy m.next (by have:=HN.out;omega) (dp.same L)
   have f6:∀ W,ja u W (fun _=>False)->Calls prog 116 #[.slice (some ⟨g0,0,none⟩) ml av] W fun e w'=>∃ p c,e = .returned (.slice p RB.length c)/\w'.ownsRow u.heap.size 5 1 (.slice p RB.length c) RB.length (RB.map j5)/\ja W w' (fun _=>False):=fun W L=>by
    have ht:Chs W (.slice (some ⟨g0,0,none⟩) f.length av) f:=(Je Z).same L;rw[ia.out,cl];refine(Cm g0 0 av f W ht ag.some ag.allowed ag.few).mono ?_;rintro e w' ⟨p,c,rfl,h,k'⟩;exact⟨p,c,rfl,q7 h L.size,k'⟩
   have cj:(jo m.next).length<100:=by have:=yj (n:=m.next) (by have:=HN.out;omega);unfold jo;simp only[ZC,zP,zQ];omega
   have f8:∀(W:World) (v:Value),ja u W (fun _=>False)->W.ownsRow u.heap.size 5 1 v RB.length (RB.map j5)->Calls prog 114 #[.pointer (some ⟨d,0,none⟩),jf (jo m.next),v] W fun e w'=>∃ cg,e = .returned cg/\b8 E B u cc d SD10 (Xk (jo m.next) RB) (.returned cg) w':=fun W v L aq=>by
    have hm:=HS.out;rw[<-cl] at hm;refine(tj (cp.same L) co (jo m.next) (Jc _) v RB (x7 aq) (Nb (fun i hi=>cp.rep.lt i hi) aq) (by have:=HK.out;omega)).mono ?_;intro e w' h;exact(h.before (xy.of L (fun _ _ h=>h.elim))).ret
   have eb:=jb ew;have ft:=jb f6;have ed:=jb f8;have bc:=jb cl;have kd:ja u u.drew (fun _=>False):=ja.drew _ _;clear ew f6 f8 cl ag dp Z cj al;obtain⟨rn,bk⟩:∃ rn,rn=jo m.next:=⟨_,rfl⟩;rw[<-bk] at eb ed;have A:=jb bk;clear bk;go_wp2_with fail
   go_cut [9] from 12 (fun s9 wd=>b8 E B u cc d SD10 (Xk rn RB) (.returned s9) wd)
   case first =>
    go_region_law (first
     | (refine jz rfl 115 [.tmp 66] _ rfl uy [j7 m.next] (by simp[Act.eval,Act.put]) (eb.out _ kd) ?_
        rintro e h7 ⟨rfl,ap⟩
        try have aq:=ap.row aq (fun _ _ h=>h)
        have G:=ap.cell G id
        have kd:=kd.tt ap
        refine⟨_,rfl,?_⟩)
     | (refine jz rfl 116 [.tmp 68] _ rfl u0 [.slice (some ⟨g0,0,none⟩) ml av] (by simp[Act.eval,Act.put]) (ft.out _ kd) ?_
        rintro e h7 ⟨pb,cb,rfl,aq,ap⟩
        have G:=ap.cell G id
        have kd:=kd.tt ap
        refine⟨_,rfl,?_⟩)
     | (refine jz rfl 114 [.tmp 65,.tmp 67,.tmp 69] _ rfl dm [.pointer (some ⟨d,0,none⟩),jf rn,.slice pb RB.length cb] (by simp[Act.eval,Act.put]) (ed.out _ _ kd aq) ?_
        rintro e ku ⟨cg,rfl,hw⟩
        refine⟨_,rfl,?_⟩))
    all_goals
     go_wp2;go_meet
    all_goals exact hw
   case rest =>
    have j8:rn.length<100:=by have:=yj (n:=m.next) (by have:=HN.out;omega);rw[A.out];unfold jo;simp only[ZC,zP,zQ];omega
    have jk:RB.length<=20000:=by rw[bc.out];exact HS.out
    obtain⟨bp,j2,bb,en,fl,fz,⟨D,e7⟩|⟨D,cg,e7,d9⟩⟩:=hcut
    rotate_left
    ·simp only at D
     subst D;cases e7;have bg:=co.Ef (by rw[A.out];exact Jc _) bb;obtain⟨kz,la,rfl⟩:=d9.shape;have gB:=gA.trans fl;go_wp2;go_ret;exact⟨bp,false,.inr ⟨_,by rw[<-X.out];exact ai.out,.inl ⟨by rw[<-A.out,<-bc.out];exact bb,rfl⟩⟩,.inl ⟨rfl,⟨_,rfl,d9⟩,S.gone z gB fz (bg.mono (by omega))⟩⟩
    simp only at D;subst D;cases e7;have bg:=co.Ef (by rw[A.out];exact Jc _) bb;have bq:=jb bb;clear bb;have gB:=gA.trans fl;obtain⟨ak,ji⟩:=gB.row R.out M.nb.1;obtain⟨dh,_⟩:=gB.row fn.out eo;have G:=zA (o:=0) ak;have z2:=zA (o:=2) dh;simp at G z2;have G:wc.drew.cell? ⟨b,0,none⟩=some (.pointer (some ⟨d,0,none⟩)):=G;have z2:wc.drew.cell? ⟨y,2,none⟩=some (jg J):=z2;have dn:=M.env.keep gB.keeps (fun i t=>M.xl.yx i t);have bl:J<=9223372036854775807:=by have:=HN.out;have:=V.out;omega
    have b7:∀ W,ja wc W (fun _=>False)->Calls prog 63 #[j7 J] W fun e w'=>e = .returned (jf (jh J))/\ja W w' (fun _=>False):=fun W L=>Qr J bl (dn.same L);have cj:(jh J).length<100:=by have:=yj bl;unfold jh;simp only[ZC,zP,zQ];omega
    have d3:∀ W,ja wc W (fun _=>False)->Calls prog 114 #[.pointer (some ⟨d,0,none⟩),jf (jh J),.slice none 0 0] W fun e w'=>∃ cf,e = .returned cf/\b8 E B wc en d bp (Xk (jh J) []) (.returned cf) w':=fun W L=>by
     refine(tj (fz.same L) bg (jh J) (Js _) _ [] (Mb W) (fun p n c e=>by cases e) (by have:=HK.out;simp only[zQ];omega)).mono ?_;intro e w' h;exact(h.before (xy.of L (fun _ _ h=>h.elim))).ret
    have fu:=jb b7;have dt:=jb d3;have ch:ja wc wc.drew (fun _=>False):=ja.drew _ _;have i9:=jb cj;clear b7 d3 dn cj bl ak dh;obtain⟨ln,bn⟩:∃ ln,ln=jh J:=⟨_,rfl⟩;rw[<-bn] at fu dt;have Y:=jb bn;clear bn eb ft ed kd;go_wp2_with fail
    go_cut [10] from 12 (fun s10 wd=>b8 E B wc en d bp (Xk ln []) (.returned s10) wd)
    case first =>
     go_region_law (first
      | (refine jz rfl 63 [.tmp 79] _ rfl Jv [j7 J] (by simp[Act.eval,Act.put]) (fu.out _ ch) ?_
         rintro e ks ⟨rfl,es⟩
         have G:=es.cell G id
         have ch:=ch.tt es
         refine⟨_,rfl,?_⟩)
      | (refine jz rfl 114 [.tmp 77,.tmp 80,.const (.slice none 0 0)] _ rfl dm [.pointer (some ⟨d,0,none⟩),jf ln,.slice none 0 0] (by simp[Act.eval,Act.put]) (dt.out _ ch) ?_
         rintro e kr ⟨cf,rfl,hv⟩
         refine⟨_,rfl,?_⟩))
     all_goals
      go_wp2;go_meet
     all_goals exact hv
    case rest =>
     have j9:ln.length<100:=by rw[Y.out];exact i9.out
     have d5:ln≠[]:=by rw[Y.out];exact Js _
     obtain⟨gc,j1,ba,kp,fk,fx,⟨C,e6⟩|⟨C,cf,e6,d8⟩⟩:=hcut
     rotate_left
     ·simp only at C
      subst C;cases e6;have bf:=bg.Ef d5 ba;obtain⟨ky,l9,rfl⟩:=d8.shape;have F:=gB.trans fk;go_wp2;go_ret;exact⟨gc,false,.inr ⟨_,by rw[<-X.out];exact ai.out,.inr ⟨_,by rw[<-A.out,<-bc.out];exact bq.out,.inl ⟨by rw[<-V.out,<-Y.out];exact ba,rfl⟩⟩⟩,.inl ⟨rfl,⟨_,rfl,d8⟩,S.gone z F fx (bf.mono (by simp only[zQ];omega))⟩⟩
     simp only at C;subst C;cases e6;have bf:=bg.Ef d5 ba;have dr:=jb ba;clear ba;have F:=gB.trans fk;obtain⟨aj,dg⟩:=F.row R.out M.nb.1;obtain⟨I,j4⟩:=F.row fn.out eo;obtain⟨dj,g1⟩:=F.row i3.out h9;have t0:=zA (o:=0) I;have t1:=zA (o:=1) I;have t2:=zA (o:=2) I;have t3:=zA (o:=3) I;have t4:=zA (o:=4) I;simp at t0 t1 t2 t3 t4;have dl:=M.env.keep F.keeps (fun i t=>M.xl.yx i t);have cz:=F.keeps.row cn.out (fun g hg t=>t (ao g hg).1);have l3:b<s.heap.size:=d4
     have bv:Jw wc (.slice p7 (1+q) c7) (m.next::m.runs):=by
      have h1:(m.next::m.runs).length=1+q:=by rw[zP,<-bd.out];omega
      exact Jz cz h1
     have bw:=S.yy.yh (last:=last) dv.out HN.out (by have:=S.yy.log;omega)
     have f4:ij (m.yh last) (.slice p7 (1+q) c7) = .agg #[jg n2,jg last,jg J,jg m.base,.slice p7 (1+q) c7]:=by
      have e2:n2=m.next+2:=by have:=V.out;have:=fs.out;omega
      rw[e2,V.out];rfl
     have g3:=Rf.Man.J6 m last
     have bo:=kt fx bf dl (m.yh last) bw (by show(m.next::m.runs).length<65536;have:=HR.out;simp;omega) (.slice p7 (1+q) c7) bv (fun p n c e=>by
      have U:(Value.slice p7 (1+q) c7).ownBlock=some p.block:=by rw[e];rfl
      have h1:=ao _ U
      have h2:=(cn.out.lt _ U).2
      rw[F.role _ h2]
      exact⟨h1.1,by omega⟩) aj dg M.nb.2 (by have:=HK.out;simp only[zQ];omega)
     rw[f4] at bo;have gj:=jb bo;have gd:=jb dj;clear bo bv cz bw f4 g3 dl aj I dj G z2;go_wp2_with fail;refine gj.out.mono ?_;rintro e ce ⟨ah,iz,ca,b9,az,H,bh,⟨a7,rfl⟩|⟨a7,kv,rfl,d7⟩,j⟩
     rotate_left
     ·subst a7
      rw[if_neg (by decide)] at j;have be:=bf.yr b9;obtain⟨kx,l8,rfl⟩:=d7.shape;have L:ja w ce (fun i=>ρ i≠ .none\/i=b):=(((z.up).trans F.keeps (fun i _ h=> .inl h)).trans az (fun i hi h=>h.imp (fun h=>by rw[<-F.role i (ZA hi z.size)];exact h) id));have dz:∀ i,i<w.heap.size->ca i=ρ i:=fun i hi=>(H i (ZA hi (ZR z.size F.keeps.size))).trans (F.role i (ZA hi z.size));have g5:=ec.out;go_wp2;go_ret;exact⟨ah,false,.inr ⟨_,by rw[<-X.out];exact ai.out,.inr ⟨_,by rw[<-A.out,<-bc.out];exact bq.out,.inr ⟨_,by rw[<-V.out,<-Y.out];exact dr.out,.inl ⟨b9,rfl⟩⟩⟩⟩,.inl ⟨rfl,⟨_,rfl,d7⟩,S.next L dz bh (be.mono (by simp only[zQ];omega)) j⟩⟩
     subst a7;rw[if_pos rfl] at j;have be:=bf.yr b9;have gh:=jb b9;clear b9;have fm:=zA (o:=7) j;have hz:=zB (o:=7) j;simp at fm;obtain⟨l,af⟩:∃ l,l=ce.setCell ⟨b,7,none⟩ (.slice none 0 0):=⟨_,rfl⟩;have a6:ja ce l (fun i=>i=b):=by rw[af];exact ja.setCell ce ⟨b,7,none⟩ _
     have T:l.heap[b]?=some (.cells (qu (.pointer (some ⟨d,0,none⟩)) (jg (m.yh last).next) (jg (m.yh last).last) (jg (m.yh last).log) (jg (m.yh last).base) (.slice p7 (1+q) c7) (jg last) (.slice none 0 0) false false) 121 (0,0)):=by rw[af];exact(jd j _).trans rfl
     have et:x≠b:=fun e=>by have:=S.blt;omega
     have di:l.heap[x]?=some (.cells #[jg m.next,jg m.last,jg m.log,jg m.base,.slice pr q cr] 117 (0,0)):=a6.same (az.same gd.out (fun t=>t.elim (fun t=>t g1) et)) et;have cs:b<wc.heap.size:=ZA S.blt (ZR z.size F.keeps.size);have df:ca b = .none:=(H b cs).trans dg;have ee:Dk E B l ca d ah:=⟨bh.rep.keep a6 (fun i e _=>by rw[e];exact df),bh.z8.keep a6 (fun i e=>by rw[e];exact S.nb.2),bh.yx,ZR bh.size a6.size⟩
     have eq:ja w l (StF ρ b mv):=by
      refine(((z.up).trans F.keeps (fun i _ h=> .inl h)).trans az (fun i hi h=>?_)).trans a6 (fun i _ e=> .inr (.inl e));rcases h with h|h
      ·exact .inl (by rw[<-F.role i (ZA hi z.size)];exact h)
      ·exact .inr (.inl h)
     have dk:Env E B l:=S.env.keep (eq.mono (fun i hi h=>(show B<=i from(S.old h).1))) (fun i h=>h);have G:=zA (o:=0) T;have z2:=zA (o:=2) di;simp at G z2;rw[<-X.out] at z2;have G:l.drew.cell? ⟨b,0,none⟩=some (.pointer (some ⟨d,0,none⟩)):=G;have z2:l.drew.cell? ⟨x,2,none⟩=some (jg lo):=z2;have b7:∀ W,ja l W (fun _=>False)->Calls prog 63 #[j7 lo] W fun e w'=>e = .returned (jf (jh lo))/\ja W w' (fun _=>False):=fun W L=>Qr lo bz.out (dk.same L);have g6:=ec.out;have hq:=HK.out
     have ex:∀(W:World) (v:Value),ja l W (fun _=>False)->W.ownsRow l.heap.size 9 1 v 1 ([jh lo].map jf)->Calls prog 118 #[.pointer (some ⟨d,0,none⟩),v] W fun e w'=>∃ dy,e = .returned dy/\Xm E B l ca d (jc.jr [jh lo] ah) (.returned dy) w':=fun W v L r=>by
      refine(Yg (ee.same L) (be.small (by simp only[zQ];omega)) v [jh lo] l.heap.size r (fun g hg=>yD (fun hn=>by have:=(r.lt g hg).1;have:=ee.rep.lt g hn;omega)) (fun n hn=>by rw[ZW.1 hn];exact Xg bz.out) (by simp) (by have:=be.safe;simp only[zQ,xO] at this ⊢;omega)).mono ?_;intro e w' h;exact(h.before (xy.of L (fun _ _ h=>h.elim))).ret
     have gi:=jb b7;have i8:=jb ex;have ct:=jb T;have ay:ja l l.drew (fun _=>False):=ja.drew _ _;clear b7 ex g6 hq j di T t0 t1 t2 t3 t4;go_wp2_with fail;rw[<-af];clear af fm hz
     go_region_law (first
      | (refine jz rfl 63 [.tmp 100] _ rfl Jv [j7 lo] (by simp[Act.eval,Act.put]) (gi.out _ ay) ?_
         rintro e cd ⟨rfl,er⟩
         have G:=er.cell G id
         have ay:=ay.tt er
         have l5:∀ o1,(cd.alloc o1).cell? ⟨b,0,none⟩=some (.pointer (some ⟨d,0,none⟩)):=fun o1=>(ja.alloc cd o1 (fun _=>False)).cell G id
         have ib:=jb (World.ownsRow_lit (base:=l.heap.size) (e:=9) (size:=1) cd #[jf (jh lo)] 1 ay.size (by unfold maxLen;omega) rfl)
         refine⟨_,rfl,?_⟩)
      | (refine jz rfl 118 [.tmp 98,.tmp 102] _ rfl mj [.pointer (some ⟨d,0,none⟩),.slice (some ⟨cd.heap.size,0,none⟩) 1 1] (by simp[Act.eval,Act.put]) (i8.out _ _ (ay.more _) ib.out) ?_
         rintro e kq ⟨dy,rfl,hu⟩
         refine⟨_,rfl,?_⟩))
     all_goals
      obtain⟨em,au,fw,am⟩:=hu;have g5:=ec.out;go_wp2;go_ret;have fv:=be.jr [jh lo];rw[X.out] at fw fv am;have l1:=z.size;have h8:=F.keeps.size;have iy:=az.size;have ix:=a6.size;have cx:=(((F.keeps.mono (fun i _ h=>(Or.inl h:ρ i≠ .none\/i=b))).trans az (fun i hi h=>h.imp (fun h=>by rw[<-F.role i hi];exact h) id)).trans a6 (fun i _ e=> .inr e)).trans au.keeps (fun i hi t=> .inl (by rw[<-F.role i hi,<-H i (ZA hi h8)];exact t));have dz:∀ i,i<w.heap.size->em i=ρ i:=fun i hi=>(au.role i (by omega)).trans ((H i (by omega)).trans (F.role i (by omega)));have ho:=cx.row cn.out (fun g hg t=>t.elim (fun t=>t (ao g hg).1) (fun e=>by have:=(ao g hg).2;omega));have h1:(m.next::m.runs).length=1+q:=by rw[zP,<-bd.out];omega
      obtain⟨cq,gb⟩:=au.row ct.out df;refine⟨ah,true,.inr ⟨_,by rw[<-X.out];exact ai.out,.inr ⟨_,by rw[<-A.out,<-bc.out];exact bq.out,.inr ⟨_,by rw[<-V.out,<-Y.out];exact dr.out,.inr ⟨_,gh.out,rfl,rfl⟩⟩⟩⟩,.inr ⟨rfl,am,em,.slice p7 (1+q) c7,.slice none 0 0,⟨dk.keep au.keeps (fun i t=>ee.yx i t),fw,fv.mono (by simp only[zQ,xO];omega),cq,Jz ho h1,zY _ _ _ _,⟨gb,S.nb.2⟩,?_,fun g hg=>(by cases hg),S.yy.yh (last:=last) dv.out HN.out (by have:=S.yy.log;omega),List.Pairwise.nil,ZD _,by show(m.next::m.runs).length<60000;have:=HR.out;simp;omega⟩,eq.trans au.keeps (fun i hi t=> .inl ?_),dz,fun g hg=>(by cases hg),fun p n c e=> .inr (by have h2:=(ao p.block (by rw[e];rfl)).2;have h6:=N.size;omega)⟩⟩
      ·intro p n c e
       have U:(Value.slice p7 (1+q) c7).ownBlock=some p.block:=by rw[e];rfl
       have h2:=ao _ U;have h3:=(cn.out.lt _ U).2;have h4:=cx.size;have h5:=S.xl.size;have h6:=N.size;refine⟨?_,by omega,by omega,fun h=>(by cases h),by omega⟩;rw[au.role _ (by omega),H _ (by omega),F.role _ h3];exact h2.1
      ·rw[<-F.role i (by omega),<-H i (by omega)]
       exact t
end Go.Proofs.YtnipbplghijdmaaGreatDoor
namespace Go.Proofs.YtnipbplghijdmaaGreatDoor
open RowKit Maps WideShapes Go.Proofs.Tryz
structure xi(S S':jc):Prop where
 names:S'.names=S.names
 files:S'.files=S.files
 safe:S'.safe=S.safe
 late:S'.late=S.late
 u9:qh S->qh S'
 cut:S.cut = -1->S'.cut = -1
theorem xi.refl(S:jc):xi S S:=⟨rfl,rfl,rfl,rfl,id,id⟩
theorem yq{S:jc}(c:Bool)(h:S.cut = -1):(S.called c).cut = -1:=by simp[jc.called,h]
theorem xi.called(S:jc):xi S (S.called false):=⟨rfl,rfl,rfl,rfl,fun w=>w.called false,yq _⟩
theorem xi.trans{S T U:jc}(h:xi S T)(k:xi T U):xi S U:=⟨k.names.trans h.names,k.files.trans h.files,k.safe.trans h.safe,k.late.trans h.late,fun w=>k.u9 (h.u9 w),fun c=>k.cut (h.cut c)⟩
theorem xi.pow{S S':jc}{U:Nat}{m:Rf.Man}{b:List (List Rf.Ch)}{Q:Want}(h:xi S S')(k:Pow S U m b Q):Pow S' U m b Q:=k.zr h.names h.files h.safe h.late
theorem xi.at{S S':jc}(h:xi S S'){n:Str}{P:jy->Prop}(k:At S n P):At S' n P:=k.zr h.names h.files
theorem xi.fit{S S':jc}(h:xi S S'){k:Nat}(f:Fit k S):Fit k S':=f.zr h.names h.files h.safe h.late
def Ba(m:Rf.Man)(bls:List (List Rf.Ch))(k:Nat)(S:jc):Prop:=Fit k S/\∀ p∈qn m.settled bls,At S p.1 (fun a=>a.bytes=p.2)
theorem Ba.called{m:Rf.Man}{b:List (List Rf.Ch)}{k:Nat}{S:jc}(h:Ba m b k S):Ba m b k (S.called false):=⟨h.1.called _,fun p hp=>(h.2 p hp).zr rfl rfl⟩
theorem o7{m:Rf.Man}{b:List (List Rf.Ch)}(q:m.Good)(d:b.length=m.settled.length)(c:∀ l∈b,Rf.sn l){k:Nat}(s:k<549755813888):fk (Ba m b k) m.settled (b.map Rf.chunks):=by
 refine⟨by rw[XB];exact d,fun n hn=>?_,fun bl h=>?_,fun i n bl hn h S hS=>?_,fun S hS=>⟨hS.called,hS.1.small s⟩⟩
 ·have j:=q.2.2.1 n (xX _ hn)
  have o:=q.1;omega
 ·obtain⟨l,g,rfl⟩:=zO.1 h
  have p:=c l g;have j:=Rf.Eb p.allowed;have o:=p.few;refine⟨?_,?_,Hd p⟩
  ·have r:(Rf.zx (Rf.chunks l)).length<=67*l.length+300:=j
   omega
  ·rw[Rf.Xu]
   omega
 ·rw[xP] at h
  obtain⟨l,g,rfl⟩:=XK.1 h;obtain⟨f,a,j,o,r⟩:=hS.2 _ (J8.2 ⟨(n,l),jb5 hn g,rfl⟩);exact⟨Hd (c l (XL g)),f,a,j,o,r⟩
theorem Hx(c lo:Str)(b:List (List (List Rf.Ch))):∀(S:jc),∃ S',xi S S'/\(j9 c (xx b lo) S=(S',.inl (b.map (fun bl=>Y0 c (bl.flatten.filter (Rf.qk lo)))))\/(j9 c (xx b lo) S=(S',.inr true)/\¬qh S)):=by
 induction b with
 | nil=>intro S;exact⟨S,xi.refl S,.inl rfl⟩
 | cons bl r ih =>
  intro S;have j:j9 c (xx (bl::r) lo) S=j9 c (Y4 bl lo::xx r lo) S:=rfl;rw[j,im]
  cases hb:S.bad with
  | true =>
   have g:Y4 bl lo S=(S.called false,[],some true):=by
    unfold Y4 o9 Zt;rw[hb];rfl
   have f:Zd c (S.called false,[],some true)=none:=by
    unfold Zd;rw[if_neg];rintro(h|h)
    ·cases h
    ·exact absurd h (Nat.not_lt_zero _)
   rw[g,f];exact⟨_,xi.called S,.inr ⟨rfl,fun w=>by rw[w.bad] at hb;cases hb⟩⟩
  | false =>
   have g:Y4 bl lo S=(S.called false,bl.flatten.filter (Rf.qk lo),none):=by
    unfold Y4 o9 Zt;rw[hb];rfl
   have f:Zd c (S.called false,bl.flatten.filter (Rf.qk lo),none)=some (Y0 c (bl.flatten.filter (Rf.qk lo))):=by unfold Zd;rw[if_pos (.inl rfl)]
   rw[g,f];obtain⟨S',i,d|⟨d,k⟩⟩:=ih (S.called false)
   ·refine⟨S',(xi.called S).trans i,.inl ?_⟩
    simp only[d];rfl
   ·refine⟨S',(xi.called S).trans i,.inr ⟨?_,fun w=>k (w.called false)⟩⟩
    simp only[d]
theorem Ma(lo:Str)(b:List (List (List Rf.Ch))):∀(S:jc),xi S (Qs (xx b lo) S).1/\((Qs (xx b lo) S).2=none\/((Qs (xx b lo) S).2=some true/\¬qh S)):=by
 induction b with
 | nil=>intro S;exact⟨xi.refl S,.inl rfl⟩
 | cons bl r ih =>
  intro S;have d:Qs (xx (bl::r) lo) S=Qs (Y4 bl lo::xx r lo) S:=rfl;rw[d,mo]
  cases hb:S.bad with
  | true =>
   have c:Y4 bl lo S=(S.called false,[],some true):=by
    unfold Y4 o9 Zt;rw[hb];rfl
   rw[c];exact⟨xi.called S,.inr ⟨rfl,fun w=>by rw[w.bad] at hb;cases hb⟩⟩
  | false =>
   have c:Y4 bl lo S=(S.called false,bl.flatten.filter (Rf.qk lo),none):=by
    unfold Y4 o9 Zt;rw[hb];rfl
   rw[c];obtain⟨g,f⟩:=ih (S.called false);exact⟨(xi.called S).trans g,f.imp id (fun h=>⟨h.1,fun w=>h.2 (w.called false)⟩)⟩
theorem je1{b:List (List Rf.Ch)}(d:∀ l∈b,Rf.sn l):(b.map Rf.chunks).map (fun bl=>Y0 [] (bl.flatten.filter (Rf.qk [])))=b:=by
 rw[XS]
 have:∀ l∈b,((fun bl=>Y0 [] (bl.flatten.filter (Rf.qk []))) ∘ Rf.chunks) l=l:=fun l hl=>by
  show Y0 [] ((Rf.chunks l).flatten.filter (Rf.qk []))=l;rw[Rf.Xu,pz (d l hl).rising];exact XU.2 (fun c _=>by simp[Zo])
 rw[XT this,List.map_id']
theorem lg.xl{E:Nat->Addr}{w:World}{v:Value}(h:lg E w v true):Err E w v 1:=by
 obtain⟨g,c,d,b⟩:=h;rw[<-b.1 rfl];exact c
variable {E:Nat->Addr} {B:Nat} {w w':World} {ρ:Nat->j3} {d b k:Nat} {S:jc} {m:Rf.Man} {last:Nat} {ml:List Rf.Ch} {deg:Bool} {rv mv:Value}
theorem jdi(T:StM E B w ρ d b S k m last ml deg rv mv)(x:k<549755813888){c:List (List Rf.Ch)}(i:c.length=m.settled.length)(g:∀ l∈c,Rf.sn l)(n:∀ p∈qn m.settled c,At S p.1 (fun a=>a.bytes=p.2))(C:(Rf.merged c).length<60000) :
 Calls prog 119 #[.pointer (some ⟨b,0,none⟩)] w fun e w'=>∃ v ev S',e = .returned (.tuple #[v,ev])/\xi S S'/\xy w ρ w' ρ/\Dk E B w' ρ d S' /\
  ((ev = .nilIface/\w'.ownsRow w.heap.size 88 3 v (Rf.there (Rf.merged c)).length (jj (Rf.there (Rf.merged c))))\/(Err E w' ev 1/\v = .slice none 0 0/\¬qh S)):=by
 have z:Ba m c k S:=⟨T.fit,n⟩;have R:=o7 T.yy i g x;obtain⟨S',q,e⟩:=Hx [] [] (c.map Rf.chunks) S;rw[je1 g] at e
 have u:(Xa (j9 [] (xx (c.map Rf.chunks) []) S)).length<1048576:=by
  rcases e with e|⟨e,_⟩
  ·rw[e];show(Rf.merged c).length<_;omega
  ·rw[e];exact ZD _
 have A:=T.au;refine(jdj m rv (jg last) mv deg false (c.map Rf.chunks) T.env T.xl z R T.row T.runs (by omega) u).mono ?_;rintro D w' ⟨v,ev,rfl,o,j,h⟩;rcases e with e|⟨e,r⟩
 ·rw[e] at j h
  refine⟨v,ev,S',rfl,q,⟨o,fun _ _=>rfl⟩,j,?_⟩;rcases h with⟨rfl,_,t⟩|⟨bad,f,_⟩
  ·exact .inl ⟨rfl,t⟩
  ·cases f
 ·rw[e] at j h
  refine⟨v,ev,S',rfl,q,⟨o,fun _ _=>rfl⟩,j,?_⟩;rcases h with⟨_,f,_⟩|⟨bad,f,s,y⟩
  ·cases f
  ·cases f
   exact .inr ⟨y.xl,s,r⟩
end Go.Proofs.YtnipbplghijdmaaGreatDoor
namespace Go.Proofs.YtnipbplghijdmaaGreatDoor
open RowKit Maps WideShapes Go.Proofs.Tryz
variable {E:Nat->Addr} {B b d k:Nat} {w:World} {mv rv:Value}
def Rf.Man.Xh(m:Rf.Man)(l:List Rf.Ch):Rf.Man:=if l=[] then m.bare else m.zg
def Qj(m:Rf.Man)(l:List Rf.Ch):DStep:=if l=[] then yr m.bare else na [Fn (fun S=>S.qm (jh m.log)),Xk (jo m.next) (Rf.j6 l),yr m.zg]
def Xv(E:Nat->Addr)(B:Nat)(w:World)(ρ:Nat->j3)(d b:Nat)(rv mv:Value)(S:jc)(k:Nat)(m:Rf.Man)(last:Nat)(ml l:List Rf.Ch)(e:Ending)(w':World):Prop :=
 ∃ S0,xi S S0 /\
  ((¬qh S/\(∃ v,e = .returned v/\Err E w' v 1)/\yz E B w ρ d b rv mv S0 (k+100000) m last ml false w') \/
   ∃ S1 ok1,Qj m l S0 S1 ok1 /\
    ((ok1=false/\(∃ v,e = .returned v/\Err E w' v 1)/\yz E B w ρ d b rv mv S1 (k+100000) m last ml false w') \/
     (ok1=true/\jb2 E w' e (jc.jr (m.settled.map jo) S1).2/\yz E B w ρ d b rv mv (jc.jr (m.settled.map jo) S1).1 (k+100000) (m.Xh l) last ml false w')))
theorem StM.wj{wc w':World}{ρ j:Nat->j3}{k':Nat}{S S':jc}{m:Rf.Man}{last:Nat}{ml:List Rf.Ch}{c:Bool}(h:StM E B w ρ d b S k m last ml c rv mv)(l:ja w wc (fun i=>ρ i≠ .none\/i=b))(f:wc.heap[b]?=some (.cells (Z9 d m rv last mv c) 121 (0,0)))(g:xy wc ρ w' j)(D:Dk E B w' j d S')(F:Fit k' S'):yz E B w ρ d b rv mv S' k' m last ml c w' :=
 h.next (l.trans g.keeps (fun i _ t=> .inl t)) (fun i hi=>g.role i (ZA hi l.size)) D F (g.keeps.same f (fun t=>t h.nb.1))
theorem Ip{ρ:Nat->j3}{SD:jc}{m:Rf.Man}{last:Nat}{r:List Rf.Ch}{C:List (List Rf.Ch)}(S:StM E B w ρ d b SD k m last r false rv mv)(hk:k<530000000000)(I:m.next+1<=2000000000)(ap:C.length=m.settled.length)(bx:∀ l∈C,Rf.sn l)(bz:∀ p∈qn m.settled C,At SD p.1 (fun a=>a.bytes=p.2))(hl:(Rf.merged C).length<60000){live:List Rf.Ch}(G:Rf.there (Rf.merged C)=live)(bc:live=[]) :
 Calls prog 69 #[.pointer (some ⟨b,0,none⟩)] w (Xv E B w ρ d b rv mv SD k m last r live):=by
 obtain⟨H,J,bt,db⟩:=id S.runs;have cb:∃ n,rv = .slice H n J:=⟨_,bt⟩;clear bt db;obtain⟨L,rfl⟩:=cb;obtain⟨n1,am⟩:∃ n1,n1=m.next+1:=⟨_,rfl⟩;have f4:=jb am;clear am;have q:=S.row;have c1:=zA (o:=1) q;have c2:=zA (o:=2) q;have c3:=zA (o:=3) q;have c4:=zA (o:=4) q;have c5:=zA (o:=5) q;simp at c1 c2 c3 c4 c5;have a1:∀ o1,(w.alloc o1).cell? ⟨b,1,none⟩=some (jg m.next):=fun o1=>(ja.alloc w o1 (fun _=>False)).cell c1 id;have b1:∀ o1 o2,((w.alloc o1).alloc o2).cell? ⟨b,1,none⟩=some (jg m.next):=fun o1 o2=>((ja.alloc w o1 (fun _=>False)).more o2).cell c1 id;have a2:∀ o1,(w.alloc o1).cell? ⟨b,2,none⟩=some (jg m.last):=fun o1=>(ja.alloc w o1 (fun _=>False)).cell c2 id;have b2:∀ o1 o2,((w.alloc o1).alloc o2).cell? ⟨b,2,none⟩=some (jg m.last):=fun o1 o2=>((ja.alloc w o1 (fun _=>False)).more o2).cell c2 id;have a3:∀ o1,(w.alloc o1).cell? ⟨b,3,none⟩=some (jg m.log):=fun o1=>(ja.alloc w o1 (fun _=>False)).cell c3 id;have b3:∀ o1 o2,((w.alloc o1).alloc o2).cell? ⟨b,3,none⟩=some (jg m.log):=fun o1 o2=>((ja.alloc w o1 (fun _=>False)).more o2).cell c3 id;have a4:∀ o1,(w.alloc o1).cell? ⟨b,4,none⟩=some (jg m.base):=fun o1=>(ja.alloc w o1 (fun _=>False)).cell c4 id;have b4:∀ o1 o2,((w.alloc o1).alloc o2).cell? ⟨b,4,none⟩=some (jg m.base):=fun o1 o2=>((ja.alloc w o1 (fun _=>False)).more o2).cell c4 id;have a5:∀ o1,(w.alloc o1).cell? ⟨b,5,none⟩=some (.slice H L J):=fun o1=>(ja.alloc w o1 (fun _=>False)).cell c5 id;have b5:∀ o1 o2,((w.alloc o1).alloc o2).cell? ⟨b,5,none⟩=some (.slice H L J):=fun o1 o2=>((ja.alloc w o1 (fun _=>False)).more o2).cell c5 id
 have f5:Hid (live.length<60000):=by
  have h1:=ZT (fun c:Rf.Ch=>!c.gone) (Rf.merged C);rw[<-G];show(Rf.there (Rf.merged C)).length<60000;unfold Rf.there;omega
 have HN:=jb I;have HL:=jb hl;have HK:=jb hk;have ck:=jb ap;have ds:=jb bx;have dt:=jb bz;have be:=jb G;have ef:=jb q;have h0:live.length=0:=by rw[bc];rfl
 have bd:=jb bc;have H0:=jb h0;clear q I hl hk ap bx bz G bc h0;go_enter func69,ntmps69;go_wp2_with fail
 go_cut [3,4] from 10 (fun s3 s4 wc=>∃(x y:Nat),s3 = .pointer (some ⟨x,0,none⟩)/\s4 = .pointer (some ⟨y,0,none⟩)/\x≠y/\w.heap.size<=x/\w.heap.size<=y/\wc.heap[x]?=some (.cells #[jg m.next,jg m.last,jg m.log,jg m.base,.slice H L J] 117 (0,0)) /\
  wc.heap[y]?=some (.cells #[jg m.next,jg m.last,jg m.log,jg m.base,.slice H L J] 117 (0,0))/\ja w wc (fun _=>False))
 case first =>
  go_region
  all_goals
   go_wp2;go_meet
  case rel =>
   obtain⟨h1,h2,h3⟩:=de w (.cells #[jg m.next,jg m.last,jg m.log,jg m.base,.slice H L J] 117)
   first
    | exact⟨_,_,rfl,rfl,by omega,by omega,by omega,h1,h2,h3⟩
    | exact⟨_,_,rfl,rfl,by omega,by omega,by omega,h2,h1,h3⟩
  case rel =>
   obtain⟨h1,h2,h3⟩:=de w (.cells #[jg m.next,jg m.last,jg m.log,jg m.base,.slice H L J] 117)
   first
    | exact⟨_,_,rfl,rfl,by omega,by omega,by omega,h1,h2,h3⟩
    | exact⟨_,_,rfl,rfl,by omega,by omega,by omega,h2,h1,h3⟩
 case rest =>
  obtain⟨x,y,rfl,rfl,d9,hx,hy,hX,hY,kc⟩:=hcut;clear a1 a2 a3 a4 a5 b1 b2 b3 b4 b5 c1 c2 c3 c4 c5;have A:=S.same kc;have bb:=jdi A (by have:=HK.out;omega) ck.out ds.out dt.out HL.out;rw[be.out] at bb;have dr:=jb bb;have HX:=jb hX;have HY:=jb hY;have bo:ρ x = .none:=yD (fun I=>by have:=S.xl.rep.lt x I;omega);have d6:ρ y = .none:=yD (fun I=>by have:=S.xl.rep.lt y I;omega);clear bb hX hY;go_wp2_with fail;refine dr.out.mono ?_;rintro e w2 ⟨v2,f0,U,rfl,R,g2,D2,⟨rfl,ac⟩|⟨bw,rfl,dg⟩⟩
  rotate_left
  ·obtain⟨t2,a2,rfl⟩:=bw.shape
   have di:=R.fit S.fit;go_wp2;go_ret;exact⟨U,R,.inl ⟨dg,⟨_,rfl,bw⟩,S.gone kc g2 D2 (di.mono (by omega))⟩⟩
  have F2:=R.fit S.fit;have c8:=jb R;clear R;obtain⟨a6,_⟩:=g2.row A.row A.nb.1
  have S2:StM E B w2 ρ d b U k m last r false (.slice H L J) mv:=by
   have a9:ja wc w2 (fun i=>ρ i≠ .none\/i=b):=g2.keeps.mono (fun i _ h=> .inl h);refine⟨A.env.keep a9 (fun i t=>t.elim (fun t=>S.xl.yx i t) (fun t=>by rw[t];exact S.nb.2)),D2,F2,a6,A.runs.keep a9 (fun _ p n c e t=>?_),a9.row A.mem (fun g hg t=>t.elim (fun t=>t (A.nm g hg).1) (A.nm g hg).2),A.nb,fun p n c e=>?_,A.nm,A.yy,A.rising,A.few,A.au⟩
   ·obtain⟨a1,a2,a3,a4,a5⟩:=A.nr p n c e
    exact t.elim (fun t=>t a1) a2
   ·obtain⟨a1,a2,a3,a4,a5⟩:=A.nr p n c e
    exact⟨a1,a2,a3,a4,ZA a5 a9.size⟩
  have u:=(g2.row HY.out d6).1;have c7:=(g2.row HX.out bo).1;have y0:=zA (o:=0) u;have y1:=zA (o:=1) u;have y2:=zA (o:=2) u;have y3:=zA (o:=3) u;have y4:=zA (o:=4) u;have q3:=zB (o:=3) u;have q4:=zB (o:=4) u;simp at y0 y1 y2 y3 y4;obtain⟨w3,aa⟩:∃ w3,w3=(w2.setCell ⟨y,3,none⟩ (.int .i64 0)).setCell ⟨y,4,none⟩ (.slice none 0 0):=⟨_,rfl⟩;have k3:ja w2 w3 (fun i=>i=y):=by rw[aa];exact(ja.setCell w2 ⟨y,3,none⟩ _).set (p:=⟨y,4,none⟩) rfl _
  have dj:B<=y:=ZR S.xl.size hy;have d8:¬StF ρ b mv y:=fun h=>by have:=(S.old h).2;omega
  have d7:∀ p n c,(Value.slice H L J) = .slice (some p) n c->y≠p.block:=fun p n c e h=>by
   have:=(S.nr p n c e).2.2.2.2;omega
  have S3:StM E B w3 ρ d b U k m last r false (.slice H L J) mv:=S2.keep k3 (fun i hi e=>by rw[e];exact⟨dj,d8,d7⟩);have c0:w3.heap[y]?=some (.cells #[jg m.next,jg m.last,jg m.log,.int .i64 0,.slice none 0 0] 117 (0,0)):=by rw[aa];exact(jd (jd u _) _).trans rfl
  have c6:=k3.same c7 d9;have b8:ja w w3 (StF ρ b mv):=((kc.up).trans g2.keeps (fun i _ h=> .inl h)).trans k3 (fun i hi e=>by omega);have bs:v2.ownBlock≠some y:=fun e=>by have:=(ac.lt y e).1;have:=zC HY.out;omega
  have b9:=k3.row ac (fun g hg e=>bs (by rw[<-(show g=y from e)];exact hg))
  have ee:∀ g,v2.ownBlock=some g->ρ g = .none/\w.heap.size<=g:=fun g hg=>by
   have h1:=(ac.lt g hg).1;have h2:=kc.size;exact⟨yD (fun I=>by have:=S.xl.rep.lt g I;omega),by omega⟩
  have cl:Hid (ja w w3 (fun i=>ρ i≠ .none\/i=b)):=(show ja w w3 _ from((kc.up).trans g2.keeps (fun i _ h=> .inl h)).trans k3 (fun i hi e=>by omega));have ey:=b8.size;have dn:=jb c6;have f2:=jb c0;have f3:=jb b9;obtain⟨pv,cv,rfl⟩:=jm b9;have dh:=S.yy.log;have df:=S.yy.1;have eg:Hid (m.log<=9223372036854775807):=jb (by omega);clear c7 u c6 c0 ac b9 a6 dh df D2 g2 S2 bs F2;rw[H0.out];have Y:ja w w3 (fun i=>ρ i≠ .none\/i=b):=cl.out;go_wp2_with fail;rw[<-aa];clear aa y0 y1 y2 y3 y4 q3 q4;have bv:ij m.bare (.slice none 0 0) = .agg #[jg m.next,jg m.last,jg m.log,.int .i64 0,.slice none 0 0]:=rfl;have a7:Rf.Man.Good m.bare:=S.yy.bare;have ez:Rf.Man.bytes m.bare=Rf.Man.bytes m.bare:=rfl;have an:(Rf.Man.bytes m.bare).length=42:=by rw[ql];rfl
  have Z:=kt S3.xl S3.fit S3.env m.bare a7 (by show([]:List Nat).length<65536;decide) (.slice none 0 0) (Jw.nil _) (fun p n c e=>by cases e) S3.row S3.nb.1 S.nb.2 (by have:=HK.out;omega);rw[bv] at Z;have cm:=jb Z;clear Z bv;refine cm.out.mono ?_;rintro e f ⟨a0,ed,b0,V,N,z,ad,⟨F,rfl⟩|⟨F,ev,rfl,aq⟩,j⟩
  rotate_left
  ·subst F
   rw[if_neg (by decide)] at j;have D:=S3.fit.yr V;rw[an] at D;obtain⟨ew,f1,rfl⟩:=aq.shape;have M:ja w f (fun i=>ρ i≠ .none\/i=b):=Y.trans N (fun i hi h=>h.imp (fun h=>by rw[<-(show ρ i=ρ i from rfl)];exact h) id);have ab:∀ i,i<w.heap.size->b0 i=ρ i:=fun i hi=>(z i (ZA hi Y.size)).trans (rfl);go_wp2;go_ret;refine⟨U,c8.out,.inr ⟨a0,false,?_,.inl ⟨rfl,⟨_,rfl,aq⟩,S.next M ab ad (D.mono (by omega)) j⟩⟩⟩;unfold Qj;rw[if_pos bd.out];exact V
  subst F;rw[if_pos rfl] at j;have D:=S3.fit.yr V;rw[an] at D;have ch:=jb V;clear V;have da:x≠b:=fun e=>by have:=S.blt;omega
  have s:=N.same dn.out (fun t=>t.elim (fun t=>t bo) da);have ex:=b8.size;have eb:=N.size;have cf:b0 b = .none:=(z b (by have:=S.blt;omega)).trans S3.nb.1;have X:ja w f (StF ρ b mv):=b8.trans N (fun i hi h=>h.elim (fun h=> .inl (by rw[<-(fun(i:Nat) (hi:i<w.heap.size)=>(rfl:ρ i=ρ i)) i hi];exact h)) (fun h=> .inr (.inl h)));have av:Env E B f:=S.env.keep (X.mono (fun i hi h=>(show B<=i from(S.old h).1))) (fun i h=>h)
  have ar:Jw f (.slice H L J) m.runs:=S.runs.keep X (fun _ p n c e t=>by
   obtain⟨a1,a2,a3,a4,a5⟩:=S.nr p n c e
   rcases t with t|t|t
   ·exact t a1
   ·exact a2 t
   ·exact a4 t)
  have d0:=zA (o:=0) j;have x0:=zA (o:=0) s;have x1:=zA (o:=1) s;have x2:=zA (o:=2) s;have x3:=zA (o:=3) s;have x4:=zA (o:=4) s;simp at d0 x0 x1 x2 x3 x4;have d0:f.drew.cell? ⟨b,0,none⟩=some (.pointer (some ⟨d,0,none⟩)):=d0;have x0:f.drew.cell? ⟨x,0,none⟩=some (jg m.next):=x0;have x1:f.drew.cell? ⟨x,1,none⟩=some (jg m.last):=x1;have x2:f.drew.cell? ⟨x,2,none⟩=some (jg m.log):=x2;have x3:f.drew.cell? ⟨x,3,none⟩=some (jg m.base):=x3;have x4:f.drew.cell? ⟨x,4,none⟩=some (.slice H L J):=x4;obtain⟨ns,O⟩:∃ ns,ns=m.settled.length:=⟨_,rfl⟩;have dc:=xw m;have dd:=S.au
  have br:∀ W,ja f W (fun _=>False)->Calls prog 121 #[ij m (.slice H L J)] W fun e w'=>∃ p c,e = .returned (.slice p ns c)/\w'.ownsRow f.heap.size 3 1 (.slice p ns c) ns (m.settled.map jg)/\ja W w' (fun _=>False):=fun W M=>by
   rw[O];refine(ao W m _ (ar.same M) (by omega)).mono ?_;rintro e w' ⟨p,c,rfl,h,k'⟩;exact⟨p,c,rfl,q7 h M.size,k'⟩
  have ak:∀(W:World) (v:Value),ja f W (fun _=>False)->W.ownsRow f.heap.size 3 1 v ns (m.settled.map jg)->Calls prog 120 #[v] W fun e w'=>∃ p c,e = .returned (.slice p ns c)/\w'.ownsRow f.heap.size 9 1 (.slice p ns c) ns ((m.settled.map jo).map jf)/\ja W w' (fun _=>False):=fun W v M hr=>by
   rw[O] at hr ⊢;refine(lr v m.settled (av.same M) (Jz hr rfl) (by omega) (fun n I=>by have:=S.yy.2.2.1 n (xX _ I);have:=S.yy.1;omega)).mono ?_;rintro e w' ⟨p,c,rfl,h,k'⟩;exact⟨p,c,rfl,q7 h M.size,k'⟩
  have bu:∀(W:World) (v:Value),ja f W (fun _=>False)->W.ownsRow f.heap.size 9 1 v ns ((m.settled.map jo).map jf)->Calls prog 118 #[.pointer (some ⟨d,0,none⟩),v] W fun e w'=>∃ b7,e = .returned b7/\Xm E B f b0 d (jc.jr (m.settled.map jo) a0) (.returned b7) w':=fun W v M hr=>by
   have ba:(m.settled.map jo).length=ns:=by rw[XB,O]
   refine(Yg (ad.same M) (D.small (by have:=HK.out;omega)) v (m.settled.map jo) f.heap.size (by rw[ba];exact hr) (fun g hg=>yD (fun I=>by have:=(hr.lt g hg).1;have:=ad.rep.lt g I;omega)) (fun n I=>Y6 S.yy n (ZV.2 (.inl I))) (by rw[ba];omega) (by have:=D.safe;have:=HK.out;rw[ba];omega)).mono ?_;intro e w' h;exact(h.before (xy.of M (fun _ _ h=>h.elim))).ret
  have al:ns<60001:=by omega
  have cj:=jb al;have ci:Hid ((m.settled.map jo).length=ns):=jb (by rw[XB,O]);have dp:=jb br;have cg:=jb ak;have dq:=jb bu;have ag:=jb j;have kd:ja f f.drew (fun _=>False):=ja.drew _ _;clear br ak bu O dc dd j s ar al;go_wp2_with fail
  go_region_law (first
   | (refine jz rfl 121 [.tmp 67] _ rfl Ya [ij m (.slice H L J)] (by simp[Act.eval,Act.put]) (dp.out _ kd) ?_
      rintro e eu ⟨d5,dm,rfl,cd,bq⟩
      have d0:=bq.cell d0 id
      have kd:=kd.tt bq
      refine⟨_,rfl,?_⟩)
   | (refine jz rfl 120 [.tmp 68] _ rfl fe [.slice d5 ns dm] (by simp[Act.eval,Act.put]) (cg.out _ _ kd cd) ?_
      rintro e et ⟨d4,dl,rfl,cc,bp⟩
      have d0:=bp.cell d0 id
      have kd:=kd.tt bp
      refine⟨_,rfl,?_⟩)
   | (refine jz rfl 118 [.tmp 66,.tmp 69] _ rfl mj [.pointer (some ⟨d,0,none⟩),.slice d4 ns dl] (by simp[Act.eval,Act.put]) (dq.out _ _ kd cc) ?_
      rintro e b6 ⟨b7,rfl,dk⟩
      refine⟨_,rfl,?_⟩))
  all_goals
   obtain⟨bn,T,dv,af⟩:=dk;have du:=D.jr (m.settled.map jo);have h6:=cj.out;have h7:=ci.out;go_wp2;go_ret;obtain⟨ae,ce⟩:=T.row ag.out cf;have ab:∀ i,i<w.heap.size->bn i=ρ i:=fun i hi=>(T.role i (by omega)).trans ((z i (by omega)).trans ((fun(i:Nat) (hi:i<w.heap.size)=>(rfl:ρ i=ρ i)) i (by omega)));have c9:ja w b6 (StF ρ b mv):=X.trans T.keeps (fun i hi t=> .inl (by rw[<-(fun(i:Nat) (hi:i<w.heap.size)=>(rfl:ρ i=ρ i)) i hi,<-z i (by omega)];exact t))
   have ca:b6.ownsRow B 88 3 mv r.length (jj r):=by
    have M:ja w b6 (fun i=>ρ i≠ .none\/i=b):=(Y.trans N (fun i hi h=>h.imp (fun h=>by rw[<-(fun(i:Nat) (hi:i<w.heap.size)=>(rfl:ρ i=ρ i)) i hi];exact h) id)).trans T.keeps (fun i hi t=> .inl (by rw[<-(fun(i:Nat) (hi:i<w.heap.size)=>(rfl:ρ i=ρ i)) i hi,<-z i (by omega)];exact t));exact M.row S.mem (fun g hg t=>t.elim (fun t=>t (S.nm g hg).1) (S.nm g hg).2)
   have ec:m.Xh live=m.bare:=by unfold Rf.Man.Xh;rw[if_pos bd.out]
   refine⟨U,c8.out,.inr ⟨a0,true,?_,.inr ⟨rfl,af,bn,.slice none 0 0,mv,⟨av.keep T.keeps (fun i t=>ad.yx i t),dv,du.mono (by rw[h7];omega),?_,?_,ca,⟨ce,S.nb.2⟩,fun p n c e=>(by cases e),fun g hg=>⟨by rw[ab g (S.mem.lt g hg).2];exact(S.nm g hg).1,(S.nm g hg).2⟩,?_,S.rising,S.few,?_⟩,c9,ab,fun g hg=> .inl hg,fun p n c e=>(by cases e)⟩⟩⟩
   ·unfold Qj
    rw[if_pos bd.out];exact ch.out
   ·rw[ec]
    exact ae
   ·rw[ec]
    exact Jw.nil _
   ·rw[ec]
    exact a7
   ·rw[ec]
    exact ZD _
theorem Im{ρ:Nat->j3}{SD:jc}{m:Rf.Man}{last:Nat}{s:List Rf.Ch}{X:List (List Rf.Ch)}(S:StM E B w ρ d b SD k m last s false rv mv)(hk:k<530000000000)(hn:m.next+1<=2000000000)(c7:X.length=m.settled.length)(e2:∀ l∈X,Rf.sn l)(e3:∀ p∈qn m.settled X,At SD p.1 (fun a=>a.bytes=p.2))(hl:(Rf.merged X).length<60000){live:List Rf.Ch}(a0:Rf.there (Rf.merged X)=live)(ae:live≠[])(bx:Rf.sn live)(hs:(Rf.j6 live).length<=20000) :
 Calls prog 69 #[.pointer (some ⟨b,0,none⟩)] w (Xv E B w ρ d b rv mv SD k m last s live):=by
 obtain⟨O,T,dt,fq⟩:=id S.runs;have ej:∃ n,rv = .slice O n T:=⟨_,dt⟩;clear dt fq;obtain⟨nr,rfl⟩:=ej;obtain⟨n1,c0⟩:∃ n1,n1=m.next+1:=⟨_,rfl⟩;have ed:=jb c0;clear c0;have u:=S.row;have c1:=zA (o:=1) u;have c2:=zA (o:=2) u;have c3:=zA (o:=3) u;have c4:=zA (o:=4) u;have c5:=zA (o:=5) u;simp at c1 c2 c3 c4 c5;have a1:∀ o1,(w.alloc o1).cell? ⟨b,1,none⟩=some (jg m.next):=fun o1=>(ja.alloc w o1 (fun _=>False)).cell c1 id;have b1:∀ o1 o2,((w.alloc o1).alloc o2).cell? ⟨b,1,none⟩=some (jg m.next):=fun o1 o2=>((ja.alloc w o1 (fun _=>False)).more o2).cell c1 id;have a2:∀ o1,(w.alloc o1).cell? ⟨b,2,none⟩=some (jg m.last):=fun o1=>(ja.alloc w o1 (fun _=>False)).cell c2 id;have b2:∀ o1 o2,((w.alloc o1).alloc o2).cell? ⟨b,2,none⟩=some (jg m.last):=fun o1 o2=>((ja.alloc w o1 (fun _=>False)).more o2).cell c2 id;have a3:∀ o1,(w.alloc o1).cell? ⟨b,3,none⟩=some (jg m.log):=fun o1=>(ja.alloc w o1 (fun _=>False)).cell c3 id;have b3:∀ o1 o2,((w.alloc o1).alloc o2).cell? ⟨b,3,none⟩=some (jg m.log):=fun o1 o2=>((ja.alloc w o1 (fun _=>False)).more o2).cell c3 id;have a4:∀ o1,(w.alloc o1).cell? ⟨b,4,none⟩=some (jg m.base):=fun o1=>(ja.alloc w o1 (fun _=>False)).cell c4 id;have b4:∀ o1 o2,((w.alloc o1).alloc o2).cell? ⟨b,4,none⟩=some (jg m.base):=fun o1 o2=>((ja.alloc w o1 (fun _=>False)).more o2).cell c4 id;have a5:∀ o1,(w.alloc o1).cell? ⟨b,5,none⟩=some (.slice O nr T):=fun o1=>(ja.alloc w o1 (fun _=>False)).cell c5 id;have b5:∀ o1 o2,((w.alloc o1).alloc o2).cell? ⟨b,5,none⟩=some (.slice O nr T):=fun o1 o2=>((ja.alloc w o1 (fun _=>False)).more o2).cell c5 id
 have gi:Hid (live.length<60000):=by
  have h1:=ZT (fun c:Rf.Ch=>!c.gone) (Rf.merged X);rw[<-a0];show(Rf.there (Rf.merged X)).length<60000;unfold Rf.there;omega
 have HN:=jb hn;have HL:=jb hl;have HS:=jb hs;have HK:=jb hk;have f0:=jb c7;have gj:=jb e2;have gk:=jb e3;have d2:=jb a0;have ew:=jb bx;have hd:=jb u;have a9:0<live.length:=ZY.2 ae;have af:=jb ae;have ev:=jb a9;clear u hn hl hk c7 e2 e3 a0 ae bx hs a9;go_enter func69,ntmps69;go_wp2_with fail
 go_cut [3,4] from 10 (fun s3 s4 wc=>∃(x y:Nat),s3 = .pointer (some ⟨x,0,none⟩)/\s4 = .pointer (some ⟨y,0,none⟩)/\x≠y/\w.heap.size<=x/\w.heap.size<=y/\wc.heap[x]?=some (.cells #[jg m.next,jg m.last,jg m.log,jg m.base,.slice O nr T] 117 (0,0)) /\
  wc.heap[y]?=some (.cells #[jg m.next,jg m.last,jg m.log,jg m.base,.slice O nr T] 117 (0,0))/\ja w wc (fun _=>False))
 case first =>
  go_region
  all_goals
   go_wp2;go_meet
  case rel =>
   obtain⟨h1,h2,h3⟩:=de w (.cells #[jg m.next,jg m.last,jg m.log,jg m.base,.slice O nr T] 117)
   first
    | exact⟨_,_,rfl,rfl,by omega,by omega,by omega,h1,h2,h3⟩
    | exact⟨_,_,rfl,rfl,by omega,by omega,by omega,h2,h1,h3⟩
  case rel =>
   obtain⟨h1,h2,h3⟩:=de w (.cells #[jg m.next,jg m.last,jg m.log,jg m.base,.slice O nr T] 117)
   first
    | exact⟨_,_,rfl,rfl,by omega,by omega,by omega,h1,h2,h3⟩
    | exact⟨_,_,rfl,rfl,by omega,by omega,by omega,h2,h1,h3⟩
 case rest =>
  obtain⟨x,y,rfl,rfl,dq,hx,hy,hX,hY,kc⟩:=hcut;clear a1 a2 a3 a4 a5 b1 b2 b3 b4 b5 c1 c2 c3 c4 c5;have N:=S.same kc;have cu:=jdi N (by have:=HK.out;omega) f0.out gj.out gk.out HL.out;rw[d2.out] at cu;have gh:=jb cu;have HX:=jb hX;have HY:=jb hY;have di:ρ x = .none:=yD (fun hn=>by have:=S.xl.rep.lt x hn;omega);have cp:ρ y = .none:=yD (fun hn=>by have:=S.xl.rep.lt y hn;omega);clear cu hX hY;go_wp2_with fail;refine gh.out.mono ?_;rintro e w2 ⟨v2,ip,r,rfl,aj,g2,D2,⟨rfl,bf⟩|⟨e1,rfl,fv⟩⟩
  rotate_left
  ·obtain⟨t2,a2,rfl⟩:=e1.shape
   have g3:=aj.fit S.fit;go_wp2;go_ret;exact⟨r,aj,.inl ⟨fv,⟨_,rfl,e1⟩,S.gone kc g2 D2 (g3.mono (by omega))⟩⟩
  have F2:=aj.fit S.fit;have bj:=jb aj;clear aj;obtain⟨az,_⟩:=g2.row N.row N.nb.1
  have S2:StM E B w2 ρ d b r k m last s false (.slice O nr T) mv:=by
   have ba:ja wc w2 (fun i=>ρ i≠ .none\/i=b):=g2.keeps.mono (fun i _ h=> .inl h);refine⟨N.env.keep ba (fun i t=>t.elim (fun t=>S.xl.yx i t) (fun t=>by rw[t];exact S.nb.2)),D2,F2,az,N.runs.keep ba (fun _ p n c e t=>?_),ba.row N.mem (fun g hg t=>t.elim (fun t=>t (N.nm g hg).1) (N.nm g hg).2),N.nb,fun p n c e=>?_,N.nm,N.yy,N.rising,N.few,N.au⟩
   ·obtain⟨a1,a2,a3,a4,a5⟩:=N.nr p n c e
    exact t.elim (fun t=>t a1) a2
   ·obtain⟨a1,a2,a3,a4,a5⟩:=N.nr p n c e
    exact⟨a1,a2,a3,a4,ZA a5 ba.size⟩
  have G:=(g2.row HY.out cp).1;have e8:=(g2.row HX.out di).1;have y0:=zA (o:=0) G;have y1:=zA (o:=1) G;have y2:=zA (o:=2) G;have y3:=zA (o:=3) G;have y4:=zA (o:=4) G;have q3:=zB (o:=3) G;have q4:=zB (o:=4) G;simp at y0 y1 y2 y3 y4;obtain⟨w3,bc⟩:∃ w3,w3=(w2.setCell ⟨y,3,none⟩ (.int .i64 0)).setCell ⟨y,4,none⟩ (.slice none 0 0):=⟨_,rfl⟩;have k3:ja w2 w3 (fun i=>i=y):=by rw[bc];exact(ja.setCell w2 ⟨y,3,none⟩ _).set (p:=⟨y,4,none⟩) rfl _
  have e9:B<=y:=ZR S.xl.size hy;have dp:¬StF ρ b mv y:=fun h=>by have:=(S.old h).2;omega
  have dn:∀ p n c,(Value.slice O nr T) = .slice (some p) n c->y≠p.block:=fun p n c e h=>by
   have:=(S.nr p n c e).2.2.2.2;omega
  have S3:StM E B w3 ρ d b r k m last s false (.slice O nr T) mv:=S2.keep k3 (fun i hi e=>by rw[e];exact⟨e9,dp,dn⟩);have e5:w3.heap[y]?=some (.cells #[jg m.next,jg m.last,jg m.log,.int .i64 0,.slice none 0 0] 117 (0,0)):=by rw[bc];exact(jd (jd G _) _).trans rfl
  have e7:=k3.same e8 dq;have dj:ja w w3 (StF ρ b mv):=((kc.up).trans g2.keeps (fun i _ h=> .inl h)).trans k3 (fun i hi e=>by omega);have ds:v2.ownBlock≠some y:=fun e=>by have:=(bf.lt y e).1;have:=zC HY.out;omega
  have cs:=k3.row bf (fun g hg e=>ds (by rw[<-(show g=y from e)];exact hg))
  have em:∀ g,v2.ownBlock=some g->ρ g = .none/\w.heap.size<=g:=fun g hg=>by
   have h1:=(bf.lt g hg).1;have h2:=kc.size;exact⟨yD (fun hn=>by have:=S.xl.rep.lt g hn;omega),by omega⟩
  have f1:Hid (ja w w3 (fun i=>ρ i≠ .none\/i=b)):=(show ja w w3 _ from((kc.up).trans g2.keeps (fun i _ h=> .inl h)).trans k3 (fun i hi e=>by omega));have im:=dj.size;have ga:=jb e7;have g8:=jb e5;have cz:=jb cs;obtain⟨pv,cv,rfl⟩:=jm cs;have fx:=S.yy.log;have fu:=S.yy.1;have ez:Hid (m.log<=9223372036854775807):=jb (by omega);clear e8 G e7 e5 bf cs az fx fu D2 g2 S2 ds F2;have ae:=af.out;have a9:=ev.out
  have ft:∃ g0,pv=some ⟨g0,0,none⟩:=by
   rcases cz.out.2 with⟨e,h0⟩|⟨g,cap,iq,e,_⟩
   ·exact(ae (ZK h0)).elim
   ·cases e
    exact⟨g,rfl⟩
  obtain⟨g0,rfl⟩:=ft;have fw:(0:Int)<(live.length:Int):=by omega
  have en:decide ((0:Int)<(live.length:Int))=true:=by simp;omega
  have dx:m.next<2000000000:=by have:=HN.out;omega
  have cq:=Z8 g8.out dx;rw[<-ed.out] at cq;have gb:=jb cq;obtain⟨ml,ct⟩:∃ ml,ml=live.length:=⟨_,rfl⟩;rw[<-ct] at fw en ⊢;have gg:=jb ct;clear cq dx ae ct a9;go_wp2_with fail;rw[<-bc];clear bc y0 y1 y2 y3 y4 q3 q4;refine gb.out.mono ?_;rintro e w4 ⟨rfl,bg,k4⟩;have t3:=zA (o:=3) bg;have r3:=zB (o:=3) bg;simp at t3;obtain⟨w5,bb⟩:∃ w5,w5=w4.setCell ⟨y,3,none⟩ (jg m.next):=⟨_,rfl⟩;have k5:ja w3 w5 (fun i=>i=y):=by rw[bb];exact k4.set (p:=⟨y,3,none⟩) rfl _
  have e4:w5.heap[y]?=some (.cells #[jg n1,jg m.last,jg m.log,jg m.next,.slice none 0 0] 117 (0,0)):=by rw[bb];exact(jd bg _).trans rfl
  have U:StM E B w5 ρ d b r k m last s false (.slice O nr T) mv:=S3.keep k5 (fun i hi e=>by rw[e];exact⟨e9,dp,dn⟩);have e6:=k5.same ga.out dq
  have dw:=k5.row cz.out (fun g hg e=>by
   have h1:=(cz.out.lt g hg).1
   have h2:=zC HY.out
   have e':g=y:=e
   omega)
  have bd:=oq U.xl U.env (lo:=m.log) ez.out U.row;have b9:ja w w5 (StF ρ b mv):=dj.trans k5 (fun i hi e=>by omega);have ap:ja w w5 (fun i=>ρ i≠ .none\/i=b):=f1.out.trans k5 (fun i hi e=>by omega);have gd:=jb bd;have g9:=jb e6;have eb:=jb e4;have gf:=jb dw;clear bd e6 e4 dw bg;go_wp2_with fail;rw[<-bb];clear bb t3 r3;refine gd.out.mono ?_;rintro e q ⟨dh,V,bm,⟨a8,rfl⟩|⟨a8,ic,rfl,ca⟩⟩
  rotate_left
  ·obtain⟨ii,it,rfl⟩:=ca.shape
   go_wp2;go_ret;refine⟨r,bj.out,.inr ⟨_,false,?_,.inl ⟨rfl,⟨_,rfl,ca⟩,S.wj ap U.row V bm ((U.fit.qm _).mono (by omega))⟩⟩⟩;unfold Qj;rw[if_neg af.out];exact .inl ⟨Prod.ext rfl a8,rfl⟩
  have bk:=U.fit.qm (jh m.log);have cx:Fn (fun S=>S.qm (jh m.log)) r (r.qm (jh m.log)).1 true:=Prod.ext rfl a8;generalize (r.qm (jh m.log)).1=SD10 at bm bk cx;have ay:=jb cx;clear cx a8;obtain⟨ab,hb⟩:=V.row U.row U.nb.1;have cd:=(V.row eb.out cp).1;have M:=zA (o:=0) ab;have z3:=zA (o:=3) cd;simp at M z3;have M:q.drew.cell? ⟨b,0,none⟩=some (.pointer (some ⟨d,0,none⟩)):=M;have z3:q.drew.cell? ⟨y,3,none⟩=some (jg m.next):=z3;obtain⟨RB,bh⟩:∃ RB,RB=Rf.j6 live:=⟨_,rfl⟩;have fz:live.length<60000:=gi.out;have aa:=ew.out;have ch:=U.env.keep V.keeps (fun i t=>U.xl.yx i t);have J:=V.keeps.row gf.out (fun g hg t=>t (em g hg).1);have du:∀ W,ja q W (fun _=>False)->Calls prog 115 #[j7 m.next] W fun e w'=>e = .returned (jf (jo m.next))/\ja W w' (fun _=>False):=fun W A=>fy m.next (by have:=HN.out;omega) (ch.same A)
  have dz:∀ W,ja q W (fun _=>False)->Calls prog 116 #[.slice (some ⟨g0,0,none⟩) ml cv] W fun e w'=>∃ p c,e = .returned (.slice p RB.length c)/\w'.ownsRow q.heap.size 5 1 (.slice p RB.length c) RB.length (RB.map j5)/\ja W w' (fun _=>False):=fun W A=>by
   have g1:Chs W (.slice (some ⟨g0,0,none⟩) live.length cv) live:=(Je J).same A;rw[gg.out,bh];refine(Cm g0 0 cv live W g1 aa.some aa.allowed aa.few).mono ?_;rintro e w' ⟨p,c,rfl,h,k'⟩;exact⟨p,c,rfl,q7 h A.size,k'⟩
  have ai:(jo m.next).length<100:=by have:=yj (n:=m.next) (by have:=HN.out;omega);unfold jo;simp only[ZC,zP,zQ];omega
  have e0:∀(W:World) (v:Value),ja q W (fun _=>False)->W.ownsRow q.heap.size 5 1 v RB.length (RB.map j5)->Calls prog 114 #[.pointer (some ⟨d,0,none⟩),jf (jo m.next),v] W fun e w'=>∃ b7,e = .returned b7/\b8 E B q dh d SD10 (Xk (jo m.next) RB) (.returned b7) w':=fun W v A ad=>by
   have fr:=HS.out;rw[<-bh] at fr;refine(tj (bm.same A) bk (jo m.next) (Jc _) v RB (x7 ad) (Nb (fun i hi=>bm.rep.lt i hi) ad) (by have:=HK.out;omega)).mono ?_;intro e w' h;exact(h.before (xy.of A (fun _ _ h=>h.elim))).ret
  have cy:=jb du;have ee:=jb dz;have d1:=jb e0;have bi:=jb bh;have L:ja q q.drew (fun _=>False):=ja.drew _ _;clear du dz e0 bh aa ch J ai ab cd fz;obtain⟨rn,ar⟩:∃ rn,rn=jo m.next:=⟨_,rfl⟩;rw[<-ar] at cy d1;have F:=jb ar;clear ar;go_wp2_with fail
  go_cut [8] from 10 (fun s8 wd=>b8 E B q dh d SD10 (Xk rn RB) (.returned s8) wd)
  case first =>
   go_region_law (first
    | (refine jz rfl 115 [.tmp 49] _ rfl uy [j7 m.next] (by simp[Act.eval,Act.put]) (cy.out _ L) ?_
       rintro e fm ⟨rfl,H⟩
       try have ad:=H.row ad (fun _ _ h=>h)
       have M:=H.cell M id
       have z3:=H.cell z3 id
       have L:=L.tt H
       refine⟨_,rfl,?_⟩)
    | (refine jz rfl 116 [.tmp 51] _ rfl u0 [.slice (some ⟨g0,0,none⟩) ml cv] (by simp[Act.eval,Act.put]) (ee.out _ L) ?_
       rintro e fm ⟨pb,cb,rfl,ad,H⟩
       have M:=H.cell M id
       have z3:=H.cell z3 id
       have L:=L.tt H
       refine⟨_,rfl,?_⟩)
    | (refine jz rfl 114 [.tmp 47,.tmp 50,.tmp 52] _ rfl dm [.pointer (some ⟨d,0,none⟩),jf rn,.slice pb RB.length cb] (by simp[Act.eval,Act.put]) (d1.out _ _ L ad) ?_
       rintro e ia ⟨b7,rfl,g5⟩
       refine⟨_,rfl,?_⟩))
   all_goals
    go_wp2;go_meet
   all_goals exact g5
  case rest =>
   have ha:rn.length<100:=by have:=yj (n:=m.next) (by have:=HN.out;omega);rw[F.out];unfold jo;simp only[ZC,zP,zQ];omega
   have hc:RB.length<=20000:=by rw[bi.out];exact HS.out
   obtain⟨er,h9,am,fl,ea,ef,⟨z,cw⟩|⟨z,b7,cw,c9⟩⟩:=hcut
   rotate_left
   ·simp only at z
    subst z;cases cw;have an:=bk.Ef (by rw[F.out];exact Jc _) am;obtain⟨ig,is,rfl⟩:=c9.shape;have R:=V.trans ea;go_wp2;go_ret;refine⟨r,bj.out,.inr ⟨er,false,?_,.inl ⟨rfl,⟨_,rfl,c9⟩,S.wj ap U.row R ef (an.mono (by omega))⟩⟩⟩;unfold Qj;rw[if_neg af.out];exact .inr ⟨_,ay.out,.inl ⟨by rw[<-F.out,<-bi.out];exact am,rfl⟩⟩
   simp only at z;subst z;cases cw;have an:=bk.Ef (by rw[F.out];exact Jc _) am;have ci:=jb am;clear am;have R:=V.trans ea;obtain⟨bo,cc⟩:=R.row U.row U.nb.1;obtain⟨ce,eg⟩:=R.row g9.out di;have C:=(R.row eb.out cp).1;have t0:=zA (o:=0) C;have t1:=zA (o:=1) C;have t2:=zA (o:=2) C;have t3:=zA (o:=3) C;have t4:=zA (o:=4) C;simp at t0 t1 t2 t3 t4;have eq:=U.env.keep R.keeps (fun i t=>U.xl.yx i t);have bv:ja w wc (StF ρ b mv):=b9.trans R.keeps (fun i _ h=> .inl h);have av:ja w wc (fun i=>ρ i≠ .none\/i=b):=ap.trans R.keeps (fun i _ h=> .inl h);have il:=b9.size;have es:=jb ce;clear C ce M z3 L cy ee d1;have dy:ij m.zg (.slice none 0 0) = .agg #[jg n1,jg m.last,jg m.log,jg m.next,.slice none 0 0]:=by rw[ed.out];rfl
   have b0:Rf.Man.Good m.zg:=S.yy.zg HN.out;have io:Rf.Man.bytes m.zg=Rf.Man.bytes m.zg:=rfl;have c6:(Rf.Man.bytes m.zg).length=42:=by rw[ql];rfl
   have aw:=kt ef an eq m.zg b0 (by show([]:List Nat).length<65536;decide) (.slice none 0 0) (Jw.nil _) (fun p n c e=>by cases e) bo cc S.nb.2 (by have:=HK.out;omega);rw[dy] at aw;have f2:=jb aw;clear aw dy;go_wp2_with fail;refine f2.out.mono ?_;rintro e f ⟨ax,h8,cm,al,ag,I,bl,⟨Z,rfl⟩|⟨Z,ib,rfl,c8⟩,j⟩
   rotate_left
   ·subst Z
    rw[if_neg (by decide)] at j;have Y:=an.yr al;rw[c6] at Y;obtain⟨ie,ir,rfl⟩:=c8.shape;have A:ja w f (fun i=>ρ i≠ .none\/i=b):=av.trans ag (fun i hi h=>h.imp (fun h=>by rw[<-(show fl i=ρ i from R.role i (by have:=b9.size;omega))];exact h) id);have be:∀ i,i<w.heap.size->cm i=ρ i:=fun i hi=>(I i (ZA hi av.size)).trans (R.role i (by have:=b9.size;omega));go_wp2;go_ret;refine⟨r,bj.out,.inr ⟨ax,false,?_,.inl ⟨rfl,⟨_,rfl,c8⟩,S.next A be bl (Y.mono (by omega)) j⟩⟩⟩;unfold Qj;rw[if_neg af.out];exact .inr ⟨_,ay.out,.inr ⟨_,by rw[<-F.out,<-bi.out];exact ci.out,.inl ⟨al,rfl⟩⟩⟩
   subst Z;rw[if_pos rfl] at j;have Y:=an.yr al;rw[c6] at Y;have eu:=jb al;clear al;have fp:x≠b:=fun e=>by have:=S.blt;omega
   have D:=ag.same es.out (fun t=>t.elim (fun t=>t eg) fp);have ik:=bv.size;have h5:=ag.size;have ep:cm b = .none:=(I b (by have:=S.blt;omega)).trans cc;have aq:ja w f (StF ρ b mv):=bv.trans ag (fun i hi h=>h.elim (fun h=> .inl (by rw[<-(fun(i:Nat) (hi:i<w.heap.size)=>R.role i (by omega)) i hi];exact h)) (fun h=> .inr (.inl h)));have cg:Env E B f:=S.env.keep (aq.mono (fun i hi h=>(show B<=i from(S.old h).1))) (fun i h=>h)
   have cf:Jw f (.slice O nr T) m.runs:=S.runs.keep aq (fun _ p n c e t=>by
    obtain⟨a1,a2,a3,a4,a5⟩:=S.nr p n c e
    rcases t with t|t|t
    ·exact t a1
    ·exact a2 t
    ·exact a4 t)
   have M:=zA (o:=0) j;have x0:=zA (o:=0) D;have x1:=zA (o:=1) D;have x2:=zA (o:=2) D;have x3:=zA (o:=3) D;have x4:=zA (o:=4) D;simp at M x0 x1 x2 x3 x4;have M:f.drew.cell? ⟨b,0,none⟩=some (.pointer (some ⟨d,0,none⟩)):=M;have x0:f.drew.cell? ⟨x,0,none⟩=some (jg m.next):=x0;have x1:f.drew.cell? ⟨x,1,none⟩=some (jg m.last):=x1;have x2:f.drew.cell? ⟨x,2,none⟩=some (jg m.log):=x2;have x3:f.drew.cell? ⟨x,3,none⟩=some (jg m.base):=x3;have x4:f.drew.cell? ⟨x,4,none⟩=some (.slice O nr T):=x4;obtain⟨ns,ah⟩:∃ ns,ns=m.settled.length:=⟨_,rfl⟩;have bd:=xw m;have fs:=S.au
   have dr:∀ W,ja f W (fun _=>False)->Calls prog 121 #[ij m (.slice O nr T)] W fun e w'=>∃ p c,e = .returned (.slice p ns c)/\w'.ownsRow f.heap.size 3 1 (.slice p ns c) ns (m.settled.map jg)/\ja W w' (fun _=>False):=fun W A=>by
    rw[ah];refine(ao W m _ (cf.same A) (by omega)).mono ?_;rintro e w' ⟨p,c,rfl,h,k'⟩;exact⟨p,c,rfl,q7 h A.size,k'⟩
   have bw:∀(W:World) (v:Value),ja f W (fun _=>False)->W.ownsRow f.heap.size 3 1 v ns (m.settled.map jg)->Calls prog 120 #[v] W fun e w'=>∃ p c,e = .returned (.slice p ns c)/\w'.ownsRow f.heap.size 9 1 (.slice p ns c) ns ((m.settled.map jo).map jf)/\ja W w' (fun _=>False):=fun W v A hr=>by
    rw[ah] at hr ⊢;refine(lr v m.settled (cg.same A) (Jz hr rfl) (by omega) (fun n hn=>by have:=S.yy.2.2.1 n (xX _ hn);have:=S.yy.1;omega)).mono ?_;rintro e w' ⟨p,c,rfl,h,k'⟩;exact⟨p,c,rfl,q7 h A.size,k'⟩
   have dv:∀(W:World) (v:Value),ja f W (fun _=>False)->W.ownsRow f.heap.size 9 1 v ns ((m.settled.map jo).map jf)->Calls prog 118 #[.pointer (some ⟨d,0,none⟩),v] W fun e w'=>∃ co,e = .returned co/\Xm E B f cm d (jc.jr (m.settled.map jo) ax) (.returned co) w':=fun W v A hr=>by
    have ai:(m.settled.map jo).length=ns:=by rw[XB,ah]
    refine(Yg (bl.same A) (Y.small (by have:=HK.out;omega)) v (m.settled.map jo) f.heap.size (by rw[ai];exact hr) (fun g hg=>yD (fun hn=>by have:=(hr.lt g hg).1;have:=bl.rep.lt g hn;omega)) (fun n hn=>Y6 S.yy n (ZV.2 (.inl hn))) (by rw[ai];omega) (by have:=Y.safe;have:=HK.out;rw[ai];omega)).mono ?_;intro e w' h;exact(h.before (xy.of A (fun _ _ h=>h.elim))).ret
   have bz:ns<60001:=by omega
   have ey:=jb bz;have ex:Hid ((m.settled.map jo).length=ns):=jb (by rw[XB,ah]);have gc:=jb dr;have et:=jb bw;have ge:=jb dv;have bq:=jb j;have L:ja f f.drew (fun _=>False):=ja.drew _ _;clear dr bw dv ah bd fs j D cf bz;go_wp2_with fail
   go_region_law (first
    | (refine jz rfl 121 [.tmp 67] _ rfl Ya [ij m (.slice O nr T)] (by simp[Act.eval,Act.put]) (gc.out _ L) ?_
       rintro e i9 ⟨fo,g7,rfl,el,dl⟩
       have M:=dl.cell M id
       have L:=L.tt dl
       refine⟨_,rfl,?_⟩)
    | (refine jz rfl 120 [.tmp 68] _ rfl fe [.slice fo ns g7] (by simp[Act.eval,Act.put]) (et.out _ _ L el) ?_
       rintro e i8 ⟨fn,g6,rfl,ek,dk⟩
       have M:=dk.cell M id
       have L:=L.tt dk
       refine⟨_,rfl,?_⟩)
    | (refine jz rfl 118 [.tmp 66,.tmp 69] _ rfl mj [.pointer (some ⟨d,0,none⟩),.slice fn ns g6] (by simp[Act.eval,Act.put]) (ge.out _ _ L ek) ?_
       rintro e cn ⟨co,rfl,g4⟩
       refine⟨_,rfl,?_⟩))
   all_goals
    obtain⟨dg,ak,gm,bp⟩:=g4;have gl:=Y.jr (m.settled.map jo);have h6:=ey.out;have h7:=ex.out;go_wp2;go_ret;obtain⟨bn,eo⟩:=ak.row bq.out ep;have be:∀ i,i<w.heap.size->dg i=ρ i:=fun i hi=>(ak.role i (by omega)).trans ((I i (by omega)).trans ((fun(i:Nat) (hi:i<w.heap.size)=>R.role i (by omega)) i (by omega)));have eh:ja w cn (StF ρ b mv):=aq.trans ak.keeps (fun i hi t=> .inl (by rw[<-(fun(i:Nat) (hi:i<w.heap.size)=>R.role i (by omega)) i hi,<-I i (by omega)];exact t))
    have ei:cn.ownsRow B 88 3 mv s.length (jj s):=by
     have A:ja w cn (fun i=>ρ i≠ .none\/i=b):=(av.trans ag (fun i hi h=>h.imp (fun h=>by rw[<-(fun(i:Nat) (hi:i<w.heap.size)=>R.role i (by omega)) i hi];exact h) id)).trans ak.keeps (fun i hi t=> .inl (by rw[<-(fun(i:Nat) (hi:i<w.heap.size)=>R.role i (by omega)) i hi,<-I i (by omega)];exact t));exact A.row S.mem (fun g hg t=>t.elim (fun t=>t (S.nm g hg).1) (S.nm g hg).2)
    have ec:m.Xh live=m.zg:=by unfold Rf.Man.Xh;rw[if_neg af.out]
    refine⟨r,bj.out,.inr ⟨ax,true,?_,.inr ⟨rfl,bp,dg,.slice none 0 0,mv,⟨cg.keep ak.keeps (fun i t=>bl.yx i t),gm,gl.mono (by rw[h7];omega),?_,?_,ei,⟨eo,S.nb.2⟩,fun p n c e=>(by cases e),fun g hg=>⟨by rw[be g (S.mem.lt g hg).2];exact(S.nm g hg).1,(S.nm g hg).2⟩,?_,S.rising,S.few,?_⟩,eh,be,fun g hg=> .inl hg,fun p n c e=>(by cases e)⟩⟩⟩
    ·unfold Qj
     rw[if_neg af.out];exact .inr ⟨_,ay.out,.inr ⟨_,by rw[<-F.out,<-bi.out];exact ci.out,.inr ⟨_,eu.out,rfl,rfl⟩⟩⟩
    ·rw[ec]
     exact bn
    ·rw[ec]
     exact Jw.nil _
    ·rw[ec]
     exact b0
    ·rw[ec]
     exact ZD _
end Go.Proofs.YtnipbplghijdmaaGreatDoor

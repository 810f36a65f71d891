/-
  D: InstallR FlushR ReadR CompactR.
-/
import Derived.Test.YtnipbplghijdmaaGreatDoorD39
set_option maxRecDepth 100000
set_option maxHeartbeats 8000000
set_option linter.unusedVariables false
set_option linter.unusedSimpArgs false
namespace Go.Proofs.YtnipbplghijdmaaGreatDoor
open RowKit Maps WideShapes Go.Proofs.Tryz
variable {E:Nat->Addr} {B b d k:Nat} {w w':World} {mv rv:Value} {deg:Bool} {m:Rf.Man} {e:Ending}
def je4(E:Nat->Addr)(B:Nat)(w:World)(ρ:Nat->j3)(d b:Nat)(S:jc)(m:Rf.Man)(t:TypeId)(old new:Array Value)(e:Ending)(w':World):Prop :=
 ∃ S' ok ρ',yt m S S' ok/\ja w w' (fun i=>ρ i≠ .none\/i=b)/\(∀ i,i<w.heap.size->ρ' i=ρ i)/\Dk E B w' ρ' d S'/\jcj E w' e ok/\w'.heap[b]?=some (.cells (if ok=true then new else old) t (0,0))
theorem lg{ρ:Nat->j3}{S:jc}{t:TypeId}{a1 a2 a3 a4 a5 last:Value}{cl:Bool}(D:Dk E B w ρ d S)(F:Fit k S)(H:Env E B w)(m:Rf.Man)(hg:m.Good)(hr:m.runs.length<65536)(rv:Value)(hv:Jw w rv m.runs)(d2:∀ p n c,rv = .slice (some p) n c->ρ p.block = .none/\p.block≠b)(hb:w.heap[b]?=some (.cells (qv (.pointer (some ⟨d,0,none⟩)) a1 a2 a3 a4 a5 last mv deg cl) t (0,0)))(b4:ρ b = .none)(da:B<=b)(hk:k<540000000000) :
 Calls prog 117 #[.pointer (some ⟨b,0,none⟩),iu m rv] w (je4 E B w ρ d b S m t (qv (.pointer (some ⟨d,0,none⟩)) a1 a2 a3 a4 a5 last mv deg cl) (qv (.pointer (some ⟨d,0,none⟩)) (jg m.next) (jg m.last) (jg m.log) (jg m.base) rv last mv deg cl)):=by
 obtain⟨z,A,bo,d3⟩:=id hv;have c5:∃ n,rv = .slice z n A:=⟨_,bo⟩;clear bo d3;obtain⟨G,rfl⟩:=c5;have bu:=ql m;have bv:=hg.bounds;have d5:=hg.1;have x:=hg.2.2.1;have c8:=hg.log;have aq:∀ n∈m.settled,n<=9223372036854775807:=fun n hn=>by have:=x n (ZA.2 (.inl hn));omega
 have d4:=xy m;have d7:(jt m).length=m.settled.length+1:=by unfold jt;simp
 have a8:∀ r∈m.runs,r<m.next:=fun r hrr=>(x r (ZA.2 (.inl (by unfold Rf.Man.settled;split<;>simp[hrr])))).2
 have be:m.base<m.next:=by
  by_cases e:m.base=0
  ·omega
  ·exact(x m.base (ZA.2 (.inl (by unfold Rf.Man.settled;rw[if_neg e];simp)))).2
 have bd:=hg.2.1;obtain⟨box,Z⟩:∃ box,box=w.heap.size:=⟨_,rfl⟩;obtain⟨l,al⟩:∃ l,l=w.alloc (.cells #[jg m.next,jg m.last,jg m.log,jg m.base,.slice z G A] 117):=⟨_,rfl⟩;have f:ja w l (fun _=>False):=by rw[al];exact ja.alloc _ _ _
 have bm:l.heap[box]?=some (.cells #[jg m.next,jg m.last,jg m.log,jg m.base,.slice z G A] 117 (0,0)):=by rw[al,Z];exact je w _
 have bw:=f.same hb id;have dz:=zC hb;have az:b≠box:=by omega
 have D1:=D.same f;have cg:∀ i,ρ i≠ .none->B<=i/\i<w.heap.size:=fun i hi=>⟨D.yz i hi,D.rep.lt i hi⟩;have bj:ρ box = .none:=yE (fun hn=>by have:=D.rep.lt box hn;omega);have X:∀ W,ja l W (fun i=>ρ i≠ .none)->Jw W (.slice z G A) m.runs:=fun W kk=>(hv.same f).keep kk (fun _ p n c e t=>t (d2 p n c e).1);have Y:∀ W,ja l W (fun i=>ρ i≠ .none)->Env E B W:=fun W kk=>(H.same f).keep kk (fun i t=>D.yz i t)
 have ay:∀ W,ja l W (fun _=>False)->Calls prog 165 #[iu m (.slice z G A)] W fun e w'=>∃ p c,e = .returned (.slice p (jt m).length c)/\w'.ownsRow l.heap.size 9 1 (.slice p (jt m).length c) (jt m).length ((jt m).map jf)/\ja W w' (fun _=>False):=fun W kk=>by
  have ak:ja l W (fun i=>ρ i≠ .none):=kk.up;refine(Aq m (.slice z G A) (Y W ak) (X W ak) (by omega) aq (by omega)).mono ?_;rintro e w' ⟨p,c,rfl,h,k'⟩;exact⟨p,c,rfl,xd h kk.size,k'⟩
 have a0:∀(W:World) (v:Value),ja l W (fun _=>False)->W.ownsRow l.heap.size 9 1 v (jt m).length ((jt m).map jf)->Calls prog 164 #[.pointer (some ⟨d,0,none⟩),v] W fun e w'=>∃ v3,e = .returned v3/\Xr E B l ρ d (jc.xx (jt m) S) (.returned v3) w':=fun W v kk hrow=>by
  refine(As (D1.same kk) v (jt m) l.heap.size hrow (fun g hg=>yE (fun hn=>by have:=(hrow.lt g hg).1;have:=D1.rep.lt g hn;omega)) (Za hg) (by omega) (by have:=F.safe;omega)).mono ?_;intro e w' h;have h':=h.before (x7.of kk (fun _ _ h=>h.elim));obtain⟨ρ',g,D',⟨_,M⟩|⟨_,v3,M,_⟩⟩:=id h'
  ·exact⟨_,M,M▸h'⟩
  ·exact⟨_,M,M▸h'⟩
 have b2:=jb ay;have a9:=jb a0;have an:=jb bw;have u:=jb bm;have dg:=jb Z;have ca:=jb X;have e0:=jb Y;have dh:=jb bv;have c4:=jb bu;have e2:=jb az;have df:Hid ((m.next:Int)<=9223372036854775807/\(m.last:Int)<=9223372036854775807/\(m.log:Int)<=9223372036854775807/\(m.base:Int)<=9223372036854775807/\∀ r∈m.runs,(r:Int)<=9223372036854775807):=(show _/\_ from⟨by omega,by omega,by omega,by omega,fun r hrr=>by have:=a8 r hrr;omega⟩);have HR:=jb hr;have HK:=jb hk;obtain⟨nF,bp⟩:∃ nF,nF=(jt m).length:=⟨_,rfl⟩;rw[<-bp] at b2 a9;clear ay a0 bw bm X Y bv bu d5 x c8 aq d4 d7 a8 be bd hb hr hk az Z bp;have J:=zA (o:=0) an.out;have x0:=zA (o:=0) u.out;have x1:=zA (o:=1) u.out;have x2:=zA (o:=2) u.out;have x3:=zA (o:=3) u.out;have x4:=zA (o:=4) u.out;simp at J x0 x1 x2 x3 x4;have J:l.drew.cell? ⟨b,0,none⟩=some (.pointer (some ⟨d,0,none⟩)):=J;have x0:l.drew.cell? ⟨box,0,none⟩=some (jg m.next):=x0;have x1:l.drew.cell? ⟨box,1,none⟩=some (jg m.last):=x1;have x2:l.drew.cell? ⟨box,2,none⟩=some (jg m.log):=x2;have x3:l.drew.cell? ⟨box,3,none⟩=some (jg m.base):=x3;have x4:l.drew.cell? ⟨box,4,none⟩=some (.slice z G A):=x4;have kc:ja l l.drew (fun _=>False):=ja.drew _ _;go_enter func117,ntmps117;go_wp2_with fail;rw[<-al,<-dg.out];clear al
 go_region_law (first
  | (refine jx rfl 165 [.tmp 13] _ rfl Ik [iu m (.slice z G A)] (by simp[Act.eval,Act.put]) (b2.out _ kc) ?_
     rintro e w2 ⟨pf,cf,rfl,b5,k2⟩
     have J:=k2.cell J id
     have kc:=kc.tt k2
     refine⟨_,rfl,?_⟩)
  | (refine jx rfl 164 [.tmp 12,.tmp 14] _ rfl sd [.pointer (some ⟨d,0,none⟩),.slice pf nF cf] (by simp[Act.eval,Act.put]) (a9.out _ _ kc b5) ?_
     rintro e y ⟨v3,rfl,d9⟩
     refine⟨_,rfl,?_⟩))
 all_goals
  obtain⟨ρ3,I,D3,bc⟩:=d9;have F3:=F.xx (jt m);rcases bc with⟨aj,e3⟩|⟨aj,eg,e3,bt⟩
  rotate_left
  ·cases e3
   obtain⟨t3,a3,rfl⟩:=bt.shape;have R:=I.keeps.same an.out (fun t=>t b4);go_wp2;go_ret;exact⟨_,_,ρ3,.inl ⟨Prod.ext rfl aj,rfl⟩,((f.up).trans I.keeps (fun i _ h=> .inl h)),fun i hi=>I.role i (ZH hi f.size),D3,.inr ⟨rfl,_,rfl,bt⟩,R⟩
  cases e3;generalize hS3:(jc.xx (jt m) S).1=S3 at D3 F3;have r3:Fn (jc.xx (jt m)) S S3 true:=Prod.ext hS3 aj;clear hS3 aj;have am:=jb r3;clear r3;have R:=I.keeps.same an.out (fun t=>t b4);have s:=I.keeps.same u.out (fun t=>t bj);have V:ρ3 b = .none:=(I.role b (zC an.out)).trans b4;have av:ρ3 box = .none:=(I.role box (zC u.out)).trans bj
  have ax:∀ W,ja y W (fun _=>False)->Calls prog 166 #[iu m (.slice z G A)] W fun e w'=>∃ p c,e = .returned (.slice p m.bytes.length c)/\w'.ownsRow y.heap.size 5 1 (.slice p m.bytes.length c) m.bytes.length (m.bytes.map j5)/\ja W w' (fun _=>False):=fun W kk=>by
   have ak:ja l W (fun i=>ρ i≠ .none):=I.keeps.trans kk (fun _ _ h=>h.elim);refine(Nx W m (.slice z G A) (ca.out W ak) (by have:=HR.out;omega) dh.out df.out).mono ?_;rintro e w' ⟨p,c,rfl,h,k'⟩;exact⟨p,c,rfl,xd h kk.size,k'⟩
  have aw:∀(W:World) (v:Value),ja y W (fun _=>False)->W.ownsRow y.heap.size 5 1 v m.bytes.length (m.bytes.map j5)->Calls prog 114 #[.pointer (some ⟨d,0,none⟩),jf jq,v] W fun e w'=>∃ v5,e = .returned v5/\cd E B y ρ3 d S3 (Xp jq m.bytes) (.returned v5) w':=fun W v kk hrow=>by
   refine(tr (D3.same kk) F3 jq (by decide) v m.bytes (xr hrow) (Nt (fun i hi=>D3.rep.lt i hi) hrow) (by have:=HK.out;have:=c4.out;have:=HR.out;have:jq.length=12:=rfl;omega)).mono ?_;intro e w' h;have h':=h.before (x7.of kk (fun _ _ h=>h.elim));obtain⟨S5,d1,r5,ρ',g,D',⟨_,M⟩|⟨_,v3,M,_⟩⟩:=id h'
   ·exact⟨_,M,M▸h'⟩
   ·exact⟨_,M,M▸h'⟩
  have b1:=jb ax;have b0:=jb aw;have J:=zA (o:=0) R;have x0:=zA (o:=0) s;have x1:=zA (o:=1) s;have x2:=zA (o:=2) s;have x3:=zA (o:=3) s;have x4:=zA (o:=4) s;simp at J x0 x1 x2 x3 x4;have J:y.drew.cell? ⟨b,0,none⟩=some (.pointer (some ⟨d,0,none⟩)):=J;have x0:y.drew.cell? ⟨box,0,none⟩=some (jg m.next):=x0;have x1:y.drew.cell? ⟨box,1,none⟩=some (jg m.last):=x1;have x2:y.drew.cell? ⟨box,2,none⟩=some (jg m.log):=x2;have x3:y.drew.cell? ⟨box,3,none⟩=some (jg m.base):=x3;have x4:y.drew.cell? ⟨box,4,none⟩=some (.slice z G A):=x4;have kc:ja y y.drew (fun _=>False):=ja.drew _ _;have ba:=jb R;have c2:=jb s;obtain⟨nB,b6⟩:∃ nB,nB=m.bytes.length:=⟨_,rfl⟩;rw[<-b6] at b1 b0;have eh:=jb b6;clear ax aw R s b6;go_wp2_with fail
  go_region_law (first
   | (refine jx rfl 166 [.tmp 23] _ rfl Ij [iu m (.slice z G A)] (by simp[Act.eval,Act.put]) (b1.out _ kc) ?_
      rintro e w4 ⟨d0,db,rfl,b5,k4⟩
      have J:=k4.cell J id
      have kc:=kc.tt k4
      refine⟨_,rfl,?_⟩)
   | (refine jx rfl 114 [.tmp 22,.const (jf jq),.tmp 24] _ rfl dr [.pointer (some ⟨d,0,none⟩),jf jq,.slice d0 nB db] (by simp[Act.eval,Act.put]) (b0.out _ _ kc b5) ?_
      rintro e w5 ⟨v5,rfl,d8⟩
      refine⟨_,rfl,?_⟩))
 all_goals
  obtain⟨S5,d1,r5,ρ5,g5,D5,bb⟩:=d8;rcases bb with⟨q,e5⟩|⟨q,ef,e5,bs⟩
  rotate_left
  ·cases e5
   obtain⟨t5,a5,rfl⟩:=bs.shape;have O:=g5.keeps.same ba.out (fun t=>t V);have L:=I.trans g5;simp only at q;subst q;go_wp2;go_ret;exact⟨_,_,ρ5,.inr ⟨_,am.out,.inl ⟨r5,rfl⟩⟩,((f.up).trans L.keeps (fun i _ h=> .inl h)),fun i hi=>L.role i (ZH hi f.size),D5,.inr ⟨rfl,_,rfl,bs⟩,O⟩
  cases e5;simp only at q;subst q;have F5:=F3.Du (by decide) r5;have b7:=jb r5;clear r5;have O:=g5.keeps.same ba.out (fun t=>t V);have bl:=g5.keeps.same c2.out (fun t=>t av);have U:ρ5 b = .none:=(g5.role b (zC ba.out)).trans V;have au:ρ5 box = .none:=(g5.role box (zC c2.out)).trans av;have bz:=zA (o:=0) O;simp at bz;have bn:=r9 D5 jq (by decide);have dd:=jb bn;have b9:=jb O;have c1:=jb bl;clear bn O bl J x0 x1 x2 x3 x4;go_wp2_with fail;refine dd.out.mono ?_;rintro e w6 ⟨ρ6,g6,D6,⟨ai,rfl⟩|⟨ai,v6,rfl,br⟩⟩
  rotate_left
  ·obtain⟨t6,a6,rfl⟩:=br.shape
   have N:=g6.keeps.same b9.out (fun t=>t U);have L:=(I.trans g5).trans g6;go_wp2;go_ret;exact⟨_,_,ρ6,.inr ⟨_,am.out,.inr ⟨_,b7.out,.inl ⟨Prod.ext rfl ai,rfl⟩⟩⟩,((f.up).trans L.keeps (fun i _ h=> .inl h)),fun i hi=>L.role i (ZH hi f.size),D6,.inr ⟨rfl,_,rfl,br⟩,N⟩
  have F6:=F5.qn jq;generalize hS6:(S5.qn jq).1=S6 at D6 F6;have r6:Fn (fun S=>S.qn jq) S5 S6 true:=Prod.ext hS6 ai;clear hS6 ai;have c3:=jb r6;clear r6;have N:=g6.keeps.same b9.out (fun t=>t U);have bk:=g6.keeps.same c1.out (fun t=>t au);have T:ρ6 b = .none:=(g6.role b (zC b9.out)).trans U;have c7:ρ6 box = .none:=(g6.role box (zC c1.out)).trans au;have bx:=zA (o:=0) N;simp at bx;have d6:k+1+jq.length+m.bytes.length<549755813000:=by have:=HK.out;have:=c4.out;have:=HR.out;have:jq.length=12:=rfl;omega
  have ar:=Dv D6 (F6.small (by omega)) jq ji (by decide) (by decide) (by have:=F6.safe;omega);have c9:=jb ar;have b8:=jb N;have dc:=jb bk;clear ar N bk bz d6;go_wp2_with fail;refine c9.out.mono ?_;rintro e w7 ⟨ρ7,g7,D7,⟨ah,rfl⟩|⟨ah,v7,rfl,bq⟩⟩
  rotate_left
  ·obtain⟨t7,a7,rfl⟩:=bq.shape
   have j:=g7.keeps.same b8.out (fun t=>t T);have L:=((I.trans g5).trans g6).trans g7;go_wp2;go_ret;exact⟨_,_,ρ7,.inr ⟨_,am.out,.inr ⟨_,b7.out,.inr ⟨_,c3.out,.inl ⟨Prod.ext rfl ah,rfl⟩⟩⟩⟩,((f.up).trans L.keeps (fun i _ h=> .inl h)),fun i hi=>L.role i (ZH hi f.size),D7,.inr ⟨rfl,_,rfl,bq⟩,j⟩
  have r7:Fn (fun S=>xu (S.qt jq ji)) S6 (xu (S6.qt jq ji)).1 true:=Prod.ext rfl ah;generalize (xu (S6.qt jq ji)).1=S7 at D7 r7;have de:=jb r7;clear r7 ah;have j:=g7.keeps.same b8.out (fun t=>t T);have C:=g7.keeps.same dc.out (fun t=>t c7);have c6:ρ7 b = .none:=(g7.role b (zC b8.out)).trans T;have x0:=zA (o:=0) C;have x1:=zA (o:=1) C;have x2:=zA (o:=2) C;have x3:=zA (o:=3) C;have x4:=zA (o:=4) C;have y1:=zA (o:=1) j;have y2:=zA (o:=2) j;have y3:=zA (o:=3) j;have y4:=zA (o:=4) j;have y5:=zA (o:=5) j;have f1:=zB (o:=1) j;have f2:=zB (o:=2) j;have f3:=zB (o:=3) j;have f4:=zB (o:=4) j;have f5:=zB (o:=5) j;simp at x0 x1 x2 x3 x4 y1 y2 y3 y4 y5;have di:=jb j;have L:x7 l ρ w7 ρ7:=((I.trans g5).trans g6).trans g7;clear j C bx;go_wp2;go_ret;have ks:=((((ja.setCell w7 ⟨b,1,none⟩ (jg m.next)).set (p:=⟨b,2,none⟩) rfl (jg m.last)).set (p:=⟨b,3,none⟩) rfl (jg m.log)).set (p:=⟨b,4,none⟩) rfl (jg m.base)).set (p:=⟨b,5,none⟩) rfl (.slice z G A);refine⟨S7,true,ρ7,.inr ⟨_,am.out,.inr ⟨_,b7.out,.inr ⟨_,c3.out,.inr ⟨_,de.out,rfl,rfl⟩⟩⟩⟩,((f.up).trans L.keeps (fun i _ h=> .inl h)).trans ks (fun i _ e=> .inr e),fun i hi=>L.role i (ZH hi f.size),?_,.inl ⟨rfl,rfl⟩,?_⟩
  ·exact⟨D7.rep.keep ks (fun i e _=>by rw[e];exact c6),D7.z8.keep ks (fun i e=>by rw[e];exact da),D7.yz,ZI D7.size ks.size⟩
  ·exact(jd (jd (jd (jd (jd di.out _) _) _) _) _).trans rfl
theorem Sw{W:World}{ρ:Nat->j3}{S:jc}(D:Dk E B W ρ d S)(v:Value)(l:List Rf.Ch)(b:Chs W v l)(g:l.length<1048576)(j:∀ p n c,v = .slice (some p) n c->ρ p.block = .none/\p.block<W.heap.size) :
 Calls prog 111 #[Bx v,jf []] W fun e w'=>∃ v',e = .returned (.tuple #[v',.nilIface])/\w'.ownsRow W.heap.size 88 3 v' l.length (jj l)/\x7 W ρ w' ρ/\Dk E B w' ρ d S:=by
 refine(vw (Needs:=jah B v) (Start:=fun W'=>Chs W' v l/\Dk E B W' ρ d S) fo (fun n=>fg v l g) (fun i hi=>?_) (fun W' k'=>⟨b.same k',D.same k'⟩) D.rep.lt D.size [] g).mono ?_
 ·rcases hi with h|⟨p,n,c,e,rfl⟩
  ·have:=D.size
   omega
  ·exact(j p n c e).2
 ·rintro e w' ⟨v',q,rfl,k,o,⟨rfl,f,_⟩|⟨bad,m,_⟩⟩
  ·rw[jcn] at f
   exact⟨v',rfl,f,⟨k,fun _ _=>rfl⟩,o⟩
  ·cases m
theorem StM.gone{wc:World}{ρ f:Nat->j3}{k':Nat}{S S':jc}{last:Nat}{ml:List Rf.Ch}(h:StM E B w ρ d b S k m last ml deg rv mv)(c:ja w wc (fun _=>False))(g:x7 wc ρ w' f)(D:Dk E B w' f d S')(F:Fit k' S'):y8 E B w ρ d b rv mv S' k' m last ml deg w' :=
 h.next ((c.up).trans g.keeps (fun i _ t=> .inl t)) (fun i hi=>g.role i (ZH hi c.size)) D F (g.keeps.same (c.same h.row id) (fun t=>t h.nb.1))
theorem Xr.ret{ρ:Nat->j3}{F:jc×Bool}(h:Xr E B w ρ d F e w'):∃ v,e = .returned v/\Xr E B w ρ d F (.returned v) w':=by
 obtain⟨c,g,i,⟨_,b⟩|⟨_,f,b,_⟩⟩:=id h
 ·exact⟨_,b,b▸h⟩
 ·exact⟨_,b,b▸h⟩
theorem cd.ret{ρ:Nat->j3}{S:jc}{R:DStep}(h:cd E B w ρ d S R e w'):∃ v,e = .returned v/\cd E B w ρ d S R (.returned v) w':=by
 obtain⟨S',b,r,h⟩:=h;obtain⟨v,f,c⟩:=h.ret;exact⟨v,f,S',b,r,c⟩
def r8(m:Rf.Man)(last:Nat)(ml:List Rf.Ch):DStep:=nj [Fn (fun S=>S.qn (jh m.log)),Xp (jo m.next) (Rf.j7 ml),Xp (jh (m.next+1)) [],yt (m.yh last)]
def Y4(E:Nat->Addr)(B:Nat)(w:World)(ρ:Nat->j3)(d b:Nat)(rv mv:Value)(S:jc)(k:Nat)(m:Rf.Man)(last:Nat)(ml:List Rf.Ch)(e:Ending)(w':World):Prop :=
 ∃ S1 ok1,r8 m last ml S S1 ok1 /\
  ((ok1=false/\(∃ v,e = .returned v/\Err E w' v 1)/\y8 E B w ρ d b rv mv S1 (k+70000) m last ml false w') \/
   (ok1=true/\jcj E w' e (jc.jr [jh m.log] S1).2/\y8 E B w ρ d b rv mv (jc.jr [jh m.log] S1).1 (k+70000) (m.yh last) last [] false w'))
theorem jfy{ρ:Nat->j3}{SD:jc}{last:Nat}{f:List Rf.Ch}(S:StM E B w ρ d b SD k m last f false rv mv)(hk:k<530000000000)(bu:Rf.sx f)(dd:last<=1000000000)(hn:m.next+2<=2000000000)(hr:m.runs.length+1<60000)(ez:(Rf.j7 f).length<=20000)(f8:(m.yh last).bytes.length<=20000) :
 Calls prog 68 #[.pointer (some ⟨b,0,none⟩)] w (Y4 E B w ρ d b rv mv SD k m last f):=by
 obtain⟨pr,cr,ew,hm⟩:=id S.runs;have g4:∃ n,rv = .slice pr n cr:=⟨_,ew⟩;clear ew hm;obtain⟨q,rfl⟩:=g4
 have bd:Hid (q=m.runs.length):=by
  obtain⟨p',c',e,_⟩:=S.runs;cases e;rfl
 obtain⟨j0,hj,hh,hf,he⟩:=info_parts Tryz.Fg;obtain⟨J,d3⟩:∃ J,J=m.next+1:=⟨_,rfl⟩;obtain⟨n2,d2⟩:∃ n2,n2=J+1:=⟨_,rfl⟩;have V:=jb d3;have ft:=jb d2;clear d3 d2;have r:=S.row;have c1:=zA (o:=1) r;have c2:=zA (o:=2) r;have c3:=zA (o:=3) r;have c4:=zA (o:=4) r;have c5:=zA (o:=5) r;simp at c1 c2 c3 c4 c5;have a1:∀ o1,(w.alloc o1).cell? ⟨b,1,none⟩=some (jg m.next):=fun o1=>(ja.alloc w o1 (fun _=>False)).cell c1 id;have b1:∀ o1 o2,((w.alloc o1).alloc o2).cell? ⟨b,1,none⟩=some (jg m.next):=fun o1 o2=>((ja.alloc w o1 (fun _=>False)).more o2).cell c1 id;have a2:∀ o1,(w.alloc o1).cell? ⟨b,2,none⟩=some (jg m.last):=fun o1=>(ja.alloc w o1 (fun _=>False)).cell c2 id;have b2:∀ o1 o2,((w.alloc o1).alloc o2).cell? ⟨b,2,none⟩=some (jg m.last):=fun o1 o2=>((ja.alloc w o1 (fun _=>False)).more o2).cell c2 id;have a3:∀ o1,(w.alloc o1).cell? ⟨b,3,none⟩=some (jg m.log):=fun o1=>(ja.alloc w o1 (fun _=>False)).cell c3 id;have b3:∀ o1 o2,((w.alloc o1).alloc o2).cell? ⟨b,3,none⟩=some (jg m.log):=fun o1 o2=>((ja.alloc w o1 (fun _=>False)).more o2).cell c3 id;have a4:∀ o1,(w.alloc o1).cell? ⟨b,4,none⟩=some (jg m.base):=fun o1=>(ja.alloc w o1 (fun _=>False)).cell c4 id;have b4:∀ o1 o2,((w.alloc o1).alloc o2).cell? ⟨b,4,none⟩=some (jg m.base):=fun o1 o2=>((ja.alloc w o1 (fun _=>False)).more o2).cell c4 id;have a5:∀ o1,(w.alloc o1).cell? ⟨b,5,none⟩=some (.slice pr q cr):=fun o1=>(ja.alloc w o1 (fun _=>False)).cell c5 id;have b5:∀ o1 o2,((w.alloc o1).alloc o2).cell? ⟨b,5,none⟩=some (.slice pr q cr):=fun o1 o2=>((ja.alloc w o1 (fun _=>False)).more o2).cell c5 id;have HN:=jb hn;have HR:=jb hr;have HS:=jb ez;have ed:=jb f8;have dt:=jb bu;have dw:=jb dd;have HK:=jb hk;have gg:=jb r;clear r hn hr ez f8 bu dd hk;go_enter func68,ntmps68;go_wp2_with fail
 go_cut [3,4] from 12 (fun s3 s4 wc=>∃(x y:Nat),s3 = .pointer (some ⟨x,0,none⟩)/\s4 = .pointer (some ⟨y,0,none⟩)/\x≠y/\w.heap.size<=x/\w.heap.size<=y/\wc.heap[x]?=some (.cells #[jg m.next,jg m.last,jg m.log,jg m.base,.slice pr q cr] 117 (0,0)) /\
  wc.heap[y]?=some (.cells #[jg m.next,jg m.last,jg m.log,jg m.base,.slice pr q cr] 117 (0,0))/\ja w wc (fun _=>False))
 case first =>
  go_region
  all_goals
   go_wp2;go_meet
  case rel =>
   obtain⟨h1,h2,h3⟩:=di w (.cells #[jg m.next,jg m.last,jg m.log,jg m.base,.slice pr q cr] 117)
   first
    | exact⟨_,_,rfl,rfl,by omega,by omega,by omega,h1,h2,h3⟩
    | exact⟨_,_,rfl,rfl,by omega,by omega,by omega,h2,h1,h3⟩
  case rel =>
   obtain⟨h1,h2,h3⟩:=di w (.cells #[jg m.next,jg m.last,jg m.log,jg m.base,.slice pr q cr] 117)
   first
    | exact⟨_,_,rfl,rfl,by omega,by omega,by omega,h1,h2,h3⟩
    | exact⟨_,_,rfl,rfl,by omega,by omega,by omega,h2,h1,h3⟩
 case rest =>
  obtain⟨x,y,rfl,rfl,b6,hx,hy,hX,hY,kc⟩:=hcut;clear a1 a2 a3 a4 a5 b1 b2 b3 b4 b5 c1 c2 c3 c4 c5;have HX:=jb hX;have f4:m.next<2000000000:=by have:=HN.out;omega
  have bj:=ab hY f4;rw[<-V.out] at bj;have gf:=jb bj;clear bj hX hY f4;go_wp2_with fail;refine gf.out.mono ?_;rintro e w2 ⟨rfl,fg,k2⟩;have hd:ja w w2 (fun _=>False):=kc.trans k2 (fun i hi e=>by omega);have i7:=jb (k2.same HX.out b6);have f3:J<2000000000:=by have:=HN.out;have:=V.out;omega
  have bi:=ab fg f3;rw[<-ft.out] at bi;have ge:=jb bi;clear bi fg f3;go_wp2_with fail;refine ge.out.mono ?_;rintro e w3 ⟨rfl,cl,k3⟩;have hc:ja w w3 (fun _=>False):=hd.trans k3 (fun i hi e=>by omega);have i6:=jb (k3.same i7.out b6);have y2:=zA (o:=2) cl;have g2:=zB (o:=2) cl;simp at y2;have i3:=jb cl;clear cl;go_wp2_with fail;obtain⟨s,b7⟩:∃ s,s=w3.setCell ⟨y,2,none⟩ (jg J):=⟨_,rfl⟩;rw[<-b7];have N:ja w s (fun _=>False):=by rw[b7];exact hc.Xd hy _
  have e5:s.heap[y]?=some (.cells #[jg n2,jg m.last,jg J,jg m.base,.slice pr q cr] 117 (0,0)):=by rw[b7];exact(jd i3.out _).trans rfl
  have eb:Hid (s.heap[x]?=some (.cells #[jg m.next,jg m.last,jg m.log,jg m.base,.slice pr q cr] 117 (0,0))):=by rw[b7];exact(ja.setCell w3 ⟨y,2,none⟩ _).same i6.out b6
  have ea:=jb e5;have bx:=jb (N.same gg.out id);have l6:=zA (o:=6) bx.out;have y4:=zA (o:=4) e5;simp at l6 y4;have hb:∀ o1,(s.alloc o1).cell? ⟨b,6,none⟩=some (jg last):=fun o1=>(ja.alloc s o1 (fun _=>False)).cell l6 id;have h7:∀ o1,(s.alloc o1).cell? ⟨y,4,none⟩=some (.slice pr q cr):=fun o1=>(ja.alloc s o1 (fun _=>False)).cell y4 id;have a0:ja s (s.alloc (.cells #[jg m.next] 3)).drew (fun _=>False):=(ja.alloc s _ _).draw;have d7:(s.alloc (.cells #[jg m.next] 3)).drew.ownsRow w.heap.size 3 1 (.slice (some ⟨s.heap.size,0,none⟩) 1 1) 1 [jg m.next]:=(ja.drew _ (fun _=>False)).row (World.ownsRow_lit (base:=w.heap.size) (e:=3) (size:=1) s #[jg m.next] 1 N.size (by unfold maxLen;omega) rfl) (fun _ _ h=>h)
  have cz:Src prog 1 39 (.slice pr q cr) q (m.runs.map jg) (s.alloc (.cells #[jg m.next] 3)).drew:=by
   have:=(S.runs.same (N.tt a0)).src;rw[<-bd.out] at this;exact this
  have dv:=jb d7;have dq:=jb cz;have fk:Hid (1+q<=maxLen):=jb (by have:=HR.out;have:=bd.out;unfold maxLen;omega);have de:Hid ((1+q)*8<=140737488355328):=jb (by have:=HR.out;have:=bd.out;omega);have fd:w.heap.size<=(s.alloc (.cells #[jg m.next] 3)).drew.heap.size:=ZI N.size a0.size;have fi:=a0.same eb.out id;have ff:=a0.same ea.out id;have i5:=jb fi;have i2:=jb ff;have g8:x<s.heap.size:=zC eb.out;have g7:y<s.heap.size:=zC ea.out;have d5:b<s.heap.size:=zC bx.out;clear b7 d7 cz e5 fi ff y2 g2
  go_cut [] from 12 (fun wc=>∃(p:Option Addr) (c:Nat),wc.heap[y]?=some (.cells #[jg n2,jg last,jg J,jg m.base,.slice p (1+q) c] 117 (0,0))/\wc.ownsRow w.heap.size 3 1 (.slice p (1+q) c) (1+q) ((m.next::m.runs).map jg) /\
   wc.heap[x]?=some (.cells #[jg m.next,jg m.last,jg m.log,jg m.base,.slice pr q cr] 117 (0,0))/\(∀ g,(Value.slice p (1+q) c).ownBlock=some g->s.heap.size<=g)/\ja w wc (fun _=>False))
  case first =>
   go_region_law (
    refine Yh rfl (.tmp 40) (.tmp 42) 39 39 rfl w.heap.size 3 j0 (.int .i64 0) 1 8 underlying39 hj hh hf he rfl ZJ (.slice (some ⟨s.heap.size,0,none⟩) 1 1) 1 [jg m.next] (by simp[Act.eval,Act.put]) dv.out (.slice pr q cr) q (m.runs.map jg) (by simp[Act.eval,Act.put]) dq.out fk.out de.out fd ?_
    intro p6 c6 w6 f1 ht fa
    have k6:ja s w6 (fun i=>s.heap.size<=i):=(a0.up).trans (ja.grown ht) (fun i _ e=>by cases e;exact zJ _)
    have au:=k6.same ea.out (Nat.not_le.2 g7)
    have fq:=jb (k6.same eb.out (Nat.not_le.2 g8))
    have l2:=k6.cell l6 (Nat.not_le.2 d5)
    have z1:=zA (o:=1) au
    have z4:=zA (o:=4) au
    have q1:=zB (o:=1) au
    have q4:=zB (o:=4) au
    simp at z1 z4
    have fp:=jb au
    have fs:=jb f1
    have ie:=jb fa
    clear au f1 fa)
   all_goals
    go_wp2;go_meet
   all_goals
    have O:∀ g,(Value.slice p6 (1+q) c6).ownBlock=some g->s.heap.size<=g:=fun g hg=>by
     rcases ie.out with h|h
     ·rw[h] at hg
      cases hg;exact zJ _
     ·rw[h] at hg
      cases hg;exact a0.size
    have eq:ja w w6 (fun _=>False):=N.trans k6 (fun i hi h=>by have:=N.size;omega)
    first
     | exact⟨p6,c6,(jd (jd fp.out _) _).trans rfl,((ja.setCell w6 ⟨y,1,none⟩ _).set (p:=⟨y,4,none⟩) rfl _).row fs.out (fun g hg e=>by have:=O g hg;have e':g=y:=e;omega),((ja.setCell w6 ⟨y,1,none⟩ _).set (p:=⟨y,4,none⟩) rfl _).same fq.out b6,O,(eq.Xd (p:=⟨y,1,none⟩) hy _).Xd (p:=⟨y,4,none⟩) hy _⟩
     | exact⟨p6,c6,(jd (jd fp.out _) _).trans rfl,((ja.setCell w6 ⟨y,4,none⟩ _).set (p:=⟨y,1,none⟩) rfl _).row fs.out (fun g hg e=>by have:=O g hg;have e':g=y:=e;omega),((ja.setCell w6 ⟨y,4,none⟩ _).set (p:=⟨y,1,none⟩) rfl _).same fq.out b6,O,(eq.Xd (p:=⟨y,4,none⟩) hy _).Xd (p:=⟨y,1,none⟩) hy _⟩
  case rest =>
   obtain⟨p7,c7,fe,f0,fh,a9,z⟩:=hcut;clear l6 y4 hb h7 a0 dv dq fk de fd i5 i2;have bs:=S.few;have M:=S.same z;have a8:=M.row;have dc:=Je M.mem;have e4:=Sx b 7 _ 121 mv f [] wc a8 rfl dc M.rising (by omega);rw[jcb,List.drop_zero] at e4;have ii:=jb e4;have fo:=jb fe;have i4:=jb fh;have co:=jb f0;have R:=jb a8;have ha:ρ x = .none:=yE (fun hn=>by have:=S.xi.rep.lt x hn;omega);have ep:ρ y = .none:=yE (fun hn=>by have:=S.xi.rep.lt y hn;omega);have ap:∀ g,(Value.slice p7 (1+q) c7).ownBlock=some g->ρ g = .none/\s.heap.size<=g:=fun g hg=>⟨yE (fun hn=>by have:=S.xi.rep.lt g hn;have:=a9 g hg;have:=N.size;omega),a9 g hg⟩;clear e4 fe fh f0 a8 dc a9;go_wp2_with fail;refine ii.out.mono ?_;rintro e w8 ⟨v8,rfl,fc,k8,f2⟩;have D8:=M.xi.same k8
   have fb:=Sw D8 v8 f fc (by omega) (fun p n c e=>by
    obtain⟨i1,n',c',e1,e2⟩:=f2 p n c e
    have U:mv.ownBlock=some i1.block:=by rw[e1];rfl
    rw[<-e2]
    exact⟨(M.nm _ U).1,ZH (M.mem.lt _ U).2 k8.size⟩)
   have ig:=jb fb;clear fb fc f2;go_wp2_with fail;refine ig.out.mono ?_;rintro e w9 ⟨v9,rfl,cj,g9,D9⟩;have cn:x7 wc ρ w9 ρ:=(x7.of k8 (fun _ _ h=>h.elim)).trans g9;have br:=dt.out.some
   obtain⟨g0,aw,hl⟩:∃ g0 aw,v9 = .slice (some ⟨g0,0,none⟩) f.length aw:=by
    rcases cj.2 with⟨_,h0⟩|⟨g,cap,l7,e,_⟩
    ·exact(br (zT h0)).elim
    ·exact⟨g,cap,e⟩
   subst hl;have fj:=M.env.keep cn.keeps (fun i t=>M.xi.yz i t);obtain⟨bt,l4⟩:=cn.row R.out M.nb.1;obtain⟨lo,e3⟩:∃ lo,lo=m.log:=⟨_,rfl⟩;have ga:=S.y7.log;have hq:=S.y7.1;have aa:lo<=9223372036854775807:=by omega
   have ev:=oz D9 fj (lo:=lo) aa (by rw[e3];exact bt);have i8:=jb ev;have X:=jb e3;have fr:=jb cj;have bz:=jb aa;have ji:wc.heap.size<=g0:=ZI k8.size (cj.lt g0 rfl).1;have f6:f.length<60000:=bs;obtain⟨ml,bm⟩:∃ ml,ml=f.length:=⟨_,rfl⟩;rw[<-bm];have ib:=jb bm;have lc:=jb f6;clear ev e3 cj ga hq aa bt fj bm f6 bs br;go_wp2_with fail;refine i8.out.mono ?_;rintro e u ⟨cc,e6,cq,⟨af,rfl⟩|⟨af,kw,rfl,db⟩⟩
   rotate_left
   ·obtain⟨l0,lb,rfl⟩:=db.shape
    have gA:x7 wc ρ u cc:=cn.trans e6;go_wp2;go_ret;exact⟨_,false,.inl ⟨Prod.ext rfl (by rw[<-X.out];exact af),rfl⟩,.inl ⟨rfl,⟨_,rfl,db⟩,S.gone z gA (by rw[<-X.out];exact cq) ((S.fit.qn _).mono (by omega))⟩⟩
   have gA:x7 wc ρ u cc:=cn.trans e6;have cp:=S.fit.qn (jh lo);have e9:Fn (fun S=>S.qn (jh lo)) SD (SD.qn (jh lo)).1 true:=Prod.ext rfl af;generalize (SD.qn (jh lo)).1=SD10 at cq cp e9;have aj:=jb e9;clear e9 af;obtain⟨am,jk⟩:=gA.row R.out M.nb.1;have G:=zA (o:=0) am;simp at G;have G:u.drew.cell? ⟨b,0,none⟩=some (.pointer (some ⟨d,0,none⟩)):=G;obtain⟨RB,cm⟩:∃ RB,RB=Rf.j7 f:=⟨_,rfl⟩;have ah:=dt.out;have dp:=M.env.keep gA.keeps (fun i t=>M.xi.yz i t)
   have Z:=e6.keeps.row fr.out (fun g hg t=>t (yE (fun hn=>by
    have h1:=D8.rep.lt g hn
    have h2:=(fr.out.lt g hg).1
    omega)))
   have ex:∀ W,ja u W (fun _=>False)->Calls prog 115 #[j6 m.next] W fun e w'=>e = .returned (jf (jo m.next))/\ja W w' (fun _=>False):=fun W L=>gk m.next (by have:=HN.out;omega) (dp.same L)
   have f7:∀ W,ja u W (fun _=>False)->Calls prog 116 #[.slice (some ⟨g0,0,none⟩) ml aw] W fun e w'=>∃ p c,e = .returned (.slice p RB.length c)/\w'.ownsRow u.heap.size 5 1 (.slice p RB.length c) RB.length (RB.map j5)/\ja W w' (fun _=>False):=fun W L=>by
    have hu:Chs W (.slice (some ⟨g0,0,none⟩) f.length aw) f:=(Je Z).same L;rw[ib.out,cm];refine(Cw g0 0 aw f W hu ah.some ah.allowed ah.few).mono ?_;rintro e w' ⟨p,c,rfl,h,k'⟩;exact⟨p,c,rfl,xd h L.size,k'⟩
   have ck:(jo m.next).length<100:=by have:=yj (n:=m.next) (by have:=HN.out;omega);unfold jo;simp only[zW,zH,zX];omega
   have f9:∀(W:World) (v:Value),ja u W (fun _=>False)->W.ownsRow u.heap.size 5 1 v RB.length (RB.map j5)->Calls prog 114 #[.pointer (some ⟨d,0,none⟩),jf (jo m.next),v] W fun e w'=>∃ ch,e = .returned ch/\cd E B u cc d SD10 (Xp (jo m.next) RB) (.returned ch) w':=fun W v L ar=>by
    have ho:=HS.out;rw[<-cm] at ho;refine(tr (cq.same L) cp (jo m.next) (Jc _) v RB (xr ar) (Nt (fun i hi=>cq.rep.lt i hi) ar) (by have:=HK.out;omega)).mono ?_;intro e w' h;exact(h.before (x7.of L (fun _ _ h=>h.elim))).ret
   have ec:=jb ex;have fu:=jb f7;have ee:=jb f9;have bc:=jb cm;have kd:ja u u.drew (fun _=>False):=ja.drew _ _;clear ex f7 f9 cm ah dp Z ck am;obtain⟨rn,bk⟩:∃ rn,rn=jo m.next:=⟨_,rfl⟩;rw[<-bk] at ec ee;have A:=jb bk;clear bk;go_wp2_with fail
   go_cut [9] from 12 (fun s9 wd=>cd E B u cc d SD10 (Xp rn RB) (.returned s9) wd)
   case first =>
    go_region_law (first
     | (refine jx rfl 115 [.tmp 66] _ rfl u5 [j6 m.next] (by simp[Act.eval,Act.put]) (ec.out _ kd) ?_
        rintro e h8 ⟨rfl,aq⟩
        try have ar:=aq.row ar (fun _ _ h=>h)
        have G:=aq.cell G id
        have kd:=kd.tt aq
        refine⟨_,rfl,?_⟩)
     | (refine jx rfl 116 [.tmp 68] _ rfl u9 [.slice (some ⟨g0,0,none⟩) ml aw] (by simp[Act.eval,Act.put]) (fu.out _ kd) ?_
        rintro e h8 ⟨pb,cb,rfl,ar,aq⟩
        have G:=aq.cell G id
        have kd:=kd.tt aq
        refine⟨_,rfl,?_⟩)
     | (refine jx rfl 114 [.tmp 65,.tmp 67,.tmp 69] _ rfl dr [.pointer (some ⟨d,0,none⟩),jf rn,.slice pb RB.length cb] (by simp[Act.eval,Act.put]) (ee.out _ _ kd ar) ?_
        rintro e ku ⟨ch,rfl,hz⟩
        refine⟨_,rfl,?_⟩))
    all_goals
     go_wp2;go_meet
    all_goals exact hz
   case rest =>
    have j9:rn.length<100:=by have:=yj (n:=m.next) (by have:=HN.out;omega);rw[A.out];unfold jo;simp only[zW,zH,zX];omega
    have jl:RB.length<=20000:=by rw[bc.out];exact HS.out
    obtain⟨bp,j4,bb,eo,fm,fz,⟨D,e8⟩|⟨D,ch,e8,da⟩⟩:=hcut
    rotate_left
    ·simp only at D
     subst D;cases e8;have bg:=cp.Du (by rw[A.out];exact Jc _) bb;obtain⟨kz,la,rfl⟩:=da.shape;have gB:=gA.trans fm;go_wp2;go_ret;exact⟨bp,false,.inr ⟨_,by rw[<-X.out];exact aj.out,.inl ⟨by rw[<-A.out,<-bc.out];exact bb,rfl⟩⟩,.inl ⟨rfl,⟨_,rfl,da⟩,S.gone z gB fz (bg.mono (by omega))⟩⟩
    simp only at D;subst D;cases e8;have bg:=cp.Du (by rw[A.out];exact Jc _) bb;have bq:=jb bb;clear bb;have gB:=gA.trans fm;obtain⟨al,jj⟩:=gB.row R.out M.nb.1;obtain⟨dh,_⟩:=gB.row fo.out ep;have G:=zA (o:=0) al;have z2:=zA (o:=2) dh;simp at G z2;have G:wc.drew.cell? ⟨b,0,none⟩=some (.pointer (some ⟨d,0,none⟩)):=G;have z2:wc.drew.cell? ⟨y,2,none⟩=some (jg J):=z2;have dn:=M.env.keep gB.keeps (fun i t=>M.xi.yz i t);have bl:J<=9223372036854775807:=by have:=HN.out;have:=V.out;omega
    have b8:∀ W,ja wc W (fun _=>False)->Calls prog 63 #[j6 J] W fun e w'=>e = .returned (jf (jh J))/\ja W w' (fun _=>False):=fun W L=>Qs J bl (dn.same L);have ck:(jh J).length<100:=by have:=yj bl;unfold jh;simp only[zW,zH,zX];omega
    have d4:∀ W,ja wc W (fun _=>False)->Calls prog 114 #[.pointer (some ⟨d,0,none⟩),jf (jh J),.slice none 0 0] W fun e w'=>∃ cg,e = .returned cg/\cd E B wc eo d bp (Xp (jh J) []) (.returned cg) w':=fun W L=>by
     refine(tr (fz.same L) bg (jh J) (Jt _) _ [] (Mr W) (fun p n c e=>by cases e) (by have:=HK.out;simp only[zX];omega)).mono ?_;intro e w' h;exact(h.before (x7.of L (fun _ _ h=>h.elim))).ret
    have fv:=jb b8;have du:=jb d4;have ci:ja wc wc.drew (fun _=>False):=ja.drew _ _;have ia:=jb ck;clear b8 d4 dn ck bl al dh;obtain⟨ln,bn⟩:∃ ln,ln=jh J:=⟨_,rfl⟩;rw[<-bn] at fv du;have Y:=jb bn;clear bn ec fu ee kd;go_wp2_with fail
    go_cut [10] from 12 (fun s10 wd=>cd E B wc eo d bp (Xp ln []) (.returned s10) wd)
    case first =>
     go_region_law (first
      | (refine jx rfl 63 [.tmp 79] _ rfl Jv [j6 J] (by simp[Act.eval,Act.put]) (fv.out _ ci) ?_
         rintro e kt ⟨rfl,et⟩
         have G:=et.cell G id
         have ci:=ci.tt et
         refine⟨_,rfl,?_⟩)
      | (refine jx rfl 114 [.tmp 77,.tmp 80,.const (.slice none 0 0)] _ rfl dr [.pointer (some ⟨d,0,none⟩),jf ln,.slice none 0 0] (by simp[Act.eval,Act.put]) (du.out _ ci) ?_
         rintro e ks ⟨cg,rfl,hw⟩
         refine⟨_,rfl,?_⟩))
     all_goals
      go_wp2;go_meet
     all_goals exact hw
    case rest =>
     have je:ln.length<100:=by rw[Y.out];exact ia.out
     have d6:ln≠[]:=by rw[Y.out];exact Jt _
     obtain⟨gc,j2,ba,kq,fl,fy,⟨C,e7⟩|⟨C,cg,e7,d9⟩⟩:=hcut
     rotate_left
     ·simp only at C
      subst C;cases e7;have bf:=bg.Du d6 ba;obtain⟨ky,l9,rfl⟩:=d9.shape;have F:=gB.trans fl;go_wp2;go_ret;exact⟨gc,false,.inr ⟨_,by rw[<-X.out];exact aj.out,.inr ⟨_,by rw[<-A.out,<-bc.out];exact bq.out,.inl ⟨by rw[<-V.out,<-Y.out];exact ba,rfl⟩⟩⟩,.inl ⟨rfl,⟨_,rfl,d9⟩,S.gone z F fy (bf.mono (by simp only[zX];omega))⟩⟩
     simp only at C;subst C;cases e7;have bf:=bg.Du d6 ba;have ds:=jb ba;clear ba;have F:=gB.trans fl;obtain⟨ak,dg⟩:=F.row R.out M.nb.1;obtain⟨I,j8⟩:=F.row fo.out ep;obtain⟨dk,g1⟩:=F.row i4.out ha;have t0:=zA (o:=0) I;have t1:=zA (o:=1) I;have t2:=zA (o:=2) I;have t3:=zA (o:=3) I;have t4:=zA (o:=4) I;simp at t0 t1 t2 t3 t4;have dm:=M.env.keep F.keeps (fun i t=>M.xi.yz i t);have d1:=F.keeps.row co.out (fun g hg t=>t (ap g hg).1);have l3:b<s.heap.size:=d5
     have bv:Jw wc (.slice p7 (1+q) c7) (m.next::m.runs):=by
      have h1:(m.next::m.runs).length=1+q:=by rw[zH,<-bd.out];omega
      exact Jz d1 h1
     have bw:=S.y7.yh (last:=last) dw.out HN.out (by have:=S.y7.log;omega)
     have f5:iu (m.yh last) (.slice p7 (1+q) c7) = .agg #[jg n2,jg last,jg J,jg m.base,.slice p7 (1+q) c7]:=by
      have e2:n2=m.next+2:=by have:=V.out;have:=ft.out;omega
      rw[e2,V.out];rfl
     have g3:=Rf.Man.J7 m last
     have bo:=lg fy bf dm (m.yh last) bw (by show(m.next::m.runs).length<65536;have:=HR.out;simp;omega) (.slice p7 (1+q) c7) bv (fun p n c e=>by
      have U:(Value.slice p7 (1+q) c7).ownBlock=some p.block:=by rw[e];rfl
      have h1:=ap _ U
      have h2:=(co.out.lt _ U).2
      rw[F.role _ h2]
      exact⟨h1.1,by omega⟩) ak dg M.nb.2 (by have:=HK.out;simp only[zX];omega)
     rw[f5] at bo;have gj:=jb bo;have gd:=jb dk;clear bo bv d1 bw f5 g3 dm ak I dk G z2;go_wp2_with fail;refine gj.out.mono ?_;rintro e cf ⟨ai,j1,ca,b9,b0,H,bh,⟨a7,rfl⟩|⟨a7,kv,rfl,d8⟩,j⟩
     rotate_left
     ·subst a7
      rw[if_neg (by decide)] at j;have be:=bf.yt b9;obtain⟨kx,l8,rfl⟩:=d8.shape;have L:ja w cf (fun i=>ρ i≠ .none\/i=b):=(((z.up).trans F.keeps (fun i _ h=> .inl h)).trans b0 (fun i hi h=>h.imp (fun h=>by rw[<-F.role i (ZH hi z.size)];exact h) id));have e0:∀ i,i<w.heap.size->ca i=ρ i:=fun i hi=>(H i (ZH hi (ZI z.size F.keeps.size))).trans (F.role i (ZH hi z.size));have g5:=ed.out;go_wp2;go_ret;exact⟨ai,false,.inr ⟨_,by rw[<-X.out];exact aj.out,.inr ⟨_,by rw[<-A.out,<-bc.out];exact bq.out,.inr ⟨_,by rw[<-V.out,<-Y.out];exact ds.out,.inl ⟨b9,rfl⟩⟩⟩⟩,.inl ⟨rfl,⟨_,rfl,d8⟩,S.next L e0 bh (be.mono (by simp only[zX];omega)) j⟩⟩
     subst a7;rw[if_pos rfl] at j;have be:=bf.yt b9;have gh:=jb b9;clear b9;have fn:=zA (o:=7) j;have i0:=zB (o:=7) j;simp at fn;obtain⟨l,ag⟩:∃ l,l=cf.setCell ⟨b,7,none⟩ (.slice none 0 0):=⟨_,rfl⟩;have a6:ja cf l (fun i=>i=b):=by rw[ag];exact ja.setCell cf ⟨b,7,none⟩ _
     have T:l.heap[b]?=some (.cells (qv (.pointer (some ⟨d,0,none⟩)) (jg (m.yh last).next) (jg (m.yh last).last) (jg (m.yh last).log) (jg (m.yh last).base) (.slice p7 (1+q) c7) (jg last) (.slice none 0 0) false false) 121 (0,0)):=by rw[ag];exact(jd j _).trans rfl
     have eu:x≠b:=fun e=>by have:=S.blt;omega
     have dj:l.heap[x]?=some (.cells #[jg m.next,jg m.last,jg m.log,jg m.base,.slice pr q cr] 117 (0,0)):=a6.same (b0.same gd.out (fun t=>t.elim (fun t=>t g1) eu)) eu;have ct:b<wc.heap.size:=ZH S.blt (ZI z.size F.keeps.size);have df:ca b = .none:=(H b ct).trans dg;have ef:Dk E B l ca d ai:=⟨bh.rep.keep a6 (fun i e _=>by rw[e];exact df),bh.z8.keep a6 (fun i e=>by rw[e];exact S.nb.2),bh.yz,ZI bh.size a6.size⟩
     have er:ja w l (StF ρ b mv):=by
      refine(((z.up).trans F.keeps (fun i _ h=> .inl h)).trans b0 (fun i hi h=>?_)).trans a6 (fun i _ e=> .inr (.inl e));rcases h with h|h
      ·exact .inl (by rw[<-F.role i (ZH hi z.size)];exact h)
      ·exact .inr (.inl h)
     have dl:Env E B l:=S.env.keep (er.mono (fun i hi h=>(show B<=i from(S.old h).1))) (fun i h=>h);have G:=zA (o:=0) T;have z2:=zA (o:=2) dj;simp at G z2;rw[<-X.out] at z2;have G:l.drew.cell? ⟨b,0,none⟩=some (.pointer (some ⟨d,0,none⟩)):=G;have z2:l.drew.cell? ⟨x,2,none⟩=some (jg lo):=z2;have b8:∀ W,ja l W (fun _=>False)->Calls prog 63 #[j6 lo] W fun e w'=>e = .returned (jf (jh lo))/\ja W w' (fun _=>False):=fun W L=>Qs lo bz.out (dl.same L);have g6:=ed.out;have hs:=HK.out
     have ey:∀(W:World) (v:Value),ja l W (fun _=>False)->W.ownsRow l.heap.size 9 1 v 1 ([jh lo].map jf)->Calls prog 118 #[.pointer (some ⟨d,0,none⟩),v] W fun e w'=>∃ dz,e = .returned dz/\Xr E B l ca d (jc.jr [jh lo] ai) (.returned dz) w':=fun W v L r=>by
      refine(Yk (ef.same L) (be.small (by simp only[zX];omega)) v [jh lo] l.heap.size r (fun g hg=>yE (fun hn=>by have:=(r.lt g hg).1;have:=ef.rep.lt g hn;omega)) (fun n hn=>by rw[zZ.1 hn];exact Xl bz.out) (by simp) (by have:=be.safe;simp only[zX,ZK] at this ⊢;omega)).mono ?_;intro e w' h;exact(h.before (x7.of L (fun _ _ h=>h.elim))).ret
     have gi:=jb b8;have i9:=jb ey;have cu:=jb T;have az:ja l l.drew (fun _=>False):=ja.drew _ _;clear b8 ey g6 hs j dj T t0 t1 t2 t3 t4;go_wp2_with fail;rw[<-ag];clear ag fn i0
     go_region_law (first
      | (refine jx rfl 63 [.tmp 100] _ rfl Jv [j6 lo] (by simp[Act.eval,Act.put]) (gi.out _ az) ?_
         rintro e ce ⟨rfl,es⟩
         have G:=es.cell G id
         have az:=az.tt es
         have l5:∀ o1,(ce.alloc o1).cell? ⟨b,0,none⟩=some (.pointer (some ⟨d,0,none⟩)):=fun o1=>(ja.alloc ce o1 (fun _=>False)).cell G id
         have ic:=jb (World.ownsRow_lit (base:=l.heap.size) (e:=9) (size:=1) ce #[jf (jh lo)] 1 az.size (by unfold maxLen;omega) rfl)
         refine⟨_,rfl,?_⟩)
      | (refine jx rfl 118 [.tmp 98,.tmp 102] _ rfl mw [.pointer (some ⟨d,0,none⟩),.slice (some ⟨ce.heap.size,0,none⟩) 1 1] (by simp[Act.eval,Act.put]) (i9.out _ _ (az.more _) ic.out) ?_
         rintro e kr ⟨dz,rfl,hv⟩
         refine⟨_,rfl,?_⟩))
     all_goals
      obtain⟨en,av,fx,an⟩:=hv;have g5:=ed.out;go_wp2;go_ret;have fw:=be.jr [jh lo];rw[X.out] at fx fw an;have l1:=z.size;have h9:=F.keeps.size;have iz:=b0.size;have iy:=a6.size;have cy:=(((F.keeps.mono (fun i _ h=>(Or.inl h:ρ i≠ .none\/i=b))).trans b0 (fun i hi h=>h.imp (fun h=>by rw[<-F.role i hi];exact h) id)).trans a6 (fun i _ e=> .inr e)).trans av.keeps (fun i hi t=> .inl (by rw[<-F.role i hi,<-H i (ZH hi h9)];exact t));have e0:∀ i,i<w.heap.size->en i=ρ i:=fun i hi=>(av.role i (by omega)).trans ((H i (by omega)).trans (F.role i (by omega)));have hp:=cy.row co.out (fun g hg t=>t.elim (fun t=>t (ap g hg).1) (fun e=>by have:=(ap g hg).2;omega));have h1:(m.next::m.runs).length=1+q:=by rw[zH,<-bd.out];omega
      obtain⟨cs,gb⟩:=av.row cu.out df;refine⟨ai,true,.inr ⟨_,by rw[<-X.out];exact aj.out,.inr ⟨_,by rw[<-A.out,<-bc.out];exact bq.out,.inr ⟨_,by rw[<-V.out,<-Y.out];exact ds.out,.inr ⟨_,gh.out,rfl,rfl⟩⟩⟩⟩,.inr ⟨rfl,an,en,.slice p7 (1+q) c7,.slice none 0 0,⟨dl.keep av.keeps (fun i t=>ef.yz i t),fx,fw.mono (by simp only[zX,ZK];omega),cs,Jz hp h1,ZL _ _ _ _,⟨gb,S.nb.2⟩,?_,fun g hg=>(by cases hg),S.y7.yh (last:=last) dw.out HN.out (by have:=S.y7.log;omega),List.Pairwise.nil,ZM _,by show(m.next::m.runs).length<60000;have:=HR.out;simp;omega⟩,er.trans av.keeps (fun i hi t=> .inl ?_),e0,fun g hg=>(by cases hg),fun p n c e=> .inr (by have h2:=(ap p.block (by rw[e];rfl)).2;have h6:=N.size;omega)⟩⟩
      ·intro p n c e
       have U:(Value.slice p7 (1+q) c7).ownBlock=some p.block:=by rw[e];rfl
       have h2:=ap _ U;have h3:=(co.out.lt _ U).2;have h4:=cy.size;have h5:=S.xi.size;have h6:=N.size;refine⟨?_,by omega,by omega,fun h=>(by cases h),by omega⟩;rw[av.role _ (by omega),H _ (by omega),F.role _ h3];exact h2.1
      ·rw[<-F.role i (by omega),<-H i (by omega)]
       exact t
end Go.Proofs.YtnipbplghijdmaaGreatDoor
namespace Go.Proofs.YtnipbplghijdmaaGreatDoor
open RowKit Maps WideShapes Go.Proofs.Tryz
structure qo(S S':jc):Prop where
 names:S'.names=S.names
 files:S'.files=S.files
 safe:S'.safe=S.safe
 late:S'.late=S.late
 ou:qe S->qe S'
 cut:S.cut = -1->S'.cut = -1
theorem qo.refl(S:jc):qo S S:=⟨rfl,rfl,rfl,rfl,id,id⟩
theorem yq{S:jc}(c:Bool)(h:S.cut = -1):(S.called c).cut = -1:=by simp[jc.called,h]
theorem qo.called(S:jc):qo S (S.called false):=⟨rfl,rfl,rfl,rfl,fun w=>w.called false,yq _⟩
theorem qo.trans{S T U:jc}(h:qo S T)(k:qo T U):qo S U:=⟨k.names.trans h.names,k.files.trans h.files,k.safe.trans h.safe,k.late.trans h.late,fun w=>k.ou (h.ou w),fun c=>k.cut (h.cut c)⟩
theorem qo.pow{S S':jc}{U:Nat}{m:Rf.Man}{b:List (List Rf.Ch)}{Q:Want}(h:qo S S')(k:Pow S U m b Q):Pow S' U m b Q:=k.zu h.names h.files h.safe h.late
theorem qo.at{S S':jc}(h:qo S S'){n:Str}{P:jz->Prop}(k:At S n P):At S' n P:=k.zu h.names h.files
theorem qo.fit{S S':jc}(h:qo S S'){k:Nat}(f:Fit k S):Fit k S':=f.zu h.names h.files h.safe h.late
def Bg(m:Rf.Man)(bls:List (List Rf.Ch))(k:Nat)(S:jc):Prop:=Fit k S/\∀ p∈qq m.settled bls,At S p.1 (fun a=>a.bytes=p.2)
theorem Bg.called{m:Rf.Man}{b:List (List Rf.Ch)}{k:Nat}{S:jc}(h:Bg m b k S):Bg m b k (S.called false):=⟨h.1.called _,fun p hp=>(h.2 p hp).zu rfl rfl⟩
theorem pn{m:Rf.Man}{b:List (List Rf.Ch)}(q:m.Good)(d:b.length=m.settled.length)(c:∀ l∈b,Rf.sx l){k:Nat}(s:k<549755813888):fu (Bg m b k) m.settled (b.map Rf.chunks):=by
 refine⟨by rw[zL];exact d,fun n hn=>?_,fun bl h=>?_,fun i n bl hn h S hS=>?_,fun S hS=>⟨hS.called,hS.1.small s⟩⟩
 ·have j:=q.2.2.1 n (ZB _ hn)
  have o:=q.1;omega
 ·obtain⟨l,g,rfl⟩:=zS.1 h
  have p:=c l g;have j:=Rf.Dn p.allowed;have o:=p.few;refine⟨?_,?_,Hc p⟩
  ·have r:(Rf.zz (Rf.chunks l)).length<=67*l.length+300:=j
   omega
  ·rw[Rf.Xz]
   omega
 ·rw[ZN] at h
  obtain⟨l,g,rfl⟩:=ZO.1 h;obtain⟨f,a,j,o,r⟩:=hS.2 _ (J9.2 ⟨(n,l),jcm hn g,rfl⟩);exact⟨Hc (c l (ZP g)),f,a,j,o,r⟩
theorem Hy(c lo:Str)(b:List (List (List Rf.Ch))):∀(S:jc),∃ S',qo S S'/\(j9 c (xz b lo) S=(S',.inl (b.map (fun bl=>Y5 c (bl.flatten.filter (Rf.qk lo)))))\/(j9 c (xz b lo) S=(S',.inr true)/\¬qe S)):=by
 induction b with
 | nil=>intro S;exact⟨S,qo.refl S,.inl rfl⟩
 | cons bl r ih =>
  intro S;have j:j9 c (xz (bl::r) lo) S=j9 c (Y9 bl lo::xz r lo) S:=rfl;rw[j,iy]
  cases hb:S.bad with
  | true =>
   have g:Y9 bl lo S=(S.called false,[],some true):=by
    unfold Y9 py Zx;rw[hb];rfl
   have f:Zh c (S.called false,[],some true)=none:=by
    unfold Zh;rw[if_neg];rintro(h|h)
    ·cases h
    ·exact absurd h (Nat.not_lt_zero _)
   rw[g,f];exact⟨_,qo.called S,.inr ⟨rfl,fun w=>by rw[w.bad] at hb;cases hb⟩⟩
  | false =>
   have g:Y9 bl lo S=(S.called false,bl.flatten.filter (Rf.qk lo),none):=by
    unfold Y9 py Zx;rw[hb];rfl
   have f:Zh c (S.called false,bl.flatten.filter (Rf.qk lo),none)=some (Y5 c (bl.flatten.filter (Rf.qk lo))):=by unfold Zh;rw[if_pos (.inl rfl)]
   rw[g,f];obtain⟨S',i,d|⟨d,k⟩⟩:=ih (S.called false)
   ·refine⟨S',(qo.called S).trans i,.inl ?_⟩
    simp only[d];rfl
   ·refine⟨S',(qo.called S).trans i,.inr ⟨?_,fun w=>k (w.called false)⟩⟩
    simp only[d]
theorem Mq(lo:Str)(b:List (List (List Rf.Ch))):∀(S:jc),qo S (Qt (xz b lo) S).1/\((Qt (xz b lo) S).2=none\/((Qt (xz b lo) S).2=some true/\¬qe S)):=by
 induction b with
 | nil=>intro S;exact⟨qo.refl S,.inl rfl⟩
 | cons bl r ih =>
  intro S;have d:Qt (xz (bl::r) lo) S=Qt (Y9 bl lo::xz r lo) S:=rfl;rw[d,mz]
  cases hb:S.bad with
  | true =>
   have c:Y9 bl lo S=(S.called false,[],some true):=by
    unfold Y9 py Zx;rw[hb];rfl
   rw[c];exact⟨qo.called S,.inr ⟨rfl,fun w=>by rw[w.bad] at hb;cases hb⟩⟩
  | false =>
   have c:Y9 bl lo S=(S.called false,bl.flatten.filter (Rf.qk lo),none):=by
    unfold Y9 py Zx;rw[hb];rfl
   rw[c];obtain⟨g,f⟩:=ih (S.called false);exact⟨(qo.called S).trans g,f.imp id (fun h=>⟨h.1,fun w=>h.2 (w.called false)⟩)⟩
theorem jfm{b:List (List Rf.Ch)}(d:∀ l∈b,Rf.sx l):(b.map Rf.chunks).map (fun bl=>Y5 [] (bl.flatten.filter (Rf.qk [])))=b:=by
 rw[ZE]
 have:∀ l∈b,((fun bl=>Y5 [] (bl.flatten.filter (Rf.qk []))) ∘ Rf.chunks) l=l:=fun l hl=>by
  show Y5 [] ((Rf.chunks l).flatten.filter (Rf.qk []))=l;rw[Rf.Xz,rk (d l hl).rising];exact ZQ.2 (fun c _=>by simp[Zu])
 rw[ZR this,List.map_id']
theorem lu.xi{E:Nat->Addr}{w:World}{v:Value}(h:lu E w v true):Err E w v 1:=by
 obtain⟨g,c,d,b⟩:=h;rw[<-b.1 rfl];exact c
variable {E:Nat->Addr} {B:Nat} {w w':World} {ρ:Nat->j3} {d b k:Nat} {S:jc} {m:Rf.Man} {last:Nat} {ml:List Rf.Ch} {deg:Bool} {rv mv:Value}
theorem jdy(T:StM E B w ρ d b S k m last ml deg rv mv)(x:k<549755813888){c:List (List Rf.Ch)}(i:c.length=m.settled.length)(g:∀ l∈c,Rf.sx l)(n:∀ p∈qq m.settled c,At S p.1 (fun a=>a.bytes=p.2))(C:(Rf.merged c).length<60000) :
 Calls prog 119 #[.pointer (some ⟨b,0,none⟩)] w fun e w'=>∃ v ev S',e = .returned (.tuple #[v,ev])/\qo S S'/\x7 w ρ w' ρ/\Dk E B w' ρ d S' /\
  ((ev = .nilIface/\w'.ownsRow w.heap.size 88 3 v (Rf.there (Rf.merged c)).length (jj (Rf.there (Rf.merged c))))\/(Err E w' ev 1/\v = .slice none 0 0/\¬qe S)):=by
 have z:Bg m c k S:=⟨T.fit,n⟩;have R:=pn T.y7 i g x;obtain⟨S',q,e⟩:=Hy [] [] (c.map Rf.chunks) S;rw[jfm g] at e
 have u:(Xf (j9 [] (xz (c.map Rf.chunks) []) S)).length<1048576:=by
  rcases e with e|⟨e,_⟩
  ·rw[e];show(Rf.merged c).length<_;omega
  ·rw[e];exact ZM _
 have A:=T.ay;refine(jdz m rv (jg last) mv deg false (c.map Rf.chunks) T.env T.xi z R T.row T.runs (by omega) u).mono ?_;rintro D w' ⟨v,ev,rfl,o,j,h⟩;rcases e with e|⟨e,r⟩
 ·rw[e] at j h
  refine⟨v,ev,S',rfl,q,⟨o,fun _ _=>rfl⟩,j,?_⟩;rcases h with⟨rfl,_,t⟩|⟨bad,f,_⟩
  ·exact .inl ⟨rfl,t⟩
  ·cases f
 ·rw[e] at j h
  refine⟨v,ev,S',rfl,q,⟨o,fun _ _=>rfl⟩,j,?_⟩;rcases h with⟨_,f,_⟩|⟨bad,f,s,y⟩
  ·cases f
  ·cases f
   exact .inr ⟨y.xi,s,r⟩
end Go.Proofs.YtnipbplghijdmaaGreatDoor
namespace Go.Proofs.YtnipbplghijdmaaGreatDoor
open RowKit Maps WideShapes Go.Proofs.Tryz
variable {E:Nat->Addr} {B b d k:Nat} {w:World} {mv rv:Value}
def Rf.Man.Xm(m:Rf.Man)(l:List Rf.Ch):Rf.Man:=if l=[] then m.bare else m.zh
def Qk(m:Rf.Man)(l:List Rf.Ch):DStep:=if l=[] then yt m.bare else nj [Fn (fun S=>S.qn (jh m.log)),Xp (jo m.next) (Rf.j7 l),yt m.zh]
def X1(E:Nat->Addr)(B:Nat)(w:World)(ρ:Nat->j3)(d b:Nat)(rv mv:Value)(S:jc)(k:Nat)(m:Rf.Man)(last:Nat)(ml l:List Rf.Ch)(e:Ending)(w':World):Prop :=
 ∃ S0,qo S S0 /\
  ((¬qe S/\(∃ v,e = .returned v/\Err E w' v 1)/\y8 E B w ρ d b rv mv S0 (k+100000) m last ml false w') \/
   ∃ S1 ok1,Qk m l S0 S1 ok1 /\
    ((ok1=false/\(∃ v,e = .returned v/\Err E w' v 1)/\y8 E B w ρ d b rv mv S1 (k+100000) m last ml false w') \/
     (ok1=true/\jcj E w' e (jc.jr (m.settled.map jo) S1).2/\y8 E B w ρ d b rv mv (jc.jr (m.settled.map jo) S1).1 (k+100000) (m.Xm l) last ml false w')))
theorem StM.wx{wc w':World}{ρ j:Nat->j3}{k':Nat}{S S':jc}{m:Rf.Man}{last:Nat}{ml:List Rf.Ch}{c:Bool}(h:StM E B w ρ d b S k m last ml c rv mv)(l:ja w wc (fun i=>ρ i≠ .none\/i=b))(f:wc.heap[b]?=some (.cells (ah d m rv last mv c) 121 (0,0)))(g:x7 wc ρ w' j)(D:Dk E B w' j d S')(F:Fit k' S'):y8 E B w ρ d b rv mv S' k' m last ml c w' :=
 h.next (l.trans g.keeps (fun i _ t=> .inl t)) (fun i hi=>g.role i (ZH hi l.size)) D F (g.keeps.same f (fun t=>t h.nb.1))
theorem I4{ρ:Nat->j3}{SD:jc}{m:Rf.Man}{last:Nat}{r:List Rf.Ch}{C:List (List Rf.Ch)}(S:StM E B w ρ d b SD k m last r false rv mv)(hk:k<530000000000)(I:m.next+1<=2000000000)(ao:C.length=m.settled.length)(bx:∀ l∈C,Rf.sx l)(bz:∀ p∈qq m.settled C,At SD p.1 (fun a=>a.bytes=p.2))(hl:(Rf.merged C).length<60000){live:List Rf.Ch}(G:Rf.there (Rf.merged C)=live)(bc:live=[]) :
 Calls prog 69 #[.pointer (some ⟨b,0,none⟩)] w (X1 E B w ρ d b rv mv SD k m last r live):=by
 obtain⟨H,J,bt,db⟩:=id S.runs;have cb:∃ n,rv = .slice H n J:=⟨_,bt⟩;clear bt db;obtain⟨L,rfl⟩:=cb;obtain⟨n1,am⟩:∃ n1,n1=m.next+1:=⟨_,rfl⟩;have f4:=jb am;clear am;have q:=S.row;have c1:=zA (o:=1) q;have c2:=zA (o:=2) q;have c3:=zA (o:=3) q;have c4:=zA (o:=4) q;have c5:=zA (o:=5) q;simp at c1 c2 c3 c4 c5;have a1:∀ o1,(w.alloc o1).cell? ⟨b,1,none⟩=some (jg m.next):=fun o1=>(ja.alloc w o1 (fun _=>False)).cell c1 id;have b1:∀ o1 o2,((w.alloc o1).alloc o2).cell? ⟨b,1,none⟩=some (jg m.next):=fun o1 o2=>((ja.alloc w o1 (fun _=>False)).more o2).cell c1 id;have a2:∀ o1,(w.alloc o1).cell? ⟨b,2,none⟩=some (jg m.last):=fun o1=>(ja.alloc w o1 (fun _=>False)).cell c2 id;have b2:∀ o1 o2,((w.alloc o1).alloc o2).cell? ⟨b,2,none⟩=some (jg m.last):=fun o1 o2=>((ja.alloc w o1 (fun _=>False)).more o2).cell c2 id;have a3:∀ o1,(w.alloc o1).cell? ⟨b,3,none⟩=some (jg m.log):=fun o1=>(ja.alloc w o1 (fun _=>False)).cell c3 id;have b3:∀ o1 o2,((w.alloc o1).alloc o2).cell? ⟨b,3,none⟩=some (jg m.log):=fun o1 o2=>((ja.alloc w o1 (fun _=>False)).more o2).cell c3 id;have a4:∀ o1,(w.alloc o1).cell? ⟨b,4,none⟩=some (jg m.base):=fun o1=>(ja.alloc w o1 (fun _=>False)).cell c4 id;have b4:∀ o1 o2,((w.alloc o1).alloc o2).cell? ⟨b,4,none⟩=some (jg m.base):=fun o1 o2=>((ja.alloc w o1 (fun _=>False)).more o2).cell c4 id;have a5:∀ o1,(w.alloc o1).cell? ⟨b,5,none⟩=some (.slice H L J):=fun o1=>(ja.alloc w o1 (fun _=>False)).cell c5 id;have b5:∀ o1 o2,((w.alloc o1).alloc o2).cell? ⟨b,5,none⟩=some (.slice H L J):=fun o1 o2=>((ja.alloc w o1 (fun _=>False)).more o2).cell c5 id
 have f5:Hid (live.length<60000):=by
  have h1:=ZT (fun c:Rf.Ch=>!c.gone) (Rf.merged C);rw[<-G];show(Rf.there (Rf.merged C)).length<60000;unfold Rf.there;omega
 have HN:=jb I;have HL:=jb hl;have HK:=jb hk;have ck:=jb ao;have ds:=jb bx;have dt:=jb bz;have be:=jb G;have ef:=jb q;have h0:live.length=0:=by rw[bc];rfl
 have bd:=jb bc;have H0:=jb h0;clear q I hl hk ao bx bz G bc h0;go_enter func69,ntmps69;go_wp2_with fail
 go_cut [3,4] from 10 (fun s3 s4 wc=>∃(x y:Nat),s3 = .pointer (some ⟨x,0,none⟩)/\s4 = .pointer (some ⟨y,0,none⟩)/\x≠y/\w.heap.size<=x/\w.heap.size<=y/\wc.heap[x]?=some (.cells #[jg m.next,jg m.last,jg m.log,jg m.base,.slice H L J] 117 (0,0)) /\
  wc.heap[y]?=some (.cells #[jg m.next,jg m.last,jg m.log,jg m.base,.slice H L J] 117 (0,0))/\ja w wc (fun _=>False))
 case first =>
  go_region
  all_goals
   go_wp2;go_meet
  case rel =>
   obtain⟨h1,h2,h3⟩:=di w (.cells #[jg m.next,jg m.last,jg m.log,jg m.base,.slice H L J] 117)
   first
    | exact⟨_,_,rfl,rfl,by omega,by omega,by omega,h1,h2,h3⟩
    | exact⟨_,_,rfl,rfl,by omega,by omega,by omega,h2,h1,h3⟩
  case rel =>
   obtain⟨h1,h2,h3⟩:=di w (.cells #[jg m.next,jg m.last,jg m.log,jg m.base,.slice H L J] 117)
   first
    | exact⟨_,_,rfl,rfl,by omega,by omega,by omega,h1,h2,h3⟩
    | exact⟨_,_,rfl,rfl,by omega,by omega,by omega,h2,h1,h3⟩
 case rest =>
  obtain⟨x,y,rfl,rfl,d9,hx,hy,hX,hY,kc⟩:=hcut;clear a1 a2 a3 a4 a5 b1 b2 b3 b4 b5 c1 c2 c3 c4 c5;have A:=S.same kc;have bb:=jdy A (by have:=HK.out;omega) ck.out ds.out dt.out HL.out;rw[be.out] at bb;have dr:=jb bb;have HX:=jb hX;have HY:=jb hY;have bo:ρ x = .none:=yE (fun I=>by have:=S.xi.rep.lt x I;omega);have d6:ρ y = .none:=yE (fun I=>by have:=S.xi.rep.lt y I;omega);clear bb hX hY;go_wp2_with fail;refine dr.out.mono ?_;rintro e w2 ⟨v2,f0,U,rfl,R,g2,D2,⟨rfl,ac⟩|⟨bw,rfl,df⟩⟩
  rotate_left
  ·obtain⟨t2,a2,rfl⟩:=bw.shape
   have dh:=R.fit S.fit;go_wp2;go_ret;exact⟨U,R,.inl ⟨df,⟨_,rfl,bw⟩,S.gone kc g2 D2 (dh.mono (by omega))⟩⟩
  have F2:=R.fit S.fit;have c8:=jb R;clear R;obtain⟨a6,_⟩:=g2.row A.row A.nb.1
  have S2:StM E B w2 ρ d b U k m last r false (.slice H L J) mv:=by
   have a9:ja wc w2 (fun i=>ρ i≠ .none\/i=b):=g2.keeps.mono (fun i _ h=> .inl h);refine⟨A.env.keep a9 (fun i t=>t.elim (fun t=>S.xi.yz i t) (fun t=>by rw[t];exact S.nb.2)),D2,F2,a6,A.runs.keep a9 (fun _ p n c e t=>?_),a9.row A.mem (fun g hg t=>t.elim (fun t=>t (A.nm g hg).1) (A.nm g hg).2),A.nb,fun p n c e=>?_,A.nm,A.y7,A.rising,A.few,A.ay⟩
   ·obtain⟨a1,a2,a3,a4,a5⟩:=A.nr p n c e
    exact t.elim (fun t=>t a1) a2
   ·obtain⟨a1,a2,a3,a4,a5⟩:=A.nr p n c e
    exact⟨a1,a2,a3,a4,ZH a5 a9.size⟩
  have u:=(g2.row HY.out d6).1;have c7:=(g2.row HX.out bo).1;have y0:=zA (o:=0) u;have y1:=zA (o:=1) u;have y2:=zA (o:=2) u;have y3:=zA (o:=3) u;have y4:=zA (o:=4) u;have q3:=zB (o:=3) u;have q4:=zB (o:=4) u;simp at y0 y1 y2 y3 y4;obtain⟨w3,aa⟩:∃ w3,w3=(w2.setCell ⟨y,3,none⟩ (.int .i64 0)).setCell ⟨y,4,none⟩ (.slice none 0 0):=⟨_,rfl⟩;have k3:ja w2 w3 (fun i=>i=y):=by rw[aa];exact(ja.setCell w2 ⟨y,3,none⟩ _).set (p:=⟨y,4,none⟩) rfl _
  have dj:B<=y:=ZI S.xi.size hy;have d8:¬StF ρ b mv y:=fun h=>by have:=(S.old h).2;omega
  have d7:∀ p n c,(Value.slice H L J) = .slice (some p) n c->y≠p.block:=fun p n c e h=>by
   have:=(S.nr p n c e).2.2.2.2;omega
  have S3:StM E B w3 ρ d b U k m last r false (.slice H L J) mv:=S2.keep k3 (fun i hi e=>by rw[e];exact⟨dj,d8,d7⟩);have c0:w3.heap[y]?=some (.cells #[jg m.next,jg m.last,jg m.log,.int .i64 0,.slice none 0 0] 117 (0,0)):=by rw[aa];exact(jd (jd u _) _).trans rfl
  have c6:=k3.same c7 d9;have b8:ja w w3 (StF ρ b mv):=((kc.up).trans g2.keeps (fun i _ h=> .inl h)).trans k3 (fun i hi e=>by omega);have bs:v2.ownBlock≠some y:=fun e=>by have:=(ac.lt y e).1;have:=zC HY.out;omega
  have b9:=k3.row ac (fun g hg e=>bs (by rw[<-(show g=y from e)];exact hg))
  have ee:∀ g,v2.ownBlock=some g->ρ g = .none/\w.heap.size<=g:=fun g hg=>by
   have h1:=(ac.lt g hg).1;have h2:=kc.size;exact⟨yE (fun I=>by have:=S.xi.rep.lt g I;omega),by omega⟩
  have cl:Hid (ja w w3 (fun i=>ρ i≠ .none\/i=b)):=(show ja w w3 _ from((kc.up).trans g2.keeps (fun i _ h=> .inl h)).trans k3 (fun i hi e=>by omega));have ey:=b8.size;have dn:=jb c6;have f2:=jb c0;have f3:=jb b9;obtain⟨pv,cv,rfl⟩:=jl b9;have dg:=S.y7.log;have de:=S.y7.1;have eg:Hid (m.log<=9223372036854775807):=jb (by omega);clear c7 u c6 c0 ac b9 a6 dg de D2 g2 S2 bs F2;rw[H0.out];have Y:ja w w3 (fun i=>ρ i≠ .none\/i=b):=cl.out;go_wp2_with fail;rw[<-aa];clear aa y0 y1 y2 y3 y4 q3 q4;have bv:iu m.bare (.slice none 0 0) = .agg #[jg m.next,jg m.last,jg m.log,.int .i64 0,.slice none 0 0]:=rfl;have a7:Rf.Man.Good m.bare:=S.y7.bare;have ez:Rf.Man.bytes m.bare=Rf.Man.bytes m.bare:=rfl;have an:(Rf.Man.bytes m.bare).length=42:=by rw[ql];rfl
  have Z:=lg S3.xi S3.fit S3.env m.bare a7 (by show([]:List Nat).length<65536;decide) (.slice none 0 0) (Jw.nil _) (fun p n c e=>by cases e) S3.row S3.nb.1 S.nb.2 (by have:=HK.out;omega);rw[bv] at Z;have cm:=jb Z;clear Z bv;refine cm.out.mono ?_;rintro e f ⟨a0,ed,b0,V,N,z,ad,⟨F,rfl⟩|⟨F,ev,rfl,ap⟩,j⟩
  rotate_left
  ·subst F
   rw[if_neg (by decide)] at j;have D:=S3.fit.yt V;rw[an] at D;obtain⟨ew,f1,rfl⟩:=ap.shape;have M:ja w f (fun i=>ρ i≠ .none\/i=b):=Y.trans N (fun i hi h=>h.imp (fun h=>by rw[<-(show ρ i=ρ i from rfl)];exact h) id);have ab:∀ i,i<w.heap.size->b0 i=ρ i:=fun i hi=>(z i (ZH hi Y.size)).trans (rfl);go_wp2;go_ret;refine⟨U,c8.out,.inr ⟨a0,false,?_,.inl ⟨rfl,⟨_,rfl,ap⟩,S.next M ab ad (D.mono (by omega)) j⟩⟩⟩;unfold Qk;rw[if_pos bd.out];exact V
  subst F;rw[if_pos rfl] at j;have D:=S3.fit.yt V;rw[an] at D;have ch:=jb V;clear V;have da:x≠b:=fun e=>by have:=S.blt;omega
  have s:=N.same dn.out (fun t=>t.elim (fun t=>t bo) da);have ex:=b8.size;have eb:=N.size;have cf:b0 b = .none:=(z b (by have:=S.blt;omega)).trans S3.nb.1;have X:ja w f (StF ρ b mv):=b8.trans N (fun i hi h=>h.elim (fun h=> .inl (by rw[<-(fun(i:Nat) (hi:i<w.heap.size)=>(rfl:ρ i=ρ i)) i hi];exact h)) (fun h=> .inr (.inl h)));have ar:Env E B f:=S.env.keep (X.mono (fun i hi h=>(show B<=i from(S.old h).1))) (fun i h=>h)
  have aq:Jw f (.slice H L J) m.runs:=S.runs.keep X (fun _ p n c e t=>by
   obtain⟨a1,a2,a3,a4,a5⟩:=S.nr p n c e
   rcases t with t|t|t
   ·exact t a1
   ·exact a2 t
   ·exact a4 t)
  have d0:=zA (o:=0) j;have x0:=zA (o:=0) s;have x1:=zA (o:=1) s;have x2:=zA (o:=2) s;have x3:=zA (o:=3) s;have x4:=zA (o:=4) s;simp at d0 x0 x1 x2 x3 x4;have d0:f.drew.cell? ⟨b,0,none⟩=some (.pointer (some ⟨d,0,none⟩)):=d0;have x0:f.drew.cell? ⟨x,0,none⟩=some (jg m.next):=x0;have x1:f.drew.cell? ⟨x,1,none⟩=some (jg m.last):=x1;have x2:f.drew.cell? ⟨x,2,none⟩=some (jg m.log):=x2;have x3:f.drew.cell? ⟨x,3,none⟩=some (jg m.base):=x3;have x4:f.drew.cell? ⟨x,4,none⟩=some (.slice H L J):=x4;obtain⟨ns,O⟩:∃ ns,ns=m.settled.length:=⟨_,rfl⟩;have dc:=xy m;have dd:=S.ay
  have br:∀ W,ja f W (fun _=>False)->Calls prog 121 #[iu m (.slice H L J)] W fun e w'=>∃ p c,e = .returned (.slice p ns c)/\w'.ownsRow f.heap.size 3 1 (.slice p ns c) ns (m.settled.map jg)/\ja W w' (fun _=>False):=fun W M=>by
   rw[O];refine(aw W m _ (aq.same M) (by omega)).mono ?_;rintro e w' ⟨p,c,rfl,h,k'⟩;exact⟨p,c,rfl,xd h M.size,k'⟩
  have ak:∀(W:World) (v:Value),ja f W (fun _=>False)->W.ownsRow f.heap.size 3 1 v ns (m.settled.map jg)->Calls prog 120 #[v] W fun e w'=>∃ p c,e = .returned (.slice p ns c)/\w'.ownsRow f.heap.size 9 1 (.slice p ns c) ns ((m.settled.map jo).map jf)/\ja W w' (fun _=>False):=fun W v M hr=>by
   rw[O] at hr ⊢;refine(l8 v m.settled (ar.same M) (Jz hr rfl) (by omega) (fun n I=>by have:=S.y7.2.2.1 n (ZB _ I);have:=S.y7.1;omega)).mono ?_;rintro e w' ⟨p,c,rfl,h,k'⟩;exact⟨p,c,rfl,xd h M.size,k'⟩
  have bu:∀(W:World) (v:Value),ja f W (fun _=>False)->W.ownsRow f.heap.size 9 1 v ns ((m.settled.map jo).map jf)->Calls prog 118 #[.pointer (some ⟨d,0,none⟩),v] W fun e w'=>∃ b7,e = .returned b7/\Xr E B f b0 d (jc.jr (m.settled.map jo) a0) (.returned b7) w':=fun W v M hr=>by
   have ba:(m.settled.map jo).length=ns:=by rw[zL,O]
   refine(Yk (ad.same M) (D.small (by have:=HK.out;omega)) v (m.settled.map jo) f.heap.size (by rw[ba];exact hr) (fun g hg=>yE (fun I=>by have:=(hr.lt g hg).1;have:=ad.rep.lt g I;omega)) (fun n I=>Za S.y7 n (ZA.2 (.inl I))) (by rw[ba];omega) (by have:=D.safe;have:=HK.out;rw[ba];omega)).mono ?_;intro e w' h;exact(h.before (x7.of M (fun _ _ h=>h.elim))).ret
  have al:ns<60001:=by omega
  have cj:=jb al;have ci:Hid ((m.settled.map jo).length=ns):=jb (by rw[zL,O]);have dp:=jb br;have cg:=jb ak;have dq:=jb bu;have ag:=jb j;have kd:ja f f.drew (fun _=>False):=ja.drew _ _;clear br ak bu O dc dd j s aq al;go_wp2_with fail
  go_region_law (first
   | (refine jx rfl 121 [.tmp 67] _ rfl Yd [iu m (.slice H L J)] (by simp[Act.eval,Act.put]) (dp.out _ kd) ?_
      rintro e eu ⟨d5,dm,rfl,cd,bq⟩
      have d0:=bq.cell d0 id
      have kd:=kd.tt bq
      refine⟨_,rfl,?_⟩)
   | (refine jx rfl 120 [.tmp 68] _ rfl fj [.slice d5 ns dm] (by simp[Act.eval,Act.put]) (cg.out _ _ kd cd) ?_
      rintro e et ⟨d4,dl,rfl,cc,bp⟩
      have d0:=bp.cell d0 id
      have kd:=kd.tt bp
      refine⟨_,rfl,?_⟩)
   | (refine jx rfl 118 [.tmp 66,.tmp 69] _ rfl mw [.pointer (some ⟨d,0,none⟩),.slice d4 ns dl] (by simp[Act.eval,Act.put]) (dq.out _ _ kd cc) ?_
      rintro e b6 ⟨b7,rfl,dk⟩
      refine⟨_,rfl,?_⟩))
  all_goals
   obtain⟨bn,T,dv,af⟩:=dk;have du:=D.jr (m.settled.map jo);have h6:=cj.out;have h7:=ci.out;go_wp2;go_ret;obtain⟨ae,ce⟩:=T.row ag.out cf;have ab:∀ i,i<w.heap.size->bn i=ρ i:=fun i hi=>(T.role i (by omega)).trans ((z i (by omega)).trans ((fun(i:Nat) (hi:i<w.heap.size)=>(rfl:ρ i=ρ i)) i (by omega)));have c9:ja w b6 (StF ρ b mv):=X.trans T.keeps (fun i hi t=> .inl (by rw[<-(fun(i:Nat) (hi:i<w.heap.size)=>(rfl:ρ i=ρ i)) i hi,<-z i (by omega)];exact t))
   have ca:b6.ownsRow B 88 3 mv r.length (jj r):=by
    have M:ja w b6 (fun i=>ρ i≠ .none\/i=b):=(Y.trans N (fun i hi h=>h.imp (fun h=>by rw[<-(fun(i:Nat) (hi:i<w.heap.size)=>(rfl:ρ i=ρ i)) i hi];exact h) id)).trans T.keeps (fun i hi t=> .inl (by rw[<-(fun(i:Nat) (hi:i<w.heap.size)=>(rfl:ρ i=ρ i)) i hi,<-z i (by omega)];exact t));exact M.row S.mem (fun g hg t=>t.elim (fun t=>t (S.nm g hg).1) (S.nm g hg).2)
   have ec:m.Xm live=m.bare:=by unfold Rf.Man.Xm;rw[if_pos bd.out]
   refine⟨U,c8.out,.inr ⟨a0,true,?_,.inr ⟨rfl,af,bn,.slice none 0 0,mv,⟨ar.keep T.keeps (fun i t=>ad.yz i t),dv,du.mono (by rw[h7];omega),?_,?_,ca,⟨ce,S.nb.2⟩,fun p n c e=>(by cases e),fun g hg=>⟨by rw[ab g (S.mem.lt g hg).2];exact(S.nm g hg).1,(S.nm g hg).2⟩,?_,S.rising,S.few,?_⟩,c9,ab,fun g hg=> .inl hg,fun p n c e=>(by cases e)⟩⟩⟩
   ·unfold Qk
    rw[if_pos bd.out];exact ch.out
   ·rw[ec]
    exact ae
   ·rw[ec]
    exact Jw.nil _
   ·rw[ec]
    exact a7
   ·rw[ec]
    exact ZM _
end Go.Proofs.YtnipbplghijdmaaGreatDoor

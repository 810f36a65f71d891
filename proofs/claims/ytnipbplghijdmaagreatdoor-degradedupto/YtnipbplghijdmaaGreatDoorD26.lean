/-
  D: MergeB LayersA RunA RunB RunC RunD RunE RunF RunG.
-/
import Derived.Test.YtnipbplghijdmaaGreatDoorD25
import Derived.Test.YtnipbplghijdmaaGreatDoorD21
set_option maxRecDepth 100000
set_option maxHeartbeats 8000000
set_option linter.unusedVariables false
set_option linter.unusedSimpArgs false
namespace Go.Proofs.YtnipbplghijdmaaGreatDoor
open RowKit Maps WideShapes Go.Shelf Go.Proofs.Tryz
attribute [local go_sem] Oper.semAt_some
variable {E:Nat->Addr} {B d n:Nat} {s:Rf.Source} {r:List Rf.Source}
open Classical in
theorem jd1{α:Type}(R:Nat->α->Prop):∃ m:α->Nat,∀ a,(∃ n,R n a)->R (m a) a/\∀ n,R n a->m a<=n:=by
 have H:∀ a,(∃ n,R n a)->∃ m,R m a/\∀ n,R n a->m<=n:=by
  rintro a ⟨n,f⟩
  induction n using Nat.strongRecOn with
  | ind n ih =>
   rcases em (∃ k,k<n/\R k a)with⟨k,b,d⟩|c
   ·exact ih k b d
   ·exact⟨n,f,fun k b=>Nat.le_of_not_lt (fun h=>c ⟨k,h,b⟩)⟩
 refine⟨fun a=>if h:∃ n,R n a then Classical.choose (H a h)else 0,fun a h=>?_⟩;simp only[dif_pos h];exact Classical.choose_spec (H a h)
def Xf(G:jc×(List (List Rf.Ch) ⊕ Bool)):List Rf.Ch:=match G.2 with|.inl ls=>Rf.merged ls|.inr _=>[]
def Ll(G:jc×(List (List Rf.Ch) ⊕ Bool)):Option Bool:=match G.2 with|.inl _=>none|.inr b=>some b
structure Ce(P:jc->Prop)(E:Nat->Addr)(B:Nat)(ρ:Nat->j3)(d:Nat)(S:jc)(lv:Value)(fs:List Value)(sts:List J5)(W:World):Prop where
 dk:Dk E B W ρ d S
 small:P S
 jgi:ll W lv fs
 off:fs≠[]->∀ p n c,lv = .slice (some p) n c->¬qj ρ p.block
 layers:∀(k:Nat) f st,fs[k]?=some f->sts[k]?=some st->kh P E B ρ d W f st
theorem kh.same{P:jc->Prop}{ρ:Nat->j3}{w w':World}{f:Value}{b:J5}(h:kh P E B ρ d w f b)(k:ja w w' (fun _=>False)):kh P E B ρ d w' f b :=
 fun hi W S kk D Z=>h hi W S ((k.up).tt kk) D Z
theorem Ce.same{P:jc->Prop}{ρ:Nat->j3}{S:jc}{lv:Value}{fs:List Value}{b:List J5}{W c:World}(h:Ce P E B ρ d S lv fs b W)(k:ja W c (fun _=>False)):Ce P E B ρ d S lv fs b c :=
 ⟨h.dk.same k,h.small,h.jgi.same k,h.off,fun i f st hf hst=>(h.layers i f st hf hst).same k⟩
theorem lj(b:Array Value)(w:World):(callFunc 123 b).run prog w = .ok (.enter 123 b) w:=by kernel_rfl
def Yg(l:List Rf.Source):Nat:=(l.map (fun s=>s.entries.length)).sum
theorem M6{l m:List Rf.Source}(p:l.Perm m):Yg l=Yg m:=Ad (p.map _)
theorem Kw{c:Rf.Ch}{q:List Rf.Ch}(h:s.entries=c::q):Yg (Rf.taken s r)+1=Yg (s::r):=by
 unfold Rf.taken Yg;rw[h,List.tail_cons]
 split
 ·rename_i e;simp[h,e];omega
 ·simp[h];omega
theorem Dj{ls:List (List Rf.Ch)}:∀ s∈Rf.qx n ls,s.entries∈ls:=by
 induction ls generalizing n with
 | nil=>intro s b;cases b
 | cons l r ih =>
  intro s b;unfold Rf.qx at b
  split at b
  ·exact zQ _ (ih s b)
  ·rcases zF.1 b with rfl|b
   ·exact zR
   ·exact zQ _ (ih s b)
theorem Pp{N A:Nat}(h:∀ x∈s::r,x.entries.length<N/\x.age<A):∀ x∈Rf.taken s r,x.entries.length<N/\x.age<A:=by
 intro x b;unfold Rf.taken at b
 split at b
 ·exact h x (zQ _ b)
 ·rcases zF.1 b with rfl|b
  ·have:=h s zR
   exact⟨by have c:s.entries.tail.length<=s.entries.length:=by rw[List.length_tail];omega
            exact XP c this.1,this.2⟩
  ·exact h x (zQ _ b)
theorem M3(s:Rf.Source)(r:List Rf.Source):(Rf.taken s r).length<=(s::r).length:=by
 unfold Rf.taken
 split<;>simp
structure wk(ls:List (List Rf.Ch)):Prop where
 rising:∀ l∈ls,Rf.jw l
 keys:∀ l∈ls,∀ c∈l,c.key≠[]
 len:∀ l∈ls,l.length<1048576
theorem kz{P:jc->Prop}{ρ:Nat->j3}{S:jc}(lv:Value)(fs:List Value)(D:List J5)(R:Str)(b9:fs.length=D.length)(hl:fs.length<524288)(ch:∀ f∈fs,∃ g a b,f = .func g a b)(a2:∀ ls,(j9 R D S).2 = .inl ls->wk ls) :
 Kj Fence.wide n prog 123 #[.agg #[lv,jf R]] #[] encI (qj ρ) (fun i=>i<B) (Ce P E B ρ d S lv fs D) (je8 E (Xf (j9 R D S)) (Ll (j9 R D S))) (je6 E B ρ d (j9 R D S).1 (Xf (j9 R D S)) (Ll (j9 R D S))) (Ls E B ρ d (j9 R D S).1):=by
 intro lp n₀ J Jx aJ hY C W ay hC d4 hS d9;have ex:∀ i,i<W.heap.size->C i->¬qj ρ i/\B<=i:=fun i _ hc=>⟨(hC i hc).1,Nat.le_of_not_lt (hC i hc).2⟩;have kA:=ja.alloc W (.cells #[lv,jf R] 189) (fun _=>False);have aa:=hS.same kA;obtain⟨p0,c0,rfl,_⟩:=id hS.jgi;have a0:=Hj aa.dk aa.small _ fs D R aa.jgi aa.off b9 hl ch aa.layers;obtain⟨G,hG⟩:∃ G,G=j9 R D S:=⟨_,rfl⟩;rw[<-hG] at a0 a2 hY ⊢;have HO:=jb a0;have hρ:=hS.dk.rep.lt;have db:=hS.dk.size;have nT:∀ i,W.heap.size<=i->¬qj ρ i:=fun i R h=>by have:=hρ i h;omega
 have ce:∀ ls,G.2 = .inl ls->ls.length<524288:=fun ls h=>by
  have H:j9 R D S=(G.1,.inl ls):=by rw[<-hG];exact Prod.ext rfl h
  rw[oj H];omega
 clear a0 hG aa hS b9;show CallsIn Fence.wide n prog 123 #[.agg #[.slice p0 fs.length c0,jf R],.func (.yield lp) #[] #[]] W _;refine callsIn_of_wp func123 rfl trivial ?_ rfl;simp only[ntmps123,xY,zH,zX,Nat.reduceAdd,Nat.reduceSub,xZ,XA,XB,XC,xL,xM]
 gi_wp2_with fail
 refine⟨trivial,fun h=>(by simp[Fence.wide] at h),(callsIn_wide.2 HO.out).mono ?_⟩;rintro e w1 ⟨k1,D1,Z1,⟨ls,Y,v,j,af,rfl,d6,Hq,Tq,Pq,ax⟩|⟨bad,ev,bc,rfl,c8⟩⟩
 all_goals
  have kW:ja W w1 (qj ρ):=(kA.up).tt k1;have bo:=aJ _ _ _ _ d9 (fq kW (fun i _ h=> .inl h));have ak:∀ i,C i->i<w1.heap.size:=fun i h=>ZH (ay i h) kW.size
 ·have et:W.heap.size+1<=Y:=by simpa using d6
  have G1:=a2 ls af;have ew:=ce ls af;have eM:Xf G=Rf.merged ls:=by unfold Xf;rw[af]
  have eE:Ll G=none:=by unfold Ll;rw[af]
  rw[eM,eE] at hY;have HM:=jb eM;have HE:=jb eE;have T0:Rf.Tells (yd j) [] (Rf.merged ls):=(Rf.M8 G1.rising G1.keys).perm Pq.symm;have F0:Rf.sy (yd j) []:=(Rf.M9 G1.rising).perm Pq.symm
  have a8:∀ s∈yd j,s.entries.length<1048576/\s.age<4611686018427387904:=by
   intro s hs;have H:=Pq.mem_iff.1 hs;have h6:=o7 s H;exact⟨G1.len _ (Dj s H),by omega⟩
  have a9:(yd j).length<1048576:=by
   have H:=Pq.length_eq;have h6:=dy 0 ls;omega
  have b6:(W.alloc (.cells #[.slice p0 fs.length c0,jf R] 189)).heap.size=W.heap.size+1:=by simp
  rw[b6] at Hq ax;generalize hMM:Rf.merged ls=MM at *
  clear eM eE hMM Pq G1 a2 af b6
  obtain⟨mf,c7⟩:=jd1 (fun(m:Nat) (x:Value×World)=>∃(F:Str) (k L:List Rf.Ch) (j:List HS) (v:Value) (l:Nat->Prop),x.1=jf F/\Yg (yd j)=m/\MM=k++L/\Rf.Tells (yd j) F L/\Rf.sy (yd j) F/\xl x.2 (W.heap.size+1) Y v j/\Rf.Ql (yd j) j.length /\
   J (k.map Ja) l x.2/\(∀ i,l i->C i\/W.heap.size<=i)/\(∀ i,l i->i<x.2.heap.size)/\¬l Y/\(∀ g,v.ownBlock=some g->¬l g)/\(∀ p∈j,∀ r n c,p.1 = .slice (some r) n c->¬l r.block/\W.heap.size+1<=r.block)/\ja W x.2 (fun i=>C i\/qj ρ i)/\Dk E B x.2 ρ d G.1 /\
   (∀ s∈yd j,s.entries.length<1048576/\s.age<4611686018427387904)/\(yd j).length<1048576)
  have bp:=jb c7;have HY:=jb hY;clear c7 hY
  have a7:∃ m,∃(F:Str) (k L:List Rf.Ch) (j:List HS) (v:Value) (l:Nat->Prop),jf []=jf F/\Yg (yd j)=m/\MM=k++L/\Rf.Tells (yd j) F L/\Rf.sy (yd j) F/\xl w1 (W.heap.size+1) Y v j/\Rf.Ql (yd j) j.length /\
   J (k.map Ja) l w1/\(∀ i,l i->C i\/W.heap.size<=i)/\(∀ i,l i->i<w1.heap.size)/\¬l Y/\(∀ g,v.ownBlock=some g->¬l g)/\(∀ p∈j,∀ r n c,p.1 = .slice (some r) n c->¬l r.block/\W.heap.size+1<=r.block)/\ja W w1 (fun i=>C i\/qj ρ i)/\Dk E B w1 ρ d G.1 /\
   (∀ s∈yd j,s.entries.length<1048576/\s.age<4611686018427387904)/\(yd j).length<1048576:=by
   refine⟨_,[],[],MM,j,v,C,rfl,rfl,rfl,T0,F0,Hq,Tq,bo,fun _ h=> .inl h,ak,fun h=>by have:=ay Y h;omega,fun g hg h=>?_,fun p I r n c e=>⟨fun h=>?_,ax p I r n c e⟩,kW.mono (fun _ _ h=> .inr h),D1,a8,a9⟩
   ·have:=(Hq.row.lt g hg).1
    have:=ay g h;omega
   ·have:=ax p I r n c e
    have:=ay _ h;omega
  have dd:=jb a7;clear a7 T0 F0 Hq Tq bo ak ax D1 a8 a9
  gi_wp2_with fail
  gi_loopw [6] (fun lv wr=>∃ m,∃(F:Str) (k L:List Rf.Ch) (j:List HS) (v:Value) (l:Nat->Prop),lv=jf F/\Yg (yd j)=m/\MM=k++L/\Rf.Tells (yd j) F L/\Rf.sy (yd j) F/\xl wr (W.heap.size+1) Y v j/\Rf.Ql (yd j) j.length /\
   J (k.map Ja) l wr/\(∀ i,l i->C i\/W.heap.size<=i)/\(∀ i,l i->i<wr.heap.size)/\¬l Y/\(∀ g,v.ownBlock=some g->¬l g)/\(∀ p∈j,∀ r n c,p.1 = .slice (some r) n c->¬l r.block/\W.heap.size+1<=r.block)/\ja W wr (fun i=>C i\/qj ρ i)/\Dk E B wr ρ d G.1 /\
   (∀ s∈yd j,s.entries.length<1048576/\s.age<4611686018427387904)/\(yd j).length<1048576)
   (fun lv wr=>mf (lv,wr))
  case atStart=>exact dd.out
  case round =>
   obtain⟨d8,b8⟩:=bp.out (_,wr) hrel;obtain⟨F,k,L,j,v,l,rfl,a6,az,Tq,Fq,Hq,Tp,ca,A,a5,a4,ap,bs,d5,Dq,bj,ba⟩:=d8;simp only at *
   have e6:=jb b8;clear b8 hrel;obtain⟨a1,c1,rfl⟩:=Hq.slice;have cb:=Hq.cell;have bk:j.length<1048576:=by rw[Yy] at ba;exact ba
   cases j with
   | nil =>
    have eL:=Tq.nil;have dg:=jb eL;have cj:=jb az;have ey:=jb Hq;clear eL az Hq
    gi_wp2_with fail
    refine⟨trivial,fun h=>(by simp[Fence.wide] at h),(callsIn_wide.2 (Au a1 0 c1 wr (by omega))).mono ?_⟩;rintro e X ⟨rfl,rfl⟩
    gi_wp2
    go_end0;refine⟨l,A,a5,⟨_,rfl⟩,.inl ⟨k.map Ja,⟨Dq,.inl ⟨HE.out,?_⟩⟩,ca⟩⟩;rw[HM.out,cj.out,dg.out,ZC]
   | cons s0 rs =>
    obtain⟨c,q,aw⟩:∃ c q,s0.2.entries=c::q:=by
     cases H:s0.2.entries with
     | nil=>exact(Fq.some s0.2 zR H).elim
     | cons c q=>exact⟨c,q,rfl⟩
    have br:∀ p∈s0::rs,p.2.entries≠[]:=fun p I=>Fq.some p.2 (zS.2 ⟨p,I,rfl⟩);have bt:∀ p∈s0::rs,p.2.age<4611686018427387904:=fun p I=>(bj p.2 (zS.2 ⟨p,I,rfl⟩)).2
    have d2:q.length<1048576:=by
     have:=(bj s0.2 zR).1;rw[aw] at this;simp at this;omega
    have O:∀ t∈s0.2::yd rs,s0.2.le t:=Rf.Ql.top (by rw[<-kr,Yy];exact Tp);have aq:=Pv Hq br Tp aw bk d2 bt;have HN:=jb aq;have df:=jb Hq;have ab:=jb aw;have b1:=jb az;have e5:rs.length+1<1048576:=by simpa using bk
    have ao:∀ i,(i=Y\/(Value.slice a1 (s0::rs).length c1).ownBlock=some i)->W.heap.size<=i/\¬l i:=by
     rintro i (h|h)
     ·rw[h];exact⟨by omega,a4⟩
     ·exact⟨by have:=(df.out.row.lt i h).1;omega,ap i h⟩
    have V:=jb ao;clear aq Hq aw az ao bk;simp only[zH] at cb
    gi_wp2_with fail
    refine⟨trivial,fun h=>(by simp[Fence.wide] at h),(callsIn_wide.2 (Au a1 (rs.length+1) c1 wr (by omega))).mono ?_⟩;rintro e wq ⟨rfl,rfl⟩
    gi_wp2_with fail
    refine⟨trivial,fun h=>(by simp[Fence.wide] at h),(callsIn_wide.2 HN.out).mono ?_⟩;rintro e X ⟨rfl,v2,Z,P2,H2,T2,l2,k2,bb⟩;obtain⟨z,T,U⟩:=c;have ka:=ja.alloc X (.cells #[jf z,jf T,.bool U] 88) (fun _=>False);have kk:ja wq (X.alloc (.cells #[jf z,jf T,.bool U] 88)) (fun i=>i=Y\/(Value.slice a1 (s0::rs).length c1).ownBlock=some i):=k2.trans ka (fun _ _ h=>h.elim);have cc:=aJ _ _ _ _ ca (fq kk (fun i _ h=> .inr ⟨ZI d4 (V.out i h).1,(V.out i h).2⟩));have D2:=Dq.apart kk (fun i _ h=>⟨nT i (V.out i h).1,ZI db (V.out i h).1⟩);have aj:ja W (X.alloc (.cells #[jf z,jf T,.bool U] 88)) (fun i=>C i\/qj ρ i):=d5.trans kk (fun i R h=>by have:=(V.out i h).1;omega);have b2:=H2.same ka;have Pm:(Rf.taken s0.2 (yd rs)).Perm (yd Z):=P2.symm
    have e3:Yg (yd Z)+1=Yg (yd (s0::rs)):=by
     rw[<-M6 Pm,kr];exact Kw ab.out
    have b7:∀ s∈yd Z,s.entries.length<1048576/\s.age<4611686018427387904:=fun s hs=>Pp (by rw[<-kr];exact bj) s (Pm.mem_iff.2 hs)
    have ar:(yd Z).length<1048576:=by
     rw[<-Pm.length_eq];have:=M3 s0.2 (yd rs);rw[<-kr] at this;omega
    have e2:wq.heap.size<=X.heap.size:=k2.size
    have N:∀ g,v2.ownBlock=some g->¬l g/\g<(X.alloc (.cells #[jf z,jf T,.bool U] 88)).heap.size:=by
     intro g hg;refine⟨?_,(b2.row.lt g hg).2⟩;rcases l2 with h|⟨g2,h,H⟩
     ·rw[h] at hg;exact ap g hg
     ·rw[h] at hg
      cases hg;intro hc;have:=a5 _ hc;omega
    have y:∀ p∈Z,∀ r n c,p.1 = .slice (some r) n c->¬l r.block/\W.heap.size+1<=r.block/\r.block<(X.alloc (.cells #[jf z,jf T,.bool U] 88)).heap.size:=by
     intro p I r n c e;obtain⟨p',d3,dc,n',c',e',eb⟩:=bb p I r n c e;have H:=bs p' d3 dc n' c' e';rw[eb] at H;refine⟨H.1,H.2,?_⟩;have h6:=(b2.has p I).1
     have h7:p.2.entries≠[]:=by
      have h8:p.2∈Rf.taken s0.2 (yd rs):=Pm.mem_iff.2 (zS.2 ⟨p,I,rfl⟩);exact(Fq.next ab.out O).2.some p.2 h8
     rw[e] at h6;exact h6.lt h7
    have b0:=je X (.cells #[jf z,jf T,.bool U] 88);have y0:=zA (o:=0) b0;have y1:=zA (o:=1) b0;have y2:=zA (o:=2) b0;simp at y0 y1 y2;have cd:=jb T2;have bq:=jb b2;clear T2 b2 H2 b0 bb;by_cases hcl:z=F
    ·subst hcl
     have d7:(z==z)=true:=by simp
     gi_wp2
     have ai:∃ m,m<mf (jf z,wq)/\∃(F:Str) (k L:List Rf.Ch) (j:List HS) (v:Value) (l:Nat->Prop),jf z=jf F/\Yg (yd j)=m/\MM=k++L/\Rf.Tells (yd j) F L/\Rf.sy (yd j) F/\xl (X.alloc (.cells #[jf z,jf T,.bool U] 88)) (W.heap.size+1) Y v j/\Rf.Ql (yd j) j.length /\
      J (k.map Ja) l (X.alloc (.cells #[jf z,jf T,.bool U] 88))/\(∀ i,l i->C i\/W.heap.size<=i)/\(∀ i,l i->i<(X.alloc (.cells #[jf z,jf T,.bool U] 88)).heap.size)/\¬l Y/\(∀ g,v.ownBlock=some g->¬l g)/\(∀ p∈j,∀ r n c,p.1 = .slice (some r) n c->¬l r.block/\W.heap.size+1<=r.block)/\ja W (X.alloc (.cells #[jf z,jf T,.bool U] 88)) (fun i=>C i\/qj ρ i)/\Dk E B (X.alloc (.cells #[jf z,jf T,.bool U] 88)) ρ d G.1 /\
      (∀ s∈yd j,s.entries.length<1048576/\s.age<4611686018427387904)/\(yd j).length<1048576:=by
      refine⟨_,by rw[<-a6];omega,z,k,L,Z,v2,l,rfl,rfl,b1.out,(Tq.again ab.out rfl).perm Pm,((Fq.next ab.out O).2).perm Pm,bq.out,cd.out,cc,A,fun i h=>by have:=a5 i h;simp;omega,a4,fun g hg=>(N g hg).1,fun p I r n c e=>⟨(y p I r n c e).1,(y p I r n c e).2.1⟩,aj,D2,b7,ar⟩
     obtain⟨m2,av,u⟩:=ai;go_roundw
     case rel=>exact⟨m2,u⟩
     case measure=>exact XP ((bp.out (_,_) ⟨m2,u⟩).2 m2 u) av
    ·have d7:(z==F)=false:=by simp[hcl]
     obtain⟨e4,M,bm,TM⟩:=Tq.next Fq ab.out O hcl;have bd:MM=(k++[⟨z,T,U⟩])++M:=by rw[b1.out,bm];simp
     have c9:MM[k.length]?=some ⟨z,T,U⟩:=by rw[b1.out,bm];simp
     have c6:k.map Ja=(MM.take k.length).map Ja:=by rw[b1.out];simp
     have ci:∀ i,l i->i<(X.alloc (.cells #[jf z,jf T,.bool U] 88)).heap.size:=fun i h=>by have:=a5 i h;simp;omega
     obtain⟨fn,tmps,assign,body,hy,hR⟩:=HY.out (k.map Ja) (Ja ⟨z,T,U⟩) l _ cc ci (.inl ⟨k.length,_,c6,c9,rfl⟩);dsimp only[encI,Ja] at hy;have HR:=jb hR;have cl:=jb bd;clear hR bm bd c9 c6
     gi_wp2
     refine⟨fun h=>by simp[Fence.wide] at h,HR.out.mono ?_⟩;rintro e W3 ⟨C2,au,ah,ag,bl⟩
     have an:∀ i,C2 i->C i\/W.heap.size<=i:=fun i h=>by
      rcases au i h with h|h
      ·exact A i h
      ·have h6:=aj.size
       exact .inr (by omega)
     have cf:ja W W3 (fun i=>C i\/qj ρ i):=aj.trans ag (fun i R h=>by
      rcases A i h with H|H
      ·exact .inl H
      ·omega)
     have da:∀ i,l i->¬qj ρ i/\B<=i:=fun i h=>by
      rcases A i h with H|H
      ·exact⟨(hC i H).1,Nat.le_of_not_lt (hC i H).2⟩
      ·exact⟨nT i H,by omega⟩
     have D3:=D2.apart ag (fun i _ h=>da i h);rcases bl with⟨rfl,bn⟩|⟨rfl,al⟩
     ·have ai:∃ m,m<mf (jf F,wq)/\∃(F:Str) (k L:List Rf.Ch) (j:List HS) (v:Value) (l:Nat->Prop),jf z=jf F/\Yg (yd j)=m/\MM=k++L/\Rf.Tells (yd j) F L/\Rf.sy (yd j) F/\xl W3 (W.heap.size+1) Y v j/\Rf.Ql (yd j) j.length /\
       J (k.map Ja) l W3/\(∀ i,l i->C i\/W.heap.size<=i)/\(∀ i,l i->i<W3.heap.size)/\¬l Y/\(∀ g,v.ownBlock=some g->¬l g)/\(∀ p∈j,∀ r n c,p.1 = .slice (some r) n c->¬l r.block/\W.heap.size+1<=r.block)/\ja W W3 (fun i=>C i\/qj ρ i)/\Dk E B W3 ρ d G.1 /\
       (∀ s∈yd j,s.entries.length<1048576/\s.age<4611686018427387904)/\(yd j).length<1048576:=by
       have bi:∀ i,¬l i->i<(X.alloc (.cells #[jf z,jf T,.bool U] 88)).heap.size->¬C2 i:=fun i h1 h2 h3=>by
        rcases au i h3 with h|h
        ·exact h1 h
        ·omega
       refine⟨_,by rw[<-a6];omega,z,k++[⟨z,T,U⟩],M,Z,v2,C2,rfl,rfl,cl.out,TM.perm Pm,((Fq.next ab.out O).1).perm Pm,bq.out.keep ag a4 (fun g hg=>(N g hg).1) (fun p I r n c e=>(y p I r n c e).1),cd.out,by rw[xP];exact bn,an,ah,
        bi Y a4 (zC bq.out.box),fun g hg=>bi g (N g hg).1 (N g hg).2,fun p I r n c e=>⟨bi _ (y p I r n c e).1 (y p I r n c e).2.2,(y p I r n c e).2.1⟩,cf,D3,b7,ar⟩
      obtain⟨m2,av,u⟩:=ai
      have am:=jb u
      have de:=jb av
      clear u av
      gi_wp2
      go_roundw
      case rel=>exact⟨m2,am.out⟩
      case measure=>exact XP ((bp.out (_,_) ⟨m2,am.out⟩).2 m2 am.out) de.out
     ·gi_wp2
      refine bodyPost_ret (results_none rfl _ _ _) rfl ?_;exact⟨C2,an,ah,⟨_,rfl⟩,.inr ⟨_,D3,al⟩⟩
 ·obtain⟨te,ae,rfl⟩:=c8.shape
  have eM:Xf G=[]:=by unfold Xf;rw[bc]
  have eE:Ll G=some bad:=by unfold Ll;rw[bc]
  rw[eM,eE] at hY;have HM:=jb eM;have HE:=jb eE;clear eM eE;obtain⟨fn,tmps,assign,body,hy,hR⟩:=hY [] (eu,.iface te (.pointer (some ae))) C w1 bo ak (.inr ⟨bad,rfl,rfl,rfl,c8⟩);dsimp only[encI,eu] at hy;have HR:=jb hR;have dh:=jb D1;clear hR D1 hY
  gi_wp2
  refine⟨fun h=>by simp[Fence.wide] at h,HR.out.mono ?_⟩;rintro e W3 ⟨C2,au,ah,ag,bl⟩;have D3:=dh.out.apart ag (fun i _ h=>⟨(hC i h).1,Nat.le_of_not_lt (hC i h).2⟩);have A:∀ i,C2 i->C i\/W.heap.size<=i:=fun i h=>(au i h).imp id (fun h=>ZI kW.size h);rcases bl with⟨rfl,bn⟩|⟨rfl,al⟩
  ·gi_wp2
   refine bodyPost_ret (results_none rfl _ _ _) rfl ?_;exact⟨C2,A,ah,⟨_,rfl⟩,.inl ⟨_,⟨D3,.inr ⟨bad,_,HE.out,⟨te,ae,rfl⟩,by rw[HM.out];rfl⟩⟩,bn⟩⟩
  ·gi_wp2
   refine bodyPost_ret (results_none rfl _ _ _) rfl ?_;exact⟨C2,A,ah,⟨_,rfl⟩,.inr ⟨_,D3,al⟩⟩
end Go.Proofs.YtnipbplghijdmaaGreatDoor
namespace Go.Proofs.YtnipbplghijdmaaGreatDoor
open RowKit Maps WideShapes Go.Proofs.Tryz
variable {E:Nat->Addr} {B F b c cap g i k m n r x y:Nat} {w w':World} {e t:TypeId} {hv pv v:Value} {xs:List Value} {l:List (Nat×Nat×Str)} {u:Tmp} {tmps:Array Value} {q:List UInt8} {ps:List (Nat×Str)} {p:Option Addr} {es:List Rf.Ch}
abbrev Yo(d:Nat)(n:Nat)(key:Str):Value:= .func (.func 212) #[.agg #[.pointer (some ⟨d,0,none⟩),jf (jo n),jf key]] #[]
theorem Sy(d n:Nat)(key:Str)(c:n<=9223372036854775807)(H:Env E B w) :
 Calls prog 175 #[.pointer (some ⟨d,0,none⟩),j6 n,jf key] w fun e w'=>e = .returned (Yo d n key)/\ja w w' (fun _=>False):=by
 go_enter func175,ntmps175;go_wp2_with fail;refine(gk n c H).mono ?_;rintro e f ⟨rfl,b⟩;go_wp2;go_ret;exact⟨rfl,b⟩
theorem Tryz.Sq:(prog.info? 132).map (fun i=>(i.zero,i.size,i.bytes))=some (some .nilFunc,1,8):=by kernel_rfl
theorem jfn(d n:Nat)(key:Str):∀ u∈[Yo d n key],u.oneCell'=true:=by intro u b;simp at b;subst b;rfl
theorem Zw(d:Nat)(m:Rf.Man)(rv last mv:Value)(R cl:Bool)(key:Str)(H:Env E B w)(x:w.heap[b]?=some (.cells (qv (.pointer (some ⟨d,0,none⟩)) (jg m.next) (jg m.last) (jg m.log) (jg m.base) rv last mv R cl) t (0,0)))(hv:Jw w rv m.runs)(hl:m.runs.length<524288)(Y:∀ n∈m.settled,n<=9223372036854775807) :
 Calls prog 124 #[.pointer (some ⟨b,0,none⟩),jf key] w fun e w'=>∃ p c,e = .returned (.slice p m.settled.length c)/\w'.ownsRow w.heap.size 132 1 (.slice p m.settled.length c) m.settled.length (m.settled.map (fun n=>Yo d n key))/\ja w w' (fun _=>False):=by
 obtain⟨j0,Z,I,G,F⟩:=info_parts Tryz.Sq;have r:=aw w m rv hv (by omega);have J:=xy m;have d0:=zA (o:=0) x;have d1:=zA (o:=1) x;have d2:=zA (o:=2) x;have d3:=zA (o:=3) x;have d4:=zA (o:=4) x;have d5:=zA (o:=5) x;simp at d0 d1 d2 d3 d4 d5;have HB:=jb x;generalize m.settled=l at r J Y ⊢;have A:=jb r;clear x r;go_enter func124,ntmps124;go_wp2_with fail;refine A.out.mono ?_;rintro e C ⟨p1,c1,rfl,f,D⟩;have hN:=Jz f rfl;go_wp2_with fail
 go_loopw [5,14] (fun b i wr=>∃(k:Nat) (p:Option Addr) (c:Nat),k<=l.length/\i = .int .i64 k/\b = .slice p k c /\
  wr.ownsRow C.heap.size 132 1 (.slice p k c) k ((l.take k).map (fun n=>Yo d n key))/\ja C wr (fun _=>False))
  (fun _ i _=>l.length-(intOf i).toNat)
 case atStart=>exact⟨0,none,0,zG _,rfl,rfl,ZL _ _ _ _,ja.refl _ _⟩
 case round =>
  obtain⟨k,p,c,hk,rfl,rfl,q,v⟩:=hrel;rcases zV k l.length with y|ah
  ·obtain⟨g,o,rfl,e0⟩:=(hN.same v).at y
   have L:=Y l[k] (xV y);have V:=D.tt v;have HR:=H.same V;have S:=zA (o:=0) (V.same HB.out id);simp at S;go_wp2_with fail;refine(Sy d l[k] key L HR).mono ?_;rintro e w2 ⟨rfl,X⟩;have W:=v.tt X;have f:=X.row q (fun _ _ h=>h);have z:=f.alloc (.cells #[Yo d l[k] key] 132);have O:Hid (k+1<=maxLen):=by unfold Hid maxLen;omega
   have N:Hid ((k+1)*8<=140737488355328):=by unfold Hid;omega
   have s:(l.take (k+1)).map (fun n=>Yo d n key)=(l.take k).map (fun n=>Yo d n key)++[Yo d l[k] key]:=by
    rw[XG y,xP];rfl
   have HS:=jb s;clear s q
   go_wp2_with (first|(at_builtin;go_must (refine jy _ rfl (.tmp 18) (.tmp 26) 134 rfl C.heap.size 132 j0 .nilFunc 1 8 underlying134 Z I G F rfl ZJ _ _ _ rfl z ⟨w2.heap.size,0,none⟩ 1 1 [Yo d l[k] key] rfl rfl (cell_one_new _ _ _) (jfn _ _ _) O.out N.out (W.more _).size ?_);intro p3 T w3 u M U)|go_in)
   have k3:ja C w3 (fun _=>False):=(W.more _).grow M (fun j e Z=>by have:=(f.lt j e).1;omega);rw[<-HS.out] at u;exact⟨⟨k+1,p3,T,by omega,by simp,rfl,u,k3⟩,by simp[intOf];omega⟩
  ·have ek:k=l.length:=by omega
   subst ek;rw[xR] at q;go_wp2;go_ret;exact⟨p,c,rfl,xd q D.size,D.tt v⟩
theorem jfh{P:Program}{base:Nat}{c:TypeId}(b:P.underlying c=some (.slice e))(h:w.ownsRow base e 1 v n xs)(i:∀ u∈xs,u.oneCell'=true):Src P 1 c v n xs w:=by
 rcases h.2 with⟨rfl,d⟩|⟨g,cap,k,rfl,_⟩
 ·have f:xs=[]:=zT (by rw[h.1,d])
  subst f;subst d;exact Src.ofNil w b 0
 ·exact Src.ofSlice w b ⟨g,0,none⟩ n cap _ h.1 (fun j u hu=>h.cells rfl j u hu) i
abbrev Bx(v:Value):Value:= .func (.func 158) #[v] #[]
def Wk(d:Nat)(m:Rf.Man)(l:List Rf.Ch)(mv:Value)(key:Str)(w:World)(e:Ending)(w':World):Prop :=
 ∃ p c v,e = .returned (.slice p (m.settled.length+1) c)/\w'.ownsRow w.heap.size 132 1 (.slice p (m.settled.length+1) c) (m.settled.length+1) (Bx v::m.settled.map (fun n=>Yo d n key))/\Chs w' v (l.drop (Rf.below l key)) /\
  (∀ ad n c,v = .slice (some ad) n c->∃ ad' n' c',mv = .slice (some ad') n' c'/\ad'.block=ad.block)/\ja w w' (fun _=>False)
theorem ob(d:Nat)(m:Rf.Man)(rv last o:Value)(l:List Rf.Ch)(r Y:Bool)(key:Str)(H:Env E B w)(D:w.heap[b]?=some (.cells (qv (.pointer (some ⟨d,0,none⟩)) (jg m.next) (jg m.last) (jg m.log) (jg m.base) rv last o r Y) t (0,0)))(hv:Jw w rv m.runs)(hl:m.runs.length<524288)(hs:∀ n∈m.settled,n<=9223372036854775807)(L:Chs w o l)(hr:Rf.jw l)(J:l.length<1048576) :
 Calls prog 72 #[.pointer (some ⟨b,0,none⟩),jf key] w (Wk d m l o key w):=by
 obtain⟨j0,C,I,G,F⟩:=info_parts Tryz.Sq;have a9:=xy m;have X:=Sx b 7 _ t o l key w D rfl L hr J;have HB:=jb D;have HM:=jb X;clear D X;go_enter func72,ntmps72;go_wp2_with fail;refine HM.out.mono ?_;rintro e k ⟨v,rfl,M,W,q⟩;have z:ja w (k.alloc (.cells #[Bx v] 132)) (fun _=>False):=W.more _;have i:=Zw d m rv last o r Y key (H.same z) (z.same HB.out id) (hv.same z) hl hs;have x:=World.ownsRow_lit (base:=w.heap.size) (e:=132) (size:=1) k #[Bx v] 1 W.size (by unfold maxLen;omega) rfl;have y:=jb i;have S:=jb q;clear i q;go_wp2_with fail;refine y.out.mono ?_;rintro e Z ⟨p2,c2,rfl,c,A⟩;have V:=z.tt A;have f:=A.row x (fun _ _ h=>h)
 have s:=jfh (P:=prog) underlying134 c (fun u hu=>by
  obtain⟨n,_,rfl⟩:=zS.1 hu
  rfl)
 have O:Hid (1+m.settled.length<=maxLen):=by unfold Hid maxLen;omega
 have N:Hid ((1+m.settled.length)*8<=140737488355328):=by unfold Hid;omega
 have HO:=jb c;clear c
 go_wp2_with (at_builtin;go_must (refine Xq Z rfl (.tmp 10) (.tmp 13) 134 134 rfl w.heap.size 132 j0 .nilFunc 1 8 underlying134 C I G F rfl ZJ _ 1 _ rfl f _ m.settled.length _ rfl s O.out N.out V.size ?_);intro p3 R U g p T)
 have k3:ja w U (fun _=>False):=V.grow p (fun j e C=>by have:=(f.lt j e).1;omega);have k4:ja k U (fun _=>False):=((ja.alloc k _ (fun _=>False)).tt A).grow p (fun j e C=>by injection e with e;have e':k.heap.size=j:=e;omega);go_ret;rw[show 1+m.settled.length=m.settled.length+1 by omega] at g ⊢;exact⟨p3,R,v,rfl,g,M.same k4,S.out,k3⟩
abbrev plV(p:Nat×Nat×Str):Value:= .agg #[j6 p.1,j6 p.2.1,jf p.2.2]
def zc(l:List (Nat×Nat×Str)):List Value:=l.flatMap fun p=>[j6 p.1,j6 p.2.1,jf p.2.2]
theorem Nn(l:List (Nat×Nat×Str))(c:Nat×Nat×Str):zc (l++[c])=zc l++zc [c]:=by simp[zc]
theorem jgx(l:List (Nat×Nat×Str)):∀ u∈zc l,u.oneCell'=true:=by
 intro u b;obtain⟨c,_,h⟩:=List.mem_flatMap.1 b;simp at h;rcases h with rfl|rfl|rfl<;>rfl
theorem Yp(h:k<l.length):(zc l)[k*3]?=some (j6 l[k].1)/\(zc l)[k*3+1]?=some (j6 l[k].2.1)/\(zc l)[k*3+2]?=some (jf l[k].2.2):=by
 induction l generalizing k with
 | nil=>simp at h
 | cons c r ih =>
  have e:zc (c::r)=j6 c.1::j6 c.2.1::jf c.2.2::zc r:=by simp[zc]
  cases k with
  | zero=>rw[e];simp
  | succ k =>
   have:=ih (by simpa using h);rw[e,show(k+1)*3=k*3+1+1+1 by omega,show k*3+1+1+1+1=(k*3+1)+1+1+1 by omega,show k*3+1+1+1+2=(k*3+2)+1+1+1 by omega];simp only[xG,List.getElem_cons_succ];exact this
theorem jfr{c:Nat×Nat×Str}(h:w.heap[b]?=some (.cells #[j6 c.1,j6 c.2.1,jf c.2.2] 346 (0,0))):(loadVar 346 ⟨b,0,none⟩).run prog w = .ok (plV c) w:=by
 have g:=zA (o:=0) h;have f:=zA (o:=1) h;have d:=zA (o:=2) h;simp at g f d;go_simp
theorem Un{fn:Func}{t:Tmp}(h:fn.results=#[.cell t 346,.tmp u]){c:Nat×Nat×Str}(f:tmps.getD t undef = .pointer (some ⟨b,0,none⟩))(i:w.heap[b]?=some (.cells #[j6 c.1,j6 c.2.1,jf c.2.2] 346 (0,0))) :
 (results fn tmps).run prog w = .ok (.tuple #[plV c,tmps.getD u undef]) w:=by
 have g:=jfr i;have d:tmps[t]?.getD undef = .pointer (some ⟨b,0,none⟩):=by simpa using f
 simp[results,h,d,asAddr,g]
theorem jdc{k:Str}(h:w.heap[b]?=some (.cells #[j6 x,j6 y,jf k] 346 (0,0))) :
 w.cell? ⟨b,0,none⟩=some (j6 x)/\w.cell? ⟨b,1,none⟩=some (j6 y)/\w.cell? ⟨b,2,none⟩=some (jf k)/\w.frozen? ⟨b,0,none⟩=false/\w.frozen? ⟨b,1,none⟩=false/\w.frozen? ⟨b,2,none⟩=false:=by
 have f:=zA (o:=0) h;have d:=zA (o:=1) h;have c:=zA (o:=2) h;simp at f d c;exact⟨f,d,c,zB h,zB h,zB h⟩
theorem jgw{x' y':Nat}{k k':Str}(h:w.heap[b]?=some (.cells #[j6 x,j6 y,jf k] 346 (0,0))) :
 (((w.setCell ⟨b,0,none⟩ (j6 x')).setCell ⟨b,1,none⟩ (j6 y')).setCell ⟨b,2,none⟩ (jf k')).heap[b]?=some (.cells #[j6 x',j6 y',jf k'] 346 (0,0)):=by
 have f:=jd (o:=0) h (j6 x');have d:=jd (o:=1) f (j6 y');have c:=jd (o:=2) d (jf k');simpa using c
theorem jhp{k:Str}{c:Nat×Nat}(h:w.heap[b]?=some (.cells #[j6 x,j6 y,jf k] t c)):∀ j u,w.cell? ⟨b,j,none⟩≠some (j5 u):=by
 intro j x;rw[zA h]
 match j with
 | 0=>simp
 | 1=>simp
 | 2=>simp
 | j+3=>rw[zI (by simp)];simp
theorem Ng{l:List UInt8}{p:Nat×Str}(M:Rd w r l)(g:Rf.dj F l=some (p,q))(U:F<1099511627776) :
 Calls prog 274 #[.pointer (some ⟨r,0,none⟩),j6 F] w fun e w'=>e = .returned (.tuple #[plV (p.1,F,p.2),.nilIface])/\Rd w' r q/\ja w w' (fun i=>i=r):=by
 have T:r<w.heap.size:=by obtain⟨v,S,_⟩:=M;exact zC S
 unfold Rf.dj at g
 split at g
 ·rename_i hc
  obtain⟨R,B⟩:=hc
  split at g
  ·rename_i t q' htt
   cases g;have I:=ja.alloc w (.cells #[j6 0,j6 0,jf []] 346) (fun _=>False);have m:=je w (.cells #[j6 0,j6 0,jf []] 346);obtain⟨N,u⟩:∃ N,N=Rf.number (l.take 4):=⟨_,rfl⟩;have E:=jb m;rw[<-u] at B ⊢;clear m;go_enter func274,ntmps274;go_wp2_with fail;refine(yo (n:=4) (M.same I) R (by omega)).mono ?_;rintro e O ⟨rfl,A,L⟩;rw[<-u];have HN:=jb u;clear u;have f:=L.same E.out (by omega);have D:ja w O (fun i=>i=r):=(Qi I).tt L;have s:=jb f;clear f;go_wp2_with fail;refine(gi A htt).mono ?_;rintro e H ⟨rfl,z,J⟩;have b:=J.same s.out (by omega);have C:ja w H (fun i=>i=r):=D.tt J;obtain⟨a0,a1,Z,X,W,V⟩:=jdc (x:=0) (y:=0) b;have j:=jhp (x:=0) (y:=0) b;have k:=z.other (Ze H w.heap.size (j6 N) (j6 F) (jf t)) (show r≠w.heap.size by omega) j;have d:=jgw (x:=0) (y:=0) (x':=N) (y':=F) (k':=t) b;have o:=jb d;have G:=jb k;clear d k b j;go_wp2;refine bodyPost_ret (Un rfl rfl (c:=(N,F,t)) o.out) rfl ?_;exact⟨rfl,G.out,C.trans (Ze _ _ _ _ _) (fun i hi e=>by have Y:i=w.heap.size:=e;omega)⟩
  ·cases g
 ·cases g
def Yq(F:Nat)(ps:List (Nat×Str))(k:Nat):List (Nat×Nat×Str):=ps.mapIdx fun j p=>(p.1,(if j<k then Rf.Xs F ps j else F),p.2)
theorem zo(F:Nat)(ps:List (Nat×Str))(k:Nat):(Yq F ps k).length=ps.length:=by simp[Yq]
theorem Qp{j:Nat}(h:j<ps.length):(Yq F ps k)[j]'(by rw[zo];exact h)=(ps[j].1,(if j<k then Rf.Xs F ps j else F),ps[j].2):=by simp[Yq]
theorem ja8(F:Nat)(ps:List (Nat×Str)):Yq F ps 0=ps.map (fun p=>(p.1,F,p.2)):=by
 apply List.ext_getElem
 ·simp[Yq]
 ·intro i c b
  simp[Yq]
theorem Rk{ps:List (Nat×Nat×Str)}(h:k<ps.length)(x:Nat):zc (ps.set k (ps[k].1,x,ps[k].2.2))=(zc ps).set (k*3+1) (j6 x):=by
 induction ps generalizing k with
 | nil=>simp at h
 | cons p r ih =>
  have e:∀(x:Nat×Nat×Str) (l:List (Nat×Nat×Str)),zc (x::l)=j6 x.1::j6 x.2.1::jf x.2.2::zc l:=fun x l=>by simp[zc]
  cases k with
  | zero=>simp[e]
  | succ k =>
   have:=ih (by simpa using h:k<r.length);simp only[List.getElem_cons_succ,List.set_cons_succ];rw[e,this,e,show(k+1)*3+1=(k*3+1)+1+1+1 by omega];simp[List.set_cons_succ]
theorem ja9(h:k<ps.length):Yq F ps (k+1)=(Yq F ps k).set k (ps[k].1,Rf.Xs F ps k,ps[k].2):=by
 apply List.ext_getElem
 ·simp[Yq]
 ·intro i b c
  rw[zo] at b;rw[Qp b,List.getElem_set];by_cases e:k=i
  ·subst e
   rw[if_pos rfl,if_pos (by omega)]
  ·rw[if_neg e,Qp b]
   by_cases hi:i<k
   ·rw[if_pos hi,if_pos (by omega)]
   ·rw[if_neg hi,if_neg (by omega)]
theorem Nl(h:k<ps.length):zc (Yq F ps (k+1))=(zc (Yq F ps k)).set (k*3+1) (j6 (Rf.Xs F ps k)):=by
 rw[ja9 h];have b:k<(Yq F ps k).length:=by rw[zo];exact h
 have:=Rk b (Rf.Xs F ps k);rw[Qp h] at this;exact this
theorem jbp(h:Rf.rr ps=true)(b:k+1<ps.length):ps[k].1<=ps[k+1].1:=by
 unfold Rf.rr at h;rw[ZU] at h;have:=of_decide_eq_true h.2;exact XF.1 this k (k+1) (by omega) b (by omega)
theorem Si(h:Rf.rr ps=true):∃ x r,ps=(0,x)::r:=by
 unfold Rf.rr at h;rw[ZU] at h;have b:=of_decide_eq_true h.1
 cases ps with
 | nil=>cases b
 | cons p r =>
  obtain⟨a,x⟩:=p;simp at b;exact⟨x,r,by rw[b]⟩
theorem jfu{base:Nat}(u:ps.length=n)(v:Rf.rr ps=true)(b:w.ownsRow base 346 3 (.slice (some ⟨g,0,none⟩) n cap) n (zc (Yq F ps 0)))(U:n<1048576) :
 Calls prog 275 #[.slice (some ⟨g,0,none⟩) n cap] w fun e w'=>e = .returned .nilIface/\w'.ownsRow base 346 3 (.slice (some ⟨g,0,none⟩) n cap) n (zc (Yq F ps n))/\ja w w' (fun i=>i=g):=by
 obtain⟨S,T,s⟩:=Si v;have N:1<=n:=by rw[<-u,s];simp
 have c0:w.cell? ⟨g,0,none⟩=some (j6 0):=by
  rw[b.cellAt 0 (by omega)];have:=(Yp (l:=Yq F ps 0) (k:=0) (by rw[zo];omega)).1;rw[Qp (by omega)] at this;simp only[s] at this;simpa [s] using this
 have d:Yq F ps (n-1)=Yq F ps n:=by
  apply List.ext_getElem
  ·simp[Yq]
  ·intro i x W
   rw[zo] at x;rw[Qp x,Qp x];by_cases hi:i<n-1
   ·rw[if_pos hi,if_pos (by omega)]
   ·rw[if_neg hi,if_pos (by omega)]
    have:Rf.Xs F ps i=F:=by
     unfold Rf.Xs;rw[XI (by omega)];rfl
    rw[this]
 have r:=jb b;have J:=jb d;have L:=jb v;have I:=jb u;clear b d v s u;have M:(1:Int)<=(n:Int):=by omega
 go_enter func275,ntmps275;go_wp2
 go_loopw [15] (fun i wr=>∃(k:Nat),k<=n-1/\i = .int .i64 k/\wr.ownsRow base 346 3 (.slice (some ⟨g,0,none⟩) n cap) n (zc (Yq F ps k))/\ja w wr (fun i=>i=g))
  (fun i _=>n-1-(intOf i).toNat)
 case atStart=>exact⟨0,zG _,rfl,r.out,ja.refl _ _⟩
 case round =>
  obtain⟨k,V,rfl,b,o⟩:=hrel;rcases zV k (n-1)with O|R
  ·have A:(k:Int)<(n:Int)-1:=by omega
   have q:k+1<ps.length:=by rw[I.out];omega
   have H:wr.cell? ⟨g,k*3,none⟩=some (j6 ps[k].1):=by
    rw[b.cellAt _ (by omega),(Yp (l:=Yq F ps k) (k:=k) (by rw[zo];omega)).1,Qp (by omega)]
   have G:wr.cell? ⟨g,(k+1)*3,none⟩=some (j6 ps[k+1].1):=by
    rw[b.cellAt _ (by omega),(Yp (l:=Yq F ps k) (k:=k+1) (by rw[zo];omega)).1,Qp (by omega)]
   have E:=b.cellAt (k*3+1) (by omega);rw[(Yp (l:=Yq F ps k) (k:=k) (by rw[zo];omega)).2.1] at E;have Z:=b.frozenAt (k*3+1);have m:=jbp L.out q
   have f:Rf.Xs F ps k=ps[k+1].1:=by
    unfold Rf.Xs;rw[xB q];rfl
   have c:=tl b (j:=k*3+1) (by omega) (j6 ps[k+1].1);rw[<-f,<-Nl (by omega),f] at c;have t:=o.set (p:=⟨g,k*3+1,none⟩) rfl (j6 ps[k+1].1);generalize ps[k+1].1=X at G m c t f;generalize ps[k].1=Y at H m;have B:¬((X:Int)<(Y:Int)):=by omega
   have y:=jb c;have z:=jb t;clear b c t;go_wp2;exact⟨⟨k+1,by omega,by simp,y.out,z.out⟩,by simp[intOf];omega⟩
  ·have D:k=n-1:=by omega
   subst D;rw[J.out] at b;have C:¬(((n-1:Nat):Int)<(n:Int)-1):=by omega
   go_wp2;go_ret;exact⟨rfl,b,o⟩
theorem Rf.oa{l:List UInt8}(h:Rf.Qg F (n+1) l=some (ps,q)):∃ p r ps',Rf.dj F l=some (p,r)/\Rf.Qg F n r=some (ps',q)/\ps=p::ps':=by
 unfold Rf.Qg at h
 split at h
 ·cases h
 ·rename_i p r e
  split at h
  ·cases h
  ·rename_i ps' q' e'
   cases h;exact⟨p,r,ps',e,e',rfl⟩
theorem Rf.Fw{l:List UInt8}(h:Rf.Qg F n l=some (ps,q)):ps.length=n:=by
 induction n generalizing l ps with
 | zero=>cases h;rfl
 | succ n ih =>
  obtain⟨p,r,c,_,b,rfl⟩:=Rf.oa h;simp[ih b]
def plZ:Value:= .agg #[.int .i64 0,.int .i64 0,.string ⟨#[]⟩]
theorem Tryz.jg6:(prog.info? 346).map (fun i=>(i.zero,i.size,i.bytes))=some (some plZ,3,32):=by kernel_rfl
theorem Rl(w:World)(x y:Nat)(k:Str)(t:TypeId):∀ j u,(zc [(x,y,k)])[j]?=some u->(w.alloc (.cells #[j6 x,j6 y,jf k] t)).cell? ((⟨w.heap.size,0,none⟩:Addr).add j)=some u:=by
 intro j u b;exact J8 (je w (.cells #[j6 x,j6 y,jf k] t)) rfl j u (by simpa [zc] using b)
theorem Rd.rowAt{base:Nat}{size:Nat}(h:Rd w r q)(d:ja w w' (fun i=>some i=v.ownBlock))(l:w.ownsRow base e size v n xs)(y:r<base):Rd w' r q:=by
 obtain⟨u,m,g,f⟩:=h;have b:∀ i,i<=r->¬some i=v.ownBlock:=fun i hi e=>by have:=(l.lt i e.symm).1;omega
 refine⟨u,d.same m (b r (zJ _)),?_,f⟩;rcases Classical.em (q=[])with rfl|k
 ·obtain⟨p,c,rfl,x,t,s,o⟩:=g
  exact⟨p,c,rfl,x,t,s,fun ad e=>⟨(o ad e).1,fun j u hu=>by cases hu⟩⟩
 ·exact g.keep d (fun p n c e=>b _ (Nat.le_of_lt (f k p n c e).1))
theorem K7{l:List UInt8}(hr:Rd w r l)(h:Rf.eo F l=some ps)(hF:F<1099511627776) :
 Calls prog 263 #[.pointer (some ⟨r,0,none⟩),j6 F] w fun e w'=>∃ g cap,e = .returned (.tuple #[.slice (some ⟨g,0,none⟩) ps.length cap,.nilIface]) /\
  w'.ownsRow w.heap.size 346 3 (.slice (some ⟨g,0,none⟩) ps.length cap) ps.length (zc (Yq F ps ps.length))/\ja w w' (fun i=>i=r):=by
 have Y:r<w.heap.size:=by obtain⟨v,U,_⟩:=hr;exact zC U
 obtain⟨j0,hj,X,W,V⟩:=info_parts Tryz.jg6;unfold Rf.eo at h
 split at h
 ·rename_i hc
  obtain⟨h2,a3⟩:=hc
  split at h
  ·rename_i ps' htp
   split at h
   ·rename_i hjoin
    cases h;have o:=Rf.Fw htp
    have a8:Rf.number (l.take 2)<65536:=by
     have:=Rf.Zz (l.take 2);rw[zK,xD h2] at this;exact this
    obtain⟨N,R⟩:∃ N,N=Rf.number (l.take 2):=⟨_,rfl⟩;rw[<-R] at a8 o htp a3;rw[o];have HJ:=jb hjoin;have ac:=jb htp;have O:=jb o;clear hjoin htp o;have ap:((N:Int)==0)=false:=by simp;omega
    have ao:¬((N:Int)=0):=by omega
    go_enter func263,ntmps263;go_wp2_with fail;refine(yo (n:=2) hr h2 (by omega)).mono ?_;rintro e w1 ⟨rfl,a1,k1⟩;rw[<-R];have b3:=jb R;clear R;go_wp2
    go_loopw [8,27] (fun v i wr=>∃(k:Nat) (done u:List (Nat×Str)) (q:List UInt8) (p:Option Addr) (c:Nat),k<=N/\ps=done++u/\done.length=k/\Rf.Qg F (N-k) q=some (u,[])/\i = .int .u64 k/\v = .slice p k c /\
     wr.ownsRow w.heap.size 346 3 (.slice p k c) k (zc (done.map (fun p=>(p.1,F,p.2))))/\Rd wr r q/\ja w wr (fun i=>i=r))
     (fun _ i _=>N-(intOf i).toNat)
    case atStart=>exact⟨0,[],ps,_,none,0,zG _,rfl,rfl,ac.out,rfl,rfl,ZL _ _ _ _,a1,k1⟩
    case round =>
     obtain⟨k,done,u,q,p,c,hk,D,a6,d,rfl,rfl,b,A,G⟩:=hrel;have J:=jb D;clear D;rcases zV k N with E|b1
     ·rw[show N-k=(N-(k+1))+1 by omega] at d
      obtain⟨⟨s,t⟩,q',x,hT,I,rfl⟩:=Rf.oa d;have ad:=jb I;clear d I;go_wp2_with fail;refine(Ng A hT hF).mono ?_;rintro e z ⟨rfl,a0,k2⟩;have m:=k2.row b (fun g T e=>by have:=(b.lt g T).1;omega);have KW:=Xx G k2;clear b A;have B:=(m.alloc (.cells #[j6 s,j6 F,jf t] 346)).alloc (.cells #[j6 s,j6 F,jf t] 346);have L:(z.alloc (.cells #[j6 s,j6 F,jf t] 346)).heap.size=z.heap.size+1:=by simp
      have y:=Rl (z.alloc (.cells #[j6 s,j6 F,jf t] 346)) s F t 346;rw[L] at y;have U:=jgx [(s,F,t)];have a9:Hid (k+1<=maxLen):=by unfold Hid maxLen;omega
      have a7:Hid ((k+1)*32<=140737488355328):=by unfold Hid;omega
      have hb:w.heap.size<=((z.alloc (.cells #[j6 s,j6 F,jf t] 346)).alloc (.cells #[j6 s,j6 F,jf t] 346)).heap.size:=by have:=KW.size;simp;omega
      have M:=m.lt
      go_wp2_with (first|(at_builtin;go_must (refine jy _ rfl (.tmp 39) (.tmp 41) 321 rfl w.heap.size 346 j0 plZ 3 32 underlying321 hj X W V rfl (ZM 2) _ _ _ rfl B ⟨z.heap.size+1,0,none⟩ 1 1 (zc [(s,F,t)]) rfl rfl y U a9.out a7.out hb ?_);intro p3 aa S f a5 af)|go_in)
      rw[<-Nn] at f;have k3:ja z S (fun i=>some i=(Value.slice p k c).ownBlock):=(((ja.refl z _).more _).more _).grow a5 (fun j e _=>e.symm);have ab:ja w S (fun i=>i=r):=KW.trans k3 (fun i hi e=>by have:=(M i e.symm).1;omega);have Z:Rd S r q':=a0.rowAt k3 m Y;have a4:(done++[(s,t)]).map (fun p=>(p.1,F,p.2))=done.map (fun p=>(p.1,F,p.2))++[(s,F,t)]:=by simp
      rw[<-a4] at f;have a2:ps=(done++[(s,t)])++x:=by rw[J.out];simp
      exact⟨⟨k+1,done++[(s,t)],x,q',p3,aa,by omega,a2,by simp[a6],ad.out,by simp,rfl,f,Z,ab⟩,by simp[intOf];omega⟩
     ·have ek:k=N:=by omega
      subst ek;rw[Nat.sub_self] at d;cases d;have hd:ps=done:=by have:=J.out;simpa using this
      rw[<-hd,<-ja8] at b;have b2:0<k:=by omega
      obtain⟨g,T⟩:∃ g,p=some ⟨g,0,none⟩:=by
       rcases b.2 with⟨e,e0⟩|⟨g,_,_,e,_⟩
       ·omega
       ·cases e;exact⟨g,rfl⟩
      subst T;have H:=jfu (base:=w.heap.size) O.out HJ.out b (by omega);have ae:=jb H;have E:=b.lt;clear H b HJ hd;go_wp2_with fail;refine(Vw A).mono ?_;rintro e w' ⟨rfl,rfl⟩;go_wp2_with fail;refine ae.out.mono ?_;rintro e w5 ⟨rfl,C,k5⟩;go_wp2;go_ret2;exact⟨g,c,rfl,C,G.trans k5 (fun i hi e=>by have:=(E g rfl).1;omega)⟩
   ·cases h
  ·cases h
 ·cases h
abbrev Kz(hv pv:Value):Value:= .agg #[hv,pv]
theorem jdw(h:w.heap[b]?=some (.cells #[hv,pv] 323 (0,0))):(loadVar 323 ⟨b,0,none⟩).run prog w = .ok (Kz hv pv) w:=by
 have d:=zA (o:=0) h;have c:=zA (o:=1) h;simp at d c;go_simp
theorem re{fn:Func}{t:Tmp}(h:fn.results=#[.cell t 323,.tmp u])(d:tmps.getD t undef = .pointer (some ⟨b,0,none⟩))(g:w.heap[b]?=some (.cells #[hv,pv] 323 (0,0))) :
 (results fn tmps).run prog w = .ok (.tuple #[Kz hv pv,tmps.getD u undef]) w:=by
 have f:=jdw g;have c:tmps[t]?.getD undef = .pointer (some ⟨b,0,none⟩):=by simpa using d
 simp[results,h,c,asAddr,f]
theorem run_set{x y x' y':Value}(h:w.heap[b]?=some (.cells #[x,y] 323 (0,0))) :
 ((w.setCell ⟨b,0,none⟩ x').setCell ⟨b,1,none⟩ y').heap[b]?=some (.cells #[x',y'] 323 (0,0)):=by
 have d:=jd (o:=0) h x';have c:=jd (o:=1) d y';simpa using c
theorem Vj(w:World)(b:Nat)(x y:Value):ja w ((w.setCell ⟨b,0,none⟩ x).setCell ⟨b,1,none⟩ y) (fun i=>i=b) :=
 ((ja.refl w (fun i=>i=b)).set (p:=⟨b,0,none⟩) rfl x).set (p:=⟨b,1,none⟩) rfl y
theorem Rf.Ks{l h:List UInt8}(e:Rf.xh l=some (h,q)):8<=l.length:=(Rf.ox e).1
theorem Ut{b:List UInt8}(hv:Bytes w v b)(h:Rf.E9 b=some (F,ps))(hl:b.length<1099511627776) :
 Calls prog 254 #[v] w fun e w'=>∃ g cap,e = .returned (.tuple #[Kz v (.slice (some ⟨g,0,none⟩) ps.length cap),.nilIface]) /\
  w'.ownsRow w.heap.size 346 3 (.slice (some ⟨g,0,none⟩) ps.length cap) ps.length (zc (Yq F ps ps.length))/\ja w w' (fun _=>False):=by
 unfold Rf.E9 at h
 split at h
 ·rename_i hc
  obtain⟨h4,z⟩:=hc
  split at h
  ·rename_i hh htf
   split at h
   ·rename_i ps' hps
    have f:F=Rf.number (b.drop (b.length-4)):=by cases h;rfl
    have S:ps'=ps:=by cases h;rfl
    clear h;subst S;obtain⟨M,u⟩:∃ M,b.length=M+4:=⟨b.length-4,by omega⟩;rw[show b.length-4=M by omega] at z htf hps f;rw[<-f] at z htf hps;obtain⟨p,c,rfl,a1,a2,a3,a4⟩:=id hv;unfold maxLen at a2;have hp:p≠none:=fun e=>by have:=a3 e;omega
    have ay:F<4294967296:=by
     have:=Rf.Zz (b.drop M);rw[XQ,u,show M+4-M=4 by omega,<-f] at this;exact this
    have I:=hv.drop M (by omega);have b2:=(hv.take M (by omega));have k:(b.take M).length=M:=by rw[zK];omega
    have H:Bytes w (.slice (if c=F then p else p.map (·.add F)) (M-F) (c-F)) ((b.take M).drop F):=by
     have:=Bytes.drop (l:=b.take M) (by rw[k];exact b2) F (by omega);rwa [k] at this
    rw[if_neg (by omega:¬c=M),u,show M+4-M=4 by omega] at I;rw[if_neg (by omega:¬c=F)] at H;have e4:(b.drop M).length=4:=by rw[XQ];omega
    have et:(b.drop M).take 4=b.drop M:=xF (by omega);rw[u];rw[u] at a1 hl;clear a3 a4 b2 h4;have E:=ja.alloc w (.cells #[.slice none 0 0,.slice none 0 0] 323) (fun _=>False);have B:=je w (.cells #[.slice none 0 0,.slice none 0 0] 323);have y:=Xk _ _ _ (I.same E);have HV:=jb hv;have V:=jb B;have Y:=jb f;have a0:=jb H;have W:=jb y;have D:=jb hps;have U:=jb htf;have Z:=jb et;have X:=jb k;have az:=jb u;clear hv B f H I y hps htf et k u;have ax:¬c=F:=by omega
    have aw:¬c=M:=by omega
    go_enter func254,ntmps254;go_wp2_with fail;refine W.out.mono ?_;rintro e w1 ⟨r,rfl,au,R,k1⟩;go_wp2_with fail;refine(yo (n:=4) R (by omega) (by omega)).mono ?_;rintro e w2 ⟨rfl,av,k2⟩;rw[Z.out,<-Y.out];have t:ja w w2 (fun _=>False):=Zd (E.tt k1) (by have:=E.size;omega) k2;have h9:(w.alloc (.cells #[.slice none 0 0,.slice none 0 0] 323)).heap.size=w.heap.size+1:=by simp
    have q:=k2.same (k1.same V.out id) (by omega);clear h9;have x:=ly (a0.out.same t) U.out (by rw[XQ,X.out];omega);have T:=jb x;have s:=jb q;clear x q;go_wp2_with fail;refine T.out.mono ?_;rintro e w3 ⟨v3,rfl,A,G⟩;obtain⟨p3,c3,rfl,_⟩:=id A;go_wp2_with fail;refine(Xk _ _ _ A).mono ?_;rintro e w4 ⟨r4,rfl,af,O,k4⟩;go_wp2_with fail;refine(K7 O D.out (by omega)).mono ?_;rintro e w5 ⟨g,cap,rfl,m,k5⟩;have L:ja w2 w4 (fun _=>False):=G.tt k4;have J:ja w w4 (fun _=>False):=t.tt L;have K5:ja w w5 (fun _=>False):=Zd J (by have:=J.size;have:=(t.tt G).size;omega) k5;have ar:=zC s.out;have d:=k5.same (L.same s.out id) (by have:=G.size;omega);have q0:=zA (o:=0) d;have q1:=zA (o:=1) d;have f0:=zB (o:=0) d;have f1:=zB (o:=1) d;simp at q0 q1;have C:=jb d;clear d;go_wp2;refine bodyPost_ret (re rfl rfl (run_set C.out)) rfl ?_;have k6:=Vj w5 w.heap.size (.slice p (M+4) c) (.slice (some ⟨g,0,none⟩) ps'.length cap);have N:=J.size;refine⟨g,cap,rfl,xd (k6.row m (fun j hj e=>?_)) N,K5.trans k6 (fun i hi e=>by have e':i=w.heap.size:=e;omega)⟩;have:=(m.lt j hj).1;have:=L.size;have e':j=w.heap.size:=e;omega
   ·cases h
  ·cases h
 ·cases h
def Pls(w:World)(g cap:Nat)(l:List (Nat×Nat×Str)):Prop:=l.length<=cap/\cap<=maxLen/\∀ j u,(zc l)[j]?=some u->w.cell? ⟨g,j,none⟩=some u
theorem Pls.keep{T:Nat->Prop}(h:Pls w g cap l)(k:ja w w' T)(b:l≠[]->¬T g):Pls w' g cap l :=
 ⟨h.1,h.2.1,fun j u hu=>k.cell (h.2.2 j u hu) (b (fun e=>by rw[e] at hu;cases hu))⟩
theorem Pls.same(h:Pls w g cap l)(k:ja w w' (fun _=>False)):Pls w' g cap l:=h.keep k (fun _=>id)
theorem Uw{base:Nat}(i:l.length=n)(h:w.ownsRow base 346 3 (.slice (some ⟨g,0,none⟩) n cap) n (zc l)):Pls w g cap l:=by
 rcases h.2 with⟨e,_⟩|⟨m,b,f,e,_,d,k,c,_⟩
 ·cases e
 ·cases e
  refine⟨by omega,c,fun j u hu=>?_⟩;have:=h.cells (g:=g) rfl j u hu;rwa [Yv,xK] at this
theorem Pls.at(h:Pls w g cap l)(b:k<l.length):w.cell? ⟨g,k*3,none⟩=some (j6 l[k].1)/\w.cell? ⟨g,k*3+1,none⟩=some (j6 l[k].2.1)/\w.cell? ⟨g,k*3+2,none⟩=some (jf l[k].2.2) :=
 ⟨h.2.2 _ _ (Yp b).1,h.2.2 _ _ (Yp b).2.1,h.2.2 _ _ (Yp b).2.2⟩
theorem X7(c:Nat×Nat×Str)(key:Str)(w:World) :
 Calls prog 256 #[plV c,jf key] w fun e w'=>e = .returned (.int .i64 (Ca c.2.2 key))/\ja w w' (fun _=>False):=by
 obtain⟨x,y,k⟩:=c;go_enter func256,ntmps256
 go_wp2_with (go_at_call 190;refine(Tryz.strings_Compare ⟨k.toArray⟩ ⟨key.toArray⟩ _).mono ?_;rintro e w' ⟨rfl,rfl⟩)
 go_ret;exact⟨by simp[Ca],ja.alloc w _ _⟩
theorem Nc(l:List (Nat×Nat×Str))(A:Nat)(key:Str)(w:World)(G:l.length=n)(hv:Pls w g cap l)(hA:A<=l.length)(v:∀ j,∀ h:j<l.length,j<A->l[j].2.2<key)(J:∀ j,∀ h:j<l.length,A<=j->¬l[j].2.2<key)(hl:l.length<1099511627776) :
 Calls prog 255 #[.slice (some ⟨g,0,none⟩) n cap,jf key,.func (.func 256) #[] #[]] w fun e w' =>
  e = .returned (.tuple #[j6 A,.bool (decide ((l[A]?).map (fun p=>p.2.2)=some key))])/\ja w w' (fun _=>False):=by
 subst G;have r:=jb v;have C:=jb J;clear v J;go_enter func255,ntmps255;go_wp2_with fail
 go_loopw [9,10] (fun a b wr=>∃(lo c:Nat),a = .int .i64 lo/\b = .int .i64 c/\lo<=c/\c<=l.length/\(∀ j,∀ h:j<l.length,j<lo->l[j].2.2<key)/\(∀ j,∀ h:j<l.length,c<=j->¬l[j].2.2<key)/\ja w wr (fun _=>False))
  (fun a b _=>(intOf b-intOf a).toNat)
 case atStart=>exact⟨0,l.length,rfl,rfl,zG _,zJ _,(fun j h Z=>by omega),(fun j h Z=>by omega),ja.refl _ _⟩
 case round =>
  obtain⟨lo,c,rfl,rfl,F,Z,L,N,f⟩:=hrel;have u:=jb L;have D:=jb N;clear L N;rcases zV lo c with B|a9
  ·have S:(lo+c)/2<l.length:=by omega
   have y:=hv.same f;obtain⟨e0,e1,e2⟩:=y.at S;have V:((lo:Int)+(c:Int))/2=(((lo+c)/2:Nat):Int):=by omega
   have a6:((lo:Int)+(c:Int))%18446744073709551616=(lo:Int)+(c:Int):=by omega
   generalize hM:(lo+c)/2=m at S e0 e1 e2 V;have a8:lo<=m:=by omega
   have a7:m<c:=by omega
   have i:¬l[m].2.2<key->∀ j,∀ h:j<l.length,m<=j->¬l[j].2.2<key:=by
    intro G j h hj d;refine C.out j h ?_ d;rcases zV m A with F|F
    ·exact(G (r.out m S F)).elim
    ·omega
   have s:l[m].2.2<key->∀ j,∀ h:j<l.length,j<m+1->l[j].2.2<key:=by
    intro G j h hj;refine r.out j h ?_;rcases zV m A with F|F
    ·omega
    ·exact(C.out m S F G).elim
   have q:=jb i;have t:=jb s;clear i s;rcases fp l[m].2.2 key with⟨d,k⟩|⟨d,k⟩|⟨d,k⟩
   ·have M:=t.out d
    have X:=jb M;clear M d t q
    go_wp2_with (go_at_call 256;refine(X7 l[m] key wr).mono ?_;rintro e T ⟨rfl,x⟩;rw[k])
    exact⟨⟨m+1,c,by simp,by simp,by omega,by omega,X.out,D.out,f.tt x⟩,by simp[intOf];omega⟩
   ·have o:=q.out (by rw[d];exact ZY _)
    have E:=jb o;clear o d t q
    go_wp2_with (go_at_call 256;refine(X7 l[m] key wr).mono ?_;rintro e T ⟨rfl,x⟩;rw[k])
    exact⟨⟨lo,m,by simp,by simp,by omega,by omega,u.out,E.out,f.tt x⟩,by simp[intOf];omega⟩
   ·have o:=q.out (List.lt_asymm d)
    have E:=jb o;clear o d t q
    go_wp2_with (go_at_call 256;refine(X7 l[m] key wr).mono ?_;rintro e T ⟨rfl,x⟩;rw[k])
    exact⟨⟨lo,m,by simp,by simp,by omega,by omega,u.out,E.out,f.tt x⟩,by simp[intOf];omega⟩
  ·have eh:c=lo:=by omega
   subst eh
   have Y:A=c:=by
    rcases Nat.lt_trichotomy A c with H|H|H
    ·exact(C.out A (by omega) (zJ _) (u.out A (by omega) H)).elim
    ·exact H
    ·exact(D.out c (by omega) (zJ _) (r.out c (by omega) H)).elim
   have O:=jb Y;clear u D Y;rcases zV c l.length with B|R
   ·have y:=hv.same f
    obtain⟨e0,e1,e2⟩:=y.at B;have I:(l[c]?).map (fun p=>p.2.2)=some l[c].2.2:=by rw[xB B];rfl
    have U:=jb I;clear I;rcases fp l[c].2.2 key with⟨d,k⟩|⟨d,k⟩|⟨d,k⟩
    all_goals
     have z:decide (some l[c].2.2=some key)=(Ca l[c].2.2 key==0):=by
      rw[k]
      first
       | (have h3:¬l[c].2.2=key:=fun e=>by rw[e] at d;exact ZY _ d
          simp[h3])
       | simp[d]
     rw[k] at z;have W:=jb z;clear z d
     go_wp2_with (go_at_call 256;refine(X7 l[c] key wr).mono ?_;rintro e T ⟨rfl,x⟩;rw[k])
     go_ret2;refine⟨?_,f.tt x⟩;rw[O.out,U.out,W.out];rfl
   ·have I:l[c]?=none:=XI R
    have U:=jb I;clear I;go_wp2;go_ret2;refine⟨?_,f⟩;rw[O.out,U.out];rfl
theorem jdd{A:Nat}:((Yq F ps n)[A]?).map (fun p=>p.2.2)=(ps[A]?).map Prod.snd:=by
 rcases zV A ps.length with h|h
 ·rw[xB (by rw[zo];exact h),xB h,Qp h]
  rfl
 ·rw[XI (by rw[zo];exact h),XI h]
  rfl
theorem jcy(key:Str)(t:ps.length=n)(h:Pls w g cap (Yq F ps n))(s:Rf.jey ps key)(v:n<1099511627776) :
 Calls prog 236 #[Kz (.slice p m c) (.slice (some ⟨g,0,none⟩) n cap),jf key] w fun e w'=>e = .returned (j6 (Rf.ij ps key))/\ja w w' (fun _=>False):=by
 have k:=ja.alloc w (.cells #[.slice p m c,.slice (some ⟨g,0,none⟩) n cap] 323) (fun _=>False);have b:=zo F ps n
 have f:=Nc (g:=g) (cap:=cap) (n:=n) (Yq F ps n) (Rf.ahead ps key) key _ (by rw[b,t]) (h.same k) (by rw[b];exact Rf.Bf ps key) (fun j hj hA=>by
  rw[b] at hj
  rw[Qp hj]
  show ps[j].2<key
  exact Rf.Tt hA (xB hj)) (fun j hj hA=>by
  rw[b] at hj
  rw[Qp hj]
  show ¬ps[j].2<key
  exact s j _ hA (xB hj)) (by rw[b];omega)
 rw[jdd] at f;have l:=Rf.Bf ps key;obtain⟨R,d⟩:∃ R,R=Rf.ij ps key:=⟨_,rfl⟩;rw[<-d];unfold Rf.ij at d;generalize Rf.ahead ps key=A at f d l;by_cases hf:(ps[A]?).map Prod.snd=some key
 ·rw[if_pos hf] at d
  rw[decide_eq_true hf] at f;subst d;have HS:=jb f;clear f hf;go_enter func236,ntmps236;go_wp2_with fail;refine HS.out.mono ?_;rintro e q ⟨rfl,i⟩;go_wp2;go_ret;exact⟨rfl,k.tt i⟩
 ·rw[if_neg hf] at d
  rw[decide_eq_false hf] at f;have HS:=jb f;clear f hf;rcases zN A with r|r
  ·subst r
   subst d;go_enter func236,ntmps236;go_wp2_with fail;refine HS.out.mono ?_;rintro e q ⟨rfl,i⟩;go_wp2;go_ret;exact⟨rfl,k.tt i⟩
  ·have o:(A:Int)-1=(R:Int):=by omega
   have u:(0:Int)<(A:Int):=by omega
   have x:=jb d;clear d;go_enter func236,ntmps236;go_wp2_with fail;refine HS.out.mono ?_;rintro e q ⟨rfl,i⟩;go_wp2;go_ret;exact⟨by first|rfl|simp[o],k.tt i⟩
theorem jb2 :
 Calls prog 237 #[Kz (.slice p m c) (.slice (some ⟨g,0,none⟩) n cap)] w fun e w'=>e = .returned (j6 n)/\ja w w' (fun _=>False):=by
 go_enter func237,ntmps237;go_wp2;go_ret;exact⟨rfl,ja.alloc w _ _⟩
theorem jfz{ev:Value}(hn:ps.length=n)(hi:i<n)(h:Pls w g cap (Yq F ps n))(C:Chs w ev es)(L:1<=es.length)(a8:es.length<=4)(l:Rf.fits ps i es=true)(hl:n<1048576) :
 Calls prog 258 #[Kz (.slice p m c) (.slice (some ⟨g,0,none⟩) n cap),j6 i,ev] w fun e w'=>e = .returned (.bool true)/\ja w w' (fun _=>False):=by
 have E:=ja.alloc w (.cells #[.slice p m c,.slice (some ⟨g,0,none⟩) n cap] 323) (fun _=>False);have z:=je w (.cells #[.slice p m c,.slice (some ⟨g,0,none⟩) n cap] 323);have t1:(w.alloc (.cells #[.slice p m c,.slice (some ⟨g,0,none⟩) n cap] 323)).cell? ⟨w.heap.size,1,none⟩=some (.slice (some ⟨g,0,none⟩) n cap):=(zA (o:=1) z).trans rfl;unfold Rf.fits at l;rw[ZU,ZU] at l;obtain⟨⟨U,T⟩,G⟩:=l;have U:=of_decide_eq_true U;have T:=of_decide_eq_true T;obtain⟨pe,ce,rfl,_⟩:=id C;have y:=zo F ps n;have Z:=h.same E;have q:=C.same E;obtain⟨be,oe,rfl,e0,_,_⟩:=q.at (k:=0) (by omega);have a0:=(Z.at (k:=i) (by rw[y];omega)).2.2;rw[Qp (by omega)] at a0
 have H:es[0].key=ps[i].2:=by
  have Y:Rf.Jo es=es[0].key:=by
   cases es with
   | nil=>simp at L
   | cons x r=>rfl
  have X:Rf.keyOf ps i=ps[i].2:=by unfold Rf.keyOf;rw[xB (by omega)];rfl
  rw[<-Y,U,X]
 simp only at a0;rw[<-H] at a0
 have s:i+1=n\/(i+1<n/\es.length=4/\∃(h3:3<es.length) (a6:i+1<ps.length),es[3].key<ps[i+1].2):=by
  rw[Bool.or_eq_true,ZU] at G;rcases G with G|⟨f4,f5⟩
  ·have:=of_decide_eq_true G;omega
  ·have f4:=of_decide_eq_true f4
   have f5:=of_decide_eq_true f5;rcases zV (i+1) n with h6|h6
   ·refine .inr ⟨h6,f4,by omega,by omega,?_⟩
    have Y:Rf.Av es=es[3].key:=by
     have e3:es.length-1=3:=by omega
     unfold Rf.Av;rw[List.getLast?_eq_getElem?,e3,xB (by omega)];rfl
    have X:Rf.keyOf ps (i+1)=ps[i+1].2:=by unfold Rf.keyOf;rw[xB (by omega)];rfl
    rw[<-Y,<-X];exact f5
   ·exact .inl (by omega)
 have O:=jb s;have HH:=jb Z;have v:=jb q;have aa:=jb T;clear s h Z C q U T G H z;have D:(0:Int)<(es.length:Int):=by omega
 have a6:(i:Int)<(n:Int):=by omega
 simp at e0;obtain⟨t,A⟩:∃ t,t=es.length:=⟨_,rfl⟩;rw[<-A] at D L a8 ⊢;have u:=jb A;clear A;go_enter func258,ntmps258;go_wp2_with fail;go_quiet (fail);go_wp2
 go_loopw [7] (fun k wr=>∃(j:Nat),j+1<=t/\k = .int .i64 ((j:Int)+1)/\ja (w.alloc (.cells #[.slice p m c,.slice (some ⟨g,0,none⟩) n cap] 323)) wr (fun _=>False))
  (fun k _=>t-(intOf k).toNat)
 case atStart=>exact⟨0,by omega,rfl,by first|exact ja.refl _ _|exact ja.drewN _ _ _⟩
 case round =>
  obtain⟨j,hj,rfl,b⟩:=hrel;rcases zV (j+1) t with av|aw
  ·have J:j<es.length:=by have:=u.out;omega
   have I:j+1<es.length:=by have:=u.out;omega
   have x1:=((v.out.same b).at (k:=j) J);have x2:=((v.out.same b).at (k:=j+1) I);obtain⟨b1,o1,E1,W,_,_⟩:=x1;obtain⟨b2,o2,E2,y2,_,_⟩:=x2;cases E1;cases E2;have d:es[j].key<es[j+1].key:=XF.1 aa.out j (j+1) J I (by omega);have f:Op.bytesLess es[j+1].key es[j].key=false:=by rw[bytesLess_eq];simpa using List.lt_asymm d
   have N:(es[j+1].key==es[j].key)=false:=by
    rw[beq_eq_false_iff_ne];intro e;rw[e] at d;exact ZY _ d
   have ae:(j:Int)+1<(t:Int):=by omega
   clear d;generalize es[j].key=K1 at W f N;generalize es[j+1].key=K2 at y2 f N;go_wp2_with fail;go_quiet (fail);go_wp2;exact⟨⟨j+1,by omega,by simp,by first|exact b|exact b.tt (ja.drewN _ _ (fun _=>False))⟩,by simp[intOf];omega⟩
  ·have ej:t=j+1:=by omega
   have ar:=b.cell t1 id;have au:¬((j:Int)+1<(t:Int)):=by omega
   rcases O.out with hL|⟨ax,a9,h3,a7,M⟩
   ·have B:(i:Int)=(n:Int)-1:=by omega
    have S:((i:Int)==(n:Int)-1)=true:=by simp[B]
    go_wp2;go_ret;exact⟨rfl,E.tt b⟩
   ·have B:¬((i:Int)=(n:Int)-1):=by omega
    have S:((i:Int)==(n:Int)-1)=false:=by simp[B]
    obtain⟨b1,o1,E1,W,_,_⟩:=((v.out.same b).at (k:=3) h3);cases E1;have V:=((HH.out.same b).at (k:=i+1) (by rw[y];omega)).2.2;rw[Qp a7] at V;have f:Op.bytesLess es[3].key ps[i+1].2=true:=by rw[bytesLess_eq];simpa using M
    simp only at V;have af:(i:Int)+1<(n:Int):=by omega
    clear M;generalize es[3].key=K1 at W f;generalize ps[i+1].2=K2 at V f;have R:t=4:=by have:=u.out;omega
    subst R;have a5:j=3:=by omega
    subst a5;clear O v u ej a9;go_wp2_with fail;go_quiet (fail);go_wp2;go_ret;exact⟨rfl,by first|exact E.tt b|exact(E.tt b).tt (ja.drewN _ _ (fun _=>False))⟩
theorem jen{b:List UInt8}(S:Xg E B w)(hB:B<=w.heap.size)(hn:ps.length=n)(hi:i<n)(h:Pls w g cap (Yq F ps n))(V:Bytes w (.slice p b.length c) b)(d:Rf.Fh b F ps i=some es)(f:Rf.Xs F ps i<=b.length)(hl:n<1048576)(b9:b.length<1099511627776) :
 Calls prog 238 #[Kz (.slice p b.length c) (.slice (some ⟨g,0,none⟩) n cap),j6 i] w fun e w'=>∃ v,e = .returned (.tuple #[v,.nilIface])/\w'.ownsRow w.heap.size 88 3 v es.length (jj es)/\ja w w' (fun _=>False):=by
 unfold Rf.Fh at d
 split at d
 ·rename_i hh htf
  split at d
  ·rename_i es' hre
   split at d
   ·rename_i hfit
    cases d;have hm:=Rf.Ar hre;have u:Rf.Be ps i=ps[i].1:=by unfold Rf.Be;rw[xB (by omega)];rfl
    rw[u] at htf;have W:=Rf.Ks htf;rw[XQ,zK,xD f] at W;obtain⟨q,U⟩:∃ q,q=Rf.Xs F ps i:=⟨_,rfl⟩;rw[<-U] at htf W f;have T:=ja.alloc w (.cells #[.slice p b.length c,.slice (some ⟨g,0,none⟩) n cap] 323) (fun _=>False);have L:=zo F ps n;obtain⟨Z,Y,R⟩:=(h.same T).at (k:=i) (by rw[L];omega);rw[Qp (by omega),if_pos hi,<-U] at Z Y R;simp only at Z Y R;have t1:(w.alloc (.cells #[.slice p b.length c,.slice (some ⟨g,0,none⟩) n cap] 323)).heap[w.heap.size]?=some (.cells #[.slice p b.length c,.slice (some ⟨g,0,none⟩) n cap] 323 (0,0)):=je w _;obtain⟨p',c',ee,b1,b2,b3,b4⟩:=id V;cases ee;clear b3 b4
    have z:Bytes w (.slice (p.map (·.add ps[i].1)) (q-ps[i].1) (c-ps[i].1)) ((b.take q).drop ps[i].1):=by
     have I:(b.take q).length=q:=by rw[zK];omega
     have:=Bytes.drop (l:=b.take q) (by rw[I];exact V.take q f) ps[i].1 (by omega);rw[I,if_neg (by omega)] at this;exact this
    have t:((b.take q).drop ps[i].1).length<1099511627776:=by rw[XQ,zK];omega
    generalize ps[i].1=X at Z Y R W htf z t;generalize ps[i].2=KX at R;have b8:¬c=X:=by omega
    have D:=fun w' (k:ja w w' (fun _=>False))=>ly (z.same k) htf t;have a7:=jb D;have a8:=jb t1;have O:=jb hfit;have a9:=jb hre;have HM:=jb hm;have HP:=jb h;clear D t1 hfit hre hm u h U z htf V;unfold maxLen at b2;have b0:X<=q:=by omega
    have b7:q<=c:=by omega
    go_enter func238,ntmps238;go_wp2_with fail;refine(a7.out _ (T.more _)).mono ?_;rintro e w1 ⟨v1,rfl,G,k1⟩;have K1:ja w w1 (fun _=>False):=(T.more _).tt k1;have H:=k1.same ((ja.alloc _ _ (fun _=>False)).same a8.out id) id;have J:=jb H;obtain⟨p1,c1,rfl,_⟩:=id G;clear H;go_wp2_with fail;refine(Xk _ _ _ G).mono ?_;rintro e w2 ⟨r,rfl,b6,hr,k2⟩;have K2:ja w w2 (fun _=>False):=K1.tt k2;have y:=oh 4 (by omega) (S.same K2) (by have:=K1.size;omega:B<=r) hr;rw[a9.out] at y;have aa:=jb y;clear y;go_wp2_with fail;refine aa.out.mono ?_;rintro e w3 ⟨k3,C⟩;rcases C with⟨cs,v,s,rfl,j⟩|⟨v,s,_⟩
    ·have M:cs=es:=by injection s with s;exact s.symm
     subst M;clear s;have b5:=K1.size;have K3:ja w w3 (fun _=>False):=Zd K2 (by omega) k3;have A:=k3.same (k2.same J.out id) (by have:=zC J.out;omega);have a5:=Je j;obtain⟨pe,ce,rfl⟩:=jl j;have x:=HM.out;have hf:=jfz (p:=p) (m:=b.length) (c:=c) hn hi (HP.out.same K3) a5 x.2.1 x.2.2.1 O.out hl;have c0:=zA (o:=0) A;have a6:=zA (o:=1) A;simp at c0 a6;have HF:=jb hf;have N:=jb j;clear hf j A x;go_wp2_with fail;refine HF.out.mono ?_;rintro e w4 ⟨rfl,k4⟩;go_wp2;go_ret2;exact⟨_,rfl,xd (k4.row N.out (fun _ _ h=>h)) K2.size,K3.tt k4⟩
    ·cases s
   ·cases d
  ·cases d
 ·cases d
end Go.Proofs.YtnipbplghijdmaaGreatDoor

/-
  D: FindB Get Check StoreC StoreD WriteA Whole Run3.
-/
import Derived.Test.YtnipbplghijdmaaGreatDoorD28
set_option maxRecDepth 100000
set_option maxHeartbeats 8000000
set_option linter.unusedVariables false
set_option linter.unusedSimpArgs false
namespace Go.Proofs.YtnipbplghijdmaaGreatDoor
open RowKit Maps WideShapes Go.Shelf Go.Proofs.Tryz
attribute [local go_sem] Oper.semAt_some
theorem jed{P:jc->Prop}{E:Nat->Addr}{B:Nat}{ρ:Nat->j3}{d:Nat}{S:jc}{w:World}(D:Dk E B w ρ d S)(Z:P S)(lv:Value)(fs:List Value)(q:List J5)(key:Str)(bg:ll w lv fs)(b3:fs≠[]->∀ p n c,lv = .slice (some p) n c->¬qj ρ p.block)(b4:fs.length=q.length)(hl:fs.length<524288)(hG:∀(k:Nat) f st,fs[k]?=some f->q[k]?=some st->Cf P E B ρ d w f st) :
 Calls prog 75 #[lv,jf key] w (je5 P E B ρ d w (zy key q S)):=by
 obtain⟨lp,lc,rfl,h1,h2,h3,h4⟩:=id bg;have d9:=jb bg;have b6:=jb b4;have HG:=jb hG;have cq:=jb b3;have hρ:=D.rep.lt;have ee:=D.size;have nT:∀ i,w.heap.size<=i->¬qj ρ i:=fun i hi h=>by have:=hρ i h;omega
 obtain⟨wA,T⟩:∃ wA,wA=(((w.alloc (.cells #[jf key] 9)).alloc (.cells #[jf [],jf [],.bool false] 88)).alloc (.cells #[.bool false] 4)).alloc (.cells #[.nilIface] 128):=⟨_,rfl⟩;have kA:ja w wA (fun _=>False):=by rw[T];exact(((ja.alloc w _ _).more _).more _).more _
 have sA:wA.heap.size=w.heap.size+1+1+1+1:=by rw[T];simp
 have y0:wA.heap[w.heap.size]?=some (.cells #[jf key] 9 (0,0)):=by
  rw[T];exact(((ja.alloc _ _ (fun _=>False)).more _).more _).same (je w _) id
 have y1:wA.heap[w.heap.size+1]?=some (.cells #[jf [],jf [],.bool false] 88 (0,0)):=by
  rw[T];have:=je (w.alloc (.cells #[jf key] 9)) (.cells #[jf [],jf [],.bool false] 88);rw[xJ] at this;exact((ja.alloc _ _ (fun _=>False)).more _).same this id
 have y2:wA.heap[w.heap.size+1+1]?=some (.cells #[.bool false] 4 (0,0)):=by
  rw[T];have:=je ((w.alloc (.cells #[jf key] 9)).alloc (.cells #[jf [],jf [],.bool false] 88)) (.cells #[.bool false] 4);rw[xJ,xJ] at this;exact(ja.alloc _ _ (fun _=>False)).same this id
 have y3:wA.heap[w.heap.size+1+1+1]?=some (.cells #[.nilIface] 128 (0,0)):=by
  rw[T];have:=je (((w.alloc (.cells #[jf key] 9)).alloc (.cells #[jf [],jf [],.bool false] 88)).alloc (.cells #[.bool false] 4)) (.cells #[.nilIface] 128);rw[xJ,xJ,xJ] at this;exact this
 clear h3 h4 bg hG b3 b4;have HY:Hid (wA.heap[w.heap.size]?=some (.cells #[jf key] 9 (0,0))/\wA.heap[w.heap.size+1]?=some (.cells #[jf [],jf [],.bool false] 88 (0,0))/\wA.heap[w.heap.size+1+1]?=some (.cells #[.bool false] 4 (0,0))/\wA.heap[w.heap.size+1+1+1]?=some (.cells #[.nilIface] 128 (0,0))):=⟨y0,y1,y2,y3⟩;clear y0 y1 y2 y3;refine(callsIn_wide (n:=9)).1 ?_;refine callsIn_of_wp_marks func75 rfl trivial ?_ rfl;simp only[ntmps75,xY,zH,zX,Nat.reduceAdd,Nat.reduceSub,xZ,XA,XB,XC,xL,xM]
 gi_wp2
 rw[<-T]
 refine wpIn_loop (fun a W=>∃(k:Nat) (Y:jc) (Ds:List Nat) (u8 u14 u15 u16 u17 u29:Value),a={ tmps:=#[.slice lp fs.length lc,jf key,undef,.pointer (some ⟨w.heap.size,0,none⟩),.pointer (some ⟨w.heap.size+1,0,none⟩),.pointer (some ⟨w.heap.size+1+1,0,none⟩),.pointer (some ⟨w.heap.size+1+1+1,0,none⟩),undef,u8,undef,undef,.slice lp fs.length lc,j6 fs.length,j6 k,u14,u15,u16,u17,undef,undef,undef,undef,undef,undef,undef,undef,undef,undef,undef,u29,undef],defers:=marks Ds }/\k<=fs.length/\Dk E B W ρ d Y/\P Y/\Hid (zy key q S=zy key (q.drop k) Y)/\(W.heap[w.heap.size]?=some (.cells #[jf key] 9 (0,0))/\W.heap[w.heap.size+1]?=some (.cells #[jf [],jf [],.bool false] 88 (0,0))/\W.heap[w.heap.size+1+1]?=some (.cells #[.bool false] 4 (0,0))/\W.heap[w.heap.size+1+1+1]?=some (.cells #[.nilIface] 128 (0,0)))/\ja w W (qj ρ)/\J4 W Ds/\(∀ D∈Ds,w.heap.size+4<=D))
  (fun a _=>fs.length-(intOf (a.tmps.getD 13 undef)).toNat) ?_ ?_
 ·exact⟨0,S,[],_,_,_,_,_,_,rfl,zG _,D.same kA,Z,rfl,HY.out,kA.up,J4.nil _,fun D h=>by cases h⟩
 ·rintro a W ⟨k,Y,Ds,u8,u14,u15,u16,u17,u29,rfl,m,co,Zk,t,cc,ak,bd,s⟩
  dsimp only;rcases zV k fs.length with be|l
  ·obtain⟨f,hf⟩:∃ f,fs[k]?=some f:=⟨_,xB be⟩
   obtain⟨st,ba⟩:∃ st,q[k]?=some st:=⟨_,xB (by have:=b6.out;omega)⟩;obtain⟨Z1,gf,rv,lb,Needs,Start,rfl,d4,b1,hN,d6⟩:=HG.out k f st hf ba W Y ak co Zk;have ap:ll W (.slice lp fs.length lc) fs:=d9.out.keep ak (fun h p n c e=>cq.out h p n c e);obtain⟨b,o,rfl,e0⟩:=ap.at hf;obtain⟨g0,I,z,u⟩:=cc;have ea:=ak.size;have eb:=zC u;have b2:=jb ba;have cn:=jb b1;have ef:=jb hf;have HB:Hid (W.heap[w.heap.size]?=some (.cells #[jf key] 9 (0,0))/\W.heap[w.heap.size+1]?=some (.cells #[jf [],jf [],.bool false] 88 (0,0))/\W.heap[w.heap.size+1+1]?=some (.cells #[.bool false] 4 (0,0))/\W.heap[w.heap.size+1+1+1]?=some (.cells #[.nilIface] 128 (0,0))):=⟨g0,I,z,u⟩;have dp:(k:Int)<(fs.length:Int):=by omega
   obtain⟨LL,bi⟩:∃ LL,LL=(st Y).2.1:=⟨_,rfl⟩;obtain⟨LE,bj⟩:∃ LE,LE=(st Y).2.2:=⟨_,rfl⟩;rw[<-bi,<-bj] at b1;have cn:=jb b1;have al:=jb bi;have cm:=jb bj;have v:∀ D∈Ds,D<W.heap.size:=fun D h=>zC (bd.2 D h);clear g0 I z u ba b1 hf bi bj ap T sA
   gi_wp2
   refine dm rfl (by decide) (gf:=gf) (rv:=rv) (lb:=lb) rfl trivial d4 (cn.out 8) (fun _=>rfl) (fun i h=>by have:=hρ i h;omega) (fun i h=>by have:=hN i h;omega) d6
    (fun aa C W'=>aa=[]/\(W'.heap[w.heap.size]?=some (.cells #[jf key] 9 (0,0))/\W'.heap[w.heap.size+1]?=some (.cells #[jf [],jf [],.bool false] 88 (0,0))/\W'.heap[w.heap.size+1+1]?=some (.cells #[.bool false] 4 (0,0))/\W'.heap[w.heap.size+1+1+1]?=some (.cells #[.nilIface] 128 (0,0)))/\ja w W' (qj ρ)/\J4 W' Ds/\(∀ i,C i↔i=w.heap.size+1\/i=w.heap.size+1+1\/i=w.heap.size+1+1+1))
    (fun c aa C W'=>ja w W' (qj ρ)/\J4 W' Ds/\(∀ i,C i↔i=w.heap.size+1\/i=w.heap.size+1+1\/i=w.heap.size+1+1+1) /\
    ((c = .ret/\∃ X r0,LL=X::r0/\X.key=key/\W'.heap[w.heap.size+1]?=some (.cells #[jf X.key,jf X.value,.bool X.gone] 88 (0,0))/\W'.heap[w.heap.size+1+1]?=some (.cells #[.bool true] 4 (0,0))/\W'.heap[w.heap.size+1+1+1]?=some (.cells #[.nilIface] 128 (0,0))) \/
     (c = .ret/\∃ bad ev,LL=[]/\LE=some bad/\lu E W' ev bad/\W'.heap[w.heap.size+1]?=some (.cells #[jf [],jf [],.bool false] 88 (0,0))/\W'.heap[w.heap.size+1+1]?=some (.cells #[.bool false] 4 (0,0))/\W'.heap[w.heap.size+1+1+1]?=some (.cells #[ev] 128 (0,0))) \/
     (c = .exit 2/\(∃ X r0,LL=X::r0/\X.key≠key)/\(W'.heap[w.heap.size]?=some (.cells #[jf key] 9 (0,0))/\W'.heap[w.heap.size+1]?=some (.cells #[jf [],jf [],.bool false] 88 (0,0))/\W'.heap[w.heap.size+1+1]?=some (.cells #[.bool false] 4 (0,0))/\W'.heap[w.heap.size+1+1+1]?=some (.cells #[.nilIface] 128 (0,0))))))
    ?hI ?hIx (fun i=>i=w.heap.size+1\/i=w.heap.size+1+1\/i=w.heap.size+1+1+1) ?hC0 ?h0 ?round ?done ?stop
   case hI =>
    rintro aa C A B' ⟨rfl,⟨g0,I,z,u⟩,H,G,hC⟩ m
    have out:∀ i,w.heap.size<=i->i<W.heap.size->¬(qj ρ i\/(W.heap.size<=i/\¬C i)):=by
     rintro i h1 h2 (h3|⟨h3,h4⟩)
     ·exact nT i h1 h3
     ·omega
    refine⟨rfl,⟨ja.same m g0 (out _ (by omega) (by omega)),ja.same m I (out _ (by omega) (by omega)),ja.same m z (out _ (by omega) (by omega)),ja.same m u (out _ (by omega) (by omega))⟩,H.trans m (fun i hi h=>?_),G.keep m (fun D V=>out D (by have:=s D V;omega) (v D V)),hC⟩;rcases h with h|⟨h,_⟩
    ·exact h
    ·omega
   case hIx =>
    rintro c aa C A B' F r ⟨H,G,hC,bb⟩ bf ec hr m;have j:∀ i,i<W.heap.size->¬i=F:=fun i hi=>by omega
    refine⟨H.trans m (fun i hi e=>by omega),G.keep m (fun D V=>j D (v D V)),hC,?_⟩;rcases bb with⟨rfl,X,r0,e1,e2,I,z,u⟩|⟨rfl,bad,ev,e1,e2,e3,I,z,u⟩|⟨rfl,e1,g0,I,z,u⟩
    ·exact .inl ⟨rfl,X,r0,e1,e2,m.same I (j _ (by omega)),m.same z (j _ (by omega)),m.same u (j _ (by omega))⟩
    ·obtain⟨g,he,hg⟩:=e3
     exact .inr (.inl ⟨rfl,bad,ev,e1,e2,⟨g,he.keep m (fun i c e hc=>by rw[e,hr] at hc;cases hc),hg⟩,m.same I (j _ (by omega)),m.same z (j _ (by omega)),m.same u (j _ (by omega))⟩)
    ·exact .inr (.inr ⟨rfl,e1,m.same g0 (j _ (by omega)),m.same I (j _ (by omega)),m.same z (j _ (by omega)),m.same u (j _ (by omega))⟩)
   case hC0 =>
    rintro i (h|h|h)
    all_goals exact⟨by omega,nT i (by omega),fun h=>by have:=hN i h;omega⟩
   case h0=>exact⟨rfl,HB.out,ak,bd,fun _=>Iff.rfl⟩
   case round =>
    rintro F aa x C W1 bf ⟨rl,c8⟩ ca bh ⟨rfl,⟨g0,I,z,u⟩,H,G,hC⟩ cp;have dq:=zC c8;have j:∀ i,i<W.heap.size->¬i=F:=fun i hi=>by omega
    rcases cp with⟨k0,c,e,b0,rfl⟩|⟨bad,he,e,c7,az⟩
    ·obtain⟨r0,c9⟩:∃ r0,LL=c::r0:=by
      have ed:=(zO.1 b0).1
      have:k0=0:=by
       have:=congrArg List.length e;simp at this;omega
      subst this
      cases LL with
      | nil=>cases b0
      | cons a r=>cases b0;exact⟨r,rfl⟩
     have cl:=jb c9
     clear e b0 c9
     obtain⟨ck,cv,cg⟩:=c
     dsimp only[encI,Ja]
     gi_wp2
     refine⟨ja.alloc W1 _ _,?_⟩
     intro J k2 _
     have ka:ja W1 J (fun i=>i=F):=((ja.alloc W1 _ (fun _=>False)).up).tt k2
     have hb:=k2.same (je W1 _) (by omega)
     obtain⟨q0,q1,q2,_,_,_⟩:=yb hb
     have bk:=ka.same g0 (j _ (by omega))
     have a4:=ka.same I (j _ (by omega))
     have M:=ka.same z (j _ (by omega))
     have L:=ka.same u (j _ (by omega))
     have a0:=zA (o:=0) bk
     obtain⟨cj,ci,ch,cf,ce,cd⟩:=yb a4
     have a2:=zA (o:=0) M
     have f2:=zB (o:=0) M
     have a3:=zA (o:=0) L
     have f3:=zB (o:=0) L
     simp at a0 a2 a3
     have a5:J4 J Ds:=G.keep ka (fun D V=>j D (v D V))
     have a6:ja w J (qj ρ):=H.trans ka (fun i hi e=>by omega)
     have d1:W1.heap.size+1<=J.heap.size:=by have:=k2.size;simpa using this
     have H0:=jb bk
     have H1:=jb a4
     have H2:=jb M
     have H3:=jb L
     have HC:=jb hC
     clear g0 I z u bk a4 M L hb hC
     by_cases hck:ck=key
     ·subst hck
      have d5:(ck==ck)=true:=by simp
      gi_wp2
      have k1:=Ze J (w.heap.size+1) (jf ck) (jf cv) (.bool cg);have a1:=ja.setCell (((J.setCell ⟨w.heap.size+1,0,none⟩ (jf ck)).setCell ⟨w.heap.size+1,1,none⟩ (jf cv)).setCell ⟨w.heap.size+1,2,none⟩ (.bool cg)) ⟨w.heap.size+1+1,0,none⟩ (.bool true);have k3:=ja.setCell ((((J.setCell ⟨w.heap.size+1,0,none⟩ (jf ck)).setCell ⟨w.heap.size+1,1,none⟩ (jf cv)).setCell ⟨w.heap.size+1,2,none⟩ (.bool cg)).setCell ⟨w.heap.size+1+1,0,none⟩ (.bool true)) ⟨w.heap.size+1+1+1,0,none⟩ .nilIface;have kk:ja J (((((J.setCell ⟨w.heap.size+1,0,none⟩ (jf ck)).setCell ⟨w.heap.size+1,1,none⟩ (jf cv)).setCell ⟨w.heap.size+1,2,none⟩ (.bool cg)).setCell ⟨w.heap.size+1+1,0,none⟩ (.bool true)).setCell ⟨w.heap.size+1+1+1,0,none⟩ .nilIface) (fun i=>i=w.heap.size+1\/i=w.heap.size+1+1\/i=w.heap.size+1+1+1):=((k1.mono (fun _ _ h=> .inl h)).trans a1 (fun _ _ h=> .inr (.inl h))).trans k3 (fun _ _ h=> .inr (.inr h));refine⟨C,fun i h=> .inl h,fun i h=>ZH (bh i h) (ZI (by omega:W1.heap.size<=J.heap.size) kk.size),kk.mono (fun i _ h=>(HC.out i).2 h),a6.trans kk (fun i hi h=>by omega),a5.keep kk (fun D V h=>by have:=s D V;omega),HC.out,.inl ⟨rfl,_,r0,cl.out,rfl,?_,?_,?_⟩⟩
      ·exact k3.same (a1.same (nd (k:=ck) (x:=cv) (y:=cg) H1.out) (by simp<;>omega)) (by simp<;>omega)
      ·exact(k3.same (jd (o:=0) (k1.same H2.out (by simp<;>omega)) (.bool true)) (by simp<;>omega)).trans rfl
      ·exact(jd (o:=0) (a1.same (k1.same H3.out (by simp<;>omega)) (by simp<;>omega)) .nilIface).trans rfl
     ·have d5:(ck==key)=false:=by simp[hck]
      gi_wp2
      exact⟨C,fun i h=> .inl h,fun i h=>ZH (bh i h) (by omega),ja.refl _ _,a6,a5,HC.out,.inr (.inr ⟨rfl,⟨_,r0,cl.out,hck⟩,H0.out,H1.out,H2.out,H3.out⟩)⟩
    ·obtain⟨x1,ev⟩:=x
     simp only at c7 az;subst c7;obtain⟨tv,av,rfl⟩:=az.shape
     have cb:LL=[]:=by
      cases LL with
      | nil=>rfl
      | cons a r=>simp at e
     have d7:=jb cb;have d8:=jb he;clear e cb he;dsimp only[encI,eu]
     gi_wp2
     refine⟨ja.alloc W1 _ _,?_⟩;intro J k2 _;have ka:ja W1 J (fun i=>i=F):=((ja.alloc W1 _ (fun _=>False)).up).tt k2;have G1:=jb I;have G2:=jb z;have G3:=jb u;have a4:=ka.same I (j _ (by omega));have M:=ka.same z (j _ (by omega));have L:=ka.same u (j _ (by omega));obtain⟨cj,ci,ch,cf,ce,cd⟩:=yb a4;have a2:=zA (o:=0) M;have f2:=zB (o:=0) M;have a3:=zA (o:=0) L;have f3:=zB (o:=0) L;simp at a2 a3;have a5:J4 J Ds:=G.keep ka (fun D V=>j D (v D V));have a6:ja w J (qj ρ):=H.trans ka (fun i hi e=>by omega);have d1:W1.heap.size+1<=J.heap.size:=by have:=k2.size;simpa using this
     have H1:=jb a4;have H2:=jb M;have H3:=jb L;have HC:=jb hC;have HX:=jb az;clear g0 I z u a4 M L hC az
     gi_wp2
     have k1:=Ze J (w.heap.size+1) (jf []) (jf []) (.bool false);have a1:=ja.setCell (((J.setCell ⟨w.heap.size+1,0,none⟩ (jf [])).setCell ⟨w.heap.size+1,1,none⟩ (jf [])).setCell ⟨w.heap.size+1,2,none⟩ (.bool false)) ⟨w.heap.size+1+1,0,none⟩ (.bool false);have k3:=ja.setCell ((((J.setCell ⟨w.heap.size+1,0,none⟩ (jf [])).setCell ⟨w.heap.size+1,1,none⟩ (jf [])).setCell ⟨w.heap.size+1,2,none⟩ (.bool false)).setCell ⟨w.heap.size+1+1,0,none⟩ (.bool false)) ⟨w.heap.size+1+1+1,0,none⟩ (.iface tv (.pointer (some av)));have kk:ja J (((((J.setCell ⟨w.heap.size+1,0,none⟩ (jf [])).setCell ⟨w.heap.size+1,1,none⟩ (jf [])).setCell ⟨w.heap.size+1,2,none⟩ (.bool false)).setCell ⟨w.heap.size+1+1,0,none⟩ (.bool false)).setCell ⟨w.heap.size+1+1+1,0,none⟩ (.iface tv (.pointer (some av)))) (fun i=>i=w.heap.size+1\/i=w.heap.size+1+1\/i=w.heap.size+1+1+1):=((k1.mono (fun _ _ h=> .inl h)).trans a1 (fun _ _ h=> .inr (.inl h))).trans k3 (fun _ _ h=> .inr (.inr h));refine⟨C,fun i h=> .inl h,fun i h=>ZH (bh i h) (ZI (by omega:W1.heap.size<=J.heap.size) kk.size),kk.mono (fun i _ h=>(HC.out i).2 h),a6.trans kk (fun i hi h=>by omega),a5.keep kk (fun D V h=>by have:=s D V;omega),HC.out,.inr (.inl ⟨rfl,bad,.iface tv (.pointer (some av)),d7.out,d8.out,?_,?_,?_,?_⟩)⟩
     ·obtain⟨g,hg,d3⟩:=HX.out
      have kw:ja W1 (((((J.setCell ⟨w.heap.size+1,0,none⟩ (jf [])).setCell ⟨w.heap.size+1,1,none⟩ (jf [])).setCell ⟨w.heap.size+1,2,none⟩ (.bool false)).setCell ⟨w.heap.size+1+1,0,none⟩ (.bool false)).setCell ⟨w.heap.size+1+1+1,0,none⟩ (.iface tv (.pointer (some av)))) (fun i=>i=F\/i=w.heap.size+1\/i=w.heap.size+1+1\/i=w.heap.size+1+1+1):=(ka.mono (fun _ _ h=> .inl h)).trans kk (fun _ _ h=> .inr h);refine⟨g,hg.keep kw (fun i c h hc=>?_),d3⟩;rcases h with h|h|h|h
      ·rw[h,c8] at hc;cases hc
      ·rw[h,G1.out] at hc;cases hc
      ·rw[h,G2.out] at hc;cases hc
      ·rw[h,G3.out] at hc;cases hc
     ·exact k3.same (a1.same (nd (k:=[]) (x:=[]) (y:=false) H1.out) (by simp<;>omega)) (by simp<;>omega)
     ·exact(k3.same (jd (o:=0) (k1.same H2.out (by simp<;>omega)) (.bool false)) (by simp<;>omega)).trans rfl
     ·exact(jd (o:=0) (a1.same (k1.same H3.out (by simp<;>omega)) (by simp<;>omega)) _).trans rfl
   case done =>
    rintro R F C xs J W3 V bf j d2 ca ⟨DK,b5⟩ m ⟨rfl,U,H,G,hC⟩ hK
    have bc:LL=[]/\LE=none:=by
     rcases b5 with⟨h1,h2⟩|⟨bad,ev,h1,_,h2⟩
     ·cases LL with
      | nil=>exact⟨rfl,h1⟩
      | cons c r=>simp at h2
     ·have:=congrArg List.length h2
      simp at this
    have aj:=C4 (key:=key) (S:=Y) b2.out (fun c r e=>by rw[<-al.out,bc.1] at e;cases e) (fun _=>by rw[<-cm.out];exact bc.2);have bl:Hid (zy key q S=zy key (q.drop (k+1)) (st Y).1):=by unfold Hid;rw[t.out];exact aj
    have N:=DK.apart m (fun i hi e=>by rw[e];exact⟨nT F (by omega),by omega⟩);have am:R∉Ds:=fun h=>by have:=v R h;omega
    have ao:=jb U;have bm:=jb hK;have an:=jb N;clear bc aj b5 DK N U hK
    gi_wp2
    refine⟨⟨k+1,(st Y).1,R::Ds,_,_,_,_,_,_,rfl,be,an.out,Z1,bl,ao.out,H,G.cons bm.out am,fun E hE=>?_⟩,?_⟩
    ·rcases zF.1 hE with rfl|hE
     ·omega
     ·exact s E hE
    ·simp[intOf]
     omega
   case stop =>
    rintro R F C c aa J W3 V bf j d2 ca DK m ⟨H,G,hC,bb⟩ hK;rcases bb with⟨rfl,X,r0,e1,e2,I,z,u⟩|⟨rfl,bad,ev,e1,e2,e3,I,z,u⟩|⟨rfl,⟨X,r0,e1,e2⟩,U⟩
    ·have ab:J4 W3 (R::Ds):=G.cons hK (fun h=>by have:=v R h;omega)
     have N:=DK.apart m (fun i hi e=>by rw[e];exact⟨nT F (by omega),by omega⟩)
     have l:∀ i,i∈R::Ds->w.heap.size+4<=i:=fun i h=>by
      rcases zF.1 h with rfl|h
      ·omega
      ·exact s i h
     have O:=Yb W3 (R::Ds);have z1:=O.same I (fun h=>by have:=l _ h;omega);have z2:=O.same z (fun h=>by have:=l _ h;omega);have z3:=O.same u (fun h=>by have:=l _ h;omega);have eF:zy key q S=((st Y).1,.inl (some X)):=by rw[t.out];exact Vs b2.out (by rw[<-al.out];exact e1) e2
     gi_wp2
     refine Zc (Ds:=R::Ds) (by simp) ab ?_;refine⟨.tuple #[chV X,.bool true,.nilIface],mc (c:=X) rfl rfl rfl rfl z1 z2 z3,?_⟩;rw[eF];refine⟨H.trans O (fun i hi h=>by have:=l i h;omega),N.apart O (fun i hi h=>⟨nT i (by have:=l i h;omega),by have:=l i h;omega⟩),Z1,.inl ⟨X,rfl,rfl⟩⟩
    ·have ab:J4 W3 (R::Ds):=G.cons hK (fun h=>by have:=v R h;omega)
     have N:=DK.apart m (fun i hi e=>by rw[e];exact⟨nT F (by omega),by omega⟩)
     have l:∀ i,i∈R::Ds->w.heap.size+4<=i:=fun i h=>by
      rcases zF.1 h with rfl|h
      ·omega
      ·exact s i h
     have O:=Yb W3 (R::Ds);have z1:=O.same I (fun h=>by have:=l _ h;omega);have z2:=O.same z (fun h=>by have:=l _ h;omega);have z3:=O.same u (fun h=>by have:=l _ h;omega);have eF:zy key q S=((st Y).1,.inr bad):=by rw[t.out];exact Vt b2.out (by rw[<-al.out];exact e1) (by rw[<-cm.out];exact e2)
     gi_wp2
     refine Zc (Ds:=R::Ds) (by simp) ab ?_;refine⟨.tuple #[chV eu,.bool false,ev],mc (c:=eu) rfl rfl rfl rfl z1 z2 z3,?_⟩;rw[eF];refine⟨H.trans O (fun i hi h=>by have:=l i h;omega),N.apart O (fun i hi h=>⟨nT i (by have:=l i h;omega),by have:=l i h;omega⟩),Z1,.inr (.inr ⟨bad,ev,rfl,rfl,?_⟩)⟩;obtain⟨g,he,hg⟩:=e3;refine⟨g,he.keep O (fun i c h hc=>?_),hg⟩;rw[ab.2 i h] at hc;cases hc
    ·have aj:=C4 (key:=key) (S:=Y) b2.out (fun c r e=>by rw[<-al.out,e1] at e;cases e;exact e2) (fun e=>by rw[<-al.out,e1] at e;cases e)
     have bl:Hid (zy key q S=zy key (q.drop (k+1)) (st Y).1):=by unfold Hid;rw[t.out];exact aj
     have N:=DK.apart m (fun i hi e=>by rw[e];exact⟨nT F (by omega),by omega⟩);have am:R∉Ds:=fun h=>by have:=v R h;omega
     have ao:=jb U;have bm:=jb hK;have an:=jb N;clear aj DK N U hK e1 e2
     gi_wp2
     refine⟨⟨k+1,(st Y).1,R::Ds,_,_,_,_,_,_,rfl,be,an.out,Z1,bl,ao.out,H,G.cons bm.out am,fun E hE=>?_⟩,?_⟩
     ·rcases zF.1 hE with rfl|hE
      ·omega
      ·exact s E hE
     ·simp[intOf]
      omega
  ·obtain rfl:k=fs.length:=by omega
   obtain⟨g0,I,z,u⟩:=cc;obtain⟨cj,ci,ch,cf,ce,cd⟩:=yb I;have a2:=zA (o:=0) z;have f2:=zB (o:=0) z;have a3:=zA (o:=0) u;have f3:=zB (o:=0) u;simp at a2 a3;have H1:=jb I;have H2:=jb z;have H3:=jb u;have HF:=t;clear g0 I z u t
   gi_wp2
   have k1:=Ze W (w.heap.size+1) (jf []) (jf []) (.bool false);have k2:=ja.setCell (((W.setCell ⟨w.heap.size+1,0,none⟩ (jf [])).setCell ⟨w.heap.size+1,1,none⟩ (jf [])).setCell ⟨w.heap.size+1,2,none⟩ (.bool false)) ⟨w.heap.size+1+1,0,none⟩ (.bool false);have k3:=ja.setCell ((((W.setCell ⟨w.heap.size+1,0,none⟩ (jf [])).setCell ⟨w.heap.size+1,1,none⟩ (jf [])).setCell ⟨w.heap.size+1,2,none⟩ (.bool false)).setCell ⟨w.heap.size+1+1,0,none⟩ (.bool false)) ⟨w.heap.size+1+1+1,0,none⟩ .nilIface;have kk:ja W (((((W.setCell ⟨w.heap.size+1,0,none⟩ (jf [])).setCell ⟨w.heap.size+1,1,none⟩ (jf [])).setCell ⟨w.heap.size+1,2,none⟩ (.bool false)).setCell ⟨w.heap.size+1+1,0,none⟩ (.bool false)).setCell ⟨w.heap.size+1+1+1,0,none⟩ .nilIface) (fun i=>i=w.heap.size+1\/i=w.heap.size+1+1\/i=w.heap.size+1+1+1):=((k1.mono (fun _ _ h=> .inl h)).trans k2 (fun _ _ h=> .inr (.inl h))).trans k3 (fun _ _ h=> .inr (.inr h));have ab:J4 (((((W.setCell ⟨w.heap.size+1,0,none⟩ (jf [])).setCell ⟨w.heap.size+1,1,none⟩ (jf [])).setCell ⟨w.heap.size+1,2,none⟩ (.bool false)).setCell ⟨w.heap.size+1+1,0,none⟩ (.bool false)).setCell ⟨w.heap.size+1+1+1,0,none⟩ .nilIface) Ds:=bd.keep kk (fun D V h=>by have:=s D V;omega);have O:=Yb (((((W.setCell ⟨w.heap.size+1,0,none⟩ (jf [])).setCell ⟨w.heap.size+1,1,none⟩ (jf [])).setCell ⟨w.heap.size+1,2,none⟩ (.bool false)).setCell ⟨w.heap.size+1+1,0,none⟩ (.bool false)).setCell ⟨w.heap.size+1+1+1,0,none⟩ .nilIface) Ds;have z1:=O.same (k3.same (k2.same (nd (k:=[]) (x:=[]) (y:=false) H1.out) (by simp<;>omega)) (by simp<;>omega)) (fun h=>by have:=s _ h;omega);have z2:=O.same (k3.same (jd (o:=0) (k1.same H2.out (by simp<;>omega)) (.bool false)) (by simp<;>omega)) (fun h=>by have:=s _ h;omega);have z3:=O.same (jd (o:=0) (k2.same (k1.same H3.out (by simp<;>omega)) (by simp<;>omega)) .nilIface) (fun h=>by have:=s _ h;omega);refine Zc (by simp) ab ?_;refine⟨.tuple #[chV eu,.bool false,.nilIface],mc (c:=eu) rfl rfl rfl rfl z1 z2 z3,?_⟩;have c6:ja W (Ah (((((W.setCell ⟨w.heap.size+1,0,none⟩ (jf [])).setCell ⟨w.heap.size+1,1,none⟩ (jf [])).setCell ⟨w.heap.size+1,2,none⟩ (.bool false)).setCell ⟨w.heap.size+1+1,0,none⟩ (.bool false)).setCell ⟨w.heap.size+1+1+1,0,none⟩ .nilIface) Ds) (fun i=>(i=w.heap.size+1\/i=w.heap.size+1+1\/i=w.heap.size+1+1+1)\/i∈Ds):=(kk.mono (fun _ _ h=> .inl h)).trans O (fun _ _ h=> .inr h);have eF:zy key q S=(Y,.inl none):=by rw[HF.out,b6.out,List.drop_length];rfl
   rw[eF];refine⟨ak.trans c6 (fun i hi h=>?_),co.apart c6 (fun i hi h=>?_),Zk,.inr (.inl ⟨rfl,rfl⟩)⟩
   ·rcases h with h|h
    ·omega
    ·have:=s i h
     omega
   ·have l:w.heap.size<=i:=by
     rcases h with h|h
     ·omega
     ·have:=s i h
      omega
    exact⟨nT i l,by omega⟩
end Go.Proofs.YtnipbplghijdmaaGreatDoor
namespace Go.Proofs.YtnipbplghijdmaaGreatDoor
open RowKit Maps WideShapes Go.Shelf Go.Proofs.Tryz
variable {E:Nat->Addr} {B d:Nat} {w:World}
theorem fu.jak{P:jc->Prop}{ns:List Nat}{c:List (List (List Rf.Ch))}(h:fu P ns c){ρ:Nat->j3}(i:B<=w.heap.size)(key:Str) :
 ∀(k:Nat) f st,(ns.map (fun n=>Yo d n key))[k]?=some f->(xz c key)[k]?=some st->Cf P E B ρ d w f st:=by
 intro k f st g b;rw[ZN] at g b
 cases hn:ns[k]? with
 | none=>rw[hn] at g;cases g
 | some n =>
  cases hb:c[k]? with
  | none=>rw[hb] at b;cases b
  | some bl =>
   rw[hn] at g;rw[hb] at b;cases g;cases b;have j:=h.small bl (ZP hb);exact jh5 i (h.num n (ZP hn)) j.1 (fun S hS=>⟨(h.step S hS).1,(h.step S hS).2,h.file k n bl hn hb S hS⟩)
def Lj:Option Rf.Ch->Str×Bool
 | some c=>if c.gone=true then([],false)else(c.value,true)
 | none=>([],false)
def jgc(P:jc->Prop)(E:Nat->Addr)(B:Nat)(ρ:Nat->j3)(d b:Nat)(t:TypeId)(row:Bool->Array Value)(deg:Bool)(G:jc×(Option Rf.Ch ⊕ Bool))(w:World)(e:Ending)(w':World):Prop :=
 ja w w' (fun i=>qj ρ i\/i=b)/\Dk E B w' ρ d G.1/\P G.1 /\
 ((∃ o,G.2 = .inl o/\e = .returned (.tuple #[jf (Lj o).1,.bool (Lj o).2,.int .i64 0])/\w'.heap[b]?=some (.cells (row deg) t (0,0))) \/
  (∃ bad,G.2 = .inr bad/\e = .returned (.tuple #[jf [],.bool false,.int .i64 1])/\w'.heap[b]?=some (.cells (row true) t (0,0))))
theorem jfx{P:jc->Prop}{ρ:Nat->j3}{S:jc}{b:Nat}{t:TypeId}(g:Rf.Man)(rv last T:Value)(mem:List Rf.Ch)(M:Bool)(q:List (List (List Rf.Ch)))(H:Env E B w)(D:Dk E B w ρ d S)(Z:P S)(R:fu P g.settled q)(hb:w.heap[b]?=some (.cells (qv (.pointer (some ⟨d,0,none⟩)) (jg g.next) (jg g.last) (jg g.log) (jg g.base) rv last T M false) t (0,0)))(Y:¬qj ρ b)(ao:B<=b)(hv:Jw w rv g.runs)(hl:g.runs.length<262144)(an:Chs w T mem)(hr:lr mem)(a1:∀ p n c,T = .slice (some p) n c->¬qj ρ p.block/\p.block<w.heap.size)(key:Str) :
 Calls prog 33 #[.pointer (some ⟨b,0,none⟩),jf key] w
  (jgc P E B ρ d b t (fun x=>qv (.pointer (some ⟨d,0,none⟩)) (jg g.next) (jg g.last) (jg g.log) (jg g.base) rv last T x false) M (zy key (Y2 (mem.drop (Rf.below mem key))::xz q key) S) w):=by
 have bd:=xy g;have A:=ob d g rv last T mem M false key H hb hv (by omega) R.num an hr.1 hr.2.2;have hρ:=D.rep.lt;have hB:=D.size;have d9:=zA (o:=9) hb;simp at d9;have am:(mem.drop (Rf.below mem key)).length<1048576:=XP (List.drop_sublist _ _).length_le hr.2.2;have F:(g.settled.map (fun n=>Yo d n key)).length=(xz q key).length:=by simp[R.len]
 have ab:Hid (∀(W:World),B<=W.heap.size->∀(k:Nat) f st,(g.settled.map (fun n=>Yo d n key))[k]?=some f->(xz q key)[k]?=some st->Cf P E B ρ d W f st):=fun W hW=>R.jak hW key;obtain⟨v,r⟩:∃ v,v=Y2 (mem.drop (Rf.below mem key))::xz q key:=⟨_,rfl⟩;rw[<-r];obtain⟨G,hG⟩:∃ G,G=zy key v S:=⟨_,rfl⟩;rw[<-hG];have HG:=jb hG;clear hG;have L:=jb r;have aa:=jb A;have HB:=jb hb;have az:=jb F;have a9:=jb a1;clear A hb F r a1;go_enter func33,ntmps33;go_wp2_with fail;refine aa.out.mono ?_;rintro e w1 ⟨V,X,v0,rfl,l,I,J,U⟩;have nT:∀ i,w.heap.size<=i->¬qj ρ i:=fun i hi h=>by have:=hρ i h;omega
 have u:ll w1 (.slice V (g.settled.length+1) X) (Bx v0::g.settled.map (fun n=>Yo d n key)):=gh l (by simp)
 have C:Bx v0::g.settled.map (fun n=>Yo d n key)≠[]->∀ p n c,Value.slice V (g.settled.length+1) X = .slice (some p) n c->¬qj ρ p.block:=by
  intro _ p n c e;injection e with e;have:=(l.lt p.block (by rw[e];rfl)).1;exact nT _ (by omega)
 have a0:∀ p n c,v0 = .slice (some p) n c->¬qj ρ p.block/\p.block<w1.heap.size:=by
  intro p n c e;obtain⟨a8,n',c',e1,e2⟩:=J p n c e;rw[<-e2];exact⟨(a9.out a8 n' c' e1).1,ZH (a9.out a8 n' c' e1).2 U.size⟩
 have a7:B<=w1.heap.size:=by have:=U.size;omega
 have s:=jed (D.same U) Z _ (Bx v0::g.settled.map (fun n=>Yo d n key)) v key u C (by rw[L.out];simp[R.len]) (by simp;omega) (fun j f st hf hst=>by
  rw[L.out] at hst
  cases j with
  | zero =>
   cases hf
   cases hst
   exact jh7 I am a0 a7
  | succ j=>exact ab.out w1 a7 j f st hf hst)
 rw[<-HG.out] at s;have HF:=jb s;have a6:=U.same HB.out id;have aq:=jb a6;clear s u C a0 l I J a6;go_wp2_with fail;refine HF.out.mono ?_;rintro e O ⟨k2,D2,Z2,al⟩;have a5:=k2.same aq.out Y;have kW:ja w O (fun i=>qj ρ i\/i=b):=(U.up).tt (k2.mono (fun _ _ h=> .inl h));have y:=jb a5;clear a5;rcases al with⟨c,z,rfl⟩|⟨z,rfl⟩|⟨bad,ev,z,rfl,a2⟩
 ·obtain⟨ck,cv,cg⟩:=c
  have m:=ja.alloc O (.cells #[jf ck,jf cv,.bool cg] 88) (fun _=>False);have N:=jb z;clear z
  cases cg with
  | true =>
   go_wp2;go_ret3;exact⟨kW.trans m (fun _ _ h=>h.elim),D2.same m,Z2,.inl ⟨_,N.out,rfl,m.same y.out id⟩⟩
  | false =>
   go_wp2;go_ret3;exact⟨kW.trans m (fun _ _ h=>h.elim),D2.same m,Z2,.inl ⟨_,N.out,rfl,m.same y.out id⟩⟩
 ·have m:=ja.alloc O (.cells #[jf [],jf [],.bool false] 88) (fun _=>False)
  have N:=jb z;clear z;unfold eu;go_wp2;go_ret3;exact⟨kW.trans m (fun _ _ h=>h.elim),D2.same m,Z2,.inl ⟨_,N.out,rfl,m.same y.out id⟩⟩
 ·obtain⟨te,ae,rfl⟩:=a2.shape
  have m:=ja.alloc O (.cells #[jf [],jf [],.bool false] 88) (fun _=>False);have N:=jb z;clear z a2;have a3:=gx (m.same y.out id);have ap:=jb a3;clear a3;unfold eu;go_wp2_with fail;refine ap.out.mono ?_;rintro e w3 ⟨rfl,a4,k3⟩;have H3:=jb a4;clear a4;go_wp2;go_ret3;have k4:ja O w3 (fun i=>i=b):=(m.up).tt k3;exact⟨kW.trans k4 (fun _ _ h=> .inr h),D2.apart k4 (fun i _ e=>by rw[e];exact⟨Y,ao⟩),Z2,.inr ⟨bad,N.out,rfl,H3.out⟩⟩
end Go.Proofs.YtnipbplghijdmaaGreatDoor
namespace Go.Proofs.YtnipbplghijdmaaGreatDoor
open RowKit Maps WideShapes Go.Shelf Go.Proofs.Tryz
attribute [local go_sem] Oper.semAt_some
variable {w:World} {b:Nat}
def Qt:List J5->jc->jc×Option Bool
 | [],S=>(S,none)
 | st::r,S =>
  match (st S).2.2 with
  | some bad=>((st S).1,some bad)
  | none=>Qt r (st S).1
theorem mz(b:J5)(r:List J5)(S:jc):Qt (b::r) S =
 match (b S).2.2 with
 | some bad=>((b S).1,some bad)
 | none=>Qt r (b S).1:=rfl
theorem jap{α:Type}{l:List α}{k:Nat}{x:α}(h:l[k]?=some x):l.drop k=x::l.drop (k+1):=by
 have b:l[k]'((zO.1 h).1)=x:=(zO.1 h).2;rw[<-b,xX]
def Wm(P:jc->Prop)(E:Nat->Addr)(B:Nat)(ρ:Nat->j3)(d:Nat)(w:World)(G:jc×Option Bool)(e:Ending)(w':World):Prop :=
 ja w w' (qj ρ)/\Dk E B w' ρ d G.1/\P G.1/\((G.2=none/\e = .returned .nilIface)\/∃ bad ev,G.2=some bad/\e = .returned ev/\lu E w' ev bad)
theorem Yz{fn:Func}{x:Tmp}(h:fn.results=#[.cell x 128]){tmps:Array Value}{d:Value}(g:tmps.getD x undef = .pointer (some ⟨b,0,none⟩))(i:w.heap[b]?=some (.cells #[d] 128 (0,0))) :
 (results fn tmps).run prog w = .ok d w:=by
 have f:=Sa i;have c:tmps[x]?.getD undef = .pointer (some ⟨b,0,none⟩):=by simpa using g
 simp[results,h,c,asAddr,f]
theorem vc{P:jc->Prop}{E:Nat->Addr}{B:Nat}{ρ:Nat->j3}{d:Nat}{S:jc}{t:TypeId}(I:Rf.Man)(rv last mv:Value)(bf cl:Bool)(Y:List (List (List Rf.Ch)))(H:Env E B w)(D:Dk E B w ρ d S)(Z:P S)(R:fu P I.settled Y)(hb:w.heap[b]?=some (.cells (qv (.pointer (some ⟨d,0,none⟩)) (jg I.next) (jg I.last) (jg I.log) (jg I.base) rv last mv bf cl) t (0,0)))(hv:Jw w rv I.runs)(hl:I.runs.length<262144) :
 Calls prog 179 #[.pointer (some ⟨b,0,none⟩)] w (Wm P E B ρ d w (Qt (xz Y []) S)):=by
 have cd:=xy I;have kA:=ja.alloc w (.cells #[.nilIface] 128) (fun _=>False);have y0:=je w (.cells #[.nilIface] 128);have L:=Zw d I rv last mv bf cl [] (H.same kA) (kA.same hb id) (hv.same kA) (by omega) R.num;have hρ:=D.rep.lt;have ck:=D.size;have nT:∀ i,w.heap.size<=i->¬qj ρ i:=fun i hi h=>by have:=hρ i h;omega
 have a4:Hid (∀(W:World),B<=W.heap.size->∀(k:Nat) f V,(I.settled.map (fun n=>Yo d n []))[k]?=some f->(xz Y [])[k]?=some V->Cf P E B ρ d W f V):=fun W hW=>R.jak hW [];have N:Hid (I.settled.length=(xz Y []).length):=by unfold Hid;simp[R.len]
 obtain⟨s,af⟩:∃ s,s=xz Y []:=⟨_,rfl⟩;obtain⟨fs,ar⟩:∃ fs,fs=I.settled.map (fun n=>Yo d n []):=⟨_,rfl⟩;have ap:fs.length=I.settled.length:=by rw[ar];simp
 rw[<-af] at a4 N ⊢;rw[<-ar] at a4 L;obtain⟨ns,b7⟩:∃ ns,ns=I.settled.length:=⟨_,rfl⟩;rw[<-b7] at L N cd ap;have bl:=jb L;have HY:=jb y0;have aw:=jb ap;clear L y0 af ar b7 hb ap R;refine(callsIn_wide (n:=9)).1 ?_;refine callsIn_of_wp_marks func179 rfl trivial ?_ rfl;simp only[ntmps179,xY,zH,zX,Nat.reduceAdd,Nat.reduceSub,xZ,XA,XB,XC,xL,xM]
 gi_wp2_with fail
 refine⟨trivial,(callsIn_wide.2 bl.out).mono ?_⟩;rintro e w1 ⟨lp,lc,rfl,a1,k1⟩;have kW:ja w w1 (fun _=>False):=kA.tt k1;have y1:=k1.same HY.out id;have dh:=zC y1;have dj:B<=w1.heap.size:=by omega
 have cr:Hid (ll w1 (.slice lp ns lc) fs):=gh a1 aw.out
 have bm:Hid (∀ p n c,Value.slice lp ns lc = .slice (some p) n c->¬qj ρ p.block):=by
  intro p n c e;injection e with e;have:=(a1.lt p.block (by rw[e];rfl)).1;simp at this;exact nT _ (by omega)
 have cm:=jb y1;clear a1 y1
 gi_wp2
 refine wpIn_loop (fun a W=>∃(k:Nat) (X:jc) (Ds:List Nat) (u4 u11 u12 u13 u14 b3:Value),a={ tmps:=#[.pointer (some ⟨b,0,none⟩),undef,.pointer (some ⟨w.heap.size,0,none⟩),undef,u4,undef,undef,.pointer (some ⟨b,0,none⟩),.slice lp ns lc,j6 ns,j6 k,u11,u12,u13,u14,undef,undef,undef,undef,undef,b3],defers:=marks Ds }/\k<=ns/\Dk E B W ρ d X/\P X/\Hid (Qt s S=Qt (s.drop k) X)/\W.heap[w.heap.size]?=some (.cells #[.nilIface] 128 (0,0))/\ja w1 W (qj ρ)/\J4 W Ds/\(∀ D∈Ds,w.heap.size+1<=D))
  (fun a _=>ns-(intOf (a.tmps.getD 10 undef)).toNat) ?_ ?_
 ·exact⟨0,S,[],_,_,_,_,_,_,rfl,zG _,D.same kW,Z,rfl,cm.out,ja.refl _ _,J4.nil _,fun D h=>by cases h⟩
 ·rintro a W ⟨k,X,Ds,u4,u11,u12,u13,u14,b3,rfl,T,bi,Zk,G,y,M,an,F⟩
  have ba:ja w W (qj ρ):=(kW.up).tt M;dsimp only;rcases zV k ns with cf|v
  ·obtain⟨f,hf⟩:∃ f,fs[k]?=some f:=⟨_,xB (by have:=aw.out;omega)⟩
   obtain⟨V,am⟩:∃ V,s[k]?=some V:=⟨_,xB (by have:=N.out;omega)⟩;obtain⟨Z1,gf,cc,lb,Needs,Start,rfl,ci,aq,hN,cj⟩:=a4.out w ck k f V hf am W X ba bi Zk;have a5:ll W (.slice lp ns lc) fs:=cr.out.keep M (fun h p n c e=>bm.out p n c e);have O:ll W (.slice lp fs.length lc) fs:=by rw[aw.out];exact a5
   obtain⟨bb,o,rfl,e0⟩:=O.at hf;have dg:=M.size;have bg:=jb am;have HB:=jb y;have d3:(k:Int)<(ns:Int):=by omega
   obtain⟨LL,be⟩:∃ LL,LL=(V X).2.1:=⟨_,rfl⟩;obtain⟨LE,au⟩:∃ LE,LE=(V X).2.2:=⟨_,rfl⟩;rw[<-be,<-au] at aq;have cq:=jb aq;have bh:=jb au;have q:∀ D∈Ds,D<W.heap.size:=fun D h=>zC (an.2 D h);clear y am aq hf be au a5 O
   gi_wp2
   refine dm rfl (by decide) (gf:=gf) (rv:=cc) (lb:=lb) rfl trivial ci (cq.out 8) (fun _=>rfl) (fun i h=>by have:=hρ i h;omega) (fun i h=>by have:=hN i h;omega) cj
    (fun U C W'=>(∃ m,U=(LL.take m).map Ja/\m<=LL.length)/\W'.heap[w.heap.size]?=some (.cells #[.nilIface] 128 (0,0))/\ja w1 W' (qj ρ)/\J4 W' Ds/\(∀ i,C i↔i=w.heap.size))
    (fun c U C W'=>c = .ret/\ja w W' (qj ρ)/\J4 W' Ds/\∃ bad ev,LE=some bad/\lu E W' ev bad/\W'.heap[w.heap.size]?=some (.cells #[ev] 128 (0,0)))
    ?hI ?hIx (fun i=>i=w.heap.size) ?hC0 ?h0 ?round ?done ?stop
   case hI =>
    rintro U C A B' ⟨hm,y,l,j,hC⟩ T
    have out:∀ i,w.heap.size<=i->i<W.heap.size->¬(qj ρ i\/(W.heap.size<=i/\¬C i)):=by
     rintro i h1 h2 (h3|⟨h3,h4⟩)
     ·exact nT i h1 h3
     ·omega
    refine⟨hm,ja.same T y (out _ (by omega) (by omega)),l.trans T (fun i hi h=>?_),j.keep T (fun D J=>out D (by have:=F D J;omega) (q D J)),hC⟩;rcases h with h|⟨h,_⟩
    ·exact h
    ·omega
   case hIx =>
    rintro c U C A B' z r ⟨rfl,l,j,bad,ev,e1,e3,y⟩ ao di hr T;have u:∀ i,i<W.heap.size->¬i=z:=fun i hi=>by omega
    obtain⟨g,he,hg⟩:=e3;exact⟨rfl,l.trans T (fun i hi e=>by omega),j.keep T (fun D J=>u D (q D J)),bad,ev,e1,⟨g,he.keep T (fun i c e hc=>by rw[e,hr] at hc;cases hc),hg⟩,T.same y (u _ (by omega))⟩
   case hC0 =>
    rintro i h;exact⟨by omega,nT i (by omega),fun h=>by have:=hN i h;omega⟩
   case h0=>exact⟨⟨0,rfl,zG _⟩,HB.out,M,an,fun _=>Iff.rfl⟩
   case round =>
    rintro z U x C W1 ao ⟨rl,b6⟩ b8 bd ⟨⟨m,rfl,hm⟩,y,l,j,hC⟩ bk;have d4:=zC b6;have u:∀ i,i<W.heap.size->¬i=z:=fun i hi=>by omega
    rcases bk with⟨k0,c,e,bc,rfl⟩|⟨bad,he,e,b5,aa⟩
    ·have cg:=(zO.1 bc).1
     obtain rfl:m=k0:=by
      have:=congrArg List.length e;simp at this;omega
     have E1:=jb (ki bc).symm;clear e;dsimp only[encI,Ja]
     gi_wp2
     refine⟨ja.refl W1 _,?_⟩;intro W2 ka _;have HC:=jb hC;have H0:=jb (ka.same y (u _ (by omega)));have a2:J4 W2 Ds:=j.keep ka (fun D J=>u D (q D J));have a3:ja w1 W2 (qj ρ):=l.trans ka (fun i hi e=>by omega);clear y hC
     gi_wp2
     exact⟨C,fun i h=> .inl h,fun i h=>ZH (bd i h) ka.size,ja.refl _ _,⟨m+1,E1.out,cg⟩,H0.out,a3,a2,HC.out⟩
    ·obtain⟨x1,ev⟩:=x
     simp only at b5 aa;subst b5;obtain⟨tv,av,rfl⟩:=aa.shape;have cp:=jb he;clear e he;dsimp only[encI,eu]
     gi_wp2
     refine⟨ja.refl W1 _,?_⟩;intro W2 ka _;have G0:=jb y;have ac:=ka.same y (u _ (by omega));have a0:=zA (o:=0) ac;have f0:=zB (o:=0) ac;simp at a0;have a2:J4 W2 Ds:=j.keep ka (fun D J=>u D (q D J));have a3:ja w1 W2 (qj ρ):=l.trans ka (fun i hi e=>by omega);have H0:=jb ac;have HC:=jb hC;have HX:=jb aa;clear y ac hC aa
     gi_wp2
     have kk:=ja.setCell W2 ⟨w.heap.size,0,none⟩ (.iface tv (.pointer (some av)));refine⟨C,fun i h=> .inl h,fun i h=>ZH (bd i h) (ZI ka.size kk.size),kk.mono (fun i _ h=>(HC.out i).2 h),rfl,((kW.up).tt a3).trans kk (fun i hi h=>?_),a2.keep kk (fun D J h=>by have:=F D J;have e':D=w.heap.size:=h;omega),bad,.iface tv (.pointer (some av)),cp.out,?_,?_⟩
     ·have e':i=w.heap.size:=h
      omega
     ·obtain⟨g,hg,ch⟩:=HX.out
      have kw:ja W1 (W2.setCell ⟨w.heap.size,0,none⟩ (.iface tv (.pointer (some av)))) (fun i=>i=z\/i=w.heap.size):=(ka.mono (fun _ _ h=> .inl h)).trans kk (fun _ _ h=> .inr h);refine⟨g,hg.keep kw (fun i c h hc=>?_),ch⟩;rcases h with h|h
      ·rw[h,b6] at hc;cases hc
      ·rw[h,G0.out] at hc;cases hc
     ·exact(jd (o:=0) H0.out _).trans rfl
   case done =>
    rintro D' z C xs W2 W3 J ao u ce b8 ⟨DK,ag⟩ T ⟨⟨m,rfl,hm⟩,ah,l,j,hC⟩ hK
    have b9:LE=none:=by
     rcases ag with⟨h1,h2⟩|⟨bad,ev,h1,⟨t,a,rfl⟩,h2⟩
     ·exact h1
     ·have h3:(eu,Value.iface t (.pointer (some a)))∈(LL.take m).map Ja:=by rw[h2];simp
      obtain⟨c,_,h4⟩:=zS.1 h3;cases h4
    have cn:Hid (Qt s S=Qt (s.drop (k+1)) (V X).1):=by
     unfold Hid;rw[G.out,jap bg.out,mz,<-bh.out,b9]
    have ad:=DK.apart T (fun i hi e=>by rw[e];exact⟨nT z (by omega),by omega⟩);have bj:D'∉Ds:=fun h=>by have:=q D' h;omega
    have bo:=jb ah;have co:=jb hK;have bn:=jb ad;clear b9 ag DK ad ah hK
    gi_wp2
    refine⟨⟨k+1,(V X).1,D'::Ds,_,_,_,_,_,_,rfl,cf,bn.out,Z1,cn,bo.out,l,j.cons co.out bj,fun E hE=>?_⟩,?_⟩
    ·rcases zF.1 hE with rfl|hE
     ·omega
     ·exact F E hE
    ·simp[intOf]
     omega
   case stop =>
    rintro D' z C c U W2 W3 J ao u ce b8 DK T ⟨rfl,l,j,bad,ev,e1,e3,y⟩ hK;have ab:J4 W3 (D'::Ds):=j.cons hK (fun h=>by have:=q D' h;omega);have ad:=DK.apart T (fun i hi e=>by rw[e];exact⟨nT z (by omega),by omega⟩)
    have v:∀ i,i∈D'::Ds->w.heap.size+1<=i:=fun i h=>by
     rcases zF.1 h with rfl|h
     ·omega
     ·exact F i h
    have kS:=Yb W3 (D'::Ds);have z0:=kS.same y (fun h=>by have:=v _ h;omega);have eF:Qt s S=((V X).1,some bad):=by rw[G.out,jap bg.out,mz,<-bh.out,e1]
    gi_wp2
    refine Zc (Ds:=D'::Ds) (by simp) ab ?_;refine⟨ev,Yz rfl rfl z0,?_⟩;rw[eF];refine⟨l.trans kS (fun i hi h=>by have:=v i h;omega),ad.apart kS (fun i hi h=>⟨nT i (by have:=v i h;omega),by have:=v i h;omega⟩),Z1,.inr ⟨bad,ev,rfl,rfl,?_⟩⟩;obtain⟨g,he,hg⟩:=e3;refine⟨g,he.keep kS (fun i c h hc=>?_),hg⟩;rw[ab.2 i h] at hc;cases hc
  ·obtain rfl:k=ns:=by omega
   have a0:=zA (o:=0) y;have f0:=zB (o:=0) y;simp at a0;have H0:=jb y;clear y
   gi_wp2
   have kk:=ja.setCell W ⟨w.heap.size,0,none⟩ .nilIface;have ab:J4 (W.setCell ⟨w.heap.size,0,none⟩ .nilIface) Ds:=an.keep kk (fun D J h=>by have:=F D J;have e':D=w.heap.size:=h;omega);have kS:=Yb (W.setCell ⟨w.heap.size,0,none⟩ .nilIface) Ds;have z0:=kS.same ((jd (o:=0) H0.out .nilIface).trans rfl) (fun h=>by have:=F _ h;omega);have b4:ja W (Ah (W.setCell ⟨w.heap.size,0,none⟩ .nilIface) Ds) (fun i=>i=w.heap.size\/i∈Ds):=(kk.mono (fun _ _ h=> .inl h)).trans kS (fun _ _ h=> .inr h);refine Zc (by simp) ab ?_;refine⟨.nilIface,Yz rfl rfl z0,?_⟩;have eF:Qt s S=(X,none):=by rw[G.out,N.out,List.drop_length];rfl
   rw[eF]
   have v:∀ i,(i=w.heap.size\/i∈Ds)->w.heap.size<=i:=fun i h=>by
    rcases h with h|h
    ·omega
    ·have:=F i h
     omega
   exact⟨ba.trans b4 (fun i hi h=>by have:=v i h;omega),bi.apart b4 (fun i hi h=>⟨nT i (v i h),by have:=v i h;omega⟩),Zk,.inl ⟨rfl,rfl⟩⟩
end Go.Proofs.YtnipbplghijdmaaGreatDoor
namespace Go.Proofs.YtnipbplghijdmaaGreatDoor
open RowKit Maps WideShapes Go.Proofs.Tryz
variable {w:World} {E:Nat->Addr} {B b d k lo:Nat} {t:TypeId} {ba la mv nx ru:Value} {cl deg:Bool}
theorem Kd(b:Nat):Calls prog 67 #[.pointer (some ⟨b,0,none⟩),.nilIface] w fun e w'=>e = .returned (.int .i64 0)/\w'=w:=by
 go_enter func67,ntmps67;go_wp2;go_ret;exact⟨rfl,rfl⟩
theorem Ke{v:Value}{l lo last:Value}(g:w.heap[b]?=some (.cells (qv l nx la lo ba ru last mv deg cl) t (0,0)))(S:Xg E B w)(h:Err E w v k)(d:k≠0) :
 Calls prog 67 #[.pointer (some ⟨b,0,none⟩),v] w fun e w'=>e = .returned (.int .i64 1)/\w'.heap[b]?=some (.cells (qv l nx la lo ba ru last mv true cl) t (0,0))/\ja w w' (fun i=>i=b):=by
 have u:=S.cell 0 (by decide);have c:=ry S h 0 (by decide);have f:decide (k=0)=false:=by simp[d]
 rw[f] at c;obtain⟨s,a,rfl⟩:=h.shape;have n:=jb c;have o:=jb g;clear c g f d h;go_enter func67,ntmps67;go_wp2_with fail;refine n.out.mono ?_;rintro e r ⟨rfl,rfl⟩;go_wp2_with fail;refine(gx o.out).mono ?_;rintro e q ⟨rfl,j,m⟩;have p:=jb j;clear j;go_wp2;go_ret;exact⟨rfl,p.out,m⟩
def Fe:Str:=[109,97,110,105,102,101,115,116]
theorem dx(m:Rf.Man)(T rv last mv:Value)(deg cl:Bool)(H:Env E B w)(l:w.heap[b]?=some (.cells (qv T (jg m.next) (jg m.last) (jg m.log) (jg m.base) rv last mv deg cl) t (0,0)))(R:Jw w rv m.runs)(hl:m.runs.length<524288)(S:∀ n∈m.settled,n<=9223372036854775807)(r:m.log<=9223372036854775807) :
 Calls prog 182 #[.pointer (some ⟨b,0,none⟩)] w fun e w'=>∃ p c,e = .returned (.slice p ((jt m).length+1) c)/\w'.ownsRow w.heap.size 9 1 (.slice p ((jt m).length+1) c) ((jt m).length+1) ((jt m++[Fe]).map jf)/\ja w w' (fun _=>False):=by
 obtain⟨O,I,x,v,u⟩:=info_parts Tryz.Ax;have g:=Aq m rv H R (by omega) S r;have a0:=xy m;have d:(jt m).length=m.settled.length+1:=by unfold jt;simp
 have Y:=zA (o:=1) l;have X:=zA (o:=2) l;have W:=zA (o:=3) l;have V:=zA (o:=4) l;have U:=zA (o:=5) l;simp at Y X W V U;generalize jt m=F at g d ⊢;obtain⟨q,s⟩:∃ q,q=F.length:=⟨_,rfl⟩;rw[<-s] at g d ⊢;have a1:q<524290:=by omega
 have Z:=jb g;have HQ:=jb s;clear g l d s;go_enter func182,ntmps182;go_wp2_with fail;refine Z.out.mono ?_;rintro e L ⟨p1,c1,rfl,f,G⟩;have i:=f.alloc (.cells #[jf Fe] 9);have A:Hid (q+1<=maxLen):=by unfold Hid maxLen;omega
 have z:Hid ((q+1)*16<=140737488355328):=by unfold Hid;omega
 go_wp2_with (at_builtin;go_must (refine jy _ rfl (.tmp 7) (.tmp 8) 40 rfl w.heap.size 9 O (.string ⟨#[]⟩) 1 16 underlying40 I x v u rfl ZJ _ _ _ rfl i ⟨L.heap.size,0,none⟩ 1 1 [jf Fe] rfl rfl (cell_one_new _ _ _) (Nr _) A.out z.out (G.more _).size ?_);intro M C J k y D)
 have N:ja w J (fun _=>False):=(G.more _).grow y (fun j e I=>by have:=(f.lt j e).1;omega);go_ret;refine⟨M,C,rfl,?_,N⟩;rw[xP];exact k
theorem Xl(b:lo<=9223372036854775807):(jh lo).length<1099511627776:=by
 have:=yj b;unfold jh;simp only[zW,zH,zX];omega
theorem Dw(b:Array Value)(w:World):(callFunc 159 b).run prog w = .ok (.enter 159 b) w:=by kernel_rfl
theorem oz{ρ:Nat->j3}{S:jc}{last:Value}(D:Dk E B w ρ d S)(H:Env E B w)(g:lo<=9223372036854775807)(k:w.heap[b]?=some (.cells (qv (.pointer (some ⟨d,0,none⟩)) nx la (j6 lo) ba ru last mv deg cl) t (0,0))) :
 Calls prog 113 #[.pointer (some ⟨b,0,none⟩)] w (Xr E B w ρ d (S.qn (jh lo))):=by
 have r:=zA (o:=0) k;have q:=zA (o:=3) k;simp at r q;have j:=Xl g;have n:Hid (w.drew.heap[b]?=some (.cells (qv (.pointer (some ⟨d,0,none⟩)) nx la (j6 lo) ba ru last mv deg cl) t (0,0))):=k;have m:Env E B w.drew:=H.keep (ja.drew w (fun _=>False)) (fun _ h=>h.elim);have y:=D.same (ja.drew w _);clear k;go_enter func113,ntmps113;go_wp2_with fail
 go_region_law (first
  | (refine jx rfl 63 [.tmp 11] _ rfl Jv [.int .i64 lo] (by simp[Act.eval]) (Qs lo g m) ?_
     rintro e C ⟨rfl,l⟩
     have f:=l.same n.out id
     have u:=zA (o:=0) f
     have s:=zA (o:=3) f
     simp at u s
     clear f
     have z:=y.same l
     refine⟨_,rfl,?_⟩)
  | (refine jx rfl 159 [.tmp 6,.tmp 12] _ rfl Dw [.pointer (some ⟨d,0,none⟩),jf (jh lo)] (by simp[Act.eval]) (r9 z (jh lo) j) ?_
     rintro e A c
     have i:∃ v,e = .returned v:=by
      obtain⟨_,_,_,p⟩:=c
      rcases p with⟨_,rfl⟩|⟨_,v,rfl,_⟩
      ·exact⟨_,rfl⟩
      ·exact⟨_,rfl⟩
     obtain⟨v,rfl⟩:=i
     have x:=jb c
     clear c
     refine⟨_,rfl,?_⟩))
 all_goals
  go_wp2;go_ret;exact Xr.before (x7.of (((ja.drew w (fun _=>False)).tt l)) (fun _ _ h=>h.elim)) x.out
def jeu(E:Nat->Addr)(B:Nat)(w:World)(ρ:Nat->j3)(d b:Nat)(t:TypeId)(row:Bool->Array Value)(F:jc×Bool)(e:Ending)(w':World):Prop :=
 (F.2=true/\e = .returned (.int .i64 0)/\Mx E B w ρ d b t (row false) F.1 w')\/(F.2=false/\e = .returned (.int .i64 1)/\Mx E B w ρ d b t (row true) F.1 w')
theorem Kv{ρ:Nat->j3}{S:jc}{last:Value}(D:Dk E B w ρ d S)(H:Env E B w)(z:lo<=9223372036854775807)(I:ρ b = .none)(A:B<=b)(s:w.heap[b]?=some (.cells (qv (.pointer (some ⟨d,0,none⟩)) nx la (j6 lo) ba ru last mv false false) t (0,0))) :
 Calls prog 77 #[.pointer (some ⟨b,0,none⟩)] w (jeu E B w ρ d b t (fun x=>qv (.pointer (some ⟨d,0,none⟩)) nx la (j6 lo) ba ru last mv x false) (S.qn (jh lo))):=by
 have k:=oz D H z s;have u:=jb s;have HS:=jb k;clear s k;generalize S.qn (jh lo)=F at HS ⊢;go_enter func77,ntmps77;go_wp2_with fail;refine(Qb u.out).mono ?_;rintro e M ⟨rfl,rfl⟩;rw[show Xt false false=0 from rfl];go_wp2_with fail;refine HS.out.mono ?_;rintro e L ⟨q,j,g,N⟩;have m:=j.keeps.same u.out (fun h=>h I);have o:=jb m;have G:ja M L (fun i=>ρ i≠ .none\/i=b):=j.keeps.mono (fun _ _ h=> .inl h);clear m;rcases N with⟨c,rfl⟩|⟨c,v,rfl,r⟩
 ·have f:=jb c
  clear c;go_wp2_with fail;refine(Kd b).mono ?_;rintro e J ⟨rfl,rfl⟩;go_wp2;go_ret;exact .inl ⟨f.out,rfl,q,G,j.role,g,o.out⟩
 ·have f:=jb c
  clear c;obtain⟨R,T,rfl⟩:=r.shape;have n:=Ke o.out g.z8 r (by decide);have O:=jb n;clear n r;go_wp2_with fail;refine O.out.mono ?_;rintro e J ⟨rfl,l,p⟩;have C:=jb l;clear l;go_wp2;go_ret;refine .inr ⟨f.out,rfl,q,G.trans p (fun _ _ h=> .inr h),j.role,?_,C.out⟩;have y:q b = .none:=(j.role b (zC u.out)).trans I;exact⟨g.rep.keep p (fun i h _=>by rw[h];exact y),g.z8.keep p (fun i h=>by rw[h];exact A),g.yz,ZI g.size p.size⟩
theorem Tf(b:Array Value)(w:World):(callFunc 64 b).run prog w = .ok (.enter 64 b) w:=by kernel_rfl
theorem Ln(b:Array Value)(w:World):(callFunc 62 b).run prog w = .ok (.enter 62 b) w:=by kernel_rfl
theorem jeq{ρ:Nat->j3}{S:jc}(D:Dk E B w ρ d S)(F:Fit k S)(N:k<549755813888)(nm:Str)(t:nm.length<1099511627776){f:Nat}{a:jz}(r:S.at nm=some f)(q:S.files f=some a)(v:Value)(b:List UInt8)(l:0<b.length)(L:b.length<549755813888)(I:Bytes w v b)(m:Off ρ v) :
 Calls prog 62 #[.pointer (some ⟨d,0,none⟩),jf nm,v] w fun e w'=>∃ S' ok ρ' cc,e = .returned (.int .i64 cc)/\Hid (Kp nm b S S' ok)/\x7 w ρ w' ρ'/\Dk E B w' ρ' d S'/\Hid ((ok=true/\cc=(0:Int))\/(ok=false/\cc=1)):=by
 have Z:Small S:=F.small (by omega);have J:total S.files S.names<1099511627776:=by have:=F.total;omega
 obtain⟨p,c,rfl,C,A,z,y⟩:=id I
 obtain⟨g,rfl⟩:∃ g,p=some g:=by
  cases p with
  | some g=>exact⟨g,rfl⟩
  | none=>have:=z rfl;omega
 have n:Arg w ρ (.slice (some g) b.length c) b:= .inr ⟨g,c,rfl,C,m _ _ _ rfl,fun j u hu=>by
  rw[ZN] at hu
  obtain⟨x,i,rfl⟩:=ZO.1 hu
  exact(y g rfl).2 j x i⟩
 refine(Dd nm b g c D.rep Z t r q l (by omega) n (by omega) A J).mono ?_;rintro e M ⟨G,o,⟨i,rfl,s⟩|⟨i,H,rfl,s⟩⟩
 ·exact⟨_,false,G,1,rfl,⟨f,a,r,q,.inl ⟨i,rfl,rfl⟩⟩,o,D.step o s,.inr ⟨rfl,rfl⟩⟩
 ·exact⟨_,true,G,0,rfl,⟨f,a,r,q,.inr ⟨i,H,rfl,rfl⟩⟩,o,D.step o s,.inl ⟨rfl,rfl⟩⟩
end Go.Proofs.YtnipbplghijdmaaGreatDoor
namespace Go.Proofs.YtnipbplghijdmaaGreatDoor.Rf
open Go.Proofs.Tryz
variable {b l m:List Ch} {x:Ch} {bs:List (List Ch)}
structure St where
 m:Man
 bs:List (List Ch)
 bls:List (List Ch)
def St.last(s:St):Nat:=s.m.last+s.bs.length
def St.mem(s:St):List Ch:=memory s.bs
def St.all(s:St):List Ch:=merged (s.mem::s.bls)
def St.tell(s:St):List Ch:=there s.all
def St.live(s:St):List Ch:=there (merged s.bls)
def St.write(s:St)(b:List Ch):St:=⟨s.m,s.bs++[b],s.bls⟩
def Man.yh(m:Man)(last:Nat):Man:=⟨m.next+2,last,m.next+1,m.base,m.next::m.runs⟩
def Man.zh(m:Man):Man:=⟨m.next+1,m.last,m.log,m.next,[]⟩
def Man.bare(m:Man):Man:=⟨m.next,m.last,m.log,0,[]⟩
def St.flush(s:St):St:=if s.bs=[] then s else⟨s.m.yh s.last,[],s.mem::s.bls⟩
def St.j8(s:St):St:=if s.m.runs=[] then s else if s.live=[] then⟨s.m.bare,s.bs,[]⟩ else⟨s.m.zh,s.bs,[s.live]⟩
def Man.first:Man:=⟨2,0,1,0,[]⟩
def St.first:St:=⟨Man.first,[],[]⟩
structure sx(l:List Ch):Prop where
 rising:jw l
 some:l≠[]
 allowed:∀ c∈l,allowed c=true
 few:l.length<65536
structure St.Ok(s:St):Prop where
 y7:s.m.Good
 runs:s.m.runs.length<65535
 len:s.bls.length=s.m.settled.length
 bl:∀ l∈s.bls,sx l
 log:∀ b∈s.bs,zq b=true
 cap:s.last<=1000000000
theorem St.Ok.first:St.first.Ok :=
 ⟨by refine⟨by decide,by decide,by decide,by decide⟩,by decide,rfl,fun l h=>(by cases h),fun b h=>(by cases h),by decide⟩
theorem St.Ok.write{s:St}(h:s.Ok)(f:zq b=true)(d:s.last<1000000000):(s.write b).Ok :=
 ⟨h.y7,h.runs,h.len,h.bl,fun x c=>by
  rcases ZA.1 c with c|c
  ·exact h.log x c
  ·rw[zZ.1 c];exact f,by
  show s.m.last+(s.bs++[b]).length<=1000000000
  unfold St.last at d
  rw[zW,ZK]
  omega⟩
theorem Rx{more:List Ch}(h:jw l)(b:x∈over l more):x∈l\/x∈more:=by
 induction more generalizing l with
 | nil=>exact .inl b
 | cons c r ih =>
  have e:over l (c::r)=over (put l c) r:=rfl;rw[e,X3 h] at b;rcases ih (Jq h) b with b|b
  ·rcases Nw b with b|b
   ·exact .inr (b▸zR)
   ·exact .inl b
  ·exact .inr (zQ _ b)
theorem vo(f:x∈memory bs):∃ b∈bs,x∈b:=by
 have H:∀(bs:List (List Ch)) (l:List Ch),jw l->∀ x,x∈bs.foldl over l->x∈l\/∃ b∈bs,x∈b:=by
  intro bs
  induction bs with
  | nil=>intro l _ x h;exact .inl h
  | cons b r ih =>
   intro l d x h;rcases ih _ (ym d) x h with h|⟨c,g,h⟩
   ·rcases Rx d h with h|h
    ·exact .inl h
    ·exact .inr ⟨b,zR,h⟩
   ·exact .inr ⟨c,zQ _ g,h⟩
 rcases H bs [] List.Pairwise.nil x f with h|h
 ·cases h
 ·exact h
theorem uy(c:Ch)(l:List Ch):(ins c l).length<=l.length+1/\l.length<=(ins c l).length/\1<=(ins c l).length:=by
 induction l with
 | nil=>simp[ins]
 | cons x r ih =>
  unfold ins
  split
  ·simp
  ·split
   ·simp
   ·simp only[zH];omega
theorem gw{more:List Ch}(h:jw l):(over l more).length<=l.length+more.length/\l.length<=(over l more).length/\(more≠[]->1<=(over l more).length):=by
 induction more generalizing l with
 | nil=>exact⟨zJ _,zJ _,fun e=>(e rfl).elim⟩
 | cons c r ih =>
  have e:over l (c::r)=over (put l c) r:=rfl;rw[e,X3 h];have d:=ih (Jq (c:=c) h);have b:=uy c l;rw[zH];exact⟨by omega,by omega,fun _=>by omega⟩
theorem Rw(c:∀ b∈bs,zq b=true)(f:bs≠[]):memory bs≠[]:=by
 obtain⟨b,m⟩:=List.exists_mem_of_ne_nil bs f;intro e
 have H:∀(bs:List (List Ch)) (l:List Ch),jw l->(∀ b∈bs,zq b=true)->bs≠[]->1<=(bs.foldl over l).length:=by
  intro bs
  induction bs with
  | nil=>intro l _ _ h;exact(h rfl).elim
  | cons b r ih =>
   intro l g i _;have c:=(Ji b).1 (i b zR);have d:b≠[]:=fun e=>by rw[e] at c;exact absurd c.1 (by decide)
   have j:=(gw (more:=b) g).2.2 d;by_cases hr:r=[]
   ·rw[hr];exact j
   ·exact ih _ (ym g) (fun x hx=>i x (zQ _ hx)) hr
 have:=H bs [] List.Pairwise.nil c f;have k:bs.foldl over []=[]:=e;rw[k] at this;exact absurd this (by decide)
theorem St.Vb{s:St}(h:s.Ok)(f:s.bs≠[])(g:s.mem.length<65536):sx s.mem :=
 ⟨zb _,Rw h.log f,fun c hc=>by
  obtain⟨b,i,d⟩:=vo hc
  exact((Ji b).1 (h.log b i)).2.2 c d,g⟩
theorem Man.J7(m:Man)(last:Nat):(m.yh last).settled=m.next::m.settled:=by
 unfold Man.settled Man.yh
 split<;>rfl
theorem Man.Good.yh{m:Man}(h:m.Good){last:Nat}(j:last<=1000000000)(i:m.next+2<=2000000000)(o:1<=m.next):(m.yh last).Good:=by
 obtain⟨q,p,l,g⟩:=h;have d:∀ n∈m.settled,1<=n/\n<m.next:=fun n c=>l n (ZA.2 (.inl c));refine⟨i,j,?_,?_⟩
 ·intro n c
  unfold Man.numbers at c;rw[Man.J7] at c;show 1<=n/\n<m.next+2;rcases ZA.1 c with c|c
  ·rcases zF.1 c with rfl|c
   ·omega
   ·have:=d n c;omega
  ·have:n=m.next+1:=zZ.1 c
   omega
 ·unfold Man.numbers at g ⊢
  rw[Man.J7];show(m.next::m.settled++[m.next+1]).Nodup;rw[List.nodup_append] at g ⊢;refine⟨XE.2 ⟨fun c=>by have:=d _ c;omega,g.1⟩,by simp,?_⟩;intro a f b k;rw[zZ.1 k];rcases zF.1 f with rfl|f
  ·omega
  ·have:=d a f;omega
theorem St.Ok.flush{s:St}(h:s.Ok)(i:s.mem.length<65536)(g:s.m.next+2<=2000000000)(d:1<=s.m.next)(f:s.m.runs.length+1<65535):s.flush.Ok:=by
 unfold St.flush
 split
 ·exact h
 ·rename_i hb
  refine⟨h.y7.yh h.cap g d,?_,?_,?_,fun b hb=>(by cases hb),?_⟩
  ·show(s.m.next::s.m.runs).length<65535
   simpa using f
  ·show(s.mem::s.bls).length=_
   rw[Man.J7,zH,zH,h.len]
  ·intro l c
   rcases zF.1 c with rfl|c
   ·exact St.Vb h hb i
   ·exact h.bl l c
  ·exact h.cap
theorem Bm(l:List Ch):∀ c∈there l,c∈l:=fun c hc=>(ZD.1 hc).1
theorem Hl{ls:List (List Ch)}(h:∀ l∈ls,jw l)(b:x∈merged ls):∃ l∈ls,x∈l:=by
 induction ls with
 | nil=>cases b
 | cons l r ih =>
  rw[Xv] at b;rcases Rx (yr r) b with b|b
  ·obtain⟨a,d,c⟩:=ih (fun y hy=>h y (zQ _ hy)) b
   exact⟨a,zQ _ d,c⟩
  ·exact⟨l,zR,b⟩
theorem Li(ls:List (List Ch)):(merged ls).length<=(ls.map List.length).sum:=by
 induction ls with
 | nil=>simp[merged]
 | cons l r ih =>
  rw[Xv,zP,List.sum_cons];have:=(gw (more:=l) (yr r)).1;omega
theorem St.jai{s:St}(h:s.Ok)(f:s.live≠[])(b:s.live.length<65536):sx s.live :=
 ⟨Xj (yr _) _,f,fun c hc=>by
  obtain⟨l,g,d⟩:=Hl (fun l b=>(h.bl l b).rising) (Bm _ c hc)
  exact(h.bl l g).allowed c d,b⟩
theorem Man.Good.log{m:Man}(h:m.Good):1<=m.log/\m.log<m.next:=h.2.2.1 m.log (ZA.2 (.inr (zZ.2 rfl)))
theorem Man.Good.zh{m:Man}(h:m.Good)(d:m.next+1<=2000000000):m.zh.Good:=by
 have g:=h.log;obtain⟨k,f,j,i⟩:=h;have c:¬m.next=0:=by omega
 have e:m.zh.numbers=[m.next,m.log]:=by
  unfold Man.numbers Man.settled Man.zh;simp[c]
 refine⟨d,f,?_,?_⟩
 ·intro n b
  rw[e] at b;show 1<=n/\n<m.next+1;rcases zF.1 b with rfl|b
  ·omega
  ·rw[zZ.1 b];omega
 ·rw[e]
  simp;omega
theorem Man.Good.bare{m:Man}(h:m.Good):m.bare.Good:=by
 have c:=h.log;obtain⟨f,d,i,g⟩:=h
 have e:m.bare.numbers=[m.log]:=by
  unfold Man.numbers Man.settled Man.bare;simp
 refine⟨f,d,?_,?_⟩
 ·intro n b
  rw[e] at b;rw[zZ.1 b];exact c
 ·rw[e];simp
theorem Man.br{m:Man}(h:1<=m.next):m.zh.settled=[m.next]:=by
 unfold Man.settled Man.zh;have:¬m.next=0:=by omega
 simp[this]
theorem Man.ng(m:Man):m.bare.settled=[]:=by simp[Man.settled,Man.bare]
theorem St.Ok.j8{s:St}(h:s.Ok)(c:s.live.length<65536)(b:s.m.next+1<=2000000000):s.j8.Ok:=by
 have d:=h.y7.log;unfold St.j8
 split
 ·exact h
 ·split
  ·exact⟨h.y7.bare,ZM _,by show _=s.m.bare.settled.length;rw[Man.ng];rfl,fun l hm=>(by cases hm),h.log,h.cap⟩
  ·rename_i hb
   refine⟨h.y7.zh b,ZM _,by show _=s.m.zh.settled.length;rw[Man.br (by omega)];rfl,fun l hm=>?_,h.log,h.cap⟩;rw[zZ.1 hm];exact St.jai h hb c
theorem bg(h:jw l)(k:List UInt8):x8 (there l) k=(x8 l k).filter (fun c=>!c.gone):=by
 induction l with
 | nil=>rfl
 | cons x r ih =>
  have f:=h;unfold jw at h;rw[XD] at h;have b:=ih h.2;rw[q7];by_cases hx:x.key=k
  ·have d:x8 r k=none:=Z7 (fun c hc e=>by have:=h.1 c hc;rw[hx,e] at this;exact ZY _ this)
   rw[d] at b;rw[if_pos hx];by_cases hg:x.gone=true
   ·have e:there (x::r)=there r:=by unfold there;rw[XV (by simp[hg])]
    rw[e,b];simp[Option.filter,hg]
   ·have e:there (x::r)=x::there r:=by unfold there;rw[XW (by simp[hg])]
    rw[e,q7,if_pos hx];simp[Option.filter,hg]
  ·rw[if_neg hx]
   by_cases hg:x.gone=true
   ·have e:there (x::r)=there r:=by unfold there;rw[XV (by simp[hg])]
    rw[e,b]
   ·have e:there (x::r)=x::there r:=by unfold there;rw[XW (by simp[hg])]
    rw[e,q7,if_neg hx,b]
theorem Jb(h:jw l):jw (there l):=Xj h _
theorem Ft(b:jw l)(d:jw m):there (over (there l) m)=there (over l m):=by
 refine ma (Jb (ym (Jb b))) (Jb (ym b)) (fun k=>?_);rw[bg (ym (Jb b)),bg (ym b),fh (Jb b) d,fh b d,bg b]
 cases x8 m k with
 | some c=>rfl
 | none =>
  cases x8 l k with
  | none=>rfl
  | some c=>by_cases hg:c.gone=true<;>simp[Option.filter,hg]
theorem jdh(b:jw l)(d:jw m)(c:Ch):over l (ins c m)=ins c (over l m):=by
 refine ma (ym b) (Jq (ym b)) (fun k=>?_);rw[fh b (Jq d),tw d,tw (ym b),fh b d]
 split<;>rfl
theorem jbc(f:jw l)(d:jw m)(b:List Ch):over l (over m b)=over (over l m) b:=by
 induction b generalizing m with
 | nil=>rfl
 | cons c r ih =>
  have i:over m (c::r)=over (put m c) r:=rfl;have g:over (over l m) (c::r)=over (put (over l m) c) r:=rfl;rw[i,g,X3 d,X3 (ym f),ih (Jq d),jdh f d]
theorem St.ni(s:St):jw s.all:=yr _
theorem St.jcf(s:St)(b:List Ch):(s.write b).all=over s.all b:=by
 unfold St.all St.mem St.write;rw[Xv,Xv,Cv,jbc (yr _) (zb _)]
theorem St.Mu(s:St):s.flush.all=s.all:=by
 unfold St.flush
 split
 ·rfl
 ·rfl
theorem St.lx{s:St}(h:s.Ok):s.j8.tell=s.tell:=by
 unfold St.j8
 split
 ·rfl
 ·have key:there (over s.live s.mem)=s.tell:=Ft (yr s.bls) (zb _)
  split
  ·rename_i hb
   rw[hb] at key;exact key
  ·rw[<-key]
   show there (over (merged [s.live]) s.mem)=_;rw[U9 (l:=s.live) (Jb (yr _))]
theorem Mp(l:List Ch)(m:Nat)(h:4*m<l.length):(chunks l)[m]?=some ((l.drop (4*m)).take 4):=by
 induction m generalizing l with
 | zero =>
  rw[Da (fun e=>by rw[e] at h;simp at h)];simp
 | succ m ih =>
  rw[Da (fun e=>by rw[e] at h;simp at h),xG,ih _ (by rw[XQ];omega),zU];congr 3;omega
theorem Gy(n:Nat)(c:List (List Ch))(b:List Ch):j2 n (c++[b])=j2 n c++[(n+(c.flatMap j4).length,Jo b)]:=by
 induction c generalizing n with
 | nil=>simp[j2]
 | cons x r ih =>
  rw[xM,j2,j2,ih,xM,ZV,zW,XO]
def ze(l:List Ch)(m:Nat):List UInt8:=((chunks l).take m).flatMap j4
def zi(l:List Ch)(m:Nat):List UInt8:=(j2 0 ((chunks l).take m)).flatMap x9
theorem vd(l:List Ch)(m:Nat)(h:4*m<l.length):ze l (m+1)=ze l m++j4 ((l.drop (4*m)).take 4):=by
 unfold ze;rw[xH,Mp l m h,xO,XT];simp
theorem ak(l:List Ch)(m:Nat)(h:4*m<l.length):zi l (m+1)=(zi l m++big (ze l m).length 4)++text (Jo ((l.drop (4*m)).take 4)):=by
 unfold zi ze;rw[xH,Mp l m h,xO,Gy,XT];simp[x9]
theorem pz(l:List Ch):j7 l=(ze l ((l.length+3)/4)++frame (big ((l.length+3)/4) 2++zi l ((l.length+3)/4)))++big (ze l ((l.length+3)/4)).length 4:=by
 unfold j7 zz ze zi;rw[<-ar,xR]
theorem Bc(h:∀ c∈b,allowed c=true)(d:b.length<=4):(j4 b).length<=245:=by
 have:=Y3 h;unfold j4 frame;simp only[zW,js];omega
theorem Ym(h:∀ c∈l,allowed c=true)(m:Nat):(ze l m).length<=245*m:=by
 unfold ze
 have H:∀ f:List (List Ch),(∀ b∈f,(j4 b).length<=245)->(f.flatMap j4).length<=245*f.length:=by
  intro f
  induction f with
  | nil=>intro _;simp
  | cons b r ih =>
   intro d;have i:=d b zR;have g:=ih (fun x hx=>d x (zQ _ hx));rw[ZV,zW,zH];omega
 have i:=H ((chunks l).take m) (fun b d=>Bc (fun c hc=>h c (I5 (zM d) c hc)) (I6 (zM d)).2);have g:((chunks l).take m).length<=m:=by rw[zK];omega
 exact ZI i (Nat.mul_le_mul_left _ g)
theorem bu(h:∀ c∈l,allowed c=true)(m:Nat)(d:4*m<l.length+4):(zi l m).length<=21*m:=by
 induction m with
 | zero=>simp[zi,j2]
 | succ m ih =>
  have g:=ih (by omega);rw[ak l m (by omega)]
  have f:(Jo ((l.drop (4*m)).take 4)).length<=16:=by
   unfold Jo
   cases hh:((l.drop (4*m)).take 4).head? with
   | none=>simp
   | some c =>
    have b:=h c (XX (zM (List.mem_of_mem_head? (by rw[hh];exact rfl))));have:=(Jk c).1 b;simp;omega
  simp only[zW,js,text];omega
theorem Dn(h:∀ c∈l,allowed c=true):(j7 l).length<=67*l.length+300:=by
 rw[pz];have d:=Ym h ((l.length+3)/4);have b:=bu h ((l.length+3)/4) (by omega);simp only[zW,js,frame];omega
end Go.Proofs.YtnipbplghijdmaaGreatDoor.Rf

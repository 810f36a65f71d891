/-
  S: FindB Get Check StoreC StoreD WriteA Whole Run3.
-/
import Derived.Test.YtnipbplghijdmaaGreatDoorS26
set_option maxRecDepth 100000
set_option maxHeartbeats 8000000
set_option linter.unusedVariables false
set_option linter.unusedSimpArgs false
namespace Go.Proofs.YtnipbplghijdmaaGreatDoor
open RowKit Maps WideShapes Go.Shelf Go.Proofs.Tryz
attribute [local go_sem] Oper.semAt_some
theorem jcm{P:jh->Prop}{E:Nat->Addr}{B:Nat}{ρ:Nat->jz}{d:Nat}{S:jh}{w:World}(D:Dk E B w ρ d S)(Z:P S)(lv:Value)(fs:List Value)(q:List Jh)(key:Str)(bh:ig w lv fs)(b4:fs≠[]->∀ p n c,lv = .slice (some p) n c->¬j5 ρ p.block)(b5:fs.length=q.length)(hl:fs.length<524288)(hG:∀(k:Nat) f st,fs[k]?=some f->q[k]?=some st->Bk P E B ρ d w f st) :
 Calls prog 75 #[lv,jd key] w (jde P E B ρ d w (zx key q S)):=by
 obtain⟨lp,lc,rfl,h1,h2,h3,h4⟩:=id bh;have da:=jb bh;have b7:=jb b5;have HG:=jb hG;have cr:=jb b4;have hρ:=D.rep.lt;have ee:=D.size;have nT:∀ i,w.heap.size<=i->¬j5 ρ i:=fun i hi h=>by have:=hρ i h;omega
 obtain⟨wA,T⟩:∃ wA,wA=(((w.alloc (.cells #[jd key] 9)).alloc (.cells #[jd [],jd [],.bool false] 88)).alloc (.cells #[.bool false] 4)).alloc (.cells #[.nilIface] 128):=⟨_,rfl⟩;have kA:ja w wA (fun _=>False):=by rw[T];exact(((ja.alloc w _ _).more _).more _).more _
 have sA:wA.heap.size=w.heap.size+1+1+1+1:=by rw[T];simp
 have y0:wA.heap[w.heap.size]?=some (.cells #[jd key] 9 (0,0)):=by
  rw[T];exact(((ja.alloc _ _ (fun _=>False)).more _).more _).same (je w _) id
 have y1:wA.heap[w.heap.size+1]?=some (.cells #[jd [],jd [],.bool false] 88 (0,0)):=by
  rw[T];have:=je (w.alloc (.cells #[jd key] 9)) (.cells #[jd [],jd [],.bool false] 88);rw[xO] at this;exact((ja.alloc _ _ (fun _=>False)).more _).same this id
 have y2:wA.heap[w.heap.size+1+1]?=some (.cells #[.bool false] 4 (0,0)):=by
  rw[T];have:=je ((w.alloc (.cells #[jd key] 9)).alloc (.cells #[jd [],jd [],.bool false] 88)) (.cells #[.bool false] 4);rw[xO,xO] at this;exact(ja.alloc _ _ (fun _=>False)).same this id
 have y3:wA.heap[w.heap.size+1+1+1]?=some (.cells #[.nilIface] 128 (0,0)):=by
  rw[T];have:=je (((w.alloc (.cells #[jd key] 9)).alloc (.cells #[jd [],jd [],.bool false] 88)).alloc (.cells #[.bool false] 4)) (.cells #[.nilIface] 128);rw[xO,xO,xO] at this;exact this
 clear h3 h4 bh hG b4 b5;have HY:Hid (wA.heap[w.heap.size]?=some (.cells #[jd key] 9 (0,0))/\wA.heap[w.heap.size+1]?=some (.cells #[jd [],jd [],.bool false] 88 (0,0))/\wA.heap[w.heap.size+1+1]?=some (.cells #[.bool false] 4 (0,0))/\wA.heap[w.heap.size+1+1+1]?=some (.cells #[.nilIface] 128 (0,0))):=⟨y0,y1,y2,y3⟩;clear y0 y1 y2 y3;refine(callsIn_wide (n:=9)).1 ?_;refine callsIn_of_wp_marks func75 rfl trivial ?_ rfl;simp only[ntmps75,xP,zX,xU,Nat.reduceAdd,Nat.reduceSub,xV,xW,xX,xY,xZ,xE]
 gi_wp2
 rw[<-T]
 refine wpIn_loop (fun a W=>∃(k:Nat) (Y:jh) (Ds:List Nat) (u8 u14 u15 u16 u17 u29:Value),a={ tmps:=#[.slice lp fs.length lc,jd key,undef,.pointer (some ⟨w.heap.size,0,none⟩),.pointer (some ⟨w.heap.size+1,0,none⟩),.pointer (some ⟨w.heap.size+1+1,0,none⟩),.pointer (some ⟨w.heap.size+1+1+1,0,none⟩),undef,u8,undef,undef,.slice lp fs.length lc,ju fs.length,ju k,u14,u15,u16,u17,undef,undef,undef,undef,undef,undef,undef,undef,undef,undef,undef,u29,undef],defers:=marks Ds }/\k<=fs.length/\Dk E B W ρ d Y/\P Y/\Hid (zx key q S=zx key (q.drop k) Y)/\(W.heap[w.heap.size]?=some (.cells #[jd key] 9 (0,0))/\W.heap[w.heap.size+1]?=some (.cells #[jd [],jd [],.bool false] 88 (0,0))/\W.heap[w.heap.size+1+1]?=some (.cells #[.bool false] 4 (0,0))/\W.heap[w.heap.size+1+1+1]?=some (.cells #[.nilIface] 128 (0,0)))/\ja w W (j5 ρ)/\Jg W Ds/\(∀ D∈Ds,w.heap.size+4<=D))
  (fun a _=>fs.length-(intOf (a.tmps.getD 13 undef)).toNat) ?_ ?_
 ·exact⟨0,S,[],_,_,_,_,_,_,rfl,zU _,D.same kA,Z,rfl,HY.out,kA.up,Jg.nil _,fun D h=>by cases h⟩
 ·rintro a W ⟨k,Y,Ds,u8,u14,u15,u16,u17,u29,rfl,m,cp,Zk,t,cd,ak,be,s⟩
  dsimp only;rcases ZJ k fs.length with bf|l
  ·obtain⟨f,hf⟩:∃ f,fs[k]?=some f:=⟨_,zL bf⟩
   obtain⟨st,bb⟩:∃ st,q[k]?=some st:=⟨_,zL (by have:=b7.out;omega)⟩;obtain⟨Z1,gf,rv,lb,Needs,Start,rfl,d5,b2,hN,d7⟩:=HG.out k f st hf bb W Y ak cp Zk;have ap:ig W (.slice lp fs.length lc) fs:=da.out.keep ak (fun h p n c e=>cr.out h p n c e);obtain⟨b,o,rfl,e0⟩:=ap.at hf;obtain⟨g0,I,z,u⟩:=cd;have ea:=ak.size;have eb:=zC u;have b3:=jb bb;have co:=jb b2;have ef:=jb hf;have HB:Hid (W.heap[w.heap.size]?=some (.cells #[jd key] 9 (0,0))/\W.heap[w.heap.size+1]?=some (.cells #[jd [],jd [],.bool false] 88 (0,0))/\W.heap[w.heap.size+1+1]?=some (.cells #[.bool false] 4 (0,0))/\W.heap[w.heap.size+1+1+1]?=some (.cells #[.nilIface] 128 (0,0))):=⟨g0,I,z,u⟩;have dp:(k:Int)<(fs.length:Int):=by omega
   obtain⟨LL,bj⟩:∃ LL,LL=(st Y).2.1:=⟨_,rfl⟩;obtain⟨LE,bk⟩:∃ LE,LE=(st Y).2.2:=⟨_,rfl⟩;rw[<-bj,<-bk] at b2;have co:=jb b2;have al:=jb bj;have cn:=jb bk;have v:∀ D∈Ds,D<W.heap.size:=fun D h=>zC (be.2 D h);clear g0 I z u bb b2 hf bj bk ap T sA
   gi_wp2
   refine aw rfl (by decide) (gf:=gf) (rv:=rv) (lb:=lb) rfl trivial d5 (co.out 8) (fun _=>rfl) (fun i h=>by have:=hρ i h;omega) (fun i h=>by have:=hN i h;omega) d7
    (fun aa C W'=>aa=[]/\(W'.heap[w.heap.size]?=some (.cells #[jd key] 9 (0,0))/\W'.heap[w.heap.size+1]?=some (.cells #[jd [],jd [],.bool false] 88 (0,0))/\W'.heap[w.heap.size+1+1]?=some (.cells #[.bool false] 4 (0,0))/\W'.heap[w.heap.size+1+1+1]?=some (.cells #[.nilIface] 128 (0,0)))/\ja w W' (j5 ρ)/\Jg W' Ds/\(∀ i,C i↔i=w.heap.size+1\/i=w.heap.size+1+1\/i=w.heap.size+1+1+1))
    (fun c aa C W'=>ja w W' (j5 ρ)/\Jg W' Ds/\(∀ i,C i↔i=w.heap.size+1\/i=w.heap.size+1+1\/i=w.heap.size+1+1+1) /\
    ((c = .ret/\∃ X r0,LL=X::r0/\X.key=key/\W'.heap[w.heap.size+1]?=some (.cells #[jd X.key,jd X.value,.bool X.gone] 88 (0,0))/\W'.heap[w.heap.size+1+1]?=some (.cells #[.bool true] 4 (0,0))/\W'.heap[w.heap.size+1+1+1]?=some (.cells #[.nilIface] 128 (0,0))) \/
     (c = .ret/\∃ bad ev,LL=[]/\LE=some bad/\mx E W' ev bad/\W'.heap[w.heap.size+1]?=some (.cells #[jd [],jd [],.bool false] 88 (0,0))/\W'.heap[w.heap.size+1+1]?=some (.cells #[.bool false] 4 (0,0))/\W'.heap[w.heap.size+1+1+1]?=some (.cells #[ev] 128 (0,0))) \/
     (c = .exit 2/\(∃ X r0,LL=X::r0/\X.key≠key)/\(W'.heap[w.heap.size]?=some (.cells #[jd key] 9 (0,0))/\W'.heap[w.heap.size+1]?=some (.cells #[jd [],jd [],.bool false] 88 (0,0))/\W'.heap[w.heap.size+1+1]?=some (.cells #[.bool false] 4 (0,0))/\W'.heap[w.heap.size+1+1+1]?=some (.cells #[.nilIface] 128 (0,0))))))
    ?hI ?hIx (fun i=>i=w.heap.size+1\/i=w.heap.size+1+1\/i=w.heap.size+1+1+1) ?hC0 ?h0 ?round ?done ?stop
   case hI =>
    rintro aa C A B' ⟨rfl,⟨g0,I,z,u⟩,H,G,hC⟩ m
    have out:∀ i,w.heap.size<=i->i<W.heap.size->¬(j5 ρ i\/(W.heap.size<=i/\¬C i)):=by
     rintro i h1 h2 (h3|⟨h3,h4⟩)
     ·exact nT i h1 h3
     ·omega
    refine⟨rfl,⟨ja.same m g0 (out _ (by omega) (by omega)),ja.same m I (out _ (by omega) (by omega)),ja.same m z (out _ (by omega) (by omega)),ja.same m u (out _ (by omega) (by omega))⟩,H.trans m (fun i hi h=>?_),G.keep m (fun D V=>out D (by have:=s D V;omega) (v D V)),hC⟩;rcases h with h|⟨h,_⟩
    ·exact h
    ·omega
   case hIx =>
    rintro c aa C A B' F r ⟨H,G,hC,bc⟩ bg ec hr m;have j:∀ i,i<W.heap.size->¬i=F:=fun i hi=>by omega
    refine⟨H.trans m (fun i hi e=>by omega),G.keep m (fun D V=>j D (v D V)),hC,?_⟩;rcases bc with⟨rfl,X,r0,e1,e2,I,z,u⟩|⟨rfl,bad,ev,e1,e2,e3,I,z,u⟩|⟨rfl,e1,g0,I,z,u⟩
    ·exact .inl ⟨rfl,X,r0,e1,e2,m.same I (j _ (by omega)),m.same z (j _ (by omega)),m.same u (j _ (by omega))⟩
    ·obtain⟨g,he,hg⟩:=e3
     exact .inr (.inl ⟨rfl,bad,ev,e1,e2,⟨g,he.keep m (fun i c e hc=>by rw[e,hr] at hc;cases hc),hg⟩,m.same I (j _ (by omega)),m.same z (j _ (by omega)),m.same u (j _ (by omega))⟩)
    ·exact .inr (.inr ⟨rfl,e1,m.same g0 (j _ (by omega)),m.same I (j _ (by omega)),m.same z (j _ (by omega)),m.same u (j _ (by omega))⟩)
   case hC0 =>
    rintro i (h|h|h)
    all_goals exact⟨by omega,nT i (by omega),fun h=>by have:=hN i h;omega⟩
   case h0=>exact⟨rfl,HB.out,ak,be,fun _=>Iff.rfl⟩
   case round =>
    rintro F aa x C W1 bg ⟨rl,c9⟩ cb bi ⟨rfl,⟨g0,I,z,u⟩,H,G,hC⟩ cq;have dq:=zC c9;have j:∀ i,i<W.heap.size->¬i=F:=fun i hi=>by omega
    rcases cq with⟨k0,c,e,b1,rfl⟩|⟨bad,he,e,c8,b0⟩
    ·obtain⟨r0,ca⟩:∃ r0,LL=c::r0:=by
      have ed:=(XA.1 b1).1
      have:k0=0:=by
       have:=congrArg List.length e;simp at this;omega
      subst this
      cases LL with
      | nil=>cases b1
      | cons a r=>cases b1;exact⟨r,rfl⟩
     have cm:=jb ca
     clear e b1 ca
     obtain⟨ck,cv,cg⟩:=c
     dsimp only[encI,zk]
     gi_wp2
     refine⟨ja.alloc W1 _ _,?_⟩
     intro J k2 _
     have ka:ja W1 J (fun i=>i=F):=((ja.alloc W1 _ (fun _=>False)).up).tt k2
     have hb:=k2.same (je W1 _) (by omega)
     obtain⟨q0,q1,q2,_,_,_⟩:=xq hb
     have bl:=ka.same g0 (j _ (by omega))
     have a4:=ka.same I (j _ (by omega))
     have M:=ka.same z (j _ (by omega))
     have L:=ka.same u (j _ (by omega))
     have a0:=zA (o:=0) bl
     obtain⟨cl,cj,ci,ch,cf,ce⟩:=xq a4
     have a2:=zA (o:=0) M
     have f2:=zB (o:=0) M
     have a3:=zA (o:=0) L
     have f3:=zB (o:=0) L
     simp at a0 a2 a3
     have a5:Jg J Ds:=G.keep ka (fun D V=>j D (v D V))
     have a6:ja w J (j5 ρ):=H.trans ka (fun i hi e=>by omega)
     have d2:W1.heap.size+1<=J.heap.size:=by have:=k2.size;simpa using this
     have H0:=jb bl
     have H1:=jb a4
     have H2:=jb M
     have H3:=jb L
     have HC:=jb hC
     clear g0 I z u bl a4 M L hb hC
     by_cases hck:ck=key
     ·subst hck
      have d6:(ck==ck)=true:=by simp
      gi_wp2
      have k1:=Yk J (w.heap.size+1) (jd ck) (jd cv) (.bool cg);have a1:=ja.setCell (((J.setCell ⟨w.heap.size+1,0,none⟩ (jd ck)).setCell ⟨w.heap.size+1,1,none⟩ (jd cv)).setCell ⟨w.heap.size+1,2,none⟩ (.bool cg)) ⟨w.heap.size+1+1,0,none⟩ (.bool true);have k3:=ja.setCell ((((J.setCell ⟨w.heap.size+1,0,none⟩ (jd ck)).setCell ⟨w.heap.size+1,1,none⟩ (jd cv)).setCell ⟨w.heap.size+1,2,none⟩ (.bool cg)).setCell ⟨w.heap.size+1+1,0,none⟩ (.bool true)) ⟨w.heap.size+1+1+1,0,none⟩ .nilIface;have kk:ja J (((((J.setCell ⟨w.heap.size+1,0,none⟩ (jd ck)).setCell ⟨w.heap.size+1,1,none⟩ (jd cv)).setCell ⟨w.heap.size+1,2,none⟩ (.bool cg)).setCell ⟨w.heap.size+1+1,0,none⟩ (.bool true)).setCell ⟨w.heap.size+1+1+1,0,none⟩ .nilIface) (fun i=>i=w.heap.size+1\/i=w.heap.size+1+1\/i=w.heap.size+1+1+1):=((k1.mono (fun _ _ h=> .inl h)).trans a1 (fun _ _ h=> .inr (.inl h))).trans k3 (fun _ _ h=> .inr (.inr h));refine⟨C,fun i h=> .inl h,fun i h=>zT (bi i h) (ZF (by omega:W1.heap.size<=J.heap.size) kk.size),kk.mono (fun i _ h=>(HC.out i).2 h),a6.trans kk (fun i hi h=>by omega),a5.keep kk (fun D V h=>by have:=s D V;omega),HC.out,.inl ⟨rfl,_,r0,cm.out,rfl,?_,?_,?_⟩⟩
      ·exact k3.same (a1.same (lq (k:=ck) (x:=cv) (y:=cg) H1.out) (by simp<;>omega)) (by simp<;>omega)
      ·exact(k3.same (jc (o:=0) (k1.same H2.out (by simp<;>omega)) (.bool true)) (by simp<;>omega)).trans rfl
      ·exact(jc (o:=0) (a1.same (k1.same H3.out (by simp<;>omega)) (by simp<;>omega)) .nilIface).trans rfl
     ·have d6:(ck==key)=false:=by simp[hck]
      gi_wp2
      exact⟨C,fun i h=> .inl h,fun i h=>zT (bi i h) (by omega),ja.refl _ _,a6,a5,HC.out,.inr (.inr ⟨rfl,⟨_,r0,cm.out,hck⟩,H0.out,H1.out,H2.out,H3.out⟩)⟩
    ·obtain⟨x1,ev⟩:=x
     simp only at c8 b0;subst c8;obtain⟨tv,av,rfl⟩:=b0.shape
     have cc:LL=[]:=by
      cases LL with
      | nil=>rfl
      | cons a r=>simp at e
     have d8:=jb cc;have d9:=jb he;clear e cc he;dsimp only[encI,bn]
     gi_wp2
     refine⟨ja.alloc W1 _ _,?_⟩;intro J k2 _;have ka:ja W1 J (fun i=>i=F):=((ja.alloc W1 _ (fun _=>False)).up).tt k2;have G1:=jb I;have G2:=jb z;have G3:=jb u;have a4:=ka.same I (j _ (by omega));have M:=ka.same z (j _ (by omega));have L:=ka.same u (j _ (by omega));obtain⟨cl,cj,ci,ch,cf,ce⟩:=xq a4;have a2:=zA (o:=0) M;have f2:=zB (o:=0) M;have a3:=zA (o:=0) L;have f3:=zB (o:=0) L;simp at a2 a3;have a5:Jg J Ds:=G.keep ka (fun D V=>j D (v D V));have a6:ja w J (j5 ρ):=H.trans ka (fun i hi e=>by omega);have d2:W1.heap.size+1<=J.heap.size:=by have:=k2.size;simpa using this
     have H1:=jb a4;have H2:=jb M;have H3:=jb L;have HC:=jb hC;have HX:=jb b0;clear g0 I z u a4 M L hC b0
     gi_wp2
     have k1:=Yk J (w.heap.size+1) (jd []) (jd []) (.bool false);have a1:=ja.setCell (((J.setCell ⟨w.heap.size+1,0,none⟩ (jd [])).setCell ⟨w.heap.size+1,1,none⟩ (jd [])).setCell ⟨w.heap.size+1,2,none⟩ (.bool false)) ⟨w.heap.size+1+1,0,none⟩ (.bool false);have k3:=ja.setCell ((((J.setCell ⟨w.heap.size+1,0,none⟩ (jd [])).setCell ⟨w.heap.size+1,1,none⟩ (jd [])).setCell ⟨w.heap.size+1,2,none⟩ (.bool false)).setCell ⟨w.heap.size+1+1,0,none⟩ (.bool false)) ⟨w.heap.size+1+1+1,0,none⟩ (.iface tv (.pointer (some av)));have kk:ja J (((((J.setCell ⟨w.heap.size+1,0,none⟩ (jd [])).setCell ⟨w.heap.size+1,1,none⟩ (jd [])).setCell ⟨w.heap.size+1,2,none⟩ (.bool false)).setCell ⟨w.heap.size+1+1,0,none⟩ (.bool false)).setCell ⟨w.heap.size+1+1+1,0,none⟩ (.iface tv (.pointer (some av)))) (fun i=>i=w.heap.size+1\/i=w.heap.size+1+1\/i=w.heap.size+1+1+1):=((k1.mono (fun _ _ h=> .inl h)).trans a1 (fun _ _ h=> .inr (.inl h))).trans k3 (fun _ _ h=> .inr (.inr h));refine⟨C,fun i h=> .inl h,fun i h=>zT (bi i h) (ZF (by omega:W1.heap.size<=J.heap.size) kk.size),kk.mono (fun i _ h=>(HC.out i).2 h),a6.trans kk (fun i hi h=>by omega),a5.keep kk (fun D V h=>by have:=s D V;omega),HC.out,.inr (.inl ⟨rfl,bad,.iface tv (.pointer (some av)),d8.out,d9.out,?_,?_,?_,?_⟩)⟩
     ·obtain⟨g,hg,d4⟩:=HX.out
      have kw:ja W1 (((((J.setCell ⟨w.heap.size+1,0,none⟩ (jd [])).setCell ⟨w.heap.size+1,1,none⟩ (jd [])).setCell ⟨w.heap.size+1,2,none⟩ (.bool false)).setCell ⟨w.heap.size+1+1,0,none⟩ (.bool false)).setCell ⟨w.heap.size+1+1+1,0,none⟩ (.iface tv (.pointer (some av)))) (fun i=>i=F\/i=w.heap.size+1\/i=w.heap.size+1+1\/i=w.heap.size+1+1+1):=(ka.mono (fun _ _ h=> .inl h)).trans kk (fun _ _ h=> .inr h);refine⟨g,hg.keep kw (fun i c h hc=>?_),d4⟩;rcases h with h|h|h|h
      ·rw[h,c9] at hc;cases hc
      ·rw[h,G1.out] at hc;cases hc
      ·rw[h,G2.out] at hc;cases hc
      ·rw[h,G3.out] at hc;cases hc
     ·exact k3.same (a1.same (lq (k:=[]) (x:=[]) (y:=false) H1.out) (by simp<;>omega)) (by simp<;>omega)
     ·exact(k3.same (jc (o:=0) (k1.same H2.out (by simp<;>omega)) (.bool false)) (by simp<;>omega)).trans rfl
     ·exact(jc (o:=0) (a1.same (k1.same H3.out (by simp<;>omega)) (by simp<;>omega)) _).trans rfl
   case done =>
    rintro R F C xs J W3 V bg j d3 cb ⟨DK,b6⟩ m ⟨rfl,U,H,G,hC⟩ hK
    have bd:LL=[]/\LE=none:=by
     rcases b6 with⟨h1,h2⟩|⟨bad,ev,h1,_,h2⟩
     ·cases LL with
      | nil=>exact⟨rfl,h1⟩
      | cons c r=>simp at h2
     ·have:=congrArg List.length h2
      simp at this
    have aj:=B6 (key:=key) (S:=Y) b3.out (fun c r e=>by rw[<-al.out,bd.1] at e;cases e) (fun _=>by rw[<-cn.out];exact bd.2);have bm:Hid (zx key q S=zx key (q.drop (k+1)) (st Y).1):=by unfold Hid;rw[t.out];exact aj
    have N:=DK.apart m (fun i hi e=>by rw[e];exact⟨nT F (by omega),by omega⟩);have am:R∉Ds:=fun h=>by have:=v R h;omega
    have ao:=jb U;have bo:=jb hK;have an:=jb N;clear bd aj b6 DK N U hK
    gi_wp2
    refine⟨⟨k+1,(st Y).1,R::Ds,_,_,_,_,_,_,rfl,bf,an.out,Z1,bm,ao.out,H,G.cons bo.out am,fun E hE=>?_⟩,?_⟩
    ·rcases zH.1 hE with rfl|hE
     ·omega
     ·exact s E hE
    ·simp[intOf]
     omega
   case stop =>
    rintro R F C c aa J W3 V bg j d3 cb DK m ⟨H,G,hC,bc⟩ hK;rcases bc with⟨rfl,X,r0,e1,e2,I,z,u⟩|⟨rfl,bad,ev,e1,e2,e3,I,z,u⟩|⟨rfl,⟨X,r0,e1,e2⟩,U⟩
    ·have ab:Jg W3 (R::Ds):=G.cons hK (fun h=>by have:=v R h;omega)
     have N:=DK.apart m (fun i hi e=>by rw[e];exact⟨nT F (by omega),by omega⟩)
     have l:∀ i,i∈R::Ds->w.heap.size+4<=i:=fun i h=>by
      rcases zH.1 h with rfl|h
      ·omega
      ·exact s i h
     have O:=Xj W3 (R::Ds);have z1:=O.same I (fun h=>by have:=l _ h;omega);have z2:=O.same z (fun h=>by have:=l _ h;omega);have z3:=O.same u (fun h=>by have:=l _ h;omega);have eF:zx key q S=((st Y).1,.inl (some X)):=by rw[t.out];exact S0 b3.out (by rw[<-al.out];exact e1) e2
     gi_wp2
     refine Yi (Ds:=R::Ds) (by simp) ab ?_;refine⟨.tuple #[chV X,.bool true,.nilIface],kf (c:=X) rfl rfl rfl rfl z1 z2 z3,?_⟩;rw[eF];refine⟨H.trans O (fun i hi h=>by have:=l i h;omega),N.apart O (fun i hi h=>⟨nT i (by have:=l i h;omega),by have:=l i h;omega⟩),Z1,.inl ⟨X,rfl,rfl⟩⟩
    ·have ab:Jg W3 (R::Ds):=G.cons hK (fun h=>by have:=v R h;omega)
     have N:=DK.apart m (fun i hi e=>by rw[e];exact⟨nT F (by omega),by omega⟩)
     have l:∀ i,i∈R::Ds->w.heap.size+4<=i:=fun i h=>by
      rcases zH.1 h with rfl|h
      ·omega
      ·exact s i h
     have O:=Xj W3 (R::Ds);have z1:=O.same I (fun h=>by have:=l _ h;omega);have z2:=O.same z (fun h=>by have:=l _ h;omega);have z3:=O.same u (fun h=>by have:=l _ h;omega);have eF:zx key q S=((st Y).1,.inr bad):=by rw[t.out];exact S8 b3.out (by rw[<-al.out];exact e1) (by rw[<-cn.out];exact e2)
     gi_wp2
     refine Yi (Ds:=R::Ds) (by simp) ab ?_;refine⟨.tuple #[chV bn,.bool false,ev],kf (c:=bn) rfl rfl rfl rfl z1 z2 z3,?_⟩;rw[eF];refine⟨H.trans O (fun i hi h=>by have:=l i h;omega),N.apart O (fun i hi h=>⟨nT i (by have:=l i h;omega),by have:=l i h;omega⟩),Z1,.inr (.inr ⟨bad,ev,rfl,rfl,?_⟩)⟩;obtain⟨g,he,hg⟩:=e3;refine⟨g,he.keep O (fun i c h hc=>?_),hg⟩;rw[ab.2 i h] at hc;cases hc
    ·have aj:=B6 (key:=key) (S:=Y) b3.out (fun c r e=>by rw[<-al.out,e1] at e;cases e;exact e2) (fun e=>by rw[<-al.out,e1] at e;cases e)
     have bm:Hid (zx key q S=zx key (q.drop (k+1)) (st Y).1):=by unfold Hid;rw[t.out];exact aj
     have N:=DK.apart m (fun i hi e=>by rw[e];exact⟨nT F (by omega),by omega⟩);have am:R∉Ds:=fun h=>by have:=v R h;omega
     have ao:=jb U;have bo:=jb hK;have an:=jb N;clear aj DK N U hK e1 e2
     gi_wp2
     refine⟨⟨k+1,(st Y).1,R::Ds,_,_,_,_,_,_,rfl,bf,an.out,Z1,bm,ao.out,H,G.cons bo.out am,fun E hE=>?_⟩,?_⟩
     ·rcases zH.1 hE with rfl|hE
      ·omega
      ·exact s E hE
     ·simp[intOf]
      omega
  ·obtain rfl:k=fs.length:=by omega
   obtain⟨g0,I,z,u⟩:=cd;obtain⟨cl,cj,ci,ch,cf,ce⟩:=xq I;have a2:=zA (o:=0) z;have f2:=zB (o:=0) z;have a3:=zA (o:=0) u;have f3:=zB (o:=0) u;simp at a2 a3;have H1:=jb I;have H2:=jb z;have H3:=jb u;have HF:=t;clear g0 I z u t
   gi_wp2
   have k1:=Yk W (w.heap.size+1) (jd []) (jd []) (.bool false);have k2:=ja.setCell (((W.setCell ⟨w.heap.size+1,0,none⟩ (jd [])).setCell ⟨w.heap.size+1,1,none⟩ (jd [])).setCell ⟨w.heap.size+1,2,none⟩ (.bool false)) ⟨w.heap.size+1+1,0,none⟩ (.bool false);have k3:=ja.setCell ((((W.setCell ⟨w.heap.size+1,0,none⟩ (jd [])).setCell ⟨w.heap.size+1,1,none⟩ (jd [])).setCell ⟨w.heap.size+1,2,none⟩ (.bool false)).setCell ⟨w.heap.size+1+1,0,none⟩ (.bool false)) ⟨w.heap.size+1+1+1,0,none⟩ .nilIface;have kk:ja W (((((W.setCell ⟨w.heap.size+1,0,none⟩ (jd [])).setCell ⟨w.heap.size+1,1,none⟩ (jd [])).setCell ⟨w.heap.size+1,2,none⟩ (.bool false)).setCell ⟨w.heap.size+1+1,0,none⟩ (.bool false)).setCell ⟨w.heap.size+1+1+1,0,none⟩ .nilIface) (fun i=>i=w.heap.size+1\/i=w.heap.size+1+1\/i=w.heap.size+1+1+1):=((k1.mono (fun _ _ h=> .inl h)).trans k2 (fun _ _ h=> .inr (.inl h))).trans k3 (fun _ _ h=> .inr (.inr h));have ab:Jg (((((W.setCell ⟨w.heap.size+1,0,none⟩ (jd [])).setCell ⟨w.heap.size+1,1,none⟩ (jd [])).setCell ⟨w.heap.size+1,2,none⟩ (.bool false)).setCell ⟨w.heap.size+1+1,0,none⟩ (.bool false)).setCell ⟨w.heap.size+1+1+1,0,none⟩ .nilIface) Ds:=be.keep kk (fun D V h=>by have:=s D V;omega);have O:=Xj (((((W.setCell ⟨w.heap.size+1,0,none⟩ (jd [])).setCell ⟨w.heap.size+1,1,none⟩ (jd [])).setCell ⟨w.heap.size+1,2,none⟩ (.bool false)).setCell ⟨w.heap.size+1+1,0,none⟩ (.bool false)).setCell ⟨w.heap.size+1+1+1,0,none⟩ .nilIface) Ds;have z1:=O.same (k3.same (k2.same (lq (k:=[]) (x:=[]) (y:=false) H1.out) (by simp<;>omega)) (by simp<;>omega)) (fun h=>by have:=s _ h;omega);have z2:=O.same (k3.same (jc (o:=0) (k1.same H2.out (by simp<;>omega)) (.bool false)) (by simp<;>omega)) (fun h=>by have:=s _ h;omega);have z3:=O.same (jc (o:=0) (k2.same (k1.same H3.out (by simp<;>omega)) (by simp<;>omega)) .nilIface) (fun h=>by have:=s _ h;omega);refine Yi (by simp) ab ?_;refine⟨.tuple #[chV bn,.bool false,.nilIface],kf (c:=bn) rfl rfl rfl rfl z1 z2 z3,?_⟩;have c7:ja W (vd (((((W.setCell ⟨w.heap.size+1,0,none⟩ (jd [])).setCell ⟨w.heap.size+1,1,none⟩ (jd [])).setCell ⟨w.heap.size+1,2,none⟩ (.bool false)).setCell ⟨w.heap.size+1+1,0,none⟩ (.bool false)).setCell ⟨w.heap.size+1+1+1,0,none⟩ .nilIface) Ds) (fun i=>(i=w.heap.size+1\/i=w.heap.size+1+1\/i=w.heap.size+1+1+1)\/i∈Ds):=(kk.mono (fun _ _ h=> .inl h)).trans O (fun _ _ h=> .inr h);have eF:zx key q S=(Y,.inl none):=by rw[HF.out,b7.out,List.drop_length];rfl
   rw[eF];refine⟨ak.trans c7 (fun i hi h=>?_),cp.apart c7 (fun i hi h=>?_),Zk,.inr (.inl ⟨rfl,rfl⟩)⟩
   ·rcases h with h|h
    ·omega
    ·have:=s i h
     omega
   ·have l:w.heap.size<=i:=by
     rcases h with h|h
     ·omega
     ·have:=s i h
      omega
    exact⟨nT i l,by omega⟩
end Go.Proofs.YtnipbplghijdmaaGreatDoor
namespace Go.Proofs.YtnipbplghijdmaaGreatDoor
open RowKit Maps WideShapes Go.Shelf Go.Proofs.Tryz
variable {E:Nat->Addr} {B d:Nat} {w:World}
theorem cu.Um{P:jh->Prop}{ns:List Nat}{bls:List (List (List Rf.Ch))}(h:cu P ns bls){ρ:Nat->jz}(g:B<=w.heap.size)(key:Str) :
 ∀(k:Nat) f st,(ns.map (fun n=>Xt d n key))[k]?=some f->(yi bls key)[k]?=some st->Bk P E B ρ d w f st:=by
 intro k f st c b;rw[zJ] at c b
 cases hn:ns[k]? with
 | none=>rw[hn] at c;cases c
 | some n =>
  cases hb:bls[k]? with
  | none=>rw[hb] at b;cases b
  | some bl =>
   rw[hn] at c;rw[hb] at b;cases c;cases b;have i:=h.small bl (XU hb);exact jgt g (h.num n (XU hn)) i.1 (fun S hS=>⟨(h.step S hS).1,(h.step S hS).2,h.file k n bl hn hb S hS⟩)
def Iw:Option Rf.Ch->Str×Bool
 | some c=>if c.gone=true then([],false)else(c.value,true)
 | none=>([],false)
def je1(P:jh->Prop)(E:Nat->Addr)(B:Nat)(ρ:Nat->jz)(d b:Nat)(t:TypeId)(row:Bool->Array Value)(deg:Bool)(G:jh×(Option Rf.Ch ⊕ Bool))(w:World)(e:Ending)(w':World):Prop :=
 ja w w' (fun i=>j5 ρ i\/i=b)/\Dk E B w' ρ d G.1/\P G.1 /\
 ((∃ o,G.2 = .inl o/\e = .returned (.tuple #[jd (Iw o).1,.bool (Iw o).2,.int .i64 0])/\w'.heap[b]?=some (.cells (row deg) t (0,0))) \/
  (∃ bad,G.2 = .inr bad/\e = .returned (.tuple #[jd [],.bool false,.int .i64 1])/\w'.heap[b]?=some (.cells (row true) t (0,0))))
theorem jei{P:jh->Prop}{ρ:Nat->jz}{S:jh}{b:Nat}{t:TypeId}(g:Rf.Man)(rv last O:Value)(mem:List Rf.Ch)(L:Bool)(bls:List (List (List Rf.Ch)))(H:Env E B w)(D:Dk E B w ρ d S)(Z:P S)(R:cu P g.settled bls)(hb:w.heap[b]?=some (.cells (qe (.pointer (some ⟨d,0,none⟩)) (jf g.next) (jf g.last) (jf g.log) (jf g.base) rv last O L false) t (0,0)))(X:¬j5 ρ b)(am:B<=b)(hv:zl w rv g.runs)(hl:g.runs.length<262144)(al:Chs w O mem)(hr:il mem)(a0:∀ p n c,O = .slice (some p) n c->¬j5 ρ p.block/\p.block<w.heap.size)(key:Str) :
 Calls prog 33 #[.pointer (some ⟨b,0,none⟩),jd key] w
  (je1 P E B ρ d b t (fun x=>qe (.pointer (some ⟨d,0,none⟩)) (jf g.next) (jf g.last) (jf g.log) (jf g.base) rv last O x false) L (zx key (Yf (mem.drop (Rf.below mem key))::yi bls key) S) w):=by
 have ba:=x8 g;have z:=l9 d g rv last O mem L false key H hb hv (by omega) R.num al hr.1 hr.2.2;have hρ:=D.rep.lt;have hB:=D.size;have d9:=zA (o:=9) hb;simp at d9;have ak:(mem.drop (Rf.below mem key)).length<1048576:=ZZ (List.drop_sublist _ _).length_le hr.2.2;have C:(g.settled.map (fun n=>Xt d n key)).length=(yi bls key).length:=by simp[R.len]
 have aa:Hid (∀(W:World),B<=W.heap.size->∀(k:Nat) f st,(g.settled.map (fun n=>Xt d n key))[k]?=some f->(yi bls key)[k]?=some st->Bk P E B ρ d W f st):=fun W hW=>R.Um hW key;obtain⟨u,q⟩:∃ u,u=Yf (mem.drop (Rf.below mem key))::yi bls key:=⟨_,rfl⟩;rw[<-q];obtain⟨G,hG⟩:∃ G,G=zx key u S:=⟨_,rfl⟩;rw[<-hG];have HG:=jb hG;clear hG;have J:=jb q;have a9:=jb z;have HB:=jb hb;have ax:=jb C;have a8:=jb a0;clear z hb C q a0;go_enter func33,ntmps33;go_wp2_with fail;refine a9.out.mono ?_;rintro e w1 ⟨U,V,v0,rfl,l,F,I,T⟩;have nT:∀ i,w.heap.size<=i->¬j5 ρ i:=fun i hi h=>by have:=hρ i h;omega
 have s:ig w1 (.slice U (g.settled.length+1) V) (A7 v0::g.settled.map (fun n=>Xt d n key)):=df l (by simp)
 have A:A7 v0::g.settled.map (fun n=>Xt d n key)≠[]->∀ p n c,Value.slice U (g.settled.length+1) V = .slice (some p) n c->¬j5 ρ p.block:=by
  intro _ p n c e;injection e with e;have:=(l.lt p.block (by rw[e];rfl)).1;exact nT _ (by omega)
 have Y:∀ p n c,v0 = .slice (some p) n c->¬j5 ρ p.block/\p.block<w1.heap.size:=by
  intro p n c e;obtain⟨a7,n',c',e1,e2⟩:=I p n c e;rw[<-e2];exact⟨(a8.out a7 n' c' e1).1,zT (a8.out a7 n' c' e1).2 T.size⟩
 have a6:B<=w1.heap.size:=by have:=T.size;omega
 have r:=jcm (D.same T) Z _ (A7 v0::g.settled.map (fun n=>Xt d n key)) u key s A (by rw[J.out];simp[R.len]) (by simp;omega) (fun j f st hf hst=>by
  rw[J.out] at hst
  cases j with
  | zero =>
   cases hf
   cases hst
   exact jgv F ak Y a6
  | succ j=>exact aa.out w1 a6 j f st hf hst)
 rw[<-HG.out] at r;have HF:=jb r;have a5:=T.same HB.out id;have ao:=jb a5;clear r s A Y l F I a5;go_wp2_with fail;refine HF.out.mono ?_;rintro e N ⟨k2,D2,Z2,aj⟩;have a4:=k2.same ao.out X;have kW:ja w N (fun i=>j5 ρ i\/i=b):=(T.up).tt (k2.mono (fun _ _ h=> .inl h));have v:=jb a4;clear a4;rcases aj with⟨c,y,rfl⟩|⟨y,rfl⟩|⟨bad,ev,y,rfl,a1⟩
 ·obtain⟨ck,cv,cg⟩:=c
  have m:=ja.alloc N (.cells #[jd ck,jd cv,.bool cg] 88) (fun _=>False);have M:=jb y;clear y
  cases cg with
  | true =>
   go_wp2;go_ret3;exact⟨kW.trans m (fun _ _ h=>h.elim),D2.same m,Z2,.inl ⟨_,M.out,rfl,m.same v.out id⟩⟩
  | false =>
   go_wp2;go_ret3;exact⟨kW.trans m (fun _ _ h=>h.elim),D2.same m,Z2,.inl ⟨_,M.out,rfl,m.same v.out id⟩⟩
 ·have m:=ja.alloc N (.cells #[jd [],jd [],.bool false] 88) (fun _=>False)
  have M:=jb y;clear y;unfold bn;go_wp2;go_ret3;exact⟨kW.trans m (fun _ _ h=>h.elim),D2.same m,Z2,.inl ⟨_,M.out,rfl,m.same v.out id⟩⟩
 ·obtain⟨te,ae,rfl⟩:=a1.shape
  have m:=ja.alloc N (.cells #[jd [],jd [],.bool false] 88) (fun _=>False);have M:=jb y;clear y a1;have a2:=B8 (m.same v.out id);have an:=jb a2;clear a2;unfold bn;go_wp2_with fail;refine an.out.mono ?_;rintro e w3 ⟨rfl,a3,k3⟩;have H3:=jb a3;clear a3;go_wp2;go_ret3;have k4:ja N w3 (fun i=>i=b):=(m.up).tt k3;exact⟨kW.trans k4 (fun _ _ h=> .inr h),D2.apart k4 (fun i _ e=>by rw[e];exact⟨X,am⟩),Z2,.inr ⟨bad,M.out,rfl,H3.out⟩⟩
end Go.Proofs.YtnipbplghijdmaaGreatDoor
namespace Go.Proofs.YtnipbplghijdmaaGreatDoor
open RowKit Maps WideShapes Go.Shelf Go.Proofs.Tryz
attribute [local go_sem] Oper.semAt_some
variable {w:World} {b:Nat}
def Xr:List Jh->jh->jh×Option Bool
 | [],S=>(S,none)
 | st::r,S =>
  match (st S).2.2 with
  | some bad=>((st S).1,some bad)
  | none=>Xr r (st S).1
theorem ll(b:Jh)(r:List Jh)(S:jh):Xr (b::r) S =
 match (b S).2.2 with
 | some bad=>((b S).1,some bad)
 | none=>Xr r (b S).1:=rfl
theorem Us{α:Type}{l:List α}{k:Nat}{x:α}(h:l[k]?=some x):l.drop k=x::l.drop (k+1):=by
 have b:l[k]'((XA.1 h).1)=x:=(XA.1 h).2;rw[<-b,XC]
def Tw(P:jh->Prop)(E:Nat->Addr)(B:Nat)(ρ:Nat->jz)(d:Nat)(w:World)(G:jh×Option Bool)(e:Ending)(w':World):Prop :=
 ja w w' (j5 ρ)/\Dk E B w' ρ d G.1/\P G.1/\((G.2=none/\e = .returned .nilIface)\/∃ bad ev,G.2=some bad/\e = .returned ev/\mx E w' ev bad)
theorem dr{fn:Func}{x:Tmp}(h:fn.results=#[.cell x 128]){tmps:Array Value}{d:Value}(g:tmps.getD x undef = .pointer (some ⟨b,0,none⟩))(i:w.heap[b]?=some (.cells #[d] 128 (0,0))) :
 (results fn tmps).run prog w = .ok d w:=by
 have f:=Ol i;have c:tmps[x]?.getD undef = .pointer (some ⟨b,0,none⟩):=by simpa using g
 simp[results,h,c,asAddr,f]
theorem I3{P:jh->Prop}{E:Nat->Addr}{B:Nat}{ρ:Nat->jz}{d:Nat}{S:jh}{t:TypeId}(I:Rf.Man)(rv last mv:Value)(bf cl:Bool)(bls:List (List (List Rf.Ch)))(H:Env E B w)(D:Dk E B w ρ d S)(Z:P S)(R:cu P I.settled bls)(hb:w.heap[b]?=some (.cells (qe (.pointer (some ⟨d,0,none⟩)) (jf I.next) (jf I.last) (jf I.log) (jf I.base) rv last mv bf cl) t (0,0)))(hv:zl w rv I.runs)(hl:I.runs.length<262144) :
 Calls prog 179 #[.pointer (some ⟨b,0,none⟩)] w (Tw P E B ρ d w (Xr (yi bls []) S)):=by
 have ce:=x8 I;have kA:=ja.alloc w (.cells #[.nilIface] 128) (fun _=>False);have y0:=je w (.cells #[.nilIface] 128);have L:=Yu d I rv last mv bf cl [] (H.same kA) (kA.same hb id) (hv.same kA) (by omega) R.num;have hρ:=D.rep.lt;have cm:=D.size;have nT:∀ i,w.heap.size<=i->¬j5 ρ i:=fun i hi h=>by have:=hρ i h;omega
 have a3:Hid (∀(W:World),B<=W.heap.size->∀(k:Nat) f V,(I.settled.map (fun n=>Xt d n []))[k]?=some f->(yi bls [])[k]?=some V->Bk P E B ρ d W f V):=fun W hW=>R.Um hW [];have N:Hid (I.settled.length=(yi bls []).length):=by unfold Hid;simp[R.len]
 obtain⟨s,ae⟩:∃ s,s=yi bls []:=⟨_,rfl⟩;obtain⟨fs,aq⟩:∃ fs,fs=I.settled.map (fun n=>Xt d n []):=⟨_,rfl⟩;have ao:fs.length=I.settled.length:=by rw[aq];simp
 rw[<-ae] at a3 N ⊢;rw[<-aq] at a3 L;obtain⟨ns,b7⟩:∃ ns,ns=I.settled.length:=⟨_,rfl⟩;rw[<-b7] at L N ce ao;have bl:=jb L;have HY:=jb y0;have au:=jb ao;clear L y0 ae aq b7 hb ao R;refine(callsIn_wide (n:=9)).1 ?_;refine callsIn_of_wp_marks func179 rfl trivial ?_ rfl;simp only[ntmps179,xP,zX,xU,Nat.reduceAdd,Nat.reduceSub,xV,xW,xX,xY,xZ,xE]
 gi_wp2_with fail
 refine⟨trivial,(callsIn_wide.2 bl.out).mono ?_⟩;rintro e w1 ⟨lp,lc,rfl,Y,k1⟩;have kW:ja w w1 (fun _=>False):=kA.tt k1;have y1:=k1.same HY.out id;have dj:=zC y1;have dl:B<=w1.heap.size:=by omega
 have cs:Hid (ig w1 (.slice lp ns lc) fs):=df Y au.out
 have bm:Hid (∀ p n c,Value.slice lp ns lc = .slice (some p) n c->¬j5 ρ p.block):=by
  intro p n c e;injection e with e;have:=(Y.lt p.block (by rw[e];rfl)).1;simp at this;exact nT _ (by omega)
 have cn:=jb y1;clear Y y1
 gi_wp2
 refine wpIn_loop (fun a W=>∃(k:Nat) (X:jh) (Ds:List Nat) (u4 u11 u12 u13 u14 b3:Value),a={ tmps:=#[.pointer (some ⟨b,0,none⟩),undef,.pointer (some ⟨w.heap.size,0,none⟩),undef,u4,undef,undef,.pointer (some ⟨b,0,none⟩),.slice lp ns lc,ju ns,ju k,u11,u12,u13,u14,undef,undef,undef,undef,undef,b3],defers:=marks Ds }/\k<=ns/\Dk E B W ρ d X/\P X/\Hid (Xr s S=Xr (s.drop k) X)/\W.heap[w.heap.size]?=some (.cells #[.nilIface] 128 (0,0))/\ja w1 W (j5 ρ)/\Jg W Ds/\(∀ D∈Ds,w.heap.size+1<=D))
  (fun a _=>ns-(intOf (a.tmps.getD 10 undef)).toNat) ?_ ?_
 ·exact⟨0,S,[],_,_,_,_,_,_,rfl,zU _,D.same kW,Z,rfl,cn.out,ja.refl _ _,Jg.nil _,fun D h=>by cases h⟩
 ·rintro a W ⟨k,X,Ds,u4,u11,u12,u13,u14,b3,rfl,T,bi,Zk,G,y,M,am,F⟩
  have ba:ja w W (j5 ρ):=(kW.up).tt M;dsimp only;rcases ZJ k ns with cg|v
  ·obtain⟨f,hf⟩:∃ f,fs[k]?=some f:=⟨_,zL (by have:=au.out;omega)⟩
   obtain⟨V,al⟩:∃ V,s[k]?=some V:=⟨_,zL (by have:=N.out;omega)⟩;obtain⟨Z1,gf,cd,lb,Needs,Start,rfl,cj,ap,hN,ck⟩:=a3.out w cm k f V hf al W X ba bi Zk;have a4:ig W (.slice lp ns lc) fs:=cs.out.keep M (fun h p n c e=>bm.out p n c e);have O:ig W (.slice lp fs.length lc) fs:=by rw[au.out];exact a4
   obtain⟨bb,o,rfl,e0⟩:=O.at hf;have di:=M.size;have bg:=jb al;have HB:=jb y;have d4:(k:Int)<(ns:Int):=by omega
   obtain⟨LL,be⟩:∃ LL,LL=(V X).2.1:=⟨_,rfl⟩;obtain⟨LE,ar⟩:∃ LE,LE=(V X).2.2:=⟨_,rfl⟩;rw[<-be,<-ar] at ap;have cr:=jb ap;have bh:=jb ar;have q:∀ D∈Ds,D<W.heap.size:=fun D h=>zC (am.2 D h);clear y al ap hf be ar a4 O
   gi_wp2
   refine aw rfl (by decide) (gf:=gf) (rv:=cd) (lb:=lb) rfl trivial cj (cr.out 8) (fun _=>rfl) (fun i h=>by have:=hρ i h;omega) (fun i h=>by have:=hN i h;omega) ck
    (fun U C W'=>(∃ m,U=(LL.take m).map zk/\m<=LL.length)/\W'.heap[w.heap.size]?=some (.cells #[.nilIface] 128 (0,0))/\ja w1 W' (j5 ρ)/\Jg W' Ds/\(∀ i,C i↔i=w.heap.size))
    (fun c U C W'=>c = .ret/\ja w W' (j5 ρ)/\Jg W' Ds/\∃ bad ev,LE=some bad/\mx E W' ev bad/\W'.heap[w.heap.size]?=some (.cells #[ev] 128 (0,0)))
    ?hI ?hIx (fun i=>i=w.heap.size) ?hC0 ?h0 ?round ?done ?stop
   case hI =>
    rintro U C A B' ⟨hm,y,l,j,hC⟩ T
    have out:∀ i,w.heap.size<=i->i<W.heap.size->¬(j5 ρ i\/(W.heap.size<=i/\¬C i)):=by
     rintro i h1 h2 (h3|⟨h3,h4⟩)
     ·exact nT i h1 h3
     ·omega
    refine⟨hm,ja.same T y (out _ (by omega) (by omega)),l.trans T (fun i hi h=>?_),j.keep T (fun D J=>out D (by have:=F D J;omega) (q D J)),hC⟩;rcases h with h|⟨h,_⟩
    ·exact h
    ·omega
   case hIx =>
    rintro c U C A B' z r ⟨rfl,l,j,bad,ev,e1,e3,y⟩ an dk hr T;have u:∀ i,i<W.heap.size->¬i=z:=fun i hi=>by omega
    obtain⟨g,he,hg⟩:=e3;exact⟨rfl,l.trans T (fun i hi e=>by omega),j.keep T (fun D J=>u D (q D J)),bad,ev,e1,⟨g,he.keep T (fun i c e hc=>by rw[e,hr] at hc;cases hc),hg⟩,T.same y (u _ (by omega))⟩
   case hC0 =>
    rintro i h;exact⟨by omega,nT i (by omega),fun h=>by have:=hN i h;omega⟩
   case h0=>exact⟨⟨0,rfl,zU _⟩,HB.out,M,am,fun _=>Iff.rfl⟩
   case round =>
    rintro z U x C W1 an ⟨rl,b6⟩ b8 bd ⟨⟨m,rfl,hm⟩,y,l,j,hC⟩ bk;have d5:=zC b6;have u:∀ i,i<W.heap.size->¬i=z:=fun i hi=>by omega
    rcases bk with⟨k0,c,e,bc,rfl⟩|⟨bad,he,e,b5,a9⟩
    ·have ch:=(XA.1 bc).1
     obtain rfl:m=k0:=by
      have:=congrArg List.length e;simp at this;omega
     have E1:=jb (gi bc).symm;clear e;dsimp only[encI,zk]
     gi_wp2
     refine⟨ja.refl W1 _,?_⟩;intro W2 ka _;have HC:=jb hC;have H0:=jb (ka.same y (u _ (by omega)));have a1:Jg W2 Ds:=j.keep ka (fun D J=>u D (q D J));have a2:ja w1 W2 (j5 ρ):=l.trans ka (fun i hi e=>by omega);clear y hC
     gi_wp2
     exact⟨C,fun i h=> .inl h,fun i h=>zT (bd i h) ka.size,ja.refl _ _,⟨m+1,E1.out,ch⟩,H0.out,a2,a1,HC.out⟩
    ·obtain⟨x1,ev⟩:=x
     simp only at b5 a9;subst b5;obtain⟨tv,av,rfl⟩:=a9.shape;have cq:=jb he;clear e he;dsimp only[encI,bn]
     gi_wp2
     refine⟨ja.refl W1 _,?_⟩;intro W2 ka _;have G0:=jb y;have ab:=ka.same y (u _ (by omega));have a0:=zA (o:=0) ab;have f0:=zB (o:=0) ab;simp at a0;have a1:Jg W2 Ds:=j.keep ka (fun D J=>u D (q D J));have a2:ja w1 W2 (j5 ρ):=l.trans ka (fun i hi e=>by omega);have H0:=jb ab;have HC:=jb hC;have HX:=jb a9;clear y ab hC a9
     gi_wp2
     have kk:=ja.setCell W2 ⟨w.heap.size,0,none⟩ (.iface tv (.pointer (some av)));refine⟨C,fun i h=> .inl h,fun i h=>zT (bd i h) (ZF ka.size kk.size),kk.mono (fun i _ h=>(HC.out i).2 h),rfl,((kW.up).tt a2).trans kk (fun i hi h=>?_),a1.keep kk (fun D J h=>by have:=F D J;have e':D=w.heap.size:=h;omega),bad,.iface tv (.pointer (some av)),cq.out,?_,?_⟩
     ·have e':i=w.heap.size:=h
      omega
     ·obtain⟨g,hg,ci⟩:=HX.out
      have kw:ja W1 (W2.setCell ⟨w.heap.size,0,none⟩ (.iface tv (.pointer (some av)))) (fun i=>i=z\/i=w.heap.size):=(ka.mono (fun _ _ h=> .inl h)).trans kk (fun _ _ h=> .inr h);refine⟨g,hg.keep kw (fun i c h hc=>?_),ci⟩;rcases h with h|h
      ·rw[h,b6] at hc;cases hc
      ·rw[h,G0.out] at hc;cases hc
     ·exact(jc (o:=0) H0.out _).trans rfl
   case done =>
    rintro D' z C xs W2 W3 J an u cf b8 ⟨DK,af⟩ T ⟨⟨m,rfl,hm⟩,ag,l,j,hC⟩ hK
    have b9:LE=none:=by
     rcases af with⟨h1,h2⟩|⟨bad,ev,h1,⟨t,a,rfl⟩,h2⟩
     ·exact h1
     ·have h3:(bn,Value.iface t (.pointer (some a)))∈(LL.take m).map zk:=by rw[h2];simp
      obtain⟨c,_,h4⟩:=ZN.1 h3;cases h4
    have co:Hid (Xr s S=Xr (s.drop (k+1)) (V X).1):=by
     unfold Hid;rw[G.out,Us bg.out,ll,<-bh.out,b9]
    have ac:=DK.apart T (fun i hi e=>by rw[e];exact⟨nT z (by omega),by omega⟩);have bj:D'∉Ds:=fun h=>by have:=q D' h;omega
    have bp:=jb ag;have cp:=jb hK;have bo:=jb ac;clear b9 af DK ac ag hK
    gi_wp2
    refine⟨⟨k+1,(V X).1,D'::Ds,_,_,_,_,_,_,rfl,cg,bo.out,Z1,co,bp.out,l,j.cons cp.out bj,fun E hE=>?_⟩,?_⟩
    ·rcases zH.1 hE with rfl|hE
     ·omega
     ·exact F E hE
    ·simp[intOf]
     omega
   case stop =>
    rintro D' z C c U W2 W3 J an u cf b8 DK T ⟨rfl,l,j,bad,ev,e1,e3,y⟩ hK;have aa:Jg W3 (D'::Ds):=j.cons hK (fun h=>by have:=q D' h;omega);have ac:=DK.apart T (fun i hi e=>by rw[e];exact⟨nT z (by omega),by omega⟩)
    have v:∀ i,i∈D'::Ds->w.heap.size+1<=i:=fun i h=>by
     rcases zH.1 h with rfl|h
     ·omega
     ·exact F i h
    have kS:=Xj W3 (D'::Ds);have z0:=kS.same y (fun h=>by have:=v _ h;omega);have eF:Xr s S=((V X).1,some bad):=by rw[G.out,Us bg.out,ll,<-bh.out,e1]
    gi_wp2
    refine Yi (Ds:=D'::Ds) (by simp) aa ?_;refine⟨ev,dr rfl rfl z0,?_⟩;rw[eF];refine⟨l.trans kS (fun i hi h=>by have:=v i h;omega),ac.apart kS (fun i hi h=>⟨nT i (by have:=v i h;omega),by have:=v i h;omega⟩),Z1,.inr ⟨bad,ev,rfl,rfl,?_⟩⟩;obtain⟨g,he,hg⟩:=e3;refine⟨g,he.keep kS (fun i c h hc=>?_),hg⟩;rw[aa.2 i h] at hc;cases hc
  ·obtain rfl:k=ns:=by omega
   have a0:=zA (o:=0) y;have f0:=zB (o:=0) y;simp at a0;have H0:=jb y;clear y
   gi_wp2
   have kk:=ja.setCell W ⟨w.heap.size,0,none⟩ .nilIface;have aa:Jg (W.setCell ⟨w.heap.size,0,none⟩ .nilIface) Ds:=am.keep kk (fun D J h=>by have:=F D J;have e':D=w.heap.size:=h;omega);have kS:=Xj (W.setCell ⟨w.heap.size,0,none⟩ .nilIface) Ds;have z0:=kS.same ((jc (o:=0) H0.out .nilIface).trans rfl) (fun h=>by have:=F _ h;omega);have b4:ja W (vd (W.setCell ⟨w.heap.size,0,none⟩ .nilIface) Ds) (fun i=>i=w.heap.size\/i∈Ds):=(kk.mono (fun _ _ h=> .inl h)).trans kS (fun _ _ h=> .inr h);refine Yi (by simp) aa ?_;refine⟨.nilIface,dr rfl rfl z0,?_⟩;have eF:Xr s S=(X,none):=by rw[G.out,N.out,List.drop_length];rfl
   rw[eF]
   have v:∀ i,(i=w.heap.size\/i∈Ds)->w.heap.size<=i:=fun i h=>by
    rcases h with h|h
    ·omega
    ·have:=F i h
     omega
   exact⟨ba.trans b4 (fun i hi h=>by have:=v i h;omega),bi.apart b4 (fun i hi h=>⟨nT i (v i h),by have:=v i h;omega⟩),Zk,.inl ⟨rfl,rfl⟩⟩
end Go.Proofs.YtnipbplghijdmaaGreatDoor
namespace Go.Proofs.YtnipbplghijdmaaGreatDoor
open RowKit Maps WideShapes Go.Proofs.Tryz
variable {w:World} {E:Nat->Addr} {B b d lo:Nat} {t:TypeId}
theorem um(b:Nat):Calls prog 67 #[.pointer (some ⟨b,0,none⟩),.nilIface] w fun e w'=>e = .returned (.int .i64 0)/\w'=w:=by
 go_enter func67,ntmps67;go_wp2;go_ret;exact⟨rfl,rfl⟩
def Y8:Str:=[109,97,110,105,102,101,115,116]
theorem Dt(m:Rf.Man)(V rv last O:Value)(C cl:Bool)(H:Env E B w)(l:w.heap[b]?=some (.cells (qe V (jf m.next) (jf m.last) (jf m.log) (jf m.base) rv last O C cl) t (0,0)))(T:zl w rv m.runs)(hl:m.runs.length<524288)(U:∀ n∈m.settled,n<=9223372036854775807)(r:m.log<=9223372036854775807) :
 Calls prog 182 #[.pointer (some ⟨b,0,none⟩)] w fun e w'=>∃ p c,e = .returned (.slice p ((j8 m).length+1) c)/\w'.ownsRow w.heap.size 9 1 (.slice p ((j8 m).length+1) c) ((j8 m).length+1) ((j8 m++[Y8]).map jd)/\ja w w' (fun _=>False):=by
 obtain⟨S,J,x,v,u⟩:=info_parts Tryz.wu;have g:=wi m rv H T (by omega) U r;have a2:=x8 m;have d:(j8 m).length=m.settled.length+1:=by unfold j8;simp
 have d1:=zA (o:=1) l;have Z:=zA (o:=2) l;have Y:=zA (o:=3) l;have X:=zA (o:=4) l;have W:=zA (o:=5) l;simp at d1 Z Y X W;generalize j8 m=F at g d ⊢;obtain⟨q,s⟩:∃ q,q=F.length:=⟨_,rfl⟩;rw[<-s] at g d ⊢;have a3:q<524290:=by omega
 have HF:=jb g;have HQ:=jb s;clear g l d s;go_enter func182,ntmps182;go_wp2_with fail;refine HF.out.mono ?_;rintro e M ⟨p1,c1,rfl,f,I⟩;have i:=f.alloc (.cells #[jd Y8] 9);have A:Hid (q+1<=maxLen):=by unfold Hid maxLen;omega
 have z:Hid ((q+1)*16<=140737488355328):=by unfold Hid;omega
 go_wp2_with (at_builtin;go_must (refine jk _ rfl (.tmp 7) (.tmp 8) 40 rfl w.heap.size 9 S (.string ⟨#[]⟩) 1 16 underlying40 J x v u rfl xD _ _ _ rfl i ⟨M.heap.size,0,none⟩ 1 1 [jd Y8] rfl rfl (cell_one_new _ _ _) (L0 _) A.out z.out (I.more _).size ?_);intro N D L k y G)
 have R:ja w L (fun _=>False):=(I.more _).grow y (fun j e J=>by have:=(f.lt j e).1;omega);go_ret;refine⟨N,D,rfl,?_,R⟩;rw[ZA];exact k
theorem Xi(b:lo<=9223372036854775807):(jx lo).length<1099511627776:=by
 have:=zn b;unfold jx;simp only[ZY,zX,xU];omega
theorem Ct(b:Array Value)(w:World):(callFunc 159 b).run prog w = .ok (.enter 159 b) w:=by kernel_rfl
theorem M8{ρ:Nat->jz}{S:jh}{r u x q last s:Value}{i cl:Bool}(D:Dk E B w ρ d S)(H:Env E B w)(g:lo<=9223372036854775807)(l:w.heap[b]?=some (.cells (qe (.pointer (some ⟨d,0,none⟩)) r u (ju lo) x q last s i cl) t (0,0))) :
 Calls prog 113 #[.pointer (some ⟨b,0,none⟩)] w (eu E B w ρ d (S.Qb (jx lo))):=by
 have A:=zA (o:=0) l;have z:=zA (o:=3) l;simp at A z;have k:=Xi g;have p:Hid (w.drew.heap[b]?=some (.cells (qe (.pointer (some ⟨d,0,none⟩)) r u (ju lo) x q last s i cl) t (0,0))):=l;have n:Env E B w.drew:=H.keep (ja.drew w (fun _=>False)) (fun _ h=>h.elim);have I:=D.same (ja.drew w _);clear l;go_enter func113,ntmps113;go_wp2_with fail
 go_region_law (first
  | (refine jr rfl 63 [.tmp 11] _ rfl J7 [.int .i64 lo] (by simp[Act.eval]) (Qy lo g n) ?_
     rintro e M ⟨rfl,m⟩
     have f:=m.same p.out id
     have F:=zA (o:=0) f
     have C:=zA (o:=3) f
     simp at F C
     clear f
     have J:=I.same m
     refine⟨_,rfl,?_⟩)
  | (refine jr rfl 159 [.tmp 6,.tmp 12] _ rfl Ct [.pointer (some ⟨d,0,none⟩),jd (jx lo)] (by simp[Act.eval]) (ow J (jx lo) k) ?_
     rintro e L c
     have j:∃ v,e = .returned v:=by
      obtain⟨_,_,_,y⟩:=c
      rcases y with⟨_,rfl⟩|⟨_,v,rfl,_⟩
      ·exact⟨_,rfl⟩
      ·exact⟨_,rfl⟩
     obtain⟨v,rfl⟩:=j
     have G:=jb c
     clear c
     refine⟨_,rfl,?_⟩))
 all_goals
  go_wp2;go_ret;exact eu.before (xo.of (((ja.drew w (fun _=>False)).tt m)) (fun _ _ h=>h.elim)) G.out
theorem Pj(b:Array Value)(w:World):(callFunc 64 b).run prog w = .ok (.enter 64 b) w:=by kernel_rfl
theorem I2(b:Array Value)(w:World):(callFunc 62 b).run prog w = .ok (.enter 62 b) w:=by kernel_rfl
theorem jc2{ρ:Nat->jz}{k:Nat}{S:jh}(D:Dk E B w ρ d S)(F:Fit k S)(N:k<549755813888)(nm:Str)(t:nm.length<1099511627776){f:Nat}{a:ye}(r:S.at nm=some f)(q:S.files f=some a)(v:Value)(b:List UInt8)(l:0<b.length)(L:b.length<549755813888)(I:Bytes w v b)(m:Off ρ v) :
 Calls prog 62 #[.pointer (some ⟨d,0,none⟩),jd nm,v] w fun e w'=>∃ S' ok ρ' cc,e = .returned (.int .i64 cc)/\Hid (jdh nm b S S' ok)/\xo w ρ w' ρ'/\Dk E B w' ρ' d S'/\Hid ((ok=true/\cc=(0:Int))\/(ok=false/\cc=1)):=by
 have Z:Small S:=F.small (by omega);have J:total S.files S.names<1099511627776:=by have:=F.total;omega
 obtain⟨p,c,rfl,C,A,z,y⟩:=id I
 obtain⟨g,rfl⟩:∃ g,p=some g:=by
  cases p with
  | some g=>exact⟨g,rfl⟩
  | none=>have:=z rfl;omega
 have n:Arg w ρ (.slice (some g) b.length c) b:= .inr ⟨g,c,rfl,C,m _ _ _ rfl,fun j u hu=>by
  rw[zJ] at hu
  obtain⟨x,i,rfl⟩:=xF.1 hu
  exact(y g rfl).2 j x i⟩
 refine(Ce nm b g c D.rep Z t r q l (by omega) n (by omega) A J).mono ?_;rintro e M ⟨G,o,⟨i,rfl,s⟩|⟨i,H,rfl,s⟩⟩
 ·exact⟨_,false,G,1,rfl,⟨f,a,r,q,.inl ⟨i,rfl,rfl⟩⟩,o,D.step o s,.inr ⟨rfl,rfl⟩⟩
 ·exact⟨_,true,G,0,rfl,⟨f,a,r,q,.inr ⟨i,H,rfl,rfl⟩⟩,o,D.step o s,.inl ⟨rfl,rfl⟩⟩
end Go.Proofs.YtnipbplghijdmaaGreatDoor
namespace Go.Proofs.YtnipbplghijdmaaGreatDoor.Rf
open Go.Proofs.Tryz
variable {b l:List Ch} {x:Ch} {bs:List (List Ch)}
structure St where
 m:Man
 bs:List (List Ch)
 bls:List (List Ch)
def St.last(s:St):Nat:=s.m.last+s.bs.length
def St.mem(s:St):List Ch:=memory s.bs
def St.all(s:St):List Ch:=merged (s.mem::s.bls)
def St.tell(s:St):List Ch:=there s.all
def St.live(s:St):List Ch:=there (merged s.bls)
def St.write(s:St)(b:List Ch):St:=⟨s.m,s.bs++[b],s.bls⟩
def Man.qn(m:Man)(last:Nat):Man:=⟨m.next+2,last,m.next+1,m.base,m.next::m.runs⟩
def Man.yf(m:Man):Man:=⟨m.next+1,m.last,m.log,m.next,[]⟩
def Man.bare(m:Man):Man:=⟨m.next,m.last,m.log,0,[]⟩
def St.flush(s:St):St:=if s.bs=[] then s else⟨s.m.qn s.last,[],s.mem::s.bls⟩
def St.qd(s:St):St:=if s.m.runs=[] then s else if s.live=[] then⟨s.m.bare,s.bs,[]⟩ else⟨s.m.yf,s.bs,[s.live]⟩
def Man.first:Man:=⟨2,0,1,0,[]⟩
def St.first:St:=⟨Man.first,[],[]⟩
structure mo(l:List Ch):Prop where
 rising:jy l
 some:l≠[]
 allowed:∀ c∈l,allowed c=true
 few:l.length<65536
structure St.Ok(s:St):Prop where
 Je:s.m.Good
 runs:s.m.runs.length<65535
 len:s.bls.length=s.m.settled.length
 bl:∀ l∈s.bls,mo l
 log:∀ b∈s.bs,qy b=true
 cap:s.last<=1000000000
theorem St.Ok.first:St.first.Ok :=
 ⟨by refine⟨by decide,by decide,by decide,by decide⟩,by decide,rfl,fun l h=>(by cases h),fun b h=>(by cases h),by decide⟩
theorem St.Ok.write{s:St}(h:s.Ok)(f:qy b=true)(d:s.last<1000000000):(s.write b).Ok :=
 ⟨h.Je,h.runs,h.len,h.bl,fun x c=>by
  rcases ZD.1 c with c|c
  ·exact h.log x c
  ·rw[ZE.1 c];exact f,by
  show s.m.last+(s.bs++[b]).length<=1000000000
  unfold St.last at d
  rw[ZY,xC]
  omega⟩
theorem Og{more:List Ch}(h:jy l)(b:x∈over l more):x∈l\/x∈more:=by
 induction more generalizing l with
 | nil=>exact .inl b
 | cons c r ih =>
  have e:over l (c::r)=over (put l c) r:=rfl;rw[e,dt h] at b;rcases ih (Yv h) b with b|b
  ·rcases Uh b with b|b
   ·exact .inr (b▸xJ)
   ·exact .inl b
  ·exact .inr (xI _ b)
theorem ud(f:x∈memory bs):∃ b∈bs,x∈b:=by
 have H:∀(bs:List (List Ch)) (l:List Ch),jy l->∀ x,x∈bs.foldl over l->x∈l\/∃ b∈bs,x∈b:=by
  intro bs
  induction bs with
  | nil=>intro l _ x h;exact .inl h
  | cons b r ih =>
   intro l d x h;rcases ih _ (J2 d) x h with h|⟨c,g,h⟩
   ·rcases Og d h with h|h
    ·exact .inl h
    ·exact .inr ⟨b,xJ,h⟩
   ·exact .inr ⟨c,xI _ g,h⟩
 rcases H bs [] List.Pairwise.nil x f with h|h
 ·cases h
 ·exact h
theorem Iu(c:Ch)(l:List Ch):(ins c l).length<=l.length+1/\l.length<=(ins c l).length/\1<=(ins c l).length:=by
 induction l with
 | nil=>simp[ins]
 | cons x r ih =>
  unfold ins
  split
  ·simp
  ·split
   ·simp
   ·simp only[zX];omega
theorem Zl{more:List Ch}(h:jy l):(over l more).length<=l.length+more.length/\l.length<=(over l more).length/\(more≠[]->1<=(over l more).length):=by
 induction more generalizing l with
 | nil=>exact⟨xA _,xA _,fun e=>(e rfl).elim⟩
 | cons c r ih =>
  have e:over l (c::r)=over (put l c) r:=rfl;rw[e,dt h];have d:=ih (Yv (c:=c) h);have b:=Iu c l;rw[zX];exact⟨by omega,by omega,fun _=>by omega⟩
theorem Bt(c:∀ b∈bs,qy b=true)(f:bs≠[]):memory bs≠[]:=by
 obtain⟨b,m⟩:=List.exists_mem_of_ne_nil bs f;intro e
 have H:∀(bs:List (List Ch)) (l:List Ch),jy l->(∀ b∈bs,qy b=true)->bs≠[]->1<=(bs.foldl over l).length:=by
  intro bs
  induction bs with
  | nil=>intro l _ _ h;exact(h rfl).elim
  | cons b r ih =>
   intro l g i _;have c:=(yd b).1 (i b xJ);have d:b≠[]:=fun e=>by rw[e] at c;exact absurd c.1 (by decide)
   have j:=(Zl (more:=b) g).2.2 d;by_cases hr:r=[]
   ·rw[hr];exact j
   ·exact ih _ (J2 g) (fun x hx=>i x (xI _ hx)) hr
 have:=H bs [] List.Pairwise.nil c f;have k:bs.foldl over []=[]:=e;rw[k] at this;exact absurd this (by decide)
theorem St.jbz{s:St}(h:s.Ok)(f:s.bs≠[])(g:s.mem.length<65536):mo s.mem :=
 ⟨yv _,Bt h.log f,fun c hc=>by
  obtain⟨b,i,d⟩:=ud hc
  exact((yd b).1 (h.log b i)).2.2 c d,g⟩
theorem Man.Qj(m:Man)(last:Nat):(m.qn last).settled=m.next::m.settled:=by
 unfold Man.settled Man.qn
 split<;>rfl
theorem Man.Good.qn{m:Man}(h:m.Good){last:Nat}(j:last<=1000000000)(i:m.next+2<=2000000000)(o:1<=m.next):(m.qn last).Good:=by
 obtain⟨q,p,l,g⟩:=h;have d:∀ n∈m.settled,1<=n/\n<m.next:=fun n c=>l n (ZD.2 (.inl c));refine⟨i,j,?_,?_⟩
 ·intro n c
  unfold Man.numbers at c;rw[Man.Qj] at c;show 1<=n/\n<m.next+2;rcases ZD.1 c with c|c
  ·rcases zH.1 c with rfl|c
   ·omega
   ·have:=d n c;omega
  ·have:n=m.next+1:=ZE.1 c
   omega
 ·unfold Man.numbers at g ⊢
  rw[Man.Qj];show(m.next::m.settled++[m.next+1]).Nodup;rw[List.nodup_append] at g ⊢;refine⟨XB.2 ⟨fun c=>by have:=d _ c;omega,g.1⟩,by simp,?_⟩;intro a f b k;rw[ZE.1 k];rcases zH.1 f with rfl|f
  ·omega
  ·have:=d a f;omega
theorem St.Ok.flush{s:St}(h:s.Ok)(i:s.mem.length<65536)(g:s.m.next+2<=2000000000)(d:1<=s.m.next)(f:s.m.runs.length+1<65535):s.flush.Ok:=by
 unfold St.flush
 split
 ·exact h
 ·rename_i hb
  refine⟨h.Je.qn h.cap g d,?_,?_,?_,fun b hb=>(by cases hb),?_⟩
  ·show(s.m.next::s.m.runs).length<65535
   simpa using f
  ·show(s.mem::s.bls).length=_
   rw[Man.Qj,zX,zX,h.len]
  ·intro l c
   rcases zH.1 c with rfl|c
   ·exact St.jbz h hb i
   ·exact h.bl l c
  ·exact h.cap
theorem I8(l:List Ch):∀ c∈there l,c∈l:=fun c hc=>(List.mem_filter.1 hc).1
theorem F7{ls:List (List Ch)}(h:∀ l∈ls,jy l)(b:x∈merged ls):∃ l∈ls,x∈l:=by
 induction ls with
 | nil=>cases b
 | cons l r ih =>
  rw[Qx] at b;rcases Og (yu r) b with b|b
  ·obtain⟨a,d,c⟩:=ih (fun y hy=>h y (xI _ hy)) b
   exact⟨a,xI _ d,c⟩
  ·exact⟨l,xJ,b⟩
theorem It(ls:List (List Ch)):(merged ls).length<=(ls.map List.length).sum:=by
 induction ls with
 | nil=>simp[merged]
 | cons l r ih =>
  rw[Qx,zI,List.sum_cons];have:=(Zl (more:=l) (yu r)).1;omega
theorem St.Ul{s:St}(h:s.Ok)(f:s.live≠[])(b:s.live.length<65536):mo s.live :=
 ⟨Y6 (yu _) _,f,fun c hc=>by
  obtain⟨l,g,d⟩:=F7 (fun l b=>(h.bl l b).rising) (I8 _ c hc)
  exact(h.bl l g).allowed c d,b⟩
theorem Man.Good.log{m:Man}(h:m.Good):1<=m.log/\m.log<m.next:=h.2.2.1 m.log (ZD.2 (.inr (ZE.2 rfl)))
theorem Man.Good.yf{m:Man}(h:m.Good)(d:m.next+1<=2000000000):m.yf.Good:=by
 have g:=h.log;obtain⟨k,f,j,i⟩:=h;have c:¬m.next=0:=by omega
 have e:m.yf.numbers=[m.next,m.log]:=by
  unfold Man.numbers Man.settled Man.yf;simp[c]
 refine⟨d,f,?_,?_⟩
 ·intro n b
  rw[e] at b;show 1<=n/\n<m.next+1;rcases zH.1 b with rfl|b
  ·omega
  ·rw[ZE.1 b];omega
 ·rw[e]
  simp;omega
theorem Man.Good.bare{m:Man}(h:m.Good):m.bare.Good:=by
 have c:=h.log;obtain⟨f,d,i,g⟩:=h
 have e:m.bare.numbers=[m.log]:=by
  unfold Man.numbers Man.settled Man.bare;simp
 refine⟨f,d,?_,?_⟩
 ·intro n b
  rw[e] at b;rw[ZE.1 b];exact c
 ·rw[e];simp
theorem Man.Zx{m:Man}(h:1<=m.next):m.yf.settled=[m.next]:=by
 unfold Man.settled Man.yf;have:¬m.next=0:=by omega
 simp[this]
theorem Man.Ai(m:Man):m.bare.settled=[]:=by simp[Man.settled,Man.bare]
theorem St.Ok.qd{s:St}(h:s.Ok)(c:s.live.length<65536)(b:s.m.next+1<=2000000000):s.qd.Ok:=by
 have d:=h.Je.log;unfold St.qd
 split
 ·exact h
 ·split
  ·exact⟨h.Je.bare,ZG _,by show _=s.m.bare.settled.length;rw[Man.Ai];rfl,fun l hm=>(by cases hm),h.log,h.cap⟩
  ·rename_i hb
   refine⟨h.Je.yf b,ZG _,by show _=s.m.yf.settled.length;rw[Man.Zx (by omega)];rfl,fun l hm=>?_,h.log,h.cap⟩;rw[ZE.1 hm];exact St.Ul h hb c
theorem O5(h:jy l)(k:List UInt8):xh (there l) k=(xh l k).filter (fun c=>!c.gone):=by
 induction l with
 | nil=>rfl
 | cons x r ih =>
  have f:=h;unfold jy at h;rw[zG] at h;have b:=ih h.2;rw[qm];by_cases hx:x.key=k
  ·have d:xh r k=none:=Y1 (fun c hc e=>by have:=h.1 c hc;rw[hx,e] at this;exact XS _ this)
   rw[d] at b;rw[if_pos hx];by_cases hg:x.gone=true
   ·have e:there (x::r)=there r:=by unfold there;rw[XZ (by simp[hg])]
    rw[e,b];simp[Option.filter,hg]
   ·have e:there (x::r)=x::there r:=by unfold there;rw[XT (by simp[hg])]
    rw[e,qm,if_pos hx];simp[Option.filter,hg]
  ·rw[if_neg hx]
   by_cases hg:x.gone=true
   ·have e:there (x::r)=there r:=by unfold there;rw[XZ (by simp[hg])]
    rw[e,b]
   ·have e:there (x::r)=x::there r:=by unfold there;rw[XT (by simp[hg])]
    rw[e,qm,if_neg hx,b]
theorem St.Tm(s:St):jy s.all:=yu _
theorem Kw(l:List Ch)(m:Nat)(h:4*m<l.length):(chunks l)[m]?=some ((l.drop (4*m)).take 4):=by
 induction m generalizing l with
 | zero =>
  rw[Cb (fun e=>by rw[e] at h;simp at h)];simp
 | succ m ih =>
  rw[Cb (fun e=>by rw[e] at h;simp at h),yC,ih _ (by rw[ZU];omega),XL];congr 3;omega
theorem Fm(n:Nat)(bl:List (List Ch))(b:List Ch):js n (bl++[b])=js n bl++[(n+(bl.flatMap jm).length,zq b)]:=by
 induction bl generalizing n with
 | nil=>simp[js]
 | cons x r ih =>
  rw[xE,js,js,ih,xE,xL,ZY,ZL]
def qh(l:List Ch)(m:Nat):List UInt8:=((chunks l).take m).flatMap jm
def x9(l:List Ch)(m:Nat):List UInt8:=(js 0 ((chunks l).take m)).flatMap xe
theorem fx(l:List Ch)(m:Nat)(h:4*m<l.length):qh l (m+1)=qh l m++jm ((l.drop (4*m)).take 4):=by
 unfold qh;rw[zY,Kw l m h,zZ,xM];simp
theorem Xh(l:List Ch)(m:Nat)(h:4*m<l.length):x9 l (m+1)=(x9 l m++big (qh l m).length 4)++text (zq ((l.drop (4*m)).take 4)):=by
 unfold x9 qh;rw[zY,Kw l m h,zZ,Fm,xM];simp[xe]
theorem dq(l:List Ch):jn l=(qh l ((l.length+3)/4)++frame (big ((l.length+3)/4) 2++x9 l ((l.length+3)/4)))++big (qh l ((l.length+3)/4)).length 4:=by
 unfold jn zm qh x9;rw[<-Xl,zW]
theorem Af(h:∀ c∈b,allowed c=true)(d:b.length<=4):(jm b).length<=245:=by
 have:=Jf h;unfold jm frame;simp only[ZY,ji];omega
theorem Qk(h:∀ c∈l,allowed c=true)(m:Nat):(qh l m).length<=245*m:=by
 unfold qh
 have H:∀ bl:List (List Ch),(∀ b∈bl,(jm b).length<=245)->(bl.flatMap jm).length<=245*bl.length:=by
  intro bl
  induction bl with
  | nil=>intro _;simp
  | cons b r ih =>
   intro d;have g:=d b xJ;have f:=ih (fun x hx=>d x (xI _ hx));rw[xL,ZY,zX];omega
 have g:=H ((chunks l).take m) (fun b d=>Af (fun c hc=>h c (uj (ZH d) c hc)) (cd (ZH d)).2);have f:((chunks l).take m).length<=m:=by rw[ZT];omega
 exact ZF g (Nat.mul_le_mul_left _ f)
theorem Xp(h:∀ c∈l,allowed c=true)(m:Nat)(d:4*m<l.length+4):(x9 l m).length<=21*m:=by
 induction m with
 | zero=>simp[x9,js]
 | succ m ih =>
  have g:=ih (by omega);rw[Xh l m (by omega)]
  have f:(zq ((l.drop (4*m)).take 4)).length<=16:=by
   unfold zq
   cases hh:((l.drop (4*m)).take 4).head? with
   | none=>simp
   | some c =>
    have b:=h c (xS (ZH (List.mem_of_mem_head? (by rw[hh];exact rfl))));have:=(xz c).1 b;simp;omega
  simp only[ZY,ji,text];omega
theorem mc(h:∀ c∈l,allowed c=true):(jn l).length<=67*l.length+300:=by
 rw[dq];have d:=Qk h ((l.length+3)/4);have b:=Xp h ((l.length+3)/4) (by omega);simp only[ZY,ji,frame];omega
end Go.Proofs.YtnipbplghijdmaaGreatDoor.Rf

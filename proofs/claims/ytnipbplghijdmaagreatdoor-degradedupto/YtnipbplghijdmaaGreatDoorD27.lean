/-
  D: RunH RunI RunJ LayersB LayersC Live.
-/
import Derived.Test.YtnipbplghijdmaaGreatDoorD26
set_option maxRecDepth 100000
set_option maxHeartbeats 8000000
set_option linter.unusedVariables false
set_option linter.unusedSimpArgs false
namespace Go.Proofs.YtnipbplghijdmaaGreatDoor
open RowKit Maps WideShapes Go.Proofs.Tryz
variable {w:World} {rv:Value} {bl:List (List Rf.Ch)} {E:Nat->Addr} {B i:Nat} {b:List Rf.Ch}
theorem jhd(s:ByteArray)(w:World):Calls prog 128 #[.string s,.nilIface] w fun e w'=>e = .returned .nilIface/\w'=w:=by
 go_enter func128,ntmps128;go_wp2;go_ret;exact⟨rfl,rfl⟩
def Bh(S:jc)(nm:Str)(bl:List (List Rf.Ch)):Prop:=Rf.Laid bl/\∃ f a,S.at nm=some f/\S.files f=some a/\a.bytes=Rf.zz bl
def sw(w:World)(base:Nat)(rv:Value)(bl:List (List Rf.Ch)):Prop :=
 ∃ p c g cap,rv=Kz (.slice p (Rf.zz bl).length c) (.slice (some ⟨g,0,none⟩) bl.length cap)/\Bytes w (.slice p (Rf.zz bl).length c) (Rf.zz bl)/\Pls w g cap (Yq (bl.flatMap Rf.j4).length (Rf.j2 0 bl) bl.length)/\base<=g/\(∀ ad,p=some ad->base<=ad.block)
theorem sw.keep{w':World}{base:Nat}{T:Nat->Prop}(h:sw w base rv bl)(k:ja w w' T)(b:∀ i,base<=i->¬T i):sw w' base rv bl:=by
 obtain⟨p,c,g,cap,rfl,l,j,f,d⟩:=h;exact⟨p,c,g,cap,rfl,l.keep k (fun ad n c e=>by injection e with e;exact b _ (d ad e)),j.keep k (fun _=>b _ f),f,d⟩
def jew(E:Nat->Addr)(B:Nat)(ρ:Nat->j3)(d:Nat)(S:jc)(bl:List (List Rf.Ch))(w:World)(e:Ending)(w':World):Prop :=
 ja w w' (qj ρ)/\Dk E B w' ρ d (S.called false) /\
 ((S.bad=true/\∃ ev,e = .returned (.tuple #[Kz (.slice none 0 0) (.slice none 0 0),ev])/\lu E w' ev true) \/
  (S.bad=false/\∃ rv,e = .returned (.tuple #[rv,.nilIface])/\sw w' w.heap.size rv bl))
theorem Rb{ρ:Nat->j3}{d:Nat}{S:jc}{nm key:Str}(D:Dk E B w ρ d S)(Z:Small S)(hn:nm.length<1099511627776)(a3:Bh S nm bl)(a9:(Rf.zz bl).length<1099511627776) :
 Calls prog 235 #[.agg #[.pointer (some ⟨d,0,none⟩),jf nm,jf key]] w (jew E B ρ d S bl w):=by
 obtain⟨J,f,a,U,u,T⟩:=a3;have kA:ja w ((w.alloc (.cells #[.pointer (some ⟨d,0,none⟩),jf nm,jf key] 293)).alloc (.cells #[.slice none 0 0,.slice none 0 0] 323)) (fun _=>False):=(ja.alloc w _ _).more _;have N:=je w (.cells #[.pointer (some ⟨d,0,none⟩),jf nm,jf key] 293);have A:=je (w.alloc (.cells #[.pointer (some ⟨d,0,none⟩),jf nm,jf key] 293)) (.cells #[.slice none 0 0,.slice none 0 0] 323);rw[show(w.alloc (.cells #[.pointer (some ⟨d,0,none⟩),jf nm,jf key] 293)).heap.size=w.heap.size+1 by simp] at A;have y:=(ja.alloc (w.alloc (.cells #[.pointer (some ⟨d,0,none⟩),jf nm,jf key] 293)) (.cells #[.slice none 0 0,.slice none 0 0] 323) (fun _=>False)).same N id;have O:=Yc (D.same kA) Z nm hn;have Y:=jb y;have X:=jb A;have a0:=jb O;have a2:=jb U;have af:=jb u;have ag:=jb T;clear N y A O U u T;have hρ:=D.rep.lt;go_enter func235,ntmps235;go_wp2_with fail;refine a0.out.mono ?_;rintro e M ⟨g1,D1,I⟩;have nT:∀ i,w.heap.size<=i->¬qj ρ i:=fun i hi h=>by have:=hρ i h;omega
 have K1:ja w M (qj ρ):=(kA.up).tt g1.keeps;have W:=g1.keeps.same Y.out (nT _ (zJ _));have H:=g1.keeps.same X.out (nT _ (by omega));have am:w.heap.size+1<M.heap.size:=zC H;have ac:=jb W;have k:=jb H;clear W H Y X a0;rcases I with⟨b,v,rfl,he⟩|⟨b,s,_⟩|⟨b,f',a',v,q,n,rfl,j⟩
 ·obtain⟨t,ad,rfl⟩:=he.shape
  have q0:=zA (o:=0) k.out;have q1:=zA (o:=1) k.out;have f0:=zB (o:=0) k.out;have f1:=zB (o:=1) k.out;simp at q0 q1;have HE:=jb he;have r:=jb b;clear he b;go_wp2;refine bodyPost_ret (re rfl rfl (run_set k.out)) rfl ?_;have x:=Vj M (w.heap.size+1) (.slice none 0 0) (.slice none 0 0);refine⟨K1.trans x (fun i hi e=>by have z:i=w.heap.size+1:=e;omega),D1.apart x (fun i hi e=>?_),.inl ⟨r.out,_,rfl,1,HE.out.keep x (fun i c hi e=>?_),by decide,by simp⟩⟩
  ·have z:i=w.heap.size+1:=e
   rw[z];exact⟨nT _ (by omega),by have:=D.size;omega⟩
  ·have z:i=w.heap.size+1:=hi
   subst z;rw[k.out] at e;cases e
 ·rw[a2.out] at s
  cases s
 ·have e1:f'=f:=by rw[a2.out] at q;cases q;rfl
  subst e1;have e2:a'=a:=by rw[af.out] at n;cases n;rfl
  subst e2;rw[ag.out] at j;clear q n;obtain⟨p,c,rfl⟩:=jl j;have F:=xr j;have R:=j.lt;have C:=Ut F J.read a9;rw[Rf.xq] at C;have ae:=jb C;have ah:=jb F;have r:=jb b;have a1:=jb R;clear C j b F R;go_wp2_with fail;refine ae.out.mono ?_;rintro e L ⟨g,cap,rfl,l,x⟩;have aa:=Uw (by rw[zo,Rf.xq]) l;have V:=(x.more (.cells #[.slice p (Rf.zz bl).length c,.slice (some ⟨g,0,none⟩) bl.length cap] 323)).same ac.out id;have m:=(x.more (.cells #[.slice p (Rf.zz bl).length c,.slice (some ⟨g,0,none⟩) bl.length cap] 323)).same k.out id;have G:=je L (.cells #[.slice p (Rf.zz bl).length c,.slice (some ⟨g,0,none⟩) bl.length cap] 323);have x1:=zA (o:=1) V;have y0:=zA (o:=0) m;have y1:=zA (o:=1) m;have g0:=zB (o:=0) m;have b3:=zB (o:=1) m;have z0:=zA (o:=0) G;have z1:=zA (o:=1) G;simp at x1 y0 y1;have ab:=jb m;have b2:¬L.heap.size=w.heap.size+1:=by have:=x.size;omega
  have b1:¬w.heap.size+1=L.heap.size:=by have:=x.size;omega
  clear V m G;go_wp2_with fail
  go_region_with (go_at_call 128;refine(jhd _ _).mono ?_;rintro e w' ⟨rfl,rfl⟩)
  all_goals
   go_wp2;refine bodyPost_ret (re rfl rfl (run_set ab.out)) rfl ?_;have k3:ja M (L.alloc (.cells #[.slice p (Rf.zz bl).length c,.slice (some ⟨g,0,none⟩) bl.length cap] 323)) (fun _=>False):=x.more _;have k4:=Vj (L.alloc (.cells #[.slice p (Rf.zz bl).length c,.slice (some ⟨g,0,none⟩) bl.length cap] 323)) (w.heap.size+1) (.slice p (Rf.zz bl).length c) (.slice (some ⟨g,0,none⟩) bl.length cap);have k5:ja M _ (fun i=>i=w.heap.size+1):=((k3.up).tt k4).draw;refine⟨K1.trans k5 (fun i hi e=>by have z:i=w.heap.size+1:=e;omega),D1.apart k5 (fun i hi e=>?_),.inr ⟨r.out,_,rfl,p,c,g,cap,rfl,ah.out.keep k5 (fun ad n' c' e=>?_),aa.keep (((ja.alloc L _ (fun i=>i=w.heap.size+1)).tt k4).draw) (fun _=>?_),?_,fun ad e=>?_⟩⟩
   ·have z:i=w.heap.size+1:=e
    rw[z];exact⟨nT _ (by omega),by have:=D.size;omega⟩
   ·injection e with e
    have:=(a1.out ad.block (by rw[e];rfl)).1;simp at this;omega
   ·have:=(l.lt g rfl).1
    omega
   ·have:=(l.lt g rfl).1
    omega
   ·have:=(a1.out ad.block (by rw[e];rfl)).1
    simp at this;omega
def bw(bl:List (List Rf.Ch))(key:Str)(i:Nat):List Rf.Ch:=((bl.take i).flatten).filter (Rf.qk key)
def py(S:jc)(bl:List (List Rf.Ch))(key:Str):List Rf.Ch:=if S.bad=true then [] else bl.flatten.filter (Rf.qk key)
def Zx(S:jc):Option Bool:=if S.bad=true then some true else none
theorem Vx{key:Str}(h:bl.length<=i):bw bl key i=bl.flatten.filter (Rf.qk key):=by unfold bw;rw[xF h]
theorem Oo(h:Rf.Laid bl)(key:Str):bw bl key (Rf.ij (Rf.j2 0 bl) key)=[] :=
 List.filter_eq_nil_iff.2 (fun c hc=>by simpa [Rf.qk] using h.jfd key c hc)
theorem Th{key:Str}(h:bl[i]?=some b):bw bl key (i+1)=bw bl key i++b.filter (Rf.qk key):=by
 unfold bw;rw[xH,h,xO,List.flatten_append,yA];simp
theorem jf0{key:Str}{j:Nat}{c:Rf.Ch}(h:bl[i]?=some b)(f:b[j]?=some c)(k:Rf.qk key c=true) :
 let pre:=bw bl key i++(b.take j).filter (Rf.qk key)
 pre=(bl.flatten.filter (Rf.qk key)).take pre.length/\(bl.flatten.filter (Rf.qk key))[pre.length]?=some c:=by
 intro pre
 have l:b=b.take j++c::b.drop (j+1):=by
  have e:b[j]'((zO.1 f).1)=c:=(zO.1 f).2;rw[<-e,xX,xQ]
 have g:bl=bl.take i++b::bl.drop (i+1):=by
  have e:bl[i]'((zO.1 h).1)=b:=(zO.1 h).2;rw[<-e,xX,xQ]
 have d:bl.flatten.filter (Rf.qk key)=pre++c::((b.drop (j+1)).filter (Rf.qk key)++((bl.drop (i+1)).flatten).filter (Rf.qk key)):=by
  conv=>lhs;rw[g]
  rw[List.flatten_append,List.flatten_cons,yA,yA]
  conv=>lhs;arg 2;arg 1;rw[l]
  rw[yA,XW k];simp[pre,bw]
 rw[d];constructor
 ·simp
 ·simp
theorem jfg{ps:List (Nat×Str)}(key:Str):Rf.ij ps key<=ps.length:=by
 have:=Rf.Bf ps key;unfold Rf.ij
 split<;>omega
theorem jfc(i:Nat):Rf.Xs (bl.flatMap Rf.j4).length (Rf.j2 0 bl) i<=(Rf.zz bl).length:=by
 have c:(bl.flatMap Rf.j4).length<=(Rf.zz bl).length:=by unfold Rf.zz;rw[zW,zW];omega
 have b:Rf.Xs (bl.flatMap Rf.j4).length (Rf.j2 0 bl) i<=(bl.flatMap Rf.j4).length:=by
  unfold Rf.Xs
  cases h:(Rf.j2 0 bl)[i+1]? with
  | none=>exact zJ _
  | some p =>
   have:=(Rf.mh 0 bl p (ZP h)).2;show p.1<=_;omega
 omega
theorem sw.jh4{base:Nat}(h:sw w base rv bl)(b:Rf.Laid bl)(key:Str) :
 Calls prog 236 #[rv,jf key] w fun e w'=>e = .returned (j6 (Rf.ij (Rf.j2 0 bl) key))/\ja w w' (fun _=>False):=by
 obtain⟨p,c,g,cap,rfl,j,d,i,f⟩:=h;have:=b.small.2;exact jcy key (Rf.xq 0 bl) d (b.jgz key) (by omega)
theorem sw.count{base:Nat}(h:sw w base rv bl) :
 Calls prog 237 #[rv] w fun e w'=>e = .returned (j6 bl.length)/\ja w w' (fun _=>False):=by
 obtain⟨p,c,g,cap,rfl,i,f,d,b⟩:=h;exact jb2
theorem sw.block{base:Nat}(h:sw w base rv bl)(f:Rf.Laid bl)(d:(Rf.zz bl).length<1099511627776)(S:Xg E B w)(k:B<=w.heap.size)(j:bl[i]?=some b) :
 Calls prog 238 #[rv,j6 i] w fun e w'=>∃ v,e = .returned (.tuple #[v,.nilIface])/\w'.ownsRow w.heap.size 88 3 v b.length (jj b)/\ja w w' (fun _=>False):=by
 obtain⟨p,c,g,cap,rfl,m,l,o,n⟩:=h;have:=f.small.2;exact jen S k (Rf.xq 0 bl) (zO.1 j).1 l m (f.block j) (jfc i) (by omega) d
theorem u7(b:Array Value)(w:World):(callFunc 212 b).run prog w = .ok (.enter 212 b) w:=by kernel_rfl
end Go.Proofs.YtnipbplghijdmaaGreatDoor
namespace Go.Proofs.YtnipbplghijdmaaGreatDoor
open RowKit Maps WideShapes Go.Proofs.Tryz
attribute [local go_sem] Oper.semAt_some
structure Wh(E:Nat->Addr)(B:Nat)(ρ:Nat->j3)(d:Nat)(S:jc)(nm:Str)(bl:List (List Rf.Ch))(W:World):Prop where
 dk:Dk E B W ρ d S
 small:Small S
 run:Bh S nm bl
theorem uq{E:Nat->Addr}{B:Nat}{ρ:Nat->j3}{d n:Nat}{S:jc}(nm key:Str)(g:List (List Rf.Ch))(hn:nm.length<1099511627776)(b9:(Rf.zz g).length<1099511627776) :
 Kj Fence.wide n prog 212 #[.agg #[.pointer (some ⟨d,0,none⟩),jf nm,jf key]] #[] encI (qj ρ) (fun i=>i<B) (Wh E B ρ d S nm g) (je8 E (py S g key) (Zx S)) (je6 E B ρ d (S.called false) (py S g key) (Zx S)) (Ls E B ρ d (S.called false)):=by
 intro lp n₀ J Jx aJ hY C W bh hC e5 hS ax;have bp:∀ i,C i->¬qj ρ i/\B<=i:=fun i hc=>⟨(hC i hc).1,Nat.le_of_not_lt (hC i hc).2⟩;have kA:=ja.alloc W (.cells #[.pointer (some ⟨d,0,none⟩),jf nm,jf key] 293) (fun _=>False);have a6:=Rb (key:=key) (hS.dk.same kA) hS.small hn hS.run b9;have m:=hS.run.1;have br:=je W (.cells #[.pointer (some ⟨d,0,none⟩),jf nm,jf key] 293);have hρ:=hS.dk.rep.lt;have e8:=hS.dk.size;have nT:∀ i,W.heap.size<=i->¬qj ρ i:=fun i hi h=>by have:=hρ i h;omega
 have az:=jb a6;have d2:=jb br;have HC:=jb hC;have X:=jb bh;clear a6 br hS hC bh;show CallsIn Fence.wide n prog 212 #[.agg #[.pointer (some ⟨d,0,none⟩),jf nm,jf key],.func (.yield lp) #[] #[]] W _;refine callsIn_of_wp func212 rfl trivial ?_ rfl;simp only[ntmps212,xY,zH,zX,Nat.reduceAdd,Nat.reduceSub,xZ,XA,XB,XC,xL,xM]
 gi_wp2_with fail
 refine⟨trivial,fun h=>(by simp[Fence.wide] at h),(callsIn_wide.2 az.out).mono ?_⟩;rintro e M ⟨k1,D1,⟨s,ev,rfl,be⟩|⟨s,rv,rfl,Y⟩⟩
 all_goals
  have kW:ja W M (qj ρ):=(kA.up).tt k1;have e4:W.heap.size+1<=M.heap.size:=by have:=k1.size;simpa using this
 ·obtain⟨te,ae,rfl⟩:=be.shape
  have eL:py S g key=[]:=by unfold py;rw[if_pos s]
  have eE:Zx S=some true:=by unfold Zx;rw[if_pos s]
  rw[eL,eE] at hY;have HL:=jb eL;have HE:=jb eE;have kB:=ja.alloc M (.cells #[.slice none 0 0,.slice none 0 0] 323) (fun _=>False);have cu:=aJ _ _ _ _ (aJ _ _ _ _ ax (fq kW (fun i _ h=> .inl h))) (Q2 kB);have bv:∀ i,C i->i<(M.alloc (.cells #[.slice none 0 0,.slice none 0 0] 323)).heap.size:=fun i h=>by have:=X.out i h;simp;omega
  obtain⟨fn,tmps,assign,body,hy,hR⟩:=hY [] (eu,.iface te (.pointer (some ae))) C _ cu bv (.inr ⟨true,rfl,rfl,rfl,be.same kB⟩);dsimp only[encI,eu] at hy;have HR:=jb hR;have I:=jb (D1.same kB);clear hR D1 eL eE hY
  gi_wp2
  refine⟨fun h=>by simp[Fence.wide] at h,HR.out.mono ?_⟩;rintro e W3 ⟨C2,ao,T,a8,ap⟩;have D3:=I.out.apart a8 (fun i _ h=>bp i h)
  have a4:∀ i,C2 i->C i\/W.heap.size<=i:=fun i h=>by
   rcases ao i h with h|h
   ·exact .inl h
   ·simp at h
    exact .inr (by omega)
  rcases ap with⟨rfl,V⟩|⟨rfl,c0⟩
  ·gi_wp2
   refine bodyPost_ret (results_none rfl _ _ _) rfl ?_;exact⟨C2,a4,T,⟨_,rfl⟩,.inl ⟨_,⟨D3,.inr ⟨true,_,HE.out,⟨te,ae,rfl⟩,by rw[HL.out];rfl⟩⟩,V⟩⟩
  ·gi_wp2
   refine bodyPost_ret (results_none rfl _ _ _) rfl ?_;exact⟨C2,a4,T,⟨_,rfl⟩,.inr ⟨_,D3,c0⟩⟩
 ·have eL:py S g key=g.flatten.filter (Rf.qk key):=by unfold py;rw[if_neg (by rw[s];decide)]
  have eE:Zx S=none:=by unfold Zx;rw[if_neg (by rw[s];decide)]
  rw[eL,eE] at hY;have HL:=jb eL;have HE:=jb eE;have HY:=jb hY;clear eL eE hY;obtain⟨pr,cr,gr,q,cm,cn⟩:=id Y;subst cm;have kQ:=ja.alloc M (.cells #[.slice pr (Rf.zz g).length cr,.slice (some ⟨gr,0,none⟩) g.length q] 323) (fun _=>False);have ar:=je M (.cells #[.slice pr (Rf.zz g).length cr,.slice (some ⟨gr,0,none⟩) g.length q] 323);have au:=kQ.same (k1.same d2.out (nT _ (zJ _))) id;have U:=Y.keep kQ (fun _ _=>id);have DQ:=D1.same kQ;have bn:=aJ _ _ _ _ (aJ _ _ _ _ ax (fq kW (fun i _ h=> .inl h))) (Q2 kQ);have bs:(M.alloc (.cells #[.slice pr (Rf.zz g).length cr,.slice (some ⟨gr,0,none⟩) g.length q] 323)).heap.size=M.heap.size+1:=by simp
  have bt:(W.alloc (.cells #[.pointer (some ⟨d,0,none⟩),jf nm,jf key] 293)).heap.size=W.heap.size+1:=by simp
  rw[bt] at U;have a5:=U.jh4 m key;obtain⟨t,N⟩:∃ t,t=M.alloc (.cells #[.slice pr (Rf.zz g).length cr,.slice (some ⟨gr,0,none⟩) g.length q] 323):=⟨_,rfl⟩;rw[<-N] at au ar U DQ bn bs
  have box:∀ w',ja t w' C->w'.cell? ⟨M.heap.size,0,none⟩=some (.slice pr (Rf.zz g).length cr)/\w'.cell? ⟨M.heap.size,1,none⟩=some (.slice (some ⟨gr,0,none⟩) g.length q)/\w'.cell? ⟨W.heap.size,2,none⟩=some (jf key):=by
   intro w' k;have h1:=k.same ar (fun h=>by have:=X.out _ h;omega);have h0:=k.same au (fun h=>by have:=X.out _ h;omega);exact⟨(zA h1).trans rfl,(zA h1).trans rfl,(zA h0).trans rfl⟩
  have a0:∀ w',ja t w' C->sw w' (W.heap.size+1) (Kz (.slice pr (Rf.zz g).length cr) (.slice (some ⟨gr,0,none⟩) g.length q)) g:=fun w' k=>U.keep k (fun i hi h=>by have:=X.out _ h;omega);have ai:∀ w',ja t w' C->Dk E B w' ρ d (S.called false):=fun w' k=>DQ.apart k (fun i _ h=>bp i h);have bi:=box t (ja.refl _ _);rw[N] at bi;obtain⟨b0,b1,b2⟩:=bi;have cz:=jb a5;have Z:=jb box;have aj:=jb a0;have I:=jb ai;clear a5 box a0 ai au ar U Y cn DQ ax
  gi_wp2_with fail
  refine⟨trivial,fun h=>(by simp[Fence.wide] at h),(callsIn_wide.2 cz.out).mono ?_⟩;rintro e w2 ⟨rfl,k2⟩;rw[<-N] at k2;have ct:=aJ _ _ _ _ bn (Q2 k2);have cp:ja t w2 C:=k2.up;have cl:Rf.ij (Rf.j2 0 g) key<=g.length:=by have:=jfg (ps:=Rf.j2 0 g) key;rwa [Rf.xq] at this
  have bf:=Oo m key;have e6:=m.small.2;have d0:=jb bf;have ec:=jb N;clear bf N
  gi_wp2
  gi_loopw [6] (fun iv wr=>∃(i:Nat) (G:Nat->Prop),i<=g.length/\iv=j6 i/\J ((bw g key i).map Ja) G wr/\(∀ x,G x->C x\/t.heap.size<=x)/\(∀ x,G x->x<wr.heap.size)/\ja t wr C)
   (fun iv _=>g.length-(intOf iv).toNat)
  case atStart=>exact⟨_,C,cl,rfl,by rw[d0.out];exact ct,fun _ h=> .inl h,fun x h=>by have:=X.out x h;have:=k2.size;omega,cp⟩
  case round =>
   obtain⟨i,G,hi,rfl,cq,z,ah,aq⟩:=hrel;obtain⟨b0,b1,b2⟩:=Z.out wr aq
   gi_wp2_with fail
   refine⟨trivial,fun h=>(by simp[Fence.wide] at h),(callsIn_wide.2 (aj.out wr aq).count).mono ?_⟩;rintro e w3 ⟨rfl,k3⟩;have y:ja t w3 C:=aq.trans k3 (fun _ _ h=>h.elim);have V:=aJ _ _ _ _ cq (Q2 k3);rcases zV i g.length with bd|e7
   ·obtain⟨b,hb⟩:∃ b,g[i]?=some b:=⟨_,xB bd⟩
    have cx:B<=w3.heap.size:=(I.out _ y).size;have ac:=(aj.out _ y).block m b9 (I.out _ y).z8 cx hb;obtain⟨eb,ea,e9⟩:=Z.out w3 y;have d4:=m.len b (ZP hb);have c2:=jb ac;have HB:=jb hb;have di:(i:Int)<(g.length:Int):=by omega
    clear ac hb
    gi_wp2_with fail
    refine⟨trivial,fun h=>(by simp[Fence.wide] at h),(callsIn_wide.2 c2.out).mono ?_⟩;rintro e w4 ⟨v,rfl,A,k4⟩;have av:ja t w4 C:=y.trans k4 (fun _ _ h=>h.elim);have bo:=aJ _ _ _ _ V (Q2 k4);have bg:=Je A;obtain⟨pv,cv,rfl⟩:=jl A;have a1:∀ ad,pv=some ad->w3.heap.size<=ad.block/\ad.block<w4.heap.size:=fun ad e=>A.lt ad.block (by rw[e];rfl);have bq:∀ x,G x->x<w3.heap.size:=fun x h=>by have:=ah x h;have:=k3.size;omega
    have d1:=jb bg;have cy:=jb a1;have dh:=k4.size;have dg:=y.size;have c1:J ((bw g key i++(b.take 0).filter (Rf.qk key)).map Ja) G w4:=by simpa using bo
    clear A bg a1 bo
    gi_wp2
    gi_loopw [49] (fun jv wr=>∃(j:Nat) (D':Nat->Prop),j<=b.length/\jv=j6 j/\J ((bw g key i++(b.take j).filter (Rf.qk key)).map Ja) D' wr/\(∀ x,D' x->G x\/w4.heap.size<=x)/\(∀ x,D' x->x<wr.heap.size)/\ja w4 wr G)
     (fun jv _=>b.length-(intOf jv).toNat)
    case atStart=>exact⟨0,G,zG _,rfl,c1,fun _ h=> .inl h,fun x h=>by have:=bq x h;omega,ja.refl _ _⟩
    case round =>
     obtain⟨j,D',hj,rfl,aw,r,af,F⟩:=hrel;have bj:ja t wr C:=av.trans F (fun x hx h=>(z x h).resolve_right (by omega))
     have a3:∀ x,D' x->C x\/t.heap.size<=x:=fun x h=>by
      rcases r x h with h|h
      ·exact z x h
      ·have:=av.size
       exact .inr (by omega)
     have bu:Chs wr (.slice pv b.length cv) b:=d1.out.keep F (fun _ p' n c e h=>by
      injection e with e
      have:=(cy.out p' e).1
      have:=bq _ h
      omega)
     have e3:=F.size;rcases zV j b.length with D|dj
     ·obtain⟨bb,oo,rfl,e0,e1,e2⟩:=bu.at D
      generalize hx:b[j]=x at e0 e1 e2;obtain⟨u,l,L⟩:=x;simp only at e0 e1 e2;have R:b[j]?=some ⟨u,l,L⟩:=by rw[xB D,hx]
      have ka:=ja.alloc wr (.cells #[jf u,jf l,.bool L] 88) (fun _=>False);have bk:ja t (wr.alloc (.cells #[jf u,jf l,.bool L] 88)) C:=bj.trans ka (fun _ _ h=>h.elim);obtain⟨_,_,m2⟩:=Z.out _ bk;have O:=je wr (.cells #[jf u,jf l,.bool L] 88);have y0:=zA (o:=0) O;have y1:=zA (o:=1) O;have y2:=zA (o:=2) O;simp at y0 y1 y2;have bm:=aJ _ _ _ _ aw (Q2 ka);have ag:∀ x,D' x->x<(wr.alloc (.cells #[jf u,jf l,.bool L] 88)).heap.size:=fun x h=>ZH (af x h) ka.size
      have H:(b.take (j+1)).filter (Rf.qk key)=(b.take j).filter (Rf.qk key)++(if Rf.qk key ⟨u,l,L⟩=true then [⟨u,l,L⟩] else []):=by
       rw[xH,R,xO,yA];by_cases h9:Rf.qk key ⟨u,l,L⟩=true<;>simp[h9]
      have ab:ja w4 (wr.alloc (.cells #[jf u,jf l,.bool L] 88)) G:=F.trans ka (fun _ _ h=>h.elim);have d3:(j:Int)<(b.length:Int):=by omega
      by_cases hb5:u<key
      ·have p:Rf.qk key ⟨u,l,L⟩=false:=by simp[Rf.qk,hb5]
       have cw:Op.bytesLess u key=true:=by rw[bytesLess_eq];simpa using hb5
       rw[p,if_neg (by decide),ZC] at H;have ay:=jb H;have ed:=jb R;clear H R hb5 p hx O
       gi_wp2
       refine⟨fun f h=>(by cases h),?_⟩
       gi_wp2
       go_roundw
       case rel=>exact⟨j+1,D',D,by simp,by rw[ay.out];exact bm,r,ag,ab⟩
       case measure=>simp[intOf];omega
      ·have p:Rf.qk key ⟨u,l,L⟩=true:=by simp[Rf.qk,hb5]
       have cw:Op.bytesLess u key=false:=by rw[bytesLess_eq];simpa using hb5
       rw[p,if_pos rfl] at H;obtain⟨bc,ba⟩:=jf0 HB.out R p;obtain⟨fn,tmps,assign,body,hy,hR⟩:=HY.out ((bw g key i++(b.take j).filter (Rf.qk key)).map Ja) (Ja ⟨u,l,L⟩) D' _ bm ag (.inl ⟨_,_,congrArg (List.map Ja) bc,ba,rfl⟩);dsimp only[encI,Ja] at hy;have HR:=jb hR;have ay:=jb H;clear hR H bc ba R hb5 p hx O
       gi_wp2
       refine⟨fun h=>by simp[Fence.wide] at h,HR.out.mono ?_⟩;rintro e W3 ⟨C2,ao,T,a8,ap⟩
       have a2:∀ x,C2 x->G x\/w4.heap.size<=x:=fun x h=>by
        rcases ao x h with h|h
        ·exact r x h
        ·simp at h
         exact .inr (by omega)
       have co:ja w4 W3 G:=ab.trans a8 (fun x hx h=>(r x h).resolve_right (by omega));have bx:ja t W3 C:=bk.trans a8 (fun x hx h=>(a3 x h).resolve_right (by omega));rcases ap with⟨rfl,cs⟩|⟨rfl,bz⟩
       ·gi_wp2
        go_roundw
        case rel =>
         refine⟨j+1,C2,D,by simp,?_,a2,T,co⟩;rw[ay.out,<-XL,xP];exact cs
        case measure=>simp[intOf];omega
       ·gi_wp2
        refine bodyPost_ret (results_none rfl _ _ _) rfl ?_;refine⟨C2,fun x h=>?_,T,⟨_,rfl⟩,.inr ⟨_,I.out _ bx,bz⟩⟩;rcases a2 x h with h|h
        ·exact(z x h).imp id (fun h=>by omega)
        ·have:=av.size
         exact .inr (by omega)
     ·obtain rfl:j=b.length:=by omega
      rw[xR,<-Th HB.out] at aw
      gi_wp2
      go_roundw
      case rel=>exact⟨i+1,D',bd,by simp,aw,a3,af,bj⟩
      case measure=>simp[intOf];omega
   ·obtain rfl:i=g.length:=by omega
    gi_wp2
    go_end0;refine⟨G,fun x h=>(z x h).imp id (fun h=>by omega),fun x h=>by have:=ah x h;have:=k3.size;omega,⟨_,rfl⟩,.inl ⟨_,⟨I.out _ y,.inl ⟨HE.out,by rw[HL.out]⟩⟩,?_⟩⟩;rw[Vx (zJ _)] at V;exact V
end Go.Proofs.YtnipbplghijdmaaGreatDoor
namespace Go.Proofs.YtnipbplghijdmaaGreatDoor
open RowKit Maps WideShapes Go.Proofs.Tryz
variable {E:Nat->Addr} {B d:Nat} {w:World} {l:List Rf.Ch} {bl:List (List Rf.Ch)} {ns:List Nat} {bls:List (List (List Rf.Ch))}
def Y2(l:List Rf.Ch):J5:=fun S=>(S,l,none)
def Y9(bl:List (List Rf.Ch))(key:Str):J5:=fun S=>(S.called false,py S bl key,Zx S)
theorem jds{P:jc->Prop}{ρ:Nat->j3}{v:Value}(j:Chs w v l)(f:l.length<1048576)(m:∀ p n c,v = .slice (some p) n c->¬qj ρ p.block/\p.block<w.heap.size)(o:B<=w.heap.size):kh P E B ρ d w (Bx v) (Y2 l):=by
 intro g W S k D Z;refine⟨Z,f,?_⟩;have b:Chs W v l:=j.keep k (fun _ p n c e=>(m p n c e).1);refine vw (Needs:=jah B v) (Start:=fun W=>Chs W v l/\Dk E B W ρ d S) fo (fun n=>fg v l f) (fun i g=>?_) (fun W' k'=>⟨b.same k',D.same k'⟩) D.rep.lt D.size g f;rcases g with h|⟨p,n,c,e,rfl⟩
 ·have:=D.size
  omega
 ·exact ZH (m p n c e).2 k.size
theorem jc3{P:jc->Prop}{ρ:Nat->j3}{m:Nat}{key:Str}(l:m<=9223372036854775807)(f:(Rf.zz bl).length<1099511627776)(g:bl.flatten.length<1048576)(o:∀ S,P S->P (S.called false)/\Small S/\Bh S (jo m) bl):kh P E B ρ d w (Yo d m key) (Y9 bl key):=by
 intro c W S k D Z;obtain⟨r,q,p⟩:=o S Z
 have b:(py S bl key).length<1048576:=by
  unfold py
  split
  ·simp
  ·have:=ZT (Rf.qk key) bl.flatten
   omega
 refine⟨r,b,?_⟩
 have j:(jo m).length<1099511627776:=by
  have:=yj l;unfold jo;rw[zW];simp;omega
 exact vw (Needs:=fun i=>i<B) (Start:=Wh E B ρ d S (jo m) bl) u7 (fun n=>uq (jo m) key bl j f) (fun i c=>ZH c D.size) (fun W' k'=>⟨D.same k',q,p⟩) D.rep.lt D.size c b
structure fu(P:jc->Prop)(ns:List Nat)(bls:List (List (List Rf.Ch))):Prop where
 len:bls.length=ns.length
 num:∀ n∈ns,n<=9223372036854775807
 small:∀ bl∈bls,(Rf.zz bl).length<1099511627776/\bl.flatten.length<1048576/\Rf.Laid bl
 file:∀(k n:Nat) bl,ns[k]?=some n->bls[k]?=some bl->∀ S,P S->Bh S (jo n) bl
 step:∀ S,P S->P (S.called false)/\Small S
abbrev xz(bls:List (List (List Rf.Ch)))(key:Str):List J5:=bls.map (fun bl=>Y9 bl key)
theorem fu.layers{P:jc->Prop}(h:fu P ns bls){ρ:Nat->j3}(key:Str) :
 ∀(k:Nat) f st,(ns.map (fun n=>Yo d n key))[k]?=some f->(xz bls key)[k]?=some st->kh P E B ρ d w f st:=by
 intro k f st c b;rw[ZN] at c b
 cases hn:ns[k]? with
 | none=>rw[hn] at c;cases c
 | some n =>
  cases hb:bls[k]? with
  | none=>rw[hb] at b;cases b
  | some bl =>
   rw[hn] at c;rw[hb] at b;cases c;cases b;have g:=h.small bl (ZP hb);exact jc3 (h.num n (ZP hn)) g.1 g.2.1 (fun S hS=>⟨(h.step S hS).1,(h.step S hS).2,h.file k n bl hn hb S hS⟩)
def lr(l:List Rf.Ch):Prop:=Rf.jw l/\(∀ c∈l,c.key≠[])/\l.length<1048576
theorem lr.up(h:lr l)(d:Str):lr (Y5 d l):=by
 have b:(Y5 d l).Sublist l:=List.takeWhile_sublist _;exact⟨h.1.sublist b,fun c hc=>h.2.1 c (b.subset hc),XP b.length_le h.2.2⟩
theorem u1{f:Str}{c:List J5}(h:∀ st∈c,∀ S,lr (st S).2.1):∀ {S:jc} {ls:List (List Rf.Ch)},(j9 f c S).2 = .inl ls->∀ l∈ls,lr l:=by
 induction c with
 | nil =>
  intro S ls e l d;cases e;cases d
 | cons st r ih =>
  intro S ls e l d;unfold j9 at e
  cases hg:Zh f (st S)with
  | none=>rw[hg] at e;cases e
  | some x =>
   rw[hg] at e;simp only at e
   cases hr:j9 f r (st S).1 with
   | mk S2 q =>
    rw[hr] at e
    cases q with
    | inr b=>cases e
    | inl ls2 =>
     cases e;rcases zF.1 d with rfl|d
     ·unfold Zh at hg
      split at hg
      ·cases hg
       exact(h st zR S).up f
      ·cases hg
     ·exact ih (fun st' h'=>h st' (zQ _ h')) (by rw[hr]) l d
theorem wk.of{ls:List (List Rf.Ch)}(h:∀ l∈ls,lr l):wk ls:=⟨fun l hl=>(h l hl).1,fun l hl=>(h l hl).2.1,fun l hl=>(h l hl).2.2⟩
theorem jc2(h:Rf.Laid bl)(g:bl.flatten.length<1048576)(key:Str)(S:jc):lr (Y9 bl key S).2.1:=by
 show lr (py S bl key);unfold py
 split
 ·exact⟨List.Pairwise.nil,⟨fun c hc=>(by cases hc),ZM _⟩⟩
 ·have d:(bl.flatten.filter (Rf.qk key)).Sublist bl.flatten:=ZF
  refine⟨h.rising.sublist d,fun c hc=>?_,XP d.length_le g⟩;obtain⟨b,i,f⟩:=List.mem_flatten.1 (d.subset hc);have:=(Rf.Jk c).1 (h.ok b i c f);intro e;rw[e] at this;simp at this
theorem fu.y7{P:jc->Prop}(h:fu P ns bls)(key:Str):∀ st∈xz bls key,∀ S,lr (st S).2.1:=by
 intro st b S;obtain⟨bl,c,rfl⟩:=zS.1 b;exact jc2 (h.small bl c).2.2 (h.small bl c).2.1 key S
theorem Mg(p:Option Addr)(m c:Nat)(b:Str)(w:World):Calls prog 71 #[.slice p m c,jf b] w fun e w'=>e = .returned (.func (.func 123) #[.agg #[.slice p m c,jf b]] #[])/\w'=w:=by
 go_enter func71,ntmps71;go_wp2;go_ret;exact⟨rfl,rfl⟩
end Go.Proofs.YtnipbplghijdmaaGreatDoor
namespace Go.Proofs.YtnipbplghijdmaaGreatDoor
open RowKit Maps WideShapes Go.Shelf Go.Proofs.Tryz
attribute [local go_sem] Oper.semAt_some
def stays(c:Rf.Ch):Bool:=!c.gone
def kept(l:List Rf.Ch):List Rf.Ch:=l.filter stays
theorem Mj{l:List Rf.Ch}{m:Nat}{c:Rf.Ch}(h:l[m]?=some c):kept (l.take (m+1))=kept (l.take m)++(if c.gone=true then [] else [c]):=by
 unfold kept;rw[xH,h,xO,yA];by_cases hc:c.gone=true<;>simp[stays,hc]
theorem Cz(l:List Rf.Ch)(m:Nat):(kept (l.take m)).length<=m:=by
 have c:=ZT stays (l.take m);have b:=List.length_take_le m l;unfold kept;omega
def Ty(E:Nat->Addr)(B:Nat)(ρ:Nat->j3)(d:Nat)(S':jc)(l:List Rf.Ch)(err:Option Bool)(w:World)(e:Ending)(w':World):Prop :=
 ∃ v ev,e = .returned (.tuple #[v,ev])/\ja w w' (qj ρ)/\Dk E B w' ρ d S' /\
 ((ev = .nilIface/\err=none/\w'.ownsRow w.heap.size 88 3 v (kept l).length (jj (kept l)))\/(∃ bad,err=some bad/\v = .slice none 0 0/\lu E w' ev bad))
theorem jdz{P:jc->Prop}{E:Nat->Addr}{B:Nat}{ρ:Nat->j3}{d:Nat}{S:jc}{w:World}{b:Nat}{t:TypeId}(m0:Rf.Man)(rv last mv:Value)(ch cl:Bool)(N:List (List (List Rf.Ch)))(H:Env E B w)(D:Dk E B w ρ d S)(Z:P S)(R:fu P m0.settled N)(hb:w.heap[b]?=some (.cells (qv (.pointer (some ⟨d,0,none⟩)) (jg m0.next) (jg m0.last) (jg m0.log) (jg m0.base) rv last mv ch cl) t (0,0)))(hv:Jw w rv m0.runs)(hl:m0.runs.length<262144)(c8:(Xf (j9 [] (xz N []) S)).length<1048576) :
 Calls prog 119 #[.pointer (some ⟨b,0,none⟩)] w (Ty E B ρ d (j9 [] (xz N []) S).1 (Xf (j9 [] (xz N []) S)) (Ll (j9 [] (xz N []) S)) w):=by
 have dc:=xy m0;have kA:ja w (((w.alloc (.cells #[.slice none 0 0] 38)).alloc (.cells #[.nilIface] 128)).alloc (.cells #[.slice none 0 0] 38)) (fun _=>False):=((ja.alloc w _ _).more _).more _;have af:=Zw d m0 rv last mv ch cl [] (H.same kA) (kA.same hb id) (hv.same kA) (by omega) R.num;have b3:∀ ls,(j9 [] (xz N []) S).2 = .inl ls->wk ls:=fun ls e=>wk.of (u1 (R.y7 []) e);have aw:(m0.settled.map (fun n=>Yo d n [])).length=(xz N []).length:=by simp[R.len]
 have aa:(m0.settled.map (fun n=>Yo d n [])).length=m0.settled.length:=by simp
 have ay:∀ f∈m0.settled.map (fun n=>Yo d n []),∃ g a b,f = .func g a b:=by
  intro f hf;obtain⟨n,_,rfl⟩:=zS.1 hf;exact⟨_,_,_,rfl⟩
 have bl:Hid (∀(W:World) (k:Nat) f st,(m0.settled.map (fun n=>Yo d n []))[k]?=some f->(xz N [])[k]?=some st->kh P E B ρ d W f st):=fun W=>R.layers [];have hρ:=D.rep.lt;have hB:=D.size;obtain⟨fs,bq⟩:∃ fs,fs=m0.settled.map (fun n=>Yo d n []):=⟨_,rfl⟩;obtain⟨ns,c7⟩:∃ ns,ns=m0.settled.length:=⟨_,rfl⟩;rw[<-bq] at af aw aa ay bl;rw[<-c7] at af aa dc;have aj:=fun(lv:Value) (n:Nat)=>kz (P:=P) (E:=E) (B:=B) (ρ:=ρ) (d:=d) (n:=n) lv fs (xz N []) [] aw (by omega) ay b3;generalize j9 [] (xz N []) S=G at aj c8 ⊢;generalize Xf G=l at aj c8 ⊢;generalize Ll G=err at aj ⊢;generalize G.1=S' at aj ⊢;have dj:=jb aj;have cm:=jb af;have HB:=jb hb;have f0:=jb bq;clear aj af hb bq c7 b3 aw ay;refine(callsIn_wide (n:=9)).1 ?_;refine callsIn_of_wp_marks func119 rfl trivial ?_ rfl;simp only[ntmps119,xY,zH,zX,Nat.reduceAdd,Nat.reduceSub,xZ,XA,XB,XC,xL,xM]
 gi_wp2_with fail
 refine⟨trivial,(callsIn_wide.2 cm.out).mono ?_⟩;rintro e W0 ⟨aq,ar,rfl,a9,kS⟩
 gi_wp2_with fail
 refine⟨trivial,(callsIn_wide.2 (Mg aq ns ar [] W0)).mono ?_⟩;rintro e U ⟨rfl,rfl⟩
 gi_wp2
 have kW:ja w U (fun _=>False):=kA.tt kS;have sA:(((w.alloc (.cells #[.slice none 0 0] 38)).alloc (.cells #[.nilIface] 128)).alloc (.cells #[.slice none 0 0] 38)).heap.size=w.heap.size+1+1+1:=by simp
 have sW:w.heap.size+1+1+1<=U.heap.size:=by have:=kS.size;omega
 have b0:U.heap[w.heap.size]?=some (.cells #[.slice none 0 0] 38 (0,0)) :=
  kS.same ((((ja.alloc _ _ (fun _=>False)).more _)).same (je w _) id) id
 have b1:U.heap[w.heap.size+1]?=some (.cells #[.nilIface] 128 (0,0)):=by
  have:=je (w.alloc (.cells #[.slice none 0 0] 38)) (.cells #[.nilIface] 128);rw[xJ] at this;exact kS.same ((ja.alloc _ _ (fun _=>False)).same this id) id
 have b2:U.heap[w.heap.size+1+1]?=some (.cells #[.slice none 0 0] 38 (0,0)):=by
  have:=je ((w.alloc (.cells #[.slice none 0 0] 38)).alloc (.cells #[.nilIface] 128)) (.cells #[.slice none 0 0] 38);rw[xJ,xJ] at this;exact kS.same this id
 have nT:∀ i,w.heap.size<=i->¬qj ρ i:=fun i hi h=>by have:=hρ i h;omega
 have az:ll U (.slice aq ns ar) fs:=by
  subst aa;exact gh a9 rfl
 have bj:fs≠[]->∀ p n c,Value.slice aq ns ar = .slice (some p) n c->¬qj ρ p.block:=by
  intro _ p n c e;injection e with e;have:=(a9.lt p.block (by rw[e];rfl)).1;exact nT _ (by omega)
 have a4:∀ W1,ja U W1 (fun _=>False)->Ce P E B ρ d S (.slice aq ns ar) fs (xz N []) W1:=fun W1 k=>⟨D.same (kW.tt k),Z,az.same k,bj,bl.out W1⟩;have di:=jb a4;clear a4 az bj a9
 have br:∀ {W:World} {D:Nat} {v:Value},err=none->U.heap.size<=D->¬v.ownBlock=some D->W.heap[D]?=some (.deferred (some []))->Dk E B W ρ d S' ->
  W.heap[w.heap.size]?=some (.cells #[.slice none 0 0] 38 (0,0))->W.heap[w.heap.size+1]?=some (.cells #[.nilIface] 128 (0,0))->W.ownsRow w.heap.size 88 3 v (kept l).length (jj (kept l))->(∀ g,v.ownBlock=some g->w.heap.size+3<=g)->ja w W (qj ρ) ->
  (((W.setCell ⟨w.heap.size,0,none⟩ v).setCell ⟨w.heap.size+1,0,none⟩ .nilIface)).heap[D]?=some (.deferred (some [])) /\
  ((((W.setCell ⟨w.heap.size,0,none⟩ v).setCell ⟨w.heap.size+1,0,none⟩ .nilIface)).putObj D (.deferred none)).cell? ⟨w.heap.size,0,none⟩=some v /\
  ((((W.setCell ⟨w.heap.size,0,none⟩ v).setCell ⟨w.heap.size+1,0,none⟩ .nilIface)).putObj D (.deferred none)).cell? ⟨w.heap.size+1,0,none⟩=some .nilIface /\
  Ty E B ρ d S' l err w (.returned (.tuple #[v,.nilIface])) ((((W.setCell ⟨w.heap.size,0,none⟩ v).setCell ⟨w.heap.size+1,0,none⟩ .nilIface)).putObj D (.deferred none)):=by
  intro W D v h1 hD bb hK DK g1 g2 z s Y
  have k1:=ja.setCell W ⟨w.heap.size,0,none⟩ v
  have k2:=ja.setCell (W.setCell ⟨w.heap.size,0,none⟩ v) ⟨w.heap.size+1,0,none⟩ .nilIface
  have k3:=ja.putObj ((W.setCell ⟨w.heap.size,0,none⟩ v).setCell ⟨w.heap.size+1,0,none⟩ .nilIface) D (.deferred none)
  have kk:ja W ((((W.setCell ⟨w.heap.size,0,none⟩ v).setCell ⟨w.heap.size+1,0,none⟩ .nilIface)).putObj D (.deferred none)) (fun i=>i=w.heap.size\/i=w.heap.size+1\/i=D) :=
   ((k1.mono (fun _ _ h=> .inl h)).trans k2 (fun _ _ h=> .inr (.inl h))).trans k3 (fun _ _ h=> .inr (.inr h))
  have e1:=k2.same (jd (o:=0) g1 v) (by simp)
  have e2:=jd (o:=0) (k1.same g2 (by simp)) Value.nilIface
  refine⟨k2.same (k1.same hK (by simp;omega)) (by simp;omega),(zA (k3.same e1 (by omega))).trans rfl,(zA (k3.same e2 (by omega))).trans rfl,_,_,rfl,Y.trans kk (fun i hi h=>by omega),?_,.inl ⟨rfl,h1,?_⟩⟩
  ·refine DK.apart kk (fun i hi h=>?_)
   rcases h with h|h|h
   ·exact⟨nT i (by omega),by omega⟩
   ·exact⟨nT i (by omega),by omega⟩
   ·exact⟨nT i (by omega),by omega⟩
  ·refine kk.row z (fun g J h=>?_)
   have:=s g J;rcases h with h|h|h
   ·omega
   ·omega
   ·exact bb (h▸J)
 refine dm rfl (by decide) (gf:=123) (rv:=#[.agg #[.slice aq ns ar,jf []]]) (lb:=#[]) rfl trivial lj (dj.out _ 8) (fun _=>rfl) (fun i h=>by have:=hρ i h;omega) (fun i h=>by omega) di.out
  (fun ai C W=>∃(m:Nat) (v:Value),ai=(l.take m).map Ja/\m<=l.length/\W.heap[w.heap.size]?=some (.cells #[.slice none 0 0] 38 (0,0)) /\
   W.heap[w.heap.size+1]?=some (.cells #[.nilIface] 128 (0,0))/\W.heap[w.heap.size+1+1]?=some (.cells #[v] 38 (0,0))/\W.ownsRow w.heap.size 88 3 v (kept (l.take m)).length (jj (kept (l.take m)))/\(∀ g,v.ownBlock=some g->w.heap.size+3<=g) /\
   ja w W (qj ρ)/\(∀ i,C i↔i=w.heap.size\/i=w.heap.size+1\/i=w.heap.size+1+1\/v.ownBlock=some i))
  (fun c ai C W=>(c = .ret/\∃ bad ev,err=some bad/\lu E W ev bad/\W.heap[w.heap.size]?=some (.cells #[.slice none 0 0] 38 (0,0))/\W.heap[w.heap.size+1]?=some (.cells #[ev] 128 (0,0))/\ja w W (qj ρ)))
  ?hI ?hIx (fun i=>i=w.heap.size\/i=w.heap.size+1\/i=w.heap.size+1+1) ?hC0 ?h0 ?round ?done ?stop
 case hI =>
  rintro ai C A B' ⟨m,v,e,hm,g1,g2,g3,z,s,Y,hC⟩ X
  have out:∀ i,w.heap.size<=i->(i<w.heap.size+3\/v.ownBlock=some i)->¬(qj ρ i\/(U.heap.size<=i/\¬C i)):=by
   rintro i h1 h2 (h3|⟨h3,h4⟩)
   ·exact nT i h1 h3
   ·rcases h2 with h2|h2
    ·omega
    ·exact h4 ((hC i).2 (.inr (.inr (.inr h2))))
  refine⟨m,v,e,hm,ja.same X g1 (out _ (by omega) (.inl (by omega))),ja.same X g2 (out _ (by omega) (.inl (by omega))),ja.same X g3 (out _ (by omega) (.inl (by omega))),
   ja.row X z (fun g J=>out g (by have:=s g J;omega) (.inr J)),s,Y.trans X (fun i hi h=>?_),hC⟩
  rcases h with h|⟨h,_⟩
  ·exact h
  ·omega
 case hIx =>
  rintro c ai C A B' lp r ⟨rfl,bad,ev,h1,h3,h4,h5,h6⟩ bo et hr X;have M:∀ i,i<w.heap.size+3->¬i=lp:=fun i hi=>by omega
  refine⟨rfl,bad,ev,h1,?_,X.same h4 (M _ (by omega)),X.same h5 (M _ (by omega)),h6.trans X (fun i hi e=>by omega)⟩;obtain⟨g,he,J⟩:=h3;exact⟨g,he.keep X (fun i c e hc=>by rw[e,hr] at hc;cases hc),J⟩
 case hC0 =>
  rintro i (h|h|h)
  all_goals exact⟨by omega,nT i (by omega),fun h=>by omega⟩
 case h0=>exact⟨0,.slice none 0 0,rfl,zG _,b0,b1,b2,ZL _ _ _ _,fun g J=>(by cases J),kW.up,fun i=>by simp[Value.ownBlock]⟩
 case round =>
  rintro lp ai x C W bo ⟨rl,c6⟩ bn cc ⟨m,v,rfl,hm,g1,g2,g3,z,s,Y,hC⟩ cj;have ew:=zC c6;rcases cj with⟨k,c,e,X,rfl⟩|⟨bad,he,e,c3,b9⟩
  ·have ca:=(zO.1 X).1
   obtain rfl:m=k:=by
    have:=congrArg List.length e;simp at this;omega
   clear e;obtain⟨ck,cv,cg⟩:=c;dsimp only[encI,Ja]
   gi_wp2
   refine⟨ja.alloc W _ _,?_⟩;intro F k2 _;have ka:ja W F (fun i=>i=lp):=((ja.alloc W _ (fun _=>False)).up).tt k2;have M:∀ i,i<w.heap.size+3->¬i=lp:=fun i hi=>by omega
   have hb:=k2.same (je W _) (by omega);have q0:=zA (o:=0) hb;have q1:=zA (o:=1) hb;have q2:=zA (o:=2) hb;have a8:=ka.same g1 (M _ (by omega));have a7:=ka.same g2 (M _ (by omega));have bd:=ka.same g3 (M _ (by omega));have a3:=zA (o:=0) bd;have f3:=zB (o:=0) bd;simp at q0 q1 q2 a3;have I:=ka.row z (fun g J e=>bn ((hC lp).2 (.inr (.inr (.inr (e▸J))))));have T:=jb hC;have ah:ja w F (qj ρ):=Y.trans ka (fun i hi e=>by omega);have am:=jb a8;have al:=jb a7;have au:=jb bd;clear g1 g2 g3 a8 a7 bd hb hC;have dd:W.heap.size+1<=F.heap.size:=by have:=k2.size;simpa using this
   have a6:=Mj X;have c9:=Cz l m;have e1:(l.take m).map Ja++[Ja ⟨ck,cv,cg⟩]=(l.take (m+1)).map Ja:=(ki X).symm;have E1:=jb e1;clear e1
   cases cg with
   | true =>
    simp only[if_true,ZC] at a6;have dk:=jb a6;clear a6
    gi_wp2
    refine⟨C,fun i h=> .inl h,fun i h=>ZH (cc i h) (by omega),ja.refl _ _,m+1,v,E1.out,ca,am.out,al.out,au.out,by rw[dk.out];exact I,s,ah,T.out⟩
   | false =>
    rw[if_neg (by simp)] at a6;obtain⟨pv,cpv,rfl⟩:=jl I;obtain⟨q,hq⟩:∃ q,q=(kept (l.take m)).length:=⟨_,rfl⟩;obtain⟨L,hL⟩:∃ L,L=kept (l.take m):=⟨_,rfl⟩;rw[<-hL] at hq I a6 c9 z s T a3 au;rw[<-hq] at I c9 s T a3 au
    have cf:∀(V:Option Addr) (y:Nat) (O:World),O.ownsRow w.heap.size 88 3 (.slice V (q+1) y) (q+1) (jj L++jj [⟨ck,cv,false⟩]) ->
     (F.alloc (.cells #[jf ck,jf cv,.bool false] 88)).grownBy O (Value.slice pv q cpv).ownBlock->((Value.slice V (q+1) y).ownBlock=(Value.slice pv q cpv).ownBlock\/(Value.slice V (q+1) y).ownBlock=some (F.alloc (.cells #[jf ck,jf cv,.bool false] 88)).heap.size) ->
     ∃ C':Nat->Prop,(∀ i,C' i->C i\/W.heap.size<=i)/\(∀ i,C' i->i<(O.setCell ⟨w.heap.size+1+1,0,none⟩ (.slice V (q+1) y)).heap.size)/\ja F (O.setCell ⟨w.heap.size+1+1,0,none⟩ (.slice V (q+1) y)) C /\
      ∃(m':Nat) (v:Value),(l.take m).map Ja++[Ja ⟨ck,cv,false⟩]=(l.take m').map Ja/\m'<=l.length /\
       (O.setCell ⟨w.heap.size+1+1,0,none⟩ (.slice V (q+1) y)).heap[w.heap.size]?=some (.cells #[.slice none 0 0] 38 (0,0))/\(O.setCell ⟨w.heap.size+1+1,0,none⟩ (.slice V (q+1) y)).heap[w.heap.size+1]?=some (.cells #[.nilIface] 128 (0,0)) /\
       (O.setCell ⟨w.heap.size+1+1,0,none⟩ (.slice V (q+1) y)).heap[w.heap.size+1+1]?=some (.cells #[v] 38 (0,0))/\(O.setCell ⟨w.heap.size+1+1,0,none⟩ (.slice V (q+1) y)).ownsRow w.heap.size 88 3 v (kept (l.take m')).length (jj (kept (l.take m')))/\(∀ g,v.ownBlock=some g->w.heap.size+3<=g) /\
       ja w (O.setCell ⟨w.heap.size+1+1,0,none⟩ (.slice V (q+1) y)) (qj ρ)/\(∀ i,C' i↔i=w.heap.size\/i=w.heap.size+1\/i=w.heap.size+1+1\/v.ownBlock=some i):=by
     intro V y O ba ak bp
     have kA:ja F (F.alloc (.cells #[jf ck,jf cv,.bool false] 88)) (fun _=>False):=ja.alloc _ _ _
     have k3:ja F O (fun i=>(Value.slice pv q cpv).ownBlock=some i):=(kA.up).trans (ja.grown ak) (fun i _ e=>e.symm)
     have k4:=ja.setCell O ⟨w.heap.size+1+1,0,none⟩ (.slice V (q+1) y)
     have ag:∀ i,i<w.heap.size+3->¬(Value.slice pv q cpv).ownBlock=some i:=fun i hi e=>by have:=s i e;omega
     have bc:=k3.same au.out (ag _ (by omega))
     have es:=k3.size
     have er:=kW.size
     have ex:w.heap.size+3<=W.heap.size:=by omega
     have ax:∀ g,(Value.slice V (q+1) y).ownBlock=some g->(Value.slice pv q cpv).ownBlock=some g\/F.heap.size<=g:=by
      intro g J;rcases bp with h|h
      ·exact .inl (h▸J)
      ·rw[h] at J
       cases J;exact .inr (by simp)
     have bs:=k4.row ba (fun g J e=>by
      have e':g=w.heap.size+1+1:=e
      rcases ax g J with h|h
      ·exact ag g (by omega) h
      ·omega)
     refine⟨fun i=>i=w.heap.size\/i=w.heap.size+1\/i=w.heap.size+1+1\/(Value.slice V (q+1) y).ownBlock=some i,?_,?_,?_,m+1,.slice V (q+1) y,E1.out,ca,?_,?_,?_,?_,?_,?_,fun _=>Iff.rfl⟩
     ·rintro i (h|h|h|h)
      ·exact .inl ((T.out i).2 (.inl h))
      ·exact .inl ((T.out i).2 (.inr (.inl h)))
      ·exact .inl ((T.out i).2 (.inr (.inr (.inl h))))
      ·rcases ax i h with h|h
       ·exact .inl ((T.out i).2 (.inr (.inr (.inr h))))
       ·exact .inr (by omega)
     ·intro i h
      have c4:(O.setCell ⟨w.heap.size+1+1,0,none⟩ (.slice V (q+1) y)).heap.size=O.heap.size:=by simp[World.setCell]
      rw[c4];rcases h with h|h|h|h
      ·omega
      ·omega
      ·omega
      ·exact(ba.lt i h).2
     ·exact(k3.mono (fun i _ h=>(T.out i).2 (.inr (.inr (.inr h))))).trans k4 (fun i _ e=>(T.out i).2 (.inr (.inr (.inl e))))
     ·exact k4.same (k3.same am.out (ag _ (by omega))) (by simp;omega)
     ·exact k4.same (k3.same al.out (ag _ (by omega))) (by simp)
     ·exact(jd bc _).trans rfl
     ·rw[a6,zW,<-hq,df];exact bs
     ·intro g J
      rcases ax g J with h|h
      ·exact s g h
      ·omega
     ·exact(ah.trans k3 (fun i hi e=>by have:=s i e;omega)).trans k4 (fun i hi e=>by have e':i=w.heap.size+1+1:=e;omega)
    have ce:q+1<=maxLen:=by unfold maxLen;omega
    have cb:(q+1)*40<=140737488355328:=by omega
    have cd:w.heap.size<=(F.alloc (.cells #[jf ck,jf cv,.bool false] 88)).heap.size:=by simp;have:=kW.size;omega
    have bk:∀ j u,(jj [⟨ck,cv,false⟩])[j]?=some u->(F.alloc (.cells #[jf ck,jf cv,.bool false] 88)).cell? ((⟨F.heap.size,0,none⟩:Addr).add j)=some u:=J8 (je F _) rfl;have bi:=na [⟨ck,cv,false⟩];obtain⟨j0,hj,db,da,d9⟩:=info_parts Tryz.dq
    have c5:∀ O:World,(F.alloc (.cells #[jf ck,jf cv,.bool false] 88)).grownBy O (Value.slice pv q cpv).ownBlock->O.cell? ⟨w.heap.size+1+1,0,none⟩=some (.slice pv q cpv)/\O.frozen? ⟨w.heap.size+1+1,0,none⟩=false:=by
     intro O ak;have bc:=(ja.grown ak).same ((ja.alloc F (.cells #[jf ck,jf cv,.bool false] 88) (fun _=>False)).same au.out id) (fun e=>by have:=s _ e.symm;omega);exact⟨(zA bc).trans rfl,zB bc⟩
    have dh:=jb c5;have cq:=jb cf;have ds:=jb ce;have dr:=jb cb;have cr:=jb cd;have cp:=jb bk;have co:=jb bi;have cn:=jb (I.alloc (.cells #[jf ck,jf cv,.bool false] 88));clear c5 cf ce cb cd bk bi a6 hq hL z I
    gi_wp2_with (gi_at_builtin;refine Xa _ rfl (.tmp 18) (.tmp 20) 38 rfl w.heap.size 88 j0 su 3 40 underlying38 hj db da d9 rfl (ZM 2) (.slice pv q cpv) q (jj L) rfl cn.out ⟨F.heap.size,0,none⟩ 1 1 (jj [⟨ck,cv,false⟩]) rfl rfl cp.out co.out ds.out dr.out cr.out ?_;intro V y O ba ak bp;obtain⟨ez,ey⟩:=dh.out O ak)
    exact cq.out V y O ba ak bp
  ·obtain⟨x1,ev⟩:=x
   simp only at c3 b9;subst c3;obtain⟨tv,av,rfl⟩:=b9.shape;dsimp only[encI,eu]
   gi_wp2
   refine⟨ja.alloc W _ _,?_⟩;intro F k2 _;have ka:ja W F (fun i=>i=lp):=((ja.alloc W _ (fun _=>False)).up).tt k2;have M:∀ i,i<w.heap.size+3->¬i=lp:=fun i hi=>by omega
   have a8:=ka.same g1 (M _ (by omega));have a7:=ka.same g2 (M _ (by omega));have a1:=zA (o:=0) a8;have f1:=zB (o:=0) a8;have a2:=zA (o:=0) a7;have f2:=zB (o:=0) a7;simp at a1 a2;have am:=jb a8;have al:=jb a7;have dn:=jb g1;have dl:=jb g2;have HC:=jb hC;clear g1 g2 g3 a8 a7 hC;have ah:ja w F (qj ρ):=Y.trans ka (fun i hi e=>by omega);have dd:W.heap.size+1<=F.heap.size:=by have:=k2.size;simpa using this
   have a0:lu E ((F.setCell ⟨w.heap.size,0,none⟩ (.slice none 0 0)).setCell ⟨w.heap.size+1,0,none⟩ (.iface tv (.pointer (some av)))) (.iface tv (.pointer (some av))) bad:=by
    obtain⟨g,J,dg⟩:=b9
    have k3:ja W ((F.setCell ⟨w.heap.size,0,none⟩ (.slice none 0 0)).setCell ⟨w.heap.size+1,0,none⟩ (.iface tv (.pointer (some av)))) (fun i=>i=lp\/i=w.heap.size\/i=w.heap.size+1) :=
     ((ka.mono (fun _ _ h=> .inl h)).set (p:=⟨w.heap.size,0,none⟩) (.inr (.inl rfl)) _).set (p:=⟨w.heap.size+1,0,none⟩) (.inr (.inr rfl)) _
    refine⟨g,J.keep k3 (fun i c h hc=>?_),dg⟩;rcases h with h|h|h
    ·rw[h,c6] at hc;cases hc
    ·rw[h,dn.out] at hc;cases hc
    ·rw[h,dl.out] at hc;cases hc
   have HE:=jb a0;clear b9 a0
   gi_wp2
   refine⟨C,fun i h=> .inl h,fun i h=>?_,?_,rfl,bad,_,he,HE.out,?_,?_,?_⟩
   ·have:=cc i h
    have c4:((F.setCell ⟨w.heap.size,0,none⟩ (.slice none 0 0)).setCell ⟨w.heap.size+1,0,none⟩ (.iface tv (.pointer (some av)))).heap.size=F.heap.size:=by simp[World.setCell]
    omega
   ·exact((ja.refl F C).set (p:=⟨w.heap.size,0,none⟩) ((HC.out _).2 (.inl rfl)) _).set (p:=⟨w.heap.size+1,0,none⟩) ((HC.out _).2 (.inr (.inl rfl))) _
   ·exact(ja.setCell _ _ _).same ((jd am.out _).trans rfl) (by simp)
   ·exact(jd ((ja.setCell F ⟨w.heap.size,0,none⟩ (.slice none 0 0)).same al.out (by simp)) _).trans rfl
   ·exact(ah.Xd (p:=⟨w.heap.size,0,none⟩) (by simp) _).Xd (p:=⟨w.heap.size+1,0,none⟩) (by simp) _
 case done =>
  rintro D' lp C xs F W hD bo M bb bn ⟨DK,a0⟩ X ⟨m,v,e,hm,g1,g2,g3,z,s,Y,hC⟩ hK;have a1:=zA (o:=0) g1;have f1:=zB (o:=0) g1;have a2:=zA (o:=0) g2;have f2:=zB (o:=0) g2;have a3:=zA (o:=0) g3;simp at a1 a2 a3;have am:=jb g1;have al:=jb g2;have HC:=jb hC;clear g1 g2 g3 hC
  have de:m=l.length/\err=none:=by
   rcases a0 with⟨h1,h2⟩|⟨bad,ev,h1,⟨t,a,rfl⟩,h2⟩
   ·rw[e] at h2
    have:=congrArg List.length h2;simp at this;exact⟨by omega,h1⟩
   ·rw[e] at h2
    have h3:(eu,Value.iface t (.pointer (some a)))∈(l.take m).map Ja:=by rw[h2];simp
    obtain⟨c,_,h4⟩:=zS.1 h3;cases h4
  obtain⟨rfl,ci⟩:=de;rw[xR] at z;obtain⟨pv,cpv,rfl⟩:=jl z;have dp:=jb DK;clear a0 DK e;obtain⟨z1,z2,z3,z4⟩:=br (W:=W) (D:=D') ci hD (fun h=>bb ((HC.out D').2 (.inr (.inr (.inr h))))) hK (dp.out.apart X (fun i hi e=>by rw[e];exact⟨nT lp (by omega),by omega⟩)) am.out al.out z s Y;have Z1:=jb z1;have Z2:=jb z2;have Z3:=jb z3;have Z4:=jb z4;clear z1 z2 z3 z4
  gi_wp2
  have z2:=Z2.out;have z3:=Z3.out;refine⟨by simp,.inl ⟨_,_,rfl,run_takeDeferred Z1.out,?_⟩⟩;exact⟨.tuple #[.slice pv (kept l).length cpv,.nilIface],(by simp[results,Tryz.results119,go_sem,z2,z3]),Z4.out⟩
 case stop =>
  rintro D' lp C c ai F W hD bo M bb bn DK X ⟨rfl,bad,ev,h1,h3,h4,h5,h6⟩ hK
  gi_wp2
  have k9:=ja.putObj W D' (.deferred none);have r4:=zA (o:=0) (k9.same h4 (by omega));have r5:=zA (o:=0) (k9.same h5 (by omega));simp at r4 r5;refine⟨by simp,.inl ⟨_,_,rfl,run_takeDeferred hK,?_⟩⟩;refine⟨.tuple #[.slice none 0 0,ev],(by simp[results,Tryz.results119,go_sem,r4,r5]),_,_,rfl,h6.trans k9 (fun i hi e=>by omega),?_,.inr ⟨bad,h1,rfl,?_⟩⟩
  ·exact(DK.apart X (fun i hi e=>by rw[e];exact⟨nT lp (by omega),by omega⟩)).apart k9 (fun i hi e=>by rw[e];exact⟨nT D' (by omega),by omega⟩)
  ·obtain⟨g,he,J⟩:=h3
   exact⟨g,he.keep k9 (fun i c e hc=>by rw[e,hK] at hc;cases hc),J⟩
end Go.Proofs.YtnipbplghijdmaaGreatDoor

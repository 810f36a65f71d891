/-
  D: Gather.
-/
import Derived.Test.YtnipbplghijdmaaGreatDoorD23
set_option maxRecDepth 100000
set_option maxHeartbeats 8000000
set_option linter.unusedVariables false
set_option linter.unusedSimpArgs false
namespace Go.Proofs.YtnipbplghijdmaaGreatDoor
open RowKit Maps WideShapes Go.Shelf Go.Proofs.Tryz
attribute [local go_sem] Oper.semAt_some
variable {hi:Str} {l:List Rf.Ch}
def Ay(hi:Str)(c:Rf.Ch):Bool:=decide (hi=[])||decide (c.key<hi)
def Y5(hi:Str)(l:List Rf.Ch):List Rf.Ch:=l.takeWhile (Ay hi)
theorem jay{m:Nat}{x:Rf.Ch}(h:∀ c∈l.take m,Ay hi c=true)(b:l[m]?=some x)(d:Ay hi x=false):Y5 hi l=l.take m:=by
 have g:=(zO.1 b).1
 have e:l=l.take m++x::l.drop (m+1):=by
  have f:l[m]=x:=(zO.1 b).2;rw[<-f,xX,xQ]
 unfold Y5
 conv=>lhs;rw[e]
 rw[List.takeWhile_append_of_pos h,List.takeWhile_cons_of_neg (by rw[d];decide),ZC]
theorem Fo(h:∀ c∈l,Ay hi c=true):Y5 hi l=l:=by
 unfold Y5;have:=List.takeWhile_append_of_pos (p:=Ay hi) (l₁:=l) (l₂:=[]) h;simpa using this
def wm(E:Nat->Addr)(B:Nat)(ρ:Nat->j3)(d:Nat)(S':jc)(l:List Rf.Ch)(err:Option Bool)(hi:Str)(w:World)(e:Ending)(w':World):Prop :=
 ∃ v ev,e = .returned (.tuple #[v,ev])/\ja w w' (qj ρ)/\Dk E B w' ρ d S' /\
 ((ev = .nilIface/\w'.ownsRow w.heap.size 88 3 v (Y5 hi l).length (jj (Y5 hi l))/\(err=none\/(Y5 hi l).length<l.length)) \/
  (∃ bad,err=some bad/\Y5 hi l=l/\v = .slice none 0 0/\lu E w' ev bad))
theorem vw{E:Nat->Addr}{B:Nat}{ρ:Nat->j3}{d:Nat}{S':jc}{w:World}{gf:Nat}{rv lb:Array Value}(eg:∀ ys w,(callFunc gf ys).run prog w = .ok (.enter gf ys) w){Needs:Nat->Prop}{Start:World->Prop}{a6:Option Bool}(hG:∀ n,Kj Fence.wide n prog gf rv lb encI (qj ρ) Needs Start (je8 E l a6) (je6 E B ρ d S' l a6) (Ls E B ρ d S'))(hN:∀ i,Needs i->i<w.heap.size)(b6:∀ W,ja w W (fun _=>False)->Start W)(hρ:∀ i,ρ i≠ .none->i<w.heap.size)(hB:B<=w.heap.size)(hi:Str)(hl:l.length<1048576) :
 Calls prog 111 #[.func (.func gf) rv lb,jf hi] w (wm E B ρ d S' l a6 hi w):=by
 refine(callsIn_wide (n:=9)).1 ?_;refine callsIn_of_wp_marks func111 rfl trivial ?_ rfl;simp only[ntmps111,xY,zH,zX,Nat.reduceAdd,Nat.reduceSub,xZ,XA,XB,XC,xL,xM]
 gi_wp2
 obtain⟨W0,U⟩:∃ W0,((((w.alloc (.cells #[jf hi] 9)).alloc (.cells #[.slice none 0 0] 38)).alloc (.cells #[.nilIface] 128)).alloc (.cells #[.slice none 0 0] 38))=W0:=⟨_,rfl⟩;rw[U];have kW:ja w W0 (fun _=>False):=by rw[<-U];exact(((ja.alloc w _ _).more _).more _).more _
 have sW:W0.heap.size=w.heap.size+1+1+1+1:=by rw[<-U];simp
 have b0:W0.heap[w.heap.size]?=some (.cells #[jf hi] 9 (0,0)):=by
  rw[<-U];exact((((ja.alloc _ _ (fun _=>False)).more _).more _)).same (je w _) id
 have b1:W0.heap[w.heap.size+1]?=some (.cells #[.slice none 0 0] 38 (0,0)):=by
  rw[<-U];have:=je (w.alloc (.cells #[jf hi] 9)) (.cells #[.slice none 0 0] 38);rw[xJ] at this;exact((ja.alloc _ _ (fun _=>False)).more _).same this id
 have b2:W0.heap[w.heap.size+1+1]?=some (.cells #[.nilIface] 128 (0,0)):=by
  rw[<-U];have:=je ((w.alloc (.cells #[jf hi] 9)).alloc (.cells #[.slice none 0 0] 38)) (.cells #[.nilIface] 128);rw[xJ,xJ] at this;exact(ja.alloc _ _ (fun _=>False)).same this id
 have b3:W0.heap[w.heap.size+1+1+1]?=some (.cells #[.slice none 0 0] 38 (0,0)):=by
  rw[<-U];have:=je (((w.alloc (.cells #[jf hi] 9)).alloc (.cells #[.slice none 0 0] 38)).alloc (.cells #[.nilIface] 128)) (.cells #[.slice none 0 0] 38);rw[xJ,xJ,xJ] at this;exact this
 clear U;have nT:∀ i,w.heap.size<=i->¬qj ρ i:=fun i hi h=>by have:=hρ i h;omega
 have ap:∀ {W:World} {D m:Nat} {pv:Option Addr} {cpv:Nat},Y5 hi l=l.take m->(a6=none\/m<l.length)->m<=l.length->W0.heap.size<=D->¬(Value.slice pv m cpv).ownBlock=some D->W.heap[D]?=some (.deferred (some []))->Dk E B W ρ d S' ->
  W.heap[w.heap.size+1]?=some (.cells #[.slice none 0 0] 38 (0,0))->W.heap[w.heap.size+1+1]?=some (.cells #[.nilIface] 128 (0,0))->W.ownsRow w.heap.size 88 3 (.slice pv m cpv) m (jj (l.take m))->(∀ g,(Value.slice pv m cpv).ownBlock=some g->w.heap.size+4<=g)->ja w W (qj ρ) ->
  (((W.setCell ⟨w.heap.size+1,0,none⟩ (.slice pv m cpv)).setCell ⟨w.heap.size+1+1,0,none⟩ .nilIface)).heap[D]?=some (.deferred (some [])) /\
  ((((W.setCell ⟨w.heap.size+1,0,none⟩ (.slice pv m cpv)).setCell ⟨w.heap.size+1+1,0,none⟩ .nilIface)).putObj D (.deferred none)).cell? ⟨w.heap.size+1,0,none⟩=some (.slice pv m cpv) /\
  ((((W.setCell ⟨w.heap.size+1,0,none⟩ (.slice pv m cpv)).setCell ⟨w.heap.size+1+1,0,none⟩ .nilIface)).putObj D (.deferred none)).cell? ⟨w.heap.size+1+1,0,none⟩=some .nilIface /\
  wm E B ρ d S' l a6 hi w (.returned (.tuple #[.slice pv m cpv,.nilIface])) ((((W.setCell ⟨w.heap.size+1,0,none⟩ (.slice pv m cpv)).setCell ⟨w.heap.size+1+1,0,none⟩ .nilIface)).putObj D (.deferred none)):=by
  intro W D m pv cpv H M hm hD al hK DK g1 g2 s f T
  have k1:=ja.setCell W ⟨w.heap.size+1,0,none⟩ (.slice pv m cpv)
  have k2:=ja.setCell (W.setCell ⟨w.heap.size+1,0,none⟩ (.slice pv m cpv)) ⟨w.heap.size+1+1,0,none⟩ .nilIface
  have k3:=ja.putObj ((W.setCell ⟨w.heap.size+1,0,none⟩ (.slice pv m cpv)).setCell ⟨w.heap.size+1+1,0,none⟩ .nilIface) D (.deferred none)
  have kk:ja W ((((W.setCell ⟨w.heap.size+1,0,none⟩ (.slice pv m cpv)).setCell ⟨w.heap.size+1+1,0,none⟩ .nilIface)).putObj D (.deferred none)) (fun i=>i=w.heap.size+1\/i=w.heap.size+1+1\/i=D) :=
   ((k1.mono (fun _ _ h=> .inl h)).trans k2 (fun _ _ h=> .inr (.inl h))).trans k3 (fun _ _ h=> .inr (.inr h))
  have e1:=k2.same (jd (o:=0) g1 (.slice pv m cpv)) (by simp)
  have e2:=jd (o:=0) (k1.same g2 (by simp)) Value.nilIface
  refine⟨k2.same (k1.same hK (by simp;omega)) (by simp;omega),(zA (k3.same e1 (by omega))).trans rfl,(zA (k3.same e2 (by omega))).trans rfl,_,_,rfl,T.trans kk (fun i hi h=>by omega),?_,.inl ⟨rfl,?_,?_⟩⟩
  ·refine DK.apart kk (fun i hi h=>?_)
   rcases h with h|h|h
   ·exact⟨nT i (by omega),by omega⟩
   ·exact⟨nT i (by omega),by omega⟩
   ·exact⟨nT i (by omega),by omega⟩
  ·rw[H,zK,xD hm]
   refine kk.row s (fun g y h=>?_);have:=f g y;rcases h with h|h|h
   ·omega
   ·omega
   ·exact al (h▸y)
  ·rw[H,zK,xD hm];exact M
 refine dm rfl (by decide) (gf:=gf) (rv:=rv) (lb:=lb) rfl trivial eg (hG 8) (fun _=>rfl) (fun i h=>by have:=hρ i h;omega) (fun i h=>by have:=hN i h;omega) (fun W1 k=>b6 W1 (kW.tt k))
  (fun af C W=>∃(m:Nat) (v:Value),af=(l.take m).map Ja/\m<=l.length/\(∀ c∈l.take m,Ay hi c=true)/\W.heap[w.heap.size]?=some (.cells #[jf hi] 9 (0,0))/\W.heap[w.heap.size+1]?=some (.cells #[.slice none 0 0] 38 (0,0)) /\
   W.heap[w.heap.size+1+1]?=some (.cells #[.nilIface] 128 (0,0))/\W.heap[w.heap.size+1+1+1]?=some (.cells #[v] 38 (0,0))/\W.ownsRow w.heap.size 88 3 v m (jj (l.take m))/\(∀ g,v.ownBlock=some g->w.heap.size+4<=g) /\
   ja w W (qj ρ)/\(∀ i,C i↔i=w.heap.size+1\/i=w.heap.size+1+1\/i=w.heap.size+1+1+1\/v.ownBlock=some i))
  (fun c af C W=>(c = .ret/\∃ bad ev,a6=some bad/\Y5 hi l=l/\lu E W ev bad/\W.heap[w.heap.size+1]?=some (.cells #[.slice none 0 0] 38 (0,0))/\W.heap[w.heap.size+1+1]?=some (.cells #[ev] 128 (0,0))/\ja w W (qj ρ)) \/
   (c = .exit 0/\∃(m:Nat) (v:Value),Y5 hi l=l.take m/\m<l.length/\W.heap[w.heap.size+1]?=some (.cells #[.slice none 0 0] 38 (0,0)) /\
    W.heap[w.heap.size+1+1]?=some (.cells #[.nilIface] 128 (0,0))/\W.heap[w.heap.size+1+1+1]?=some (.cells #[v] 38 (0,0))/\W.ownsRow w.heap.size 88 3 v m (jj (l.take m))/\(∀ g,v.ownBlock=some g->C g/\w.heap.size+4<=g)/\ja w W (qj ρ)))
  ?hI ?hIx (fun i=>i=w.heap.size+1\/i=w.heap.size+1+1\/i=w.heap.size+1+1+1) ?hC0 ?h0 ?round ?done ?stop
 case hI =>
  rintro af C A B' ⟨m,v,e,hm,R,g0,g1,g2,g3,s,f,T,hC⟩ F
  have out:∀ i,w.heap.size<=i->(i<w.heap.size+4\/v.ownBlock=some i)->¬(qj ρ i\/(W0.heap.size<=i/\¬C i)):=by
   rintro i H M (Y|⟨Y,h4⟩)
   ·exact nT i H Y
   ·rcases M with M|M
    ·omega
    ·exact h4 ((hC i).2 (.inr (.inr (.inr M))))
  refine⟨m,v,e,hm,R,ja.same F g0 (out _ (zJ _) (.inl (by omega))),ja.same F g1 (out _ (by omega) (.inl (by omega))),ja.same F g2 (out _ (by omega) (.inl (by omega))),ja.same F g3 (out _ (by omega) (.inl (by omega))),
   ja.row F s (fun g y=>out g (by have:=f g y;omega) (.inr y)),f,T.trans F (fun i hi h=>?_),hC⟩
  rcases h with h|⟨h,_⟩
  ·exact h
  ·omega
 case hIx =>
  rintro c af C A B' lp r (⟨rfl,bad,ev,H,M,Y,h4,h5,h6⟩|⟨rfl,m,v,H,M,Y,h4,h5,h6,h7,h8⟩) bl cy hr F
  ·have q:∀ i,i<w.heap.size+4->¬i=lp:=fun i hi=>by omega
   refine .inl ⟨rfl,bad,ev,H,M,?_,F.same h4 (q _ (by omega)),F.same h5 (q _ (by omega)),h6.trans F (fun i hi e=>by omega)⟩;obtain⟨g,he,y⟩:=Y;exact⟨g,he.keep F (fun i c e L=>by rw[e,hr] at L;cases L),y⟩
  ·have q:∀ i,i<w.heap.size+4->¬i=lp:=fun i hi=>by omega
   exact .inr ⟨rfl,m,v,H,M,F.same Y (q _ (by omega)),F.same h4 (q _ (by omega)),F.same h5 (q _ (by omega)),F.row h6 (fun g y e=>cy (e▸(h7 g y).1)),h7,h8.trans F (fun i hi e=>by omega)⟩
 case hC0 =>
  rintro i (h|h|h)
  all_goals exact⟨by omega,nT i (by omega),fun h=>by have:=hN i h;omega⟩
 case h0=>exact⟨0,.slice none 0 0,rfl,zG _,fun c L=>(by simp at L),b0,b1,b2,b3,ZL _ _ _ _,fun g y=>(by cases y),kW.up,fun i=>by simp[Value.ownBlock]⟩
 case round =>
  rintro lp af x C W bl ⟨rl,c3⟩ bk c7 ⟨m,v,rfl,hm,R,g0,g1,g2,g3,s,f,T,hC⟩ cf;have e9:=zC c3;rcases cf with⟨k,c,e,F,rfl⟩|⟨bad,he,e,c0,ax⟩
  ·have c5:=(zO.1 F).1
   obtain rfl:m=k:=by
    have:=congrArg List.length e;simp at this;omega
   clear e;obtain⟨I,N,O⟩:=c;dsimp only[encI,Ja]
   gi_wp2
   refine⟨ja.alloc W _ _,?_⟩;intro z k2 _;have ka:ja W z (fun i=>i=lp):=((ja.alloc W _ (fun _=>False)).up).tt k2;have q:∀ i,i<w.heap.size+4->¬i=lp:=fun i hi=>by omega
   have hb:=k2.same (je W _) (by omega);have q0:=zA (o:=0) hb;have q1:=zA (o:=1) hb;have q2:=zA (o:=2) hb;have a0:=zA (o:=0) (ka.same g0 (q _ (by omega)));have d8:=jb (ka.same g0 (q _ (by omega)));have a5:=ka.same g1 (q _ (by omega));have a4:=ka.same g2 (q _ (by omega));have b4:=ka.same g3 (q _ (by omega));have a3:=zA (o:=0) b4;have f3:=zB (o:=0) b4;simp at q0 q1 q2 a0 a3;have a7:=ka.row s (fun g y e=>bk ((hC lp).2 (.inr (.inr (.inr (e▸y))))));have Z:=jb hC;have ac:ja w z (qj ρ):=T.trans ka (fun i hi e=>by omega);have ai:=jb a5;have ah:=jb a4;have b5:=jb b4;have HB:=jb hb;clear g0 g1 g2 g3 a5 a4 b4 hb hC;have cx:W.heap.size+1<=z.heap.size:=by have:=k2.size;simpa using this
   obtain⟨pv,cpv,rfl⟩:=jl a7
   have ca:Ay hi ⟨I,N,O⟩=true->∀(J:Option Addr) (b:Nat) (G:World),G.ownsRow w.heap.size 88 3 (.slice J (m+1) b) (m+1) (jj (l.take m)++jj [⟨I,N,O⟩]) ->
    (z.alloc (.cells #[jf I,jf N,.bool O] 88)).grownBy G (Value.slice pv m cpv).ownBlock->((Value.slice J (m+1) b).ownBlock=(Value.slice pv m cpv).ownBlock\/(Value.slice J (m+1) b).ownBlock=some (z.alloc (.cells #[jf I,jf N,.bool O] 88)).heap.size) ->
    ∃ C':Nat->Prop,(∀ i,C' i->C i\/W.heap.size<=i)/\(∀ i,C' i->i<(G.setCell ⟨w.heap.size+1+1+1,0,none⟩ (.slice J (m+1) b)).heap.size)/\ja z (G.setCell ⟨w.heap.size+1+1+1,0,none⟩ (.slice J (m+1) b)) C /\
     ∃(m':Nat) (v:Value),(l.take m).map Ja++[Ja ⟨I,N,O⟩]=(l.take m').map Ja/\m'<=l.length/\(∀ c∈l.take m',Ay hi c=true)/\(G.setCell ⟨w.heap.size+1+1+1,0,none⟩ (.slice J (m+1) b)).heap[w.heap.size]?=some (.cells #[jf hi] 9 (0,0)) /\
      (G.setCell ⟨w.heap.size+1+1+1,0,none⟩ (.slice J (m+1) b)).heap[w.heap.size+1]?=some (.cells #[.slice none 0 0] 38 (0,0))/\(G.setCell ⟨w.heap.size+1+1+1,0,none⟩ (.slice J (m+1) b)).heap[w.heap.size+1+1]?=some (.cells #[.nilIface] 128 (0,0)) /\
      (G.setCell ⟨w.heap.size+1+1+1,0,none⟩ (.slice J (m+1) b)).heap[w.heap.size+1+1+1]?=some (.cells #[v] 38 (0,0))/\(G.setCell ⟨w.heap.size+1+1+1,0,none⟩ (.slice J (m+1) b)).ownsRow w.heap.size 88 3 v m' (jj (l.take m'))/\(∀ g,v.ownBlock=some g->w.heap.size+4<=g) /\
      ja w (G.setCell ⟨w.heap.size+1+1+1,0,none⟩ (.slice J (m+1) b)) (qj ρ)/\(∀ i,C' i↔i=w.heap.size+1\/i=w.heap.size+1+1\/i=w.heap.size+1+1+1\/v.ownBlock=some i):=by
    intro ad J b G ag S am
    have kA:ja z (z.alloc (.cells #[jf I,jf N,.bool O] 88)) (fun _=>False):=ja.alloc _ _ _
    have k3:ja z G (fun i=>(Value.slice pv m cpv).ownBlock=some i):=(kA.up).trans (ja.grown S) (fun i _ e=>e.symm)
    have k4:=ja.setCell G ⟨w.heap.size+1+1+1,0,none⟩ (.slice J (m+1) b)
    have V:∀ i,i<w.heap.size+4->¬(Value.slice pv m cpv).ownBlock=some i:=fun i hi e=>by have:=f i e;omega
    have az:=k3.same b5.out (V _ (by omega))
    have e8:=k3.size
    have e7:=kW.size
    have ea:w.heap.size+4<=W.heap.size:=by omega
    have ao:∀ g,(Value.slice J (m+1) b).ownBlock=some g->(Value.slice pv m cpv).ownBlock=some g\/z.heap.size<=g:=by
     intro g y;rcases am with h|h
     ·exact .inl (h▸y)
     ·rw[h] at y
      cases y;exact .inr (by simp)
    have e1:(l.take m).map Ja++[Ja ⟨I,N,O⟩]=(l.take (m+1)).map Ja:=(ki F).symm
    have e2:l.take (m+1)=l.take m++[⟨I,N,O⟩]:=by rw[xH,F];rfl
    have bm:=k4.row ag (fun g y e=>by
     have e':g=w.heap.size+1+1+1:=e
     rcases ao g y with h|h
     ·exact V g (by omega) h
     ·omega)
    refine⟨fun i=>i=w.heap.size+1\/i=w.heap.size+1+1\/i=w.heap.size+1+1+1\/(Value.slice J (m+1) b).ownBlock=some i,?_,?_,?_,m+1,.slice J (m+1) b,e1,c5,?_,?_,?_,?_,?_,?_,?_,?_,fun _=>Iff.rfl⟩
    ·rintro i (h|h|h|h)
     ·exact .inl ((Z.out i).2 (.inl h))
     ·exact .inl ((Z.out i).2 (.inr (.inl h)))
     ·exact .inl ((Z.out i).2 (.inr (.inr (.inl h))))
     ·rcases ao i h with h|h
      ·exact .inl ((Z.out i).2 (.inr (.inr (.inr h))))
      ·exact .inr (by omega)
    ·intro i h
     have c1:(G.setCell ⟨w.heap.size+1+1+1,0,none⟩ (.slice J (m+1) b)).heap.size=G.heap.size:=by simp[World.setCell]
     rw[c1];rcases h with h|h|h|h
     ·omega
     ·omega
     ·omega
     ·exact(ag.lt i h).2
    ·exact(k3.mono (fun i _ h=>(Z.out i).2 (.inr (.inr (.inr h))))).trans k4 (fun i _ e=>(Z.out i).2 (.inr (.inr (.inl e))))
    ·rw[e2]
     intro c L;rcases ZA.1 L with L|L
     ·exact R c L
     ·rw[zZ.1 L];exact ad
    ·exact k4.same (k3.same d8.out (V _ (by omega))) (by simp;omega)
    ·exact k4.same (k3.same ai.out (V _ (by omega))) (by simp)
    ·exact k4.same (k3.same ah.out (V _ (by omega))) (by simp)
    ·exact(jd az _).trans rfl
    ·rw[e2,df];exact bm
    ·intro g y
     rcases ao g y with h|h
     ·exact f g h
     ·omega
    ·exact(ac.trans k3 (fun i hi e=>by have:=f i e;omega)).trans k4 (fun i hi e=>by have e':i=w.heap.size+1+1+1:=e;omega)
   have c9:m+1<=maxLen:=by unfold maxLen;omega
   have c6:(m+1)*40<=140737488355328:=by omega
   have c8:w.heap.size<=(z.alloc (.cells #[jf I,jf N,.bool O] 88)).heap.size:=by simp;have:=kW.size;omega
   have bc:∀ j u,(jj [⟨I,N,O⟩])[j]?=some u->(z.alloc (.cells #[jf I,jf N,.bool O] 88)).cell? ((⟨z.heap.size,0,none⟩:Addr).add j)=some u:=J8 (je z _) rfl;have bb:=na [⟨I,N,O⟩];obtain⟨j0,hj,bz,bx,bw⟩:=info_parts Tryz.dq
   have c2:∀ G:World,(z.alloc (.cells #[jf I,jf N,.bool O] 88)).grownBy G (Value.slice pv m cpv).ownBlock->G.cell? ⟨w.heap.size+1+1+1,0,none⟩=some (.slice pv m cpv)/\G.frozen? ⟨w.heap.size+1+1+1,0,none⟩=false:=by
    intro G S;have az:=(ja.grown S).same ((ja.alloc z (.cells #[jf I,jf N,.bool O] 88) (fun _=>False)).same b5.out id) (fun e=>by have:=f _ e.symm;omega);exact⟨(zA az).trans rfl,zB az⟩
   have cb:=jb c2;clear c2;have bg:=jb ca;have cd:=jb c9;have cc:=jb c6;have bh:=jb c8;have bf:=jb bc;have be:=jb bb;have bd:=jb (a7.alloc (.cells #[jf I,jf N,.bool O] 88));clear ca c9 c6 c8 bc bb;by_cases h0:hi=[]
   ·subst h0
    gi_wp2_with (gi_at_builtin;refine Xa _ rfl (.tmp 23) (.tmp 25) 38 rfl w.heap.size 88 j0 su 3 40 underlying38 hj bz bx bw rfl (ZM 2) (.slice pv m cpv) m (jj (l.take m)) rfl bd.out ⟨z.heap.size,0,none⟩ 1 1 (jj [⟨I,N,O⟩]) rfl rfl bf.out be.out cd.out cc.out bh.out ?_;intro J b G ag S am;obtain⟨d4,d3⟩:=cb.out G S)
    exact bg.out rfl J b G ag S am
   ·have hE:List.isEmpty hi=false:=by cases hi<;>simp_all
    clear h0;by_cases H:I<hi
    ·have ad:Ay hi ⟨I,N,O⟩=true:=by simp[Ay,H]
     have d5:=jb ad;have d2:Op.bytesLess I hi=true:=by rw[bytesLess_eq];simpa using H
     clear H ad
     gi_wp2_with (gi_at_builtin;refine Xa _ rfl (.tmp 23) (.tmp 25) 38 rfl w.heap.size 88 j0 su 3 40 underlying38 hj bz bx bw rfl (ZM 2) (.slice pv m cpv) m (jj (l.take m)) rfl bd.out ⟨z.heap.size,0,none⟩ 1 1 (jj [⟨I,N,O⟩]) rfl rfl bf.out be.out cd.out cc.out bh.out ?_;intro J b G ag S am;obtain⟨d4,d3⟩:=cb.out G S)
     exact bg.out d5.out J b G ag S am
    ·have c4:Ay hi ⟨I,N,O⟩=false:=by
      have:hi≠[]:=fun e=>by rw[e] at hE;cases hE
      simp[Ay,H,this]
     have ay:=jay R F c4
     have an:=jb ay
     have d2:Op.bytesLess I hi=false:=by rw[bytesLess_eq];simpa using H
     clear H c4 ay
     gi_wp2
     refine⟨C,fun i h=> .inl h,fun i h=>ZH (c7 i h) (by omega),ja.refl _ _,.inr ⟨rfl,m,_,an.out,c5,ai.out,ah.out,b5.out,a7,fun g y=>⟨(Z.out g).2 (.inr (.inr (.inr y))),f g y⟩,ac⟩⟩
  ·obtain⟨x1,ev⟩:=x
   simp only at c0 ax;subst c0;obtain⟨tv,av,rfl⟩:=ax.shape
   have cz:m=l.length:=by
    have:=congrArg List.length e;simp at this;omega
   subst cz;rw[xR] at R;have an:=jb (Fo R);dsimp only[encI,eu]
   gi_wp2
   refine⟨ja.alloc W _ _,?_⟩;intro z k2 _;have ka:ja W z (fun i=>i=lp):=((ja.alloc W _ (fun _=>False)).up).tt k2;have q:∀ i,i<w.heap.size+4->¬i=lp:=fun i hi=>by omega
   have a5:=ka.same g1 (q _ (by omega));have a4:=ka.same g2 (q _ (by omega));have a1:=zA (o:=0) a5;have f1:=zB (o:=0) a5;have a2:=zA (o:=0) a4;have f2:=zB (o:=0) a4;simp at a1 a2;have ai:=jb a5;have ah:=jb a4;have d7:=jb g1;have d6:=jb g2;have HC:=jb hC;clear g0 g1 g2 g3 a5 a4 hC;have ac:ja w z (qj ρ):=T.trans ka (fun i hi e=>by omega);have cx:W.heap.size+1<=z.heap.size:=by have:=k2.size;simpa using this
   have X:lu E ((z.setCell ⟨w.heap.size+1,0,none⟩ (.slice none 0 0)).setCell ⟨w.heap.size+1+1,0,none⟩ (.iface tv (.pointer (some av)))) (.iface tv (.pointer (some av))) bad:=by
    obtain⟨g,y,d1⟩:=ax
    have k3:ja W ((z.setCell ⟨w.heap.size+1,0,none⟩ (.slice none 0 0)).setCell ⟨w.heap.size+1+1,0,none⟩ (.iface tv (.pointer (some av)))) (fun i=>i=lp\/i=w.heap.size+1\/i=w.heap.size+1+1) :=
     ((ka.mono (fun _ _ h=> .inl h)).set (p:=⟨w.heap.size+1,0,none⟩) (.inr (.inl rfl)) _).set (p:=⟨w.heap.size+1+1,0,none⟩) (.inr (.inr rfl)) _
    refine⟨g,y.keep k3 (fun i c h L=>?_),d1⟩;rcases h with h|h|h
    ·rw[h,c3] at L;cases L
    ·rw[h,d7.out] at L;cases L
    ·rw[h,d6.out] at L;cases L
   have HE:=jb X;clear ax X
   gi_wp2
   refine⟨C,fun i h=> .inl h,fun i h=>?_,?_,.inl ⟨rfl,bad,_,he,an.out,HE.out,?_,?_,?_⟩⟩
   ·have:=c7 i h
    have c1:((z.setCell ⟨w.heap.size+1,0,none⟩ (.slice none 0 0)).setCell ⟨w.heap.size+1+1,0,none⟩ (.iface tv (.pointer (some av)))).heap.size=z.heap.size:=by simp[World.setCell]
    omega
   ·exact((ja.refl z C).set (p:=⟨w.heap.size+1,0,none⟩) ((HC.out _).2 (.inl rfl)) _).set (p:=⟨w.heap.size+1+1,0,none⟩) ((HC.out _).2 (.inr (.inl rfl))) _
   ·exact(ja.setCell _ _ _).same ((jd ai.out _).trans rfl) (by simp)
   ·exact(jd ((ja.setCell z ⟨w.heap.size+1,0,none⟩ (.slice none 0 0)).same ah.out (by simp)) _).trans rfl
   ·exact(ac.Xd (p:=⟨w.heap.size+1,0,none⟩) (by simp) _).Xd (p:=⟨w.heap.size+1+1,0,none⟩) (by simp;omega) _
 case done =>
  rintro D lp C xs z W hD bl q al bk ⟨DK,X⟩ F ⟨m,v,e,hm,R,g0,g1,g2,g3,s,f,T,hC⟩ hK;obtain⟨pv,cpv,rfl⟩:=jl s;have a1:=zA (o:=0) g1;have f1:=zB (o:=0) g1;have a2:=zA (o:=0) g2;have f2:=zB (o:=0) g2;have a3:=zA (o:=0) g3;simp at a1 a2 a3;have ai:=jb g1;have ah:=jb g2;have b5:=jb g3;have HC:=jb hC;clear g0 g1 g2 g3 hC
  have d0:m=l.length/\a6=none:=by
   rcases X with⟨H,M⟩|⟨bad,ev,H,⟨t,a,rfl⟩,M⟩
   ·rw[e] at M
    have:=congrArg List.length M;simp at this;exact⟨by omega,H⟩
   ·rw[e] at M
    have Y:(eu,Value.iface t (.pointer (some a)))∈(l.take m).map Ja:=by rw[M];simp
    obtain⟨c,_,h4⟩:=zS.1 Y;cases h4
  obtain⟨rfl,ce⟩:=d0;rw[xR] at R s;have an:=jb (Fo R);have d9:=jb DK;clear X DK e
  gi_wp2
  have ay:=an.out;rw[<-xR (l:=l)] at s;obtain⟨z1,z2,z3,z4⟩:=ap (W:=W) (D:=D) (m:=l.length) (pv:=pv) (cpv:=cpv) (by rw[xR];exact ay) (.inl ce) (zJ _) hD (fun h=>al ((HC.out D).2 (.inr (.inr (.inr h))))) hK (d9.out.apart F (fun i hi e=>by rw[e];exact⟨nT lp (by omega),by omega⟩)) ai.out ah.out (by simpa using s) f T;refine⟨by simp,.inl ⟨_,_,rfl,run_takeDeferred z1,?_⟩⟩;exact⟨.tuple #[.slice pv l.length cpv,.nilIface],(by simp[results,Tryz.results111,go_sem,z2,z3]),z4⟩
 case stop =>
  rintro D lp C c af z W hD bl q al bk DK F (⟨rfl,bad,ev,H,M,Y,h4,h5,h6⟩|⟨rfl,m,v,H,M,Y,h4,h5,h6,h7,h8⟩) hK
  ·gi_wp2
   have k9:=ja.putObj W D (.deferred none);have r4:=zA (o:=0) (k9.same h4 (by omega));have r5:=zA (o:=0) (k9.same h5 (by omega));simp at r4 r5;refine⟨by simp,.inl ⟨_,_,rfl,run_takeDeferred hK,?_⟩⟩;refine⟨.tuple #[.slice none 0 0,ev],(by simp[results,Tryz.results111,go_sem,r4,r5]),_,_,rfl,h6.trans k9 (fun i hi e=>by omega),?_,.inr ⟨bad,H,M,rfl,?_⟩⟩
   ·exact(DK.apart F (fun i hi e=>by rw[e];exact⟨nT lp (by omega),by omega⟩)).apart k9 (fun i hi e=>by rw[e];exact⟨nT D (by omega),by omega⟩)
   ·obtain⟨g,he,y⟩:=Y
    exact⟨g,he.keep k9 (fun i c e L=>by rw[e,hK] at L;cases L),y⟩
  ·obtain⟨pv,cpv,rfl⟩:=jl h6
   have a1:=zA (o:=0) Y;have f1:=zB (o:=0) Y;have a2:=zA (o:=0) h4;have f2:=zB (o:=0) h4;have a3:=zA (o:=0) h5;simp at a1 a2 a3;have H1:=jb H;have H3:=jb Y;have H4:=jb h4;clear H Y h4 h5
   gi_wp2
   obtain⟨z1,z2,z3,z4⟩:=ap (W:=W) (D:=D) (m:=m) (pv:=pv) (cpv:=cpv) H1.out (.inr M) (by omega) hD (fun h=>al (h7 D h).1) hK (DK.apart F (fun i hi e=>by rw[e];exact⟨nT lp (by omega),by omega⟩)) H3.out H4.out h6 (fun g y=>(h7 g y).2) h8;refine⟨by simp,.inl ⟨_,_,rfl,run_takeDeferred z1,?_⟩⟩;exact⟨.tuple #[.slice pv m cpv,.nilIface],(by simp[results,Tryz.results111,go_sem,z2,z3]),z4⟩
end Go.Proofs.YtnipbplghijdmaaGreatDoor

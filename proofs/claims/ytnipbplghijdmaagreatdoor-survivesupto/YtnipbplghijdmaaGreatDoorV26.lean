/-
  V: Live.
-/
import Derived.Test.YtnipbplghijdmaaGreatDoorV25
set_option maxRecDepth 100000
set_option maxHeartbeats 8000000
set_option linter.unusedVariables false
set_option linter.unusedSimpArgs false
namespace Go.Proofs.YtnipbplghijdmaaGreatDoor
open RowKit Maps WideShapes Go.Shelf Go.Proofs.Tryz
attribute [local go_sem] Oper.semAt_some
def stays(c:Rf.Ch):Bool:=!c.gone
def kept(l:List Rf.Ch):List Rf.Ch:=l.filter stays
theorem Ly{l:List Rf.Ch}{m:Nat}{c:Rf.Ch}(h:l[m]?=some c):kept (l.take (m+1))=kept (l.take m)++(if c.gone=true then [] else [c]):=by
 unfold kept;rw[xJ,h,XP,zI];by_cases hc:c.gone=true<;>simp[stays,hc]
theorem Cp(l:List Rf.Ch)(m:Nat):(kept (l.take m)).length<=m:=by
 have c:=ZT stays (l.take m);have b:=List.length_take_le m l;unfold kept;omega
def Tb(E:Nat->Addr)(B:Nat)(ρ:Nat->j3)(d:Nat)(S':jc)(l:List Rf.Ch)(err:Option Bool)(w:World)(e:Ending)(w':World):Prop :=
 ∃ v ev,e = .returned (.tuple #[v,ev])/\ja w w' (qj ρ)/\Dk E B w' ρ d S' /\
 ((ev = .nilIface/\err=none/\w'.ownsRow w.heap.size 88 3 v (kept l).length (jj (kept l)))\/(∃ bad,err=some bad/\v = .slice none 0 0/\lg E w' ev bad))
theorem jdj{P:jc->Prop}{E:Nat->Addr}{B:Nat}{ρ:Nat->j3}{d:Nat}{S:jc}{w:World}{b:Nat}{t:TypeId}(m0:Rf.Man)(rv last mv:Value)(ch cl:Bool)(N:List (List (List Rf.Ch)))(H:Env E B w)(D:Dk E B w ρ d S)(Z:P S)(R:fk P m0.settled N)(hb:w.heap[b]?=some (.cells (qu (.pointer (some ⟨d,0,none⟩)) (jg m0.next) (jg m0.last) (jg m0.log) (jg m0.base) rv last mv ch cl) t (0,0)))(hv:Jw w rv m0.runs)(hl:m0.runs.length<262144)(c8:(Xa (j9 [] (xx N []) S)).length<1048576) :
 Calls prog 119 #[.pointer (some ⟨b,0,none⟩)] w (Tb E B ρ d (j9 [] (xx N []) S).1 (Xa (j9 [] (xx N []) S)) (K7 (j9 [] (xx N []) S)) w):=by
 have dd:=xw m0;have kA:ja w (((w.alloc (.cells #[.slice none 0 0] 38)).alloc (.cells #[.nilIface] 128)).alloc (.cells #[.slice none 0 0] 38)) (fun _=>False):=((ja.alloc w _ _).more _).more _;have af:=Zr d m0 rv last mv ch cl [] (H.same kA) (kA.same hb id) (hv.same kA) (by omega) R.num;have b3:∀ ls,(j9 [] (xx N []) S).2 = .inl ls->wg ls:=fun ls e=>wg.of (uw (R.yy []) e);have aw:(m0.settled.map (fun n=>Yk d n [])).length=(xx N []).length:=by simp[R.len]
 have aa:(m0.settled.map (fun n=>Yk d n [])).length=m0.settled.length:=by simp
 have ay:∀ f∈m0.settled.map (fun n=>Yk d n []),∃ g a b,f = .func g a b:=by
  intro f hf;obtain⟨n,_,rfl⟩:=zO.1 hf;exact⟨_,_,_,rfl⟩
 have bl:Hid (∀(W:World) (k:Nat) f st,(m0.settled.map (fun n=>Yk d n []))[k]?=some f->(xx N [])[k]?=some st->iu P E B ρ d W f st):=fun W=>R.layers [];have hρ:=D.rep.lt;have hB:=D.size;obtain⟨fs,bq⟩:∃ fs,fs=m0.settled.map (fun n=>Yk d n []):=⟨_,rfl⟩;obtain⟨ns,c7⟩:∃ ns,ns=m0.settled.length:=⟨_,rfl⟩;rw[<-bq] at af aw aa ay bl;rw[<-c7] at af aa dd;have aj:=fun(lv:Value) (n:Nat)=>kn (P:=P) (E:=E) (B:=B) (ρ:=ρ) (d:=d) (n:=n) lv fs (xx N []) [] aw (by omega) ay b3;generalize j9 [] (xx N []) S=G at aj c8 ⊢;generalize Xa G=l at aj c8 ⊢;generalize K7 G=err at aj ⊢;generalize G.1=S' at aj ⊢;have dl:=jb aj;have cm:=jb af;have HB:=jb hb;have f0:=jb bq;clear aj af hb bq c7 b3 aw ay;refine(callsIn_wide (n:=9)).1 ?_;refine callsIn_of_wp_marks func119 rfl trivial ?_ rfl;simp only[ntmps119,zG,zP,zQ,Nat.reduceAdd,Nat.reduceSub,zR,zS,zT,zU,zV,zW]
 gi_wp2_with fail
 refine⟨trivial,(callsIn_wide.2 cm.out).mono ?_⟩;rintro e W0 ⟨aq,ar,rfl,a9,kS⟩
 gi_wp2_with fail
 refine⟨trivial,(callsIn_wide.2 (Lv aq ns ar [] W0)).mono ?_⟩;rintro e U ⟨rfl,rfl⟩
 gi_wp2
 have kW:ja w U (fun _=>False):=kA.tt kS;have sA:(((w.alloc (.cells #[.slice none 0 0] 38)).alloc (.cells #[.nilIface] 128)).alloc (.cells #[.slice none 0 0] 38)).heap.size=w.heap.size+1+1+1:=by simp
 have sW:w.heap.size+1+1+1<=U.heap.size:=by have:=kS.size;omega
 have b0:U.heap[w.heap.size]?=some (.cells #[.slice none 0 0] 38 (0,0)) :=
  kS.same ((((ja.alloc _ _ (fun _=>False)).more _)).same (je w _) id) id
 have b1:U.heap[w.heap.size+1]?=some (.cells #[.nilIface] 128 (0,0)):=by
  have:=je (w.alloc (.cells #[.slice none 0 0] 38)) (.cells #[.nilIface] 128);rw[zK] at this;exact kS.same ((ja.alloc _ _ (fun _=>False)).same this id) id
 have b2:U.heap[w.heap.size+1+1]?=some (.cells #[.slice none 0 0] 38 (0,0)):=by
  have:=je ((w.alloc (.cells #[.slice none 0 0] 38)).alloc (.cells #[.nilIface] 128)) (.cells #[.slice none 0 0] 38);rw[zK,zK] at this;exact kS.same this id
 have nT:∀ i,w.heap.size<=i->¬qj ρ i:=fun i hi h=>by have:=hρ i h;omega
 have az:ky U (.slice aq ns ar) fs:=by
  subst aa;exact fu a9 rfl
 have bj:fs≠[]->∀ p n c,Value.slice aq ns ar = .slice (some p) n c->¬qj ρ p.block:=by
  intro _ p n c e;injection e with e;have:=(a9.lt p.block (by rw[e];rfl)).1;exact nT _ (by omega)
 have a4:∀ W1,ja U W1 (fun _=>False)->B5 P E B ρ d S (.slice aq ns ar) fs (xx N []) W1:=fun W1 k=>⟨D.same (kW.tt k),Z,az.same k,bj,bl.out W1⟩;have dk:=jb a4;clear a4 az bj a9
 have br:∀ {W:World} {D:Nat} {v:Value},err=none->U.heap.size<=D->¬v.ownBlock=some D->W.heap[D]?=some (.deferred (some []))->Dk E B W ρ d S' ->
  W.heap[w.heap.size]?=some (.cells #[.slice none 0 0] 38 (0,0))->W.heap[w.heap.size+1]?=some (.cells #[.nilIface] 128 (0,0))->W.ownsRow w.heap.size 88 3 v (kept l).length (jj (kept l))->(∀ g,v.ownBlock=some g->w.heap.size+3<=g)->ja w W (qj ρ) ->
  (((W.setCell ⟨w.heap.size,0,none⟩ v).setCell ⟨w.heap.size+1,0,none⟩ .nilIface)).heap[D]?=some (.deferred (some [])) /\
  ((((W.setCell ⟨w.heap.size,0,none⟩ v).setCell ⟨w.heap.size+1,0,none⟩ .nilIface)).putObj D (.deferred none)).cell? ⟨w.heap.size,0,none⟩=some v /\
  ((((W.setCell ⟨w.heap.size,0,none⟩ v).setCell ⟨w.heap.size+1,0,none⟩ .nilIface)).putObj D (.deferred none)).cell? ⟨w.heap.size+1,0,none⟩=some .nilIface /\
  Tb E B ρ d S' l err w (.returned (.tuple #[v,.nilIface])) ((((W.setCell ⟨w.heap.size,0,none⟩ v).setCell ⟨w.heap.size+1,0,none⟩ .nilIface)).putObj D (.deferred none)):=by
  intro W D v h1 hD bb hK DK g1 g2 z s Y
  have k1:=ja.setCell W ⟨w.heap.size,0,none⟩ v
  have k2:=ja.setCell (W.setCell ⟨w.heap.size,0,none⟩ v) ⟨w.heap.size+1,0,none⟩ .nilIface
  have k3:=ja.putObj ((W.setCell ⟨w.heap.size,0,none⟩ v).setCell ⟨w.heap.size+1,0,none⟩ .nilIface) D (.deferred none)
  have kk:ja W ((((W.setCell ⟨w.heap.size,0,none⟩ v).setCell ⟨w.heap.size+1,0,none⟩ .nilIface)).putObj D (.deferred none)) (fun i=>i=w.heap.size\/i=w.heap.size+1\/i=D) :=
   ((k1.mono (fun _ _ h=> .inl h)).trans k2 (fun _ _ h=> .inr (.inl h))).trans k3 (fun _ _ h=> .inr (.inr h))
  have e1:=k2.same (jd (o:=0) g1 v) (by simp)
  have e2:=jd (o:=0) (k1.same g2 (by simp)) Value.nilIface
  refine⟨k2.same (k1.same hK (by simp;omega)) (by simp;omega),(zA (k3.same e1 (by omega))).trans rfl,(zA (k3.same e2 (by omega))).trans rfl,_,_,rfl,Y.trans kk (fun i hi h=>by omega),?_,.inl ⟨rfl,h1,?_⟩⟩
  ·refine DK.apart kk (fun i hi h=>?_)
   rcases h with h|h|h
   ·exact⟨nT i (by omega),by omega⟩
   ·exact⟨nT i (by omega),by omega⟩
   ·exact⟨nT i (by omega),by omega⟩
  ·refine kk.row z (fun g J h=>?_)
   have:=s g J;rcases h with h|h|h
   ·omega
   ·omega
   ·exact bb (h▸J)
 refine dh rfl (by decide) (gf:=123) (rv:=#[.agg #[.slice aq ns ar,jf []]]) (lb:=#[]) rfl trivial kx (dl.out _ 8) (fun _=>rfl) (fun i h=>by have:=hρ i h;omega) (fun i h=>by omega) dk.out
  (fun ai C W=>∃(m:Nat) (v:Value),ai=(l.take m).map Ja/\m<=l.length/\W.heap[w.heap.size]?=some (.cells #[.slice none 0 0] 38 (0,0)) /\
   W.heap[w.heap.size+1]?=some (.cells #[.nilIface] 128 (0,0))/\W.heap[w.heap.size+1+1]?=some (.cells #[v] 38 (0,0))/\W.ownsRow w.heap.size 88 3 v (kept (l.take m)).length (jj (kept (l.take m)))/\(∀ g,v.ownBlock=some g->w.heap.size+3<=g) /\
   ja w W (qj ρ)/\(∀ i,C i↔i=w.heap.size\/i=w.heap.size+1\/i=w.heap.size+1+1\/v.ownBlock=some i))
  (fun c ai C W=>(c = .ret/\∃ bad ev,err=some bad/\lg E W ev bad/\W.heap[w.heap.size]?=some (.cells #[.slice none 0 0] 38 (0,0))/\W.heap[w.heap.size+1]?=some (.cells #[ev] 128 (0,0))/\ja w W (qj ρ)))
  ?hI ?hIx (fun i=>i=w.heap.size\/i=w.heap.size+1\/i=w.heap.size+1+1) ?hC0 ?h0 ?round ?done ?stop
 case hI =>
  rintro ai C A B' ⟨m,v,e,hm,g1,g2,g3,z,s,Y,hC⟩ X
  have out:∀ i,w.heap.size<=i->(i<w.heap.size+3\/v.ownBlock=some i)->¬(qj ρ i\/(U.heap.size<=i/\¬C i)):=by
   rintro i h1 h2 (h3|⟨h3,h4⟩)
   ·exact nT i h1 h3
   ·rcases h2 with h2|h2
    ·omega
    ·exact h4 ((hC i).2 (.inr (.inr (.inr h2))))
  refine⟨m,v,e,hm,ja.same X g1 (out _ (by omega) (.inl (by omega))),ja.same X g2 (out _ (by omega) (.inl (by omega))),ja.same X g3 (out _ (by omega) (.inl (by omega))),
   ja.row X z (fun g J=>out g (by have:=s g J;omega) (.inr J)),s,Y.trans X (fun i hi h=>?_),hC⟩
  rcases h with h|⟨h,_⟩
  ·exact h
  ·omega
 case hIx =>
  rintro c ai C A B' lp r ⟨rfl,bad,ev,h1,h3,h4,h5,h6⟩ bo eu hr X;have M:∀ i,i<w.heap.size+3->¬i=lp:=fun i hi=>by omega
  refine⟨rfl,bad,ev,h1,?_,X.same h4 (M _ (by omega)),X.same h5 (M _ (by omega)),h6.trans X (fun i hi e=>by omega)⟩;obtain⟨g,he,J⟩:=h3;exact⟨g,he.keep X (fun i c e hc=>by rw[e,hr] at hc;cases hc),J⟩
 case hC0 =>
  rintro i (h|h|h)
  all_goals exact⟨by omega,nT i (by omega),fun h=>by omega⟩
 case h0=>exact⟨0,.slice none 0 0,rfl,zX _,b0,b1,b2,zY _ _ _ _,fun g J=>(by cases J),kW.up,fun i=>by simp[Value.ownBlock]⟩
 case round =>
  rintro lp ai x C W bo ⟨rl,c6⟩ bn cc ⟨m,v,rfl,hm,g1,g2,g3,z,s,Y,hC⟩ cj;have ew:=zC c6;rcases cj with⟨k,c,e,X,rfl⟩|⟨bad,he,e,c3,b9⟩
  ·have ca:=(zZ.1 X).1
   obtain rfl:m=k:=by
    have:=congrArg List.length e;simp at this;omega
   clear e;obtain⟨ck,cv,cg⟩:=c;dsimp only[encI,Ja]
   gi_wp2
   refine⟨ja.alloc W _ _,?_⟩;intro F k2 _;have ka:ja W F (fun i=>i=lp):=((ja.alloc W _ (fun _=>False)).up).tt k2;have M:∀ i,i<w.heap.size+3->¬i=lp:=fun i hi=>by omega
   have hb:=k2.same (je W _) (by omega);have q0:=zA (o:=0) hb;have q1:=zA (o:=1) hb;have q2:=zA (o:=2) hb;have a8:=ka.same g1 (M _ (by omega));have a7:=ka.same g2 (M _ (by omega));have bd:=ka.same g3 (M _ (by omega));have a3:=zA (o:=0) bd;have f3:=zB (o:=0) bd;simp at q0 q1 q2 a3;have I:=ka.row z (fun g J e=>bn ((hC lp).2 (.inr (.inr (.inr (e▸J))))));have T:=jb hC;have ah:ja w F (qj ρ):=Y.trans ka (fun i hi e=>by omega);have am:=jb a8;have al:=jb a7;have au:=jb bd;clear g1 g2 g3 a8 a7 bd hb hC;have de:W.heap.size+1<=F.heap.size:=by have:=k2.size;simpa using this
   have a6:=Ly X;have c9:=Cp l m;have e1:(l.take m).map Ja++[Ja ⟨ck,cv,cg⟩]=(l.take (m+1)).map Ja:=(iw X).symm;have E1:=jb e1;clear e1
   cases cg with
   | true =>
    simp only[if_true,ZB] at a6;have dm:=jb a6;clear a6
    gi_wp2
    refine⟨C,fun i h=> .inl h,fun i h=>ZA (cc i h) (by omega),ja.refl _ _,m+1,v,E1.out,ca,am.out,al.out,au.out,by rw[dm.out];exact I,s,ah,T.out⟩
   | false =>
    rw[if_neg (by simp)] at a6;obtain⟨pv,cpv,rfl⟩:=jm I;obtain⟨q,hq⟩:∃ q,q=(kept (l.take m)).length:=⟨_,rfl⟩;obtain⟨L,hL⟩:∃ L,L=kept (l.take m):=⟨_,rfl⟩;rw[<-hL] at hq I a6 c9 z s T a3 au;rw[<-hq] at I c9 s T a3 au
    have cf:∀(V:Option Addr) (y:Nat) (O:World),O.ownsRow w.heap.size 88 3 (.slice V (q+1) y) (q+1) (jj L++jj [⟨ck,cv,false⟩]) ->
     (F.alloc (.cells #[jf ck,jf cv,.bool false] 88)).grownBy O (Value.slice pv q cpv).ownBlock->((Value.slice V (q+1) y).ownBlock=(Value.slice pv q cpv).ownBlock\/(Value.slice V (q+1) y).ownBlock=some (F.alloc (.cells #[jf ck,jf cv,.bool false] 88)).heap.size) ->
     ∃ C':Nat->Prop,(∀ i,C' i->C i\/W.heap.size<=i)/\(∀ i,C' i->i<(O.setCell ⟨w.heap.size+1+1,0,none⟩ (.slice V (q+1) y)).heap.size)/\ja F (O.setCell ⟨w.heap.size+1+1,0,none⟩ (.slice V (q+1) y)) C /\
      ∃(m':Nat) (v:Value),(l.take m).map Ja++[Ja ⟨ck,cv,false⟩]=(l.take m').map Ja/\m'<=l.length /\
       (O.setCell ⟨w.heap.size+1+1,0,none⟩ (.slice V (q+1) y)).heap[w.heap.size]?=some (.cells #[.slice none 0 0] 38 (0,0))/\(O.setCell ⟨w.heap.size+1+1,0,none⟩ (.slice V (q+1) y)).heap[w.heap.size+1]?=some (.cells #[.nilIface] 128 (0,0)) /\
       (O.setCell ⟨w.heap.size+1+1,0,none⟩ (.slice V (q+1) y)).heap[w.heap.size+1+1]?=some (.cells #[v] 38 (0,0))/\(O.setCell ⟨w.heap.size+1+1,0,none⟩ (.slice V (q+1) y)).ownsRow w.heap.size 88 3 v (kept (l.take m')).length (jj (kept (l.take m')))/\(∀ g,v.ownBlock=some g->w.heap.size+3<=g) /\
       ja w (O.setCell ⟨w.heap.size+1+1,0,none⟩ (.slice V (q+1) y)) (qj ρ)/\(∀ i,C' i↔i=w.heap.size\/i=w.heap.size+1\/i=w.heap.size+1+1\/v.ownBlock=some i):=by
     intro V y O ba ak bp
     have kA:ja F (F.alloc (.cells #[jf ck,jf cv,.bool false] 88)) (fun _=>False):=ja.alloc _ _ _
     have k3:ja F O (fun i=>(Value.slice pv q cpv).ownBlock=some i):=(kA.up).trans (ja.grown ak) (fun i _ e=>e.symm)
     have k4:=ja.setCell O ⟨w.heap.size+1+1,0,none⟩ (.slice V (q+1) y)
     have ag:∀ i,i<w.heap.size+3->¬(Value.slice pv q cpv).ownBlock=some i:=fun i hi e=>by have:=s i e;omega
     have bc:=k3.same au.out (ag _ (by omega))
     have et:=k3.size
     have es:=kW.size
     have ex:w.heap.size+3<=W.heap.size:=by omega
     have ax:∀ g,(Value.slice V (q+1) y).ownBlock=some g->(Value.slice pv q cpv).ownBlock=some g\/F.heap.size<=g:=by
      intro g J;rcases bp with h|h
      ·exact .inl (h▸J)
      ·rw[h] at J
       cases J;exact .inr (by simp)
     have bs:=k4.row ba (fun g J e=>by
      have e':g=w.heap.size+1+1:=e
      rcases ax g J with h|h
      ·exact ag g (by omega) h
      ·omega)
     refine⟨fun i=>i=w.heap.size\/i=w.heap.size+1\/i=w.heap.size+1+1\/(Value.slice V (q+1) y).ownBlock=some i,?_,?_,?_,m+1,.slice V (q+1) y,E1.out,ca,?_,?_,?_,?_,?_,?_,fun _=>Iff.rfl⟩
     ·rintro i (h|h|h|h)
      ·exact .inl ((T.out i).2 (.inl h))
      ·exact .inl ((T.out i).2 (.inr (.inl h)))
      ·exact .inl ((T.out i).2 (.inr (.inr (.inl h))))
      ·rcases ax i h with h|h
       ·exact .inl ((T.out i).2 (.inr (.inr (.inr h))))
       ·exact .inr (by omega)
     ·intro i h
      have c4:(O.setCell ⟨w.heap.size+1+1,0,none⟩ (.slice V (q+1) y)).heap.size=O.heap.size:=by simp[World.setCell]
      rw[c4];rcases h with h|h|h|h
      ·omega
      ·omega
      ·omega
      ·exact(ba.lt i h).2
     ·exact(k3.mono (fun i _ h=>(T.out i).2 (.inr (.inr (.inr h))))).trans k4 (fun i _ e=>(T.out i).2 (.inr (.inr (.inl e))))
     ·exact k4.same (k3.same am.out (ag _ (by omega))) (by simp;omega)
     ·exact k4.same (k3.same al.out (ag _ (by omega))) (by simp)
     ·exact(jd bc _).trans rfl
     ·rw[a6,ZC,<-hq,dc];exact bs
     ·intro g J
      rcases ax g J with h|h
      ·exact s g h
      ·omega
     ·exact(ah.trans k3 (fun i hi e=>by have:=s i e;omega)).trans k4 (fun i hi e=>by have e':i=w.heap.size+1+1:=e;omega)
    have ce:q+1<=maxLen:=by unfold maxLen;omega
    have cb:(q+1)*40<=140737488355328:=by omega
    have cd:w.heap.size<=(F.alloc (.cells #[jf ck,jf cv,.bool false] 88)).heap.size:=by simp;have:=kW.size;omega
    have bk:∀ j u,(jj [⟨ck,cv,false⟩])[j]?=some u->(F.alloc (.cells #[jf ck,jf cv,.bool false] 88)).cell? ((⟨F.heap.size,0,none⟩:Addr).add j)=some u:=J7 (je F _) rfl;have bi:=mr [⟨ck,cv,false⟩];obtain⟨j0,hj,db,da,d9⟩:=info_parts Tryz.dj
    have c5:∀ O:World,(F.alloc (.cells #[jf ck,jf cv,.bool false] 88)).grownBy O (Value.slice pv q cpv).ownBlock->O.cell? ⟨w.heap.size+1+1,0,none⟩=some (.slice pv q cpv)/\O.frozen? ⟨w.heap.size+1+1,0,none⟩=false:=by
     intro O ak;have bc:=(ja.grown ak).same ((ja.alloc F (.cells #[jf ck,jf cv,.bool false] 88) (fun _=>False)).same au.out id) (fun e=>by have:=s _ e.symm;omega);exact⟨(zA bc).trans rfl,zB bc⟩
    have di:=jb c5;have cq:=jb cf;have ds:=jb ce;have dr:=jb cb;have cr:=jb cd;have cp:=jb bk;have co:=jb bi;have cn:=jb (I.alloc (.cells #[jf ck,jf cv,.bool false] 88));clear c5 cf ce cb cd bk bi a6 hq hL z I
    gi_wp2_with (gi_at_builtin;refine Q4 _ rfl (.tmp 18) (.tmp 20) 38 rfl w.heap.size 88 j0 sj 3 40 underlying38 hj db da d9 rfl (ZD 2) (.slice pv q cpv) q (jj L) rfl cn.out ⟨F.heap.size,0,none⟩ 1 1 (jj [⟨ck,cv,false⟩]) rfl rfl cp.out co.out ds.out dr.out cr.out ?_;intro V y O ba ak bp;obtain⟨ez,ey⟩:=di.out O ak)
    exact cq.out V y O ba ak bp
  ·obtain⟨x1,ev⟩:=x
   simp only at c3 b9;subst c3;obtain⟨tv,av,rfl⟩:=b9.shape;dsimp only[encI,dz]
   gi_wp2
   refine⟨ja.alloc W _ _,?_⟩;intro F k2 _;have ka:ja W F (fun i=>i=lp):=((ja.alloc W _ (fun _=>False)).up).tt k2;have M:∀ i,i<w.heap.size+3->¬i=lp:=fun i hi=>by omega
   have a8:=ka.same g1 (M _ (by omega));have a7:=ka.same g2 (M _ (by omega));have a1:=zA (o:=0) a8;have f1:=zB (o:=0) a8;have a2:=zA (o:=0) a7;have f2:=zB (o:=0) a7;simp at a1 a2;have am:=jb a8;have al:=jb a7;have dp:=jb g1;have dn:=jb g2;have HC:=jb hC;clear g1 g2 g3 a8 a7 hC;have ah:ja w F (qj ρ):=Y.trans ka (fun i hi e=>by omega);have de:W.heap.size+1<=F.heap.size:=by have:=k2.size;simpa using this
   have a0:lg E ((F.setCell ⟨w.heap.size,0,none⟩ (.slice none 0 0)).setCell ⟨w.heap.size+1,0,none⟩ (.iface tv (.pointer (some av)))) (.iface tv (.pointer (some av))) bad:=by
    obtain⟨g,J,dg⟩:=b9
    have k3:ja W ((F.setCell ⟨w.heap.size,0,none⟩ (.slice none 0 0)).setCell ⟨w.heap.size+1,0,none⟩ (.iface tv (.pointer (some av)))) (fun i=>i=lp\/i=w.heap.size\/i=w.heap.size+1) :=
     ((ka.mono (fun _ _ h=> .inl h)).set (p:=⟨w.heap.size,0,none⟩) (.inr (.inl rfl)) _).set (p:=⟨w.heap.size+1,0,none⟩) (.inr (.inr rfl)) _
    refine⟨g,J.keep k3 (fun i c h hc=>?_),dg⟩;rcases h with h|h|h
    ·rw[h,c6] at hc;cases hc
    ·rw[h,dp.out] at hc;cases hc
    ·rw[h,dn.out] at hc;cases hc
   have HE:=jb a0;clear b9 a0
   gi_wp2
   refine⟨C,fun i h=> .inl h,fun i h=>?_,?_,rfl,bad,_,he,HE.out,?_,?_,?_⟩
   ·have:=cc i h
    have c4:((F.setCell ⟨w.heap.size,0,none⟩ (.slice none 0 0)).setCell ⟨w.heap.size+1,0,none⟩ (.iface tv (.pointer (some av)))).heap.size=F.heap.size:=by simp[World.setCell]
    omega
   ·exact((ja.refl F C).set (p:=⟨w.heap.size,0,none⟩) ((HC.out _).2 (.inl rfl)) _).set (p:=⟨w.heap.size+1,0,none⟩) ((HC.out _).2 (.inr (.inl rfl))) _
   ·exact(ja.setCell _ _ _).same ((jd am.out _).trans rfl) (by simp)
   ·exact(jd ((ja.setCell F ⟨w.heap.size,0,none⟩ (.slice none 0 0)).same al.out (by simp)) _).trans rfl
   ·exact(ah.Q8 (p:=⟨w.heap.size,0,none⟩) (by simp) _).Q8 (p:=⟨w.heap.size+1,0,none⟩) (by simp) _
 case done =>
  rintro D' lp C xs F W hD bo M bb bn ⟨DK,a0⟩ X ⟨m,v,e,hm,g1,g2,g3,z,s,Y,hC⟩ hK;have a1:=zA (o:=0) g1;have f1:=zB (o:=0) g1;have a2:=zA (o:=0) g2;have f2:=zB (o:=0) g2;have a3:=zA (o:=0) g3;simp at a1 a2 a3;have am:=jb g1;have al:=jb g2;have HC:=jb hC;clear g1 g2 g3 hC
  have df:m=l.length/\err=none:=by
   rcases a0 with⟨h1,h2⟩|⟨bad,ev,h1,⟨t,a,rfl⟩,h2⟩
   ·rw[e] at h2
    have:=congrArg List.length h2;simp at this;exact⟨by omega,h1⟩
   ·rw[e] at h2
    have h3:(dz,Value.iface t (.pointer (some a)))∈(l.take m).map Ja:=by rw[h2];simp
    obtain⟨c,_,h4⟩:=zO.1 h3;cases h4
  obtain⟨rfl,ci⟩:=df;rw[ZE] at z;obtain⟨pv,cpv,rfl⟩:=jm z;have dq:=jb DK;clear a0 DK e;obtain⟨z1,z2,z3,z4⟩:=br (W:=W) (D:=D') ci hD (fun h=>bb ((HC.out D').2 (.inr (.inr (.inr h))))) hK (dq.out.apart X (fun i hi e=>by rw[e];exact⟨nT lp (by omega),by omega⟩)) am.out al.out z s Y;have Z1:=jb z1;have Z2:=jb z2;have Z3:=jb z3;have Z4:=jb z4;clear z1 z2 z3 z4
  gi_wp2
  have z2:=Z2.out;have z3:=Z3.out;refine⟨by simp,.inl ⟨_,_,rfl,run_takeDeferred Z1.out,?_⟩⟩;exact⟨.tuple #[.slice pv (kept l).length cpv,.nilIface],(by simp[results,Tryz.results119,go_sem,z2,z3]),Z4.out⟩
 case stop =>
  rintro D' lp C c ai F W hD bo M bb bn DK X ⟨rfl,bad,ev,h1,h3,h4,h5,h6⟩ hK
  gi_wp2
  have k9:=ja.putObj W D' (.deferred none);have r4:=zA (o:=0) (k9.same h4 (by omega));have r5:=zA (o:=0) (k9.same h5 (by omega));simp at r4 r5;refine⟨by simp,.inl ⟨_,_,rfl,run_takeDeferred hK,?_⟩⟩;refine⟨.tuple #[.slice none 0 0,ev],(by simp[results,Tryz.results119,go_sem,r4,r5]),_,_,rfl,h6.trans k9 (fun i hi e=>by omega),?_,.inr ⟨bad,h1,rfl,?_⟩⟩
  ·exact(DK.apart X (fun i hi e=>by rw[e];exact⟨nT lp (by omega),by omega⟩)).apart k9 (fun i hi e=>by rw[e];exact⟨nT D' (by omega),by omega⟩)
  ·obtain⟨g,he,J⟩:=h3
   exact⟨g,he.keep k9 (fun i c e hc=>by rw[e,hK] at hc;cases hc),J⟩
end Go.Proofs.YtnipbplghijdmaaGreatDoor

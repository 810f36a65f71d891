/-
  S: Scan Marks FindA.
-/
import Derived.Test.YtnipbplghijdmaaGreatDoorS25
set_option maxRecDepth 100000
set_option maxHeartbeats 8000000
set_option linter.unusedVariables false
set_option linter.unusedSimpArgs false
namespace Go.Proofs.YtnipbplghijdmaaGreatDoor
open RowKit Maps WideShapes Go.Shelf Go.Proofs.Tryz
attribute [local go_sem] Oper.semAt_some
def yy(l:List Rf.Ch):List Value:=l.flatMap fun c=>[jd c.key,jd c.value]
theorem Lt(l:List Rf.Ch)(c:Rf.Ch):yy (l++[c])=yy l++yy [c]:=by simp[yy]
theorem jfk(l:List Rf.Ch):∀ u∈yy l,u.oneCell'=true:=by
 intro u b;obtain⟨c,_,h⟩:=List.mem_flatMap.1 b;simp at h;rcases h with rfl|rfl<;>rfl
def prZ:Value:= .agg #[.string ⟨#[]⟩,.string ⟨#[]⟩]
theorem Tryz.jcg:(prog.info? 65).map (fun i=>(i.zero,i.size,i.bytes))=some (some prZ,2,32):=by kernel_rfl
theorem jcb{l:List Rf.Ch}{m:Nat}{most:Nat}(h:(kept (l.take m)).length=most):(kept l).take most=kept (l.take m):=by
 have e:kept l=kept (l.take m)++kept (l.drop m):=by unfold kept;rw[<-xR,ZR]
 rw[e,<-h,xQ]
def Pz(E:Nat->Addr)(B:Nat)(ρ:Nat->jz)(d b:Nat)(t:TypeId)(row:Bool->Array Value)(deg:Bool)(most:Nat)(S':jh)(l:List Rf.Ch)(err:Option Bool)(w:World)(e:Ending)(w':World):Prop :=
 ja w w' (fun i=>j5 ρ i\/i=b)/\Dk E B w' ρ d S' /\
 ((∃ v,e = .returned (.tuple #[v,.int .i64 0])/\(err=none\/l≠[])/\w'.ownsRow w.heap.size 65 2 v ((kept l).take most).length (yy ((kept l).take most))/\w'.heap[b]?=some (.cells (row deg) t (0,0))) \/
  (err≠none/\e = .returned (.tuple #[.slice none 0 0,.int .i64 1])/\w'.heap[b]?=some (.cells (row true) t (0,0))))
theorem jaz{P:jh->Prop}{E:Nat->Addr}{B:Nat}{ρ:Nat->jz}{d:Nat}{S:jh}{w:World}{b:Nat}{t:TypeId}(z:Rf.Man)(rv last mv:Value)(mem:List Rf.Ch)(ae:Bool)(bls:List (List (List Rf.Ch)))(H:Env E B w)(D:Dk E B w ρ d S)(Z:P S)(R:cu P z.settled bls)(hb:w.heap[b]?=some (.cells (qe (.pointer (some ⟨d,0,none⟩)) (jf z.next) (jf z.last) (jf z.log) (jf z.base) rv last mv ae false) t (0,0)))(dg:¬j5 ρ b)(hd:B<=b)(hv:zl w rv z.runs)(hl:z.runs.length<262144)(dm:Chs w mv mem)(hr:il mem)(dk:∀ p n c,mv = .slice (some p) n c->¬j5 ρ p.block/\p.block<w.heap.size)(lo hi:Str)(most:Nat)(fl:most<9223372036854775808)(co:(Qt (j2 hi (Yf (mem.drop (Rf.below mem lo))::yi bls lo) S)).length<1048576) :
 Calls prog 29 #[.pointer (some ⟨b,0,none⟩),jd lo,jd hi,ju most] w
  (Pz E B ρ d b t (fun x=>qe (.pointer (some ⟨d,0,none⟩)) (jf z.next) (jf z.last) (jf z.log) (jf z.base) rv last mv x false) ae most (j2 hi (Yf (mem.drop (Rf.below mem lo))::yi bls lo) S).1 (Qt (j2 hi (Yf (mem.drop (Rf.below mem lo))::yi bls lo) S)) (Cs (j2 hi (Yf (mem.drop (Rf.below mem lo))::yi bls lo) S)) w):=by
 have gy:=x8 z;obtain⟨wA,a5⟩:∃ wA,wA=((((w.alloc (.cells #[.pointer (some ⟨b,0,none⟩)] 49)).alloc (.cells #[ju most] 3)).alloc (.cells #[.slice none 0 0] 55)).alloc (.cells #[.int .i64 0] 48)).alloc (.cells #[.slice none 0 0] 55):=⟨_,rfl⟩;have kA:ja w wA (fun _=>False):=by rw[a5];exact((((ja.alloc w _ _).more _).more _).more _).more _
 have sA:wA.heap.size=w.heap.size+1+1+1+1+1:=by rw[a5];simp
 have y0:wA.heap[w.heap.size]?=some (.cells #[.pointer (some ⟨b,0,none⟩)] 49 (0,0)):=by
  rw[a5];exact((((ja.alloc _ _ (fun _=>False)).more _).more _).more _).same (je w _) id
 have y1:wA.heap[w.heap.size+1]?=some (.cells #[ju most] 3 (0,0)):=by
  rw[a5];have:=je (w.alloc (.cells #[.pointer (some ⟨b,0,none⟩)] 49)) (.cells #[ju most] 3);rw[xO] at this;exact(((ja.alloc _ _ (fun _=>False)).more _).more _).same this id
 have y2:wA.heap[w.heap.size+1+1]?=some (.cells #[.slice none 0 0] 55 (0,0)):=by
  rw[a5];have:=je ((w.alloc (.cells #[.pointer (some ⟨b,0,none⟩)] 49)).alloc (.cells #[ju most] 3)) (.cells #[.slice none 0 0] 55);rw[xO,xO] at this;exact((ja.alloc _ _ (fun _=>False)).more _).same this id
 have y3:wA.heap[w.heap.size+1+1+1]?=some (.cells #[.int .i64 0] 48 (0,0)):=by
  rw[a5];have:=je (((w.alloc (.cells #[.pointer (some ⟨b,0,none⟩)] 49)).alloc (.cells #[ju most] 3)).alloc (.cells #[.slice none 0 0] 55)) (.cells #[.int .i64 0] 48);rw[xO,xO,xO] at this;exact(ja.alloc _ _ (fun _=>False)).same this id
 have y4:wA.heap[w.heap.size+1+1+1+1]?=some (.cells #[.slice none 0 0] 55 (0,0)):=by
  rw[a5];have:=je ((((w.alloc (.cells #[.pointer (some ⟨b,0,none⟩)] 49)).alloc (.cells #[ju most] 3)).alloc (.cells #[.slice none 0 0] 55)).alloc (.cells #[.int .i64 0] 48)) (.cells #[.slice none 0 0] 55);rw[xO,xO,xO,xO] at this;exact this
 have ha:=zC hb;have bf:=l9 d z rv last mv mem ae false lo (H.same kA) (kA.same hb id) (hv.same kA) (by omega) R.num (dm.same kA) hr.1 hr.2.2;have cq:il (mem.drop (Rf.below mem lo)):=⟨hr.1.sublist (List.drop_sublist _ _),fun c hc=>hr.2.1 c (xS hc),ZZ (List.drop_sublist _ _).length_le hr.2.2⟩
 have bj:∀ ls,(j2 hi (Yf (mem.drop (Rf.below mem lo))::yi bls lo) S).2 = .inl ls->uq ls:=fun ls e=>uq.of (tg (fun st a6 S'=>by
  rcases zH.1 a6 with rfl|a6
  ·exact cq
  ·exact R.Je lo st a6 S') e)
 have hρ:=D.rep.lt;have hB:=D.size
 have ai:=fun(fm lv:Value) (hfm:∃ g a b,fm = .func g a b) (n:Nat)=>gu (P:=P) (E:=E) (B:=B) (ρ:=ρ) (d:=d) (n:=n) (S:=S) lv (fm::z.settled.map (fun n=>Xt d n lo)) (Yf (mem.drop (Rf.below mem lo))::yi bls lo) hi (by simp[R.len]) (by simp;omega) (fun f hf=>by
  rcases zH.1 hf with rfl|hf
  ·exact hfm
  ·obtain⟨n,_,rfl⟩:=ZN.1 hf
   exact⟨_,_,_,rfl⟩) bj
 have e4:Hid (∀(W:World) (k:Nat) f st,(z.settled.map (fun n=>Xt d n lo))[k]?=some f->(yi bls lo)[k]?=some st->gh P E B ρ d W f st):=fun W=>R.layers lo;obtain⟨bx,be⟩:∃ bx,bx=Yf (mem.drop (Rf.below mem lo))::yi bls lo:=⟨_,rfl⟩;rw[<-be] at ai co ⊢;generalize j2 hi bx S=G at ai co ⊢;generalize Qt G=l at ai co ⊢;generalize Cs G=err at ai ⊢;generalize G.1=S' at ai ⊢;have fb:=jb ai;rw[a5] at bf;have dy:=jb bf;have HB:=jb hb;have dx:=jb be;have fa:=jb dk;have ff:=jb cq;have f7:=jb a5;have f6:=jb y0;have f5:=jb y1;have f0:=jb y2;have ez:=jb y3;have ey:=jb y4;have d9:=zA (o:=9) (((ja.alloc w (.cells #[.pointer (some ⟨b,0,none⟩)] 49) (fun _=>False)).more (.cells #[ju most] 3)).more (.cells #[.slice none 0 0] 55) |>.more (.cells #[.int .i64 0] 48) |>.same hb id);simp at d9;clear ai bf hb be bj dk cq a5 y0 y1 y2 y3 y4 dm hr;refine(callsIn_wide (n:=9)).1 ?_;refine callsIn_of_wp_marks func29 rfl trivial ?_ rfl;simp only[ntmps29,xP,zX,xU,Nat.reduceAdd,Nat.reduceSub,xV,xW,xX,xY,xZ,xE]
 gi_wp2_with fail
 refine⟨trivial,(callsIn_wide.2 dy.out).mono ?_⟩;rintro e W0 ⟨b5,b6,v0,rfl,ac,ca,cb,kS⟩;rw[<-f7.out] at ac kS;have e7:=jb cb;have e6:=jb ca;clear cb ca
 gi_wp2_with fail
 refine⟨trivial,(callsIn_wide.2 (Kk b5 (z.settled.length+1) b6 hi W0)).mono ?_⟩;rintro e ax ⟨rfl,rfl⟩
 gi_wp2
 have kW:ja w ax (fun _=>False):=kA.tt kS;have sW:w.heap.size+1+1+1+1+1<=ax.heap.size:=by have:=kS.size;omega
 have bb:=kW.same HB.out id;have b0:=kS.same f6.out id;have b1:=kS.same f5.out id;have b2:=kS.same f0.out id;have b3:=kS.same ez.out id;have b4:=kS.same ey.out id;have nT:∀ i,w.heap.size<=i->¬j5 ρ i:=fun i hi h=>by have:=hρ i h;omega
 have bi:ig ax (.slice b5 (z.settled.length+1) b6) (A7 v0::z.settled.map (fun n=>Xt d n lo)):=df ac (by simp)
 have c5:A7 v0::z.settled.map (fun n=>Xt d n lo)≠[]->∀ p n c,Value.slice b5 (z.settled.length+1) b6 = .slice (some p) n c->¬j5 ρ p.block:=by
  intro _ p n c e;injection e with e;have:=(ac.lt p.block (by rw[e];rfl)).1;exact nT _ (by omega)
 have di:∀ p n c,v0 = .slice (some p) n c->¬j5 ρ p.block/\p.block<w.heap.size:=by
  intro p n c e;obtain⟨ex,n',c',e1,e2⟩:=e7.out p n c e;rw[<-e2];exact fa.out ex n' c' e1
 have ah:∀ W1,ja ax W1 (fun _=>False)->Bg P E B ρ d S (.slice b5 (z.settled.length+1) b6) (A7 v0::z.settled.map (fun n=>Xt d n lo)) bx W1:=by
  intro W1 k;have k1:=kW.tt k;refine⟨D.same k1,Z,bi.same k,c5,fun j f st hf a6=>?_⟩;rw[dx.out] at a6
  cases j with
  | zero =>
   cases hf;cases a6;exact jb0 (e6.out.same k) ff.out.2.2 (fun p n c e=>⟨(di p n c e).1,by have:=(di p n c e).2;have:=k1.size;omega⟩) (by have:=k1.size;omega)
  | succ j=>exact e4.out W1 j f st hf a6
 have f9:=jb ah;clear ah bi c5 ac
 have bh:∀ {W:World} {D:Nat} {v:Value},(err=none\/l≠[])->ax.heap.size<=D->¬v.ownBlock=some D->W.heap[D]?=some (.deferred (some []))->Dk E B W ρ d S'->(W.heap[b]?=some (.cells (qe (.pointer (some ⟨d,0,none⟩)) (jf z.next) (jf z.last) (jf z.log) (jf z.base) rv last mv ae false) t (0,0))/\W.heap[w.heap.size]?=some (.cells #[.pointer (some ⟨b,0,none⟩)] 49 (0,0))/\W.heap[w.heap.size+1]?=some (.cells #[ju most] 3 (0,0))/\W.heap[w.heap.size+1+1]?=some (.cells #[.slice none 0 0] 55 (0,0))/\W.heap[w.heap.size+1+1+1]?=some (.cells #[.int .i64 0] 48 (0,0)))->W.ownsRow w.heap.size 65 2 v ((kept l).take most).length (yy ((kept l).take most))->(∀ g,v.ownBlock=some g->w.heap.size+5<=g)->ja w W (fun i=>j5 ρ i\/i=b) ->
  ((W.setCell ⟨w.heap.size+1+1,0,none⟩ v).setCell ⟨w.heap.size+1+1+1,0,none⟩ (.int .i64 0)).heap[D]?=some (.deferred (some [])) /\
  (((W.setCell ⟨w.heap.size+1+1,0,none⟩ v).setCell ⟨w.heap.size+1+1+1,0,none⟩ (.int .i64 0)).putObj D (.deferred none)).cell? ⟨w.heap.size+1+1,0,none⟩=some v /\
  (((W.setCell ⟨w.heap.size+1+1,0,none⟩ v).setCell ⟨w.heap.size+1+1+1,0,none⟩ (.int .i64 0)).putObj D (.deferred none)).cell? ⟨w.heap.size+1+1+1,0,none⟩=some (.int .i64 0) /\
  Pz E B ρ d b t (fun x=>qe (.pointer (some ⟨d,0,none⟩)) (jf z.next) (jf z.last) (jf z.log) (jf z.base) rv last mv x false) ae most S' l err w (.returned (.tuple #[v,.int .i64 0])) (((W.setCell ⟨w.heap.size+1+1,0,none⟩ v).setCell ⟨w.heap.size+1+1+1,0,none⟩ (.int .i64 0)).putObj D (.deferred none)):=by
  intro W D v h1 hD b7 hK DK ⟨gb,g0,g1,g2,g3⟩ y s T
  have k1:=ja.setCell W ⟨w.heap.size+1+1,0,none⟩ v
  have k2:=ja.setCell (W.setCell ⟨w.heap.size+1+1,0,none⟩ v) ⟨w.heap.size+1+1+1,0,none⟩ (.int .i64 0)
  have k3:=ja.putObj ((W.setCell ⟨w.heap.size+1+1,0,none⟩ v).setCell ⟨w.heap.size+1+1+1,0,none⟩ (.int .i64 0)) D (.deferred none)
  have kk:ja W (((W.setCell ⟨w.heap.size+1+1,0,none⟩ v).setCell ⟨w.heap.size+1+1+1,0,none⟩ (.int .i64 0)).putObj D (.deferred none)) (fun i=>i=w.heap.size+1+1\/i=w.heap.size+1+1+1\/i=D) :=
   ((k1.mono (fun _ _ h=> .inl h)).trans k2 (fun _ _ h=> .inr (.inl h))).trans k3 (fun _ _ h=> .inr (.inr h))
  have e1:=k2.same (jc (o:=0) g2 v) (by simp)
  have e2:=jc (o:=0) (k1.same g3 (by simp)) (Value.int .i64 0)
  refine⟨k2.same (k1.same hK (by simp;omega)) (by simp;omega),(zA (k3.same e1 (by omega))).trans rfl,(zA (k3.same e2 (by omega))).trans rfl,T.trans kk (fun i hi h=>by omega),?_,.inl ⟨v,rfl,h1,?_,kk.same gb (by omega)⟩⟩
  ·refine DK.apart kk (fun i hi h=>?_)
   rcases h with h|h|h
   ·exact⟨nT i (by omega),by omega⟩
   ·exact⟨nT i (by omega),by omega⟩
   ·exact⟨nT i (by omega),by omega⟩
  ·refine kk.row y (fun g U h=>?_)
   have:=s g U;rcases h with h|h|h
   ·omega
   ·omega
   ·exact b7 (h▸U)
 refine aw rfl (by decide) (gf:=123) (rv:=#[.agg #[.slice b5 (z.settled.length+1) b6,jd hi]]) (lb:=#[]) rfl trivial ia (fb.out (A7 v0) _ ⟨_,_,_,rfl⟩ 8) (fun _=>rfl) (fun i h=>by have:=hρ i h;omega) (fun i h=>by omega) f9.out
  (fun ap C W=>∃(m:Nat) (v:Value),ap=(l.take m).map zk/\m<=l.length/\(kept (l.take m)).length<=most/\(W.heap[b]?=some (.cells (qe (.pointer (some ⟨d,0,none⟩)) (jf z.next) (jf z.last) (jf z.log) (jf z.base) rv last mv ae false) t (0,0))/\W.heap[w.heap.size]?=some (.cells #[.pointer (some ⟨b,0,none⟩)] 49 (0,0))/\W.heap[w.heap.size+1]?=some (.cells #[ju most] 3 (0,0))/\W.heap[w.heap.size+1+1]?=some (.cells #[.slice none 0 0] 55 (0,0))/\W.heap[w.heap.size+1+1+1]?=some (.cells #[.int .i64 0] 48 (0,0)))/\W.heap[w.heap.size+1+1+1+1]?=some (.cells #[v] 55 (0,0))/\W.ownsRow w.heap.size 65 2 v (kept (l.take m)).length (yy (kept (l.take m)))/\(∀ g,v.ownBlock=some g->w.heap.size+5<=g)/\ja w W (fun i=>j5 ρ i\/i=b)/\(∀ i,C i↔i=b\/i=w.heap.size+1+1\/i=w.heap.size+1+1+1\/i=w.heap.size+1+1+1+1\/v.ownBlock=some i))
  (fun c ap C W=>(c = .ret/\err≠none/\W.heap[b]?=some (.cells (qe (.pointer (some ⟨d,0,none⟩)) (jf z.next) (jf z.last) (jf z.log) (jf z.base) rv last mv true false) t (0,0))/\W.heap[w.heap.size+1+1]?=some (.cells #[.slice none 0 0] 55 (0,0))/\W.heap[w.heap.size+1+1+1]?=some (.cells #[.int .i64 1] 48 (0,0))/\ja w W (fun i=>j5 ρ i\/i=b)) \/
   (c = .exit 0/\∃(v:Value),l≠[]/\(W.heap[b]?=some (.cells (qe (.pointer (some ⟨d,0,none⟩)) (jf z.next) (jf z.last) (jf z.log) (jf z.base) rv last mv ae false) t (0,0))/\W.heap[w.heap.size]?=some (.cells #[.pointer (some ⟨b,0,none⟩)] 49 (0,0))/\W.heap[w.heap.size+1]?=some (.cells #[ju most] 3 (0,0))/\W.heap[w.heap.size+1+1]?=some (.cells #[.slice none 0 0] 55 (0,0))/\W.heap[w.heap.size+1+1+1]?=some (.cells #[.int .i64 0] 48 (0,0)))/\W.heap[w.heap.size+1+1+1+1]?=some (.cells #[v] 55 (0,0))/\W.ownsRow w.heap.size 65 2 v ((kept l).take most).length (yy ((kept l).take most))/\(∀ g,v.ownBlock=some g->C g/\w.heap.size+5<=g)/\ja w W (fun i=>j5 ρ i\/i=b)))
  ?hI ?hIx (fun i=>i=b\/i=w.heap.size+1+1\/i=w.heap.size+1+1+1\/i=w.heap.size+1+1+1+1) ?hC0 ?h0 ?round ?done ?stop
 case hI =>
  rintro ap C A B' ⟨m,v,e,hm,ar,⟨gb,g0,g1,g2,g3⟩,g4,y,s,T,hC⟩ M
  have out:∀ i,(i=b\/w.heap.size<=i)->(i<w.heap.size+5\/v.ownBlock=some i)->¬(j5 ρ i\/(ax.heap.size<=i/\¬C i)):=by
   rintro i h1 h2 (h3|⟨h3,h4⟩)
   ·rcases h1 with h1|h1
    ·exact dg (h1▸h3)
    ·exact nT i h1 h3
   ·rcases h2 with h2|h2
    ·omega
    ·exact h4 ((hC i).2 (.inr (.inr (.inr (.inr h2)))))
  refine⟨m,v,e,hm,ar,⟨ja.same M gb (out _ (.inl rfl) (.inl (by omega))),ja.same M g0 (out _ (.inr (by omega)) (.inl (by omega))),ja.same M g1 (out _ (.inr (by omega)) (.inl (by omega))),ja.same M g2 (out _ (.inr (by omega)) (.inl (by omega))),ja.same M g3 (out _ (.inr (by omega)) (.inl (by omega)))⟩,ja.same M g4 (out _ (.inr (by omega)) (.inl (by omega))),
   ja.row M y (fun g U=>out g (.inr (by have:=s g U;omega)) (.inr U)),s,T.trans M (fun i hi h=>?_),hC⟩
  rcases h with h|⟨h,_⟩
  ·exact .inl h
  ·omega
 case hIx =>
  rintro c ap C A B' lp r (⟨rfl,h1,h3,h4,h5,h6⟩|⟨rfl,v,h1,⟨gb,g0,g1,g2,g3⟩,g4,y,s,T⟩) cn es hr M
  ·have F:∀ i,i<w.heap.size+5->¬i=lp:=fun i hi=>by omega
   exact .inl ⟨rfl,h1,M.same h3 (F _ (by omega)),M.same h4 (F _ (by omega)),M.same h5 (F _ (by omega)),h6.trans M (fun i hi e=>by omega)⟩
  ·have F:∀ i,i<w.heap.size+5->¬i=lp:=fun i hi=>by omega
   exact .inr ⟨rfl,v,h1,⟨M.same gb (F _ (by omega)),M.same g0 (F _ (by omega)),M.same g1 (F _ (by omega)),M.same g2 (F _ (by omega)),M.same g3 (F _ (by omega))⟩,M.same g4 (F _ (by omega)),M.row y (fun g U e=>es (e▸(s g U).1)),s,T.trans M (fun i hi e=>by omega)⟩
 case hC0 =>
  rintro i (h|h|h|h)
  ·exact⟨by omega,by rw[h];exact dg,fun h=>by omega⟩
  all_goals exact⟨by omega,nT i (by omega),fun h=>by omega⟩
 case h0=>exact⟨0,.slice none 0 0,rfl,zU _,zU _,⟨bb,b0,b1,b2,b3⟩,b4,zS _ _ _ _,fun g U=>(by cases U),kW.up,fun i=>by simp[Value.ownBlock]⟩
 case round =>
  rintro lp ap x C W cn ⟨rl,eq⟩ cm cr ⟨m,v,rfl,hm,ar,⟨gb,g0,g1,g2,g3⟩,g4,y,s,T,hC⟩ dw;have h9:=zC eq;have F:∀ i,i<w.heap.size+5->¬i=lp:=fun i hi=>by omega
  rcases dw with⟨k,c,e,M,rfl⟩|⟨bad,he,e,dh,cl⟩
  ·have dl:=(XA.1 M).1
   have du:l≠[]:=fun e=>by rw[e] at M;cases M
   obtain rfl:m=k:=by
    have:=congrArg List.length e;simp at this;omega
   clear e;obtain⟨ck,cv,cg⟩:=c;dsimp only[encI,zk]
   gi_wp2
   refine⟨ja.alloc W _ _,?_⟩;intro V k2 _;have ka:ja W V (fun i=>i=lp):=((ja.alloc W _ (fun _=>False)).up).tt k2;have hb:=k2.same (je W _) (by omega);have q0:=zA (o:=0) hb;have q1:=zA (o:=1) hb;have q2:=zA (o:=2) hb;have b8:=ka.same gb (F _ (by omega));have b9:=ka.same g0 (F _ (by omega));have cs:=ka.same g1 (F _ (by omega));have aa:=ka.same g2 (F _ (by omega));have a9:=ka.same g3 (F _ (by omega));have c0:=ka.same g4 (F _ (by omega));have a1:=zA (o:=0) cs;have a4:=zA (o:=0) c0;have f4:=zB (o:=0) c0;simp at q0 q1 q2 a1 a4;have J:=ka.row y (fun g U e=>cm ((hC lp).2 (.inr (.inr (.inr (.inr (e▸U)))))));have a8:=jb hC;have af:ja w V (fun i=>j5 ρ i\/i=b):=T.trans ka (fun i hi e=>by omega);have cw:=jb b8;have cy:=jb b9;have cx:=jb cs;have bd:=jb aa;have bc:=jb a9;have ba:=jb c0;clear gb g0 g1 g2 g3 g4 b8 b9 cs aa a9 c0 hb hC;have ep:W.heap.size+1<=V.heap.size:=by have:=k2.size;simpa using this
   have a7:=Kp M;have eu:=Bx l m;have e1:(l.take m).map zk++[zk ⟨ck,cv,cg⟩]=(l.take (m+1)).map zk:=(gi M).symm;have E1:=jb e1;clear e1;obtain⟨pv,cpv,rfl⟩:=jj J;obtain⟨q,hq⟩:∃ q,q=(kept (l.take m)).length:=⟨_,rfl⟩;obtain⟨L,hL⟩:∃ L,L=kept (l.take m):=⟨_,rfl⟩;have aq:q=L.length:=by rw[hq,hL]
   rw[<-hq] at J eu s a8 a4 ba ar;rw[<-hL] at J a7;clear y;by_cases hfull:q=most
   ·have al:=jcb (l:=l) (m:=m) (most:=most) (by rw[<-hq];exact hfull)
    rw[<-hL] at al;have c7:((kept l).take most).length=q:=by rw[al,<-aq]
    have er:((q:Int)==(most:Int))=true:=by simp[hfull]
    have e9:=jb al;have e3:=jb c7;have ag:=jb J;clear al c7 J hq hL aq a7 hfull
    gi_wp2
    refine⟨C,fun i h=> .inl h,fun i h=>zT (cr i h) (by omega),ja.refl _ _,.inr ⟨rfl,.slice pv q cpv,du,⟨cw.out,cy.out,cx.out,bd.out,bc.out⟩,ba.out,by rw[e3.out,e9.out];exact ag.out,fun g U=>⟨(a8.out g).2 (.inr (.inr (.inr (.inr U)))),s g U⟩,af⟩⟩
   ·have er:((q:Int)==(most:Int))=false:=by simp;omega
    have fz:¬((q:Int)=(most:Int)):=by omega
    have h8:q+1<=most:=by omega
    cases cg with
    | true =>
     simp only[if_true,ZC] at a7;have ab:(kept (l.take (m+1))).length=q:=by rw[a7,<-aq]
     have fc:=jb a7;have cc:=jb ab;have ag:=jb J;clear a7 ab J hq hL aq hfull
     gi_wp2
     refine⟨C,fun i h=> .inl h,fun i h=>zT (cr i h) (by omega),ja.refl _ _,m+1,.slice pv q cpv,E1.out,dl,by rw[cc.out];omega,⟨cw.out,cy.out,cx.out,bd.out,bc.out⟩,ba.out,by rw[cc.out,fc.out];exact ag.out,s,af,a8.out⟩
    | false =>
     rw[if_neg (by simp)] at a7;have ab:(kept (l.take (m+1))).length=q+1:=by rw[a7,ZY,<-aq];rfl
     have dt:∀(Y:Option Addr) (I:Nat) (O:World),O.ownsRow w.heap.size 65 2 (.slice Y (q+1) I) (q+1) (yy L++yy [⟨ck,cv,false⟩]) ->
      (V.alloc (.cells #[jd ck,jd cv] 65)).grownBy O (Value.slice pv q cpv).ownBlock->((Value.slice Y (q+1) I).ownBlock=(Value.slice pv q cpv).ownBlock\/(Value.slice Y (q+1) I).ownBlock=some (V.alloc (.cells #[jd ck,jd cv] 65)).heap.size) ->
      ∃ C':Nat->Prop,(∀ i,C' i->C i\/W.heap.size<=i)/\(∀ i,C' i->i<(O.setCell ⟨w.heap.size+1+1+1+1,0,none⟩ (.slice Y (q+1) I)).heap.size)/\ja V (O.setCell ⟨w.heap.size+1+1+1+1,0,none⟩ (.slice Y (q+1) I)) C /\
       ∃(m':Nat) (v:Value),(l.take m).map zk++[zk ⟨ck,cv,false⟩]=(l.take m').map zk/\m'<=l.length/\(kept (l.take m')).length<=most/\((O.setCell ⟨w.heap.size+1+1+1+1,0,none⟩ (.slice Y (q+1) I)).heap[b]?=some (.cells (qe (.pointer (some ⟨d,0,none⟩)) (jf z.next) (jf z.last) (jf z.log) (jf z.base) rv last mv ae false) t (0,0))/\(O.setCell ⟨w.heap.size+1+1+1+1,0,none⟩ (.slice Y (q+1) I)).heap[w.heap.size]?=some (.cells #[.pointer (some ⟨b,0,none⟩)] 49 (0,0))/\(O.setCell ⟨w.heap.size+1+1+1+1,0,none⟩ (.slice Y (q+1) I)).heap[w.heap.size+1]?=some (.cells #[ju most] 3 (0,0))/\(O.setCell ⟨w.heap.size+1+1+1+1,0,none⟩ (.slice Y (q+1) I)).heap[w.heap.size+1+1]?=some (.cells #[.slice none 0 0] 55 (0,0))/\(O.setCell ⟨w.heap.size+1+1+1+1,0,none⟩ (.slice Y (q+1) I)).heap[w.heap.size+1+1+1]?=some (.cells #[.int .i64 0] 48 (0,0)))/\(O.setCell ⟨w.heap.size+1+1+1+1,0,none⟩ (.slice Y (q+1) I)).heap[w.heap.size+1+1+1+1]?=some (.cells #[v] 55 (0,0))/\(O.setCell ⟨w.heap.size+1+1+1+1,0,none⟩ (.slice Y (q+1) I)).ownsRow w.heap.size 65 2 v (kept (l.take m')).length (yy (kept (l.take m')))/\(∀ g,v.ownBlock=some g->w.heap.size+5<=g)/\ja w (O.setCell ⟨w.heap.size+1+1+1+1,0,none⟩ (.slice Y (q+1) I)) (fun i=>j5 ρ i\/i=b)/\(∀ i,C' i↔i=b\/i=w.heap.size+1+1\/i=w.heap.size+1+1+1\/i=w.heap.size+1+1+1+1\/v.ownBlock=some i):=by
      intro Y I O bz au cp
      have kA:ja V (V.alloc (.cells #[jd ck,jd cv] 65)) (fun _=>False):=ja.alloc _ _ _
      have k3:ja V O (fun i=>(Value.slice pv q cpv).ownBlock=some i):=(kA.up).trans (ja.grown au) (fun i _ e=>e.symm)
      have k4:=ja.setCell O ⟨w.heap.size+1+1+1+1,0,none⟩ (.slice Y (q+1) I)
      have X:∀ i,i<w.heap.size+5->¬(Value.slice pv q cpv).ownBlock=some i:=fun i hi e=>by have:=s i e;omega
      have ew:=k3.same ba.out (X _ (by omega))
      have h7:=k3.size
      have gx:=kW.size
      have bg:∀ g,(Value.slice Y (q+1) I).ownBlock=some g->(Value.slice pv q cpv).ownBlock=some g\/V.heap.size<=g:=by
       intro g U;rcases cp with h|h
       ·exact .inl (h▸U)
       ·rw[h] at U
        cases U;exact .inr (by simp)
      have cz:=k4.row bz (fun g U e=>by
       have e':g=w.heap.size+1+1+1+1:=e
       rcases bg g U with h|h
       ·exact X g (by omega) h
       ·omega)
      refine⟨fun i=>i=b\/i=w.heap.size+1+1\/i=w.heap.size+1+1+1\/i=w.heap.size+1+1+1+1\/(Value.slice Y (q+1) I).ownBlock=some i,?_,?_,?_,m+1,(.slice Y (q+1) I),E1.out,dl,by rw[ab];omega,⟨?_,?_,?_,?_,?_⟩,?_,?_,?_,?_,fun _=>Iff.rfl⟩
      ·rintro i (h|h|h|h|h)
       ·exact .inl ((a8.out i).2 (.inl h))
       ·exact .inl ((a8.out i).2 (.inr (.inl h)))
       ·exact .inl ((a8.out i).2 (.inr (.inr (.inl h))))
       ·exact .inl ((a8.out i).2 (.inr (.inr (.inr (.inl h)))))
       ·rcases bg i h with h|h
        ·exact .inl ((a8.out i).2 (.inr (.inr (.inr (.inr h)))))
        ·exact .inr (by omega)
      ·intro i h
       have dj:(O.setCell ⟨w.heap.size+1+1+1+1,0,none⟩ (.slice Y (q+1) I)).heap.size=O.heap.size:=by simp[World.setCell]
       rw[dj];rcases h with h|h|h|h|h
       ·omega
       ·omega
       ·omega
       ·omega
       ·exact(bz.lt i h).2
      ·exact(k3.mono (fun i _ h=>(a8.out i).2 (.inr (.inr (.inr (.inr h)))))).trans k4 (fun i _ e=>(a8.out i).2 (.inr (.inr (.inr (.inl e)))))
      ·exact k4.same (k3.same cw.out (X _ (by omega))) (by simp<;>omega)
      ·exact k4.same (k3.same cy.out (X _ (by omega))) (by simp<;>omega)
      ·exact k4.same (k3.same cx.out (X _ (by omega))) (by simp<;>omega)
      ·exact k4.same (k3.same bd.out (X _ (by omega))) (by simp<;>omega)
      ·exact k4.same (k3.same bc.out (X _ (by omega))) (by simp)
      ·exact(jc ew _).trans rfl
      ·rw[ab,a7,Lt];exact cz
      ·intro g U
       rcases bg g U with h|h
       ·exact s g h
       ·omega
      ·exact(af.trans k3 (fun i hi e=>by have:=s i e;omega)).trans k4 (fun i hi e=>by have e':i=w.heap.size+1+1+1+1:=e;omega)
     have dq:q+1<=maxLen:=by unfold maxLen;omega
     have dn:(q+1)*32<=140737488355328:=by omega
     have dp:w.heap.size<=(V.alloc (.cells #[jd ck,jd cv] 65)).heap.size:=by simp;have:=kW.size;omega
     have c6:∀ j u,(yy [⟨ck,cv,false⟩])[j]?=some u->(V.alloc (.cells #[jd ck,jd cv] 65)).cell? ((⟨V.heap.size,0,none⟩:Addr).add j)=some u:=Jt (je V _) rfl;have c4:=jfk [⟨ck,cv,false⟩];obtain⟨j0,hj,eo,en,em⟩:=info_parts Tryz.jcg
     have a6:∀ O:World,(V.alloc (.cells #[jd ck,jd cv] 65)).grownBy O (Value.slice pv q cpv).ownBlock->O.cell? ⟨w.heap.size+1+1+1+1,0,none⟩=some (.slice pv q cpv)/\O.frozen? ⟨w.heap.size+1+1+1+1,0,none⟩=false:=by
      intro O au;have ds:=(ja.grown au).same ((ja.alloc V (.cells #[jd ck,jd cv] 65) (fun _=>False)).same ba.out id) (fun e=>by have:=s _ e.symm;omega);exact⟨(zA ds).trans rfl,zB ds⟩
     have f8:=jb a6;have e5:=jb dt;have fj:=jb dq;have fi:=jb dn;have e8:=jb dp;have e0:=jb c6;have dz:=jb c4;have ag:=jb (J.alloc (.cells #[jd ck,jd cv] 65));clear a6 dt dq dn dp c6 c4 a7 ab hq hL aq J
     gi_wp2_with (gi_at_builtin;refine Qe _ rfl (.tmp 37) (.tmp 43) 55 rfl w.heap.size 65 j0 prZ 2 32 underlying55 hj eo en em rfl (ZG 1) (.slice pv q cpv) q (yy L) rfl ag.out ⟨V.heap.size,0,none⟩ 1 1 (yy [⟨ck,cv,false⟩]) rfl rfl e0.out dz.out fj.out fi.out e8.out ?_;intro Y I O bz au cp;obtain⟨hn,hh⟩:=f8.out O au)
     exact e5.out Y I O bz au cp
  ·obtain⟨x1,ev⟩:=x
   simp only at dh cl;subst dh;obtain⟨tv,av,rfl⟩:=cl.shape;dsimp only[encI,bn]
   gi_wp2
   refine⟨ja.alloc W _ _,?_⟩;intro V k2 _;have ka:ja W V (fun i=>i=lp):=((ja.alloc W _ (fun _=>False)).up).tt k2;have b8:=ka.same gb (F _ (by omega));have b9:=ka.same g0 (F _ (by omega));have aa:=ka.same g2 (F _ (by omega));have a9:=ka.same g3 (F _ (by omega));have a0:=zA (o:=0) b9;simp at a0;have c9:=B8 b8;have fh:=jb c9;have bd:=jb aa;have bc:=jb a9;have HC:=jb hC;clear gb g0 g1 g2 g3 g4 b8 b9 aa a9 hC cl c9;have af:ja w V (fun i=>j5 ρ i\/i=b):=T.trans ka (fun i hi e=>by omega);have ep:W.heap.size+1<=V.heap.size:=by have:=k2.size;simpa using this
   gi_wp2_with fail
   refine⟨trivial,((callsIn_wide.2 fh.out).inRound lp).mono ?_⟩;rintro e w5 ⟨rfl,dr,k5⟩;have aa:=k5.same bd.out (by omega);have a9:=k5.same bc.out (by omega);have a2:=zA (o:=0) aa;have f2:=zB (o:=0) aa;have a3:=zA (o:=0) a9;have f3:=zB (o:=0) a9;simp at a2 a3;have fe:=jb aa;have fd:=jb a9;have fk:=jb dr;clear aa a9 dr;have gz:=k5.size
   gi_wp2
   refine⟨C,fun i h=> .inl h,fun i h=>?_,?_,.inl ⟨rfl,by rw[he];simp,?_,?_,?_,?_⟩⟩
   ·have:=cr i h
    have dj:((w5.setCell ⟨w.heap.size+1+1,0,none⟩ (.slice none 0 0)).setCell ⟨w.heap.size+1+1+1,0,none⟩ (.int .i64 1)).heap.size=w5.heap.size:=by simp[World.setCell]
    omega
   ·exact((k5.mono (fun i _ e=>(HC.out i).2 (.inl e))).set (p:=⟨w.heap.size+1+1,0,none⟩) ((HC.out _).2 (.inr (.inl rfl))) _).set (p:=⟨w.heap.size+1+1+1,0,none⟩) ((HC.out _).2 (.inr (.inr (.inl rfl)))) _
   ·exact(ja.setCell _ _ _).same ((ja.setCell _ _ _).same fk.out (by simp<;>omega)) (by simp<;>omega)
   ·exact(ja.setCell _ _ _).same ((jc fe.out _).trans rfl) (by simp)
   ·exact(jc ((ja.setCell w5 ⟨w.heap.size+1+1,0,none⟩ (.slice none 0 0)).same fd.out (by simp)) _).trans rfl
   ·exact((af.trans k5 (fun i hi e=> .inr e)).Xd (p:=⟨w.heap.size+1+1,0,none⟩) (by simp<;>omega) _).Xd (p:=⟨w.heap.size+1+1+1,0,none⟩) (by simp<;>omega) _
 case done =>
  rintro D' lp C xs V W hD cn F b7 cm ⟨DK,c8⟩ M ⟨m,v,e,hm,ar,N,g4,y,s,T,hC⟩ hK;have a1:=zA (o:=0) N.2.2.2.1;have f1:=zB (o:=0) N.2.2.2.1;have a2:=zA (o:=0) N.2.2.2.2;have f2:=zB (o:=0) N.2.2.2.2;have a3:=zA (o:=0) g4;simp at a1 a2 a3;have ct:=jb N;have HC:=jb hC;clear N g4 hC
  have et:m=l.length/\err=none:=by
   rcases c8 with⟨h1,h2⟩|⟨bad,ev,h1,⟨t,a,rfl⟩,h2⟩
   ·rw[e] at h2
    have:=congrArg List.length h2;simp at this;exact⟨by omega,h1⟩
   ·rw[e] at h2
    have h3:(bn,Value.iface t (.pointer (some a)))∈(l.take m).map zk:=by rw[h2];simp
    obtain⟨c,_,h4⟩:=ZN.1 h3;cases h4
  obtain⟨rfl,dv⟩:=et;rw[zW] at y ar;rw[<-ZO ar] at y;obtain⟨pv,cpv,rfl⟩:=jj y;have fg:=jb DK;clear c8 DK e;obtain⟨z1,z2,z3,z4⟩:=bh (W:=W) (D:=D') (.inl dv) hD (fun h=>b7 ((HC.out D').2 (.inr (.inr (.inr (.inr h)))))) hK (fg.out.apart M (fun i hi e=>by rw[e];exact⟨nT lp (by omega),by omega⟩)) ct.out y s T;have Z1:=jb z1;have Z2:=jb z2;have Z3:=jb z3;have Z4:=jb z4;clear z1 z2 z3 z4;generalize ((kept l).take most).length=q at *
  gi_wp2
  have z2:=Z2.out;have z3:=Z3.out;refine⟨by simp,.inl ⟨_,_,rfl,run_takeDeferred Z1.out,?_⟩⟩;exact⟨.tuple #[.slice pv q cpv,.int .i64 0],(by simp[results,Tryz.results29,go_sem,z2,z3]),Z4.out⟩
 case stop =>
  rintro D' lp C c ap V W hD cn F b7 cm DK M (⟨rfl,h1,h3,h4,h5,h6⟩|⟨rfl,v,h1,N,g4,y,s,T⟩) hK
  ·gi_wp2
   have k9:=ja.putObj W D' (.deferred none);have r4:=zA (o:=0) (k9.same h4 (by omega));have r5:=zA (o:=0) (k9.same h5 (by omega));simp at r4 r5;refine⟨by simp,.inl ⟨_,_,rfl,run_takeDeferred hK,?_⟩⟩;refine⟨.tuple #[.slice none 0 0,.int .i64 1],(by simp[results,Tryz.results29,go_sem,r4,r5]),h6.trans k9 (fun i hi e=>by omega),?_,.inr ⟨h1,rfl,k9.same h3 (by omega)⟩⟩;exact(DK.apart M (fun i hi e=>by rw[e];exact⟨nT lp (by omega),by omega⟩)).apart k9 (fun i hi e=>by rw[e];exact⟨nT D' (by omega),by omega⟩)
  ·have a1:=zA (o:=0) N.2.2.2.1
   have f1:=zB (o:=0) N.2.2.2.1;have a2:=zA (o:=0) N.2.2.2.2;have f2:=zB (o:=0) N.2.2.2.2;have a3:=zA (o:=0) g4;simp at a1 a2 a3;have ct:=jb N;clear N g4;obtain⟨pv,cpv,rfl⟩:=jj y;obtain⟨z1,z2,z3,z4⟩:=bh (W:=W) (D:=D') (.inr h1) hD (fun h=>b7 (s D' h).1) hK (DK.apart M (fun i hi e=>by rw[e];exact⟨nT lp (by omega),by omega⟩)) ct.out y (fun g U=>(s g U).2) T;have Z1:=jb z1;have Z2:=jb z2;have Z3:=jb z3;have Z4:=jb z4;clear z1 z2 z3 z4;generalize ((kept l).take most).length=q at *
   gi_wp2
   have z2:=Z2.out;have z3:=Z3.out;refine⟨by simp,.inl ⟨_,_,rfl,run_takeDeferred Z1.out,?_⟩⟩;exact⟨.tuple #[.slice pv q cpv,.int .i64 0],(by simp[results,Tryz.results29,go_sem,z2,z3]),Z4.out⟩
end Go.Proofs.YtnipbplghijdmaaGreatDoor
namespace Go.Proofs.YtnipbplghijdmaaGreatDoor
open RowKit Maps Go.Proofs.Tryz
variable {W:World} {Ds:List Nat}
def marks(Ds:List Nat):List Deferred:=Ds.map fun D=>{ target:= .collected D,args:=#[] }
def vd(W:World):List Nat->World
 | []=>W
 | D::r=>vd (W.putObj D (.deferred none)) r
theorem Xj(W:World)(Ds:List Nat):ja W (vd W Ds) (fun i=>i∈Ds):=by
 induction Ds generalizing W with
 | nil=>exact ja.refl _ _
 | cons D r ih=>exact((ja.putObj W D _).mono (fun i _ e=>by rw[e];exact xJ)).trans (ih _) (fun i _ h=>xI _ h)
def Jg(W:World)(Ds:List Nat):Prop:=Ds.Nodup/\∀ D∈Ds,W.heap[D]?=some (.deferred (some []))
theorem Jg.nil(W:World):Jg W []:=⟨List.nodup_nil,fun D h=>by cases h⟩
theorem Jg.keep{W':World}{T:Nat->Prop}(h:Jg W Ds)(k:ja W W' T)(b:∀ D∈Ds,¬T D):Jg W' Ds:=⟨h.1,fun D hD=>k.same (h.2 D hD) (b D hD)⟩
theorem Jg.cons{D:Nat}(h:Jg W Ds)(d:W.heap[D]?=some (.deferred (some [])))(c:D∉Ds):Jg W (D::Ds) :=
 ⟨XB.2 ⟨c,h.1⟩,fun E b=>by
  rcases zH.1 b with rfl|b
  ·exact d
  ·exact h.2 E b⟩
theorem Yi{F:Fence}{n:Nat}{P:Program}{fn:Func}{tmps:Array Value}{R:Ending->World->Prop}{u:FrameMode}(c:u≠ .run)(h:Jg W Ds)(b:LeavesInM F n P fn tmps R [] u (vd W Ds)):LeavesInM F n P fn tmps R (marks Ds) u W:=by
 induction Ds generalizing W with
 | nil=>exact b
 | cons D r ih =>
  refine⟨c,.inl ⟨D,_,rfl,run_takeDeferred (h.2 D xJ),ih ⟨(XB.1 h.1).2,fun E hE=>?_⟩ b⟩⟩;exact(ja.putObj W D _).same (h.2 E (xI _ hE)) (fun e=>(XB.1 h.1).1 (e▸hE))
end Go.Proofs.YtnipbplghijdmaaGreatDoor
namespace Go.Proofs.YtnipbplghijdmaaGreatDoor
open RowKit Maps WideShapes Go.Proofs.Tryz
variable {E:Nat->Addr} {B b d k:Nat} {w:World} {sts:List Jh} {st:Jh} {c:Rf.Ch}
def zx(key:Str):List Jh->jh->jh×(Option Rf.Ch ⊕ Bool)
 | [],S=>(S,.inl none)
 | st::r,S =>
  match (st S).2.1 with
  | c::_=>if c.key=key then((st S).1,.inl (some c))else zx key r (st S).1
  | [] =>
   match (st S).2.2 with
   | some bad=>((st S).1,.inr bad)
   | none=>zx key r (st S).1
theorem ed(key:Str)(st:Jh)(r:List Jh)(S:jh):zx key (st::r) S =
 match (st S).2.1 with
 | c::_=>if c.key=key then((st S).1,.inl (some c))else zx key r (st S).1
 | [] =>
  match (st S).2.2 with
  | some bad=>((st S).1,.inr bad)
  | none=>zx key r (st S).1:=rfl
def Bk(P:jh->Prop)(E:Nat->Addr)(B:Nat)(ρ:Nat->jz)(d:Nat)(w:World)(f:Value)(st:Jh):Prop :=
 ∀(W:World) (S:jh),ja w W (j5 ρ)->Dk E B W ρ d S->P S->P (st S).1 /\
  ∃(gf:Nat) (rv lb:Array Value) (Needs:Nat->Prop) (Start:World->Prop),f = .func (.func gf) rv lb/\(∀ ys w,(callFunc gf ys).run prog w = .ok (.enter gf ys) w) /\
   (∀ n,He Fence.wide n prog gf rv lb encI (j5 ρ) Needs Start (jdg E (st S).2.1 (st S).2.2) (jdf E B ρ d (st S).1 (st S).2.1 (st S).2.2) (I6 E B ρ d (st S).1)) /\
   (∀ i,Needs i->i<w.heap.size)/\(∀ W',ja W W' (fun _=>False)->Start W')
theorem jgv{P:jh->Prop}{ρ:Nat->jz}{v:Value}{l:List Rf.Ch}(f:Chs w v l)(j:l.length<1048576)(g:∀ p n c,v = .slice (some p) n c->¬j5 ρ p.block/\p.block<w.heap.size)(m:B<=w.heap.size):Bk P E B ρ d w (A7 v) (Yf l):=by
 intro W S k D Z;have b:Chs W v l:=f.keep k (fun _ p n c e=>(g p n c e).1);refine⟨Z,_,_,_,Uj B v,(fun W=>Chs W v l/\Dk E B W ρ d S),rfl,b8,fun n=>bt v l j,fun i hi=>?_,fun W' k'=>⟨b.same k',D.same k'⟩⟩;rcases hi with h|⟨p,n,c,e,rfl⟩
 ·omega
 ·exact(g p n c e).2
theorem jgt{P:jh->Prop}{ρ:Nat->jz}{m:Nat}{key:Str}{bl:List (List Rf.Ch)}(c:B<=w.heap.size)(g:m<=9223372036854775807)(b:(Rf.zm bl).length<1099511627776)(j:∀ S,P S->P (S.called false)/\Small S/\Ak S (jq m) bl):Bk P E B ρ d w (Xt d m key) (gn bl key):=by
 intro W S k D Z;obtain⟨p,o,l⟩:=j S Z
 have f:(jq m).length<1099511627776:=by
  have:=zn g;unfold jq;rw[ZY];simp;omega
 exact⟨p,_,_,_,(fun i=>i<B),Tn E B ρ d S (jq m) bl,rfl,tm,fun n=>sk (jq m) key bl f b,fun i hi=>zT hi c,fun W' k'=>⟨D.same k',o,l⟩⟩
def jde(P:jh->Prop)(E:Nat->Addr)(B:Nat)(ρ:Nat->jz)(d:Nat)(w:World)(G:jh×(Option Rf.Ch ⊕ Bool))(e:Ending)(w':World):Prop :=
 ja w w' (j5 ρ)/\Dk E B w' ρ d G.1/\P G.1 /\
 ((∃ c,G.2 = .inl (some c)/\e = .returned (.tuple #[chV c,.bool true,.nilIface]))\/(G.2 = .inl none/\e = .returned (.tuple #[chV bn,.bool false,.nilIface])) \/
  (∃ bad ev,G.2 = .inr bad/\e = .returned (.tuple #[chV bn,.bool false,ev])/\mx E w' ev bad))
theorem B6{key:Str}{S:jh}(h:sts[k]?=some st)(d:∀ c r,(st S).2.1=c::r->c.key≠key)(b:(st S).2.1=[]->(st S).2.2=none):zx key (sts.drop k) S=zx key (sts.drop (k+1)) (st S).1:=by
 have g:=(XA.1 h).1
 have e:sts.drop k=st::sts.drop (k+1):=by
  have f:sts[k]=st:=(XA.1 h).2;rw[<-f,XC]
 rw[e,ed]
 cases hl:(st S).2.1 with
 | cons c r=>simp only;rw[if_neg (d c r hl)]
 | nil=>simp only;rw[b hl]
theorem Kq{key:Str}{S:jh}(h:sts[k]?=some st):zx key (sts.drop k) S=zx key (st::sts.drop (k+1)) S:=by
 have e:sts.drop k=st::sts.drop (k+1):=by
  have b:sts[k]'((XA.1 h).1)=st:=(XA.1 h).2;rw[<-b,XC]
 rw[e]
theorem S0{key:Str}{S:jh}{r:List Rf.Ch}(h:sts[k]?=some st)(d:(st S).2.1=c::r)(b:c.key=key):zx key (sts.drop k) S=((st S).1,.inl (some c)):=by
 rw[Kq h,ed,d];simp only;rw[if_pos b]
theorem S8{key:Str}{S:jh}{bad:Bool}(h:sts[k]?=some st)(c:(st S).2.1=[])(b:(st S).2.2=some bad):zx key (sts.drop k) S=((st S).1,.inr bad):=by
 rw[Kq h,ed,c];simp only;rw[b]
theorem Vz{x:Bool}(h:w.heap[b]?=some (.cells #[.bool x] 4 (0,0))):(loadVar 4 ⟨b,0,none⟩).run prog w = .ok (.bool x) w:=by
 have c:=zA (o:=0) h;simp at c;go_simp
theorem Ol{x:Value}(h:w.heap[b]?=some (.cells #[x] 128 (0,0))):(loadVar 128 ⟨b,0,none⟩).run prog w = .ok x w:=by
 have c:=zA (o:=0) h;simp at c;go_simp
theorem kf{fn:Func}{t u x:Tmp}(h:fn.results=#[.cell t 88,.cell u 4,.cell x 128]){tmps:Array Value}{f d:Nat}{k:Bool}{l:Value}(r:tmps.getD t undef = .pointer (some ⟨b,0,none⟩))(q:tmps.getD u undef = .pointer (some ⟨f,0,none⟩))(p:tmps.getD x undef = .pointer (some ⟨d,0,none⟩))(y:w.heap[b]?=some (.cells #[jd c.key,jd c.value,.bool c.gone] 88 (0,0)))(v:w.heap[f]?=some (.cells #[.bool k] 4 (0,0)))(s:w.heap[d]?=some (.cells #[l] 128 (0,0))) :
 (results fn tmps).run prog w = .ok (.tuple #[chV c,.bool k,l]) w:=by
 have o:=Uk y;have n:=Vz v;have m:=Ol s;have j:tmps[t]?.getD undef = .pointer (some ⟨b,0,none⟩):=by simpa using r
 have i:tmps[u]?.getD undef = .pointer (some ⟨f,0,none⟩):=by simpa using q
 have g:tmps[x]?.getD undef = .pointer (some ⟨d,0,none⟩):=by simpa using p
 simp[results,h,j,i,g,asAddr,o,n,m]
end Go.Proofs.YtnipbplghijdmaaGreatDoor

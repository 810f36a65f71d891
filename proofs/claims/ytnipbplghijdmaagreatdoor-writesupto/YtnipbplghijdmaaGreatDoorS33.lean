/-
  S: LookG LayQ.
-/
import Derived.Deep.RegionHeld
import Derived.Test.YtnipbplghijdmaaGreatDoorS32
set_option maxRecDepth 100000
set_option maxHeartbeats 8000000
set_option linter.unusedVariables false
set_option linter.unusedSimpArgs false
namespace Go.Proofs.YtnipbplghijdmaaGreatDoor
open RowKit Maps WideShapes Go.Proofs.Tryz
variable {w:World} {b c n:Nat} {a0 a1 a2 a3:Int} {p:Option Addr} {x5 x6:Bool}
theorem Vy(h:w.heap[b]?=some (.cells #[.int .i64 a0,.int .i64 a1,.int .i64 a2,.int .i64 a3,.slice p n c,.bool x5,.bool x6] 61 (0,0))):(loadVar 61 ⟨b,0,none⟩).run prog w = .ok (.agg #[.int .i64 a0,.int .i64 a1,.int .i64 a2,.int .i64 a3,.slice p n c,.bool x5,.bool x6]) w:=by
 have l:=zA (o:=0) h;have k:=zA (o:=1) h;have j:=zA (o:=2) h;have i:=zA (o:=3) h;have g:=zA (o:=4) h;have f:=zA (o:=5) h;have d:=zA (o:=6) h;simp at l k j i g f d;go_simp
theorem vi{fn:Func}{t:Tmp}(h:fn.results=#[.cell t 61]){tmps:Array Value}(f:tmps.getD t undef = .pointer (some ⟨b,0,none⟩))(i:w.heap[b]?=some (.cells #[.int .i64 a0,.int .i64 a1,.int .i64 a2,.int .i64 a3,.slice p n c,.bool x5,.bool x6] 61 (0,0))):(results fn tmps).run prog w = .ok (.agg #[.int .i64 a0,.int .i64 a1,.int .i64 a2,.int .i64 a3,.slice p n c,.bool x5,.bool x6]) w:=by
 have g:=Vy i;have d:tmps[t]?.getD undef = .pointer (some ⟨b,0,none⟩):=by simpa using f
 simp[results,h,d,asAddr,g]
theorem Oj{dv mv rv:Value}{D la lo r last:Nat}{f:List Nat}{l cl:Bool}(k:w.heap[b]?=some (.cells (qe dv (jf D) (jf la) (jf lo) (jf r) rv (jf last) mv l cl) 121 (0,0)))(U:zl w rv f)(V:f.length<1099511627776) :
 Calls prog 32 #[.pointer (some ⟨b,0,none⟩)] w fun e w'=>∃ p c,e = .returned (.agg #[ju last,ju lo,ju r,ju D,.slice p f.length c,.bool l,.bool cl])/\w'.ownsRow w.heap.size 3 1 (.slice p f.length c) f.length (f.map jf)/\ja w w' (fun _=>False):=by
 have R:=zA (o:=1) k;have O:=zA (o:=3) k;have N:=zA (o:=4) k;have M:=zA (o:=5) k;have L:=zA (o:=6) k;have J:=zA (o:=8) k;have I:=zA (o:=9) k;simp[qe] at R O N M L J I;have a7:=zC k;clear k;obtain⟨C,B⟩:∃ C,C=w.alloc (.cells #[.int .i64 0,.int .i64 0,.int .i64 0,.int .i64 0,.slice none 0 0,.bool false,.bool false] 61):=⟨_,rfl⟩;obtain⟨j,G⟩:∃ j,j=w.heap.size:=⟨_,rfl⟩;have b4:¬b=j:=by omega
 have b3:¬j=b:=by omega
 clear a7;have m:ja w C (fun _=>False):=by rw[B];exact ja.alloc _ _ _
 have X:C.heap[j]?=some (.cells #[.int .i64 0,.int .i64 0,.int .i64 0,.int .i64 0,.slice none 0 0,.bool false,.bool false] 61 (0,0)):=by rw[B,G];exact je _ _
 have Y:Hid (∀ W,ja C W (fun _=>False)->Calls prog 74 #[rv] W fun e w'=>∃ p c,e = .returned (.slice p f.length c)/\w'.ownsRow W.heap.size 3 1 (.slice p f.length c) f.length (f.map jf)/\ja W w' (fun _=>False)):=fun W kW=>fw W rv f ((U.same m).same kW) V;have kd:ja C C.drew (fun _=>False):=ja.drew _ _;have R:=m.cell R id;have O:=m.cell O id;have N:=m.cell N id;have M:=m.cell M id;have L:=m.cell L id;have J:=m.cell J id;have I:=m.cell I id;have a0:=jb X;have Z:=jb G;have a8:=jb B;obtain⟨H,F⟩:∃ H,H=f.length:=⟨_,rfl⟩;rw[<-F] at Y ⊢;have a9:=jb F;clear X G B U V F;go_enter func32,ntmps32;go_wp2_with fail;rw[<-a8.out,<-Z.out]
 go_region_held (fun W=>W.cell? ⟨b,1,none⟩=some (jf D)/\W.cell? ⟨b,3,none⟩=some (jf lo)/\W.cell? ⟨b,4,none⟩=some (jf r)/\W.cell? ⟨b,5,none⟩=some rv/\W.cell? ⟨b,6,none⟩=some (jf last)/\W.cell? ⟨b,8,none⟩=some (.bool l)/\W.cell? ⟨b,9,none⟩=some (.bool cl)) (go_keep)
  (first|(go_at_call 74;refine(Y.out _ kd).mono ?_;rintro e n ⟨S,T,rfl,E,q⟩;have R:=q.cell R id;have O:=q.cell O id;have N:=q.cell N id;have M:=q.cell M id;have L:=q.cell L id;have J:=q.cell J id;have I:=q.cell I id;have d:=q.same a0.out id;have z0:=zA (o:=0) d;have z1:=zA (o:=1) d;have z2:=zA (o:=2) d;have z3:=zA (o:=3) d;have z4:=zA (o:=4) d;have z5:=zA (o:=5) d;have z6:=zA (o:=6) d;simp at z0 z1 z2 z3 z4 z5 z6;have y0:=zB (o:=0) d;have y1:=zB (o:=1) d;have y2:=zB (o:=2) d;have y3:=zB (o:=3) d;have y4:=zB (o:=4) d;have y5:=zB (o:=5) d;have y6:=zB (o:=6) d;have aa:=jb d;clear d))
 obtain⟨x0,A⟩:∃ x,x=n.setCell ⟨j,0,none⟩ (.int .i64 (last:Int)):=⟨_,rfl⟩;have e0:x0.heap[j]?=some (.cells #[.int .i64 (last:Int),.int .i64 0,.int .i64 0,.int .i64 0,.slice none 0 0,.bool false,.bool false] 61 (0,0)):=by rw[A];exact(jc aa.out _).trans rfl
 have m0:ja n x0 (fun i=>i=j):=by rw[A];exact ja.setCell n _ _
 obtain⟨x1,z⟩:∃ x,x=x0.setCell ⟨j,1,none⟩ (.int .i64 (lo:Int)):=⟨_,rfl⟩;have e1:x1.heap[j]?=some (.cells #[.int .i64 (last:Int),.int .i64 (lo:Int),.int .i64 0,.int .i64 0,.slice none 0 0,.bool false,.bool false] 61 (0,0)):=by rw[z];exact(jc e0 _).trans rfl
 have m1:ja n x1 (fun i=>i=j):=by rw[z];exact m0.set (p:=⟨j,1,none⟩) rfl _
 obtain⟨x2,y⟩:∃ x,x=x1.setCell ⟨j,2,none⟩ (.int .i64 (r:Int)):=⟨_,rfl⟩;have e2:x2.heap[j]?=some (.cells #[.int .i64 (last:Int),.int .i64 (lo:Int),.int .i64 (r:Int),.int .i64 0,.slice none 0 0,.bool false,.bool false] 61 (0,0)):=by rw[y];exact(jc e1 _).trans rfl
 have m2:ja n x2 (fun i=>i=j):=by rw[y];exact m1.set (p:=⟨j,2,none⟩) rfl _
 obtain⟨x3,v⟩:∃ x,x=x2.setCell ⟨j,3,none⟩ (.int .i64 (D:Int)):=⟨_,rfl⟩;have e3:x3.heap[j]?=some (.cells #[.int .i64 (last:Int),.int .i64 (lo:Int),.int .i64 (r:Int),.int .i64 (D:Int),.slice none 0 0,.bool false,.bool false] 61 (0,0)):=by rw[v];exact(jc e2 _).trans rfl
 have m3:ja n x3 (fun i=>i=j):=by rw[v];exact m2.set (p:=⟨j,3,none⟩) rfl _
 obtain⟨x4,u⟩:∃ x,x=x3.setCell ⟨j,4,none⟩ (.slice S H T):=⟨_,rfl⟩;have e4:x4.heap[j]?=some (.cells #[.int .i64 (last:Int),.int .i64 (lo:Int),.int .i64 (r:Int),.int .i64 (D:Int),.slice S H T,.bool false,.bool false] 61 (0,0)):=by rw[u];exact(jc e3 _).trans rfl
 have m4:ja n x4 (fun i=>i=j):=by rw[u];exact m3.set (p:=⟨j,4,none⟩) rfl _
 obtain⟨x5,t⟩:∃ x,x=x4.setCell ⟨j,5,none⟩ (.bool l):=⟨_,rfl⟩;have e5:x5.heap[j]?=some (.cells #[.int .i64 (last:Int),.int .i64 (lo:Int),.int .i64 (r:Int),.int .i64 (D:Int),.slice S H T,.bool l,.bool false] 61 (0,0)):=by rw[t];exact(jc e4 _).trans rfl
 have m5:ja n x5 (fun i=>i=j):=by rw[t];exact m4.set (p:=⟨j,5,none⟩) rfl _
 obtain⟨x6,s⟩:∃ x,x=x5.setCell ⟨j,6,none⟩ (.bool cl):=⟨_,rfl⟩;have e6:x6.heap[j]?=some (.cells #[.int .i64 (last:Int),.int .i64 (lo:Int),.int .i64 (r:Int),.int .i64 (D:Int),.slice S H T,.bool l,.bool cl] 61 (0,0)):=by rw[s];exact(jc e5 _).trans rfl
 have m6:ja n x6 (fun i=>i=j):=by rw[s];exact m5.set (p:=⟨j,6,none⟩) rfl _
 rw[<-A,<-z,<-y,<-v,<-u,<-t,<-s];have HE:=jb e6;clear e0 e1 e2 e3 e4 e5 e6 A z y v u t s;have b6:=Z.out;have b5:j<C.heap.size:=zC a0.out;go_wp2;refine bodyPost_ret (vi rfl rfl HE.out) rfl ?_;refine⟨S,T,rfl,?_,((m.tt kd).tt q).trans m6 (fun i hi e=>by have e':i=j:=e;omega)⟩;rw[a9.out] at E ⊢;refine qg (m6.row E (fun g hg e=>?_)) (ZF m.size kd.size);have e':g=j:=e;have h1:=(E.lt g hg).1;have h2:=kd.size;omega
def jdd(s:Rf.St)(w:World)(e:Ending)(w':World):Prop:=∃ p c,e = .returned (.agg #[ju s.last,ju s.m.log,ju s.m.base,ju s.m.next,.slice p s.m.runs.length c,.bool false,.bool false])/\w'.ownsRow w.heap.size 3 1 (.slice p s.m.runs.length c) s.m.runs.length (s.m.runs.map jf)/\ja w w' (fun _=>False)
theorem jb2{E:Nat->Addr}{B:Nat}{d k:Nat}{s:Rf.St}{F:Nat->Prop}(O:Own E B w d b s k F) :
 Calls prog 32 #[.pointer (some ⟨b,0,none⟩)] w (jdd s w):=by
 obtain⟨ρ,rv,c,S,f⟩:=O;exact(Oj S.row S.runs (by have:=S.ok.runs;omega)).mono (fun e w' h=>h)
end Go.Proofs.YtnipbplghijdmaaGreatDoor
namespace Go.Proofs.YtnipbplghijdmaaGreatDoor
open RowKit Maps WideShapes Go.Proofs.Tryz
section
variable {i nx:Nat} {sa sb:Rf.St} {ess:List (List Rf.Ch)}
end
def El(W:World)(T:Nat->Prop)(x:Value)(es:List Rf.Ch):Prop:=Chs W x es/\∀ g,x.ownBlock=some g->¬T g/\g<W.heap.size
theorem El.step{W W':World}{T U T':Nat->Prop}{x:Value}{es:List Rf.Ch}(h:El W T x es)(k:ja W W' U)(b:∀ i,U i->T i)(d:∀ i,T' i->T i\/W.heap.size<=i):El W' T' x es:=by
 refine⟨h.1.keep k (fun _ p n c e hu=>?_),fun g hg=>⟨fun t=>?_,?_⟩⟩
 ·exact(h.2 p.block (by rw[e];rfl)).1 (b _ hu)
 ·rcases d g t with t|t
  ·exact(h.2 g hg).1 t
  ·have:=(h.2 g hg).2;omega
 ·have:=(h.2 g hg).2
  have:=k.size;omega
structure Wr(w W:World)(T:Nat->Prop)(v:Value)(ess:List (List Rf.Ch)):Prop where
 row:∃ xs,W.ownsRow w.heap.size 38 1 v ess.length xs/\∀ i (h:i<ess.length),∃ x,xs[i]?=some x/\El W T x ess[i]/\∀ g,v.ownBlock=some g->x.ownBlock≠some g
 nv:∀ g,v.ownBlock=some g->¬T g
theorem Wr.first(w W:World)(T:Nat->Prop):Wr w W T (.slice none 0 0) []:=⟨⟨[],zS _ _ _ _,fun i h=>by cases h⟩,fun g h=>by cases h⟩
theorem Wr.step{w W W':World}{T U T':Nat->Prop}{v:Value}{b:List (List Rf.Ch)}(h:Wr w W T v b)(k:ja W W' U)(c:∀ i,U i->T i)(d:∀ i,T' i->T i\/W.heap.size<=i):Wr w W' T' v b:=by
 obtain⟨⟨xs,j,n⟩,f⟩:=h;refine⟨⟨xs,k.row j (fun g hg hu=>f g hg (c g hu)),fun i hi=>?_⟩,fun g hg t=>?_⟩
 ·obtain⟨x,e,l,m⟩:=n i hi
  exact⟨x,e,l.step k c d,m⟩
 ·rcases d g t with t|t
  ·exact f g hg t
  ·have:=(j.lt g hg).2;omega
theorem Wr.snoc{w W W':World}{T:Nat->Prop}{v v' x:Value}{b:List (List Rf.Ch)}{es:List Rf.Ch}{xs:List Value}(h:Wr w W T v b)(o:W.ownsRow w.heap.size 38 1 v b.length xs)(B:El W T x es)(r:∀ g,v.ownBlock=some g->x.ownBlock≠some g)(D:∀ i,T i->i<W.heap.size)(k:ja W W' (fun j=>v.ownBlock=some j))(C:W'.ownsRow w.heap.size 38 1 v' (b.length+1) (xs++[x]))(A:∀ g,v'.ownBlock=some g->v.ownBlock=some g\/W.heap.size<=g)(u:∀ i (h:i<b.length),∃ y,xs[i]?=some y/\El W T y b[i]/\∀ g,v.ownBlock=some g->y.ownBlock≠some g):Wr w W' T v' (b++[es]):=by
 have up:∀ y l,El W T y l->(∀ g,v.ownBlock=some g->y.ownBlock≠some g)->El W' T y l/\∀ g,v'.ownBlock=some g->y.ownBlock≠some g:=fun y l d m=>by
  refine⟨⟨d.1.keep k (fun _ p n c e hu=>m _ hu (by rw[e];rfl)),fun g hg=>⟨(d.2 g hg).1,by have:=(d.2 g hg).2;have:=k.size;omega⟩⟩,fun g hg e=>?_⟩;rcases A g hg with t|t
  ·exact m g t e
  ·have:=(d.2 g e).2;omega
 have q:xs.length=b.length:=by
  have:=o.1;omega
 refine⟨⟨xs++[x],by rw[ZY];exact C,fun i hi=>?_⟩,fun g hg t=>?_⟩
 ·rw[ZY,xC] at hi
  rcases ZJ i b.length with f|E
  ·obtain⟨y,e,d,m⟩:=u i f
   refine⟨y,by rw[zQ (by omega)];exact e,?_⟩;rw[List.getElem_append_left f];exact up y _ d m
  ·have s:i=b.length:=by omega
   subst s;refine⟨x,by rw[zR (by omega),q];simp,?_⟩;rw[List.getElem_append_right (xA _)];simpa using up x es B r
 ·rcases A g hg with z|z
  ·exact h.nv g z t
  ·have:=D g t;omega
section
variable {E:Nat->Addr} {B:Nat} {w W W':World} {ka kb da ba db bb:Nat} {Fa Fb:Nat->Prop} {sa sb sa' sb':Rf.St} {k k':Nat} {wv:Value} {ess:List (List Rf.Ch)}
end
end Go.Proofs.YtnipbplghijdmaaGreatDoor

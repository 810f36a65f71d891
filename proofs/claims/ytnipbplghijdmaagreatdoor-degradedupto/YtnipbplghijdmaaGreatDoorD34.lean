/-
  D: LookG LayQ.
-/
import Derived.Deep.RegionHeld
import Derived.Test.YtnipbplghijdmaaGreatDoorD33
set_option maxRecDepth 100000
set_option maxHeartbeats 8000000
set_option linter.unusedVariables false
set_option linter.unusedSimpArgs false
namespace Go.Proofs.YtnipbplghijdmaaGreatDoor
open RowKit Maps WideShapes Go.Proofs.Tryz
variable {w:World} {b c n:Nat} {a0 a1 a2 a3:Int} {p:Option Addr} {x5 x6:Bool}
theorem jbk(h:w.heap[b]?=some (.cells #[.int .i64 a0,.int .i64 a1,.int .i64 a2,.int .i64 a3,.slice p n c,.bool x5,.bool x6] 61 (0,0))):(loadVar 61 ⟨b,0,none⟩).run prog w = .ok (.agg #[.int .i64 a0,.int .i64 a1,.int .i64 a2,.int .i64 a3,.slice p n c,.bool x5,.bool x6]) w:=by
 have l:=zA (o:=0) h;have k:=zA (o:=1) h;have j:=zA (o:=2) h;have i:=zA (o:=3) h;have g:=zA (o:=4) h;have f:=zA (o:=5) h;have d:=zA (o:=6) h;simp at l k j i g f d;go_simp
theorem Nd{fn:Func}{t:Tmp}(h:fn.results=#[.cell t 61]){tmps:Array Value}(f:tmps.getD t undef = .pointer (some ⟨b,0,none⟩))(i:w.heap[b]?=some (.cells #[.int .i64 a0,.int .i64 a1,.int .i64 a2,.int .i64 a3,.slice p n c,.bool x5,.bool x6] 61 (0,0))):(results fn tmps).run prog w = .ok (.agg #[.int .i64 a0,.int .i64 a1,.int .i64 a2,.int .i64 a3,.slice p n c,.bool x5,.bool x6]) w:=by
 have g:=jbk i;have d:tmps[t]?.getD undef = .pointer (some ⟨b,0,none⟩):=by simpa using f
 simp[results,h,d,asAddr,g]
theorem jdu{dv mv rv:Value}{D la lo r last:Nat}{f:List Nat}{l T:Bool}(k:w.heap[b]?=some (.cells (qv dv (jg D) (jg la) (jg lo) (jg r) rv (jg last) mv l T) 121 (0,0)))(V:Jw w rv f)(X:f.length<1099511627776) :
 Calls prog 32 #[.pointer (some ⟨b,0,none⟩)] w fun e w'=>∃ p c,e = .returned (.agg #[j6 last,j6 lo,j6 r,j6 D,.slice p f.length c,.bool l,.bool T])/\w'.ownsRow w.heap.size 3 1 (.slice p f.length c) f.length (f.map jg)/\ja w w' (fun _=>False):=by
 have R:=zA (o:=1) k;have O:=zA (o:=3) k;have N:=zA (o:=4) k;have M:=zA (o:=5) k;have L:=zA (o:=6) k;have J:=zA (o:=8) k;have I:=zA (o:=9) k;simp[qv] at R O N M L J I;have a8:=zC k;clear k;obtain⟨C,B⟩:∃ C,C=w.alloc (.cells #[.int .i64 0,.int .i64 0,.int .i64 0,.int .i64 0,.slice none 0 0,.bool false,.bool false] 61):=⟨_,rfl⟩;obtain⟨j,G⟩:∃ j,j=w.heap.size:=⟨_,rfl⟩;have b4:¬b=j:=by omega
 have b3:¬j=b:=by omega
 clear a8;have m:ja w C (fun _=>False):=by rw[B];exact ja.alloc _ _ _
 have Y:C.heap[j]?=some (.cells #[.int .i64 0,.int .i64 0,.int .i64 0,.int .i64 0,.slice none 0 0,.bool false,.bool false] 61 (0,0)):=by rw[B,G];exact je _ _
 have Z:Hid (∀ W,ja C W (fun _=>False)->Calls prog 74 #[rv] W fun e w'=>∃ p c,e = .returned (.slice p f.length c)/\w'.ownsRow W.heap.size 3 1 (.slice p f.length c) f.length (f.map jg)/\ja W w' (fun _=>False)):=fun W kW=>iz W rv f ((V.same m).same kW) X;have kd:ja C C.drew (fun _=>False):=ja.drew _ _;have R:=m.cell R id;have O:=m.cell O id;have N:=m.cell N id;have M:=m.cell M id;have L:=m.cell L id;have J:=m.cell J id;have I:=m.cell I id;have a1:=jb Y;have a0:=jb G;have a9:=jb B;obtain⟨H,F⟩:∃ H,H=f.length:=⟨_,rfl⟩;rw[<-F] at Z ⊢;have aa:=jb F;clear Y G B V X F;go_enter func32,ntmps32;go_wp2_with fail;rw[<-a9.out,<-a0.out]
 go_region_held (fun W=>W.cell? ⟨b,1,none⟩=some (jg D)/\W.cell? ⟨b,3,none⟩=some (jg lo)/\W.cell? ⟨b,4,none⟩=some (jg r)/\W.cell? ⟨b,5,none⟩=some rv/\W.cell? ⟨b,6,none⟩=some (jg last)/\W.cell? ⟨b,8,none⟩=some (.bool l)/\W.cell? ⟨b,9,none⟩=some (.bool T)) (go_keep)
  (first|(go_at_call 74;refine(Z.out _ kd).mono ?_;rintro e n ⟨S,U,rfl,E,q⟩;have R:=q.cell R id;have O:=q.cell O id;have N:=q.cell N id;have M:=q.cell M id;have L:=q.cell L id;have J:=q.cell J id;have I:=q.cell I id;have d:=q.same a1.out id;have z0:=zA (o:=0) d;have z1:=zA (o:=1) d;have z2:=zA (o:=2) d;have z3:=zA (o:=3) d;have z4:=zA (o:=4) d;have z5:=zA (o:=5) d;have z6:=zA (o:=6) d;simp at z0 z1 z2 z3 z4 z5 z6;have y0:=zB (o:=0) d;have y1:=zB (o:=1) d;have y2:=zB (o:=2) d;have y3:=zB (o:=3) d;have y4:=zB (o:=4) d;have y5:=zB (o:=5) d;have y6:=zB (o:=6) d;have ab:=jb d;clear d))
 obtain⟨x0,A⟩:∃ x,x=n.setCell ⟨j,0,none⟩ (.int .i64 (last:Int)):=⟨_,rfl⟩;have e0:x0.heap[j]?=some (.cells #[.int .i64 (last:Int),.int .i64 0,.int .i64 0,.int .i64 0,.slice none 0 0,.bool false,.bool false] 61 (0,0)):=by rw[A];exact(jd ab.out _).trans rfl
 have m0:ja n x0 (fun i=>i=j):=by rw[A];exact ja.setCell n _ _
 obtain⟨x1,z⟩:∃ x,x=x0.setCell ⟨j,1,none⟩ (.int .i64 (lo:Int)):=⟨_,rfl⟩;have e1:x1.heap[j]?=some (.cells #[.int .i64 (last:Int),.int .i64 (lo:Int),.int .i64 0,.int .i64 0,.slice none 0 0,.bool false,.bool false] 61 (0,0)):=by rw[z];exact(jd e0 _).trans rfl
 have m1:ja n x1 (fun i=>i=j):=by rw[z];exact m0.set (p:=⟨j,1,none⟩) rfl _
 obtain⟨x2,y⟩:∃ x,x=x1.setCell ⟨j,2,none⟩ (.int .i64 (r:Int)):=⟨_,rfl⟩;have e2:x2.heap[j]?=some (.cells #[.int .i64 (last:Int),.int .i64 (lo:Int),.int .i64 (r:Int),.int .i64 0,.slice none 0 0,.bool false,.bool false] 61 (0,0)):=by rw[y];exact(jd e1 _).trans rfl
 have m2:ja n x2 (fun i=>i=j):=by rw[y];exact m1.set (p:=⟨j,2,none⟩) rfl _
 obtain⟨x3,v⟩:∃ x,x=x2.setCell ⟨j,3,none⟩ (.int .i64 (D:Int)):=⟨_,rfl⟩;have e3:x3.heap[j]?=some (.cells #[.int .i64 (last:Int),.int .i64 (lo:Int),.int .i64 (r:Int),.int .i64 (D:Int),.slice none 0 0,.bool false,.bool false] 61 (0,0)):=by rw[v];exact(jd e2 _).trans rfl
 have m3:ja n x3 (fun i=>i=j):=by rw[v];exact m2.set (p:=⟨j,3,none⟩) rfl _
 obtain⟨x4,u⟩:∃ x,x=x3.setCell ⟨j,4,none⟩ (.slice S H U):=⟨_,rfl⟩;have e4:x4.heap[j]?=some (.cells #[.int .i64 (last:Int),.int .i64 (lo:Int),.int .i64 (r:Int),.int .i64 (D:Int),.slice S H U,.bool false,.bool false] 61 (0,0)):=by rw[u];exact(jd e3 _).trans rfl
 have m4:ja n x4 (fun i=>i=j):=by rw[u];exact m3.set (p:=⟨j,4,none⟩) rfl _
 obtain⟨x5,t⟩:∃ x,x=x4.setCell ⟨j,5,none⟩ (.bool l):=⟨_,rfl⟩;have e5:x5.heap[j]?=some (.cells #[.int .i64 (last:Int),.int .i64 (lo:Int),.int .i64 (r:Int),.int .i64 (D:Int),.slice S H U,.bool l,.bool false] 61 (0,0)):=by rw[t];exact(jd e4 _).trans rfl
 have m5:ja n x5 (fun i=>i=j):=by rw[t];exact m4.set (p:=⟨j,5,none⟩) rfl _
 obtain⟨x6,s⟩:∃ x,x=x5.setCell ⟨j,6,none⟩ (.bool T):=⟨_,rfl⟩;have e6:x6.heap[j]?=some (.cells #[.int .i64 (last:Int),.int .i64 (lo:Int),.int .i64 (r:Int),.int .i64 (D:Int),.slice S H U,.bool l,.bool T] 61 (0,0)):=by rw[s];exact(jd e5 _).trans rfl
 have m6:ja n x6 (fun i=>i=j):=by rw[s];exact m5.set (p:=⟨j,6,none⟩) rfl _
 rw[<-A,<-z,<-y,<-v,<-u,<-t,<-s];have HE:=jb e6;clear e0 e1 e2 e3 e4 e5 e6 A z y v u t s;have b6:=a0.out;have b5:j<C.heap.size:=zC a1.out;go_wp2;refine bodyPost_ret (Nd rfl rfl HE.out) rfl ?_;refine⟨S,U,rfl,?_,((m.tt kd).tt q).trans m6 (fun i hi e=>by have e':i=j:=e;omega)⟩;rw[aa.out] at E ⊢;refine xd (m6.row E (fun g hg e=>?_)) (ZI m.size kd.size);have e':g=j:=e;have h1:=(E.lt g hg).1;have h2:=kd.size;omega
end Go.Proofs.YtnipbplghijdmaaGreatDoor
namespace Go.Proofs.YtnipbplghijdmaaGreatDoor
open RowKit Maps WideShapes Go.Proofs.Tryz
section
variable {i nx:Nat} {sa sb:Rf.St} {ess:List (List Rf.Ch)}
end
def El(W:World)(T:Nat->Prop)(x:Value)(es:List Rf.Ch):Prop:=Chs W x es/\∀ g,x.ownBlock=some g->¬T g/\g<W.heap.size
theorem El.step{W d:World}{T U f:Nat->Prop}{x:Value}{b:List Rf.Ch}(h:El W T x b)(k:ja W d U)(j:∀ i,U i->T i)(l:∀ i,f i->T i\/W.heap.size<=i):El d f x b:=by
 refine⟨h.1.keep k (fun _ p n c e hu=>?_),fun g hg=>⟨fun t=>?_,?_⟩⟩
 ·exact(h.2 p.block (by rw[e];rfl)).1 (j _ hu)
 ·rcases l g t with t|t
  ·exact(h.2 g hg).1 t
  ·have:=(h.2 g hg).2;omega
 ·have:=(h.2 g hg).2
  have:=k.size;omega
structure Wr(w W:World)(T:Nat->Prop)(v:Value)(ess:List (List Rf.Ch)):Prop where
 row:∃ xs,W.ownsRow w.heap.size 38 1 v ess.length xs/\∀ i (h:i<ess.length),∃ x,xs[i]?=some x/\El W T x ess[i]/\∀ g,v.ownBlock=some g->x.ownBlock≠some g
 nv:∀ g,v.ownBlock=some g->¬T g
theorem Wr.first(w W:World)(T:Nat->Prop):Wr w W T (.slice none 0 0) []:=⟨⟨[],ZL _ _ _ _,fun i h=>by cases h⟩,fun g h=>by cases h⟩
theorem Wr.step{w W j:World}{T U l:Nat->Prop}{v:Value}{ess:List (List Rf.Ch)}(h:Wr w W T v ess)(k:ja W j U)(b:∀ i,U i->T i)(c:∀ i,l i->T i\/W.heap.size<=i):Wr w j l v ess:=by
 obtain⟨⟨xs,f,o⟩,d⟩:=h;refine⟨⟨xs,k.row f (fun g hg hu=>d g hg (b g hu)),fun i hi=>?_⟩,fun g hg t=>?_⟩
 ·obtain⟨x,e,m,n⟩:=o i hi
  exact⟨x,e,m.step k b c,n⟩
 ·rcases c g t with t|t
  ·exact d g hg t
  ·have:=(f.lt g hg).2;omega
theorem Wr.wri{w W:World}{T:Nat->Prop}{v:Value}{ess:List (List Rf.Ch)}(h:Wr w W T v ess):Wri W v ess:=by
 obtain⟨⟨xs,d,c⟩,_⟩:=h;refine⟨_,xs,d,fun i hi=>?_⟩;obtain⟨x,e,b,_⟩:=c i hi;exact⟨x,e,b.1⟩
theorem Wr.snoc{w W m:World}{T:Nat->Prop}{v v' x:Value}{ess:List (List Rf.Ch)}{o:List Rf.Ch}{xs:List Value}(h:Wr w W T v ess)(q:W.ownsRow w.heap.size 38 1 v ess.length xs)(C:El W T x o)(s:∀ g,v.ownBlock=some g->x.ownBlock≠some g)(E:∀ i,T i->i<W.heap.size)(k:ja W m (fun j=>v.ownBlock=some j))(D:m.ownsRow w.heap.size 38 1 v' (ess.length+1) (xs++[x]))(B:∀ g,v'.ownBlock=some g->v.ownBlock=some g\/W.heap.size<=g)(z:∀ i (h:i<ess.length),∃ y,xs[i]?=some y/\El W T y ess[i]/\∀ g,v.ownBlock=some g->y.ownBlock≠some g):Wr w m T v' (ess++[o]):=by
 have up:∀ y l,El W T y l->(∀ g,v.ownBlock=some g->y.ownBlock≠some g)->El m T y l/\∀ g,v'.ownBlock=some g->y.ownBlock≠some g:=fun y l b f=>by
  refine⟨⟨b.1.keep k (fun _ p n c e hu=>f _ hu (by rw[e];rfl)),fun g hg=>⟨(b.2 g hg).1,by have:=(b.2 g hg).2;have:=k.size;omega⟩⟩,fun g hg e=>?_⟩;rcases B g hg with t|t
  ·exact f g t e
  ·have:=(b.2 g e).2;omega
 have r:xs.length=ess.length:=by
  have:=q.1;omega
 refine⟨⟨xs++[x],by rw[zW];exact D,fun i hi=>?_⟩,fun g hg t=>?_⟩
 ·rw[zW,ZK] at hi
  rcases zV i ess.length with d|F
  ·obtain⟨y,e,b,f⟩:=z i d
   refine⟨y,by rw[XS (by omega)];exact e,?_⟩;rw[List.getElem_append_left d];exact up y _ b f
  ·have u:i=ess.length:=by omega
   subst u;refine⟨x,by rw[ZW (by omega),r];simp,?_⟩;rw[List.getElem_append_right (zJ _)];simpa using up x o C s
 ·rcases B g hg with A|A
  ·exact h.nv g A t
  ·have:=E g t;omega
section
variable {E:Nat->Addr} {B:Nat} {w W W':World} {ka kb da ba db bb:Nat} {Fa Fb:Nat->Prop} {sa sb sa' sb':Rf.St} {k k':Nat} {wv:Value} {ess:List (List Rf.Ch)}
end
end Go.Proofs.YtnipbplghijdmaaGreatDoor

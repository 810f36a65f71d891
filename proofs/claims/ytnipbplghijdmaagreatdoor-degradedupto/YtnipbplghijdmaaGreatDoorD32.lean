/-
  D: MakeRunA MakeRunB WholeF StoreW WriteW InstallW FlushW ReadW BeginW LoadW.
-/
import Derived.Test.YtnipbplghijdmaaGreatDoorD31
import Derived.Test.YtnipbplghijdmaaGreatDoorD30
import Derived.Test.YtnipbplghijdmaaGreatDoorD29
set_option maxRecDepth 100000
set_option maxHeartbeats 8000000
set_option linter.unusedVariables false
set_option linter.unusedSimpArgs false
namespace Go.Proofs.YtnipbplghijdmaaGreatDoor
open RowKit Maps WideShapes Go.Shelf Go.Proofs.Tryz
variable {M n:Nat} {vb vp:Value} {W W' w:World} {X Y:List UInt8}
theorem wrap_u64{x:Int}(c:0<=x)(b:x<=18446744073709551615):IntKind.u64.wrap x=x:=by
 simp[IntKind.wrap,IntKind.bits,IntKind.signed];omega
theorem ud{F:Fence}{P:Program}(w:World){f:Array Oper}{rest:List Oper}{o:Oper}{a:Act}{Q:Exit->Act->World->Prop}(A:o.guard=none)(s x:Operand)(t j:TypeId)(b:o.op=Op.call { callee:=Callee.builtin Builtin.append,args:=#[s,x],argTypes:=#[t,j] })(base:Nat)(e:TypeId)(i:TypeInfo)(z:Value)(size bytes:Nat)(h1:P.underlying t=some (.slice e))(h2:P.info? e=some i)(h3:i.zero=some z)(h4:i.size=size)(h5:i.bytes=bytes)(h6:z.cells.size=size)(h7:0<size)(v:Value)(k:Nat)(xs:List Value)(hs:a.eval s=v)(hown:w.ownsRow base e size v k xs)(u:Value)(m:Nat)(news:List Value)(hx:a.eval x=u)(hsrc:Src P size j u m news w)(b1:k+m<=maxLen)(b2:(k+m)*bytes<=140737488355328)(b3:base<=w.heap.size)(hK:∀(p:Option Addr) (d:Nat) (w':World),w'.ownsRow base e size (.slice p (k+m) d) (k+m) (xs++news)->w.grownBy w' v.ownBlock->((Value.slice p (k+m) d).ownBlock=v.ownBlock\/(Value.slice p (k+m) d).ownBlock=some w.heap.size)->wpListIn F n P f Q rest (a.put o.dst (.slice p (k+m) d)) w') :
 wpListIn F n P f Q (o::rest) a w:=by
 refine wpListIn_plain A fun K hK'=>?_;obtain⟨v',w',g,q,y,r⟩:=Yn (P:=P) w base t j o.type e i z size bytes h1 h2 h3 h4 h5 h6 h7 v k xs hown u m news hsrc b1 b2 b3;obtain⟨p,d,rfl⟩:=jl q;unfold Oper.wpIn;refine⟨?_,?_⟩
 ·simp[Oper.about,b,resolve,Target.leads,Sem.run_pure]
 ·rw[Oper.semAt_plain F _ _ (by rw[b];intro c l;cases l)]
  simp[execOp,b,resolve,invoke,builtin,hs,hx,g,Result.andThen];exact hK' _ _ (hK p d w' q y r)
def Tz(n:Nat)(vb vp:Value)(i:Nat):Prop:=i=n\/i=n+1\/i=n+2\/vb.ownBlock=some i\/vp.ownBlock=some i
structure Xo(w:World)(X Y:List UInt8)(M:Nat)(vb vp:Value)(W:World):Prop where
 b3:W.heap[w.heap.size]?=some (.cells #[vb] 84 (0,0))
 b4:W.heap[w.heap.size+1]?=some (.cells #[vp] 84 (0,0))
 b5:W.heap[w.heap.size+2]?=some (.cells #[.int .u64 M] 172 (0,0))
 rb:W.ownsRow w.heap.size 5 1 vb X.length (X.map j5)
 rp:W.ownsRow w.heap.size 5 1 vp Y.length (Y.map j5)
 nb:∀ g,vb.ownBlock=some g->w.heap.size+5<=g
 np:∀ g,vp.ownBlock=some g->w.heap.size+5<=g
 ap:∀ g,vb.ownBlock=some g->¬vp.ownBlock=some g
 kw:ja w W (fun _=>False)
def Kg(n:Nat)(vb vp:Value)(W:World)(vb' vp':Value)(W':World):Prop:=ja W W' (Tz n vb vp)/\∀ i,Tz n vb' vp' i->Tz n vb vp i\/W.heap.size<=i
theorem Kg.trans{g d f c:Value}{l j:World}(h:Kg n vb vp W g d l)(k:Kg n g d l f c j):Kg n vb vp W f c j:=by
 refine⟨h.1.trans k.1 (fun i hi hf=>?_),fun i hf=>?_⟩
 ·rcases h.2 i hf with b|b
  ·exact b
  ·omega
 ·rcases k.2 i hf with b|b
  ·exact h.2 i b
  ·exact .inr (ZI h.1.size b)
theorem Kg.same(k:ja W W' (fun _=>False)):Kg n vb vp W vb vp W':=⟨k.up,fun i h=> .inl h⟩
theorem Xo.same(h:Xo w X Y M vb vp W)(k:ja W W' (fun _=>False)):Xo w X Y M vb vp W' :=
 ⟨k.same h.b3 id,k.same h.b4 id,k.same h.b5 id,k.row h.rb (fun _ _ h=>h),k.row h.rp (fun _ _ h=>h),h.nb,h.np,h.ap,h.kw.tt k⟩
theorem Xo.aside{T:Nat->Prop}(h:Xo w X Y M vb vp W)(k:ja W W' T)(b:∀ i,T i->w.heap.size<=i/\¬Tz w.heap.size vb vp i):Xo w X Y M vb vp W' :=
 ⟨k.same h.b3 (fun t=>(b _ t).2 (.inl rfl)),k.same h.b4 (fun t=>(b _ t).2 (.inr (.inl rfl))),k.same h.b5 (fun t=>(b _ t).2 (.inr (.inr (.inl rfl)))),k.row h.rb (fun g hg t=>(b _ t).2 (.inr (.inr (.inr (.inl hg))))),k.row h.rp (fun g hg t=>(b _ t).2 (.inr (.inr (.inr (.inr hg))))),h.nb,h.np,h.ap,
  h.kw.trans k (fun i hi t=>by have:=(b i t).1;omega)⟩
theorem Xo.places{m:List UInt8}{b:Value}(h:Xo w X Y M vb vp W)(t:w.heap.size+5<=W.heap.size)(g:Grown W vp W' b)(r:W'.ownsRow w.heap.size 5 1 b m.length (m.map j5)) :
 Xo w X m M vb b (W'.setCell ⟨w.heap.size+1,0,none⟩ b)/\Kg w.heap.size vb vp W vb b (W'.setCell ⟨w.heap.size+1,0,none⟩ b):=by
 obtain⟨o,k⟩:=g;have l:=ja.setCell W' ⟨w.heap.size+1,0,none⟩ b
 have f:∀ q,b.ownBlock=some q->vp.ownBlock=some q\/W.heap.size<=q:=fun q hq=>by
  rcases o with e|⟨s,e,j⟩
  ·exact .inl (e▸hq)
  ·rw[hq] at e;cases e;exact .inr j
 have lo:∀ i,i<w.heap.size+5->¬some i=vp.ownBlock:=fun i hi e=>by have:=h.np i e.symm;omega
 have n:=k.same h.b4 (lo _ (by omega))
 refine⟨⟨l.same (k.same h.b3 (lo _ (by omega))) (by show ¬w.heap.size=w.heap.size+1;omega),(jd n _).trans rfl,l.same (k.same h.b5 (lo _ (by omega))) (by show ¬w.heap.size+2=w.heap.size+1;omega),
  l.row (k.row h.rb (fun q hq e=>h.ap q hq e.symm)) (fun q hq e=>by have:=h.nb q hq;have p:q=w.heap.size+1:=e;omega),l.row r (fun q hq e=>?_),h.nb,fun q hq=>?_,fun q hq j=>?_,?_⟩,?_,?_⟩
 ·have p:q=w.heap.size+1:=e
  rcases f q hq with c|c
  ·have:=h.np q c;omega
  ·omega
 ·rcases f q hq with c|c
  ·exact h.np q c
  ·omega
 ·rcases f q j with c|c
  ·exact h.ap q hq c
  ·have:=(h.rb.lt q hq).2;omega
 ·exact(h.kw.trans k (fun i hi e=>by have:=h.np i e.symm;omega)).Xd (by show w.heap.size<=w.heap.size+1;omega) _
 ·exact(k.mono (fun i _ e=> .inr (.inr (.inr (.inr e.symm))))).trans l (fun i _ e=> .inr (.inl e))
 ·rintro i (d|d|d|d|d)
  ·exact .inl (.inl d)
  ·exact .inl (.inr (.inl d))
  ·exact .inl (.inr (.inr (.inl d)))
  ·exact .inl (.inr (.inr (.inr (.inl d))))
  ·rcases f i d with c|c
   ·exact .inl (.inr (.inr (.inr (.inr c))))
   ·exact .inr c
theorem Xo.blocks{X':List UInt8}{b:Value}(h:Xo w X Y M vb vp W)(s:w.heap.size+5<=W.heap.size)(g:Grown W vb W' b)(r:W'.ownsRow w.heap.size 5 1 b X'.length (X'.map j5)) :
 Xo w X' Y M b vp (W'.setCell ⟨w.heap.size,0,none⟩ b)/\Kg w.heap.size vb vp W b vp (W'.setCell ⟨w.heap.size,0,none⟩ b):=by
 obtain⟨n,k⟩:=g;have l:=ja.setCell W' ⟨w.heap.size,0,none⟩ b
 have f:∀ q,b.ownBlock=some q->vb.ownBlock=some q\/W.heap.size<=q:=fun q hq=>by
  rcases n with e|⟨p,e,j⟩
  ·exact .inl (e▸hq)
  ·rw[hq] at e;cases e;exact .inr j
 have lo:∀ i,i<w.heap.size+5->¬some i=vb.ownBlock:=fun i hi e=>by have:=h.nb i e.symm;omega
 have m:=k.same h.b3 (lo _ (by omega))
 refine⟨⟨(jd m _).trans rfl,l.same (k.same h.b4 (lo _ (by omega))) (by show ¬w.heap.size+1=w.heap.size;omega),l.same (k.same h.b5 (lo _ (by omega))) (by show ¬w.heap.size+2=w.heap.size;omega),
  l.row r (fun q hq e=>?_),l.row (k.row h.rp (fun q hq e=>h.ap q e.symm hq)) (fun q hq e=>by have:=h.np q hq;have o:q=w.heap.size:=e;omega),fun q hq=>?_,h.np,fun q hq j=>?_,?_⟩,?_,?_⟩
 ·have o:q=w.heap.size:=e
  rcases f q hq with c|c
  ·have:=h.nb q c;omega
  ·omega
 ·rcases f q hq with c|c
  ·exact h.nb q c
  ·omega
 ·rcases f q hq with c|c
  ·exact h.ap q c j
  ·have:=(h.rp.lt q j).2;omega
 ·exact(h.kw.trans k (fun i hi e=>by have:=h.nb i e.symm;omega)).Xd (by show w.heap.size<=w.heap.size;omega) _
 ·exact(k.mono (fun i _ e=> .inr (.inr (.inr (.inl e.symm))))).trans l (fun i _ e=> .inl e)
 ·rintro i (d|d|d|d|d)
  ·exact .inl (.inl d)
  ·exact .inl (.inr (.inl d))
  ·exact .inl (.inr (.inr (.inl d)))
  ·rcases f i d with c|c
   ·exact .inl (.inr (.inr (.inr (.inl c))))
   ·exact .inr c
  ·exact .inl (.inr (.inr (.inr (.inr d))))
theorem Xo.counted{N:Nat}(h:Xo w X Y M vb vp W):Xo w X Y N vb vp (W.setCell ⟨w.heap.size+2,0,none⟩ (.int .u64 N))/\Kg w.heap.size vb vp W vb vp (W.setCell ⟨w.heap.size+2,0,none⟩ (.int .u64 N)):=by
 have b:=ja.setCell W ⟨w.heap.size+2,0,none⟩ (.int .u64 N)
 refine⟨⟨b.same h.b3 (by show ¬w.heap.size=w.heap.size+2;omega),b.same h.b4 (by show ¬w.heap.size+1=w.heap.size+2;omega),(jd h.b5 _).trans rfl,
  b.row h.rb (fun q hq e=>by have:=h.nb q hq;have c:q=w.heap.size+2:=e;omega),b.row h.rp (fun q hq e=>by have:=h.np q hq;have c:q=w.heap.size+2:=e;omega),h.nb,h.np,h.ap,h.kw.Xd (by show w.heap.size<=w.heap.size+2;omega) _⟩,?_,fun i hi=> .inl hi⟩
 exact b.mono (fun i _ e=> .inr (.inr (.inl e)))
end Go.Proofs.YtnipbplghijdmaaGreatDoor
namespace Go.Proofs.YtnipbplghijdmaaGreatDoor
open RowKit Maps WideShapes Go.Shelf Go.Proofs.Tryz
attribute [local go_sem] Oper.semAt_some
theorem b9(b:Array Value)(w:World):(callFunc 106 b).run prog w = .ok (.enter 106 b) w:=by kernel_rfl
theorem Yt(b:Array Value)(w:World):(callFunc 107 b).run prog w = .ok (.enter 107 b) w:=by kernel_rfl
theorem Yl(b:Array Value)(w:World):(callFunc 105 b).run prog w = .ok (.enter 105 b) w:=by kernel_rfl
theorem Cw(b o c:Nat)(l:List Rf.Ch)(w:World)(hv:Chs w (.slice (some ⟨b,o,none⟩) l.length c) l)(ce:l≠[])(dj:∀ c∈l,Rf.allowed c=true)(hl:l.length<65536) :
 Calls prog 116 #[.slice (some ⟨b,o,none⟩) l.length c] w fun e w'=>∃ p c',e = .returned (.slice p (Rf.j7 l).length c')/\w'.ownsRow w.heap.size 5 1 (.slice p (Rf.j7 l).length c') (Rf.j7 l).length ((Rf.j7 l).map j5)/\ja w w' (fun _=>False):=by
 have gz:b<w.heap.size:=hv.lt ce;obtain⟨j0,hj,c8,c7,c6⟩:=info_parts Tryz.mn;have HV:=jb hv;have U:=jb dj;have hp:=jb ce;clear hv dj ce;refine(callsIn_wide (n:=9)).1 ?_;refine callsIn_of_wp_marks func116 rfl trivial ?_ rfl;simp only[ntmps116,xY,zH,zX,Nat.reduceAdd,Nat.reduceSub,xZ,XA,XB,XC,xL,xM]
 gi_wp2_with fail
 refine⟨trivial,(callsIn_wide.2 (jb4 _ _ rfl)).mono ?_⟩;rintro e W0 ⟨rfl,F⟩;have kW:ja w W0 (fun _=>False):=by rw[F];exact(((((ja.alloc w _ _).more _).more _).more _).more _)
 have gr:W0.heap.size=w.heap.size+5:=by rw[F];simp
 have top:∀(V:World) (x:Obj) (k:Nat),V.heap.size=k->(V.alloc x).heap[k]?=some x:=fun V x k e=>by rw[<-e];exact je V x
 have b3:W0.heap[w.heap.size]?=some (.cells #[.slice none 0 0] 84 (0,0)):=by
  rw[F];exact(((((ja.alloc _ _ (fun _=>False)).more _).more _).more _)).same (top w _ _ rfl) id
 have b4:W0.heap[w.heap.size+1]?=some (.cells #[.slice none 0 0] 84 (0,0)):=by
  rw[F];exact((((ja.alloc _ _ (fun _=>False)).more _).more _)).same (top _ _ _ (by simp)) id
 have b5:W0.heap[w.heap.size+2]?=some (.cells #[.int .u64 0] 172 (0,0)):=by
  rw[F];exact(((ja.alloc _ _ (fun _=>False)).more _)).same (top _ _ _ (by simp)) id
 have b6:W0.heap[w.heap.size+1+1+1]?=some (.cells #[.slice (some ⟨b,o,none⟩) l.length c] 38 (0,0)):=by
  rw[F];exact(ja.alloc _ _ (fun _=>False)).same (top _ _ _ (by simp)) id
 have b7:W0.heap[w.heap.size+1+1+1+1]?=some (.cells #[.int .i64 4] 3 (0,0)):=by
  rw[F];exact top _ _ _ (by simp)
 clear F;have ds:jev b o c (w.heap.size+1+1+1) (w.heap.size+1+1+1+1) l W0:=⟨HV.out.same kW,b6,b7⟩;have dw:Xo w (Rf.ze l 0) (Rf.zi l 0) 0 (.slice none 0 0) (.slice none 0 0) W0:=⟨b3,b4,b5,ZL _ _ _ _,ZL _ _ _ _,fun g u=>(by cases u),fun g u=>(by cases u),fun g u=>(by cases u),kW⟩;clear b3 b4 b5 b6 b7;have cv:=jb ds;have fn:=jb dw;clear ds dw
 gi_wp2
 refine dm rfl (by decide) (gf:=195) (rv:=#[]) (lb:=#[.pointer (some ⟨w.heap.size+1+1+1,0,none⟩),.pointer (some ⟨w.heap.size+1+1+1+1,0,none⟩)]) rfl trivial Dx
  (Ev b o c (w.heap.size+1+1+1) (w.heap.size+1+1+1+1) l (by omega)) (fun _=>rfl) (fun _ h=>h.elim) (fun i h=>by rcases h with h|h|h<;>omega)
  (fun W1 k=>⟨cv.out.1.same k,k.same cv.out.2.1 id,k.same cv.out.2.2 id⟩)
  (fun a1 C W=>∃(m:Nat) (vb vp:Value),a1=List.range m/\Hid (4*m<l.length+4)/\Xo w (Rf.ze l m) (Rf.zi l m) m vb vp W/\(∀ i,C i↔Tz w.heap.size vb vp i))
  (fun _ _ _ _=>False)
  ?hI ?hIx (fun i=>i=w.heap.size\/i=w.heap.size+1\/i=w.heap.size+2) ?hC0 ?h0 ?round ?done ?stop
 case hI =>
  rintro a1 C A B' ⟨m,vb,vp,e,h4,hM,hC⟩ hk;refine⟨m,vb,vp,e,h4,hM.aside hk (fun i h=>?_),hC⟩;rcases h with h|⟨h1,h2⟩
  ·exact h.elim
  ·exact⟨by omega,fun hf=>h2 ((hC i).2 hf)⟩
 case hIx =>
  rintro c a1 C A B' lp r h;exact h.elim
 case hC0 =>
  rintro i (h|h|h)
  all_goals exact⟨by omega,id,fun hn=>by rcases hn with hn|hn|hn<;>omega⟩
 case h0=>exact⟨0,_,_,rfl,(show 4*0<l.length+4 from by omega),fn.out,fun i=>by simp[Tz,Value.ownBlock]⟩
 case round =>
  rintro lp a1 x C W fa ⟨rl,a3⟩ dk h3 ⟨m,vb,vp,rfl,ea,hM,hC⟩ ⟨e,df⟩;have gw:=zC a3
  obtain rfl:m=x:=by
   have:=congrArg List.length e;simpa using this
  have L:=jb df;clear e df;dsimp only[jhb]
  gi_wp2
  refine⟨ja.refl _ _,?_⟩;intro W2 k2 _;have y:Xo w (Rf.ze l m) (Rf.zi l m) m vb vp W2:=hM.aside k2 (fun i e=>⟨by have e':i=lp:=e;omega,fun hf=>dk (by have e':i=lp:=e;rw[<-e'];exact(hC i).2 hf)⟩);have dr:w.heap.size+5<=W2.heap.size:=by have:=k2.size;omega
  have HC:=jb hC;have cj:=Rf.Ym U.out m;have ci:=Rf.bu U.out m ea.out;have f9:m<20000:=by have:=ea.out;omega
  have ks:Hid ((Rf.ze l m).length<1099511627776/\(Rf.zi l m).length<1099511627776):=(show _/\_ from⟨by omega,by omega⟩);have dd:Hid ((Rf.zi l m).length<1099511620000):=jb (by omega);clear hC hM cj ci;obtain⟨X,hX⟩:∃ X,X=Rf.ze l m:=⟨_,rfl⟩;obtain⟨Y,hY⟩:∃ Y,Y=Rf.zi l m:=⟨_,rfl⟩;rw[<-hX,<-hY] at y ks;rw[<-hY] at dd;have e8:=jb hX;have fj:=jb hY;clear hX hY;have c3:=zA (o:=0) y.b3;have c4:=zA (o:=0) y.b4;have f4:=zB (o:=0) y.b4;simp at c3 c4;obtain⟨pb,cb,rfl⟩:=jl y.rb;have ff:IntKind.u64.wrap (X.length:Int)=(X.length:Int):=wrap_u64 (by omega) (by have:=ks.out;omega)
  gi_wp2_with fail
  refine⟨trivial,((callsIn_wide.2 (zm vp Y.length Y X.length 4 w.heap.size W2 rfl (by have:=ks.out;omega) (by decide) ks.out.2 (by omega) y.rp)).inRound lp).mono ?_⟩;rintro e W3 ⟨p3,J,rfl,a6,av⟩;have a8:(Y++Rf.big X.length 4).length=Y.length+4:=by rw[zW,Rf.js]
  rw[<-a8] at a6 av;obtain⟨cn,cl⟩:=y.places dr av a6;rw[a8] at cn cl;have aa:=jb cn;have ct:=jb cl;have hd:=av.keeps.cell c4 (fun e=>by have:=y.np _ e.symm;simp at this);have h9:=zB (o:=0) (av.keeps.same y.b4 (fun e=>by have:=y.np _ e.symm;omega));clear cn cl
  gi_wp2
  obtain⟨Z,bp⟩:∃ Z,Z=W3.setCell ⟨w.heap.size+1,0,none⟩ (.slice p3 (Y.length+4) J):=⟨_,rfl⟩;rw[<-bp] at aa ct ⊢;have f6:Xe l.length (4*m)<=4/\1<=Xe l.length (4*m):=by have:=L.out;unfold Xe;omega
  have bm:Z.cell? ⟨b,o+4*m*3,none⟩=some (jf (Rf.Jo (partAt l (4*m)))):=by
   have:=L.out;have cg:=HV.out.same aa.out.kw;obtain⟨b',o',e,e0,_⟩:=cg.at (k:=4*m) L.out;cases e;rw[e0];unfold partAt Rf.Jo;rw[List.head?_take,List.head?_drop,xB L.out];rfl
  obtain⟨q,hq⟩:∃ q,q=Xe l.length (4*m):=⟨_,rfl⟩;obtain⟨FK,ax⟩:∃ FK,FK=Rf.Jo (partAt l (4*m)):=⟨_,rfl⟩;rw[<-ax] at bm;have fo:=jb ax;have HQ:=jb hq;have dg:jac b o l.length (4*m) = .slice (some ⟨b,o+4*m*3,none⟩) q q:=by rw[hq];rfl
  have gu:(0:Int)<(q:Int):=by omega
  have gt:0<q:=by omega
  rw[dg];have d4:=zA (o:=0) aa.out.b4;have g4:=zB (o:=0) aa.out.b4;simp at d4;have fh:Z.drew.cell? ⟨w.heap.size+1,0,none⟩=some (.slice p3 (Y.length+4) J):=d4;have fr:Z.drew.cell? ⟨b,o+4*m*3,none⟩=some (jf FK):=bm
  have ge:FK.length<=16:=by
   rw[ax];unfold Rf.Jo
   cases hh:(partAt l (4*m)).head? with
   | none=>simp
   | some x =>
    have f5:x∈partAt l (4*m):=List.mem_of_mem_head? hh;have hx:=(Rf.Jk x).1 (U.out x (XX (zM f5)));simp;omega
  have H:=jb (aa.out.same (ja.drew Z _));have h6:w.heap.size+5<=Z.heap.size:=ZI dr ct.out.1.size;have bh:=Zn (.slice p3 (Y.length+4) J) (Y.length+4) (Y++Rf.big X.length 4) FK w.heap.size Z.drew a8 (by have:=dd.out;omega) (by omega) (by show w.heap.size<=Z.heap.size;omega) (by have:=H.out.rp;rw[a8] at this;exact this);have eh:=jb bh;clear bh hq ax f6 bp;refine od (by kernel_rfl) (by kernel_rfl) (fun h=>?_) ?_
  ·obtain⟨_,_,h⟩:=h
   exact h
  refine wpAny_take (i:=1) (v:=?_) rfl (by kernel_rfl) (by kernel_rfl) (by kernel_rfl) (fun _ _ _ h=>h) (Or.inl ⟨by rfl,?_⟩) ?_
  rotate_left
  ·intro w
   go_simp;with_reducible rfl
  refine wpAny_take (i:=2) (v:=?_) rfl (by kernel_rfl) (by kernel_rfl) (by kernel_rfl) (fun _ _ _ h=>h) (Or.inl ⟨by rfl,?_⟩) ?_
  rotate_left
  ·intro w
   go_simp;with_reducible rfl
  refine wpAny_take (i:=3) (v:=?_) rfl (by kernel_rfl) (by kernel_rfl) (by kernel_rfl) (fun _ _ _ h=>h) (Or.inl ⟨by rfl,?_⟩) ?_
  rotate_left
  ·intro w
   go_simp;with_reducible rfl
  refine wpAny_ready (rs:=[0,4]) (by kernel_rfl) (by simp) ?_;refine AllReady.cons rfl (fun K d=>?_) (AllReady.cons rfl (fun K d=>?_) AllReady.nil)
  all_goals
   go_simp;refine d _ _ ?_;clear d K
  refine wpAny_ready (rs:=[4]) (by kernel_rfl) (by simp) ?_
  rotate_left
  refine wpAny_ready (rs:=[0]) (by kernel_rfl) (by simp) ?_
  all_goals
   refine AllReady.cons rfl (fun K d=>?_) AllReady.nil;go_simp;refine d _ _ ?_;clear d K;refine wpAny_ready (rs:=[5]) (by kernel_rfl) (by simp) ?_;refine AllReady.cons rfl (fun K d=>?_) AllReady.nil;refine jx rfl 163 [.tmp 17,.tmp 21] _ rfl X6 [.slice p3 (Y.length+4) J,jf FK] (by simp[Act.eval,Act.put]) eh.out ?_;rintro e W5 ⟨p5,T,rfl,a4,E⟩;refine⟨_,rfl,d _ _ ?_⟩;clear d K;have dl:(Y++Rf.big X.length 4++Rf.text FK).length=Y.length+4+1+FK.length:=by rw[zW,a8];simp[Rf.text,Rf.js];omega
   rw[<-dl] at a4 E;obtain⟨cm,ck⟩:=H.out.places (by show w.heap.size+5<=Z.heap.size;omega) E a4;have hb:=E.keeps.cell fh (fun e=>by have:=H.out.np _ e.symm;simp at this);have h8:=zB (o:=0) (E.keeps.same H.out.b4 (fun e=>by have:=H.out.np _ e.symm;omega));rw[dl] at cm ck;have ba:=jb cm;have b2:=jb (ct.out.trans ((Kg.same (ja.drew Z _)).trans ck));clear cm ck;refine wpAny_ready (rs:=[6]) (by kernel_rfl) (by simp) ?_;refine AllReady.cons rfl (fun K d=>?_) AllReady.nil;go_simp;refine d _ _ ?_;clear d K;refine wpAny_done (by kernel_rfl) ?_ _;obtain⟨W6,bo⟩:∃ W6,W6=W5.setCell ⟨w.heap.size+1,0,none⟩ (.slice p5 (Y.length+4+1+FK.length) T):=⟨_,rfl⟩;rw[<-bo] at ba b2 ⊢;clear bo;have aw:=ja.drew W6 (fun _=>False);have e3:=zA (o:=0) ba.out.b3;simp at e3;have dy:W6.drew.cell? ⟨w.heap.size,0,none⟩=some (.slice pb X.length cb):=e3;obtain⟨PT,a9⟩:∃ PT,PT=partAt l (4*m):=⟨_,rfl⟩;have ae:PT.length=q:=by rw[a9,ir,HQ.out]
   have ad:∀ c∈PT,Rf.allowed c=true:=fun c hc=>U.out c (by rw[a9] at hc;exact XX (zM hc));have al:∀ c∈PT,c.key.length<1048576/\c.value.length<1048576:=fun c hc=>by have:=(Rf.Jk c).1 (ad c hc);omega
   obtain⟨f,ay⟩:∃ f,f=Rf.big PT.length 1++PT.flatMap Rf.entry:=⟨_,rfl⟩;have af:f.length=0+1+(PT.flatMap Rf.entry).length:=by rw[ay,zW,Rf.js]
   have br:f.length<1000:=by have:=Rf.Y3 ad;have h4:PT.length<=4:=(by rw[ae,HQ.out];unfold Xe;omega);omega
   have bn:∀ V,ja W6 V (fun _=>False)->Calls prog 106 #[.slice none 0 0,.slice (some ⟨b,o+4*m*3,none⟩) q q] V fun e w'=>∃ p c,e = .returned (.slice p f.length c)/\w'.ownsRow V.heap.size 5 1 (.slice p f.length c) f.length (f.map j5)/\ja V w' (fun _=>False):=fun V k=>by
    have cg:Chs V (.slice (some ⟨b,o+4*m*3,none⟩) q q) PT:=by
     have:=(HV.out.same (ba.out.kw.tt k)).part (4*m);rw[dg,<-a9] at this;exact this
    refine(ia (.slice none 0 0) _ 0 [] PT V.heap.size V rfl (by decide) (by rw[ae,HQ.out];unfold Xe;omega) al (zJ _) (ZL _ _ _ _) cg (fun _ p n c e h=>by cases h)).mono ?_;rintro e w' ⟨p,cp,rfl,hr,u⟩;rw[<-af,xL,<-ay] at hr;rw[<-af];exact⟨p,cp,rfl,hr,u.new rfl⟩
   have bw:=jb bn;have fq:=jb ay;have fl:=jb a9;have I:=jb br;clear bn ay a9 af br ae ad al
   gi_wp2
   refine od (by kernel_rfl) (by kernel_rfl) (fun h=>?_) ?_
   ·obtain⟨_,_,h⟩:=h
    exact h
   refine wpAny_take (i:=1) (v:=?_) rfl (by kernel_rfl) (by kernel_rfl) (by kernel_rfl) (fun _ _ _ h=>h) (Or.inl ⟨by rfl,?_⟩) ?_
   rotate_left
   ·intro w
    go_simp;with_reducible rfl
   refine wpAny_ready (rs:=[0,2]) (by kernel_rfl) (by simp) ?_;refine AllReady.cons rfl (fun K d=>?_) (AllReady.cons rfl (fun K d=>?_) AllReady.nil)
   rotate_left
   refine jx rfl 106 [.const (.slice none 0 0),.tmp 24] _ rfl b9 [.slice none 0 0,.slice (some ⟨b,o+4*m*3,none⟩) q q] (by simp[Act.eval,Act.put]) (bw.out _ aw) ?_;rintro e W7 ⟨p7,b1,rfl,au,k7⟩;refine⟨_,rfl,d _ _ ?_⟩;clear d K;have ar:=aw.tt k7;have az:=k7.cell dy id;refine wpAny_ready (rs:=[0,3]) (by kernel_rfl) (by simp) ?_;refine AllReady.cons rfl (fun K d=>?_) (AllReady.cons rfl (fun K d=>?_) AllReady.nil);rotate_right;go_simp;refine d _ _ ?_;clear d K;refine wpAny_ready (rs:=[2]) (by kernel_rfl) (by simp) ?_;refine AllReady.cons rfl (fun K d=>?_) AllReady.nil;refine jx rfl 106 [.const (.slice none 0 0),.tmp 24] _ rfl b9 [.slice none 0 0,.slice (some ⟨b,o+4*m*3,none⟩) q q] (by simp[Act.eval,Act.put]) (bw.out _ aw) ?_;rintro e W7 ⟨p7,b1,rfl,au,k7⟩;refine⟨_,rfl,d _ _ ?_⟩;clear d K;have ar:=aw.tt k7;have az:=k7.cell dy id;refine wpAny_ready (rs:=[3]) (by kernel_rfl) (by simp) ?_;refine AllReady.cons rfl (fun K d=>?_) AllReady.nil;refine jx rfl 105 [.tmp 25] _ rfl Yl [.slice p7 f.length b1] (by simp[Act.eval,Act.put]) (lf _ f W7 (xr au) (by have:=I.out;omega)) ?_;rintro e W8 ⟨p8,b0,rfl,ca,k8⟩;refine⟨_,rfl,d _ _ ?_⟩;clear d K;have R:=ar.tt k8;have cs:=k8.cell az id
   rotate_left
   go_simp;refine d _ _ ?_;clear d K;refine wpAny_ready (rs:=[3]) (by kernel_rfl) (by simp) ?_;refine AllReady.cons rfl (fun K d=>?_) AllReady.nil;refine jx rfl 105 [.tmp 25] _ rfl Yl [.slice p7 f.length b1] (by simp[Act.eval,Act.put]) (lf _ f W7 (xr au) (by have:=I.out;omega)) ?_;rintro e W8 ⟨p8,b0,rfl,ca,k8⟩;refine⟨_,rfl,d _ _ ?_⟩;clear d K;have R:=ar.tt k8;have cs:=k8.cell az id
   rotate_left
   refine jx rfl 105 [.tmp 25] _ rfl Yl [.slice p7 f.length b1] (by simp[Act.eval,Act.put]) (lf _ f W7 (xr au) (by have:=I.out;omega)) ?_;rintro e W8 ⟨p8,b0,rfl,ca,k8⟩;refine⟨_,rfl,d _ _ ?_⟩;clear d K;have R:=ar.tt k8;have cs:=k8.cell az id;refine wpAny_ready (rs:=[0]) (by kernel_rfl) (by simp) ?_;refine AllReady.cons rfl (fun K d=>?_) AllReady.nil;go_simp;refine d _ _ ?_;clear d K
   all_goals
    have dv:=ba.out.same R;have fg:(X++Rf.frame f).length=X.length+(8+f.length):=by rw[zW];simp[Rf.frame,Rf.js];omega
    have S:(Rf.frame f).length=8+f.length:=by simp[Rf.frame,Rf.js];omega
    have bi:W8.ownsRow W7.heap.size 5 1 (.slice p8 (Rf.frame f).length b0) (Rf.frame f).length ((Rf.frame f).map j5):=by rw[S];exact ca
    have t:=(xr bi).src;rw[S] at t;have ag:=jb t;have ab:=jb dv;have cr:Hid (X.length+(8+f.length)<=maxLen):=jb (by have:=ks.out;have:=I.out;unfold maxLen;omega);have ch:Hid ((X.length+(8+f.length))*1<=140737488355328):=jb (by have:=ks.out;have:=I.out;omega);have M:w.heap.size<=W8.heap.size:=by have:=R.size;have:=b2.out.1.size;omega
    clear t bi dv;refine wpAny_ready (rs:=[4]) (by kernel_rfl) (by simp) ?_;refine AllReady.cons rfl (fun K d=>?_) AllReady.nil;refine Yh rfl (.tmp 23) (.tmp 26) 84 84 rfl w.heap.size 5 j0 (.int .u8 0) 1 1 underlying84 hj c8 c7 c6 rfl ZJ (.slice pb X.length cb) X.length (X.map j5) (by simp[Act.eval,Act.put]) ab.out.rb (.slice p8 (8+f.length) b0) (8+f.length) ((Rf.frame f).map j5) (by simp[Act.eval,Act.put]) ag.out cr.out ch.out M ?_;intro p9 e4 W9 c9 fd fb;refine d _ _ ?_;clear d K;have ac:Grown W8 (.slice pb X.length cb) W9 (.slice p9 (X.length+(8+f.length)) e4):=Grown.grown fd fb;have he:=ac.keeps.cell cs (fun e=>by have h':w.heap.size+5<=w.heap.size:=ab.out.nb _ e.symm;omega);have ha:=zB (o:=0) (ac.keeps.same ab.out.b3 (fun e=>by have:=ab.out.nb _ e.symm;omega));rw[<-xP] at c9;obtain⟨du,dq⟩:=ab.out.blocks (X':=X++Rf.frame f) (by have:=R.size;have:=b2.out.1.size;omega) ac (by rw[fg];exact c9);have b8:=jb du;have e9:=jb (b2.out.trans ((Kg.same R).trans dq));clear du dq c9;refine wpAny_ready (rs:=[5]) (by kernel_rfl) (by simp) ?_;refine AllReady.cons rfl (fun K d=>?_) AllReady.nil;go_simp;refine d _ _ ?_;clear d K;refine wpAny_done (by kernel_rfl) ?_ _;obtain⟨WA,dp⟩:∃ WA,WA=W9.setCell ⟨w.heap.size,0,none⟩ (.slice p9 (X.length+(8+f.length)) e4):=⟨_,rfl⟩;rw[<-dp] at b8 e9 ⊢;clear dp;have a5:=zA (o:=0) b8.out.b5;have g5:=zB (o:=0) b8.out.b5;simp at a5;have ho:WA.cell? ⟨w.heap.size+1+1,0,none⟩=some (.int .u64 m):=a5;have h7:WA.frozen? ⟨w.heap.size+1+1,0,none⟩=false:=g5;have gv:IntKind.u64.wrap ((m:Int)+1)=((m+1:Nat):Int):=by rw[wrap_u64 (by omega) (by omega)];omega
    obtain⟨dt,dn⟩:=b8.out.counted (N:=m+1);have G:=jb dt;have cu:=jb (e9.out.trans dn);clear dt dn
    gi_wp2
    have ec:((m+1:Nat):Int)=(m:Int)+1:=by omega
    rw[ec] at G cu;have e1:X++Rf.frame f=Rf.ze l (m+1):=by rw[Rf.vd l m L.out,e8.out,fq.out,fl.out];rfl
    have e2:Y++Rf.big X.length 4++Rf.text FK=Rf.zi l (m+1):=by rw[Rf.ak l m L.out,e8.out,fj.out,fo.out];rfl
    rw[e1,e2] at G;refine⟨Tz w.heap.size _ _,fun i hi=>?_,fun i hi=>?_,cu.out.1.mono (fun i _ h=>(HC.out i).2 h),m+1,_,_,List.range_succ.symm,(show 4*(m+1)<l.length+4 from by have:=L.out;omega),G.out,fun _=>Iff.rfl⟩
    ·rcases cu.out.2 i hi with h|h
     ·exact .inl ((HC.out i).2 h)
     ·have:=k2.size
      exact .inr (by omega)
    ·rcases hi with h|h|h|h|h
     ·rw[h];exact zC G.out.b3
     ·rw[h];exact zC G.out.b4
     ·rw[h];exact zC G.out.b5
     ·exact(G.out.rb.lt i h).2
     ·exact(G.out.rp.lt i h).2
 case done =>
  rintro D lp C xs W2 W hD fa gd f7 dk z hk ⟨m,vb,vp,e,h4,hM,hC⟩ d
  have hm:m=(l.length+3)/4:=by
   have hf:xs=List.range ((l.length+3)/4):=z;rw[hf] at e;have:=congrArg List.length e;simpa using this.symm
  clear e z;have cj:=Rf.Ym U.out m;have ci:=Rf.bu U.out m h4.out;have f9:m<20000:=by omega
  have z:Rf.j7 l=(Rf.ze l m++Rf.frame (Rf.big m 2++Rf.zi l m))++Rf.big (Rf.ze l m).length 4:=by rw[Rf.pz l,hm]
  have ks:Hid ((Rf.ze l m).length<4900000/\(Rf.zi l m).length<420000):=(show _/\_ from⟨by omega,by omega⟩);have dx:¬Tz w.heap.size vb vp D:=fun h=>f7 ((hC D).2 h);have fp:=jb dx;have HC:=jb hC;obtain⟨X,hX⟩:∃ X,X=Rf.ze l m:=⟨_,rfl⟩;obtain⟨Y,hY⟩:∃ Y,Y=Rf.zi l m:=⟨_,rfl⟩;rw[<-hX,<-hY] at hM ks z;have bv:=jb z;have HM:=jb hM;have eb:=jb d;clear cj ci hm hX hY hC dx z hM d hk h4;obtain⟨pb,cb,rfl⟩:=jl HM.out.rb;obtain⟨pp,dz,rfl⟩:=jl HM.out.rp;obtain⟨s,cq⟩:∃ s,s=Rf.big m 2++Y:=⟨_,rfl⟩;have bq:s.length=2+Y.length:=by rw[cq,zW,Rf.js]
  have cx:=jb cq;have B:=jb bq;clear cq bq;have c3:=zA (o:=0) HM.out.b3;have c4:=zA (o:=0) HM.out.b4;have c5:=zA (o:=0) HM.out.b5;simp at c3 c4 c5;have c5:W.drew.cell? ⟨w.heap.size+1+1,0,none⟩=some (.int .u64 m):=c5;have c4:W.drew.cell? ⟨w.heap.size+1,0,none⟩=some (.slice pp Y.length dz):=c4;have kc:ja W W.drew (fun _=>False):=ja.drew W _;have h5:w.heap.size+5<=W.heap.size:=by have:=zC eb.out;omega
  have bl:∀ V,ja W V (fun _=>False)->Calls prog 107 #[.slice none 0 0,.int .u64 m,.int .i64 2] V fun e w'=>∃ p c,e = .returned (.slice p 2 c)/\w'.ownsRow W.heap.size 5 1 (.slice p 2 c) 2 ((Rf.big m 2).map j5)/\ja V w' (fun _=>False):=fun V k=>by
   refine(zm (.slice none 0 0) 0 [] m 2 W.heap.size V rfl (by omega) (by decide) (by decide) k.size (ZL _ _ _ _)).mono ?_;rintro e w' ⟨p,cp,rfl,hr,u⟩;exact⟨p,cp,rfl,hr,u.new rfl⟩
  have ah:=jb bl;have cr:Hid (2+Y.length<=maxLen):=jb (by have:=ks.out;unfold maxLen;omega);have ch:Hid ((2+Y.length)*1<=140737488355328):=jb (by have:=ks.out;omega);have f8:Hid (s.length<1099511627776):=jb (by have:=ks.out;have:=B.out;omega);clear bl
  gi_wp2
  refine wpIn_wide.2 ?_;refine wp_region_any (by kernel_rfl) ?_;change wpAny _ _ _ _ _ _ _ (World.drew _);refine wpAny_ready (rs:=[0,2]) (by kernel_rfl) (by simp) ?_;refine AllReady.cons rfl (fun K d=>?_) (AllReady.cons rfl (fun K d=>?_) AllReady.nil);go_simp;refine d _ _ ?_;clear d K;refine wpAny_ready (rs:=[1,2]) (by kernel_rfl) (by simp) ?_;refine AllReady.cons rfl (fun K d=>?_) (AllReady.cons rfl (fun K d=>?_) AllReady.nil);refine jx rfl 107 [.const (.slice none 0 0),.tmp 30,.const (.int .i64 2)] _ rfl Yt [.slice none 0 0,.int .u64 m,.int .i64 2] (by simp[Act.eval,Act.put]) (ah.out _ kc) ?_;rintro e V1 ⟨p1,c1,rfl,a7,k1⟩;have e7:=k1.cell c4 id;have a2:=kc.tt k1;refine⟨_,rfl,d _ _ ?_⟩;clear d K;refine wpAny_ready (rs:=[2]) (by kernel_rfl) (by simp) ?_;refine AllReady.cons rfl (fun K d=>?_) AllReady.nil;go_simp;refine d _ _ ?_;clear d K
  rotate_left
  go_simp;refine d _ _ ?_;clear d K;refine wpAny_ready (rs:=[1]) (by kernel_rfl) (by simp) ?_;refine AllReady.cons rfl (fun K d=>?_) AllReady.nil;refine jx rfl 107 [.const (.slice none 0 0),.tmp 30,.const (.int .i64 2)] _ rfl Yt [.slice none 0 0,.int .u64 m,.int .i64 2] (by simp[Act.eval,Act.put]) (ah.out _ kc) ?_;rintro e V1 ⟨p1,c1,rfl,a7,k1⟩;have e7:=k1.cell c4 id;have a2:=kc.tt k1;refine⟨_,rfl,d _ _ ?_⟩;clear d K
  rotate_left
  go_simp;refine d _ _ ?_;clear d K;refine wpAny_ready (rs:=[0]) (by kernel_rfl) (by simp) ?_;refine AllReady.cons rfl (fun K d=>?_) AllReady.nil;go_simp;refine d _ _ ?_;clear d K;refine wpAny_ready (rs:=[1]) (by kernel_rfl) (by simp) ?_;refine AllReady.cons rfl (fun K d=>?_) AllReady.nil;refine jx rfl 107 [.const (.slice none 0 0),.tmp 30,.const (.int .i64 2)] _ rfl Yt [.slice none 0 0,.int .u64 m,.int .i64 2] (by simp[Act.eval,Act.put]) (ah.out _ kc) ?_;rintro e V1 ⟨p1,c1,rfl,a7,k1⟩;have e7:=k1.cell c4 id;have a2:=kc.tt k1;refine⟨_,rfl,d _ _ ?_⟩;clear d K
  all_goals
   refine wpAny_ready (rs:=[3]) (by kernel_rfl) (by simp) ?_;refine AllReady.cons rfl (fun K d=>?_) AllReady.nil;refine Yh rfl (.tmp 31) (.tmp 32) 84 84 rfl W.heap.size 5 j0 (.int .u8 0) 1 1 underlying84 hj c8 c7 c6 rfl ZJ (.slice p1 2 c1) 2 ((Rf.big m 2).map j5) (by simp[Act.eval,Act.put]) a7 (.slice pp Y.length dz) Y.length (Y.map j5) (by simp[Act.eval,Act.put]) ((xr (HM.out.same a2).rp).src) cr.out ch.out a2.size ?_;intro p2 e6 V2 cd fe gx;have f3:=a2.grow fe (fun j e hj=>by have:=(a7.lt j e).1;omega);rw[<-xP,<-cx.out,<-B.out] at cd;refine d _ _ ?_;clear d K;refine wpAny_ready (rs:=[4]) (by kernel_rfl) (by simp) ?_;refine AllReady.cons rfl (fun K d=>?_) AllReady.nil;refine jx rfl 105 [.tmp 33] _ rfl Yl [.slice p2 (2+Y.length) e6] (by simp[Act.eval,Act.put]) (lf (.slice p2 (2+Y.length) e6) s V2 (by rw[<-B.out];exact xr cd) f8.out) ?_;rintro e V3 ⟨p3,J,rfl,a6,k3⟩;have c2:=f3.tt k3;refine⟨_,rfl,d _ _ ?_⟩;clear d K;refine wpAny_ready (rs:=[5]) (by kernel_rfl) (by simp) ?_;refine AllReady.cons rfl (fun K d=>?_) AllReady.nil;go_simp;refine d _ _ ?_;clear d K;refine wpAny_done (by kernel_rfl) ?_ _;have co:=HM.out.same c2;have fi:=zA (o:=0) co.b3;simp at fi;have S:(Rf.frame s).length=8+s.length:=by simp[Rf.frame,Rf.js];omega
   have bk:V3.ownsRow V2.heap.size 5 1 (.slice p3 (Rf.frame s).length J) (Rf.frame s).length ((Rf.frame s).map j5):=by rw[S];exact a6
   have t:=(xr bk).src;rw[S] at t;have ag:=jb t;have bb:=jb co;have eg:Hid (X.length+(8+s.length)<=maxLen):=jb (by have:=ks.out;have:=B.out;unfold maxLen;omega);have ef:Hid ((X.length+(8+s.length))*1<=140737488355328):=jb (by have:=ks.out;have:=B.out;omega);have M:w.heap.size<=V3.heap.size:=by have:=c2.size;omega
   have ff:IntKind.u64.wrap (X.length:Int)=(X.length:Int):=wrap_u64 (by omega) (by have:=ks.out;omega);have bj:∀ g,(Value.slice pb X.length cb).ownBlock=some g->¬g=D:=fun g u e=>fp.out (.inr (.inr (.inr (.inl (e▸u)))));have ed:=jb (c2.same eb.out id);have bs:=jb bj;clear t bk co bj a6 cd a7
   gi_wp2_with (gi_at_builtin;refine ud _ rfl (.tmp 38) (.tmp 39) 84 84 rfl w.heap.size 5 j0 (.int .u8 0) 1 1 underlying84 hj c8 c7 c6 rfl ZJ (.slice pb X.length cb) X.length (X.map j5) rfl bb.out.rb (.slice p3 (8+s.length) J) (8+s.length) ((Rf.frame s).map j5) rfl ag.out eg.out ef.out M ?_;intro p4 e5 V4 cc cf fc)
   have aj:(X++Rf.frame s).length=X.length+(8+s.length):=by rw[zW,S]
   have gs:=(ja.grown cf).size;rw[<-xP] at cc;have ai:=zm (.slice p4 (X.length+(8+s.length)) e5) (X.length+(8+s.length)) (X++Rf.frame s) X.length 4 w.heap.size V4 aj (by have:=ks.out;omega) (by decide) (by have:=ks.out;have:=B.out;omega) (by omega) cc;have fm:=jb ai;have bt:=jb ((ja.grown cf).same ed.out (fun e=>bs.out D e.symm rfl));have ee:ja w V4 (fun _=>False):=bb.out.kw.trans (ja.grown cf) (fun i hi e=>by have:=bb.out.nb i e.symm;omega)
   have di:∀ g,(Value.slice p4 (X.length+(8+s.length)) e5).ownBlock=some g->w.heap.size<=g/\¬g=D:=fun g u=>by
    rcases fc with h|h
    ·rw[h] at u
     exact⟨by have:=bb.out.nb g u;omega,bs.out g u⟩
    ·rw[h] at u
     cases u;have:=zC ed.out;exact⟨by omega,by omega⟩
   have cw:=jb di;clear ai di cc;refine⟨trivial,(callsIn_wide.2 fm.out).mono ?_⟩;rintro e V5 ⟨p5,T,rfl,a4,E⟩;have fk:=jb a4;have ei:=jb (E.keeps.same bt.out (fun e=>(cw.out D e.symm).2 rfl));have k5:ja w V5 (fun _=>False):=ee.trans E.keeps (fun i hi e=>by have:=(cw.out i e.symm).1;omega);have de:ja V5 (V5.putObj D (.deferred none)) (fun i=>i=D):=ja.putObj V5 D _
   have dh:∀ g,(Value.slice p5 (X.length+(8+s.length)+4) T).ownBlock=some g->¬g=D:=fun g u=>by
    rcases E.1 with h|⟨g',h,gy⟩
    ·rw[h] at u
     exact(cw.out g u).2
    ·rw[h] at u
     cases u;have:=zC bt.out;omega
   have a3:(Rf.j7 l).length=X.length+(8+s.length)+4:=by rw[bv.out,<-cx.out,zW,aj,Rf.js]
   have O:∃ p c',Ending.returned (Value.slice p5 (X.length+(8+s.length)+4) T) = .returned (.slice p (Rf.j7 l).length c')/\(V5.putObj D (.deferred none)).ownsRow w.heap.size 5 1 (.slice p (Rf.j7 l).length c') (Rf.j7 l).length ((Rf.j7 l).map j5)/\ja w (V5.putObj D (.deferred none)) (fun _=>False):=by
    refine⟨p5,T,by rw[a3],?_,k5.trans de (fun i hi e=>by have e':i=D:=e;omega)⟩;rw[a3,bv.out,<-cx.out];exact de.row fk.out dh
   have bc:=jb O;clear O dh a4 a3
   gi_wp2
   refine⟨by simp,.inl ⟨_,_,rfl,run_takeDeferred ei.out,?_⟩⟩;exact⟨.slice p5 (X.length+(8+s.length)+4) T,(by simp[results,Tryz.results116,go_sem]),bc.out⟩
 case stop =>
  rintro D lp C c a1 W2 W _ _ _ _ _ _ _ h;exact h.elim
end Go.Proofs.YtnipbplghijdmaaGreatDoor
namespace Go.Proofs.YtnipbplghijdmaaGreatDoor
open RowKit Maps WideShapes Go.Proofs.Tryz
variable {a b:Nat} {p:Str×List UInt8} {ns:List Nat}
def Pn(l:List UInt8):Nat:=l.foldl (fun n x=>n*10+(x.toNat-48)) 0
theorem Ud(l:List UInt8)(x:UInt8):Pn (l++[x])=Pn l*10+(x.toNat-48):=by simp[Pn,XM]
theorem uh(n:Nat):Pn (Rf.Q4 n)=n:=by
 induction n using Nat.strongRecOn with
 | ind n ih =>
  unfold Rf.Q4
  split
  ·rename_i h
   have b:(UInt8.ofNat (48+n)).toNat=48+n:=by rw[XU];omega
   simp only[Pn,XN,List.foldl_nil,b];omega
  ·rename_i h
   have b:(UInt8.ofNat (48+n%10)).toNat=48+n%10:=by rw[XU];omega
   rw[Ud,ih (n/10) (by omega),b];omega
theorem C7(h:Rf.Q4 a=Rf.Q4 b):a=b:=by rw[<-uh a,h,uh]
theorem rq(h:jh a=jh b):a=b:=by
 unfold jh at h;simp at h;exact C7 h
theorem gj(h:jo a=jo b):a=b:=by
 unfold jo at h;simp at h;exact C7 h
theorem Yj(a b:Nat):jh a≠jo b:=fun h=>by simp[jh,jo] at h
theorem tn(a:Nat):ji≠jh a:=fun h=>by simp[jh,ji] at h
theorem gq(a:Nat):ji≠jo a:=fun h=>by simp[jo,ji] at h
theorem Ez(a:Nat):jq≠jh a:=fun h=>by simp[jh,jq] at h
theorem Ey(a:Nat):jq≠jo a:=fun h=>by simp[jo,jq] at h
theorem Jt(a:Nat):jh a≠[]:=fun h=>by simp[jh] at h
theorem Jc(a:Nat):jo a≠[]:=fun h=>by simp[jo] at h
def jgh(V:List (Str×List UInt8)):Prop:=V.Pairwise (fun p q=>p.1≠q.1)
theorem jdr{V:List (Str×List UInt8)}{n:Str}{b:List UInt8}:p∈Xb V n b↔p=(n,b)\/(p∈V/\p.1≠n):=by
 unfold Xb;rw[zF,qh]
def qq(ns:List Nat)(ls:List (List Rf.Ch)):List (Str×List UInt8):=(ns.zip ls).map (fun p=>(jo p.1,Rf.j7 p.2))
def Rf.St.files(s:Rf.St):List (Str×List UInt8):=(ji,s.m.bytes)::(jh s.m.log,Rf.jk s.m.last s.bs)::qq s.m.settled s.bls
theorem J9{ls:List (List Rf.Ch)}:p∈qq ns ls↔∃ q∈ns.zip ls,p=(jo q.1,Rf.j7 q.2):=by
 unfold qq;rw[zS];exact⟨fun⟨q,h,e⟩=>⟨q,h,e.symm⟩,fun⟨q,h,e⟩=>⟨q,h,e.symm⟩⟩
theorem Z5{s:Rf.St}:p∈s.files↔p=(ji,s.m.bytes)\/p=(jh s.m.log,Rf.jk s.m.last s.bs)\/p∈qq s.m.settled s.bls:=by
 unfold Rf.St.files;rw[zF,zF]
theorem X9{ls:List (List Rf.Ch)}(h:p∈qq ns ls):∃ n∈ns,p.1=jo n:=by
 obtain⟨q,b,rfl⟩:=J9.1 h;exact⟨q.1,(List.of_mem_zip b).1,rfl⟩
theorem Gj(h:ns.Nodup)(ls:List (List Rf.Ch)):jgh (qq ns ls):=by
 induction ns generalizing ls with
 | nil=>exact List.Pairwise.nil
 | cons n r ih =>
  cases ls with
  | nil=>exact List.Pairwise.nil
  | cons l q =>
   obtain⟨d,c⟩:=XE.1 h;refine XD.2 ⟨fun p hp e=>?_,ih c q⟩;obtain⟨m,b,g⟩:=X9 (ns:=r) (ls:=q) hp;rw[g] at e;have f:n=m:=gj e;exact d (by rw[f];exact b)
theorem Rf.St.Ok.Ai{s:Rf.St}(h:s.Ok):s.m.settled.Nodup:=(List.nodup_append.1 h.y7.2.2.2).1
theorem Rf.St.Ok.Bp{s:Rf.St}(h:s.Ok){n:Nat}(b:n∈s.m.settled):1<=n/\n<s.m.next:=h.y7.2.2.1 n (ZA.2 (.inl b))
theorem Rf.St.Ok.apart{s:Rf.St}(h:s.Ok):jgh s.files:=by
 refine XD.2 ⟨fun p b=>?_,XD.2 ⟨fun p b=>?_,Gj h.Ai _⟩⟩
 ·rcases zF.1 b with rfl|b
  ·exact tn _
  ·obtain⟨n,_,e⟩:=X9 b
   rw[e];exact gq n
 ·obtain⟨n,_,e⟩:=X9 b
  rw[e];exact Yj _ n
theorem Wp{α β:Type}:∀ {l:List α} {m:List β},l.length=m.length->∀ a∈l,∃ b,(a,b)∈l.zip m
 | [],_,_,a,h=>by cases h
 | x::r,[],e,_,_=>by simp at e
 | x::r,y::q,e,a,h=>by
  rcases zF.1 h with rfl|h
  ·exact⟨y,by simp⟩
  ·obtain⟨b,hb⟩:=Wp (l:=r) (m:=q) (by simpa using e) a h
   exact⟨b,zQ _ hb⟩
theorem Rf.St.Ok.there{s:Rf.St}(h:s.Ok):∀ n∈jt s.m,∃ b,(n,b)∈s.files:=by
 intro n c;unfold jt at c;rcases ZA.1 c with c|c
 ·obtain⟨k,f,rfl⟩:=zS.1 c
  obtain⟨l,d⟩:=Wp h.len.symm k f;exact⟨_,Z5.2 (.inr (.inr (J9.2 ⟨_,d,rfl⟩)))⟩
 ·rw[zZ.1 c]
  exact⟨_,Z5.2 (.inr (.inl rfl))⟩
def Calm(ρ:Nat->j3)(B b:Nat)(mv rv:Value)(w:World):Prop:=∀ p n c,rv = .slice (some p) n c->ρ p.block = .none/\p.block≠b/\B<=p.block/\mv.ownBlock≠some p.block/\p.block<w.heap.size
def StF(ρ:Nat->j3)(b:Nat)(mv:Value)(i:Nat):Prop:=ρ i≠ .none\/i=b\/mv.ownBlock=some i
end Go.Proofs.YtnipbplghijdmaaGreatDoor
namespace Go.Proofs.YtnipbplghijdmaaGreatDoor
open RowKit Maps WideShapes Go.Proofs.Tryz
variable {v:Value} {w:World}
theorem Nt{ρ:Nat->j3}{n:Nat}{W:World}{e:TypeId}{k:Nat}{xs:List Value}(b:∀ i,ρ i≠ .none->i<n)(h:W.ownsRow n e 1 v k xs):Off ρ v:=by
 intro p m c d;have:=(h.lt p.block (by rw[d];rfl)).1;exact yE (fun hn=>by have:=b _ hn;omega)
theorem Ik(b:Array Value)(w:World):(callFunc 165 b).run prog w = .ok (.enter 165 b) w:=by kernel_rfl
theorem sd(b:Array Value)(w:World):(callFunc 164 b).run prog w = .ok (.enter 164 b) w:=by kernel_rfl
theorem Ij(b:Array Value)(w:World):(callFunc 166 b).run prog w = .ok (.enter 166 b) w:=by kernel_rfl
theorem dr(b:Array Value)(w:World):(callFunc 114 b).run prog w = .ok (.enter 114 b) w:=by kernel_rfl
theorem ql(m:Rf.Man):m.bytes.length=42+8*m.runs.length:=by
 have H:∀ l:List Nat,(l.flatMap fun r=>Rf.big r 8).length=8*l.length:=by
  intro l
  induction l with
  | nil=>rfl
  | cons x r ih=>rw[ZV,zW,Rf.js,ih,zH];omega
 unfold Rf.Man.bytes Rf.ff Rf.frame;simp only[zW,Rf.js,H];omega
theorem Za{m:Rf.Man}(d:m.Good):∀ n∈jt m,n.length<1099511627776:=by
 intro n b;have i:=d.1;have c:=d.2.2.1;unfold jt at b;rcases ZA.1 b with b|b
 ·obtain⟨k,f,rfl⟩:=zS.1 b
  have g:=c k (ZA.2 (.inl f));have:=yj (n:=k) (by omega);unfold jo;simp only[zW,zH,zX];omega
 ·rw[zZ.1 b]
  have g:=d.log;exact Xl (by omega)
theorem jcn(l:List Rf.Ch):Y5 [] l=l:=Fo (fun c _=>rfl)
theorem Jw.src{l:List Nat}(h:Jw w v l):Src prog 1 39 v l.length (l.map jg) w:=by
 obtain⟨p,c,rfl,k,i,g,f⟩:=h
 cases p with
 | none =>
  have:c=0:=g rfl;have d:l=[]:=zT (by omega);subst d;exact Src.ofNil w underlying39 c
 | some ad =>
  exact Src.ofSlice w underlying39 ad l.length c _ (by simp) (fun j u hu=>by
   rw[ZN] at hu
   obtain⟨y,b,rfl⟩:=ZO.1 hu
   exact(f ad rfl).2 j y b) (fun u hu=>by
   obtain⟨y,_,rfl⟩:=zS.1 hu
   rfl)
theorem jcb(l:List Rf.Ch):Rf.below l []=0:=by
 unfold Rf.below
 cases l with
 | nil=>rfl
 | cons x r=>rw[List.takeWhile_cons_of_neg (by simp)];rfl
theorem Mr(w:World):Bytes w (.slice none 0 0) []:=⟨none,0,rfl,zJ _,zG _,fun _=>rfl,fun _ h=>by cases h⟩
theorem u5(b:Array Value)(w:World):(callFunc 115 b).run prog w = .ok (.enter 115 b) w:=by kernel_rfl
theorem u9(b:Array Value)(w:World):(callFunc 116 b).run prog w = .ok (.enter 116 b) w:=by kernel_rfl
theorem mw(b:Array Value)(w:World):(callFunc 118 b).run prog w = .ok (.enter 118 b) w:=by kernel_rfl
theorem di(w:World)(o:Obj):((w.alloc o).alloc o).drew.heap[w.heap.size]?=some o/\((w.alloc o).alloc o).drew.heap[w.heap.size+1]?=some o/\ja w ((w.alloc o).alloc o).drew (fun _=>False):=by
 refine⟨(ja.alloc (w.alloc o) o (fun _=>False)).same (je w o) id,?_,((ja.alloc w o _).more o).draw⟩;have:=je (w.alloc o) o;rw[xJ] at this;exact this
theorem x7.row{w':World}{ρ c:Nat->j3}(g:x7 w ρ w' c){b:Nat}{o:Obj}(h:w.heap[b]?=some o)(d:ρ b = .none):w'.heap[b]?=some o/\c b = .none:=⟨g.keeps.same h (fun t=>t d),(g.role b (zC h)).trans d⟩
end Go.Proofs.YtnipbplghijdmaaGreatDoor
namespace Go.Proofs.YtnipbplghijdmaaGreatDoor
open RowKit Maps WideShapes Go.Proofs.Tryz
variable {l:List Rf.Ch} {s:Rf.St}
theorem Hc(h:Rf.sx l):Rf.Laid (Rf.chunks l):=by
 refine Rf.Sd h.some h.allowed h.rising ?_ (by have:=h.few;omega);have b:=Rf.Ym h.allowed ((l.length+3)/4);unfold Rf.ze at b;rw[<-Rf.ar,xR] at b;have c:=Rf.ar l;have:=h.few;omega
theorem jcm{α β:Type}:∀ {l:List α} {m:List β} {k:Nat} {a:α} {b:β},l[k]?=some a->m[k]?=some b->(a,b)∈l.zip m
 | x::r,y::q,0,a,b,h1,h2=>by cases h1;cases h2;simp
 | x::r,y::q,k+1,a,b,h1,h2=>by
  rw[xG] at h1 h2
  exact zQ _ (jcm h1 h2)
 | [],_,_,_,_,h1,_=>by cases h1
 | x::r,[],_,_,_,_,h2=>by cases h2
theorem iy(d:Str)(c:J5)(r:List J5)(S:jc):j9 d (c::r) S =
 (match Zh d (c S)with
  | none=>((c S).1,.inr ((c S).2.2.getD false))
  | some l=>match j9 d r (c S).1 with|(S2,.inl ls)=>(S2,.inl (l::ls))|(S2,.inr b)=>(S2,.inr b)):=rfl
def Zu(lo hi k:Str):Bool:=decide (¬k<lo)&&(decide (hi=[])||decide (k<hi))
theorem Pk(h:Rf.jw l)(b:Str):Y5 b l=l.filter (Ay b):=Rf.takeWhile_filter h b
theorem rk(h:Rf.jw l)(lo b:Str):Y5 b (l.filter (Rf.qk lo))=l.filter (fun c=>Zu lo b c.key):=by
 rw[Pk (Rf.Xj h _),yB];refine List.filter_congr (fun c _=>?_);unfold Ay Rf.qk Zu;rw[Bool.and_comm]
theorem Vh(l:List Rf.Ch):kept l=Rf.there l:=rfl
theorem jdl(h:s.Ok):∀ l∈s.bls,Rf.jw l:=fun l hl=>(h.bl l hl).rising
theorem jfl(h:s.Ok)(lo b:Str):(s.bls.map Rf.chunks).map (fun bl=>Y5 b (bl.flatten.filter (Rf.qk lo)))=s.bls.map (fun l=>l.filter (fun c=>Zu lo b c.key)):=by
 rw[ZE];refine ZR (fun l hl=>?_);show Y5 b ((Rf.chunks l).flatten.filter (Rf.qk lo))=_;rw[Rf.Xz,rk (jdl h l hl)]
theorem jer(h:s.Ok)(lo b:Str)(most:Nat):(kept (Rf.merged (s.mem.filter (fun c=>Zu lo b c.key)::s.bls.map (fun l=>l.filter (fun c=>Zu lo b c.key))))).take most=Rf.pj s.all lo b most:=by
 have e:=Rf.ux (ls:=s.mem::s.bls) (fun l d=>by
  rcases zF.1 d with rfl|d
  ·exact Rf.zb _
  ·exact jdl h l d) (Zu lo b)
 rw[zP] at e;rw[e,Vh];unfold Rf.pj Rf.there Rf.Oa Rf.St.all;rw[yB,yB];congr 1;refine List.filter_congr (fun c _=>?_);unfold Zu;rw[Bool.and_comm]
theorem Rp(h:s.Ok)(lo d:Str):(Rf.merged (s.mem.filter (fun c=>Zu lo d c.key)::s.bls.map (fun l=>l.filter (fun c=>Zu lo d c.key)))).length<=s.all.length:=by
 have e:=Rf.ux (ls:=s.mem::s.bls) (fun l b=>by
  rcases zF.1 b with rfl|b
  ·exact Rf.zb _
  ·exact jdl h l b) (Zu lo d)
 rw[zP] at e;rw[e];exact ZT _ _
theorem Mh(h:s.Ok)(g:s.mem.length<60000):lr s.mem:=by
 refine⟨Rf.zb _,fun c hc e=>?_,by omega⟩;obtain⟨b,f,d⟩:=Rf.vo hc;have:=(Rf.Jk c).1 (((Rf.Ji b).1 (h.log b f)).2.2 c d);rw[e] at this;exact absurd this.1 (by decide)
theorem jbv(h:Rf.jw l)(key:Str):(l.filter (Rf.qk key)).head?.filter (fun c=>decide (c.key=key))=Rf.x8 l key:=by
 have e:l.filter (Rf.qk key)=l.drop (Rf.below l key):=(Rf.vy h key).symm;rw[e,List.head?_drop,Rf.jbw h]
theorem C3{key:Str}{d:J5}{r:List J5}{S:jc}{T:jc}(h:Rf.jw l)(e:d S=(T,l.filter (Rf.qk key),none)) :
 zy key (d::r) S=(match Rf.x8 l key with|some c=>(T,.inl (some c))|none=>zy key r T):=by
 have b:=jbv h key;rw[bh,e]
 cases hc:l.filter (Rf.qk key)with
 | nil =>
  rw[hc] at b;rw[<-b];rfl
 | cons c q =>
  rw[hc] at b;rw[<-b];by_cases hk:c.key=key
  ·simp[hk,Option.filter]
  ·simp[hk,Option.filter]
end Go.Proofs.YtnipbplghijdmaaGreatDoor
namespace Go.Proofs.YtnipbplghijdmaaGreatDoor
open RowKit Maps WideShapes Go.Proofs.Tryz
abbrev newRow(d:Nat):Array Value:=qv (.pointer (some ⟨d,0,none⟩)) (.int .i64 0) (.int .i64 0) (.int .i64 0) (.int .i64 0) (.slice none 0 0) (.int .i64 0) (.slice none 0 0) false false
theorem Z8(b:Array Value)(w:World):(callFunc 182 b).run prog w = .ok (.enter 182 b) w:=by kernel_rfl
theorem fk(b:Array Value)(w:World):(callFunc 177 b).run prog w = .ok (.enter 177 b) w:=by kernel_rfl
theorem om(b:Array Value)(w:World):(callFunc 129 b).run prog w = .ok (.enter 129 b) w:=by kernel_rfl
end Go.Proofs.YtnipbplghijdmaaGreatDoor

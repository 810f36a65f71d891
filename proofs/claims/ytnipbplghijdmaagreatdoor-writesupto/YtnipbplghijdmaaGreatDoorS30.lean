/-
  S: MakeRunA MakeRunB WellA WholeF StoreW WriteW InstallW FlushW ReadW.
-/
import Derived.Test.YtnipbplghijdmaaGreatDoorS29
import Derived.Test.YtnipbplghijdmaaGreatDoorS28
import Derived.Test.YtnipbplghijdmaaGreatDoorS27
set_option maxRecDepth 100000
set_option maxHeartbeats 8000000
set_option linter.unusedVariables false
set_option linter.unusedSimpArgs false
namespace Go.Proofs.YtnipbplghijdmaaGreatDoor
open RowKit Maps WideShapes Go.Shelf Go.Proofs.Tryz
variable {M n:Nat} {vb vp:Value} {W W' w:World} {X Y:List UInt8}
theorem wrap_u64{x:Int}(c:0<=x)(b:x<=18446744073709551615):IntKind.u64.wrap x=x:=by
 simp[IntKind.wrap,IntKind.bits,IntKind.signed];omega
theorem rr{F:Fence}{P:Program}(w:World){g:Array Oper}{rest:List Oper}{o:Oper}{a:Act}{Q:Exit->Act->World->Prop}(B:o.guard=none)(s x:Operand)(t l:TypeId)(b:o.op=Op.call { callee:=Callee.builtin Builtin.append,args:=#[s,x],argTypes:=#[t,l] })(base:Nat)(e:TypeId)(i:TypeInfo)(z:Value)(size bytes:Nat)(h1:P.underlying t=some (.slice e))(h2:P.info? e=some i)(h3:i.zero=some z)(h4:i.size=size)(h5:i.bytes=bytes)(h6:z.cells.size=size)(h7:0<size)(v:Value)(k:Nat)(xs:List Value)(hs:a.eval s=v)(hown:w.ownsRow base e size v k xs)(u:Value)(m:Nat)(news:List Value)(hx:a.eval x=u)(hsrc:Src P size l u m news w)(b1:k+m<=maxLen)(b2:(k+m)*bytes<=140737488355328)(b3:base<=w.heap.size)(hK:∀(p:Option Addr) (d:Nat) (f:World),f.ownsRow base e size (.slice p (k+m) d) (k+m) (xs++news)->w.grownBy f v.ownBlock->((Value.slice p (k+m) d).ownBlock=v.ownBlock\/(Value.slice p (k+m) d).ownBlock=some w.heap.size)->wpListIn F n P g Q rest (a.put o.dst (.slice p (k+m) d)) f) :
 wpListIn F n P g Q (o::rest) a w:=by
 refine wpListIn_plain B fun K hK'=>?_;obtain⟨v',f,j,r,A,y⟩:=Xs (P:=P) w base t l o.type e i z size bytes h1 h2 h3 h4 h5 h6 h7 v k xs hown u m news hsrc b1 b2 b3;obtain⟨p,d,rfl⟩:=jj r;unfold Oper.wpIn;refine⟨?_,?_⟩
 ·simp[Oper.about,b,resolve,Target.leads,Sem.run_pure]
 ·rw[Oper.semAt_plain F _ _ (by rw[b];intro c q;cases q)]
  simp[execOp,b,resolve,invoke,builtin,hs,hx,j,Result.andThen];exact hK' _ _ (hK p d f r A y)
def P3(n:Nat)(vb vp:Value)(i:Nat):Prop:=i=n\/i=n+1\/i=n+2\/vb.ownBlock=some i\/vp.ownBlock=some i
structure Qq(w:World)(X Y:List UInt8)(M:Nat)(vb vp:Value)(W:World):Prop where
 b3:W.heap[w.heap.size]?=some (.cells #[vb] 84 (0,0))
 b4:W.heap[w.heap.size+1]?=some (.cells #[vp] 84 (0,0))
 b5:W.heap[w.heap.size+2]?=some (.cells #[.int .u64 M] 172 (0,0))
 rb:W.ownsRow w.heap.size 5 1 vb X.length (X.map j6)
 rp:W.ownsRow w.heap.size 5 1 vp Y.length (Y.map j6)
 nb:∀ g,vb.ownBlock=some g->w.heap.size+5<=g
 np:∀ g,vp.ownBlock=some g->w.heap.size+5<=g
 ap:∀ g,vb.ownBlock=some g->¬vp.ownBlock=some g
 kw:ja w W (fun _=>False)
def Ha(n:Nat)(vb vp:Value)(W:World)(vb' vp':Value)(W':World):Prop:=ja W W' (P3 n vb vp)/\∀ i,P3 n vb' vp' i->P3 n vb vp i\/W.heap.size<=i
theorem Ha.trans{g d f c:Value}{l j:World}(h:Ha n vb vp W g d l)(k:Ha n g d l f c j):Ha n vb vp W f c j:=by
 refine⟨h.1.trans k.1 (fun i hi hf=>?_),fun i hf=>?_⟩
 ·rcases h.2 i hf with b|b
  ·exact b
  ·omega
 ·rcases k.2 i hf with b|b
  ·exact h.2 i b
  ·exact .inr (ZF h.1.size b)
theorem Ha.same(k:ja W W' (fun _=>False)):Ha n vb vp W vb vp W':=⟨k.up,fun i h=> .inl h⟩
theorem Qq.same(h:Qq w X Y M vb vp W)(k:ja W W' (fun _=>False)):Qq w X Y M vb vp W' :=
 ⟨k.same h.b3 id,k.same h.b4 id,k.same h.b5 id,k.row h.rb (fun _ _ h=>h),k.row h.rp (fun _ _ h=>h),h.nb,h.np,h.ap,h.kw.tt k⟩
theorem Qq.aside{T:Nat->Prop}(h:Qq w X Y M vb vp W)(k:ja W W' T)(b:∀ i,T i->w.heap.size<=i/\¬P3 w.heap.size vb vp i):Qq w X Y M vb vp W' :=
 ⟨k.same h.b3 (fun t=>(b _ t).2 (.inl rfl)),k.same h.b4 (fun t=>(b _ t).2 (.inr (.inl rfl))),k.same h.b5 (fun t=>(b _ t).2 (.inr (.inr (.inl rfl)))),k.row h.rb (fun g hg t=>(b _ t).2 (.inr (.inr (.inr (.inl hg))))),k.row h.rp (fun g hg t=>(b _ t).2 (.inr (.inr (.inr (.inr hg))))),h.nb,h.np,h.ap,
  h.kw.trans k (fun i hi t=>by have:=(b i t).1;omega)⟩
theorem Qq.places{m:List UInt8}{b:Value}(h:Qq w X Y M vb vp W)(t:w.heap.size+5<=W.heap.size)(g:Grown W vp W' b)(r:W'.ownsRow w.heap.size 5 1 b m.length (m.map j6)) :
 Qq w X m M vb b (W'.setCell ⟨w.heap.size+1,0,none⟩ b)/\Ha w.heap.size vb vp W vb b (W'.setCell ⟨w.heap.size+1,0,none⟩ b):=by
 obtain⟨o,k⟩:=g;have l:=ja.setCell W' ⟨w.heap.size+1,0,none⟩ b
 have f:∀ q,b.ownBlock=some q->vp.ownBlock=some q\/W.heap.size<=q:=fun q hq=>by
  rcases o with e|⟨s,e,j⟩
  ·exact .inl (e▸hq)
  ·rw[hq] at e;cases e;exact .inr j
 have lo:∀ i,i<w.heap.size+5->¬some i=vp.ownBlock:=fun i hi e=>by have:=h.np i e.symm;omega
 have n:=k.same h.b4 (lo _ (by omega))
 refine⟨⟨l.same (k.same h.b3 (lo _ (by omega))) (by show ¬w.heap.size=w.heap.size+1;omega),(jc n _).trans rfl,l.same (k.same h.b5 (lo _ (by omega))) (by show ¬w.heap.size+2=w.heap.size+1;omega),
  l.row (k.row h.rb (fun q hq e=>h.ap q hq e.symm)) (fun q hq e=>by have:=h.nb q hq;have p:q=w.heap.size+1:=e;omega),l.row r (fun q hq e=>?_),h.nb,fun q hq=>?_,fun q hq j=>?_,?_⟩,?_,?_⟩
 ·have p:q=w.heap.size+1:=e
  rcases f q hq with c|c
  ·have:=h.np q c;omega
  ·omega
 ·rcases f q hq with c|c
  ·exact h.np q c
  ·omega
 ·rcases f q j with c|c
  ·exact h.ap q hq c
  ·have:=(h.rb.lt q hq).2;omega
 ·exact(h.kw.trans k (fun i hi e=>by have:=h.np i e.symm;omega)).Xd (by show w.heap.size<=w.heap.size+1;omega) _
 ·exact(k.mono (fun i _ e=> .inr (.inr (.inr (.inr e.symm))))).trans l (fun i _ e=> .inr (.inl e))
 ·rintro i (d|d|d|d|d)
  ·exact .inl (.inl d)
  ·exact .inl (.inr (.inl d))
  ·exact .inl (.inr (.inr (.inl d)))
  ·exact .inl (.inr (.inr (.inr (.inl d))))
  ·rcases f i d with c|c
   ·exact .inl (.inr (.inr (.inr (.inr c))))
   ·exact .inr c
theorem Qq.blocks{X':List UInt8}{b:Value}(h:Qq w X Y M vb vp W)(s:w.heap.size+5<=W.heap.size)(g:Grown W vb W' b)(r:W'.ownsRow w.heap.size 5 1 b X'.length (X'.map j6)) :
 Qq w X' Y M b vp (W'.setCell ⟨w.heap.size,0,none⟩ b)/\Ha w.heap.size vb vp W b vp (W'.setCell ⟨w.heap.size,0,none⟩ b):=by
 obtain⟨n,k⟩:=g;have l:=ja.setCell W' ⟨w.heap.size,0,none⟩ b
 have f:∀ q,b.ownBlock=some q->vb.ownBlock=some q\/W.heap.size<=q:=fun q hq=>by
  rcases n with e|⟨p,e,j⟩
  ·exact .inl (e▸hq)
  ·rw[hq] at e;cases e;exact .inr j
 have lo:∀ i,i<w.heap.size+5->¬some i=vb.ownBlock:=fun i hi e=>by have:=h.nb i e.symm;omega
 have m:=k.same h.b3 (lo _ (by omega))
 refine⟨⟨(jc m _).trans rfl,l.same (k.same h.b4 (lo _ (by omega))) (by show ¬w.heap.size+1=w.heap.size;omega),l.same (k.same h.b5 (lo _ (by omega))) (by show ¬w.heap.size+2=w.heap.size;omega),
  l.row r (fun q hq e=>?_),l.row (k.row h.rp (fun q hq e=>h.ap q e.symm hq)) (fun q hq e=>by have:=h.np q hq;have o:q=w.heap.size:=e;omega),fun q hq=>?_,h.np,fun q hq j=>?_,?_⟩,?_,?_⟩
 ·have o:q=w.heap.size:=e
  rcases f q hq with c|c
  ·have:=h.nb q c;omega
  ·omega
 ·rcases f q hq with c|c
  ·exact h.nb q c
  ·omega
 ·rcases f q hq with c|c
  ·exact h.ap q c j
  ·have:=(h.rp.lt q j).2;omega
 ·exact(h.kw.trans k (fun i hi e=>by have:=h.nb i e.symm;omega)).Xd (by show w.heap.size<=w.heap.size;omega) _
 ·exact(k.mono (fun i _ e=> .inr (.inr (.inr (.inl e.symm))))).trans l (fun i _ e=> .inl e)
 ·rintro i (d|d|d|d|d)
  ·exact .inl (.inl d)
  ·exact .inl (.inr (.inl d))
  ·exact .inl (.inr (.inr (.inl d)))
  ·rcases f i d with c|c
   ·exact .inl (.inr (.inr (.inr (.inl c))))
   ·exact .inr c
  ·exact .inl (.inr (.inr (.inr (.inr d))))
theorem Qq.counted{N:Nat}(h:Qq w X Y M vb vp W):Qq w X Y N vb vp (W.setCell ⟨w.heap.size+2,0,none⟩ (.int .u64 N))/\Ha w.heap.size vb vp W vb vp (W.setCell ⟨w.heap.size+2,0,none⟩ (.int .u64 N)):=by
 have b:=ja.setCell W ⟨w.heap.size+2,0,none⟩ (.int .u64 N)
 refine⟨⟨b.same h.b3 (by show ¬w.heap.size=w.heap.size+2;omega),b.same h.b4 (by show ¬w.heap.size+1=w.heap.size+2;omega),(jc h.b5 _).trans rfl,
  b.row h.rb (fun q hq e=>by have:=h.nb q hq;have c:q=w.heap.size+2:=e;omega),b.row h.rp (fun q hq e=>by have:=h.np q hq;have c:q=w.heap.size+2:=e;omega),h.nb,h.np,h.ap,h.kw.Xd (by show w.heap.size<=w.heap.size+2;omega) _⟩,?_,fun i hi=> .inl hi⟩
 exact b.mono (fun i _ e=> .inr (.inr (.inl e)))
end Go.Proofs.YtnipbplghijdmaaGreatDoor
namespace Go.Proofs.YtnipbplghijdmaaGreatDoor
open RowKit Maps WideShapes Go.Shelf Go.Proofs.Tryz
attribute [local go_sem] Oper.semAt_some
theorem Z6(b:Array Value)(w:World):(callFunc 106 b).run prog w = .ok (.enter 106 b) w:=by kernel_rfl
theorem Xz(b:Array Value)(w:World):(callFunc 107 b).run prog w = .ok (.enter 107 b) w:=by kernel_rfl
theorem Xq(b:Array Value)(w:World):(callFunc 105 b).run prog w = .ok (.enter 105 b) w:=by kernel_rfl
theorem Bu(b o c:Nat)(l:List Rf.Ch)(w:World)(hv:Chs w (.slice (some ⟨b,o,none⟩) l.length c) l)(cc:l≠[])(dh:∀ c∈l,Rf.allowed c=true)(hl:l.length<65536) :
 Calls prog 116 #[.slice (some ⟨b,o,none⟩) l.length c] w fun e w'=>∃ p c',e = .returned (.slice p (Rf.jn l).length c')/\w'.ownsRow w.heap.size 5 1 (.slice p (Rf.jn l).length c') (Rf.jn l).length ((Rf.jn l).map j6)/\ja w w' (fun _=>False):=by
 have h5:b<w.heap.size:=hv.lt cc;obtain⟨j0,hj,c6,c2,c0⟩:=info_parts Tryz.ou;have HV:=jb hv;have U:=jb dh;have ht:=jb cc;clear hv dh cc;refine(callsIn_wide (n:=9)).1 ?_;refine callsIn_of_wp_marks func116 rfl trivial ?_ rfl;simp only[ntmps116,xP,zX,xU,Nat.reduceAdd,Nat.reduceSub,xV,xW,xX,xY,xZ,xE]
 gi_wp2_with fail
 refine⟨trivial,(callsIn_wide.2 (Wu _ _ rfl)).mono ?_⟩;rintro e W0 ⟨rfl,F⟩;have kW:ja w W0 (fun _=>False):=by rw[F];exact(((((ja.alloc w _ _).more _).more _).more _).more _)
 have gs:W0.heap.size=w.heap.size+5:=by rw[F];simp
 have top:∀(V:World) (x:Obj) (k:Nat),V.heap.size=k->(V.alloc x).heap[k]?=some x:=fun V x k e=>by rw[<-e];exact je V x
 have b3:W0.heap[w.heap.size]?=some (.cells #[.slice none 0 0] 84 (0,0)):=by
  rw[F];exact(((((ja.alloc _ _ (fun _=>False)).more _).more _).more _)).same (top w _ _ rfl) id
 have b4:W0.heap[w.heap.size+1]?=some (.cells #[.slice none 0 0] 84 (0,0)):=by
  rw[F];exact((((ja.alloc _ _ (fun _=>False)).more _).more _)).same (top _ _ _ (by simp)) id
 have b5:W0.heap[w.heap.size+2]?=some (.cells #[.int .u64 0] 172 (0,0)):=by
  rw[F];exact(((ja.alloc _ _ (fun _=>False)).more _)).same (top _ _ _ (by simp)) id
 have b6:W0.heap[w.heap.size+1+1+1]?=some (.cells #[.slice (some ⟨b,o,none⟩) l.length c] 38 (0,0)):=by
  rw[F];exact(ja.alloc _ _ (fun _=>False)).same (top _ _ _ (by simp)) id
 have b7:W0.heap[w.heap.size+1+1+1+1]?=some (.cells #[.int .i64 4] 3 (0,0)):=by
  rw[F];exact top _ _ _ (by simp)
 clear F;have dp:jc6 b o c (w.heap.size+1+1+1) (w.heap.size+1+1+1+1) l W0:=⟨HV.out.same kW,b6,b7⟩;have du:Qq w (Rf.qh l 0) (Rf.x9 l 0) 0 (.slice none 0 0) (.slice none 0 0) W0:=⟨b3,b4,b5,zS _ _ _ _,zS _ _ _ _,fun g u=>(by cases u),fun g u=>(by cases u),fun g u=>(by cases u),kW⟩;clear b3 b4 b5 b6 b7;have ct:=jb dp;have fm:=jb du;clear dp du
 gi_wp2
 refine aw rfl (by decide) (gf:=195) (rv:=#[]) (lb:=#[.pointer (some ⟨w.heap.size+1+1+1,0,none⟩),.pointer (some ⟨w.heap.size+1+1+1+1,0,none⟩)]) rfl trivial Cv
  (Cw b o c (w.heap.size+1+1+1) (w.heap.size+1+1+1+1) l (by omega)) (fun _=>rfl) (fun _ h=>h.elim) (fun i h=>by rcases h with h|h|h<;>omega)
  (fun W1 k=>⟨ct.out.1.same k,k.same ct.out.2.1 id,k.same ct.out.2.2 id⟩)
  (fun a1 C W=>∃(m:Nat) (vb vp:Value),a1=List.range m/\Hid (4*m<l.length+4)/\Qq w (Rf.qh l m) (Rf.x9 l m) m vb vp W/\(∀ i,C i↔P3 w.heap.size vb vp i))
  (fun _ _ _ _=>False)
  ?hI ?hIx (fun i=>i=w.heap.size\/i=w.heap.size+1\/i=w.heap.size+2) ?hC0 ?h0 ?round ?done ?stop
 case hI =>
  rintro a1 C A B' ⟨m,vb,vp,e,h4,hM,hC⟩ hk;refine⟨m,vb,vp,e,h4,hM.aside hk (fun i h=>?_),hC⟩;rcases h with h|⟨h1,h2⟩
  ·exact h.elim
  ·exact⟨by omega,fun hf=>h2 ((hC i).2 hf)⟩
 case hIx =>
  rintro c a1 C A B' lp r h;exact h.elim
 case hC0 =>
  rintro i (h|h|h)
  all_goals exact⟨by omega,id,fun hn=>by rcases hn with hn|hn|hn<;>omega⟩
 case h0=>exact⟨0,_,_,rfl,(show 4*0<l.length+4 from by omega),fm.out,fun i=>by simp[P3,Value.ownBlock]⟩
 case round =>
  rintro lp a1 x C W f9 ⟨rl,a3⟩ di h6 ⟨m,vb,vp,rfl,e8,hM,hC⟩ ⟨e,dd⟩;have gy:=zC a3
  obtain rfl:m=x:=by
   have:=congrArg List.length e;simpa using this
  have L:=jb dd;clear e dd;dsimp only[jf1]
  gi_wp2
  refine⟨ja.refl _ _,?_⟩;intro W2 k2 _;have y:Qq w (Rf.qh l m) (Rf.x9 l m) m vb vp W2:=hM.aside k2 (fun i e=>⟨by have e':i=lp:=e;omega,fun hf=>di (by have e':i=lp:=e;rw[<-e'];exact(hC i).2 hf)⟩);have dn:w.heap.size+5<=W2.heap.size:=by have:=k2.size;omega
  have HC:=jb hC;have ch:=Rf.Qk U.out m;have cg:=Rf.Xp U.out m e8.out;have f8:m<20000:=by have:=e8.out;omega
  have ks:Hid ((Rf.qh l m).length<1099511627776/\(Rf.x9 l m).length<1099511627776):=(show _/\_ from⟨by omega,by omega⟩);have db:Hid ((Rf.x9 l m).length<1099511620000):=jb (by omega);clear hC hM ch cg;obtain⟨X,hX⟩:∃ X,X=Rf.qh l m:=⟨_,rfl⟩;obtain⟨Y,hY⟩:∃ Y,Y=Rf.x9 l m:=⟨_,rfl⟩;rw[<-hX,<-hY] at y ks;rw[<-hY] at db;have e6:=jb hX;have fi:=jb hY;clear hX hY;have c3:=zA (o:=0) y.b3;have c4:=zA (o:=0) y.b4;have f4:=zB (o:=0) y.b4;simp at c3 c4;obtain⟨pb,cb,rfl⟩:=jj y.rb;have fe:IntKind.u64.wrap (X.length:Int)=(X.length:Int):=wrap_u64 (by omega) (by have:=ks.out;omega)
  gi_wp2_with fail
  refine⟨trivial,((callsIn_wide.2 (yz vp Y.length Y X.length 4 w.heap.size W2 rfl (by have:=ks.out;omega) (by decide) ks.out.2 (by omega) y.rp)).inRound lp).mono ?_⟩;rintro e W3 ⟨p3,J,rfl,a6,au⟩;have a8:(Y++Rf.big X.length 4).length=Y.length+4:=by rw[ZY,Rf.ji]
  rw[<-a8] at a6 au;obtain⟨cl,cj⟩:=y.places dn au a6;rw[a8] at cl cj;have aa:=jb cl;have cr:=jb cj;have ho:=au.keeps.cell c4 (fun e=>by have:=y.np _ e.symm;simp at this);have hb:=zB (o:=0) (au.keeps.same y.b4 (fun e=>by have:=y.np _ e.symm;omega));clear cl cj
  gi_wp2
  obtain⟨Z,bo⟩:∃ Z,Z=W3.setCell ⟨w.heap.size+1,0,none⟩ (.slice p3 (Y.length+4) J):=⟨_,rfl⟩;rw[<-bo] at aa cr ⊢;have f5:Qg l.length (4*m)<=4/\1<=Qg l.length (4*m):=by have:=L.out;unfold Qg;omega
  have bl:Z.cell? ⟨b,o+4*m*3,none⟩=some (jd (Rf.zq (partAt l (4*m)))):=by
   have:=L.out;have ce:=HV.out.same aa.out.kw;obtain⟨b',o',e,e0,_⟩:=ce.at (k:=4*m) L.out;cases e;rw[e0];unfold partAt Rf.zq;rw[List.head?_take,List.head?_drop,zL L.out];rfl
  obtain⟨q,hq⟩:∃ q,q=Qg l.length (4*m):=⟨_,rfl⟩;obtain⟨FK,ax⟩:∃ FK,FK=Rf.zq (partAt l (4*m)):=⟨_,rfl⟩;rw[<-ax] at bl;have fn:=jb ax;have HQ:=jb hq;have de:Uc b o l.length (4*m) = .slice (some ⟨b,o+4*m*3,none⟩) q q:=by rw[hq];rfl
  have gv:(0:Int)<(q:Int):=by omega
  have gu:0<q:=by omega
  rw[de];have d4:=zA (o:=0) aa.out.b4;have g4:=zB (o:=0) aa.out.b4;simp at d4;have fg:Z.drew.cell? ⟨w.heap.size+1,0,none⟩=some (.slice p3 (Y.length+4) J):=d4;have fr:Z.drew.cell? ⟨b,o+4*m*3,none⟩=some (jd FK):=bl
  have gg:FK.length<=16:=by
   rw[ax];unfold Rf.zq
   cases hh:(partAt l (4*m)).head? with
   | none=>simp
   | some x =>
    have f3:x∈partAt l (4*m):=List.mem_of_mem_head? hh;have hx:=(Rf.xz x).1 (U.out x (xS (ZH f3)));simp;omega
  have H:=jb (aa.out.same (ja.drew Z _));have h8:w.heap.size+5<=Z.heap.size:=ZF dn cr.out.1.size;have bg:=Yr (.slice p3 (Y.length+4) J) (Y.length+4) (Y++Rf.big X.length 4) FK w.heap.size Z.drew a8 (by have:=db.out;omega) (by omega) (by show w.heap.size<=Z.heap.size;omega) (by have:=H.out.rp;rw[a8] at this;exact this);have ef:=jb bg;clear bg hq ax f5 bo;refine mg (by kernel_rfl) (by kernel_rfl) (fun h=>?_) ?_
  ·obtain⟨_,_,h⟩:=h
   exact h
  refine wpAny_take (i:=1) (v:=?_) rfl (by kernel_rfl) (by kernel_rfl) (by kernel_rfl) (fun _ _ _ h=>h) (Or.inl ⟨by rfl,?_⟩) ?_
  rotate_left
  ·intro w
   go_simp;with_reducible rfl
  refine wpAny_take (i:=2) (v:=?_) rfl (by kernel_rfl) (by kernel_rfl) (by kernel_rfl) (fun _ _ _ h=>h) (Or.inl ⟨by rfl,?_⟩) ?_
  rotate_left
  ·intro w
   go_simp;with_reducible rfl
  refine wpAny_take (i:=3) (v:=?_) rfl (by kernel_rfl) (by kernel_rfl) (by kernel_rfl) (fun _ _ _ h=>h) (Or.inl ⟨by rfl,?_⟩) ?_
  rotate_left
  ·intro w
   go_simp;with_reducible rfl
  refine wpAny_ready (rs:=[0,4]) (by kernel_rfl) (by simp) ?_;refine AllReady.cons rfl (fun K d=>?_) (AllReady.cons rfl (fun K d=>?_) AllReady.nil)
  all_goals
   go_simp;refine d _ _ ?_;clear d K
  refine wpAny_ready (rs:=[4]) (by kernel_rfl) (by simp) ?_
  rotate_left
  refine wpAny_ready (rs:=[0]) (by kernel_rfl) (by simp) ?_
  all_goals
   refine AllReady.cons rfl (fun K d=>?_) AllReady.nil;go_simp;refine d _ _ ?_;clear d K;refine wpAny_ready (rs:=[5]) (by kernel_rfl) (by simp) ?_;refine AllReady.cons rfl (fun K d=>?_) AllReady.nil;refine jr rfl 163 [.tmp 17,.tmp 21] _ rfl Xa [.slice p3 (Y.length+4) J,jd FK] (by simp[Act.eval,Act.put]) ef.out ?_;rintro e W5 ⟨p5,T,rfl,a4,E⟩;refine⟨_,rfl,d _ _ ?_⟩;clear d K;have dj:(Y++Rf.big X.length 4++Rf.text FK).length=Y.length+4+1+FK.length:=by rw[ZY,a8];simp[Rf.text,Rf.ji];omega
   rw[<-dj] at a4 E;obtain⟨ck,ci⟩:=H.out.places (by show w.heap.size+5<=Z.heap.size;omega) E a4;have he:=E.keeps.cell fg (fun e=>by have:=H.out.np _ e.symm;simp at this);have ha:=zB (o:=0) (E.keeps.same H.out.b4 (fun e=>by have:=H.out.np _ e.symm;omega));rw[dj] at ck ci;have b9:=jb ck;have b2:=jb (cr.out.trans ((Ha.same (ja.drew Z _)).trans ci));clear ck ci;refine wpAny_ready (rs:=[6]) (by kernel_rfl) (by simp) ?_;refine AllReady.cons rfl (fun K d=>?_) AllReady.nil;go_simp;refine d _ _ ?_;clear d K;refine wpAny_done (by kernel_rfl) ?_ _;obtain⟨W6,bn⟩:∃ W6,W6=W5.setCell ⟨w.heap.size+1,0,none⟩ (.slice p5 (Y.length+4+1+FK.length) T):=⟨_,rfl⟩;rw[<-bn] at b9 b2 ⊢;clear bn;have av:=ja.drew W6 (fun _=>False);have e3:=zA (o:=0) b9.out.b3;simp at e3;have dw:W6.drew.cell? ⟨w.heap.size,0,none⟩=some (.slice pb X.length cb):=e3;obtain⟨PT,a9⟩:∃ PT,PT=partAt l (4*m):=⟨_,rfl⟩;have ae:PT.length=q:=by rw[a9,fp,HQ.out]
   have ad:∀ c∈PT,Rf.allowed c=true:=fun c hc=>U.out c (by rw[a9] at hc;exact xS (ZH hc));have ak:∀ c∈PT,c.key.length<1048576/\c.value.length<1048576:=fun c hc=>by have:=(Rf.xz c).1 (ad c hc);omega
   obtain⟨f,ay⟩:∃ f,f=Rf.big PT.length 1++PT.flatMap Rf.entry:=⟨_,rfl⟩;have af:f.length=0+1+(PT.flatMap Rf.entry).length:=by rw[ay,ZY,Rf.ji]
   have bq:f.length<1000:=by have:=Rf.Jf ad;have h4:PT.length<=4:=(by rw[ae,HQ.out];unfold Qg;omega);omega
   have bm:∀ V,ja W6 V (fun _=>False)->Calls prog 106 #[.slice none 0 0,.slice (some ⟨b,o+4*m*3,none⟩) q q] V fun e w'=>∃ p c,e = .returned (.slice p f.length c)/\w'.ownsRow V.heap.size 5 1 (.slice p f.length c) f.length (f.map j6)/\ja V w' (fun _=>False):=fun V k=>by
    have ce:Chs V (.slice (some ⟨b,o+4*m*3,none⟩) q q) PT:=by
     have:=(HV.out.same (b9.out.kw.tt k)).part (4*m);rw[de,<-a9] at this;exact this
    refine(eo (.slice none 0 0) _ 0 [] PT V.heap.size V rfl (by decide) (by rw[ae,HQ.out];unfold Qg;omega) ak (xA _) (zS _ _ _ _) ce (fun _ p n c e h=>by cases h)).mono ?_;rintro e w' ⟨p,cp,rfl,hr,u⟩;rw[<-af,xZ,<-ay] at hr;rw[<-af];exact⟨p,cp,rfl,hr,u.new rfl⟩
   have bu:=jb bm;have fq:=jb ay;have fk:=jb a9;have I:=jb bq;clear bm ay a9 af bq ae ad ak
   gi_wp2
   refine mg (by kernel_rfl) (by kernel_rfl) (fun h=>?_) ?_
   ·obtain⟨_,_,h⟩:=h
    exact h
   refine wpAny_take (i:=1) (v:=?_) rfl (by kernel_rfl) (by kernel_rfl) (by kernel_rfl) (fun _ _ _ h=>h) (Or.inl ⟨by rfl,?_⟩) ?_
   rotate_left
   ·intro w
    go_simp;with_reducible rfl
   refine wpAny_ready (rs:=[0,2]) (by kernel_rfl) (by simp) ?_;refine AllReady.cons rfl (fun K d=>?_) (AllReady.cons rfl (fun K d=>?_) AllReady.nil)
   rotate_left
   refine jr rfl 106 [.const (.slice none 0 0),.tmp 24] _ rfl Z6 [.slice none 0 0,.slice (some ⟨b,o+4*m*3,none⟩) q q] (by simp[Act.eval,Act.put]) (bu.out _ av) ?_;rintro e W7 ⟨p7,b1,rfl,ar,k7⟩;refine⟨_,rfl,d _ _ ?_⟩;clear d K;have aq:=av.tt k7;have az:=k7.cell dw id;refine wpAny_ready (rs:=[0,3]) (by kernel_rfl) (by simp) ?_;refine AllReady.cons rfl (fun K d=>?_) (AllReady.cons rfl (fun K d=>?_) AllReady.nil);rotate_right;go_simp;refine d _ _ ?_;clear d K;refine wpAny_ready (rs:=[2]) (by kernel_rfl) (by simp) ?_;refine AllReady.cons rfl (fun K d=>?_) AllReady.nil;refine jr rfl 106 [.const (.slice none 0 0),.tmp 24] _ rfl Z6 [.slice none 0 0,.slice (some ⟨b,o+4*m*3,none⟩) q q] (by simp[Act.eval,Act.put]) (bu.out _ av) ?_;rintro e W7 ⟨p7,b1,rfl,ar,k7⟩;refine⟨_,rfl,d _ _ ?_⟩;clear d K;have aq:=av.tt k7;have az:=k7.cell dw id;refine wpAny_ready (rs:=[3]) (by kernel_rfl) (by simp) ?_;refine AllReady.cons rfl (fun K d=>?_) AllReady.nil;refine jr rfl 105 [.tmp 25] _ rfl Xq [.slice p7 f.length b1] (by simp[Act.eval,Act.put]) (gw _ f W7 (xj ar) (by have:=I.out;omega)) ?_;rintro e W8 ⟨p8,b0,rfl,c8,k8⟩;refine⟨_,rfl,d _ _ ?_⟩;clear d K;have R:=aq.tt k8;have cq:=k8.cell az id
   rotate_left
   go_simp;refine d _ _ ?_;clear d K;refine wpAny_ready (rs:=[3]) (by kernel_rfl) (by simp) ?_;refine AllReady.cons rfl (fun K d=>?_) AllReady.nil;refine jr rfl 105 [.tmp 25] _ rfl Xq [.slice p7 f.length b1] (by simp[Act.eval,Act.put]) (gw _ f W7 (xj ar) (by have:=I.out;omega)) ?_;rintro e W8 ⟨p8,b0,rfl,c8,k8⟩;refine⟨_,rfl,d _ _ ?_⟩;clear d K;have R:=aq.tt k8;have cq:=k8.cell az id
   rotate_left
   refine jr rfl 105 [.tmp 25] _ rfl Xq [.slice p7 f.length b1] (by simp[Act.eval,Act.put]) (gw _ f W7 (xj ar) (by have:=I.out;omega)) ?_;rintro e W8 ⟨p8,b0,rfl,c8,k8⟩;refine⟨_,rfl,d _ _ ?_⟩;clear d K;have R:=aq.tt k8;have cq:=k8.cell az id;refine wpAny_ready (rs:=[0]) (by kernel_rfl) (by simp) ?_;refine AllReady.cons rfl (fun K d=>?_) AllReady.nil;go_simp;refine d _ _ ?_;clear d K
   all_goals
    have dt:=b9.out.same R;have ff:(X++Rf.frame f).length=X.length+(8+f.length):=by rw[ZY];simp[Rf.frame,Rf.ji];omega
    have S:(Rf.frame f).length=8+f.length:=by simp[Rf.frame,Rf.ji];omega
    have bh:W8.ownsRow W7.heap.size 5 1 (.slice p8 (Rf.frame f).length b0) (Rf.frame f).length ((Rf.frame f).map j6):=by rw[S];exact c8
    have t:=(xj bh).src;rw[S] at t;have ag:=jb t;have ab:=jb dt;have co:Hid (X.length+(8+f.length)<=maxLen):=jb (by have:=ks.out;have:=I.out;unfold maxLen;omega);have cf:Hid ((X.length+(8+f.length))*1<=140737488355328):=jb (by have:=ks.out;have:=I.out;omega);have M:w.heap.size<=W8.heap.size:=by have:=R.size;have:=b2.out.1.size;omega
    clear t bh dt;refine wpAny_ready (rs:=[4]) (by kernel_rfl) (by simp) ?_;refine AllReady.cons rfl (fun K d=>?_) AllReady.nil;refine Xo rfl (.tmp 23) (.tmp 26) 84 84 rfl w.heap.size 5 j0 (.int .u8 0) 1 1 underlying84 hj c6 c2 c0 rfl xD (.slice pb X.length cb) X.length (X.map j6) (by simp[Act.eval,Act.put]) ab.out.rb (.slice p8 (8+f.length) b0) (8+f.length) ((Rf.frame f).map j6) (by simp[Act.eval,Act.put]) ag.out co.out cf.out M ?_;intro p9 dy W9 c7 fc fa;refine d _ _ ?_;clear d K;have ac:Grown W8 (.slice pb X.length cb) W9 (.slice p9 (X.length+(8+f.length)) dy):=Grown.grown fc fa;have hp:=ac.keeps.cell cq (fun e=>by have h':w.heap.size+5<=w.heap.size:=ab.out.nb _ e.symm;omega);have hd:=zB (o:=0) (ac.keeps.same ab.out.b3 (fun e=>by have:=ab.out.nb _ e.symm;omega));rw[<-ZA] at c7;obtain⟨ds,dm⟩:=ab.out.blocks (X':=X++Rf.frame f) (by have:=R.size;have:=b2.out.1.size;omega) ac (by rw[ff];exact c7);have b8:=jb ds;have e7:=jb (b2.out.trans ((Ha.same R).trans dm));clear ds dm c7;refine wpAny_ready (rs:=[5]) (by kernel_rfl) (by simp) ?_;refine AllReady.cons rfl (fun K d=>?_) AllReady.nil;go_simp;refine d _ _ ?_;clear d K;refine wpAny_done (by kernel_rfl) ?_ _;obtain⟨WA,dl⟩:∃ WA,WA=W9.setCell ⟨w.heap.size,0,none⟩ (.slice p9 (X.length+(8+f.length)) dy):=⟨_,rfl⟩;rw[<-dl] at b8 e7 ⊢;clear dl;have a5:=zA (o:=0) b8.out.b5;have g5:=zB (o:=0) b8.out.b5;simp at a5;have hs:WA.cell? ⟨w.heap.size+1+1,0,none⟩=some (.int .u64 m):=a5;have h9:WA.frozen? ⟨w.heap.size+1+1,0,none⟩=false:=g5;have gx:IntKind.u64.wrap ((m:Int)+1)=((m+1:Nat):Int):=by rw[wrap_u64 (by omega) (by omega)];omega
    obtain⟨dr,dk⟩:=b8.out.counted (N:=m+1);have G:=jb dr;have cs:=jb (e7.out.trans dk);clear dr dk
    gi_wp2
    have ec:((m+1:Nat):Int)=(m:Int)+1:=by omega
    rw[ec] at G cs;have e1:X++Rf.frame f=Rf.qh l (m+1):=by rw[Rf.fx l m L.out,e6.out,fq.out,fk.out];rfl
    have e2:Y++Rf.big X.length 4++Rf.text FK=Rf.x9 l (m+1):=by rw[Rf.Xh l m L.out,e6.out,fi.out,fn.out];rfl
    rw[e1,e2] at G;refine⟨P3 w.heap.size _ _,fun i hi=>?_,fun i hi=>?_,cs.out.1.mono (fun i _ h=>(HC.out i).2 h),m+1,_,_,List.range_succ.symm,(show 4*(m+1)<l.length+4 from by have:=L.out;omega),G.out,fun _=>Iff.rfl⟩
    ·rcases cs.out.2 i hi with h|h
     ·exact .inl ((HC.out i).2 h)
     ·have:=k2.size
      exact .inr (by omega)
    ·rcases hi with h|h|h|h|h
     ·rw[h];exact zC G.out.b3
     ·rw[h];exact zC G.out.b4
     ·rw[h];exact zC G.out.b5
     ·exact(G.out.rb.lt i h).2
     ·exact(G.out.rp.lt i h).2
 case done =>
  rintro D lp C xs W2 W hD f9 ge f6 di z hk ⟨m,vb,vp,e,h4,hM,hC⟩ d
  have hm:m=(l.length+3)/4:=by
   have hf:xs=List.range ((l.length+3)/4):=z;rw[hf] at e;have:=congrArg List.length e;simpa using this.symm
  clear e z;have ch:=Rf.Qk U.out m;have cg:=Rf.Xp U.out m h4.out;have f8:m<20000:=by omega
  have z:Rf.jn l=(Rf.qh l m++Rf.frame (Rf.big m 2++Rf.x9 l m))++Rf.big (Rf.qh l m).length 4:=by rw[Rf.dq l,hm]
  have ks:Hid ((Rf.qh l m).length<4900000/\(Rf.x9 l m).length<420000):=(show _/\_ from⟨by omega,by omega⟩);have dv:¬P3 w.heap.size vb vp D:=fun h=>f6 ((hC D).2 h);have fo:=jb dv;have HC:=jb hC;obtain⟨X,hX⟩:∃ X,X=Rf.qh l m:=⟨_,rfl⟩;obtain⟨Y,hY⟩:∃ Y,Y=Rf.x9 l m:=⟨_,rfl⟩;rw[<-hX,<-hY] at hM ks z;have bt:=jb z;have HM:=jb hM;have e9:=jb d;clear ch cg hm hX hY hC dv z hM d hk h4;obtain⟨pb,cb,rfl⟩:=jj HM.out.rb;obtain⟨pp,dx,rfl⟩:=jj HM.out.rp;obtain⟨s,cn⟩:∃ s,s=Rf.big m 2++Y:=⟨_,rfl⟩;have bp:s.length=2+Y.length:=by rw[cn,ZY,Rf.ji]
  have cv:=jb cn;have B:=jb bp;clear cn bp;have c3:=zA (o:=0) HM.out.b3;have c4:=zA (o:=0) HM.out.b4;have c5:=zA (o:=0) HM.out.b5;simp at c3 c4 c5;have c5:W.drew.cell? ⟨w.heap.size+1+1,0,none⟩=some (.int .u64 m):=c5;have c4:W.drew.cell? ⟨w.heap.size+1,0,none⟩=some (.slice pp Y.length dx):=c4;have kc:ja W W.drew (fun _=>False):=ja.drew W _;have h7:w.heap.size+5<=W.heap.size:=by have:=zC e9.out;omega
  have bk:∀ V,ja W V (fun _=>False)->Calls prog 107 #[.slice none 0 0,.int .u64 m,.int .i64 2] V fun e w'=>∃ p c,e = .returned (.slice p 2 c)/\w'.ownsRow W.heap.size 5 1 (.slice p 2 c) 2 ((Rf.big m 2).map j6)/\ja V w' (fun _=>False):=fun V k=>by
   refine(yz (.slice none 0 0) 0 [] m 2 W.heap.size V rfl (by omega) (by decide) (by decide) k.size (zS _ _ _ _)).mono ?_;rintro e w' ⟨p,cp,rfl,hr,u⟩;exact⟨p,cp,rfl,hr,u.new rfl⟩
  have ah:=jb bk;have co:Hid (2+Y.length<=maxLen):=jb (by have:=ks.out;unfold maxLen;omega);have cf:Hid ((2+Y.length)*1<=140737488355328):=jb (by have:=ks.out;omega);have f7:Hid (s.length<1099511627776):=jb (by have:=ks.out;have:=B.out;omega);clear bk
  gi_wp2
  refine wpIn_wide.2 ?_;refine wp_region_any (by kernel_rfl) ?_;change wpAny _ _ _ _ _ _ _ (World.drew _);refine wpAny_ready (rs:=[0,2]) (by kernel_rfl) (by simp) ?_;refine AllReady.cons rfl (fun K d=>?_) (AllReady.cons rfl (fun K d=>?_) AllReady.nil);go_simp;refine d _ _ ?_;clear d K;refine wpAny_ready (rs:=[1,2]) (by kernel_rfl) (by simp) ?_;refine AllReady.cons rfl (fun K d=>?_) (AllReady.cons rfl (fun K d=>?_) AllReady.nil);refine jr rfl 107 [.const (.slice none 0 0),.tmp 30,.const (.int .i64 2)] _ rfl Xz [.slice none 0 0,.int .u64 m,.int .i64 2] (by simp[Act.eval,Act.put]) (ah.out _ kc) ?_;rintro e V1 ⟨p1,c1,rfl,a7,k1⟩;have e5:=k1.cell c4 id;have a2:=kc.tt k1;refine⟨_,rfl,d _ _ ?_⟩;clear d K;refine wpAny_ready (rs:=[2]) (by kernel_rfl) (by simp) ?_;refine AllReady.cons rfl (fun K d=>?_) AllReady.nil;go_simp;refine d _ _ ?_;clear d K
  rotate_left
  go_simp;refine d _ _ ?_;clear d K;refine wpAny_ready (rs:=[1]) (by kernel_rfl) (by simp) ?_;refine AllReady.cons rfl (fun K d=>?_) AllReady.nil;refine jr rfl 107 [.const (.slice none 0 0),.tmp 30,.const (.int .i64 2)] _ rfl Xz [.slice none 0 0,.int .u64 m,.int .i64 2] (by simp[Act.eval,Act.put]) (ah.out _ kc) ?_;rintro e V1 ⟨p1,c1,rfl,a7,k1⟩;have e5:=k1.cell c4 id;have a2:=kc.tt k1;refine⟨_,rfl,d _ _ ?_⟩;clear d K
  rotate_left
  go_simp;refine d _ _ ?_;clear d K;refine wpAny_ready (rs:=[0]) (by kernel_rfl) (by simp) ?_;refine AllReady.cons rfl (fun K d=>?_) AllReady.nil;go_simp;refine d _ _ ?_;clear d K;refine wpAny_ready (rs:=[1]) (by kernel_rfl) (by simp) ?_;refine AllReady.cons rfl (fun K d=>?_) AllReady.nil;refine jr rfl 107 [.const (.slice none 0 0),.tmp 30,.const (.int .i64 2)] _ rfl Xz [.slice none 0 0,.int .u64 m,.int .i64 2] (by simp[Act.eval,Act.put]) (ah.out _ kc) ?_;rintro e V1 ⟨p1,c1,rfl,a7,k1⟩;have e5:=k1.cell c4 id;have a2:=kc.tt k1;refine⟨_,rfl,d _ _ ?_⟩;clear d K
  all_goals
   refine wpAny_ready (rs:=[3]) (by kernel_rfl) (by simp) ?_;refine AllReady.cons rfl (fun K d=>?_) AllReady.nil;refine Xo rfl (.tmp 31) (.tmp 32) 84 84 rfl W.heap.size 5 j0 (.int .u8 0) 1 1 underlying84 hj c6 c2 c0 rfl xD (.slice p1 2 c1) 2 ((Rf.big m 2).map j6) (by simp[Act.eval,Act.put]) a7 (.slice pp Y.length dx) Y.length (Y.map j6) (by simp[Act.eval,Act.put]) ((xj (HM.out.same a2).rp).src) co.out cf.out a2.size ?_;intro p2 e4 V2 ca fd gz;have f2:=a2.grow fd (fun j e hj=>by have:=(a7.lt j e).1;omega);rw[<-ZA,<-cv.out,<-B.out] at ca;refine d _ _ ?_;clear d K;refine wpAny_ready (rs:=[4]) (by kernel_rfl) (by simp) ?_;refine AllReady.cons rfl (fun K d=>?_) AllReady.nil;refine jr rfl 105 [.tmp 33] _ rfl Xq [.slice p2 (2+Y.length) e4] (by simp[Act.eval,Act.put]) (gw (.slice p2 (2+Y.length) e4) s V2 (by rw[<-B.out];exact xj ca) f7.out) ?_;rintro e V3 ⟨p3,J,rfl,a6,k3⟩;have bz:=f2.tt k3;refine⟨_,rfl,d _ _ ?_⟩;clear d K;refine wpAny_ready (rs:=[5]) (by kernel_rfl) (by simp) ?_;refine AllReady.cons rfl (fun K d=>?_) AllReady.nil;go_simp;refine d _ _ ?_;clear d K;refine wpAny_done (by kernel_rfl) ?_ _;have cm:=HM.out.same bz;have fh:=zA (o:=0) cm.b3;simp at fh;have S:(Rf.frame s).length=8+s.length:=by simp[Rf.frame,Rf.ji];omega
   have bj:V3.ownsRow V2.heap.size 5 1 (.slice p3 (Rf.frame s).length J) (Rf.frame s).length ((Rf.frame s).map j6):=by rw[S];exact a6
   have t:=(xj bj).src;rw[S] at t;have ag:=jb t;have ba:=jb cm;have ee:Hid (X.length+(8+s.length)<=maxLen):=jb (by have:=ks.out;have:=B.out;unfold maxLen;omega);have ed:Hid ((X.length+(8+s.length))*1<=140737488355328):=jb (by have:=ks.out;have:=B.out;omega);have M:w.heap.size<=V3.heap.size:=by have:=bz.size;omega
   have fe:IntKind.u64.wrap (X.length:Int)=(X.length:Int):=wrap_u64 (by omega) (by have:=ks.out;omega);have bi:∀ g,(Value.slice pb X.length cb).ownBlock=some g->¬g=D:=fun g u e=>fo.out (.inr (.inr (.inr (.inl (e▸u)))));have ea:=jb (bz.same e9.out id);have br:=jb bi;clear t bj cm bi a6 ca a7
   gi_wp2_with (gi_at_builtin;refine rr _ rfl (.tmp 38) (.tmp 39) 84 84 rfl w.heap.size 5 j0 (.int .u8 0) 1 1 underlying84 hj c6 c2 c0 rfl xD (.slice pb X.length cb) X.length (X.map j6) rfl ba.out.rb (.slice p3 (8+s.length) J) (8+s.length) ((Rf.frame s).map j6) rfl ag.out ee.out ed.out M ?_;intro p4 dz V4 c9 cd fb)
   have aj:(X++Rf.frame s).length=X.length+(8+s.length):=by rw[ZY,S]
   have gt:=(ja.grown cd).size;rw[<-ZA] at c9;have ai:=yz (.slice p4 (X.length+(8+s.length)) dz) (X.length+(8+s.length)) (X++Rf.frame s) X.length 4 w.heap.size V4 aj (by have:=ks.out;omega) (by decide) (by have:=ks.out;have:=B.out;omega) (by omega) c9;have fl:=jb ai;have bs:=jb ((ja.grown cd).same ea.out (fun e=>br.out D e.symm rfl));have eb:ja w V4 (fun _=>False):=ba.out.kw.trans (ja.grown cd) (fun i hi e=>by have:=ba.out.nb i e.symm;omega)
   have dg:∀ g,(Value.slice p4 (X.length+(8+s.length)) dz).ownBlock=some g->w.heap.size<=g/\¬g=D:=fun g u=>by
    rcases fb with h|h
    ·rw[h] at u
     exact⟨by have:=ba.out.nb g u;omega,br.out g u⟩
    ·rw[h] at u
     cases u;have:=zC ea.out;exact⟨by omega,by omega⟩
   have cu:=jb dg;clear ai dg c9;refine⟨trivial,(callsIn_wide.2 fl.out).mono ?_⟩;rintro e V5 ⟨p5,T,rfl,a4,E⟩;have fj:=jb a4;have eg:=jb (E.keeps.same bs.out (fun e=>(cu.out D e.symm).2 rfl));have k5:ja w V5 (fun _=>False):=eb.trans E.keeps (fun i hi e=>by have:=(cu.out i e.symm).1;omega);have dc:ja V5 (V5.putObj D (.deferred none)) (fun i=>i=D):=ja.putObj V5 D _
   have df:∀ g,(Value.slice p5 (X.length+(8+s.length)+4) T).ownBlock=some g->¬g=D:=fun g u=>by
    rcases E.1 with h|⟨g',h,h3⟩
    ·rw[h] at u
     exact(cu.out g u).2
    ·rw[h] at u
     cases u;have:=zC bs.out;omega
   have a3:(Rf.jn l).length=X.length+(8+s.length)+4:=by rw[bt.out,<-cv.out,ZY,aj,Rf.ji]
   have O:∃ p c',Ending.returned (Value.slice p5 (X.length+(8+s.length)+4) T) = .returned (.slice p (Rf.jn l).length c')/\(V5.putObj D (.deferred none)).ownsRow w.heap.size 5 1 (.slice p (Rf.jn l).length c') (Rf.jn l).length ((Rf.jn l).map j6)/\ja w (V5.putObj D (.deferred none)) (fun _=>False):=by
    refine⟨p5,T,by rw[a3],?_,k5.trans dc (fun i hi e=>by have e':i=D:=e;omega)⟩;rw[a3,bt.out,<-cv.out];exact dc.row fj.out df
   have bb:=jb O;clear O df a4 a3
   gi_wp2
   refine⟨by simp,.inl ⟨_,_,rfl,run_takeDeferred eg.out,?_⟩⟩;exact⟨.slice p5 (X.length+(8+s.length)+4) T,(by simp[results,Tryz.results116,go_sem]),bb.out⟩
 case stop =>
  rintro D lp C c a1 W2 W _ _ _ _ _ _ _ h;exact h.elim
end Go.Proofs.YtnipbplghijdmaaGreatDoor
namespace Go.Proofs.YtnipbplghijdmaaGreatDoor
open RowKit Maps WideShapes Go.Proofs.Tryz
variable {E:Nat->Addr} {B a b d k:Nat} {w w':World} {U V:List (Str×List UInt8)} {T:Nat->Prop} {c:List UInt8} {n:Str} {p:Str×List UInt8} {ns:List Nat} {mv rv:Value}
def DW(E:Nat->Addr)(B:Nat)(w:World)(ρ:Nat->jz)(d:Nat)(V:List (Str×List UInt8))(k:Nat):Prop:=∃ S,Dk E B w ρ d S/\Jl S/\View S V/\Fit k S
theorem DW.perm{ρ:Nat->jz}(h:DW E B w ρ d V k)(p:U.Perm V):DW E B w ρ d U k:=by
 obtain⟨S,g,f,c,b⟩:=h;exact⟨S,g,f,c.perm p,b⟩
theorem DW.mono{ρ:Nat->jz}{m:Nat}(h:DW E B w ρ d V k)(b:k<=m):DW E B w ρ d V m:=by
 obtain⟨S,i,g,f,c⟩:=h;exact⟨S,i,g,f,c.mono b⟩
theorem DW.apart{ρ:Nat->jz}(h:DW E B w ρ d V k):V.Pairwise (fun p q=>p.1≠q.1):=by
 obtain⟨S,g,f,b,c⟩:=h;exact b.apart
theorem DW.same{ρ:Nat->jz}(h:DW E B w ρ d V k)(b:ja w w' (fun _=>False)):DW E B w' ρ d V k:=by
 obtain⟨S,i,g,f,c⟩:=h;exact⟨S,i.same b,g,f,c⟩
theorem DW.ya{ρ:Nat->jz}(h:DW E B w ρ d V k):∀ i,ρ i≠ .none->B<=i/\i<w.heap.size:=by
 obtain⟨S,b,g,f,c⟩:=h;exact fun i hi=>⟨b.ya i hi,b.rep.lt i hi⟩
theorem DW.size{ρ:Nat->jz}(h:DW E B w ρ d V k):B<=w.heap.size:=by
 obtain⟨S,b,g,f,c⟩:=h;exact b.size
theorem DW.keep{ρ:Nat->jz}(h:DW E B w ρ d V k)(f:ja w w' T)(g:∀ i,i<w.heap.size->T i->ρ i = .none/\B<=i):DW E B w' ρ d V k:=by
 obtain⟨S,c,m,l,j⟩:=h;have b:ja w w' (fun i=>i<w.heap.size/\T i):=f.mono (fun i hi h=>⟨hi,h⟩);exact⟨S,⟨c.rep.keep b (fun i h _=>(g i h.1 h.2).1),c.Qh.keep b (fun i h=>(g i h.1 h.2).2),c.ya,ZF c.size f.size⟩,m,l,j⟩
def Z7(E:Nat->Addr)(B:Nat)(w:World)(ρ:Nat->jz)(d:Nat)(V:List (Str×List UInt8))(k:Nat)(e:Ending)(w':World):Prop:=e = .returned .nilIface/\∃ ρ',xo w ρ w' ρ'/\DW E B w' ρ' d V k
theorem Z7.of{ρ:Nat->jz}{F:jh×Bool}{e:Ending}(h:eu E B w ρ d F e w')(j:F.2=true)(i:Jl F.1)(f:View F.1 V)(c:Fit k F.1):Z7 E B w ρ d V k e w':=by
 obtain⟨b,g,l,⟨_,r⟩|⟨r,_⟩⟩:=h
 ·exact⟨r,b,g,F.1,l,i,f,c⟩
 ·rw[j] at r;cases r
theorem Ot{ρ:Nat->jz}(D:DW E B w ρ d V k)(nm:Str)(f:nm≠[])(v:Value)(b:List UInt8)(i:Bytes w v b)(c:Off ρ v)(l:k+1+nm.length+b.length<549755813888)(j:b.length+j3 (jo V nm)<=20000) :
 Calls prog 114 #[.pointer (some ⟨d,0,none⟩),jd nm,v] w (Z7 E B w ρ d (yc V nm b) (k+1+nm.length+b.length)):=by
 obtain⟨S,o,n,m,g⟩:=D;refine(jee o g nm f v b i c l).mono ?_;rintro e w' ⟨S',ok,r,h⟩;obtain⟨rfl,a,b⟩:=n.lay f m j r;exact Z7.of h rfl a b (g.jgx f r)
theorem jfb{ρ:Nat->jz}(D:DW E B w ρ d V k)(nm:Str)(f:nm.length<1099511627776){b:List UInt8}(g:(nm,b)∈V) :
 Calls prog 159 #[.pointer (some ⟨d,0,none⟩),jd nm] w (Z7 E B w ρ d V k):=by
 obtain⟨S,m,l,j,i⟩:=D;refine(ow m nm f).mono ?_;intro e w' h;obtain⟨a,b,c⟩:=l.sync j g;exact Z7.of h a b c (i.Qb nm)
theorem F8{ρ:Nat->jz}(D:DW E B w ρ d V k)(s:k<549755813888)(v:Value)(ns:List Str)(base:Nat)(j:w.ownsRow base 9 1 v ns.length (ns.map encStr))(i:∀ g,v.ownBlock=some g->ρ g = .none)(l:∀ n∈ns,n.length<1099511627776)(o:ns.length<1099511627776)(m:∀ n∈ns,∃ b,(n,b)∈V) :
 Calls prog 164 #[.pointer (some ⟨d,0,none⟩),v] w (Z7 E B w ρ d V k):=by
 obtain⟨S,r,q,p,f⟩:=D;refine(Mb r v ns base j i l o (by have:=f.safe;omega)).mono ?_;intro e w' h;obtain⟨a,b,c,_⟩:=q.sure p ns m;exact Z7.of h a b c (f.X8 ns)
theorem ja8{ρ:Nat->jz}(D:DW E B w ρ d V k)(o:k<549755813888)(sr f:Str)(j:sr.length<1099511627776)(m:f.length<1099511627776)(l:f≠[])(g:f≠sr){b:List UInt8}(n:(sr,b)∈V) :
 Calls prog 167 #[.pointer (some ⟨d,0,none⟩),jd sr,jd f] w (Z7 E B w ρ d (yc (jo V sr) f b) (k+1+f.length)):=by
 obtain⟨S,r,q,p,i⟩:=D;refine(Cr r (i.small o) sr f j m (by have:=i.safe;omega)).mono ?_;intro e w' h;obtain⟨a,b,c,_⟩:=q.rename l g p n;exact Z7.of h a b c (i.Jw g).Qr
theorem DW.count{ρ:Nat->jz}{S:jh}(h:View S V):S.keys.length=V.length:=by
 have:=h.keys.length_eq;rwa [ZM] at this
theorem Ff{ρ:Nat->jz}(D:DW E B w ρ d V k)(o:k<549755813888)(v:Value)(ns:List Str)(base:Nat)(j:w.ownsRow base 9 1 v ns.length (ns.map encStr))(i:∀ g,v.ownBlock=some g->ρ g = .none)(l:∀ n∈ns,n.length<1099511627776)(u:ns.length<549755813888)(q:ns.Nodup)(m:∀ n∈ns,∃ b,(n,b)∈V) :
 Calls prog 118 #[.pointer (some ⟨d,0,none⟩),v] w (Z7 E B w ρ d (V.filter (fun p=>decide (p.1∉ns))) (k+ns.length)):=by
 obtain⟨S,t,s,r,f⟩:=D;refine(mn t (f.small o) v ns base j i l (by omega) (by have:=f.safe;omega)).mono ?_;intro e w' h;obtain⟨a,b,c,_⟩:=s.removeAll r ns q m;exact Z7.of h a b c (f.yo ns)
theorem ob{ρ:Nat->jz}(D:DW E B w ρ d V k)(q:k<549755813888)(v:Value)(ks:List Str)(base:Nat)(m:w.ownsRow base 9 1 v ks.length (ks.map encStr))(l:∀ g,v.ownBlock=some g->ρ g = .none)(o:ks.length<1099511627776) :
 Calls prog 177 #[.pointer (some ⟨d,0,none⟩),v] w (Z7 E B w ρ d (V.filter (fun p=>decide (p.1∈ks))) (k+V.length)):=by
 obtain⟨S,t,s,j,f⟩:=D;have r:=DW.count (ρ:=ρ) j;have u:=f.Ov;refine(Ax t (f.small q) v ks base m l o (fun n hn=>by have:=f.keys n hn;omega) (by have:=f.safe;omega)).mono ?_;intro e w' h;obtain⟨a,b,c,_⟩:=s.clear j ks;have i:=f.Yp ks;rw[r] at i;exact Z7.of h a b c i
theorem jba{ρ:Nat->jz}(D:DW E B w ρ d V k)(q:k<549755813888)(nm:Str)(p:nm.length<1099511627776){b:List UInt8}(l:(nm,b)∈V) :
 Calls prog 129 #[.pointer (some ⟨d,0,none⟩),jd nm] w fun e w'=>xo w ρ w' ρ/\DW E B w' ρ d V k/\∃ v,e = .returned (.tuple #[v,.nilIface])/\w'.ownsRow w.heap.size 5 1 v b.length (b.map j6):=by
 obtain⟨S,s,n,i,m⟩:=D;refine(fv s (m.small q) nm p).mono ?_;rintro e w' ⟨g,t,⟨c,_⟩|⟨_,c,_⟩|⟨_,f,a,v,j,r,rfl,o⟩⟩
 ·rw[n.bad] at c;cases c
 ·obtain⟨f,a,j,_⟩:=i.get l
  rw[j] at c;cases c
 ·have e:=i.one l (i.of j r)
  rw[e];exact⟨g,⟨S.called false,t,n.called _,i.called _,m.called _⟩,v,rfl,o⟩
theorem Nz{ρ:Nat->jz}(D:DW E B w ρ d V k)(p:k<549755813888)(nm:Str)(n:nm.length<1099511627776)(o:∀ b,(nm,b)∉V) :
 Calls prog 129 #[.pointer (some ⟨d,0,none⟩),jd nm] w fun e w'=>xo w ρ w' ρ/\DW E B w' ρ d V k/\∃ v,e = .returned (.tuple #[.slice none 0 0,v])/\Err E w' v 2:=by
 obtain⟨S,s,l,j,i⟩:=D;refine(fv s (i.small p) nm n).mono ?_;rintro e w' ⟨g,t,⟨c,_⟩|⟨_,c,v,rfl,m⟩|⟨_,f,a,v,r,q,rfl,u⟩⟩
 ·rw[l.bad] at c;cases c
 ·exact⟨g,⟨S.called false,t,l.called _,j.called _,i.called _⟩,v,rfl,m⟩
 ·exact(o _ (j.of r q)).elim
theorem jc1{ρ:Nat->jz}(D:DW E B w ρ d V k)(t:k<549755813888)(nm:Str)(l:nm.length<1099511627776)(n:(nm,c)∈V)(v:Value)(b:List UInt8)(i:0<b.length)(m:b.length<549755813888)(q:Bytes w v b)(j:Off ρ v)(s:b.length+j3 V<=20000) :
 Calls prog 62 #[.pointer (some ⟨d,0,none⟩),jd nm,v] w fun e w'=>e = .returned (.int .i64 0)/\∃ ρ',xo w ρ w' ρ'/\DW E B w' ρ' d (yc V nm (c++b)) (k+b.length):=by
 obtain⟨S,A,z,p,o⟩:=D;obtain⟨f,a,y,x,_⟩:=p.get n;refine(jc2 A o t nm l y x v b i m q j).mono ?_;rintro e w' ⟨S',ok,ρ',F,rfl,r,g,C,u⟩;obtain⟨rfl,a,b⟩:=z.app p n s r.out;rcases u.out with⟨_,rfl⟩|⟨h,_⟩
 ·exact⟨rfl,ρ',g,S',C,a,b,o.jf6 r.out⟩
 ·cases h
def M1(l:List UInt8):Nat:=l.foldl (fun n x=>n*10+(x.toNat-48)) 0
theorem Ra(l:List UInt8)(x:UInt8):M1 (l++[x])=M1 l*10+(x.toNat-48):=by simp[M1,zO]
theorem r7(n:Nat):M1 (Rf.j4 n)=n:=by
 induction n using Nat.strongRecOn with
 | ind n ih =>
  unfold Rf.j4
  split
  ·rename_i h
   have b:(UInt8.ofNat (48+n)).toNat=48+n:=by rw[XD];omega
   simp only[M1,List.foldl_cons,List.foldl_nil,b];omega
  ·rename_i h
   have b:(UInt8.ofNat (48+n%10)).toNat=48+n%10:=by rw[XD];omega
   rw[Ra,ih (n/10) (by omega),b];omega
theorem B9(h:Rf.j4 a=Rf.j4 b):a=b:=by rw[<-r7 a,h,r7]
theorem Bv(h:jx a=jx b):a=b:=by
 unfold jx at h;simp at h;exact B9 h
theorem Ze(h:jq a=jq b):a=b:=by
 unfold jq at h;simp at h;exact B9 h
theorem Yh(a b:Nat):jx a≠jq b:=fun h=>by simp[jx,jq] at h
theorem dw(a:Nat):jw≠jx a:=fun h=>by simp[jx,jw] at h
theorem ai(a:Nat):jw≠jq a:=fun h=>by simp[jq,jw] at h
theorem uz(a:Nat):xx≠jx a:=fun h=>by simp[jx,xx] at h
theorem pw(a:Nat):xx≠jq a:=fun h=>by simp[jq,xx] at h
theorem F9(a:Nat):jx a≠[]:=fun h=>by simp[jx] at h
theorem Ex(a:Nat):jq a≠[]:=fun h=>by simp[jq] at h
def Yt(V:List (Str×List UInt8)):Prop:=V.Pairwise (fun p q=>p.1≠q.1)
theorem Yt.nodup(h:Yt V):V.Nodup:=List.Pairwise.imp (fun h e=>h (by rw[e])) h
theorem Zg(b:Yt V)(c:Yt U)(h:∀ p,p∈V↔p∈U):V.Perm U:=(List.perm_ext_iff_of_nodup b.nodup c.nodup).2 h
theorem yl{b:List UInt8}:p∈yc V n b↔p=(n,b)\/(p∈V/\p.1≠n):=by
 unfold yc;rw[zH,xf]
theorem Yt.yc(h:Yt V)(n:Str)(b:List UInt8):Yt (yc V n b):=by
 unfold Go.Proofs.YtnipbplghijdmaaGreatDoor.yc;exact zG.2 ⟨fun p hp e=>(xf.1 hp).2 e.symm,Y3 h n⟩
theorem Yt.jo(h:Yt V)(n:Str):Yt (jo V n):=Y3 h n
theorem Yt.filter(h:Yt V)(q:Str×List UInt8->Bool):Yt (V.filter q):=h.sublist XV
theorem Yt.one(h:Yt V){b:List UInt8}(i:(n,b)∈V)(k:(n,c)∈V):b=c:=by
 induction V with
 | nil=>cases i
 | cons x r ih =>
  obtain⟨j,l⟩:=zG.1 h;rcases zH.1 i with e|f<;>rcases zH.1 k with g|d
  ·rw[<-e] at g;cases g;rfl
  ·exact(j _ d (by rw[<-e])).elim
  ·exact(j _ f (by rw[<-g])).elim
  ·exact ih l f d
def j9(ns:List Nat)(ls:List (List Rf.Ch)):List (Str×List UInt8):=(ns.zip ls).map (fun p=>(jq p.1,Rf.jn p.2))
def Rf.St.files(s:Rf.St):List (Str×List UInt8):=(jw,s.m.bytes)::(jx s.m.log,Rf.jl s.m.last s.bs)::j9 s.m.settled s.bls
theorem kn{ls:List (List Rf.Ch)}:p∈j9 ns ls↔∃ q∈ns.zip ls,p=(jq q.1,Rf.jn q.2):=by
 unfold j9;rw[ZN];exact⟨fun⟨q,h,e⟩=>⟨q,h,e.symm⟩,fun⟨q,h,e⟩=>⟨q,h,e.symm⟩⟩
theorem xi{s:Rf.St}:p∈s.files↔p=(jw,s.m.bytes)\/p=(jx s.m.log,Rf.jl s.m.last s.bs)\/p∈j9 s.m.settled s.bls:=by
 unfold Rf.St.files;rw[zH,zH]
theorem Jm{ls:List (List Rf.Ch)}(h:p∈j9 ns ls):∃ n∈ns,p.1=jq n:=by
 obtain⟨q,b,rfl⟩:=kn.1 h;exact⟨q.1,(List.of_mem_zip b).1,rfl⟩
theorem Ez(h:ns.Nodup)(ls:List (List Rf.Ch)):Yt (j9 ns ls):=by
 induction ns generalizing ls with
 | nil=>exact List.Pairwise.nil
 | cons n r ih =>
  cases ls with
  | nil=>exact List.Pairwise.nil
  | cons l q =>
   obtain⟨d,c⟩:=XB.1 h;refine zG.2 ⟨fun p hp e=>?_,ih c q⟩;obtain⟨m,b,g⟩:=Jm (ns:=r) (ls:=q) hp;rw[g] at e;have f:n=m:=Ze e;exact d (by rw[f];exact b)
theorem Rf.St.Ok.iw{s:Rf.St}(h:s.Ok):s.m.settled.Nodup:=(List.nodup_append.1 h.Je.2.2.2).1
theorem Rf.St.Ok.au{s:Rf.St}(h:s.Ok){n:Nat}(b:n∈s.m.settled):1<=n/\n<s.m.next:=h.Je.2.2.1 n (ZD.2 (.inl b))
theorem Rf.St.Ok.apart{s:Rf.St}(h:s.Ok):Yt s.files:=by
 refine zG.2 ⟨fun p b=>?_,zG.2 ⟨fun p b=>?_,Ez h.iw _⟩⟩
 ·rcases zH.1 b with rfl|b
  ·exact dw _
  ·obtain⟨n,_,e⟩:=Jm b
   rw[e];exact ai n
 ·obtain⟨n,_,e⟩:=Jm b
  rw[e];exact Yh _ n
theorem Ty{α β:Type}:∀ {l:List α} {m:List β},l.length=m.length->∀ a∈l,∃ b,(a,b)∈l.zip m
 | [],_,_,a,h=>by cases h
 | x::r,[],e,_,_=>by simp at e
 | x::r,y::q,e,a,h=>by
  rcases zH.1 h with rfl|h
  ·exact⟨y,by simp⟩
  ·obtain⟨b,hb⟩:=Ty (l:=r) (m:=q) (by simpa using e) a h
   exact⟨b,xI _ hb⟩
theorem Rf.St.Ok.there{s:Rf.St}(h:s.Ok):∀ n∈j8 s.m,∃ b,(n,b)∈s.files:=by
 intro n c;unfold j8 at c;rcases ZD.1 c with c|c
 ·obtain⟨k,f,rfl⟩:=ZN.1 c
  obtain⟨l,d⟩:=Ty h.len.symm k f;exact⟨_,xi.2 (.inr (.inr (kn.2 ⟨_,d,rfl⟩)))⟩
 ·rw[ZE.1 c]
  exact⟨_,xi.2 (.inr (.inl rfl))⟩
theorem Pe{s:Rf.St}(h:s.Ok){b:List Rf.Ch}(f:(s.write b).Ok):(s.write b).files.Perm (yc s.files (jx s.m.log) (Rf.jl s.m.last s.bs++Rf.jt (s.last+1) b)):=by
 refine Zg f.apart (h.apart.yc _ _) (fun p=>?_);rw[xi,yl,xi];have e:Rf.jl (s.write b).m.last (s.write b).bs=Rf.jl s.m.last s.bs++Rf.jt (s.last+1) b:=Rf.fq _ _ _;rw[e];constructor
 ·rintro(rfl|rfl|c)
  ·exact .inr ⟨.inl rfl,dw _⟩
  ·exact .inl rfl
  ·obtain⟨n,_,e⟩:=Jm c
   exact .inr ⟨.inr (.inr c),by rw[e];exact(Yh _ n).symm⟩
 ·rintro(rfl|⟨rfl|rfl|c,d⟩)
  ·exact .inr (.inl rfl)
  ·exact .inl rfl
  ·exact(d rfl).elim
  ·exact .inr (.inr c)
theorem Pg:Rf.St.first.files=yc (jo (yc [] (jx 1) []) xx) jw Rf.Man.first.bytes:=by
 unfold yc jo;have c:jx 1≠xx:=fun h=>uz 1 h.symm;have b:jx 1≠jw:=fun h=>dw 1 h.symm;simp[Rf.St.files,Rf.St.first,Rf.Man.first,j9,Rf.Man.settled,Rf.jl,c,b]
theorem br{ns:List Str}:p∈V.filter (fun p=>decide (p.1∉ns))↔p∈V/\p.1∉ns:=by
 rw[List.mem_filter,decide_eq_true_iff]
def Gi(s:Rf.St):List (Str×List UInt8) :=
 (yc (jo (yc (yc s.files (jq s.m.next) (Rf.jn s.mem)) (jx (s.m.next+1)) []) xx) jw (s.m.qn s.last).bytes).filter (fun p=>decide (p.1∉[jx s.m.log]))
theorem Pf{s:Rf.St}(h:s.Ok)(i:s.bs≠[])(d:s.flush.Ok):s.flush.files.Perm (Gi s):=by
 have f:=h.Je.log;have e:s.flush=⟨s.m.qn s.last,[],s.mem::s.bls⟩:=by unfold Rf.St.flush;rw[if_neg i]
 rw[e] at d ⊢;refine Zg d.apart ((((((h.apart.yc _ _).yc _ _).jo _).yc _ _)).filter _) (fun p=>?_);unfold Gi;rw[xi,br,yl,xf,yl,yl,xi,ZE];have b:(s.m.qn s.last).settled=s.m.next::s.m.settled:=Rf.Man.Qj _ _;have l:j9 (s.m.qn s.last).settled (s.mem::s.bls)=(jq s.m.next,Rf.jn s.mem)::j9 s.m.settled s.bls:=by rw[b];rfl
 rw[show(⟨s.m.qn s.last,[],s.mem::s.bls⟩:Rf.St).m=s.m.qn s.last from rfl,show(⟨s.m.qn s.last,[],s.mem::s.bls⟩:Rf.St).bls=s.mem::s.bls from rfl,l,zH];constructor
 ·rintro(rfl|rfl|rfl|c)
  ·exact⟨.inl rfl,dw _⟩
  ·refine⟨.inr ⟨⟨.inl rfl,fun e=>uz _ e.symm⟩,fun e=>dw _ e.symm⟩,fun e=>?_⟩
   have q:s.m.next+1=s.m.log:=Bv e;omega
  ·exact⟨.inr ⟨⟨.inr ⟨.inl rfl,(Yh _ _).symm⟩,fun e=>pw _ e.symm⟩,fun e=>ai _ e.symm⟩,(Yh _ _).symm⟩
  ·obtain⟨n,g,e⟩:=Jm c
   have o:=h.au g;refine⟨.inr ⟨⟨.inr ⟨.inr ⟨.inr (.inr c),fun e2=>?_⟩,?_⟩,?_⟩,?_⟩,?_⟩
   ·rw[e] at e2
    have:=Ze e2;omega
   ·rw[e];exact(Yh _ _).symm
   ·rw[e];exact fun e=>pw _ e.symm
   ·rw[e];exact fun e=>ai _ e.symm
   ·rw[e];exact(Yh _ _).symm
 ·rintro⟨rfl|⟨⟨rfl|⟨rfl|⟨rfl|rfl|c,_⟩,_⟩,_⟩,k⟩,j⟩
  ·exact .inl rfl
  ·exact .inr (.inl rfl)
  ·exact .inr (.inr (.inl rfl))
  ·exact(k rfl).elim
  ·exact(j rfl).elim
  ·exact .inr (.inr (.inr c))
def Zo(s:Rf.St):List (Str×List UInt8) :=
 if s.live=[] then(yc (jo s.files xx) jw s.m.bare.bytes).filter (fun p=>decide (p.1∉s.m.settled.map jq))
 else(yc (jo (yc s.files (jq s.m.next) (Rf.jn s.live)) xx) jw s.m.yf.bytes).filter (fun p=>decide (p.1∉s.m.settled.map jq))
theorem Zh{s:Rf.St}{x:Str}(h:∀ n∈s.m.settled,x≠jq n):x∉s.m.settled.map jq:=fun hm=>by
 obtain⟨n,b,e⟩:=ZN.1 hm
 exact h n b e.symm
theorem tj{s:Rf.St}(h:s.Ok)(j:s.m.runs≠[])(d:s.qd.Ok):s.qd.files.Perm (Zo s):=by
 have k:=h.Je.log;unfold Zo;by_cases hl:s.live=[]
 ·have e:s.qd=⟨s.m.bare,s.bs,[]⟩:=by unfold Rf.St.qd;rw[if_neg j,if_pos hl]
  rw[if_pos hl];rw[e] at d ⊢;refine Zg d.apart (((h.apart.jo _).yc _ _).filter _) (fun p=>?_);rw[xi,br,yl,xf,xi];have i:j9 (⟨s.m.bare,s.bs,[]⟩:Rf.St).m.settled (⟨s.m.bare,s.bs,[]⟩:Rf.St).bls=[]:=by simp[j9]
  rw[i];constructor
  ·rintro(rfl|rfl|b)
   ·exact⟨.inl rfl,Zh (fun n _=>ai n)⟩
   ·exact⟨.inr ⟨⟨.inr (.inl rfl),fun e=>uz _ e.symm⟩,fun e=>dw _ e.symm⟩,Zh (fun n _=>Yh _ n)⟩
   ·cases b
  ·rintro⟨rfl|⟨⟨rfl|rfl|b,_⟩,g⟩,f⟩
   ·exact .inl rfl
   ·exact(g rfl).elim
   ·exact .inr (.inl rfl)
   ·obtain⟨n,c,e⟩:=Jm b
    exact(f (ZN.2 ⟨n,c,e.symm⟩)).elim
 ·have e:s.qd=⟨s.m.yf,s.bs,[s.live]⟩:=by unfold Rf.St.qd;rw[if_neg j,if_neg hl]
  rw[if_neg hl];rw[e] at d ⊢;refine Zg d.apart ((((h.apart.yc _ _).jo _).yc _ _).filter _) (fun p=>?_);rw[xi,br,yl,xf,yl,xi]
  have i:j9 (⟨s.m.yf,s.bs,[s.live]⟩:Rf.St).m.settled (⟨s.m.yf,s.bs,[s.live]⟩:Rf.St).bls=[(jq s.m.next,Rf.jn s.live)]:=by
   show j9 s.m.yf.settled [s.live]=_;rw[Rf.Man.Zx (by omega)];rfl
  rw[i,ZE];constructor
  ·rintro(rfl|rfl|rfl)
   ·exact⟨.inl rfl,Zh (fun n _=>ai n)⟩
   ·exact⟨.inr ⟨⟨.inr ⟨.inr (.inl rfl),Yh _ _⟩,fun e=>uz _ e.symm⟩,fun e=>dw _ e.symm⟩,Zh (fun n _=>Yh _ n)⟩
   ·refine⟨.inr ⟨⟨.inl rfl,fun e=>pw _ e.symm⟩,fun e=>ai _ e.symm⟩,Zh (fun n c e=>?_)⟩
    have:=h.au c;have:=Ze e;omega
  ·rintro⟨rfl|⟨⟨rfl|⟨rfl|rfl|b,_⟩,_⟩,g⟩,f⟩
   ·exact .inl rfl
   ·exact .inr (.inr rfl)
   ·exact(g rfl).elim
   ·exact .inr (.inl rfl)
   ·obtain⟨n,c,e⟩:=Jm b
    exact(f (ZN.2 ⟨n,c,e.symm⟩)).elim
theorem Y4(V:List (Str×List UInt8))(n:Str)(b:List UInt8):j3 (yc V n b)<=b.length+j3 V:=by
 unfold yc;rw[y7];have:=yh V n;exact Nat.add_le_add_left this _
abbrev Du(d:Nat)(m:Rf.Man)(rv:Value)(last:Nat)(mv:Value):Array Value:=qe (.pointer (some ⟨d,0,none⟩)) (jf m.next) (jf m.last) (jf m.log) (jf m.base) rv (jf last) mv false false
def Calm(ρ:Nat->jz)(B b:Nat)(mv rv:Value)(w:World):Prop:=∀ p n c,rv = .slice (some p) n c->ρ p.block = .none/\p.block≠b/\B<=p.block/\mv.ownBlock≠some p.block/\p.block<w.heap.size
structure qz(E:Nat->Addr)(B:Nat)(w:World)(ρ:Nat->jz)(d b:Nat)(s:Rf.St)(k:Nat)(rv mv:Value):Prop where
 env:Env E B w
 zw:DW E B w ρ d s.files k
 row:w.heap[b]?=some (.cells (Du d s.m rv s.last mv) 121 (0,0))
 runs:zl w rv s.m.runs
 mem:w.ownsRow B 88 3 mv s.mem.length (jg s.mem)
 nb:ρ b = .none/\B<=b
 nr:Calm ρ B b mv rv w
 nm:∀ g,mv.ownBlock=some g->ρ g = .none/\g≠b
 ok:s.Ok
 few:s.mem.length<60000
def StF(ρ:Nat->jz)(b:Nat)(mv:Value)(i:Nat):Prop:=ρ i≠ .none\/i=b\/mv.ownBlock=some i
def Qo(E:Nat->Addr)(B:Nat)(w:World)(ρ:Nat->jz)(d b:Nat)(rv mv:Value)(s:Rf.St)(k:Nat)(w':World):Prop :=
 ∃ ρ' rv' mv',qz E B w' ρ' d b s k rv' mv'/\ja w w' (StF ρ b mv)/\(∀ i,i<w.heap.size->ρ' i=ρ i)/\(∀ g,mv'.ownBlock=some g->mv.ownBlock=some g\/w.heap.size<=g)/\(∀ p n c,rv' = .slice (some p) n c->(∃ n' c',rv = .slice (some p) n' c')\/w.heap.size<=p.block)
theorem qz.keep{ρ:Nat->jz}{s:Rf.St}(h:qz E B w ρ d b s k rv mv)(l:ja w w' T)(j:∀ i,i<w.heap.size->T i->B<=i/\¬StF ρ b mv i/\∀ p n c,rv = .slice (some p) n c->i≠p.block):qz E B w' ρ d b s k rv mv:=by
 have f:ja w w' (fun i=>i<w.heap.size/\T i):=l.mono (fun i hi h=>⟨hi,h⟩)
 refine⟨h.env.keep f (fun i t=>(j i t.1 t.2).1),h.zw.keep l (fun i hi t=>⟨yG (fun hn=>(j i hi t).2.1 (.inl hn)),(j i hi t).1⟩),f.same h.row (fun t=>(j _ t.1 t.2).2.1 (.inr (.inl rfl))),
  h.runs.keep f (fun _ p n c e t=>(j _ t.1 t.2).2.2 p n c e rfl),f.row h.mem (fun g hg t=>(j g t.1 t.2).2.1 (.inr (.inr hg))),h.nb,fun p n c e=>?_,h.nm,h.ok,h.few⟩
 obtain⟨u,r,q,o,m⟩:=h.nr p n c e;exact⟨u,r,q,o,zT m l.size⟩
theorem qz.same{ρ:Nat->jz}{s:Rf.St}(h:qz E B w ρ d b s k rv mv)(c:ja w w' (fun _=>False)):qz E B w' ρ d b s k rv mv:=h.keep c (fun _ _ h=>h.elim)
theorem qz.blt{ρ:Nat->jz}{s:Rf.St}(h:qz E B w ρ d b s k rv mv):b<w.heap.size:=zC h.row
theorem StF.old{ρ:Nat->jz}{s:Rf.St}(h:qz E B w ρ d b s k rv mv){i:Nat}(hi:StF ρ b mv i):B<=i/\i<w.heap.size:=by
 rcases hi with hi|rfl|hi
 ·exact h.zw.ya i hi
 ·exact⟨h.nb.2,h.blt⟩
 ·exact h.mem.lt i hi
theorem Qo.trans{q A:World}{ρ o:Nat->jz}{F:Nat}{j f:Value}{s D:Rf.St}(M:qz E B q o d b s k f j)(m:ja w q (StF ρ b mv))(G:∀ i,i<w.heap.size->o i=ρ i)(H:∀ g,j.ownBlock=some g->mv.ownBlock=some g\/w.heap.size<=g)(x:∀ p n c,f = .slice (some p) n c->(∃ n' c',rv = .slice (some p) n' c')\/w.heap.size<=p.block)(L:Qo E B q o d b f j D F A):Qo E B w ρ d b rv mv D F A:=by
 obtain⟨I,r,u,J,z,v,y,l⟩:=L;refine⟨I,r,u,J,m.trans z (fun i hi t=>?_),fun i hi=>(v i (zT hi m.size)).trans (G i hi),fun g hg=>?_,fun p n c e=>?_⟩
 ·rcases t with t|t|t
  ·exact .inl (by rw[<-G i hi];exact t)
  ·exact .inr (.inl t)
  ·rcases H i t with C|C
   ·exact .inr (.inr C)
   ·omega
 ·rcases y g hg with t|t
  ·exact H g t
  ·exact .inr (ZF m.size t)
 ·rcases l p n c e with⟨n',c',t⟩|t
  ·exact x p n' c' t
  ·exact .inr (ZF m.size t)
end Go.Proofs.YtnipbplghijdmaaGreatDoor
namespace Go.Proofs.YtnipbplghijdmaaGreatDoor
open RowKit Maps WideShapes Go.Proofs.Tryz
variable {W w:World} {mv rv v:Value} {B b d k:Nat} {E:Nat->Addr} {s:Rf.St} {V:List (Str×List UInt8)} {t:TypeId} {deg:Bool}
theorem L4{ρ:Nat->jz}{n:Nat}{e:TypeId}{xs:List Value}(b:∀ i,ρ i≠ .none->i<n)(h:W.ownsRow n e 1 v k xs):Off ρ v:=by
 intro p m c d;have:=(h.lt p.block (by rw[d];rfl)).1;exact yG (fun hn=>by have:=b _ hn;omega)
theorem jdj{ρ:Nat->jz}(S:qz E B w ρ d b s k rv mv)(hk:k<540000000000)(ev:Value)(es:List Rf.Ch)(A:Rf.qy es=true)(C:Chs w ev es)(U:∀ p n c,ev = .slice (some p) n c->¬StF ρ b mv p.block)(q:s.last<1000000000)(T:s.mem.length+8<60000)(hs:(Rf.jt (s.last+1) es).length+j3 s.files<=20000) :
 Calls prog 24 #[.pointer (some ⟨b,0,none⟩),ev] w fun e w'=>e = .returned (.int .i64 0)/\Qo E B w ρ d b rv mv (s.write es) (k+(Rf.jt (s.last+1) es).length) w':=by
 obtain⟨h1,h8,u⟩:=(Rf.yd es).1 A;have af:∀ c∈es,c.key.length<1048576/\c.value.length<1048576:=fun c hc=>by have:=(Rf.xz c).1 (u c hc);omega
 have G:∀ c∈es,c.key.length<1099511627776/\c.value.length<1099511627776:=fun c hc=>by have:=(Rf.xz c).1 (u c hc);omega
 have a7:=ic ev es w C (by omega) G;rw[A] at a7;have a8:=S.ok.Je.log;have b6:=S.ok.Je.1;have L:s.m.log<=9223372036854775807:=by omega
 have H:=Xi L
 have a6:(Rf.jt (s.last+1) es).length<600/\0<(Rf.jt (s.last+1) es).length:=by
  have hf:=Rf.Jf u;have e:(Rf.jt (s.last+1) es).length=17+(es.flatMap Rf.entry).length:=by simp only[Rf.jt,Rf.frame,ZY,Rf.ji];omega
  omega
 obtain⟨pe,ce,rfl,_⟩:=id C;obtain⟨lo,j⟩:∃ lo,lo=s.m.log:=⟨_,rfl⟩;obtain⟨last,f⟩:∃ last,last=s.last:=⟨_,rfl⟩;have r:=S.row;unfold Du at r;rw[<-j,<-f] at r;rw[<-j] at L H;rw[<-f] at q;obtain⟨y,D⟩:∃ y,y=Rf.jt (last+1) es:=⟨_,rfl⟩;rw[<-f,<-D] at a6 hs ⊢;have R:∀ W,ja w W (fun _=>False)->Calls prog 63 #[ju lo] W fun e w'=>e = .returned (jd (jx lo))/\ja W w' (fun _=>False):=fun W k=>Qy lo L (S.env.same k)
 have X:∀ W,ja w W (fun _=>False)->Calls prog 64 #[.int .i64 ((last:Int)+1),.slice pe es.length ce] W fun e w'=>∃ p c,e = .returned (.slice p y.length c)/\w'.ownsRow W.heap.size 5 1 (.slice p y.length c) y.length (y.map j6)/\ja W w' (fun _=>False):=fun W k=>by
  have:=jab (last+1) (.slice pe es.length ce) es W (by omega) (by omega) af (C.same k);rw[<-D] at this;simpa using this
 have Y:∀(W:World) (v:Value),ja w W (fun _=>False)->W.ownsRow w.heap.size 5 1 v y.length (y.map j6)->Calls prog 62 #[.pointer (some ⟨d,0,none⟩),jd (jx lo),v] W fun e w'=>e = .returned (.int .i64 0)/\∃ ρ',xo w ρ w' ρ'/\DW E B w' ρ' d (s.write es).files (k+y.length):=fun W v kk hr=>by
  have hm:(jx lo,Rf.jl s.m.last s.bs)∈s.files:=xi.2 (.inr (.inl (by rw[j])));refine(jc1 (S.zw.same kk) (by omega) (jx lo) H hm v y a6.2 (by omega) (xj hr) (L4 (fun i hi=>(S.zw.ya i hi).2) hr) hs).mono ?_;rintro e w' ⟨rfl,ρ',g,D'⟩;refine⟨rfl,ρ',(xo.of kk (fun _ _ h=>h.elim)).trans g,D'.perm ?_⟩;have:=Pe S.ok (b:=es) (S.ok.write A (by rw[<-f];exact q));rw[<-f,<-D,<-j] at this;exact this
 have c5:=jb D;have be:=jb a7;have an:=jb R;have ao:=jb X;have ap:=jb Y;have HB:=jb r;have bb:=jb j;have al:=jb f;have d2:=zA (o:=6) r;simp at d2;have hd:decide ((1000000000:Int)<=(last:Int))=false:=by rw[decide_eq_false_iff_not];omega
 have b8:(last:Int)<1000000000:=by omega
 have hw:IntKind.i64.wrap ((last:Int)+1)=(last:Int)+1:=zE (by omega) (by omega);have bc:=jb C;have bo:=jb u;have b9:=jb G;have H8:=jb h8;have a0:=jb T;have am:=jb A;have I:=jb U;have ak:=jb q;clear D a7 R X Y r a6 A h1 h8 u af G q hk H L j f hs a8 b6 C T U;go_enter func24,ntmps24;go_wp2_with fail;refine(Jc HB.out).mono ?_;rintro e w0 ⟨rfl,rfl⟩;rw[show Qi false false=0 from rfl];go_wp2_with fail;refine be.out.mono ?_;rintro e w1 ⟨rfl,k1⟩;have M:=k1.same HB.out id;have c0:=zA (o:=0) M;have c3:=zA (o:=3) M;have c6:=zA (o:=6) M;simp at c0 c3 c6;clear M;have J:ja w0 w1.drew (fun _=>False):=k1.draw;go_wp2_with fail
 go_region_law (first
  | (refine jr rfl 63 [.tmp 27] _ rfl J7 [.int .i64 lo] (by simp[Act.eval,Act.put]) (an.out _ J) ?_
     rintro e w2 ⟨rfl,k2⟩
     have J:=J.tt k2
     try have z:=k2.row z (fun _ _ h=>h)
     have l:=J.same HB.out id
     have c0:=zA (o:=0) l
     have c3:=zA (o:=3) l
     have c6:=zA (o:=6) l
     simp at c0 c3 c6
     clear l
     refine⟨_,rfl,?_⟩)
  | (refine jr rfl 64 [.tmp 33,.tmp 34] _ rfl Pj [.int .i64 ((last:Int)+1),.slice pe es.length ce] (by simp[Act.eval,Act.put]) (ao.out _ J) ?_
     rintro e w2 ⟨pb,cb,rfl,z,k2⟩
     have z:=qg z J.size
     have J:=J.tt k2
     have l:=J.same HB.out id
     have c0:=zA (o:=0) l
     have c3:=zA (o:=3) l
     have c6:=zA (o:=6) l
     simp at c0 c3 c6
     clear l
     refine⟨_,rfl,?_⟩)
  | (refine jr rfl 62 [.tmp 22,.tmp 28,.tmp 35] _ rfl I2 [.pointer (some ⟨d,0,none⟩),jd (jx lo),.slice pb y.length cb] (by simp[Act.eval,Act.put]) (ap.out _ _ J z) ?_
     rintro e w3 ⟨rfl,ρ3,x,D3⟩
     refine⟨_,rfl,?_⟩))
 all_goals
  have aj:=x.keeps.same HB.out (fun t=>t S.nb.1);have ah:=x.keeps.row S.mem (fun g N t=>t (S.nm g N).1);have V:Chs w3 (.slice pe es.length ce) es:=bc.out.keep x.keeps (fun _ p n c e t=>I.out p n c e (.inl t))
  have Z:=K7 b (.pointer (some ⟨d,0,none⟩)) (jf s.m.next) (jf s.m.last) (ju lo) (jf s.m.base) rv (.bool false) (.bool false) last 121 mv (.slice pe es.length ce) s.mem es B w3 aj ah (fun e=>(S.nm b e).2 rfl) (Rf.yv _)
   (by have:=a0.out;have:=H8.out;omega) (by have:=ak.out;omega) V b9.out (ZF S.zw.size x.keeps.size) (fun _ p n c e=>⟨fun t=>I.out p n c e (.inr (.inl t)),fun t=>I.out p n c e (.inr (.inr t))⟩)
  have aq:=jb Z;clear Z aj ah V hd b8 hw d2;go_wp2_with fail;refine aq.out.mono ?_;rintro e w4 ⟨rfl,v4,ai,ag,c4,b5,k4⟩;have bd:=jb ai;have ba:=jb ag;clear ai ag;go_wp2;go_ret
  have kT:ja w0 w4 (StF ρ b mv):=(x.keeps.mono (fun i _ h=> .inl h)).trans k4 (fun i hi h=>by
   rcases h with h|h
   ·exact .inr (.inl h)
   ·exact .inr (.inr h.symm))
  have b4:(s.write es).last=last+1:=by rw[al.out];show s.m.last+(s.bs++[es]).length=s.m.last+s.bs.length+1;simp;omega
  have O:(s.write es).mem=Rf.over s.mem es:=Rf.Of _ _
  have F:∀ g,v4.ownBlock=some g->mv.ownBlock=some g\/w3.heap.size<=g:=fun g N=>by
   rcases b5 with e|⟨g',e,h⟩
   ·exact .inl (e▸N)
   ·rw[N] at e;cases e;exact .inr h
  have b7:∀ i,i<w3.heap.size->i=b\/some i=mv.ownBlock->ρ3 i = .none/\B<=i:=fun i hi h=>by
   rcases h with h|h
   ·rw[h,x.role b S.blt];exact S.nb
   ·have h':=S.mem.lt i h.symm
    rw[x.role i h'.2];exact⟨(S.nm i h.symm).1,h'.1⟩
  refine⟨rfl,ρ3,rv,v4,⟨S.env.keep (kT.mono (fun i hi h=>(show B<=i from(StF.old S h).1))) (fun i h=>h),D3.keep k4 b7,?_,S.runs.keep kT ?_,by rw[O];exact ba.out,?_,?_,?_,S.ok.write am.out (by rw[<-al.out];exact ak.out),?_⟩,kT,x.role,fun g N=>?_,fun p n c e=> .inl ⟨n,c,e⟩⟩
  ·rw[b4]
   show _=some (Obj.cells (Du d s.m rv (last+1) v4) _ _);unfold Du;rw[<-bb.out];exact bd.out
  ·intro _ p n c e t
   obtain⟨a1,a2,a3,a4,a5⟩:=S.nr p n c e;rcases t with t|t|t
   ·exact t a1
   ·exact a2 t
   ·exact a4 t
  ·rw[x.role b S.blt];exact S.nb
  ·intro p n c e
   obtain⟨a1,a2,a3,a4,a5⟩:=S.nr p n c e;refine⟨by rw[x.role _ a5];exact a1,a2,a3,fun t=>?_,zT a5 kT.size⟩;rcases F _ t with t|t
   ·exact a4 t
   ·have:=x.keeps.size
    omega
  ·intro g N
   rcases F g N with t|t
   ·rw[x.role g (S.mem.lt g t).2]
    exact S.nm g t
   ·refine⟨yG (fun hn=>?_),fun e=>?_⟩
    ·have:=(D3.ya g hn).2
     omega
    ·have:=S.blt
     have:=x.keeps.size;omega
  ·rw[O]
   have:=Rf.oi (Rf.yv s.bs) es;have h':(Rf.over s.mem es).length<=s.mem.length+es.length:=this;have:=a0.out;have:=H8.out;omega
  ·rcases F g N with t|t
   ·exact .inl t
   ·exact .inr (ZF x.keeps.size t)
theorem Gs(b:Array Value)(w:World):(callFunc 165 b).run prog w = .ok (.enter 165 b) w:=by kernel_rfl
theorem oy(b:Array Value)(w:World):(callFunc 164 b).run prog w = .ok (.enter 164 b) w:=by kernel_rfl
theorem Gq(b:Array Value)(w:World):(callFunc 166 b).run prog w = .ok (.enter 166 b) w:=by kernel_rfl
theorem ib(b:Array Value)(w:World):(callFunc 114 b).run prog w = .ok (.enter 114 b) w:=by kernel_rfl
theorem yg(m:Rf.Man):m.bytes.length=42+8*m.runs.length:=by
 have H:∀ l:List Nat,(l.flatMap fun r=>Rf.big r 8).length=8*l.length:=by
  intro l
  induction l with
  | nil=>rfl
  | cons x r ih=>rw[xL,ZY,Rf.ji,ih,zX];omega
 unfold Rf.Man.bytes Rf.wg Rf.frame;simp only[ZY,Rf.ji,H];omega
theorem Yg{m:Rf.Man}(d:m.Good):∀ n∈j8 m,n.length<1099511627776:=by
 intro n b;have i:=d.1;have c:=d.2.2.1;unfold j8 at b;rcases ZD.1 b with b|b
 ·obtain⟨k,f,rfl⟩:=ZN.1 b
  have g:=c k (ZD.2 (.inl f));have:=zn (n:=k) (by omega);unfold jq;simp only[ZY,zX,xU];omega
 ·rw[ZE.1 b]
  have g:=d.log;exact Xi (by omega)
theorem rk{ρ:Nat->jz}{a1 a2 a3 a4 a5 last:Value}{cl:Bool}(D:DW E B w ρ d V k)(H:Env E B w)(m:Rf.Man)(hg:m.Good)(hr:m.runs.length<65536)(rv:Value)(hv:zl w rv m.runs)(bz:∀ p n c,rv = .slice (some p) n c->ρ p.block = .none/\p.block≠b)(hb:w.heap[b]?=some (.cells (qe (.pointer (some ⟨d,0,none⟩)) a1 a2 a3 a4 a5 last mv deg cl) t (0,0)))(az:ρ b = .none)(c5:B<=b)(hf:∀ n∈j8 m,∃ b,(n,b)∈V)(hs:m.bytes.length+j3 (jo V xx)<=20000)(hk:k<540000000000) :
 Calls prog 117 #[.pointer (some ⟨b,0,none⟩),gv m rv] w fun e w'=>e = .returned .nilIface/\∃ ρ',ja w w' (fun i=>ρ i≠ .none\/i=b)/\(∀ i,i<w.heap.size->ρ' i=ρ i)/\DW E B w' ρ' d (yc (jo V xx) jw m.bytes) (k+22+m.bytes.length) /\
  w'.heap[b]?=some (.cells (qe (.pointer (some ⟨d,0,none⟩)) (jf m.next) (jf m.last) (jf m.log) (jf m.base) rv last mv deg cl) t (0,0)):=by
 obtain⟨y,z,b4,c1⟩:=id hv;have bj:∃ n,rv = .slice y n z:=⟨_,b4⟩;clear b4 c1;obtain⟨F,rfl⟩:=bj;have b7:=yg m;have b8:=hg.bounds;have c3:=hg.1;have u:=hg.2.2.1;have bm:=hg.log;have a7:∀ n∈m.settled,n<=9223372036854775807:=fun n hn=>by have:=u n (ZD.2 (.inl hn));omega
 have c2:=x8 m;have c4:(j8 m).length=m.settled.length+1:=by unfold j8;simp
 have N:∀ r∈m.runs,r<m.next:=fun r hrr=>(u r (ZD.2 (.inl (by unfold Rf.Man.settled;split<;>simp[hrr])))).2
 have au:m.base<m.next:=by
  by_cases e:m.base=0
  ·omega
  ·exact(u m.base (ZD.2 (.inl (by unfold Rf.Man.settled;rw[if_neg e];simp)))).2
 have ar:=hg.2.1;obtain⟨f,L⟩:∃ f,f=w.heap.size:=⟨_,rfl⟩;obtain⟨l,a0⟩:∃ l,l=w.alloc (.cells #[jf m.next,jf m.last,jf m.log,jf m.base,.slice y F z] 117):=⟨_,rfl⟩;have A:ja w l (fun _=>False):=by rw[a0];exact ja.alloc _ _ _
 have b2:l.heap[f]?=some (.cells #[jf m.next,jf m.last,jf m.log,jf m.base,.slice y F z] 117 (0,0)):=by rw[a0,L];exact je w _
 have b9:=A.same hb id;have cu:=zC hb;have ah:b≠f:=by omega
 have D1:=D.same A;have ay:ρ f = .none:=yG (fun hn=>by have:=(D.ya f hn).2;omega);have I:∀ W,ja l W (fun i=>ρ i≠ .none)->zl W (.slice y F z) m.runs:=fun W kk=>(hv.same A).keep kk (fun _ p n c e t=>t (bz p n c e).1);have J:∀ W,ja l W (fun i=>ρ i≠ .none)->Env E B W:=fun W kk=>(H.same A).keep kk (fun i t=>(D.ya i t).1)
 have ag:∀ W,ja l W (fun _=>False)->Calls prog 165 #[gv m (.slice y F z)] W fun e w'=>∃ p c,e = .returned (.slice p (j8 m).length c)/\w'.ownsRow l.heap.size 9 1 (.slice p (j8 m).length c) (j8 m).length ((j8 m).map jd)/\ja W w' (fun _=>False):=fun W kk=>by
  have Z:ja l W (fun i=>ρ i≠ .none):=kk.up;refine(wi m (.slice y F z) (J W Z) (I W Z) (by omega) a7 (by omega)).mono ?_;rintro e w' ⟨p,c,rfl,h,k'⟩;exact⟨p,c,rfl,qg h kk.size,k'⟩
 have M:∀(W:World) (v:Value),ja l W (fun _=>False)->W.ownsRow l.heap.size 9 1 v (j8 m).length ((j8 m).map jd)->Calls prog 164 #[.pointer (some ⟨d,0,none⟩),v] W fun e w'=>e = .returned .nilIface/\∃ ρ',xo l ρ w' ρ'/\DW E B w' ρ' d V k:=fun W v kk hrow=>by
  refine(F8 (D1.same kk) (by omega) v (j8 m) l.heap.size hrow (fun g hg=>yG (fun hn=>by have:=(hrow.lt g hg).1;have:=(D1.ya g hn).2;omega)) (Yg hg) (by omega) hf).mono ?_;rintro e w' ⟨rfl,ρ',g,D'⟩;exact⟨rfl,ρ',(xo.of kk (fun _ _ h=>h.elim)).trans g,D'⟩
 have ak:=jb ag;have O:=jb M;have aq:=jb b9;have s:=jb b2;have ca:=jb L;have bo:=jb I;have cv:=jb J;have HS:=jb hs;have cb:=jb b8;have bf:=jb b7;have cw:=jb ah;have c9:Hid ((m.next:Int)<=9223372036854775807/\(m.last:Int)<=9223372036854775807/\(m.log:Int)<=9223372036854775807/\(m.base:Int)<=9223372036854775807/\∀ r∈m.runs,(r:Int)<=9223372036854775807):=(show _/\_ from⟨by omega,by omega,by omega,by omega,fun r hrr=>by have:=N r hrr;omega⟩);have HR:=jb hr;have HK:=jb hk;obtain⟨nF,b5⟩:∃ nF,nF=(j8 m).length:=⟨_,rfl⟩;rw[<-b5] at ak O;clear ag M b9 b2 I J hs b8 b7 c3 u bm a7 c2 c4 N au ar hb hr hk ah L b5;have G:=zA (o:=0) aq.out;have X:=zA (o:=0) s.out;have U:=zA (o:=1) s.out;have T:=zA (o:=2) s.out;have S:=zA (o:=3) s.out;have R:=zA (o:=4) s.out;simp at G X U T S R;have G:l.drew.cell? ⟨b,0,none⟩=some (.pointer (some ⟨d,0,none⟩)):=G;have X:l.drew.cell? ⟨f,0,none⟩=some (jf m.next):=X;have U:l.drew.cell? ⟨f,1,none⟩=some (jf m.last):=U;have T:l.drew.cell? ⟨f,2,none⟩=some (jf m.log):=T;have S:l.drew.cell? ⟨f,3,none⟩=some (jf m.base):=S;have R:l.drew.cell? ⟨f,4,none⟩=some (.slice y F z):=R;have Y:ja l l.drew (fun _=>False):=ja.drew _ _;go_enter func117,ntmps117;go_wp2_with fail;rw[<-a0,<-ca.out];clear a0
 go_region_law (first
  | (refine jr rfl 165 [.tmp 13] _ rfl Gs [gv m (.slice y F z)] (by simp[Act.eval,Act.put]) (ak.out _ Y) ?_
     rintro e w2 ⟨pf,cf,rfl,al,k2⟩
     have G:=k2.cell G id
     have Y:=Y.tt k2
     refine⟨_,rfl,?_⟩)
  | (refine jr rfl 164 [.tmp 12,.tmp 14] _ rfl oy [.pointer (some ⟨d,0,none⟩),.slice pf nF cf] (by simp[Act.eval,Act.put]) (O.out _ _ Y al) ?_
     rintro e x ⟨rfl,ρ3,g3,D3⟩
     refine⟨_,rfl,?_⟩))
 all_goals
  have ap:=g3.keeps.same aq.out (fun t=>t az);have q:=g3.keeps.same s.out (fun t=>t ay);have ad:ρ3 b = .none:=(g3.role b (zC aq.out)).trans az;have ac:ρ3 f = .none:=(g3.role f (zC s.out)).trans ay
  have af:∀ W,ja x W (fun _=>False)->Calls prog 166 #[gv m (.slice y F z)] W fun e w'=>∃ p c,e = .returned (.slice p m.bytes.length c)/\w'.ownsRow x.heap.size 5 1 (.slice p m.bytes.length c) m.bytes.length (m.bytes.map j6)/\ja W w' (fun _=>False):=fun W kk=>by
   have Z:ja l W (fun i=>ρ i≠ .none):=g3.keeps.trans kk (fun _ _ h=>h.elim);refine(L9 W m (.slice y F z) (bo.out W Z) (by have:=HR.out;omega) cb.out c9.out).mono ?_;rintro e w' ⟨p,c,rfl,h,k'⟩;exact⟨p,c,rfl,qg h kk.size,k'⟩
  have ae:∀(W:World) (v:Value),ja x W (fun _=>False)->W.ownsRow x.heap.size 5 1 v m.bytes.length (m.bytes.map j6)->Calls prog 114 #[.pointer (some ⟨d,0,none⟩),jd xx,v] W fun e w'=>e = .returned .nilIface/\∃ ρ',xo x ρ3 w' ρ'/\DW E B w' ρ' d (yc V xx m.bytes) (k+1+xx.length+m.bytes.length):=fun W v kk hrow=>by
   refine(Ot (D3.same kk) xx (by decide) v m.bytes (xj hrow) (L4 (fun i hi=>(D3.ya i hi).2) hrow) (by have:=HK.out;have:=bf.out;have:=HR.out;have:xx.length=12:=rfl;omega) HS.out).mono ?_;rintro e w' ⟨rfl,ρ',g,D'⟩;exact⟨rfl,ρ',(xo.of kk (fun _ _ h=>h.elim)).trans g,D'⟩
  have aj:=jb af;have ai:=jb ae;have G:=zA (o:=0) ap;have X:=zA (o:=0) q;have U:=zA (o:=1) q;have T:=zA (o:=2) q;have S:=zA (o:=3) q;have R:=zA (o:=4) q;simp at G X U T S R;have G:x.drew.cell? ⟨b,0,none⟩=some (.pointer (some ⟨d,0,none⟩)):=G;have X:x.drew.cell? ⟨f,0,none⟩=some (jf m.next):=X;have U:x.drew.cell? ⟨f,1,none⟩=some (jf m.last):=U;have T:x.drew.cell? ⟨f,2,none⟩=some (jf m.log):=T;have S:x.drew.cell? ⟨f,3,none⟩=some (jf m.base):=S;have R:x.drew.cell? ⟨f,4,none⟩=some (.slice y F z):=R;have Y:ja x x.drew (fun _=>False):=ja.drew _ _;have bi:=jb ap;have bd:=jb q;obtain⟨nB,am⟩:∃ nB,nB=m.bytes.length:=⟨_,rfl⟩;rw[<-am] at aj ai;have be:=jb am;clear af ae ap q am;go_wp2_with fail
  go_region_law (first
   | (refine jr rfl 166 [.tmp 23] _ rfl Gq [gv m (.slice y F z)] (by simp[Act.eval,Act.put]) (aj.out _ Y) ?_
      rintro e w4 ⟨bx,c6,rfl,al,k4⟩
      have G:=k4.cell G id
      have Y:=Y.tt k4
      refine⟨_,rfl,?_⟩)
   | (refine jr rfl 114 [.tmp 22,.const (jd xx),.tmp 24] _ rfl ib [.pointer (some ⟨d,0,none⟩),jd xx,.slice bx nB c6] (by simp[Act.eval,Act.put]) (ai.out _ _ Y al) ?_
      rintro e w5 ⟨rfl,ρ5,g5,D5⟩
      refine⟨_,rfl,?_⟩))
 all_goals
  have ao:=g5.keeps.same bi.out (fun t=>t ad);have b1:=g5.keeps.same bd.out (fun t=>t ac);have ab:ρ5 b = .none:=(g5.role b (zC bi.out)).trans ad;have aa:ρ5 f = .none:=(g5.role f (zC bd.out)).trans ac;have bb:=zA (o:=0) ao;simp at bb;have b6:(xx,m.bytes)∈yc V xx m.bytes:=xJ;have b3:=jfb D5 xx (by decide) b6;have c8:=jb b3;have bh:=jb ao;have bc:=jb b1;clear b3 ao b1 b6 G X U T S R;go_wp2_with fail;refine c8.out.mono ?_;rintro e w6 ⟨rfl,ρ6,g6,D6⟩;have an:=g6.keeps.same bh.out (fun t=>t ab);have b0:=g6.keeps.same bc.out (fun t=>t aa);have a9:ρ6 b = .none:=(g6.role b (zC bh.out)).trans ab;have bl:ρ6 f = .none:=(g6.role f (zC bc.out)).trans aa;have ba:=zA (o:=0) an;simp at ba;have a8:=ja8 D6 (by have:=HK.out;have:=be.out;have:=bf.out;have:=HR.out;have:xx.length=12:=rfl;omega) xx jw (by decide) (by decide) (by decide) (by decide) (b:=m.bytes) xJ;have bn:=jb a8;have bg:=jb an;have c7:=jb b0;clear a8 an b0 bb;go_wp2_with fail;refine bn.out.mono ?_;rintro e w7 ⟨rfl,ρ7,g7,D7⟩;have j:=g7.keeps.same bg.out (fun t=>t a9);have C:=g7.keeps.same c7.out (fun t=>t bl);have bk:ρ7 b = .none:=(g7.role b (zC bg.out)).trans a9;have X:=zA (o:=0) C;have U:=zA (o:=1) C;have T:=zA (o:=2) C;have S:=zA (o:=3) C;have R:=zA (o:=4) C;have y1:=zA (o:=1) j;have y2:=zA (o:=2) j;have y3:=zA (o:=3) j;have y4:=zA (o:=4) j;have y5:=zA (o:=5) j;have f1:=zB (o:=1) j;have f2:=zB (o:=2) j;have f3:=zB (o:=3) j;have f4:=zB (o:=4) j;have f5:=zB (o:=5) j;simp at X U T S R y1 y2 y3 y4 y5;have cc:=jb j;have gg:xo l ρ w7 ρ7:=((g3.trans g5).trans g6).trans g7;clear j C ba;go_wp2;go_ret;have e0:k+1+xx.length+nB+1+jw.length=k+22+m.bytes.length:=by rw[be.out];have h1:xx.length=12:=rfl;have h2:jw.length=8:=rfl;omega
  have e1:yc (jo (yc V xx m.bytes) xx) jw m.bytes=yc (jo V xx) jw m.bytes:=by unfold yc;rw[de,uw]
  rw[e0,e1] at D7;have ks:=((((ja.setCell w7 ⟨b,1,none⟩ (jf m.next)).set (p:=⟨b,2,none⟩) rfl (jf m.last)).set (p:=⟨b,3,none⟩) rfl (jf m.log)).set (p:=⟨b,4,none⟩) rfl (jf m.base)).set (p:=⟨b,5,none⟩) rfl (.slice y F z);refine⟨rfl,ρ7,((A.up).trans gg.keeps (fun i _ h=> .inl h)).trans ks (fun i _ e=> .inr e),fun i hi=>gg.role i (zT hi A.size),D7.keep ks (fun i _ e=>by rw[e];exact⟨bk,c5⟩),?_⟩;exact(jc (jc (jc (jc (jc cc.out _) _) _) _) _).trans rfl
theorem jai(l:List Rf.Ch):Ys [] l=l:=De (fun c _=>rfl)
theorem O6{ρ:Nat->jz}(D:DW E B W ρ d V k)(v:Value)(l:List Rf.Ch)(f:Chs W v l)(j:l.length<1048576)(m:∀ p n c,v = .slice (some p) n c->ρ p.block = .none/\p.block<W.heap.size) :
 Calls prog 111 #[A7 v,jd []] W fun e w'=>∃ v',e = .returned (.tuple #[v',.nilIface])/\w'.ownsRow W.heap.size 88 3 v' l.length (jg l)/\xo W ρ w' ρ/\DW E B w' ρ d V k:=by
 obtain⟨S,b,t,s,r⟩:=D;refine(uf (Needs:=Uj B v) (Start:=fun W'=>Chs W' v l/\Dk E B W' ρ d S) b8 (fun n=>bt v l j) (fun i hi=>?_) (fun W' k'=>⟨f.same k',b.same k'⟩) b.rep.lt b.size [] j).mono ?_
 ·rcases hi with h|⟨p,n,c,e,rfl⟩
  ·have:=b.size
   omega
  ·exact(m p n c e).2
 ·rintro e w' ⟨v',x,rfl,o,u,⟨rfl,g,_⟩|⟨bad,q,_⟩⟩
  ·rw[jai] at g
   exact⟨v',rfl,g,⟨o,fun _ _=>rfl⟩,S,u,t,s,r⟩
  ·cases q
theorem zl.src{l:List Nat}(h:zl w v l):Src prog 1 39 v l.length (l.map jf) w:=by
 obtain⟨p,c,rfl,k,i,g,f⟩:=h
 cases p with
 | none =>
  have:c=0:=g rfl;have d:l=[]:=xB (by omega);subst d;exact Src.ofNil w underlying39 c
 | some ad =>
  exact Src.ofSlice w underlying39 ad l.length c _ (by simp) (fun j u hu=>by
   rw[zJ] at hu
   obtain⟨y,b,rfl⟩:=xF.1 hu
   exact(f ad rfl).2 j y b) (fun u hu=>by
   obtain⟨y,_,rfl⟩:=ZN.1 hu
   rfl)
theorem jaa(l:List Rf.Ch):Rf.below l []=0:=by
 unfold Rf.below
 cases l with
 | nil=>rfl
 | cons x r=>rw[List.takeWhile_cons_of_neg (by simp)];rfl
theorem Kx(w:World):Bytes w (.slice none 0 0) []:=⟨none,0,rfl,xA _,zU _,fun _=>rfl,fun _ h=>by cases h⟩
theorem An{ρ:Nat->jz}{i j r g last:Value}{lo:Nat}{cl:Bool}(D:DW E B w ρ d V k)(H:Env E B w)(f:lo<=9223372036854775807){c:List UInt8}(l:(jx lo,c)∈V)(m:w.heap[b]?=some (.cells (qe (.pointer (some ⟨d,0,none⟩)) i j (ju lo) r g last mv deg cl) t (0,0))) :
 Calls prog 113 #[.pointer (some ⟨b,0,none⟩)] w (Z7 E B w ρ d V k):=by
 obtain⟨S,q,p,o,n⟩:=D;refine(M8 q H f m).mono ?_;intro e s h;obtain⟨a,b,c⟩:=p.sync o l;exact Z7.of h a b c (n.Qb _)
theorem tk(b:Array Value)(w:World):(callFunc 115 b).run prog w = .ok (.enter 115 b) w:=by kernel_rfl
theorem tn(b:Array Value)(w:World):(callFunc 116 b).run prog w = .ok (.enter 116 b) w:=by kernel_rfl
theorem lh(b:Array Value)(w:World):(callFunc 118 b).run prog w = .ok (.enter 118 b) w:=by kernel_rfl
theorem ao(w:World)(o:Obj):((w.alloc o).alloc o).drew.heap[w.heap.size]?=some o/\((w.alloc o).alloc o).drew.heap[w.heap.size+1]?=some o/\ja w ((w.alloc o).alloc o).drew (fun _=>False):=by
 refine⟨(ja.alloc (w.alloc o) o (fun _=>False)).same (je w o) id,?_,((ja.alloc w o _).more o).draw⟩;have:=je (w.alloc o) o;rw[xO] at this;exact this
theorem xo.row{d:World}{ρ c:Nat->jz}(g:xo w ρ d c){o:Obj}(h:w.heap[b]?=some o)(f:ρ b = .none):d.heap[b]?=some o/\c b = .none:=⟨g.keeps.same h (fun t=>t f),(g.role b (zC h)).trans f⟩
theorem jek{ρ:Nat->jz}(S:qz E B w ρ d b s k rv mv)(hk:k<530000000000)(bt:s.bs≠[])(r:s.m.next+2<=2000000000)(hr:s.m.runs.length+1<60000)(hs:(s.m.qn s.last).bytes.length+(Rf.jn s.mem).length+j3 s.files<=20000) :
 Calls prog 68 #[.pointer (some ⟨b,0,none⟩)] w fun e w'=>e = .returned .nilIface/\Qo E B w ρ d b rv mv s.flush (k+50000) w':=by
 obtain⟨pr,cr,e4,gj⟩:=id S.runs;have f7:∃ n,rv = .slice pr n cr:=⟨_,e4⟩;clear e4 gj;obtain⟨j,rfl⟩:=f7
 have aw:Hid (j=s.m.runs.length):=by
  obtain⟨p',c',e,_⟩:=S.runs;cases e;rfl
 obtain⟨j0,hj,gh,gg,gf⟩:=info_parts Tryz.dz;obtain⟨F,ci⟩:∃ F,F=s.m.next+1:=⟨_,rfl⟩;obtain⟨n2,ch⟩:∃ n2,n2=F+1:=⟨_,rfl⟩;have O:=jb ci;have f1:=jb ch;clear ci ch;have l:=S.row;have c1:=zA (o:=1) l;have c2:=zA (o:=2) l;have c3:=zA (o:=3) l;have c4:=zA (o:=4) l;have c5:=zA (o:=5) l;simp at c1 c2 c3 c4 c5;have a1:∀ o1,(w.alloc o1).cell? ⟨b,1,none⟩=some (jf s.m.next):=fun o1=>(ja.alloc w o1 (fun _=>False)).cell c1 id;have b1:∀ o1 o2,((w.alloc o1).alloc o2).cell? ⟨b,1,none⟩=some (jf s.m.next):=fun o1 o2=>((ja.alloc w o1 (fun _=>False)).more o2).cell c1 id;have a2:∀ o1,(w.alloc o1).cell? ⟨b,2,none⟩=some (jf s.m.last):=fun o1=>(ja.alloc w o1 (fun _=>False)).cell c2 id;have b2:∀ o1 o2,((w.alloc o1).alloc o2).cell? ⟨b,2,none⟩=some (jf s.m.last):=fun o1 o2=>((ja.alloc w o1 (fun _=>False)).more o2).cell c2 id;have a3:∀ o1,(w.alloc o1).cell? ⟨b,3,none⟩=some (jf s.m.log):=fun o1=>(ja.alloc w o1 (fun _=>False)).cell c3 id;have b3:∀ o1 o2,((w.alloc o1).alloc o2).cell? ⟨b,3,none⟩=some (jf s.m.log):=fun o1 o2=>((ja.alloc w o1 (fun _=>False)).more o2).cell c3 id;have a4:∀ o1,(w.alloc o1).cell? ⟨b,4,none⟩=some (jf s.m.base):=fun o1=>(ja.alloc w o1 (fun _=>False)).cell c4 id;have b4:∀ o1 o2,((w.alloc o1).alloc o2).cell? ⟨b,4,none⟩=some (jf s.m.base):=fun o1 o2=>((ja.alloc w o1 (fun _=>False)).more o2).cell c4 id;have a5:∀ o1,(w.alloc o1).cell? ⟨b,5,none⟩=some (.slice pr j cr):=fun o1=>(ja.alloc w o1 (fun _=>False)).cell c5 id;have b5:∀ o1 o2,((w.alloc o1).alloc o2).cell? ⟨b,5,none⟩=some (.slice pr j cr):=fun o1 o2=>((ja.alloc w o1 (fun _=>False)).more o2).cell c5 id;have HN:=jb r;have HR:=jb hr;have HS:=jb hs;have HK:=jb hk;have fj:=jb l;clear l r hr hs hk;go_enter func68,ntmps68;go_wp2_with fail
 go_cut [3,4] from 12 (fun s3 s4 wc=>∃(x y:Nat),s3 = .pointer (some ⟨x,0,none⟩)/\s4 = .pointer (some ⟨y,0,none⟩)/\x≠y/\w.heap.size<=x/\w.heap.size<=y/\wc.heap[x]?=some (.cells #[jf s.m.next,jf s.m.last,jf s.m.log,jf s.m.base,.slice pr j cr] 117 (0,0)) /\
  wc.heap[y]?=some (.cells #[jf s.m.next,jf s.m.last,jf s.m.log,jf s.m.base,.slice pr j cr] 117 (0,0))/\ja w wc (fun _=>False))
 case first =>
  go_region
  all_goals
   go_wp2;go_meet
  case rel =>
   obtain⟨Y,X,h3⟩:=ao w (.cells #[jf s.m.next,jf s.m.last,jf s.m.log,jf s.m.base,.slice pr j cr] 117)
   first
    | exact⟨_,_,rfl,rfl,by omega,by omega,by omega,Y,X,h3⟩
    | exact⟨_,_,rfl,rfl,by omega,by omega,by omega,X,Y,h3⟩
  case rel =>
   obtain⟨Y,X,h3⟩:=ao w (.cells #[jf s.m.next,jf s.m.last,jf s.m.log,jf s.m.base,.slice pr j cr] 117)
   first
    | exact⟨_,_,rfl,rfl,by omega,by omega,by omega,Y,X,h3⟩
    | exact⟨_,_,rfl,rfl,by omega,by omega,by omega,X,Y,h3⟩
 case rest =>
  obtain⟨x,y,rfl,rfl,aq,hx,hy,hX,hY,kc⟩:=hcut;clear a1 a2 a3 a4 a5 b1 b2 b3 b4 b5 c1 c2 c3 c4 c5;have HX:=jb hX;have eb:s.m.next<2000000000:=by have:=HN.out;omega
  have ay:=fe hY eb;rw[<-O.out] at ay;have fi:=jb ay;clear ay hX hY eb;go_wp2_with fail;refine fi.out.mono ?_;rintro e w2 ⟨rfl,en,k2⟩;have ge:ja w w2 (fun _=>False):=kc.trans k2 (fun i hi e=>by omega);have gx:=jb (k2.same HX.out aq);have ea:F<2000000000:=by have:=HN.out;have:=O.out;omega
  have ax:=fe en ea;rw[<-f1.out] at ax;have fh:=jb ax;clear ax en ea;go_wp2_with fail;refine fh.out.mono ?_;rintro e w3 ⟨rfl,bu,k3⟩;have gd:ja w w3 (fun _=>False):=ge.trans k3 (fun i hi e=>by omega);have gw:=jb (k3.same gx.out aq);have y2:=zA (o:=2) bu;have g2:=zB (o:=2) bu;simp at y2;have gs:=jb bu;clear bu;go_wp2_with fail;obtain⟨q,ar⟩:∃ q,q=w3.setCell ⟨y,2,none⟩ (jf F):=⟨_,rfl⟩;rw[<-ar];have H:ja w q (fun _=>False):=by rw[ar];exact gd.Xd hy _
  have d9:q.heap[y]?=some (.cells #[jf n2,jf s.m.last,jf F,jf s.m.base,.slice pr j cr] 117 (0,0)):=by rw[ar];exact(jc gs.out _).trans rfl
  have de:Hid (q.heap[x]?=some (.cells #[jf s.m.next,jf s.m.last,jf s.m.log,jf s.m.base,.slice pr j cr] 117 (0,0))):=by rw[ar];exact(ja.setCell w3 ⟨y,2,none⟩ _).same gw.out aq
  have dd:=jb d9;have bh:=jb (H.same fj.out id);have l6:=zA (o:=6) bh.out;have y4:=zA (o:=4) d9;simp at l6 y4;have gc:∀ o1,(q.alloc o1).cell? ⟨b,6,none⟩=some (jf s.last):=fun o1=>(ja.alloc q o1 (fun _=>False)).cell l6 id;have g7:∀ o1,(q.alloc o1).cell? ⟨y,4,none⟩=some (.slice pr j cr):=fun o1=>(ja.alloc q o1 (fun _=>False)).cell y4 id;have Z:ja q (q.alloc (.cells #[jf s.m.next] 3)).drew (fun _=>False):=(ja.alloc q _ _).draw;have cl:(q.alloc (.cells #[jf s.m.next] 3)).drew.ownsRow w.heap.size 3 1 (.slice (some ⟨q.heap.size,0,none⟩) 1 1) 1 [jf s.m.next]:=(ja.drew _ (fun _=>False)).row (World.ownsRow_lit (base:=w.heap.size) (e:=3) (size:=1) q #[jf s.m.next] 1 H.size (by unfold maxLen;omega) rfl) (fun _ _ h=>h)
  have cd:Src prog 1 39 (.slice pr j cr) j (s.m.runs.map jf) (q.alloc (.cells #[jf s.m.next] 3)).drew:=by
   have:=(S.runs.same (H.tt Z)).src;rw[<-aw.out] at this;exact this
  have d1:=jb cl;have cy:=jb cd;have es:Hid (1+j<=maxLen):=jb (by have:=HR.out;have:=aw.out;unfold maxLen;omega);have cn:Hid ((1+j)*8<=140737488355328):=jb (by have:=HR.out;have:=aw.out;omega);have ek:w.heap.size<=(q.alloc (.cells #[jf s.m.next] 3)).drew.heap.size:=ZF H.size Z.size;have ep:=Z.same de.out id;have em:=Z.same dd.out id;have gu:=jb ep;have gr:=jb em;have fb:x<q.heap.size:=zC de.out;have fa:y<q.heap.size:=zC dd.out;have ck:b<q.heap.size:=zC bh.out;clear ar cl cd d9 ep em y2 g2
  go_cut [] from 12 (fun wc=>∃(p:Option Addr) (c:Nat),wc.heap[y]?=some (.cells #[jf n2,jf s.last,jf F,jf s.m.base,.slice p (1+j) c] 117 (0,0))/\wc.ownsRow w.heap.size 3 1 (.slice p (1+j) c) (1+j) ((s.m.next::s.m.runs).map jf) /\
   wc.heap[x]?=some (.cells #[jf s.m.next,jf s.m.last,jf s.m.log,jf s.m.base,.slice pr j cr] 117 (0,0))/\(∀ g,(Value.slice p (1+j) c).ownBlock=some g->q.heap.size<=g)/\ja w wc (fun _=>False))
  case first =>
   go_region_law (
    refine Xo rfl (.tmp 40) (.tmp 42) 39 39 rfl w.heap.size 3 j0 (.int .i64 0) 1 8 underlying39 hj gh gg gf rfl xD (.slice (some ⟨q.heap.size,0,none⟩) 1 1) 1 [jf s.m.next] (by simp[Act.eval,Act.put]) d1.out (.slice pr j cr) j (s.m.runs.map jf) (by simp[Act.eval,Act.put]) cy.out es.out cn.out ek ?_
    intro p6 c6 w6 e8 gn eh
    have k6:ja q w6 (fun i=>q.heap.size<=i):=(Z.up).trans (ja.grown gn) (fun i _ e=>by cases e;exact xA _)
    have ai:=k6.same dd.out (Nat.not_le.2 fa)
    have ey:=jb (k6.same de.out (Nat.not_le.2 fb))
    have k0:=k6.cell l6 (Nat.not_le.2 ck)
    have z1:=zA (o:=1) ai
    have z4:=zA (o:=4) ai
    have q1:=zB (o:=1) ai
    have q4:=zB (o:=4) ai
    simp at z1 z4
    have ex:=jb ai
    have f0:=jb e8
    have ha:=jb eh
    clear ai e8 eh)
   all_goals
    go_wp2;go_meet
   all_goals
    have I:∀ g,(Value.slice p6 (1+j) c6).ownBlock=some g->q.heap.size<=g:=fun g hg=>by
     rcases ha.out with h|h
     ·rw[h] at hg
      cases hg;exact xA _
     ·rw[h] at hg
      cases hg;exact Z.size
    have du:ja w w6 (fun _=>False):=H.trans k6 (fun i hi h=>by have:=H.size;omega)
    first
     | exact⟨p6,c6,(jc (jc ex.out _) _).trans rfl,((ja.setCell w6 ⟨y,1,none⟩ _).set (p:=⟨y,4,none⟩) rfl _).row f0.out (fun g hg e=>by have:=I g hg;have e':g=y:=e;omega),((ja.setCell w6 ⟨y,1,none⟩ _).set (p:=⟨y,4,none⟩) rfl _).same ey.out aq,I,(du.Xd (p:=⟨y,1,none⟩) hy _).Xd (p:=⟨y,4,none⟩) hy _⟩
     | exact⟨p6,c6,(jc (jc ex.out _) _).trans rfl,((ja.setCell w6 ⟨y,4,none⟩ _).set (p:=⟨y,1,none⟩) rfl _).row f0.out (fun g hg e=>by have:=I g hg;have e':g=y:=e;omega),((ja.setCell w6 ⟨y,4,none⟩ _).set (p:=⟨y,1,none⟩) rfl _).same ey.out aq,I,(du.Xd (p:=⟨y,4,none⟩) hy _).Xd (p:=⟨y,1,none⟩) hy _⟩
  case rest =>
   obtain⟨p7,c7,el,e7,eo,a6,an⟩:=hcut;clear l6 y4 gc g7 Z d1 cy es cn ek gu gr;have bc:=S.few;have M:=S.same an;have a0:=M.row;have cm:=xw M.mem;have d8:=O7 b 7 _ 121 mv s.mem [] wc a0 rfl cm (Rf.yv _) (by omega);rw[jaa,List.drop_zero] at d8;have hd:=jb d8;have ew:=jb el;have gt:=jb eo;have bw:=jb e7;have J:=jb a0;have gb:ρ x = .none:=yG (fun r=>by have:=(S.zw.ya x r).2;omega);have dt:ρ y = .none:=yG (fun r=>by have:=(S.zw.ya y r).2;omega);have af:∀ g,(Value.slice p7 (1+j) c7).ownBlock=some g->ρ g = .none/\q.heap.size<=g:=fun g hg=>⟨yG (fun r=>by have:=(S.zw.ya g r).2;have:=a6 g hg;have:=H.size;omega),a6 g hg⟩;clear d8 el eo e7 a0 cm a6;go_wp2_with fail;refine hd.out.mono ?_;rintro e w8 ⟨v8,rfl,ej,k8,e9⟩;have D8:=M.zw.same k8
   have ei:=O6 D8 v8 s.mem ej (by omega) (fun p n c e=>by
    obtain⟨gq,n',c',e1,e2⟩:=e9 p n c e
    have N:mv.ownBlock=some gq.block:=by rw[e1];rfl
    rw[<-e2]
    exact⟨(M.nm _ N).1,zT (M.mem.lt _ N).2 k8.size⟩)
   have hb:=jb ei;clear ei ej e9;go_wp2_with fail;refine hb.out.mono ?_;rintro e w9 ⟨v9,rfl,bq,g9,D9⟩;have da:xo wc ρ w9 ρ:=(xo.of k8 (fun _ _ h=>h.elim)).trans g9;have bb:=Rf.Bt S.ok.log bt
   obtain⟨g0,ak,gi⟩:∃ g0 ak,v9 = .slice (some ⟨g0,0,none⟩) s.mem.length ak:=by
    rcases bq.2 with⟨_,h0⟩|⟨g,cap,k7,e,_⟩
    ·exact(bb (xB h0)).elim
    ·exact⟨g,cap,e⟩
   subst gi;have er:=M.env.keep da.keeps (fun i t=>(M.zw.ya i t).1);obtain⟨bd,k4⟩:=da.row J.out M.nb.1;obtain⟨lo,br⟩:∃ lo,lo=s.m.log:=⟨_,rfl⟩;have fc:=S.ok.Je.log;have gm:=S.ok.Je.1;have a7:lo<=9223372036854775807:=by omega
   have bf:(jx lo,Rf.jl s.m.last s.bs)∈s.files:=xi.2 (.inr (.inl (by rw[br])));have e3:=An D9 er (lo:=lo) a7 bf (by rw[br];exact bd);have gy:=jb e3;have bx:=jb br;have ez:=jb bq;have bi:=jb a7;have i8:wc.heap.size<=g0:=ZF k8.size (bq.lt g0 rfl).1;have ed:s.mem.length<60000:=bc;obtain⟨ml,b6⟩:∃ ml,ml=s.mem.length:=⟨_,rfl⟩;rw[<-b6];have h8:=jb b6;have h7:=jb ed;clear e3 br bq fc gm a7 bf bd er b6 ed bc bb;go_wp2_with fail;refine gy.out.mono ?_;rintro e A ⟨rfl,d5,et,f4⟩;have gA:xo wc ρ A d5:=da.trans et;obtain⟨ae,ia⟩:=gA.row J.out M.nb.1;have C:=zA (o:=0) ae;simp at C;have C:A.drew.cell? ⟨b,0,none⟩=some (.pointer (some ⟨d,0,none⟩)):=C;obtain⟨u,bv⟩:∃ u,u=Rf.jn s.mem:=⟨_,rfl⟩;have ab:=Rf.St.jbz S.ok bt (by have:=h7.out;omega);have cx:=M.env.keep gA.keeps (fun i t=>(M.zw.ya i t).1)
   have T:=et.keeps.row ez.out (fun g hg t=>t (yG (fun r=>by
    have Y:=(D8.ya g r).2
    have X:=(ez.out.lt g hg).1
    omega)))
   have e5:∀ W,ja A W (fun _=>False)->Calls prog 115 #[ju s.m.next] W fun e w'=>e = .returned (jd (jq s.m.next))/\ja W w' (fun _=>False):=fun W kk=>dm s.m.next (by have:=HN.out;omega) (cx.same kk)
   have ee:∀ W,ja A W (fun _=>False)->Calls prog 116 #[.slice (some ⟨g0,0,none⟩) ml ak] W fun e w'=>∃ p c,e = .returned (.slice p u.length c)/\w'.ownsRow A.heap.size 5 1 (.slice p u.length c) u.length (u.map j6)/\ja W w' (fun _=>False):=fun W kk=>by
    have go:Chs W (.slice (some ⟨g0,0,none⟩) s.mem.length ak) s.mem:=(xw T).same kk;rw[h8.out,bv];refine(Bu g0 0 ak s.mem W go ab.some ab.allowed ab.few).mono ?_;rintro e w' ⟨p,c,rfl,h,k'⟩;exact⟨p,c,rfl,qg h kk.size,k'⟩
   have d7:(jq s.m.next).length<100:=by have:=zn (n:=s.m.next) (by have:=HN.out;omega);unfold jq;simp only[ZY,zX,xU];omega
   have eg:∀(W:World) (v:Value),ja A W (fun _=>False)->W.ownsRow A.heap.size 5 1 v u.length (u.map j6)->Calls prog 114 #[.pointer (some ⟨d,0,none⟩),jd (jq s.m.next),v] W fun e w'=>e = .returned .nilIface/\∃ D,xo A d5 w' D/\DW E B w' D d (yc s.files (jq s.m.next) u) (k+20200):=fun W v kk ah=>by
    have au:=HS.out;rw[<-bv] at au;refine(Ot (f4.same kk) (jq s.m.next) (Ex _) v u (xj ah) (L4 (fun i hi=>(f4.ya i hi).2) ah) (by have:=HK.out;omega) (by have:=yh s.files (jq s.m.next);omega)).mono ?_;rintro e w' ⟨rfl,D,g,D'⟩;exact⟨rfl,D,(xo.of kk (fun _ _ h=>h.elim)).trans g,D'.mono (by omega)⟩
   have df:=jb e5;have f2:=jb ee;have dh:=jb eg;have dg:=jb bv;have kd:ja A A.drew (fun _=>False):=ja.drew _ _;clear e5 ee eg bv ab cx T d7 ae;obtain⟨U,az⟩:∃ U,U=jq s.m.next:=⟨_,rfl⟩;rw[<-az] at df dh;have b9:=jb az;clear az;go_wp2_with fail
   go_cut [9] from 12 (fun s9 wd=>s9 = .nilIface/\∃ D,xo A d5 wd D/\DW E B wd D d (yc s.files U u) (k+20200))
   case first =>
    go_region_law (first
     | (refine jr rfl 115 [.tmp 66] _ rfl tk [ju s.m.next] (by simp[Act.eval,Act.put]) (df.out _ kd) ?_
        rintro e g8 ⟨rfl,ag⟩
        try have ah:=ag.row ah (fun _ _ h=>h)
        have C:=ag.cell C id
        have kd:=kd.tt ag
        refine⟨_,rfl,?_⟩)
     | (refine jr rfl 116 [.tmp 68] _ rfl tn [.slice (some ⟨g0,0,none⟩) ml ak] (by simp[Act.eval,Act.put]) (f2.out _ kd) ?_
        rintro e g8 ⟨pb,cb,rfl,ah,ag⟩
        have C:=ag.cell C id
        have kd:=kd.tt ag
        refine⟨_,rfl,?_⟩)
     | (refine jr rfl 114 [.tmp 65,.tmp 67,.tmp 69] _ rfl ib [.pointer (some ⟨d,0,none⟩),jd U,.slice pb u.length cb] (by simp[Act.eval,Act.put]) (dh.out _ _ kd ah) ?_
        rintro e jv ⟨rfl,d4,dc,dk⟩
        refine⟨_,rfl,?_⟩))
    all_goals
     go_wp2;go_meet
    all_goals exact⟨rfl,_,dc,dk⟩
   case rest =>
    obtain⟨rfl,d4,dc,dk⟩:=hcut;have gB:=gA.trans dc;obtain⟨ad,i9⟩:=gB.row J.out M.nb.1;obtain⟨cq,_⟩:=gB.row ew.out dt;have C:=zA (o:=0) ad;have z2:=zA (o:=2) cq;simp at C z2;have C:wc.drew.cell? ⟨b,0,none⟩=some (.pointer (some ⟨d,0,none⟩)):=C;have z2:wc.drew.cell? ⟨y,2,none⟩=some (jf F):=z2;have cw:=M.env.keep gB.keeps (fun i t=>(M.zw.ya i t).1);have b0:F<=9223372036854775807:=by have:=HN.out;have:=O.out;omega
    have av:∀ W,ja wc W (fun _=>False)->Calls prog 63 #[ju F] W fun e w'=>e = .returned (jd (jx F))/\ja W w' (fun _=>False):=fun W kk=>Qy F b0 (cw.same kk);have d7:(jx F).length<100:=by have:=zn b0;unfold jx;simp only[ZY,zX,xU];omega
    have cj:∀ W,ja wc W (fun _=>False)->Calls prog 114 #[.pointer (some ⟨d,0,none⟩),jd (jx F),.slice none 0 0] W fun e w'=>e = .returned .nilIface/\∃ D,xo wc d4 w' D/\DW E B w' D d (yc (yc s.files U u) (jx F) []) (k+20400):=fun W kk=>by
     have au:=HS.out;rw[<-dg.out] at au
     refine(Ot (dk.same kk) (jx F) (F9 _) _ [] (Kx W) (fun p n c e=>by cases e) (by have:=HK.out;simp only[xU];omega) (by
      have Y:=yh (yc s.files U u) (jx F)
      have X:=Y4 s.files U u
      simp only[xU]
      omega)).mono ?_
     rintro e w' ⟨rfl,D,g,D'⟩;exact⟨rfl,D,(xo.of kk (fun _ _ h=>h.elim)).trans g,D'.mono (by simp only[xU];omega)⟩
    have f3:=jb av;have cz:=jb cj;have bo:ja wc wc.drew (fun _=>False):=ja.drew _ _;clear av cj cw d7 b0 ad cq;obtain⟨ln,b7⟩:∃ ln,ln=jx F:=⟨_,rfl⟩;rw[<-b7] at f3 cz;have ba:=jb b7;clear b7 df f2 dh kd;go_wp2_with fail
    go_cut [10] from 12 (fun s10 wd=>s10 = .nilIface/\∃ D,xo wc d4 wd D/\DW E B wd D d (yc (yc s.files U u) ln []) (k+20400))
    case first =>
     go_region_law (first
      | (refine jr rfl 63 [.tmp 79] _ rfl J7 [ju F] (by simp[Act.eval,Act.put]) (f3.out _ bo) ?_
         rintro e jt ⟨rfl,dy⟩
         have C:=dy.cell C id
         have bo:=bo.tt dy
         refine⟨_,rfl,?_⟩)
      | (refine jr rfl 114 [.tmp 77,.tmp 80,.const (.slice none 0 0)] _ rfl ib [.pointer (some ⟨d,0,none⟩),jd ln,.slice none 0 0] (by simp[Act.eval,Act.put]) (cz.out _ bo) ?_
         rintro e js ⟨rfl,g6,db,dj⟩
         refine⟨_,rfl,?_⟩))
     all_goals
      go_wp2;go_meet
     all_goals exact⟨rfl,_,db,dj⟩
    case rest =>
     obtain⟨rfl,g6,db,dj⟩:=hcut;have V:=gB.trans db;obtain⟨ac,cp⟩:=V.row J.out M.nb.1;obtain⟨G,i7⟩:=V.row ew.out dt;obtain⟨ct,f6⟩:=V.row gt.out gb;have t0:=zA (o:=0) G;have t1:=zA (o:=1) G;have t2:=zA (o:=2) G;have t3:=zA (o:=3) G;have t4:=zA (o:=4) G;simp at t0 t1 t2 t3 t4;have cv:=M.env.keep V.keeps (fun i t=>(M.zw.ya i t).1);have cf:=V.keeps.row bw.out (fun g hg t=>t (af g hg).1);have k1:b<q.heap.size:=ck
     have be:zl wc (.slice p7 (1+j) c7) (s.m.next::s.m.runs):=by
      have Y:(s.m.next::s.m.runs).length=1+j:=by rw[zX,<-aw.out];omega
      exact ze cf Y
     have bg:=S.ok.Je.qn (last:=s.last) S.ok.cap HN.out (by have:=S.ok.Je.log;omega)
     have ec:gv (s.m.qn s.last) (.slice p7 (1+j) c7) = .agg #[jf n2,jf s.last,jf F,jf s.m.base,.slice p7 (1+j) c7]:=by
      have e2:n2=s.m.next+2:=by have:=O.out;have:=f1.out;omega
      rw[e2,O.out];rfl
     have ce:=Rf.Man.Qj s.m s.last
     have b8:=rk dj cv (s.m.qn s.last) bg (by show(s.m.next::s.m.runs).length<65536;have:=HR.out;simp;omega) (.slice p7 (1+j) c7) be (fun p n c e=>by
      have N:(Value.slice p7 (1+j) c7).ownBlock=some p.block:=by rw[e];rfl
      have Y:=af _ N
      have X:=(bw.out.lt _ N).2
      rw[V.role _ X]
      exact⟨Y.1,by omega⟩) ac cp M.nb.2 (fun n r=>by
      unfold j8 at r
      rw[ce] at r
      rcases ZD.1 r with r|r
      ·rw[zI] at r
       rcases zH.1 r with e|r
       ·rw[e,<-b9.out]
        by_cases he:U=ln
        ·exact⟨[],yl.2 (.inl (by rw[he]))⟩
        ·exact⟨u,yl.2 (.inr ⟨yl.2 (.inl rfl),he⟩)⟩
       ·obtain⟨c,hc⟩:=S.ok.there n (ZD.2 (.inl r))
        by_cases he:n=ln
        ·exact⟨[],yl.2 (.inl (by rw[he]))⟩
        ·by_cases he2:n=U
         ·exact⟨u,yl.2 (.inr ⟨yl.2 (.inl (by rw[he2])),he⟩)⟩
         ·exact⟨c,yl.2 (.inr ⟨yl.2 (.inr ⟨hc,he2⟩),he⟩)⟩
      ·have e:n=ln:=by rw[ZE.1 r,ba.out,O.out];rfl
       exact⟨[],yl.2 (.inl (by rw[e]))⟩) (by
      have au:=HS.out
      rw[<-dg.out] at au
      have Y:=yh (yc (yc s.files U u) ln []) xx
      have X:=Y4 (yc s.files U u) ln []
      have h3:=Y4 s.files U u
      simp only[xU] at X
      omega) (by have:=HK.out;omega)
     rw[ec] at b8;have fl:=jb b8;have fg:=jb ct;clear b8 be cf bg ec ce cv ac G ct C z2;go_wp2_with fail;refine fl.out.mono ?_;rintro e d6 ⟨rfl,d3,bp,R,hl,z⟩;have eu:=zA (o:=7) z;have gp:=zB (o:=7) z;simp at eu;obtain⟨f,aa⟩:∃ f,f=d6.setCell ⟨b,7,none⟩ (.slice none 0 0):=⟨_,rfl⟩;have ap:ja d6 f (fun i=>i=b):=by rw[aa];exact ja.setCell d6 ⟨b,7,none⟩ _
     have L:f.heap[b]?=some (.cells (qe (.pointer (some ⟨d,0,none⟩)) (jf (s.m.qn s.last).next) (jf (s.m.qn s.last).last) (jf (s.m.qn s.last).log) (jf (s.m.qn s.last).base) (.slice p7 (1+j) c7) (jf s.last) (.slice none 0 0) false false) 121 (0,0)):=by rw[aa];exact(jc z _).trans rfl
     have e0:x≠b:=fun e=>by have:=S.blt;omega
     have cs:f.heap[x]?=some (.cells #[jf s.m.next,jf s.m.last,jf s.m.log,jf s.m.base,.slice pr j cr] 117 (0,0)):=ap.same (bp.same fg.out (fun t=>t.elim (fun t=>t f6) e0)) e0;have c0:b<wc.heap.size:=zT S.blt (ZF an.size V.keeps.size);have co:d3 b = .none:=(R b c0).trans cp;have di:DW E B f d3 d (yc (jo (yc (yc s.files U u) ln []) xx) jw (s.m.qn s.last).bytes) (k+20400+22+(s.m.qn s.last).bytes.length):=hl.keep ap (fun i _ e=>by rw[e];exact⟨co,S.nb.2⟩)
     have dv:ja w f (StF ρ b mv):=by
      refine(((an.up).trans V.keeps (fun i _ h=> .inl h)).trans bp (fun i hi h=>?_)).trans ap (fun i _ e=> .inr (.inl e));rcases h with h|h
      ·exact .inl (by rw[<-V.role i (zT hi an.size)];exact h)
      ·exact .inr (.inl h)
     have cu:Env E B f:=S.env.keep (dv.mono (fun i hi h=>(show B<=i from(StF.old S h).1))) (fun i h=>h);have C:=zA (o:=0) L;have z2:=zA (o:=2) cs;simp at C z2;rw[<-bx.out] at z2;have C:f.drew.cell? ⟨b,0,none⟩=some (.pointer (some ⟨d,0,none⟩)):=C;have z2:f.drew.cell? ⟨x,2,none⟩=some (jf lo):=z2;have av:∀ W,ja f W (fun _=>False)->Calls prog 63 #[ju lo] W fun e w'=>e = .returned (jd (jx lo))/\ja W w' (fun _=>False):=fun W kk=>Qy lo bi.out (cu.same kk)
     have eq:(jx lo,Rf.jl s.m.last s.bs)∈yc (jo (yc (yc s.files U u) ln []) xx) jw (s.m.qn s.last).bytes:=by
      refine yl.2 (.inr ⟨xf.2 ⟨yl.2 (.inr ⟨yl.2 (.inr ⟨xi.2 (.inr (.inl (by rw[bx.out]))),?_⟩),?_⟩),?_⟩,?_⟩)
      ·rw[b9.out];exact Yh _ _
      ·intro e
       rw[ba.out] at e;have Y:=Bv e;have X:=bx.out;have h3:=O.out;have h4:=S.ok.Je.log;omega
      ·exact fun e=>uz _ e.symm
      ·exact fun e=>dw _ e.symm
     have f9:=yg (s.m.qn s.last);have f8:(s.m.qn s.last).runs.length<65000:=by show(s.m.next::s.m.runs).length<65000;have:=HR.out;simp;omega
     have fd:(s.m.qn s.last).bytes.length<=20000:=by have:=HS.out;omega
     have e6:∀(W:World) (v:Value),ja f W (fun _=>False)->W.ownsRow f.heap.size 9 1 v 1 ([jx lo].map jd)->Calls prog 118 #[.pointer (some ⟨d,0,none⟩),v] W fun e w'=>e = .returned .nilIface/\∃ D,xo f d3 w' D/\DW E B w' D d (Gi s) (k+50000):=fun W v kk l=>by
      refine(Ff (di.same kk) (by have:=HK.out;omega) v [jx lo] f.heap.size l (fun g hg=>yG (fun r=>by have:=(l.lt g hg).1;have:=(di.ya g r).2;omega)) (fun n r=>by rw[ZE.1 r];exact Xi bi.out) (by simp) (by simp) (fun n r=>by rw[ZE.1 r];exact⟨_,eq⟩)).mono ?_;rintro e w' ⟨rfl,D,g,D'⟩;refine⟨rfl,D,(xo.of kk (fun _ _ h=>h.elim)).trans g,?_⟩;have f5:=D'.mono (m:=k+50000) (by simp only[xC];omega)
      have ev:(yc (jo (yc (yc s.files U u) ln []) xx) jw (s.m.qn s.last).bytes).filter (fun p=>decide (p.1∉[jx lo]))=Gi s:=by
       unfold Gi;rw[bx.out,b9.out,dg.out,ba.out,O.out]
      rw[ev] at f5;exact f5
     have fk:=jb av;have gz:=jb e6;have c8:=jb L;have am:ja f f.drew (fun _=>False):=ja.drew _ _;clear av e6 eq f9 f8 fd z cs L t0 t1 t2 t3 t4;go_wp2_with fail;rw[<-aa];clear aa eu gp
     go_region_law (first
      | (refine jr rfl 63 [.tmp 100] _ rfl J7 [ju lo] (by simp[Act.eval,Act.put]) (fk.out _ am) ?_
         rintro e bn ⟨rfl,dx⟩
         have C:=dx.cell C id
         have am:=am.tt dx
         have k5:∀ o1,(bn.alloc o1).cell? ⟨b,0,none⟩=some (.pointer (some ⟨d,0,none⟩)):=fun o1=>(ja.alloc bn o1 (fun _=>False)).cell C id
         have h9:=jb (World.ownsRow_lit (base:=f.heap.size) (e:=9) (size:=1) bn #[jd (jx lo)] 1 am.size (by unfold maxLen;omega) rfl)
         refine⟨_,rfl,?_⟩)
      | (refine jr rfl 118 [.tmp 98,.tmp 102] _ rfl lh [.pointer (some ⟨d,0,none⟩),.slice (some ⟨bn.heap.size,0,none⟩) 1 1] (by simp[Act.eval,Act.put]) (gz.out _ _ (am.more _) h9.out) ?_
         rintro e jp ⟨rfl,ds,aj,hh⟩
         refine⟨_,rfl,?_⟩))
     all_goals
      go_wp2;go_ret;have cg:=S.ok.flush (by have:=S.few;omega) HN.out (by have:=S.ok.Je.log;omega) (by have:=HR.out;omega);have hf:=hh.perm (Pf S.ok bt cg);have ef:s.flush=⟨s.m.qn s.last,[],s.mem::s.bls⟩:=by unfold Rf.St.flush;rw[if_neg bt]
      have jy:=an.size;have ga:=V.keeps.size;have i6:=bp.size;have i5:=ap.size;have cc:=(((V.keeps.mono (fun i _ h=>(Or.inl h:ρ i≠ .none\/i=b))).trans bp (fun i hi h=>h.imp (fun h=>by rw[<-V.role i hi];exact h) id)).trans ap (fun i _ e=> .inr e)).trans aj.keeps (fun i hi t=> .inl (by rw[<-V.role i hi,<-R i (zT hi ga)];exact t));have gl:∀ i,i<w.heap.size->ds i=ρ i:=fun i hi=>(aj.role i (by omega)).trans ((R i (by omega)).trans (V.role i (by omega)));have gk:=cc.row bw.out (fun g hg t=>t.elim (fun t=>t (af g hg).1) (fun e=>by have:=(af g hg).2;omega));have Y:(s.m.next::s.m.runs).length=1+j:=by rw[zX,<-aw.out];omega
      obtain⟨bz,ff⟩:=aj.row c8.out co;refine⟨rfl,ds,.slice p7 (1+j) c7,.slice none 0 0,⟨cu.keep aj.keeps (fun i t=>(di.ya i t).1),hf,?_,?_,?_,⟨ff,S.nb.2⟩,?_,fun g hg=>(by cases hg),cg,?_⟩,dv.trans aj.keeps (fun i hi t=> .inl ?_),gl,fun g hg=>(by cases hg),fun p n c e=> .inr (by have X:=(af p.block (by rw[e];rfl)).2;have h6:=H.size;omega)⟩
      ·rw[ef]
       exact bz
      ·rw[ef]
       exact ze gk Y
      ·rw[ef]
       exact zS _ _ _ _
      ·intro p n c e
       have N:(Value.slice p7 (1+j) c7).ownBlock=some p.block:=by rw[e];rfl
       have X:=af _ N;have h3:=(bw.out.lt _ N).2;have h4:=cc.size;have h5:=S.zw.size;have h6:=H.size;refine⟨?_,by omega,by omega,fun h=>(by cases h),by omega⟩;rw[aj.role _ (by omega),R _ (by omega),V.role _ h3];exact X.1
      ·rw[ef]
       exact ZG _
      ·rw[<-V.role i (by omega),<-R i (by omega)]
       exact t
end Go.Proofs.YtnipbplghijdmaaGreatDoor
namespace Go.Proofs.YtnipbplghijdmaaGreatDoor
open RowKit Maps WideShapes Go.Proofs.Tryz
variable {V:List (Str×List UInt8)} {B b d k:Nat} {l:List Rf.Ch} {s:Rf.St} {E:Nat->Addr} {w:World} {mv rv:Value}
def ie(V:List (Str×List UInt8))(k:Nat)(S:jh):Prop:=Jl S/\View S V/\Fit k S
theorem ie.called{S:jh}(h:ie V k S):ie V k (S.called false):=⟨h.1.called _,h.2.1.called _,h.2.2.called _⟩
theorem Fv(h:Rf.mo l):Rf.Laid (Rf.chunks l):=by
 refine Rf.Ou h.some h.allowed h.rising ?_ (by have:=h.few;omega);have b:=Rf.Qk h.allowed ((l.length+3)/4);unfold Rf.qh at b;rw[<-Rf.Xl,zW] at b;have c:=Rf.Xl l;have:=h.few;omega
theorem jah{α β:Type}:∀ {l:List α} {m:List β} {k:Nat} {a:α} {b:β},l[k]?=some a->m[k]?=some b->(a,b)∈l.zip m
 | x::r,y::q,0,a,b,h1,h2=>by cases h1;cases h2;simp
 | x::r,y::q,k+1,a,b,h1,h2=>by
  rw[yC] at h1 h2
  exact xI _ (jah h1 h2)
 | [],_,_,_,_,h1,_=>by cases h1
 | x::r,[],_,_,_,_,h2=>by cases h2
theorem vf(h:s.Ok)(q:∀ p∈j9 s.m.settled s.bls,p∈V)(o:k<549755813888):cu (ie V k) s.m.settled (s.bls.map Rf.chunks):=by
 refine⟨by rw[ZM];exact h.len,fun n hn=>?_,fun bl hbl=>?_,fun i n bl hn hbl S hS=>?_,fun S hS=>⟨hS.called,hS.2.2.small o⟩⟩
 ·have c:=h.au hn
  have d:=h.Je.1;omega
 ·obtain⟨l,b,rfl⟩:=ZN.1 hbl
  have g:=h.bl l b;have c:=Rf.mc g.allowed;have d:=g.few;refine⟨?_,?_,Fv g⟩
  ·have j:(Rf.zm (Rf.chunks l)).length<=67*l.length+300:=c
   omega
  ·rw[Rf.Qd]
   omega
 ·rw[zJ] at hbl
  obtain⟨l,b,rfl⟩:=xF.1 hbl;obtain⟨f,a,c,d,j⟩:=hS.2.1.get (q _ (kn.2 ⟨(n,l),jah hn b,rfl⟩));exact⟨Fv (h.bl l (XU b)),f,a,c,d,j⟩
theorem Iy(hi:Str)(c:Jh)(r:List Jh)(S:jh):j2 hi (c::r) S =
 (match Zm hi (c S)with
  | none=>((c S).1,.inr ((c S).2.2.getD false))
  | some l=>match j2 hi r (c S).1 with|(S2,.inl ls)=>(S2,.inl (l::ls))|(S2,.inr b)=>(S2,.inr b)):=rfl
theorem Gf(hi lo:Str)(bls:List (List (List Rf.Ch))):∀ {S:jh},ie V k S->∃ S',ie V k S'/\j2 hi (yi bls lo) S=(S',.inl (bls.map (fun bl=>Ys hi (bl.flatten.filter (Rf.j7 lo))))):=by
 induction bls with
 | nil=>intro S h;exact⟨S,h,rfl⟩
 | cons bl r ih =>
  intro S h;obtain⟨S',c,e⟩:=ih h.called;refine⟨S',c,?_⟩;have b:=h.1.bad
  have f:gn bl lo S=(S.called false,bl.flatten.filter (Rf.j7 lo),none):=by
   unfold gn Au fi;rw[b];rfl
  show j2 hi (gn bl lo::yi r lo) S=_;unfold j2;rw[f];have d:Zm hi (S.called false,bl.flatten.filter (Rf.j7 lo),none)=some (Ys hi (bl.flatten.filter (Rf.j7 lo))):=by unfold Zm;rw[if_pos (.inl rfl)]
  rw[d];simp only[e];rfl
theorem Wx(lo:Str)(bls:List (List (List Rf.Ch))):∀ {S:jh},ie V k S->(Xr (yi bls lo) S).2=none:=by
 induction bls with
 | nil=>intro S h;rfl
 | cons bl r ih =>
  intro S h;have b:=h.1.bad;show(Xr (gn bl lo::yi r lo) S).2=none;rw[ll];have c:(gn bl lo S).2.2=none:=by unfold gn fi;rw[b];rfl
  rw[c];exact ih h.called
def Zf(lo hi k:Str):Bool:=decide (¬k<lo)&&(decide (hi=[])||decide (k<hi))
theorem Mz(h:Rf.jy l)(hi:Str):Ys hi l=l.filter (wy hi):=Rf.takeWhile_filter h hi
theorem Bs(h:Rf.jy l)(lo hi:Str):Ys hi (l.filter (Rf.j7 lo))=l.filter (fun c=>Zf lo hi c.key):=by
 rw[Mz (Rf.Y6 h _),yB];refine List.filter_congr (fun c _=>?_);unfold wy Rf.j7 Zf;rw[Bool.and_comm]
theorem Sh(l:List Rf.Ch):kept l=Rf.there l:=rfl
theorem jbq(h:s.Ok):∀ l∈s.bls,Rf.jy l:=fun l hl=>(h.bl l hl).rising
theorem Ub(h:s.Ok)(lo hi:Str):(s.bls.map Rf.chunks).map (fun bl=>Ys hi (bl.flatten.filter (Rf.j7 lo)))=s.bls.map (fun l=>l.filter (fun c=>Zf lo hi c.key)):=by
 rw[List.map_map];refine zF (fun l hl=>?_);show Ys hi ((Rf.chunks l).flatten.filter (Rf.j7 lo))=_;rw[Rf.Qd,Bs (jbq h l hl)]
theorem jc3(h:s.Ok)(lo hi:Str)(most:Nat):(kept (Rf.merged (s.mem.filter (fun c=>Zf lo hi c.key)::s.bls.map (fun l=>l.filter (fun c=>Zf lo hi c.key))))).take most=Rf.Zw s.all lo hi most:=by
 have e:=Rf.sx (ls:=s.mem::s.bls) (fun l b=>by
  rcases zH.1 b with rfl|b
  ·exact Rf.yv _
  ·exact jbq h l b) (Zf lo hi)
 rw[zI] at e;rw[e,Sh];unfold Rf.Zw Rf.there Rf.Xy Rf.St.all;rw[yB,yB];congr 1;refine List.filter_congr (fun c _=>?_);unfold Zf;rw[Bool.and_comm]
theorem N7(h:s.Ok)(lo hi:Str):(Rf.merged (s.mem.filter (fun c=>Zf lo hi c.key)::s.bls.map (fun l=>l.filter (fun c=>Zf lo hi c.key)))).length<=s.all.length:=by
 have e:=Rf.sx (ls:=s.mem::s.bls) (fun l b=>by
  rcases zH.1 b with rfl|b
  ·exact Rf.yv _
  ·exact jbq h l b) (Zf lo hi)
 rw[zI] at e;rw[e];exact XF _ _
theorem Km(h:s.Ok)(g:s.mem.length<60000):il s.mem:=by
 refine⟨Rf.yv _,fun c hc e=>?_,by omega⟩;obtain⟨b,f,d⟩:=Rf.ud hc;have:=(Rf.xz c).1 (((Rf.yd b).1 (h.log b f)).2.2 c d);rw[e] at this;exact absurd this.1 (by decide)
theorem jb5{ρ:Nat->jz}(S:qz E B w ρ d b s k rv mv)(r:k<549755813888)(C:(Rf.merged s.bls).length<60000) :
 Calls prog 119 #[.pointer (some ⟨b,0,none⟩)] w fun e w'=>∃ v,e = .returned (.tuple #[v,.nilIface])/\w'.ownsRow w.heap.size 88 3 v s.live.length (jg s.live)/\xo w ρ w' ρ/\DW E B w' ρ d s.files k:=by
 obtain⟨T,D,y,x,u⟩:=S.zw;have n:ie s.files k T:=⟨y,x,u⟩;have R:=vf S.ok (V:=s.files) (fun p hp=>xi.2 (.inr (.inr hp))) r;obtain⟨T',g,e⟩:=Gf [] [] (s.bls.map Rf.chunks) n
 have z:(s.bls.map Rf.chunks).map (fun bl=>Ys [] (bl.flatten.filter (Rf.j7 [])))=s.bls:=by
  rw[Ub S.ok];have:∀ l∈s.bls,l.filter (fun c=>Zf [] [] c.key)=l:=fun l _=>yA.2 (fun c _=>by simp[Zf]);rw[zF this,List.map_id']
 rw[z] at e;have j:Qt (j2 [] (yi (s.bls.map Rf.chunks) []) T)=Rf.merged s.bls:=by rw[e];rfl
 have t:Cs (j2 [] (yi (s.bls.map Rf.chunks) []) T)=none:=by rw[e];rfl
 have A:=S.ok.runs;refine(jb6 s.m rv (jf s.last) mv false false (s.bls.map Rf.chunks) S.env D n R S.row S.runs (by omega) (by rw[j];omega)).mono ?_;rintro G w' ⟨v,F,rfl,q,o,⟨rfl,_,i⟩|⟨bad,f,_⟩⟩
 ·rw[j] at i
  refine⟨v,rfl,i,⟨q,fun _ _=>rfl⟩,T',?_,g.1,g.2.1,g.2.2⟩;rw[e] at o;exact o
 ·rw[t] at f
  cases f
theorem qz.read{f:World}{ρ:Nat->jz}(S:qz E B w ρ d b s k rv mv)(l:ja w f (fun i=>j5 ρ i\/i=b))(D:DW E B f ρ d s.files k)(j:f.heap[b]?=some (.cells (Du d s.m rv s.last mv) 121 (0,0))) :
 qz E B f ρ d b s k rv mv/\ja w f (StF ρ b mv):=by
 have r:ja w f (StF ρ b mv):=l.mono (fun i _ h=>h.imp id .inl);refine⟨⟨S.env.keep (r.mono (fun i hi h=>(show B<=i from(StF.old S h).1))) (fun i h=>h),D,j,S.runs.keep l (fun _ p n c e t=>?_),l.row S.mem (fun g hg t=>?_),S.nb,fun p n c e=>?_,S.nm,S.ok,S.few⟩,r⟩
 ·obtain⟨q,o,x,v,u⟩:=S.nr p n c e
  exact t.elim (fun t=>t q) o
 ·exact t.elim (fun t=>t (S.nm g hg).1) (S.nm g hg).2
 ·obtain⟨q,o,x,v,u⟩:=S.nr p n c e
  exact⟨q,o,x,v,zT u l.size⟩
theorem jfh{ρ:Nat->jz}(S:qz E B w ρ d b s k rv mv)(F:k<549755813888)(O:s.all.length<1048576)(lo hi:Str)(most:Nat)(g:most<9223372036854775808) :
 Calls prog 29 #[.pointer (some ⟨b,0,none⟩),jd lo,jd hi,ju most] w fun e w'=>(∃ v,e = .returned (.tuple #[v,.int .i64 0])/\w'.ownsRow w.heap.size 65 2 v (Rf.Zw s.all lo hi most).length (yy (Rf.Zw s.all lo hi most)))/\qz E B w' ρ d b s k rv mv/\ja w w' (StF ρ b mv):=by
 obtain⟨T,D,J,I,H⟩:=S.zw;have y:ie s.files k T:=⟨J,I,H⟩;have R:=vf S.ok (V:=s.files) (fun p hp=>xi.2 (.inr (.inr hp))) F;obtain⟨T',f,e⟩:=Gf hi lo (s.bls.map Rf.chunks) y;rw[Ub S.ok] at e;have r:s.mem.drop (Rf.below s.mem lo)=s.mem.filter (Rf.j7 lo):=Rf.ui (Rf.yv _) lo
 have o:j2 hi (Yf (s.mem.drop (Rf.below s.mem lo))::yi (s.bls.map Rf.chunks) lo) T=(T',.inl (s.mem.filter (fun c=>Zf lo hi c.key)::s.bls.map (fun l=>l.filter (fun c=>Zf lo hi c.key)))):=by
  rw[Iy]
  have M:Zm hi (Yf (s.mem.drop (Rf.below s.mem lo)) T)=some (s.mem.filter (fun c=>Zf lo hi c.key)):=by
   unfold Zm Yf;rw[if_pos (.inl rfl),r];show some (Ys hi (s.mem.filter (Rf.j7 lo)))=_;rw[Bs (l:=s.mem) (Rf.yv _)]
  have L:(Yf (s.mem.drop (Rf.below s.mem lo)) T).1=T:=rfl;rw[M,L,e]
 have N:=S.ok.runs;have x:Qt (j2 hi (Yf (s.mem.drop (Rf.below s.mem lo))::yi (s.bls.map Rf.chunks) lo) T)=Rf.merged (s.mem.filter (fun c=>Zf lo hi c.key)::s.bls.map (fun l=>l.filter (fun c=>Zf lo hi c.key))):=by rw[o];rfl
 have G:Cs (j2 hi (Yf (s.mem.drop (Rf.below s.mem lo))::yi (s.bls.map Rf.chunks) lo) T)=none:=by rw[o];rfl
 have A:=N7 S.ok lo hi;refine(jaz s.m rv (jf s.last) mv s.mem false (s.bls.map Rf.chunks) S.env D y R S.row (fun h=>h S.nb.1) S.nb.2 S.runs (by omega) (xw S.mem) (Km S.ok S.few) (fun p n c e=>?_) lo hi most g (by rw[x];omega)).mono ?_
 ·have i:mv.ownBlock=some p.block:=by rw[e];rfl
  exact⟨fun t=>t (S.nm _ i).1,(S.mem.lt _ i).2⟩
 ·rintro U w' ⟨C,z,⟨v,rfl,_,u,j⟩|⟨q,_,_⟩⟩
  ·rw[x,jc3 S.ok] at u
   rw[o] at z;exact⟨⟨v,rfl,u⟩,S.read C ⟨T',z,f.1,f.2.1,f.2.2⟩ j⟩
  ·exact(q G).elim
theorem Wh(h:Rf.jy l)(key:Str):(l.filter (Rf.j7 key)).head?.filter (fun c=>decide (c.key=key))=Rf.xh l key:=by
 have e:l.filter (Rf.j7 key)=l.drop (Rf.below l key):=(Rf.ui h key).symm;rw[e,List.head?_drop,Rf.Wi h]
theorem B5{key:Str}{d:Jh}{r:List Jh}{S:jh}{T:jh}(h:Rf.jy l)(e:d S=(T,l.filter (Rf.j7 key),none)) :
 zx key (d::r) S=(match Rf.xh l key with|some c=>(T,.inl (some c))|none=>zx key r T):=by
 have b:=Wh h key;rw[ed,e]
 cases hc:l.filter (Rf.j7 key)with
 | nil =>
  rw[hc] at b;rw[<-b];rfl
 | cons c q =>
  rw[hc] at b;rw[<-b];by_cases hk:c.key=key
  ·simp[hk,Option.filter]
  ·simp[hk,Option.filter]
theorem Sz(key:Str):∀(ls:List (List Rf.Ch)),(∀ l∈ls,Rf.jy l)->∀ {S:jh},ie V k S->(zx key (yi (ls.map Rf.chunks) key) S).2 = .inl (Rf.lf ls key):=by
 intro ls
 induction ls with
 | nil=>intro _ S _;rfl
 | cons l r ih =>
  intro b S h;have d:=h.1.bad
  have f:gn (Rf.chunks l) key S=(S.called false,l.filter (Rf.j7 key),none):=by
   unfold gn Au fi;rw[d,Rf.Qd];rfl
  show(zx key (gn (Rf.chunks l) key::yi (r.map Rf.chunks) key) S).2=_;rw[B5 (b l xJ) f,Rf.Q9]
  cases hg:Rf.xh l key with
  | some c=>rfl
  | none=>exact ih (fun x hx=>b x (xI _ hx)) h.called
theorem jcl(h:s.Ok)(key:Str){S:jh}(g:ie V k S):(zx key (Yf (s.mem.drop (Rf.below s.mem key))::yi (s.bls.map Rf.chunks) key) S).2 = .inl (Rf.xh s.all key):=by
 have f:s.mem.drop (Rf.below s.mem key)=s.mem.filter (Rf.j7 key):=Rf.ui (Rf.yv _) key
 have b:∀ l∈s.mem::s.bls,Rf.jy l:=fun l d=>by
  rcases zH.1 d with rfl|d
  ·exact Rf.yv _
  ·exact jbq h l d
 rw[B5 (l:=s.mem) (T:=S) (Rf.yv _) (by unfold Yf;rw[f])];unfold Rf.St.all;rw[Rf.Ym b,Rf.Q9]
 cases hg:Rf.xh s.mem key with
 | some c=>rfl
 | none=>exact Sz key s.bls (jbq h) g
theorem jgj{ρ:Nat->jz}(S:qz E B w ρ d b s k rv mv)(r:k<549755813888)(key:Str) :
 Calls prog 33 #[.pointer (some ⟨b,0,none⟩),jd key] w fun e w'=>e = .returned (.tuple #[jd (Iw (Rf.xh s.all key)).1,.bool (Iw (Rf.xh s.all key)).2,.int .i64 0])/\qz E B w' ρ d b s k rv mv/\ja w w' (StF ρ b mv):=by
 obtain⟨T,D,x,v,u⟩:=S.zw;have j:ie s.files k T:=⟨x,v,u⟩;have R:=vf S.ok (V:=s.files) (fun p hp=>xi.2 (.inr (.inr hp))) r;have z:=S.ok.runs;refine(jei s.m rv (jf s.last) mv s.mem false (s.bls.map Rf.chunks) S.env D j R S.row (fun h=>h S.nb.1) S.nb.2 S.runs (by omega) (xw S.mem) (Km S.ok S.few) (fun p n c e=>?_) key).mono ?_
 ·have g:mv.ownBlock=some p.block:=by rw[e];rfl
  exact⟨fun t=>t (S.nm _ g).1,(S.mem.lt _ g).2⟩
 ·rintro A w' ⟨q,y,l,⟨o,f,rfl,i⟩|⟨bad,f,_⟩⟩
  ·rw[jcl S.ok key j] at f
   cases f;exact⟨rfl,S.read q ⟨_,y,l.1,l.2.1,l.2.2⟩ i⟩
  ·rw[jcl S.ok key j] at f
   cases f
end Go.Proofs.YtnipbplghijdmaaGreatDoor

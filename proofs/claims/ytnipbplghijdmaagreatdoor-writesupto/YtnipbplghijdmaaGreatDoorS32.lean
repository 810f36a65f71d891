/-
  S: OpenW OwnW KeepA KeepC Fine ScanNeg PartsB LayP FullG.
-/
import Derived.Test.YtnipbplghijdmaaGreatDoorS31
set_option maxRecDepth 100000
set_option maxHeartbeats 8000000
set_option linter.unusedVariables false
set_option linter.unusedSimpArgs false
namespace Go.Proofs.YtnipbplghijdmaaGreatDoor
open RowKit Maps WideShapes Go.Proofs.Tryz
variable {E:Nat->Addr} {B b d k:Nat} {w:World} {V:List (Str×List UInt8)}
theorem sj(b x:Nat)(u:FrameMode)(w:World)(h:w.cell? ⟨x,0,none⟩=some .nilIface) :
 CallsD prog 127 #[.pointer (some ⟨b,0,none⟩),.pointer (some ⟨x,0,none⟩)] u w fun e u' w'=>u'=u/\e = .returned (.tuple #[])/\w'=w:=by
 go_enter_d func127,ntmps127;go_wp2;go_end0;exact⟨rfl,rfl⟩
theorem Ob{ρ:Nat->jz}(D:DW E B w ρ d V k)(H:Env E B w)(hk:k+V.length<530000000000)(ai:∀ c,(jw,c)∉V)(hb:w.heap[b]?=some (.cells (newRow d) 121 (0,0)))(R:ρ b = .none)(a2:B<=b) :
 Calls prog 83 #[.pointer (some ⟨b,0,none⟩)] w fun e w'=>e = .returned .nilIface/\Zr E B w ρ d b Rf.St.first (k+V.length+1000) w':=by
 obtain⟨x,hx⟩:∃ x,x=w.heap.size:=⟨_,rfl⟩;obtain⟨w1,q⟩:∃ w1,w1=w.alloc (.cells #[.nilIface] 128):=⟨_,rfl⟩;have k1:ja w w1 (fun _=>False):=by rw[q];exact ja.alloc _ _ _
 have a0:w1.heap[x]?=some (.cells #[.nilIface] 128 (0,0)):=by rw[q,hx];exact je _ _
 have G:=k1.same hb id;have b1:=zC hb;have l:ρ x = .none:=yG (fun hn=>by have:=(D.ya x hn).2;omega);have D1:=D.same k1;have U:=Nz D1 (by omega) jw (by decide) ai;have c0:=zA (o:=0) G;simp at c0
 have aj:∀ o,(w.alloc o).cell? ⟨b,0,none⟩=some (.pointer (some ⟨d,0,none⟩)):=fun o=>by
  have:=zA (o:=0) ((ja.alloc w o (fun _=>False)).same hb id);simpa using this
 have am:=jb U;have M:=jb hx;have al:=jb a0;have ap:=jb G;have HK:=jb hk;clear U hx a0 G hb hk;go_enter_defers func83,ntmps83;go_wp2_with fail;rw[<-q,<-M.out];clear q aj;refine am.out.mono ?_;rintro e w2 ⟨g2,D2,v2,rfl,C⟩;obtain⟨tv,av,rfl⟩:=C.shape;have j:=(g2.row al.out l).1;have Z:=(g2.row ap.out R).1;have z:x≠b:=by have:=M.out;omega
 obtain⟨s,m⟩:∃ s,s=w2.setCell ⟨x,0,none⟩ (.iface tv (.pointer (some av))):=⟨_,rfl⟩;have k3:ja w2 s (fun i=>i=x):=by rw[m];exact ja.setCell w2 ⟨x,0,none⟩ _
 have J:s.heap[x]?=some (.cells #[.iface tv (.pointer (some av))] 128 (0,0)):=by rw[m];exact(jc j _).trans rfl
 have Y:=k3.same Z (Ne.symm z);have a1:B<=x:=by rw[M.out];exact D.size
 have D3:DW E B s ρ d V k:=D2.keep k3 (fun i _ e=>by rw[e];exact⟨l,a1⟩);have T:Err E s (.iface tv (.pointer (some av))) 2:=C.keep k3 (fun i c e hc=>by rw[e,j] at hc;cases hc);have F:=jfv D3.Qh T 2 (by decide);rw[decide_eq_true rfl] at F;have gc:=D3.Qh.cell 2 (by decide);have bd:=D2.Qh.cell 2 (by decide);have bc:=D2.Qh.lt 2 (by decide);have b0:¬x=2:=by omega
 have az:¬2=x:=by omega
 have x2:=zA (o:=0) j;have f2:=zB (o:=0) j;have x3:=zA (o:=0) J;simp at x2 x3;have y:ja w s (fun i=>ρ i≠ .none\/i=b):=((k1.up).trans g2.keeps (fun i _ h=> .inl h)).trans k3 (fun i hi e=>by have:=M.out;omega);have E3:Env E B s:=H.keep (y.mono (fun i hi h=>(show B<=i from h.elim (fun h=>(D.ya i h).1) (fun h=>by rw[h];exact a2)))) (fun i h=>h);have X:=jew D3 E3 HK.out Y R a2;have an:=jb F;have ao:=jb X;have a3:=jb J;clear F X j J Z Y C T c0;go_wp2_with fail;rw[<-m];clear m;refine an.out.mono ?_;rintro e w4 ⟨rfl,rfl⟩;go_wp2_with fail;refine ao.out.mono ?_;rintro e w5 ⟨rfl,ρ5,N,O,S5,k5,S,W,u⟩;have r:=k5.same a3.out (fun t=>t.elim (fun t=>t l) z);have x5:=zA (o:=0) r;have f5:=zB (o:=0) r;simp at x5;obtain⟨L,A⟩:∃ L,L=w5.setCell ⟨x,0,none⟩ .nilIface:=⟨_,rfl⟩;have k6:ja w5 L (fun i=>i=x):=by rw[A];exact ja.setCell w5 ⟨x,0,none⟩ _
 have I:L.heap[x]?=some (.cells #[.nilIface] 128 (0,0)):=by rw[A];exact(jc r _).trans rfl
 have x6:=zA (o:=0) I;simp at x6;have a4:x<w4.heap.size:=zC a3.out
 have S6:qz E B L ρ5 d b Rf.St.first (k+V.length+1000) N O:=S5.keep k6 (fun i _ e=>by
  rw[e]
  refine⟨a1,fun t=>?_,fun p n c e2 e3=>?_⟩
  ·rcases t with t|t|t
   ·rw[S x a4] at t;exact t l
   ·exact z t
   ·have:=W x t;omega
  ·have:=u p n c e2;omega)
 have v:Zr E B w ρ d b Rf.St.first (k+V.length+1000) L:=by
  have bb:=y.size;refine⟨ρ5,N,O,S6,(y.trans k5 (fun i hi h=>h)).trans k6 (fun i hi e=>by have:=M.out;omega),fun i hi=>S i (by omega),fun g hg=>by have:=W g hg;omega,fun p n c e=>by have:=u p n c e;omega⟩
 have a5:=jb v;have ak:=jb I;clear v r I;go_wp2;rw[<-A];refine leaves_cons (f:=127) (args:=#[.pointer (some ⟨b,0,none⟩),.pointer (some ⟨x,0,none⟩)]) (by simp) (by simp[go_sem]) ?_;refine(sj b x .returning _ x6).mono ?_;rintro e u' w' ⟨rfl,rfl,rfl⟩;exact⟨.nilIface,dr rfl rfl ak.out,rfl,a5.out⟩
theorem Oa{ρ:Nat->jz}(D:DW E B w ρ d V k)(H:Env E B w)(hk:k+V.length<530000000000)(s:Rf.St)(ok:s.Ok)(hV:∀ p∈s.files,p∈V)(X:j3 V<=20000)(A:s.mem.length<60000)(hb:w.heap[b]?=some (.cells (newRow d) 121 (0,0)))(U:ρ b = .none)(a6:B<=b) :
 Calls prog 83 #[.pointer (some ⟨b,0,none⟩)] w fun e w'=>e = .returned .nilIface/\Zr E B w ρ d b s (k+V.length) w':=by
 obtain⟨x,hx⟩:∃ x,x=w.heap.size:=⟨_,rfl⟩;obtain⟨w1,q⟩:∃ w1,w1=w.alloc (.cells #[.nilIface] 128):=⟨_,rfl⟩;have k1:ja w w1 (fun _=>False):=by rw[q];exact ja.alloc _ _ _
 have a4:w1.heap[x]?=some (.cells #[.nilIface] 128 (0,0)):=by rw[q,hx];exact je _ _
 have L:=k1.same hb id;have b4:=zC hb;have j:ρ x = .none:=yG (fun hn=>by have:=(D.ya x hn).2;omega);have D1:=D.same k1;have Y:=jba D1 (by omega) jw (by decide) (hV _ (xi.2 (.inl rfl)));have c0:=zA (o:=0) L;simp at c0
 have al:∀ o,(w.alloc o).cell? ⟨b,0,none⟩=some (.pointer (some ⟨d,0,none⟩)):=fun o=>by
  have:=zA (o:=0) ((ja.alloc w o (fun _=>False)).same hb id);simpa using this
 have ao:=jb Y;have R:=jb hx;have a8:=jb a4;have aq:=jb L;have HK:=jb hk;have an:=jb X;have ab:=jb A;clear Y hx a4 L hb hk X A;go_enter_defers func83,ntmps83;go_wp2_with fail;rw[<-q,<-R.out];clear q al;refine ao.out.mono ?_;rintro e w2 ⟨g2,D2,v2,rfl,r⟩;obtain⟨p2,c2,rfl⟩:=jj r;have v:=(g2.row a8.out j).1;have a3:=(g2.row aq.out U).1;have G:x≠b:=by have:=R.out;omega
 obtain⟨C,l⟩:∃ C,C=w2.setCell ⟨x,0,none⟩ .nilIface:=⟨_,rfl⟩;have k3:ja w2 C (fun i=>i=x):=by rw[l];exact ja.setCell w2 ⟨x,0,none⟩ _
 have N:C.heap[x]?=some (.cells #[.nilIface] 128 (0,0)):=by rw[l];exact(jc v _).trans rfl
 have a2:=k3.same a3 (Ne.symm G);have a5:B<=x:=by rw[R.out];exact D.size
 have D3:DW E B C ρ d V k:=D2.keep k3 (fun i _ e=>by rw[e];exact⟨j,a5⟩);have bk:=D2.Qh.cell 2 (by decide);have bj:=D3.Qh.cell 2 (by decide);have bi:=D2.Qh.lt 2 (by decide);have b3:¬x=2:=by omega
 have b2:¬2=x:=by omega
 have x2:=zA (o:=0) v;have f2:=zB (o:=0) v;have x3:=zA (o:=0) N;simp at x2 x3;have F:ja w C (fun i=>ρ i≠ .none\/i=b):=((k1.up).trans g2.keeps (fun i _ h=> .inl h)).trans k3 (fun i hi e=>by have:=R.out;omega);have E3:Env E B C:=H.keep (F.mono (fun i hi h=>(show B<=i from h.elim (fun h=>(D.ya i h).1) (fun h=>by rw[h];exact a6)))) (fun i h=>h);have Z:=k3.row r (fun g hg e=>by have h1:=(r.lt g hg).1;have h2:=zC a8.out;have e':g=x:=e;omega);have J:=jft D3 E3 HK.out s ok hV an.out ab.out a2 U a6 (.slice p2 s.m.bytes.length c2) (xj Z);obtain⟨nb,a0⟩:∃ nb,nb=s.m.bytes.length:=⟨_,rfl⟩;rw[<-a0] at J ⊢;have ap:=jb J;have a7:=jb N;clear J v N a3 a2 r Z c0 a0;go_wp2_with fail;rw[<-l];refine(jfu _ _).mono ?_;rintro e w4 ⟨rfl,h4⟩;subst h4;clear l;go_wp2_with fail;refine ap.out.mono ?_;rintro e w5 ⟨rfl,ρ5,S,T,S5,k5,W,a1,y⟩;have u:=k5.same a7.out (fun t=>t.elim (fun t=>t j) G);have x5:=zA (o:=0) u;have f5:=zB (o:=0) u;simp at x5;obtain⟨O,I⟩:∃ O,O=w5.setCell ⟨x,0,none⟩ .nilIface:=⟨_,rfl⟩;have k6:ja w5 O (fun i=>i=x):=by rw[I];exact ja.setCell w5 ⟨x,0,none⟩ _
 have M:O.heap[x]?=some (.cells #[.nilIface] 128 (0,0)):=by rw[I];exact(jc u _).trans rfl
 have x6:=zA (o:=0) M;simp at x6;have a9:x<w4.heap.size:=zC a7.out
 have S6:qz E B O ρ5 d b s (k+V.length) S T:=S5.keep k6 (fun i _ e=>by
  rw[e]
  refine⟨a5,fun t=>?_,fun p n c e2 e3=>?_⟩
  ·rcases t with t|t|t
   ·rw[W x a9] at t;exact t j
   ·exact G t
   ·have:=a1 x t;omega
  ·have:=y p n c e2;omega)
 have z:Zr E B w ρ d b s (k+V.length) O:=by
  have bh:=F.size;refine⟨ρ5,S,T,S6,(F.trans k5 (fun i hi h=>h)).trans k6 (fun i hi e=>by have:=R.out;omega),fun i hi=>W i (by omega),fun g hg=>by have:=a1 g hg;omega,fun p n c e=>by have:=y p n c e;omega⟩
 have aa:=jb z;have am:=jb M;clear z u M;go_wp2;rw[<-I];refine leaves_cons (f:=127) (args:=#[.pointer (some ⟨b,0,none⟩),.pointer (some ⟨x,0,none⟩)]) (by simp) (by simp[go_sem]) ?_;refine(sj b x .returning _ x6).mono ?_;rintro e u' w' ⟨rfl,rfl,rfl⟩;exact⟨.nilIface,dr rfl rfl am.out,rfl,aa.out⟩
theorem jez{ρ:Nat->jz}(D:DW E B w ρ d V k)(s:Rf.St)(m:Nat)(h:∀ W,ja w W (fun _=>False)->∀ b,W.heap[b]?=some (.cells (newRow d) 121 (0,0))->ρ b = .none->B<=b->Calls prog 83 #[.pointer (some ⟨b,0,none⟩)] W fun e w'=>e = .returned .nilIface/\Zr E B W ρ d b s m w') :
 Calls prog 45 #[.pointer (some ⟨d,0,none⟩)] w fun e w'=>∃ b,e = .returned (.tuple #[.pointer (some ⟨b,0,none⟩),.int .i64 0])/\w.heap.size<=b/\∃ ρ' rv mv,qz E B w' ρ' d b s m rv mv/\ja w w' (fun i=>ρ i≠ .none)/\(∀ i,i<w.heap.size->ρ' i=ρ i)/\(∀ g,mv.ownBlock=some g->w.heap.size<=g)/\(∀ p n c,rv = .slice (some p) n c->w.heap.size<=p.block):=by
 obtain⟨b,j⟩:∃ b,b=w.heap.size:=⟨_,rfl⟩;obtain⟨o,f⟩:∃ o,o=w.alloc (.cells (newRow d) 121):=⟨_,rfl⟩;have u:ja w o (fun _=>False):=by rw[f];exact ja.alloc _ _ _
 have r:o.heap[b]?=some (.cells (newRow d) 121 (0,0)):=by rw[f,j];exact je _ _
 have q:=h o u b r (yG (fun hn=>by have:=(D.ya b hn).2;omega)) (by rw[j];exact D.size);have A:=jb q;have l:=jb j;clear q r h j;go_enter func45,ntmps45;go_wp2_with fail;rw[<-f,<-l.out];clear f;refine A.out.mono ?_;rintro e H ⟨rfl,C,v,x,G,F,y,z,t⟩;go_wp2;go_ret2;have I:=u.size;refine⟨b,rfl,by rw[l.out];exact xA _,C,v,x,G,(u.up).trans F (fun i hi h=>h.elim id (fun e=>by have:=l.out;omega)),fun i hi=>y i (by omega),fun g hg=>by have:=z g hg;omega,fun p n c e=>by have:=t p n c e;omega⟩
end Go.Proofs.YtnipbplghijdmaaGreatDoor
namespace Go.Proofs.YtnipbplghijdmaaGreatDoor
open RowKit Maps WideShapes Go.Proofs.Tryz
def Own(E:Nat->Addr)(B:Nat)(w:World)(d b:Nat)(s:Rf.St)(k:Nat)(F:Nat->Prop):Prop :=
 ∃ ρ rv mv,qz E B w ρ d b s k rv mv/\∀ i,F i↔(StF ρ b mv i\/∃ p n c,rv = .slice (some p) n c/\p.block=i)
def Qu(E:Nat->Addr)(B:Nat)(w:World)(d b:Nat)(s:Rf.St)(k:Nat)(F:Nat->Prop)(w':World):Prop :=
 ∃ F',Own E B w' d b s k F'/\ja w w' F/\∀ i,F' i->F i\/w.heap.size<=i
variable {E:Nat->Addr} {B:Nat} {w w':World} {d b k:Nat} {s:Rf.St} {F:Nat->Prop}
theorem Own.old(h:Own E B w d b s k F){i:Nat}(hi:F i):B<=i/\i<w.heap.size:=by
 obtain⟨ρ,rv,l,S,f⟩:=h;rcases(f i).1 hi with t|⟨p,n,c,e,rfl⟩
 ·exact StF.old S t
 ·obtain⟨q,o,j,m,g⟩:=S.nr p n c e
  exact⟨j,g⟩
theorem Own.keep(h:Own E B w d b s k F){T:Nat->Prop}(m:ja w w' T)(g:∀ i,i<w.heap.size->T i->B<=i/\¬F i):Own E B w' d b s k F:=by
 obtain⟨ρ,rv,l,S,j⟩:=h;exact⟨ρ,rv,l,S.keep m (fun i hi t=>⟨(g i hi t).1,fun f=>(g i hi t).2 ((j i).2 (.inl f)),fun p n c e e2=>(g i hi t).2 ((j i).2 (.inr ⟨p,n,c,e,e2.symm⟩))⟩),j⟩
theorem Own.same(h:Own E B w d b s k F)(c:ja w w' (fun _=>False)):Own E B w' d b s k F:=h.keep c (fun _ _ h=>h.elim)
theorem Own.env(h:Own E B w d b s k F):Env E B w:=by
 obtain⟨ρ,rv,c,S,f⟩:=h;exact S.env
theorem Own.ok(h:Own E B w d b s k F):s.Ok:=by
 obtain⟨ρ,rv,c,S,f⟩:=h;exact S.ok
theorem Own.size(h:Own E B w d b s k F):B<=w.heap.size:=by
 obtain⟨ρ,rv,c,S,f⟩:=h;exact S.zw.size
theorem Own.zw(h:Own E B w d b s k F):∃ ρ,DW E B w ρ d s.files k/\∀ i,ρ i≠ .none->F i:=by
 obtain⟨ρ,rv,f,S,c⟩:=h;exact⟨ρ,S.zw,fun i hi=>(c i).2 (.inl (.inl hi))⟩
theorem Qu.of{ρ:Nat->jz}{rv j:Value}{r:Rf.St}{k':Nat}(S:qz E B w ρ d b s k rv j)(u:∀ i,F i↔(StF ρ b j i\/∃ p n c,rv = .slice (some p) n c/\p.block=i))(h:Qo E B w ρ d b rv j r k' w'):Qu E B w d b r k' F w':=by
 obtain⟨q,f,g,S',x,y,z,l⟩:=h;refine⟨fun i=>StF q b g i\/∃ p n c,f = .slice (some p) n c/\p.block=i,⟨q,f,g,S',fun _=>Iff.rfl⟩,x.mono (fun i _ t=>(u i).2 (.inl t)),fun i hi=>?_⟩;rcases ZJ i w.heap.size with m|o
 ·refine .inl ((u i).2 ?_)
  rcases hi with(t|t|t)|⟨p,n,c,e,rfl⟩
  ·exact .inl (.inl (by rw[<-y i m];exact t))
  ·exact .inl (.inr (.inl t))
  ·rcases z i t with t|t
   ·exact .inl (.inr (.inr t))
   ·omega
  ·rcases l p n c e with⟨v,A,t⟩|t
   ·exact .inr ⟨p,v,A,t,rfl⟩
   ·omega
 ·exact .inr o
theorem K9(h:Own E B w d b s k F)(y:k<530000000000)(j:Value)(es:List Rf.Ch)(o:Rf.qy es=true)(q:Chs w j es)(i:∀ p n c,j = .slice (some p) n c->¬F p.block)(f:s.last<1000000000)(g:s.mem.length+8<60000)(v:(Rf.jt (s.last+1) es).length+j3 s.files<=20000) :
 Calls prog 24 #[.pointer (some ⟨b,0,none⟩),j] w fun e w'=>e = .returned (.int .i64 0)/\Qu E B w d b (s.write es) (k+20000) F w':=by
 obtain⟨ρ,rv,x,S,r⟩:=h;refine(jdj S (by omega) j es o q (fun p n c e t=>i p n c e ((r _).2 (.inl t))) f g v).mono ?_;rintro e w' ⟨rfl,u,l,m,S',rest⟩;exact⟨rfl,Qu.of S r ⟨u,l,m,S'.mono (by omega),rest⟩⟩
theorem Un(h:Own E B w d b s k F)(i:k<530000000000)(g:s.m.next+2<=2000000000)(f:s.m.runs.length+1<60000)(c:(s.m.qn s.last).bytes.length+(Rf.jn s.mem).length+j3 s.files<=20000) :
 Calls prog 26 #[.pointer (some ⟨b,0,none⟩)] w fun e w'=>e = .returned (.int .i64 0)/\Qu E B w d b s.flush (k+50000) F w':=by
 obtain⟨ρ,rv,l,S,j⟩:=h;refine(je2 S i g f c).mono ?_;rintro e w' ⟨rfl,h⟩;exact⟨rfl,Qu.of S j h⟩
theorem Wt(h:Own E B w d b s k F)(i:k<530000000000)(f:s.m.next+1<=2000000000)(g:(Rf.merged s.bls).length<60000)(c:42+(Rf.jn s.live).length+j3 s.files<=20000) :
 Calls prog 27 #[.pointer (some ⟨b,0,none⟩)] w fun e w'=>e = .returned (.int .i64 0)/\Qu E B w d b s.qd (k+100000) F w':=by
 obtain⟨ρ,rv,l,S,j⟩:=h;refine(jaf S i f g c).mono ?_;rintro e w' ⟨rfl,h⟩;exact⟨rfl,Qu.of S j h⟩
theorem jfi(h:Own E B w d b s k F)(n:k<540000000000)(l:s.all.length<1048576)(lo hi:Str)(most:Nat)(c:most<9223372036854775808) :
 Calls prog 29 #[.pointer (some ⟨b,0,none⟩),jd lo,jd hi,ju most] w fun e w'=>(∃ v,e = .returned (.tuple #[v,.int .i64 0])/\w'.ownsRow w.heap.size 65 2 v (Rf.Zw s.all lo hi most).length (yy (Rf.Zw s.all lo hi most)))/\Own E B w' d b s k F/\ja w w' F:=by
 obtain⟨ρ,rv,g,S,f⟩:=h;refine(jfh S (by omega) l lo hi most c).mono ?_;rintro e w' ⟨m,S',j⟩;exact⟨m,⟨ρ,rv,g,S',f⟩,j.mono (fun i _ t=>(f i).2 (.inl t))⟩
theorem je5(h:Own E B w d b s k F)(l:k<540000000000)(key:Str) :
 Calls prog 33 #[.pointer (some ⟨b,0,none⟩),jd key] w fun e w'=>e = .returned (.tuple #[jd (Iw (Rf.xh s.all key)).1,.bool (Iw (Rf.xh s.all key)).2,.int .i64 0])/\Own E B w' d b s k F/\ja w w' F:=by
 obtain⟨ρ,rv,f,S,c⟩:=h;refine(jgj S (by omega) key).mono ?_;rintro e w' ⟨j,S',g⟩;exact⟨j,⟨ρ,rv,f,S',c⟩,g.mono (fun i _ t=>(c i).2 (.inl t))⟩
def Hc(E:Nat->Addr)(B:Nat)(w:World)(ρ:Nat->jz)(d:Nat)(s:Rf.St)(k:Nat)(e:Ending)(w':World):Prop :=
 ∃ b F,e = .returned (.tuple #[.pointer (some ⟨b,0,none⟩),.int .i64 0])/\w.heap.size<=b/\Own E B w' d b s k F/\ja w w' (fun i=>ρ i≠ .none)/\∀ i,F i->ρ i≠ .none\/w.heap.size<=i
theorem Hc.of{ρ:Nat->jz}{V:List (Str×List UInt8)}{q:Nat}(D:DW E B w ρ d V q)(h:∀ W,ja w W (fun _=>False)->∀ b,W.heap[b]?=some (.cells (newRow d) 121 (0,0))->ρ b = .none->B<=b->Calls prog 83 #[.pointer (some ⟨b,0,none⟩)] W fun e w'=>e = .returned .nilIface/\Zr E B W ρ d b s k w') :
 Calls prog 45 #[.pointer (some ⟨d,0,none⟩)] w (Hc E B w ρ d s k):=by
 refine(jez D s k h).mono ?_;rintro e w' ⟨b,rfl,v,l,rv,m,S,o,r,u,f⟩;refine⟨b,fun i=>StF l b m i\/∃ p n c,rv = .slice (some p) n c/\p.block=i,rfl,v,⟨l,rv,m,S,fun _=>Iff.rfl⟩,o,fun i hi=>?_⟩;rcases ZJ i w.heap.size with g|j
 ·refine .inl ?_
  rcases hi with(t|t|t)|⟨p,n,c,e,rfl⟩
  ·rw[<-r i g];exact t
  ·omega
  ·have:=u i t;omega
  ·have:=f p n c e;omega
 ·exact .inr j
theorem tz{ρ:Nat->jz}(D:DW E B w ρ d [] k)(H:Env E B w)(f:k<520000000000):Calls prog 45 #[.pointer (some ⟨d,0,none⟩)] w (Hc E B w ρ d Rf.St.first (k+1000)):=by
 refine Hc.of D (fun W kk b hb hρ hB=>?_);exact Ob (D.same kk) (H.same kk) (by simp only[xU];omega) (fun c h=>by cases h) hb hρ hB
theorem Lz{ρ:Nat->jz}(D:DW E B w ρ d s.files k)(H:Env E B w)(g:k+s.files.length<530000000000)(ok:s.Ok)(f:j3 s.files<=20000)(c:s.mem.length<60000):Calls prog 45 #[.pointer (some ⟨d,0,none⟩)] w (Hc E B w ρ d s (k+s.files.length)):=by
 refine Hc.of D (fun W kk b hb hρ hB=>?_);exact Oa (D.same kk) (H.same kk) g s ok (fun p hp=>hp) f c hb hρ hB
theorem jbu(H:Env E B w)(f:B<=w.heap.size):Calls prog 16 #[] w fun e w'=>∃ d ρ,e = .returned (.pointer (some ⟨d,0,none⟩))/\DW E B w' ρ d [] 0/\ja w w' (fun _=>False)/\∀ i,ρ i≠ .none->w.heap.size<=i:=by
 refine(jd6 w).mono ?_;rintro e w' ⟨rfl,R,b⟩
 have c:∀ i,km w.heap.size i≠ .none->w.heap.size<=i:=fun i hi=>by
  unfold km at hi;rcases ZJ i w.heap.size with h|h
  ·exfalso
   apply hi
   repeat' split
   all_goals first|rfl|omega
  ·exact h
 refine⟨_,_,rfl,⟨jh.new,⟨R,H.Qh.keep b (fun _ h=>h.elim),fun i hi=>ZF f (c i hi),ZF f b.size⟩,Jl.new,?_,Fit.new⟩,b,c⟩;exact⟨[],⟨cz.nil,fun p hp=>(by cases hp),List.Pairwise.nil⟩,List.Perm.refl _⟩
end Go.Proofs.YtnipbplghijdmaaGreatDoor
namespace Go.Proofs.YtnipbplghijdmaaGreatDoor
open RowKit Maps WideShapes Go.Proofs.Tryz
variable {w:World} {k:Nat} {l:List Rf.Ch}
theorem Sc(b:Nat)(c:List Value)(l:List UInt8)(h:w.heap[b]?=some (.cells c.toArray 5 (0,0)))(d:c=l.map j6)(f:l.length<1000):(convert 84 9 (.slice (some ⟨b,0,none⟩) l.length l.length)).run prog w = .ok (jd l) w:=by
 refine Bytes.string ⟨some ⟨b,0,none⟩,l.length,rfl,xA _,by unfold maxLen;omega,(fun h=>by cases h),fun ad had=>?_⟩;cases had;refine⟨rfl,fun j u hu=>?_⟩;rw[Ju];have:=zA (o:=0+j) h;rw[this,d];simp[hu]
theorem jgb(h:k<256):j6 (UInt8.ofNat k) = .int .u8 (k:Int):=by
 unfold j6;rw[XD,Nat.mod_eq_of_lt h]
def Prs(w:World)(v:Value)(l:List Rf.Ch):Prop:=∃ base,w.ownsRow base 65 2 v l.length (yy l)
theorem R5(h:k<l.length):(yy l)[k*2]?=some (jd l[k].key)/\(yy l)[k*2+1]?=some (jd l[k].value):=by
 induction l generalizing k with
 | nil=>simp at h
 | cons x r ih =>
  cases k with
  | zero=>simp[yy]
  | succ k =>
   have:=ih (k:=k) (by simpa using h);have e:yy (x::r)=jd x.key::jd x.value::yy r:=by simp[yy]
   rw[e,show(k+1)*2=k*2+1+1 by omega];simpa using this
theorem Prs.at{v:Value}(h:Prs w v l)(j:k<l.length):∃ g c,v = .slice (some ⟨g,0,none⟩) l.length c/\w.cell? ⟨g,k*2,none⟩=some (jd l[k].key)/\w.cell? ⟨g,k*2+1,none⟩=some (jd l[k].value):=by
 obtain⟨base,h⟩:=h;have d:=R5 j;rcases h.2 with⟨_,p⟩|⟨g,cap,f,e,_,b,o,n,m,i⟩
 ·omega
 ·refine⟨g,cap,e,?_,?_⟩
  ·rw[zA b]
   have:(f.toList.take (l.length*2))[k*2]?=some (jd l[k].key):=by rw[i];exact d.1
   rw[zK] at this
   split at this
   ·simpa using this
   ·cases this
  ·rw[zA b]
   have:(f.toList.take (l.length*2))[k*2+1]?=some (jd l[k].value):=by rw[i];exact d.2
   rw[zK] at this
   split at this
   ·simpa using this
   ·cases this
end Go.Proofs.YtnipbplghijdmaaGreatDoor
namespace Go.Proofs.YtnipbplghijdmaaGreatDoor
open RowKit Maps WideShapes Go.Proofs.Tryz
def lens(ls:List (List Rf.Ch)):Nat:=(ls.map List.length).sum
structure pn(i:Nat)(s:Rf.St):Prop where
 ok:s.Ok
 last:s.last=i
 base:s.m.base=0
 next:s.m.next<=2+2*s.m.last
 jg4:1<=s.m.next
 len:s.bls.length=s.m.runs.length
 runs:s.m.runs.length<=s.m.last
 all:lens s.bls<=8*s.m.last
 log:(Rf.jl s.m.last s.bs).length<=265*s.bs.length
 mem:s.mem.length<=8*s.bs.length
end Go.Proofs.YtnipbplghijdmaaGreatDoor
namespace Go.Proofs.YtnipbplghijdmaaGreatDoor
open RowKit Maps WideShapes Go.Shelf Go.Proofs.Tryz
theorem jay{w:World}{b:Nat}{t:TypeId}{u s r q p n m l k:Value}(j:w.heap[b]?=some (.cells #[u,s,r,q,p,n,m,l,k,.bool false] t (0,0)))(lo hi:Str)(most:Int)(x:most<0) :
 Calls prog 29 #[.pointer (some ⟨b,0,none⟩),jd lo,jd hi,.int .i64 most] w fun e w'=>e = .returned (.tuple #[.slice none 0 0,.int .i64 5])/\ja w w' (fun _=>False):=by
 obtain⟨d,c⟩:∃ d,d=(((w.alloc (.cells #[.pointer (some ⟨b,0,none⟩)] 49)).alloc (.cells #[.int .i64 most] 3)).alloc (.cells #[.slice none 0 0] 55)).alloc (.cells #[.int .i64 0] 48):=⟨_,rfl⟩;have i:ja w d (fun _=>False):=by rw[c];exact(((ja.alloc w _ _).more _).more _).more _
 have f:=zA (o:=9) (i.same j id);simp at f;have g:=f;rw[c] at g;clear j c f i;go_enter func29,ntmps29;go_wp2;refine bodyPost_ret (v:= .tuple #[.slice none 0 0,.int .i64 5]) (by simp[results,Tryz.results29,go_sem]) rfl ?_;exact⟨rfl,(((ja.alloc w _ _).more _).more _).more _⟩
end Go.Proofs.YtnipbplghijdmaaGreatDoor
namespace Go.Proofs.YtnipbplghijdmaaGreatDoor
open RowKit Maps WideShapes Go.Proofs.Tryz
variable {T:List Rf.Ch} {hi lo:Str} {j m:Nat} {c:Rf.Ch}
theorem Tryz.wx:(prog.info? 38).map (fun i=>(i.zero,i.size,i.bytes))=some (some (.slice none 0 0),1,24):=by kernel_rfl
def z7(T:List Rf.Ch)(lo hi:Str)(m j:Nat):List Rf.Ch:=((T.take j).filter (Rf.Xy lo hi)).take m
theorem I7(h:T[j]?=some c)(d:Rf.Xy lo hi c=true)(b:(z7 T lo hi m j).length<m):z7 T lo hi m (j+1)=z7 T lo hi m j++[c]:=by
 unfold z7 at b ⊢;rw[zY,h,zZ,xR,List.take_append];rw[ZT] at b;have e:List.filter (Rf.Xy lo hi) [c]=[c]:=by simp[d]
 rw[e,ZO (l:=[c]) (by rw[xC];omega)]
theorem Db(h:T[j]?=some c)(b:Rf.Xy lo hi c=false):z7 T lo hi m (j+1)=z7 T lo hi m j:=by
 unfold z7;rw[zY,h,zZ,xR];simp[b]
theorem Hi(T:List Rf.Ch)(lo hi:Str)(m j:Nat):(z7 T lo hi m j).length<=j:=by
 unfold z7;rw[ZT];have c:=XF (Rf.Xy lo hi) (T.take j);have b:=ZW j T;omega
end Go.Proofs.YtnipbplghijdmaaGreatDoor
namespace Go.Proofs.YtnipbplghijdmaaGreatDoor.Rf
open Go.Proofs.Tryz
def ew(c:Ch):Nat:=(entry c).length+8
def mu(l:List Ch):Nat:=(l.map ew).sum
theorem jd8(c:Ch)(l:List Ch):mu (c::l)=ew c+mu l:=by simp[mu]
theorem C7(l:List Ch):mu l=(l.flatMap entry).length+8*l.length:=by
 induction l with
 | nil=>rfl
 | cons c r ih =>
  rw[jd8,ih,xL,ZY,zX];unfold ew;omega
theorem I4(l:List Ch)(m:Nat)(c:4*m<l.length+4):(qh l m).length=((l.take (4*m)).flatMap entry).length+9*m:=by
 induction m with
 | zero=>simp[qh]
 | succ m ih =>
  have b:=ih (by omega);rw[fx l m (by omega),ZY,b]
  have e:l.take (4*(m+1))=l.take (4*m)++(l.drop (4*m)).take 4:=by
   rw[show 4*(m+1)=4*m+4 by omega,List.take_add]
  rw[e,xM,ZY];unfold jm frame;simp only[ZY,ji];omega
theorem gd(n:Nat)(b:List Ch):(jt n b).length+8*b.length=17+mu b:=by
 have c:=C7 b;unfold jt frame;simp only[ZY,ji];omega
end Go.Proofs.YtnipbplghijdmaaGreatDoor.Rf
namespace Go.Proofs.YtnipbplghijdmaaGreatDoor
open Go.Proofs.Tryz
theorem ve(m:Rf.Man):m.settled.length<=m.runs.length+1:=by
 unfold Rf.Man.settled
 split<;>simp
end Go.Proofs.YtnipbplghijdmaaGreatDoor
namespace Go.Proofs.YtnipbplghijdmaaGreatDoor
open RowKit Maps WideShapes Go.Proofs.Tryz
def jd7(S:jh)(nm:Str):Nat:=(S.at nm).elim 0 (fun f=>(Yq S.files f).length)
def vz(S:jh)(i:Nat):Nat:=((S.keys.take i).map (jd7 S)).sum
theorem jdl{w:World}{base:Nat}{p:Option Addr}{c:Nat}{K:List Str}(h:w.ownsRow base 9 1 (.slice p K.length c) K.length (K.map encStr)){i:Nat}(hi:i<K.length):∃ g,p=some ⟨g,0,none⟩/\w.cell? ⟨g,i,none⟩=some (jd K[i]):=by
 rcases h.2 with⟨_,n⟩|⟨g,cap,j,e,_,d,m,l,k,f⟩
 ·omega
 ·injection e with e1 e2 e3
  refine⟨g,e1,?_⟩;have b:(K.map encStr)[i]?=some (jd K[i]):=by rw[zJ,zL hi];rfl
  rw[zA d];rw[<-f,zK] at b
  split at b
  ·simpa using b
  ·cases b
end Go.Proofs.YtnipbplghijdmaaGreatDoor

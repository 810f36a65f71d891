/-
-/
import Derived.Test.YtmjgfacoogdcdaaGreatDoorRows
import Derived.OpenShut
import Derived.Test.YtmjgfacoogdcdaaGreatDoorO44
set_option maxRecDepth 100000
set_option linter.all false
namespace Go.Proofs.YtmjgfacoogdcdaaGreatDoor
open RowKit Go.ChangeShapes WideShapes Go.ChangeAt Go.Deep Go.Proofs.Tryz
section
variable {H:Type}
theorem Dr{d:DataW H}:∀ {l:List (DataW H)},d∈l->Rows.uptoBulk d<=Rows.uptoBulkAll l
 | x::r,h=>by
  rw[Rows.uptoBulkAll]
  rcases xB.1 h with e|e
  .rw[e];omega
  .have:=Dr e;omega
theorem Dp(d:DataW H):0<Rows.uptoBulk d:=by cases d with|lit l=>cases l<;>simp[Rows.uptoBulk]|nil=>simp[Rows.uptoBulk]|ptr d=>simp[Rows.uptoBulk]|slice elems spare=>simp[Rows.uptoBulk]|agg parts=>simp[Rows.uptoBulk]|iface t d=>simp[Rows.uptoBulk]|map entries=>simp[Rows.uptoBulk]|held h=>simp[Rows.uptoBulk]
theorem Lj:∀(l:List (DataW H)),l.length<=Rows.uptoBulkAll l
 | []=>ZC _
 | x::r=>by
  have h1:=Lj r
  grind [Dp,Rows.uptoBulkAll]
theorem B6(e s:List (DataW H)):Rows.uptoBulk (.slice e s)=Rows.uptoBulkAll e+Rows.uptoBulkAll s+1:=by simp only[Rows.uptoBulk]
theorem Lk(e:List (DataW H)):Rows.uptoBulk (.agg e)=Rows.uptoBulkAll e+1:=by simp only[Rows.uptoBulk]
theorem Dn(b:By):Rows.uptoBulk (DataW.lit (H:=H) (.string b))=b.length+1:=by simp[Rows.uptoBulk]
theorem Ea(s:ByteArray):Value.string s=jc s.data.toList:=by obtain⟨d⟩:=s;rfl
theorem Yj:prog.cellsOf 3=1:=by kernel_rfl
end
section
theorem Lg:prog.cellsOf 53=3:=by kernel_rfl
theorem I9:prog.cellsOf 73=7:=by kernel_rfl
theorem al:prog.cellsOf 9=1:=by kernel_rfl
theorem Ka:prog.cellsOf 24=1:=by kernel_rfl
theorem B7:prog.cellsOf 4=1:=by kernel_rfl
theorem Ex:prog.cellsOf 23=1:=by kernel_rfl
theorem jhp:∃ f0 f1 f2:Field,prog.underlying 53=some (.struct #[f0,f1,f2])/\(f0.type,f1.type,f2.type)=(9,9,4)/\(f0.offset,f1.offset,f2.offset)=(0,1,2):=⟨_,_,_,underlying53,rfl,rfl⟩
theorem jga:∃ f0 f1 f2 f3 f4 f5 f6:Field,prog.underlying 73=some (.struct #[f0,f1,f2,f3,f4,f5,f6])/\(f0.type,f1.type,f2.type,f3.type,f4.type,f5.type,f6.type)=(3,3,24,9,9,23,4)/\(f0.offset,f1.offset,f2.offset,f3.offset,f4.offset,f5.offset,f6.offset)=(0,1,2,3,4,5,6):=⟨_,_,_,_,_,_,_,underlying73,rfl,rfl⟩
section
variable {H:Type} {enc:TypeId×Value->H} {W:World}
theorem Uc{D:Nat->DataW H}{F:Nat->Rf.Ch}:∀(l:List Nat),(∀ i∈l,(F i).key.length+(F i).value.length+1<=Rows.uptoBulk (D i))->Jw (l.map F)<=Rows.uptoBulkAll (l.map D)
 | [],_=>ZC _
 | x::r,h=>by
  have h1:=Uc r (λi hi=>h i (xJ _ hi))
  have b:=h x xW
  simp only[xO,Jw,Rows.uptoBulkAll]
  omega
theorem ji2{fuel:Nat}{cs:List Value}{x:DataW H×List MemPlace}(h:DataW.trod enc prog W 0 (λ_=>true) true fuel 53 cs=some x):∃ c:Rf.Ch,cs=[jc c.key,jc c.value,.bool c.gone]/\c.key.length+c.value.length+1<=Rows.uptoBulk x.1:=by obtain⟨A,z,y,v,g,i⟩:=jhp;simp only[Prod.mk.injEq] at g i;obtain⟨t0,q,t2⟩:=g;obtain⟨u,t,s⟩:=i;obtain⟨xs,k,G,F,b,f,d⟩:=DataW.trod_struct v h;rw[Lg] at b;match xs,f,cs,b with|[y0,y1,y2],_,[v0,v1,v2],_=>have m:=d 0 A rfl;have l:=d 1 z rfl;have j:=d 2 y rfl;rw[t0,u,al] at m;rw[q,t,al] at l;rw[t2,s,B7] at j;obtain⟨s0,p,D,_⟩:=DataW.trod_string underlying9 (x:=y0) m;obtain⟨r,o,C,_⟩:=DataW.trod_string underlying9 (x:=y1) l;obtain⟨E,n,B⟩:=DataW.trod_bool underlying4 (x:=y2) j;simp at p o n;subst p;subst o;subst n;subst D;subst C;subst B;refine⟨⟨s0.data.toList,r.data.toList,E⟩,by rw[Ea,Ea],?_⟩;grind [Lk,Rows.uptoBulkAll,Dn]
theorem I8{fuel:Nat}{cs:List Value}{x:DataW H×List MemPlace}(h:DataW.trod enc prog W 0 (λ_=>true) true fuel 23 cs=some x)(N:Rows.uptoBulk x.1<=1048576):∃ v l,cs=[v]/\oz W v l/\(l≠[]->∀ p n c,v=.slice (some p) n c->p.block<W.heap.size)/\l.length<10000000/\(∀ c∈l,c.key.length<10000000/\c.value.length<10000000)/\Fc W v l/\Jw l+1<=Rows.uptoBulk x.1:=by
 have U:=Dp x.1;obtain⟨rfl,_⟩|⟨a,len,cap,m,n,D,Pl,rfl,_,C,I,z,R,s⟩:=open_slice underlying23 h;exact⟨_,[],rfl,.inl<|Chs.nil _,λe=>(e rfl).elim,zD,λc g=>(by cases g),⟨none,0,rfl,λk q=>by simp at q⟩,by simp only[Jw];omega⟩;simp only[if_true] at z;subst z;obtain B|B:=ZG len;subst B;exact⟨_,[],rfl,.inr ⟨rfl,a,m,rfl⟩,λe=>(e rfl).elim,zD,λc g=>(by cases g),⟨some a,m,rfl,λk q=>by simp at q⟩,by simp only[Jw];omega⟩;rw[R] at N ⊢;rw[B6] at N ⊢;have E:=Lj<|(List.range len).map D;simp only[xS,List.length_range] at E;have r:a.spot=none:=by obtain⟨L,g,M⟩:=s 0 zC;rw[Lg] at g;obtain⟨_,d,f⟩:=World.cells?_some g;grind [World.cell?_spot,Addr.add]
 obtain⟨b,o,V⟩:=a;simp only at r;subst r;have t:∀ i,i<len->∃ c:Rf.Ch,W.cell? (((B3 b o):Addr).add (i*3))=some (jc c.key)/\W.cell? (((B3 b o):Addr).add (i*3+1))=some (jc c.value)/\W.cell? (((B3 b o):Addr).add (i*3+2))=some (.bool c.gone)/\c.key.length+c.value.length+1<=Rows.uptoBulk (D i)/\c.key.length<10000000/\c.value.length<10000000:=by intro i hi;obtain⟨L,g,M⟩:=s i zC;rw[Lg] at g;obtain⟨_,d,f⟩:=World.cells?_some g;obtain⟨c,rfl,T⟩:=ji2 M;simp only at T;have X:Rows.uptoBulk (D i)<=Rows.uptoBulkAll ((List.range len).map D):=Dr<|ZW.2 ⟨i,List.mem_range.2 hi,rfl⟩;have e0:=f 0 zC;have Z:=f 1 zC;have Y:=f 2 zC;grind [add_plain]
 haveI:Inhabited Rf.Ch:=⟨⟨[],[],false⟩⟩;obtain⟨F,y⟩:=choose_lt t;have d:((List.range len).map F).length=len:=zD;refine⟨_,(List.range len).map F,rfl,.inl ⟨some (B3 b o),m,by rw[d],by rw[d];exact C,I,λe=>(by cases e),λad e=>?_⟩,λhne p n' c' e=>?_,by rw[d];omega,λc g=>?_,⟨some (B3 b o),m,by rw[d],λk q=>?_⟩,?_⟩;cases e;refine⟨rfl,λj u hu=>?_⟩;have S:j<(jh<|(List.range len).map F).length:=(ZT.1 hu).1;rw[qv,d] at S;have q:j/3<len:=zC;have G:j/3<((List.range len).map F).length:=by rw[d];exact q
 have J:=bm G;have A:((List.range len).map F)[j/3]=F (j/3):=zD;rw[A] at J;have g:=y (j/3) q;obtain e|e|e:=(zC:j=j/3*3\/j=j/3*3+1\/j=j/3*3+2);grind;grind;grind;cases e;have O:=(y 0 B).1;rw[add_plain] at O;exact r7 O;grind;rw[d] at q;have A:((List.range len).map F)[k]'(by rw[d];exact q)=F k:=zD;rw[A];have g:=y k q;simp only[add_plain,<-xL] at g;exact⟨b,o,rfl,g.1,g.2.1,g.2.2.1⟩;have z:=Uc (D:=D) (F:=F) (List.range len) λi hi=>(y i<|List.mem_range.1 hi).2.2.2.1
 omega
theorem ji1{fuel:Nat}{cs:List Value}{x:DataW H×List MemPlace}(h:DataW.trod enc prog W 0 (λ_=>true) true fuel 73 cs=some x)(m:Rows.uptoBulk x.1<=1048576):∃ o:OpA,cs=[aB o.kd,aB o.N,o.cv,jc o.key,jc o.til,o.bv,.bool o.wh]/\oz W o.bv o.l/\(o.l≠[]->∀ p n c,o.bv=.slice (some p) n c->p.block<W.heap.size)/\o.l.length<10000000/\(∀ c∈o.l,c.key.length<10000000/\c.value.length<10000000)/\ -9223372036854775808<=o.N/\o.N<=9223372036854775807:=by obtain⟨f0,f1,f2,f3,f4,f5,f6,hu,i,j⟩:=jga;simp only[Prod.mk.injEq] at i j;obtain⟨t0,I,t2,t3,t4,t5,G⟩:=i;obtain⟨V,U,T,S,R,O,M⟩:=j;obtain⟨xs,k,hk,hx,b,f,d⟩:=DataW.trod_struct hu h;rw[I9] at b;match xs,f,cs,b with|[y0,y1,y2,y3,y4,y5,y6],_,[v0,v1,v2,v3,v4,v5,v6],_=>have y:=d 0 f0 rfl;have u:=d 1 f1 rfl;have g2:=d 2 f2 rfl;have t:=d 3 f3 rfl;have s:=d 4 f4 rfl;have r:=d 5 f5 rfl;have q:=d 6 f6 rfl;rw[t0,V,Yj] at y;rw[I,U,Yj] at u;rw[t2,T,Ka] at g2;rw[t3,S,al] at t;rw[t4,R,al] at s;rw[t5,O,Ex] at r;rw[G,M,B7] at q;obtain⟨Z,E,d0,_⟩:=DataW.trod_int underlying3 (x:=y0) y;obtain⟨Y,D,d1,F⟩:=DataW.trod_int underlying3 (x:=y1) u;obtain⟨L,C,d3,_⟩:=DataW.trod_string underlying9 (x:=y3) t;obtain⟨J,B,d4,_⟩:=DataW.trod_string underlying9 (x:=y4) s;obtain⟨b6,z,d6⟩:=DataW.trod_bool underlying4 (x:=y6) q;(have g:Rows.uptoBulk y5.1<=1048576:=by rw[hx] at m;simp only[xO,List.map_nil,Lk,Rows.uptoBulkAll] at m;omega);obtain⟨v,l,A,h5,l5,X,c5,-,-⟩:=I8 (x:=y5) r g;simp at E D C B A z;subst E;subst D;subst C;subst B;subst A;subst z;exact⟨⟨Z,Y,v2,L.data.toList,J.data.toList,v5,l,b6⟩,by rw[Ea,Ea],h5,l5,X,c5,bounds_i64 F⟩
theorem jf8{fuel:Nat}{cs:List Value}{x:DataW H×List MemPlace}(h:DataW.trod enc prog W 0 (λ_=>true) true fuel 28 cs=some x)(B:Rows.uptoBulk x.1<=1048576):∃ p c ops,cs=[.slice p ops.length c]/\Oe W W.heap.size p ops/\ops.length<=1048576:=by
 obtain⟨rfl,_⟩|⟨a,len,cap,m,n,D,Z,rfl,_,V,X,A,M,k⟩:=open_slice underlying28 h;exact⟨none,0,[],rfl,λi hi=>(by simp at hi),zD⟩;simp only[if_true] at A;subst A;rw[M] at B;rw[B6] at B;have u:=Lj<|(List.range len).map D;simp only[xS,List.length_range] at u;obtain t|t:=ZG len;subst t;exact⟨some a,m,[],rfl,λi hi=>(by simp at hi),zD⟩;have j:a.spot=none:=by obtain⟨y,f,z⟩:=k 0 zC;rw[I9] at f;obtain⟨_,l,d⟩:=World.cells?_some f;have N:Rows.uptoBulk (D 0)<=Rows.uptoBulkAll ((List.range len).map D):=Dr<|ZW.2 ⟨0,List.mem_range.2 t,rfl⟩;grind [World.cell?_spot,Addr.add]
 obtain⟨b,o,Y⟩:=a;simp only at j;subst j;have r:∀ i,i<len->∃ q:OpA,Vo W W.heap.size b (o+i*7) q:=by intro i hi;obtain⟨y,f,z⟩:=k i zC;rw[I9] at f;obtain⟨_,l,d⟩:=World.cells?_some f;have N:Rows.uptoBulk (D i)<=Rows.uptoBulkAll ((List.range len).map D):=Dr<|ZW.2 ⟨i,List.mem_range.2 hi,rfl⟩;obtain⟨q,rfl,s,U,T,S,R⟩:=ji1 z (by simp only;omega);have g:=d 0 zC;have L:=d 1 zC;have J:=d 2 zC;have I:=d 3 zC;have G:=d 4 zC;have E:=d 5 zC;have C:=d 6 zC;rw[add_plain,add_plain] at g L J I G E C;have g:W.cell? ⟨b,o+i*7,none⟩=some (aB q.kd):=g;exact⟨q,⟨g,L,J,I,G,E,C,r7 g,s,U,T,S,R⟩⟩
 haveI:Inhabited OpA:=⟨⟨0,0,.nilIface,[],[],.nilIface,[],false⟩⟩;obtain⟨F,O⟩:=choose_lt r;refine⟨some (B3 b o),m,(List.range len).map F,zD,λi hi=>?_,by simp;omega⟩;have v:i<len:=by simpa using hi
 have s:=O i v;exact⟨b,o,rfl,by simpa using s⟩
end
end
section
theorem jap:prog.cellsOf 27=14:=by kernel_rfl
theorem Nr:prog.cellsOf 22=1:=by kernel_rfl
theorem V6:prog.cellsOf 25=1:=by kernel_rfl
theorem jan:∃ f0 f1 f2 f3 f4 f5 f6 f7 f8 f9 f10 f11 f12 f13:Field,prog.underlying 27=some (.struct #[f0,f1,f2,f3,f4,f5,f6,f7,f8,f9,f10,f11,f12,f13])/\(f0.type=3/\f1.type=3/\f2.type=3/\f3.type=3/\f4.type=22/\f5.type=23/\f6.type=24/\f7.type=22/\f8.type=3/\f9.type=3/\f10.type=9/\f11.type=9/\f12.type=4/\f13.type=25)/\(f0.offset=0/\f1.offset=1/\f2.offset=2/\f3.offset=3/\f4.offset=4/\f5.offset=5/\f6.offset=6/\f7.offset=7/\f8.offset=8/\f9.offset=9/\f10.offset=10/\f11.offset=11/\f12.offset=12/\f13.offset=13):=⟨_,_,_,_,_,_,_,_,_,_,_,_,_,_,underlying27,⟨rfl,rfl,rfl,rfl,rfl,rfl,rfl,rfl,rfl,rfl,rfl,rfl,rfl,rfl⟩,⟨rfl,rfl,rfl,rfl,rfl,rfl,rfl,rfl,rfl,rfl,rfl,rfl,rfl,rfl⟩⟩
section
variable {H:Type} {enc:TypeId×Value->H} {W:World}
theorem jbv{α:Type}{f:α->Nat}{D:Nat->DataW H}{F:Nat->α}:∀(l:List Nat),(∀ i∈l,f (F i)<=Rows.uptoBulk (D i))->((l.map F).map f).sum<=Rows.uptoBulkAll (l.map D)
 | [],_=>ZC _
 | x::r,h=>by
  have h1:=jbv (f:=f) r (λi hi=>h i (xJ _ hi))
  have b:=h x xW
  simp only[xO,List.sum_cons,Rows.uptoBulkAll]
  omega
theorem Ei{α:Type}[Inhabited α]{t e:TypeId}{fuel:Nat}{cs:List Value}{x:DataW H×List MemPlace}(C:prog.underlying t=some (.slice e))(r:prog.cellsOf e=1)(h:DataW.trod enc prog W 0 (λ_=>true) true fuel t cs=some x)(Q:Value->α->Prop)(f:α->Nat)(E:∀ {n:Nat} {v:Value} {y:DataW H×List MemPlace},DataW.trod enc prog W 0 (λ_=>true) true n e [v]=some y->Rows.uptoBulk y.1<=1048576->∃ a,Q v a/\f a<=Rows.uptoBulk y.1)(s:Rows.uptoBulk x.1<=1048576):∃(v:Value) (l:List α),cs=[v]/\(∃ p c,v=.slice p l.length c/\∀ k (h:k<l.length),∃ b o z,p=some (B3 b o)/\W.cell? ⟨b,o+k,none⟩=some z/\Q z l[k])/\(l.map f).sum+1<=Rows.uptoBulk x.1:=by
 have L:=Dp x.1;obtain⟨rfl,_⟩|⟨a,len,cap,m,n,V,D,R,rfl,_,I,J,u,B,g⟩:=open_slice1 C r h;exact⟨_,[],rfl,⟨none,0,rfl,λk hk=>by simp at hk⟩,by simp;omega⟩;simp only[if_true] at u;subst u;rw[B] at s ⊢;simp only at s ⊢;rw[B6] at s ⊢;have q:∀ i,i<len->∃ z:α,Q (V i) z/\f z<=Rows.uptoBulk (D i):=λi hi=>by have O:Rows.uptoBulk (D i)<=Rows.uptoBulkAll ((List.range len).map D):=Dr<|ZW.2 ⟨i,List.mem_range.2 hi,rfl⟩;exact E (g i zC).2 (by simp only;omega)
 obtain⟨F,A⟩:=choose_lt q;have d:((List.range len).map F).length=len:=zD;refine⟨_,(List.range len).map F,rfl,⟨some a,m,by rw[d],λk hk=>?_⟩,?_⟩;rw[d] at hk;have G:((List.range len).map F)[k]'(by rw[d];exact hk)=F k:=zD;rw[G];have r:=(g k zC).1;have j:a.spot=none:=by simpa [Addr.add] using World.cell?_spot (g 0 zC).1
 obtain⟨b,o,M⟩:=a;simp only at j;subst j;rw[add_plain] at r;exact⟨b,o,V k,rfl,r,(A k hk).1⟩;have N:=jbv (f:=f) (D:=D) (F:=F) (List.range len) λi hi=>(A i<|List.mem_range.1 hi).2
 omega
theorem jgc(l:List Int):(l.map λ_=>1).sum=l.length:=by induction l with|nil=>rfl|cons c r ih=>rw[xO,List.sum_cons,zZ,ih];omega
theorem jgu(l:List Str):lets l=(l.map λs=>s.length+1).sum:=by induction l with|nil=>rfl|cons c r ih=>simp only[lets,xO,List.sum_cons,ih]
theorem jai(l:List aD):yq l=(l.map λb=>Jw b+1).sum:=by induction l with|nil=>rfl|cons c r ih=>simp only[yq,xO,List.sum_cons,ih]
theorem T7{fuel:Nat}{cs:List Value}{x:DataW H×List MemPlace}(h:DataW.trod enc prog W 0 (λ_=>true) true fuel 22 cs=some x)(c:Rows.uptoBulk x.1<=1048576):∃ v l,cs=[v]/\LsR W v l/\yq l+1<=Rows.uptoBulk x.1:=by obtain⟨v,l,e,i,g⟩:=Ei underlying22 Ex h (λv l=>Fc W v l) (λb=>Jw b+1) (λhy c=>by obtain⟨v,l,e,_,_,_,_,f,d⟩:=I8 hy c;cases e;exact⟨l,f,d⟩) c;exact⟨v,l,e,i,by rw[jai];exact g⟩
theorem jae{fuel:Nat}{cs:List Value}{x:DataW H×List MemPlace}(h:DataW.trod enc prog W 0 (λ_=>true) true fuel 24 cs=some x)(f:Rows.uptoBulk x.1<=1048576):∃ v l,cs=[v]/\Lu W v l/\(∀ z∈l,I64 z)/\l.length+1<=Rows.uptoBulk x.1:=by obtain⟨v,l,e,⟨p,c,i,g⟩,m⟩:=Ei underlying24 Yj h (λv (z:Int)=>v = aB z/\I64 z) (λ_=>1) (λ{n v y} hy f=>by obtain⟨z,e,_,w⟩:=DataW.trod_int underlying3 hy;simp at e;exact⟨z,⟨e,bounds_i64 w⟩,Dp y.1⟩) f;refine⟨v,l,e,⟨p,c,i,λk d=>?_⟩,λz hz=>?_,?_⟩;obtain⟨b,o,z,j,a2,a3,_⟩:=g k d;exact⟨b,o,j,by rw[a2,a3]⟩;obtain⟨k,d,rfl⟩:=XM hz;obtain⟨_,_,_,_,_,_,a⟩:=g k d;exact a;have e:=jgc l;omega
theorem jac{fuel:Nat}{cs:List Value}{x:DataW H×List MemPlace}(h:DataW.trod enc prog W 0 (λ_=>true) true fuel 25 cs=some x)(f:Rows.uptoBulk x.1<=1048576):∃ v l,cs=[v]/\Vm W v l/\lets l+1<=Rows.uptoBulk x.1:=by obtain⟨v,l,e,⟨p,c,j,i⟩,g⟩:=Ei underlying25 al h (λv (s:Str)=>v=jc s) (λs=>s.length+1) (λ{n v y} hy f=>by obtain⟨s,e,d,_⟩:=DataW.trod_string underlying9 hy;simp at e;exact⟨s.data.toList,by rw[e,Ea],by rw[d,Dn];omega⟩) f;refine⟨v,l,e,⟨p,c,j,λk hk=>?_⟩,by rw[jgu];exact g⟩;obtain⟨b,o,z,m,a2,a3⟩:=i k hk;exact⟨b,o,m,by rw[a2,a3]⟩
theorem jdj{fuel:Nat}{cs:List Value}{x:DataW H×List MemPlace}(h:DataW.trod enc prog W 0 (λ_=>true) true fuel 27 cs=some x)(N:Rows.uptoBulk x.1<=1048576):∃ q:vy,cs=q.cells.toList/\Fb W q:=by obtain⟨f0,f1,f2,f3,f4,f5,f6,f7,f8,f9,I,G,F,E,hu,ht,ho⟩:=jan;obtain⟨t0,t1,t2,t3,t4,t5,t6,t7,t8,t9,u,t,s,r⟩:=ht;obtain⟨o0,o1,o2,o3,o4,o5,o6,o7,o8,o9,A,z,y,v⟩:=ho;obtain⟨xs,k,hk,hx,c,C,b⟩:=DataW.trod_struct hu h;rw[jap] at c;match xs,C,cs,c with|[y0,y1,y2,y3,y4,y5,y6,y7,y8,y9,y10,y11,y12,y13],_,[v0,v1,v2,v3,v4,v5,v6,v7,v8,v9,v10,v11,v12,v13],_=>have g0:=b 0 f0 rfl;have Z:=b 1 f1 rfl;have Y:=b 2 f2 rfl;have X:=b 3 f3 rfl;have V:=b 4 f4 rfl;have U:=b 5 f5 rfl;have T:=b 6 f6 rfl;have S:=b 7 f7 rfl;have R:=b 8 f8 rfl;have O:=b 9 f9 rfl;have l:=b 10 I rfl;have j:=b 11 G rfl;have i:=b 12 F rfl;have g:=b 13 E rfl;rw[t0,o0,Yj] at g0;rw[t1,o1,Yj] at Z;rw[t2,o2,Yj] at Y;rw[t3,o3,Yj] at X;rw[t4,o4,Nr] at V;rw[t5,o5,Ex] at U;rw[t6,o6,Ka] at T;rw[t7,o7,Nr] at S;rw[t8,o8,Yj] at R;rw[t9,o9,Yj] at O;rw[u,A,al] at l;rw[t,z,al] at j;rw[s,y,B7] at i;rw[r,v,V6] at g;rw[hx] at N;simp only[xO,List.map_nil,Lk,Rows.uptoBulkAll] at N;obtain⟨n0,e0,d0,w0⟩:=DataW.trod_int underlying3 (x:=y0) g0;obtain⟨n1,e1,d1,w1⟩:=DataW.trod_int underlying3 (x:=y1) Z;obtain⟨n2,e2,d2,w2⟩:=DataW.trod_int underlying3 (x:=y2) Y;obtain⟨n3,e3,d3,w3⟩:=DataW.trod_int underlying3 (x:=y3) X;obtain⟨u4,l4,e4,h4,m4⟩:=T7 (x:=y4) V zC;obtain⟨u5,l5,e5,_,_,_,_,h5,m5⟩:=I8 (x:=y5) U zC;obtain⟨u6,l6,e6,h6,z6,m6⟩:=jae (x:=y6) T zC;obtain⟨u7,l7,e7,h7,m7⟩:=T7 (x:=y7) S zC;obtain⟨n8,e8,d8,w8⟩:=DataW.trod_int underlying3 (x:=y8) R;obtain⟨n9,e9,d9,w9⟩:=DataW.trod_int underlying3 (x:=y9) O;obtain⟨f,p,L,_⟩:=DataW.trod_string underlying9 (x:=y10) l;obtain⟨d,o,J,_⟩:=DataW.trod_string underlying9 (x:=y11) j;obtain⟨M,n,bp⟩:=DataW.trod_bool underlying4 (x:=y12) i;obtain⟨u13,B,m,D,bo⟩:=jac (x:=y13) g zC;simp at e0 e1 e2 e3 e4 e5 e6 e7 e8 e9 p o n m;subst e0 e1 e2 e3 e4 e5 e6 e7 e8 e9 p o n m;(have br:Rows.uptoBulk y10.1=f.data.toList.length+1:=by rw[L];exact Dn _);(have bq:Rows.uptoBulk y11.1=d.data.toList.length+1:=by rw[J];exact Dn _);refine⟨⟨n0,n1,n2,n3,v4,v5,v6,v7,n8,n9,f.data.toList,d.data.toList,M,v13,l4,l5,l6,l7,B⟩,by unfold vy.cells;simp only[Ea],h4,h5,h6,h7,D,⟨bounds_i64 w2,bounds_i64 w3,bounds_i64 w8,z6⟩,?_⟩;simp only;omega
end
end

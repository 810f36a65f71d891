/-
-/
import Derived.Test.YtdaocdiabffpkaaGreatDoorRows
import Derived.OpenShut
import Derived.Test.YtdaocdiabffpkaaGreatDoorR49
set_option maxRecDepth 100000
set_option linter.all false
namespace Go.Proofs.YtdaocdiabffpkaaGreatDoor
open RowKit Go.ChangeShapes WideShapes Go.ChangeAt Go.Deep Go.Proofs.Tryz
section
variable {H:Type}
theorem Ko{d:DataW H}:∀ {l:List (DataW H)},d∈l->Rows.uptoBulk d<=Rows.uptoBulkAll l
 | x::r,h=>by
  rw[Rows.uptoBulkAll]
  rcases xN.1 h with e|e
  .rw[e];omega
  .have:=Ko e;omega
theorem jkl(d:DataW H):0<Rows.uptoBulk d:=by cases d with|lit l=>cases l<;>simp[Rows.uptoBulk]|nil=>simp[Rows.uptoBulk]|ptr d=>simp[Rows.uptoBulk]|slice elems spare=>simp[Rows.uptoBulk]|agg parts=>simp[Rows.uptoBulk]|iface t d=>simp[Rows.uptoBulk]|map entries=>simp[Rows.uptoBulk]|held h=>simp[Rows.uptoBulk]
theorem Es:∀(l:List (DataW H)),l.length<=Rows.uptoBulkAll l
 | []=>zT _
 | x::r=>by
  have h1:=Es r
  grind [jkl,Rows.uptoBulkAll]
theorem Cr(e s:List (DataW H)):Rows.uptoBulk (.slice e s)=Rows.uptoBulkAll e+Rows.uptoBulkAll s+1:=by simp only[Rows.uptoBulk]
theorem Et(e:List (DataW H)):Rows.uptoBulk (.agg e)=Rows.uptoBulkAll e+1:=by simp only[Rows.uptoBulk]
theorem jbu(b:By):Rows.uptoBulk (DataW.lit (H:=H) (.string b))=b.length+1:=by simp[Rows.uptoBulk]
theorem Tb(s:ByteArray):Value.string s=je s.data.toList:=by obtain⟨d⟩:=s;rfl
theorem Fw:prog.cellsOf 3=1:=by kernel_rfl
end
section
theorem N4:prog.cellsOf 47=3:=by kernel_rfl
theorem Ms:prog.cellsOf 70=7:=by kernel_rfl
theorem Av:prog.cellsOf 9=1:=by kernel_rfl
theorem jde:prog.cellsOf 51=1:=by kernel_rfl
theorem N7:prog.cellsOf 4=1:=by kernel_rfl
theorem jhp:prog.cellsOf 68=1:=by kernel_rfl
theorem jkk:∃ f0 f1 f2:Field,prog.underlying 47=some (.struct #[f0,f1,f2])/\(f0.type,f1.type,f2.type)=(9,9,4)/\(f0.offset,f1.offset,f2.offset)=(0,1,2):=⟨_,_,_,underlying47,rfl,rfl⟩
theorem ji8:∃ f0 f1 f2 f3 f4 f5 f6:Field,prog.underlying 70=some (.struct #[f0,f1,f2,f3,f4,f5,f6])/\(f0.type,f1.type,f2.type,f3.type,f4.type,f5.type,f6.type)=(3,3,51,9,9,68,4)/\(f0.offset,f1.offset,f2.offset,f3.offset,f4.offset,f5.offset,f6.offset)=(0,1,2,3,4,5,6):=⟨_,_,_,_,_,_,_,underlying70,rfl,rfl⟩
section
variable {H:Type} {enc:TypeId×Value->H} {W:World}
theorem jlv{fuel:Nat}{cs:List Value}{x:DataW H×List MemPlace}(h:DataW.trod enc prog W 0 (λ_=>true) true fuel 47 cs=some x):∃ c:Rf.Ch,cs=[je c.key,je c.value,.bool c.gone]/\c.key.length<=Rows.uptoBulk x.1/\c.value.length<=Rows.uptoBulk x.1:=by obtain⟨z,y,v,u,g,i⟩:=jkk;simp only[Prod.mk.injEq] at g i;obtain⟨t0,p,t2⟩:=g;obtain⟨t,s,r⟩:=i;obtain⟨xs,k,F,E,b,f,d⟩:=DataW.trod_struct u h;rw[N4] at b;match xs,f,cs,b with|[y0,y1,y2],_,[v0,v1,v2],_=>have g0:=d 0 z rfl;have l:=d 1 y rfl;have j:=d 2 v rfl;rw[t0,t,Av] at g0;rw[p,s,Av] at l;rw[t2,r,N7] at j;obtain⟨s0,o,C,_⟩:=DataW.trod_string underlying9 (x:=y0) g0;obtain⟨q,n,B,_⟩:=DataW.trod_string underlying9 (x:=y1) l;obtain⟨D,m,A⟩:=DataW.trod_bool underlying4 (x:=y2) j;simp at o n m;subst o;subst n;subst m;subst C;subst B;subst A;refine⟨⟨s0.data.toList,q.data.toList,D⟩,by rw[Tb,Tb],?_,?_⟩;grind [Et,Rows.uptoBulkAll,jbu];grind [Et,Rows.uptoBulkAll,jbu]
theorem ji7{fuel:Nat}{cs:List Value}{x:DataW H×List MemPlace}(h:DataW.trod enc prog W 0 (λ_=>true) true fuel 68 cs=some x)(G:Rows.uptoBulk x.1<=1048576):∃ v l,cs=[v]/\nw W v l/\(l≠[]->∀ p n c,v=.slice (some p) n c->p.block<W.heap.size)/\l.length<10000000/\∀ c∈l,c.key.length<10000000/\c.value.length<10000000:=by
 obtain⟨rfl,_⟩|⟨a,len,cap,m,n,D,Z,rfl,_,t,z,E,J,q⟩:=open_slice underlying68 h;exact⟨_,[],rfl,.inl<|Chs.nil _,λe=>(e rfl).elim,zD,λc g=>by cases g⟩
 .simp only[if_true] at E;subst E;obtain s|s:=ZH len;subst s;exact⟨_,[],rfl,.inr ⟨rfl,a,m,rfl⟩,λe=>(e rfl).elim,zD,λc g=>by cases g⟩;rw[J] at G;rw[Cr] at G;have y:=Es<|(List.range len).map D;simp only[XF,List.length_range] at y;(have k:a.spot=none:=by obtain⟨B,g,C⟩:=q 0 zC;rw[N4] at g;obtain⟨_,d,f⟩:=World.cells?_some g;grind [World.cell?_spot,Addr.add]);obtain⟨b,o,R⟩:=a;simp only at k;subst k;(have r:∀ i,i<len->∃ c:Rf.Ch,W.cell? (((B1 b o):Addr).add (i*3))=some (je c.key)/\W.cell? (((B1 b o):Addr).add (i*3+1))=some (je c.value)/\W.cell? (((B1 b o):Addr).add (i*3+2))=some (.bool c.gone)/\c.key.length<10000000/\c.value.length<10000000:=by intro i hi;obtain⟨B,g,C⟩:=q i zC;rw[N4] at g;obtain⟨_,d,f⟩:=World.cells?_some g;obtain⟨c,rfl,Y,X⟩:=jlv C;have S:Rows.uptoBulk (D i)<=Rows.uptoBulkAll ((List.range len).map D):=Ko<|xR.2 ⟨i,List.mem_range.2 hi,rfl⟩;have V:=f 0 zC;have U:=f 1 zC;have T:=f 2 zC;grind [add_plain]);haveI:Inhabited Rf.Ch:=⟨⟨[],[],false⟩⟩;obtain⟨F,O⟩:=choose_lt r;(have d:((List.range len).map F).length=len:=zD);refine⟨_,(List.range len).map F,rfl,.inl ⟨some (B1 b o),m,by rw[d],by rw[d];exact t,z,λe=>(by cases e),λb e=>?_⟩,λb p b b e=>?_,by rw[d];omega,λc g=>?_⟩;cases e;refine⟨rfl,λj u b=>?_⟩;have M:=(ZY.1 b).1;rw[xl,d] at M;(have L:j/3<len:=zC);have A:=dh (by rw[d];exact L);(have N:((List.range len).map F)[j/3]=F (j/3):=zD);rw[N] at A;obtain e|e|e:=(zC:j=j/3*3\/j=j/3*3+1\/j=j/3*3+2);grind;grind;grind;cases e;have I:=(O 0 s).1;rw[add_plain] at I;exact iw I;grind
theorem jda{fuel:Nat}{cs:List Value}{x:DataW H×List MemPlace}(h:DataW.trod enc prog W 0 (λ_=>true) true fuel 51 cs=some x)(s:Rows.uptoBulk x.1<=1048576):∃ v zs,cs=[v]/\fp W W.heap.size v zs:=by
 obtain⟨rfl,_⟩|⟨a,len,cap,zs,rfl,_,l,g,i,r,c,k⟩:=open_ints underlying51 underlying3 Fw h;exact⟨_,[],rfl,none,0,rfl,ZG _,zT _,λz b=>(by cases b),λe=>(e rfl).elim⟩;simp only[if_true] at i;rw[r,Cr] at s;have m:=Es<|lits (H:=H) .i64<|zs.take len;have d:(zs.take len).length=len:=by rw[ZQ];omega
 simp only[lits,XF,d] at m;have n:∀ z∈zs.take len,-9223372036854775808<=z/\z<=9223372036854775807:=λz b=>bounds_i64<|k z<|XL b
 obtain q|q:=ZH len;subst q;exact⟨_,[],rfl,some a,cap,rfl,zT _,g,λz b=>(by cases b),λe=>(e rfl).elim⟩;have f:a.spot=none:=by simpa [Addr.add] using World.cell?_spot (c 0 zC)
 obtain⟨b,o,t⟩:=a;simp only at f;subst f;refine⟨_,zs.take len,rfl,some (B1 b o),cap,by rw[d],by rw[d];exact l,g,n,λ_=>⟨b,o,rfl,by have:=c 0 zC;rw[add_plain] at this;exact iw this,λj b=>?_⟩⟩;rw[d] at b;have p:=c j zC;rw[add_plain] at p;have e:(zs.take len).getD j 0=zs.getD j 0:=by simp[List.getD,List.getElem?_take_of_lt b]
 rw[e];exact p
theorem jlu{fuel:Nat}{cs:List Value}{x:DataW H×List MemPlace}(h:DataW.trod enc prog W 0 (λ_=>true) true fuel 70 cs=some x)(m:Rows.uptoBulk x.1<=1048576):∃ o:OpA,cs=[aA o.kd,aA o.N,o.cv,je o.key,je o.til,o.bv,.bool o.wh]/\nw W o.bv o.l/\(o.l≠[]->∀ p n c,o.bv=.slice (some p) n c->p.block<W.heap.size)/\o.l.length<10000000/\(∀ c∈o.l,c.key.length<10000000/\c.value.length<10000000)/\(∃ zs,fp W W.heap.size o.cv zs)/\ -9223372036854775808<=o.N/\o.N<=9223372036854775807:=by obtain⟨f0,f1,f2,f3,f4,f5,f6,hu,i,j⟩:=ji8;simp only[Prod.mk.injEq] at i j;obtain⟨t0,I,t2,t3,t4,t5,G⟩:=i;obtain⟨V,U,T,S,R,O,M⟩:=j;obtain⟨xs,k,hk,hx,b,g,d⟩:=DataW.trod_struct hu h;rw[Ms] at b;match xs,g,cs,b with|[y0,y1,y2,y3,y4,y5,y6],_,[v0,v1,v2,v3,v4,v5,v6],_=>have g0:=d 0 f0 rfl;have y:=d 1 f1 rfl;have u:=d 2 f2 rfl;have t:=d 3 f3 rfl;have s:=d 4 f4 rfl;have r:=d 5 f5 rfl;have q:=d 6 f6 rfl;rw[t0,V,Fw] at g0;rw[I,U,Fw] at y;rw[t2,T,jde] at u;rw[t3,S,Av] at t;rw[t4,R,Av] at s;rw[t5,O,jhp] at r;rw[G,M,N7] at q;obtain⟨Z,E,d0,_⟩:=DataW.trod_int underlying3 (x:=y0) g0;obtain⟨Y,D,d1,F⟩:=DataW.trod_int underlying3 (x:=y1) y;obtain⟨L,C,d3,_⟩:=DataW.trod_string underlying9 (x:=y3) t;obtain⟨J,B,d4,_⟩:=DataW.trod_string underlying9 (x:=y4) s;obtain⟨b6,z,d6⟩:=DataW.trod_bool underlying4 (x:=y6) q;obtain⟨v',zs,f,h2⟩:=jda (x:=y2) u (by grind [Et,Rows.uptoBulkAll]);obtain⟨v,l,A,h5,l5,X,c5⟩:=ji7 (x:=y5) r (by rw[hx] at m;simp only[XA,List.map_nil,Et,Rows.uptoBulkAll] at m;omega);simp at E D f C B A z;subst f;subst E;subst D;subst C;subst B;subst A;subst z;exact⟨⟨Z,Y,v2,L.data.toList,J.data.toList,v5,l,b6⟩,by rw[Tb,Tb],h5,l5,X,c5,⟨zs,h2⟩,bounds_i64 F⟩
theorem ji6{fuel:Nat}{cs:List Value}{x:DataW H×List MemPlace}(h:DataW.trod enc prog W 0 (λ_=>true) true fuel 22 cs=some x)(A:Rows.uptoBulk x.1<=1048576):∃ p c ops,cs=[.slice p ops.length c]/\Sv W W.heap.size p ops/\ops.length<=1048576:=by
 obtain⟨rfl,_⟩|⟨a,len,cap,m,n,D,b,rfl,_,V,X,z,M,k⟩:=open_slice underlying22 h;exact⟨none,0,[],rfl,λi hi=>(by simp at hi),zD⟩
 .simp only[if_true] at z;subst z;rw[M] at A;rw[Cr] at A;have t:=Es<|(List.range len).map D;simp only[XF,List.length_range] at t;obtain B|B:=ZH len;subst B;exact⟨some a,m,[],rfl,λi hi=>(by simp at hi),zD⟩;(have j:a.spot=none:=by obtain⟨v,f,y⟩:=k 0 zC;rw[Ms] at f;obtain⟨_,l,d⟩:=World.cells?_some f;grind [World.cell?_spot,Addr.add]);obtain⟨b,o,Y⟩:=a;simp only at j;subst j;(have r:∀ i,i<len->∃ q:OpA,jb0 W W.heap.size b (o+i*7) q:=by intro i hi;obtain⟨v,f,y⟩:=k i zC;rw[Ms] at f;obtain⟨_,l,d⟩:=World.cells?_some f;have Z:Rows.uptoBulk (D i)<=Rows.uptoBulkAll ((List.range len).map D):=Ko<|xR.2 ⟨i,List.mem_range.2 hi,rfl⟩;obtain⟨q,rfl,s,U,T,S,O,R⟩:=jlu y (by simp only;omega);have g:=d 0 zC;have L:=d 1 zC;have J:=d 2 zC;have I:=d 3 zC;have G:=d 4 zC;have E:=d 5 zC;have C:=d 6 zC;rw[add_plain,add_plain] at g L J I G E C;have g:W.cell? ⟨b,o+i*7,none⟩=some (aA q.kd):=g;exact⟨q,⟨g,L,J,I,G,E,C,iw g,s,U,T,S,R,O⟩⟩);haveI:Inhabited OpA:=⟨⟨0,0,.nilIface,[],[],.nilIface,[],false⟩⟩;obtain⟨F,N⟩:=choose_lt r;refine⟨some (B1 b o),m,(List.range len).map F,zD,λi hi=>?_,by simp;omega⟩;(have u:i<len:=by simpa using hi);have s:=N i u;exact⟨b,o,rfl,by simpa using s⟩
end
end

/-
  D: BulkA ArgsC.
-/
import Derived.Test.YtnipbplghijdmaaGreatDoorRows
import Derived.OpenShut
import Derived.Test.YtnipbplghijdmaaGreatDoorD48
set_option maxRecDepth 100000
set_option linter.unusedVariables false
set_option linter.unusedSimpArgs false
namespace Go.Proofs.YtnipbplghijdmaaGreatDoor
open RowKit Go.ChangeShapes WideShapes Go.ChangeAt Go.Deep Go.Proofs.Tryz
variable {H:Type}
theorem jat{d:DataW H}:∀ {l:List (DataW H)},d∈l->Rows.uptoBulk d<=Rows.uptoBulkAll l
 | x::r,h=>by
  rw[Rows.uptoBulkAll]
  rcases zF.1 h with e|e
  ·rw[e];omega
  ·have:=jat e;omega
theorem Yf(d:DataW H):0<Rows.uptoBulk d:=by
 cases d with
 | lit l=>cases l<;>simp[Rows.uptoBulk]
 | nil=>simp[Rows.uptoBulk]
 | ptr d=>simp[Rows.uptoBulk]
 | slice elems spare=>simp[Rows.uptoBulk]
 | agg parts=>simp[Rows.uptoBulk]
 | iface t d=>simp[Rows.uptoBulk]
 | map entries=>simp[Rows.uptoBulk]
 | held h=>simp[Rows.uptoBulk]
theorem To:∀(l:List (DataW H)),l.length<=Rows.uptoBulkAll l
 | []=>zG _
 | x::r=>by
  have h1:=To r
  have b:=Yf x
  rw[Rows.uptoBulkAll,zH]
  omega
theorem I9(e s:List (DataW H)):Rows.uptoBulk (.slice e s)=Rows.uptoBulkAll e+Rows.uptoBulkAll s+1:=by simp only[Rows.uptoBulk]
theorem jem(e:List (DataW H)):Rows.uptoBulk (.agg e)=Rows.uptoBulkAll e+1:=by simp only[Rows.uptoBulk]
theorem dp:prog.cellsOf 3=1:=by kernel_rfl
end Go.Proofs.YtnipbplghijdmaaGreatDoor
namespace Go.Proofs.YtnipbplghijdmaaGreatDoor
open RowKit Go.ChangeShapes WideShapes Go.ChangeAt Go.Deep Go.Proofs.Tryz
theorem jag{w:World}{g o:Nat}{u:Value}(h:w.cell? ⟨g,o,none⟩=some u):g<w.heap.size:=by
 unfold World.cell? at h;apply yE;intro b;have e:w.heap[g]?=none:=zI (by omega);simp[e] at h
theorem Cd:prog.cellsOf 73=7:=by kernel_rfl
theorem Hd:prog.cellsOf 39=1:=by kernel_rfl
theorem jch:∃ f0 f1 f2 f3 f4 f5 f6:Field,prog.underlying 73=some (.struct #[f0,f1,f2,f3,f4,f5,f6])/\(f0.type,f1.type,f2.type,f3.type,f4.type,f5.type,f6.type)=(3,3,3,39,3,3,39)/\(f0.offset,f1.offset,f2.offset,f3.offset,f4.offset,f5.offset,f6.offset)=(0,1,2,3,4,5,6):=⟨_,_,_,_,_,_,_,underlying73,rfl,rfl⟩
section
variable {H:Type} {enc:TypeId×Value->H} {W:World}
theorem Md{fuel:Nat}{cs:List Value}{x:DataW H×List MemPlace}(h:DataW.trod enc prog W 0 (fun _=>true) true fuel 39 cs=some x)(y:Rows.uptoBulk x.1<=1048576):∃ v zs,cs=[v]/\Zs W v zs/\(zs≠[]->∀ p n c,v = .slice (some p) n c->p.block<W.heap.size)/\Zp W W.heap.size v zs:=by
 rcases open_ints underlying39 underlying3 dp h with⟨rfl,_⟩|⟨a,len,cap,zs,rfl,_,t,l,r,B,f,s⟩
 ·exact⟨_,[],rfl,⟨none,0,rfl,fun _=>rfl,fun z hz=>(by cases hz),by simp,fun j z hz=>by simp at hz⟩,fun e=>(e rfl).elim,none,0,rfl,zJ _,zG _,fun z hz=>(by cases hz),fun e=>(e rfl).elim⟩
 ·simp only[if_true] at r
  rw[B,I9] at y;have u:=To (lits (H:=H) .i64 (zs.take len));have d:(zs.take len).length=len:=by rw[zK];omega
  simp only[lits,zL,d] at u;have m:∀ z∈zs.take len,-9223372036854775808<=z/\z<=9223372036854775807:=fun z hz=>bounds_i64 (s z (zM hz));have C:len<=1048576:=by simp only[lits] at y;omega
  rcases zN len with A|A
  ·subst A
   exact⟨_,[],rfl,⟨some a,cap,rfl,fun e=>(by cases e),fun z hz=>(by cases hz),by simp,fun j z hz=>by simp at hz⟩,fun e=>(e rfl).elim,some a,cap,rfl,zG _,l,fun z hz=>(by cases hz),fun e=>(e rfl).elim⟩
  have i:a.spot=none:=by simpa [Addr.add] using World.cell?_spot (f 0 (by omega))
  obtain⟨b,o,D⟩:=a;simp only at i;subst i
  have k:b<W.heap.size:=by
   have:=f 0 (by omega);rw[add_plain] at this;exact jag this
  refine⟨_,zs.take len,rfl,⟨some ⟨b,o,none⟩,cap,by rw[d],fun e=>(by cases e),m,by rw[d];omega,fun j z hz=>?_⟩,fun _ p n c e=>by cases e;exact k,some ⟨b,o,none⟩,cap,by rw[d],by rw[d];exact t,l,m,fun _=>⟨b,o,rfl,k,fun j q=>?_⟩⟩
  ·have q:j<len:=by
    have:=(zO.1 hz).1;omega
   have g:=f j (by omega)
   rw[List.getElem?_take_of_lt q] at hz
   refine⟨b,o,rfl,?_⟩
   rw[add_plain] at g
   simpa [List.getD,hz] using g
  ·rw[d] at q
   have g:=f j (by omega);rw[add_plain] at g;have e:(zs.take len).getD j 0=zs.getD j 0:=by simp[List.getD,List.getElem?_take_of_lt q]
   rw[e];exact g
theorem An{fuel:Nat}{cs:List Value}{x:DataW H×List MemPlace}(h:DataW.trod enc prog W 0 (fun _=>true) true fuel 73 cs=some x)(i:Rows.uptoBulk x.1<=1048576):∃ a:Q8,cs=[.int .i64 a.kd,.int .i64 a.A,.int .i64 a.N,a.kv,.int .i64 a.fa,.int .i64 a.ct,a.cv]/\Zr W W.heap.size a/\8<=Rows.uptoBulk x.1:=by
 obtain⟨f0,f1,f2,f3,f4,f5,f6,hu,f,g⟩:=jch;simp only[Prod.mk.injEq] at f g;obtain⟨T,S,R,O,M,L,J⟩:=f;obtain⟨o0,o1,o2,Z,Y,X,V⟩:=g;obtain⟨xs,k,hk,hx,b,d,c⟩:=DataW.trod_struct hu h;rw[Cd] at b
 match xs,d,cs,b with
 | [y0,y1,y2,y3,y4,y5,y6],_,[v0,v1,v2,v3,v4,v5,v6],_ =>
  have q:=c 0 f0 rfl;have p:=c 1 f1 rfl;have o:=c 2 f2 rfl;have n:=c 3 f3 rfl;have m:=c 4 f4 rfl;have l:=c 5 f5 rfl;have j:=c 6 f6 rfl;rw[T,o0,dp] at q;rw[S,o1,dp] at p;rw[R,o2,dp] at o;rw[O,Z,Hd] at n;rw[M,Y,dp] at m;rw[L,X,dp] at l;rw[J,V,Hd] at j;obtain⟨n0,z,d0,I⟩:=DataW.trod_int underlying3 (x:=y0) q;obtain⟨n1,y,d1,G⟩:=DataW.trod_int underlying3 (x:=y1) p;obtain⟨n2,v,d2,F⟩:=DataW.trod_int underlying3 (x:=y2) o;obtain⟨n4,t,d4,E⟩:=DataW.trod_int underlying3 (x:=y4) m;obtain⟨n5,s,d5,D⟩:=DataW.trod_int underlying3 (x:=y5) l;rw[hx] at i ⊢;simp only[zP,List.map_nil,jem,Rows.uptoBulkAll] at i ⊢;obtain⟨u3,C,u,h3,l3,p3⟩:=Md (x:=y3) n (by omega);obtain⟨u6,B,r,h6,l6,U⟩:=Md (x:=y6) j (by omega);simp at z y v u t s r;subst z;subst y;subst v;subst u;subst t;subst s;subst r;refine⟨⟨n0,n1,n2,v3,C,n4,n5,v6,B⟩,rfl,⟨bounds_i64 I,bounds_i64 G,bounds_i64 F,bounds_i64 E,bounds_i64 D,h3,l3,U⟩,?_⟩;have:=Yf y0.1;have:=Yf y1.1;have:=Yf y2.1;have:=Yf y3.1;have:=Yf y4.1;have:=Yf y5.1;have:=Yf y6.1;omega
theorem Ka:∀(l:List (DataW H)),(∀ d∈l,8<=Rows.uptoBulk d)->8*l.length<=Rows.uptoBulkAll l
 | [],_=>zG _
 | x::r,h=>by
  have h1:=Ka r (fun d hd=>h d (zQ _ hd))
  have b:=h x (zR ..)
  rw[Rows.uptoBulkAll,zH]
  omega
theorem Rs{fuel:Nat}{cs:List Value}{x:DataW H×List MemPlace}(h:DataW.trod enc prog W 0 (fun _=>true) true fuel 69 cs=some x)(G:Rows.uptoBulk x.1<=1048576):∃ p c ac,cs=[.slice p ac.length c]/\Cg W W.heap.size p ac/\ac.length<=131072/\8*ac.length<=Rows.uptoBulk x.1:=by
 rcases open_slice underlying69 h with⟨rfl,_⟩|⟨a,len,cap,m,n,D,Y,rfl,_,U,V,E,R,j⟩
 ·exact⟨none,0,[],rfl,fun i g=>(by simp at g),by simp,by simp⟩
 ·simp only[if_true] at E
  subst E;rw[R] at G ⊢;rw[I9] at G ⊢;rcases zN len with A|A
  ·subst A
   exact⟨some a,m,[],rfl,fun i g=>(by simp at g),by simp,by simp⟩
  have k:∀ i,i<len->Rows.uptoBulk (D i)<=Rows.uptoBulkAll ((List.range len).map D):=fun i g=>jat (zS.2 ⟨i,List.mem_range.2 g,rfl⟩)
  have B:=Ka ((List.range len).map D) (fun d hd=>by
   obtain⟨i,g,rfl⟩:=zS.1 hd
   have g:=List.mem_range.1 g
   obtain⟨u,l,r⟩:=j i (by omega)
   obtain⟨_,_,_,T⟩:=An r (by have:=k i g;simp only;omega)
   exact T)
  simp only[zL,List.length_range] at B
  have t:a.spot=none:=by
   obtain⟨u,l,r⟩:=j 0 (by omega);rw[Cd] at l;obtain⟨_,v,f⟩:=World.cells?_some l;obtain⟨q,rfl,_⟩:=An r (by have:=k 0 A;simp only;omega);have:=World.cell?_spot (f 0 (by omega));simpa [Addr.add] using this
  obtain⟨b,o,X⟩:=a;simp only at t;subst t
  have y:∀ i,i<len->∃ q:Q8,Ci W W.heap.size b (o+i*7) q:=by
   intro i g;obtain⟨u,l,r⟩:=j i (by omega);rw[Cd] at l;obtain⟨_,v,f⟩:=World.cells?_some l;obtain⟨q,rfl,z,_⟩:=An r (by have:=k i g;simp only;omega);have s:=f 0 (by omega);have O:=f 1 (by omega);have N:=f 2 (by omega);have M:=f 3 (by omega);have L:=f 4 (by omega);have J:=f 5 (by omega);have I:=f 6 (by omega);rw[add_plain,add_plain] at s O N M L J I;have s:W.cell? ⟨b,o+i*7,none⟩=some (.int .i64 q.kd):=s;exact⟨q,⟨s,O,N,M,L,J,I,jag s,z⟩⟩
  haveI:Inhabited Q8:=⟨⟨0,0,0,.nilIface,[],0,0,.nilIface,[]⟩⟩
  obtain⟨F,S⟩:=choose_lt y;refine⟨some ⟨b,o,none⟩,m,(List.range len).map F,by simp,fun i g=>?_,by simp;omega,by simp;omega⟩;have C:i<len:=by simpa using g
  have z:=S i C;exact⟨b,o,rfl,by simpa using z⟩
end
end Go.Proofs.YtnipbplghijdmaaGreatDoor

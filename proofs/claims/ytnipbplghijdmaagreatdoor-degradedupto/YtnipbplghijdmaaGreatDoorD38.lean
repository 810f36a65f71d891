/-
  D: Zeros.
-/
import Derived.Test.YtnipbplghijdmaaGreatDoorD04
set_option linter.unusedVariables false
set_option linter.unusedSimpArgs false
namespace Go.Proofs.YtnipbplghijdmaaGreatDoor
open RowKit Maps WideShapes
theorem cn(k:Nat):Builtin.zeroCells #[.int .u8 0] k=(List.replicate k (Value.int .u8 0)).toArray:=by
 unfold Builtin.zeroCells;apply Array.ext
 ·simp
 ·intro j b c
  simp at b;simp[Nat.mod_one]
theorem I7:(Value.int .u8 0).cells=#[.int .u8 0]:=rfl
section
variable {P:Program} (w:World)
theorem Bs(base:Nat)(t R T e:TypeId)(i:TypeInfo)(F:P.underlying t=some (.slice e))(l:P.underlying R=some (.int .i64))(G:P.info? e=some i)(H:i.zero=some (.int .u8 0))(c:i.size=1)(o:i.bytes=1)(v:Value)(n:Nat)(xs:List Value)(b:w.ownsRow base e 1 v n xs)(k:Nat)(W:n+k<=1099511627776)(E:base<=w.heap.size) :
 ∃ v' w',(Builtin.append_ #[t,R] T #[v,.int .i64 k]).run P w = .ok v' w'/\w'.ownsRow base e 1 v' (n+k) (xs++List.replicate k (.int .u8 0))/\w.grownBy w' v.ownBlock/\(v'.ownBlock=v.ownBlock\/v'.ownBlock=some w.heap.size):=by
 have I:IntKind.i64.wrap (k:Int)=k:=zE (by omega) (by omega);have B:¬(k:Int)<0:=by omega
 have p:¬(281474976710656:Int)<(k:Int):=by omega
 have grown:∀(old:Nat),old<n+k->∀(row:Option Nat),
  (w.drew.alloc (.cells (xs.toArray++(List.replicate k (Value.int .u8 0)).toArray++Builtin.zeroCells #[.int .u8 0] (grownCap w (n+k) old e-(n+k))) e)).ownsRow base e 1
   (.slice (some ⟨w.heap.size,0,none⟩) (n+k) (grownCap w (n+k) old e)) (n+k) (xs++List.replicate k (.int .u8 0)) /\
  w.grownBy (w.drew.alloc (.cells (xs.toArray++(List.replicate k (Value.int .u8 0)).toArray++Builtin.zeroCells #[.int .u8 0] (grownCap w (n+k) old e-(n+k))) e)) row:=by
  intro old Y row
  have M:=grownCap_ge w (n+k) old e
  have C:grownCap w (n+k) old e<=maxLen:=grownCap_le_maxLen w (n+k) old e (by unfold maxLen;omega)
  have d:=b.1
  refine⟨⟨by simp at d ⊢;omega,.inr ⟨w.heap.size,_,_,rfl,E,je w.drew _,M,C,?_,?_⟩⟩,⟨rfl,rfl,rfl,by simp,fun j hj _=>Below.heap_alloc w.drew _ j hj⟩⟩
  ·simp[cn] at d ⊢
   omega
  ·have J:(xs++List.replicate k (Value.int .u8 0)).length=(n+k)*1:=by simp at d ⊢;omega
   simp only[Array.toList_append,XL];rw[<-XL,<-J];exact XK
 rcases b.2 with⟨rfl,rfl⟩|⟨g,cap,f,rfl,O,S,L,C,X,s⟩
 ·have U:xs=[]:=zT (by simpa using b.1)
  subst U;by_cases y:k=0
  ·subst y
   refine⟨.slice none 0 0,w,?_,by simpa using ZL w base e 1,⟨rfl,rfl,rfl,zJ _,fun _ _ _=>rfl⟩,.inl rfl⟩;have z:IntKind.i64.wrap 0=0:=zE (by omega) (by omega);simp[Builtin.append_,run_underlying F,run_underlying l,sizeOf,typeInfo,G,o,asInt,asIntOf,z]
  ·have m:=grown 0 (by omega) (Value.ownBlock (.slice none 0 0))
   refine⟨_,_,?_,m.1,m.2,.inr rfl⟩;have r:¬(281474976710656<Builtin.nextslicecap k 0):=by rw[nextslicecap_zero (by omega)];omega
   have q:¬(9223372036854775807<(k:Int)):=by omega
   simp[Builtin.append_,run_underlying F,run_underlying l,sizeOf,typeInfo,zeroValue,G,H,c,o,asInt,asIntOf,I,B,p,y,r,q,Question.forced,run_firstCells_none,newRow,grownCap,I7,cn]
 ·by_cases hroom:n+k<=cap
  ·have d:=b.1
   have A:=run_storeCells_at P g n e (List.replicate k (Value.int .u8 0)) 0 f w S (by simp;omega) (fun u hu=>by rw[List.eq_of_mem_replicate hu];rfl);simp only[Nat.add_zero] at A;refine⟨.slice (some ⟨g,0,none⟩) (n+k) cap,w.setRow g (f.toList.take n++List.replicate k (Value.int .u8 0)++f.toList.drop (n+k)).toArray,?_,⟨by simp at d ⊢;omega,.inr ⟨g,cap,_,rfl,O,setRow_heap w g f _ e _ S,hroom,C,?_,?_⟩⟩,⟨rfl,rfl,rfl,by simp,fun j _ hj=>setRow_other w g j _ (fun e=>hj (by simp[Value.ownBlock,e]))⟩,.inl rfl⟩
   ·by_cases y:k=0
    ·subst y
     have z:IntKind.i64.wrap 0=0:=zE (by omega) (by omega);have x:(storeCells ⟨g,n,none⟩ [] 0).run P w = .ok () (w.setRow g (f.toList.take n++[]++f.toList.drop (n+0)).toArray):=A;simp only[ZC,Nat.add_zero] at x;simp[Builtin.append_,run_underlying F,run_underlying l,sizeOf,typeInfo,G,c,o,asInt,asIntOf,z,L,Addr.add_lit,x]
    ·simp[Builtin.append_,run_underlying F,run_underlying l,sizeOf,typeInfo,zeroValue,G,H,c,o,asInt,asIntOf,I,B,p,y,hroom,I7,cn,Addr.add_lit]
     rw[A];simp
   ·simp only[xY,zW,zK,XQ,yC,List.length_replicate]
    omega
   ·simp at s
    simp only[Nat.mul_one];rw[s];have J:(xs++List.replicate k (Value.int .u8 0)).length=n+k:=by simp at d ⊢;omega
    rw[<-J];exact XK
  ·have m:=grown cap (by omega) (Value.ownBlock (.slice (some ⟨g,0,none⟩) n cap))
   refine⟨_,_,?_,m.1,m.2,.inr rfl⟩;have D:∀ j u,xs[j]?=some u->w.cell? ((⟨g,0,none⟩:Addr).add j)=some u:=b.cells (g:=g) rfl;have V:¬(n+k<=cap):=hroom;have y:¬k=0:=by omega
   have q:¬(9223372036854775807<((n:Int)+(k:Int))):=by omega
   have r:¬(281474976710656<Builtin.nextslicecap (n+k) cap):=by have:=nextslicecap_le (need:=n+k) (old:=cap) (by omega);omega
   have N:=run_firstCells_some (P:=P) w.drew 1 n ⟨g,0,none⟩ n cap xs b.1 (by simpa using D);simp[Builtin.append_,run_underlying F,run_underlying l,sizeOf,typeInfo,zeroValue,G,H,c,o,asInt,asIntOf,I,B,p,y,V,r,q,Question.forced,N,newRow,grownCap,I7,cn]
end
end Go.Proofs.YtnipbplghijdmaaGreatDoor

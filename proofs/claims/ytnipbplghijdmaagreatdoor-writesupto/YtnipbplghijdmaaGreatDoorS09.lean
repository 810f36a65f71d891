/-
  S: Src.
-/
import Derived.Deep.AppendSrc
import Derived.Test.YtnipbplghijdmaaGreatDoorS03
set_option linter.unusedVariables false
set_option linter.unusedSimpArgs false
namespace Go.Proofs.YtnipbplghijdmaaGreatDoor
open RowKit Maps WideShapes
variable {P:Program} {ops:Array Oper} {o:Oper} {a:Act} {Q:Exit->Act->World->Prop} {w:World} {K:Act->World->Prop} {E:Prop}
theorem Bb{g:Nat}{e:TypeId}{d:Nat×Nat}:∀(c:List Value) (o:Nat) (w:World) (b:Array Value),w.heap[g]?=some (.cells b e d)->o+c.length<=b.size ->
 ∃ cur',(w.setCells g o c).heap[g]?=some (.cells cur' e d)/\cur'.size=b.size/\cur'.toList.take (o+c.length)=b.toList.take o++c:=by
 intro c
 induction c with
 | nil=>intro o w b h _;exact⟨b,h,rfl,by simp⟩
 | cons v c ih =>
  intro o w b h f;simp only[zX] at f;obtain⟨cur',k,j,i⟩:=ih (o+1) (w.setCell ⟨g,o,none⟩ v) (b.setIfInBounds o v) (jc h v) (by simp;omega);refine⟨cur',k,by rw[j];simp,?_⟩;rw[zX,show o+(c.length+1)=o+1+c.length by omega,i]
  have l:(b.setIfInBounds o v).toList.take (o+1)=b.toList.take o++[v]:=by
   rw[Array.toList_setIfInBounds,zN (by simp;omega)];simp[List.take_set];rw[List.set_eq_of_length_le (by simp;omega)]
  rw[l];simp
theorem Ge(g:Nat):∀(b:List Value) (o:Nat) (w:World),w.grownBy (w.setCells g o b) (some g):=by
 intro b
 induction b with
 | nil=>intro o w;exact⟨rfl,rfl,rfl,xA _,fun _ _ _=>rfl⟩
 | cons v b ih =>
  intro o w;have h:=ih (o+1) (w.setCell ⟨g,o,none⟩ v);have k:=ja.setCell w ⟨g,o,none⟩ v;refine⟨h.os.trans k.os,h.tape.trans k.tape,h.output.trans k.output,ZF k.size h.size,fun i hi hne=>?_⟩;exact(h.block i (zT hi k.size) hne).trans (k.block i hi (fun e=>hne (by rw[show i=g from e])))
theorem Xs(w:World)(base:Nat)(t B H e:TypeId)(i:TypeInfo)(z:Value)(size bytes:Nat)(I:P.underlying t=some (.slice e))(hi:P.info? e=some i)(U:i.zero=some z)(r:i.size=size)(S:i.bytes=bytes)(O:z.cells.size=size)(a1:0<size)(v:Value)(n:Nat)(xs:List Value)(c:w.ownsRow base e size v n xs)(x:Value)(m:Nat)(b:List Value)(o:Src P size B x m b w)(D:n+m<=maxLen)(f:(n+m)*bytes<=140737488355328)(y:base<=w.heap.size) :
 ∃ v' w',(Builtin.append_ #[t,B] H #[v,x]).run P w = .ok v' w'/\w'.ownsRow base e size v' (n+m) (xs++b)/\w.grownBy w' v.ownBlock/\(v'.ownBlock=v.ownBlock\/v'.ownBlock=some w.heap.size):=by
 subst r;subst S;have M:n+m<=9223372036854775807:=by simp only[maxLen] at D;omega
 have J:=o.newsLen;have d:(xs++b).length=(n+m)*i.size:=by rw[ZY,c.1,J,Nat.add_mul]
 have grown:∀(old:Nat),old<n+m->∀(row:Option Nat),
  (w.drew.alloc (.cells ((xs++b).toArray++Builtin.zeroCells z.cells (grownCap w (n+m) old e-(n+m))) e)).ownsRow base e i.size
   (.slice (some ⟨w.heap.size,0,none⟩) (n+m) (grownCap w (n+m) old e)) (n+m) (xs++b) /\
  w.grownBy (w.drew.alloc (.cells ((xs++b).toArray++Builtin.zeroCells z.cells (grownCap w (n+m) old e-(n+m))) e)) row:=by
  intro old ho row
  have R:=grownCap_ge w (n+m) old e
  have p:grownCap w (n+m) old e<=maxLen:=grownCap_le_maxLen w (n+m) old e D
  refine⟨⟨d,.inr ⟨w.heap.size,_,_,rfl,y,heap_alloc_new w.drew _,R,p,?_,?_⟩⟩,⟨rfl,rfl,rfl,by simp,fun k L _=>Below.heap_alloc w.drew _ k L⟩⟩
  ·simp only[Array.size_append,xP,size_zeroCells,O,d,<-Nat.add_mul]
   congr 1;omega
  ·simp only[Array.toList_append]
   rw[<-d];exact xQ
 rcases c.2 with⟨rfl,rfl⟩|⟨g,cap,E,rfl,T,N,a2,p,C,q⟩
 ·have V:xs=[]:=xB (by simpa using c.1)
  subst V;by_cases hm:m=0
  ·subst hm
   have W:b=[]:=xB (by simpa using J);subst W;refine⟨.slice none 0 0,w,?_,zS w base e i.size,⟨rfl,rfl,rfl,xA _,fun _ _ _=>rfl⟩,Or.inl rfl⟩;have X:=o.cells;rcases o.kind with⟨e',L⟩|L<;>simp[Builtin.append_,run_underlying I,run_underlying L,sizeOf,typeInfo,hi,o.len,X]
  ·have A:=run_append_grow_src (P:=P) w t B H e i z I hi U none 0 0 [] (run_firstCells_none w.drew i.size 0 0 0) x m b o (by omega) (by omega) (growslice_fits (by omega) f)
   have l:=grown 0 (by omega) (Value.ownBlock (.slice none 0 0));exact⟨_,_,A,l.1,l.2,Or.inr rfl⟩
 ·by_cases hroom:n+m<=cap
  ·have F:n*i.size+b.length<=E.size:=by rw[J,C,<-Nat.add_mul];exact XJ _ hroom
   have A:=run_append_room_src (P:=P) w t B H e i I hi g 0 n cap x m b o hroom
    (fun j hj=>by rw[zA N];simp;omega) (fun j hj=>zB N)
   rw[zP] at A;obtain⟨G,h1,Z,Y⟩:=Bb b (n*i.size) w E N F;refine⟨_,_,A,⟨d,.inr ⟨g,cap,G,rfl,T,h1,hroom,p,by rw[Z];exact C,?_⟩⟩,Ge g b _ w,Or.inl rfl⟩;rw[Nat.add_mul,<-J,Y,q]
  ·have s:∀ j u,xs[j]?=some u->w.drew.cell? ((⟨g,0,none⟩:Addr).add j)=some u:=c.cells (g:=g) rfl
   have A:=run_append_grow_src (P:=P) w t B H e i z I hi U (some ⟨g,0,none⟩) n cap xs (run_firstCells_some w.drew i.size n _ n cap xs c.1 s) x m b o (by omega) (by omega) (growslice_fits (by omega) f);have l:=grown cap (by omega) (Value.ownBlock (.slice (some ⟨g,0,none⟩) n cap));exact⟨_,_,A,l.1,l.2,Or.inr rfl⟩
theorem za(w:World){rest:List Oper}(f:o.guard=none)(s x:Operand)(t d:TypeId)(k:o.op = .call { callee:= .builtin .append,args:=#[s,x],argTypes:=#[t,d] })(base:Nat)(e:TypeId)(i:TypeInfo)(z:Value)(size bytes:Nat)(ht:P.underlying t=some (.slice e))(hi:P.info? e=some i)(hz:i.zero=some z)(hsize:i.size=size)(hby:i.bytes=bytes)(hzs:z.cells.size=size)(hsz:0<size)(v:Value)(n:Nat)(xs:List Value)(hs:a.eval s=v)(hown:w.ownsRow base e size v n xs)(u:Value)(m:Nat)(news:List Value)(hx:a.eval x=u)(hsrc:Src P size d u m news w)(h63:n+m<=maxLen)(hbytes:(n+m)*bytes<=140737488355328)(hbase:base<=w.heap.size)(hK:∀(p:Option Addr) (b:Nat) (c:World),c.ownsRow base e size (.slice p (n+m) b) (n+m) (xs++news)->w.grownBy c v.ownBlock->((Value.slice p (n+m) b).ownBlock=v.ownBlock\/(Value.slice p (n+m) b).ownBlock=some w.heap.size)->wpList P ops Q rest (a.put o.dst (.slice p (n+m) b)) c) :
 wpList P ops Q (o::rest) a w:=by
 refine wpList_plain f fun K hK'=>?_;obtain⟨v',c,j,g,q,l⟩:=Xs (P:=P) w base t d o.type e i z size bytes ht hi hz hsize hby hzs hsz v n xs hown u m news hsrc h63 hbytes hbase;unfold Oper.wp execOp;simp only[k,resolve,invoke,builtin,Sem.run_bind,Sem.run_pure,Result.andThen_ok,List.map_toArray,zI,ZI,hs,hx,j];obtain⟨p,b,rfl⟩:=jj g;exact hK' _ _ (hK p b c g q l)
theorem Xo(l:o.guard=none)(s x:Operand)(t d:TypeId)(f:o.op=Op.call { callee:=Callee.builtin Builtin.append,args:=#[s,x],argTypes:=#[t,d] })(base:Nat)(e:TypeId)(i:TypeInfo)(z:Value)(size bytes:Nat)(ht:P.underlying t=some (.slice e))(hi:P.info? e=some i)(hz:i.zero=some z)(hsize:i.size=size)(hby:i.bytes=bytes)(hzs:z.cells.size=size)(hsz:0<size)(v:Value)(n:Nat)(xs:List Value)(hs:a.eval s=v)(hown:w.ownsRow base e size v n xs)(u:Value)(m:Nat)(news:List Value)(hx:a.eval x=u)(hsrc:Src P size d u m news w)(h63:n+m<=maxLen)(hbytes:(n+m)*bytes<=140737488355328)(hbase:base<=w.heap.size)(hK:∀(p:Option Addr) (b:Nat) (c:World),c.ownsRow base e size (.slice p (n+m) b) (n+m) (xs++news)->w.grownBy c v.ownBlock->((Value.slice p (n+m) b).ownBlock=v.ownBlock\/(Value.slice p (n+m) b).ownBlock=some w.heap.size)->K (a.put o.dst (.slice p (n+m) b)) c) :
 if Region.wanted o (yielded ops a.tmps)=true then Oper.wp P o a w K Q else E:=by
 have j:Region.wanted o (yielded ops a.tmps)=true:=by simp[Region.wanted,l]
 rw[if_pos j];obtain⟨v',c,k,g,r,q⟩:=Xs (P:=P) w base t d o.type e i z size bytes ht hi hz hsize hby hzs hsz v n xs hown u m news hsrc h63 hbytes hbase;unfold Oper.wp;simp[execOp,f,resolve,invoke,builtin,hs,hx,k,Result.andThen];obtain⟨p,b,rfl⟩:=jj g;exact hK p b c g r q
theorem jr(g:o.guard=none)(f:FuncId)(xs:List Operand)(ts:Array TypeId)(c:o.op=Op.call { callee:=Callee.value (.func f),args:=xs.toArray,argTypes:=ts })(hf:∀(ys:Array Value) (w:World),(callFunc f ys).run P w = .ok (.enter f ys) w)(ys:List Value)(hys:xs.map a.eval=ys){R:Ending->World->Prop}(hc:Calls P f ys.toArray w R)(hK:∀ e b,R e b->∃ v,e = .returned v/\K (a.put o.dst v) b) :
 if Region.wanted o (yielded ops a.tmps)=true then Oper.wp P o a w K Q else E:=by
 have d:Region.wanted o (yielded ops a.tmps)=true:=by simp[Region.wanted,g]
 rw[if_pos d];unfold Oper.wp;subst hys;have j:a.eval (.func f) = .func (.func f) #[] #[]:=rfl;simp[execOp,c,resolve,invoke,j,Deferred.ofValue,hf];rw[Oper.upon_enter];refine hc.mono ?_;intro e b h;obtain⟨v,rfl,i⟩:=hK e b h;exact i
end Go.Proofs.YtnipbplghijdmaaGreatDoor

/-
  D: Src.
-/
import Derived.Deep.AppendSrc
import Derived.Test.YtnipbplghijdmaaGreatDoorD04
set_option linter.unusedVariables false
set_option linter.unusedSimpArgs false
namespace Go.Proofs.YtnipbplghijdmaaGreatDoor
open RowKit Maps WideShapes
variable {P:Program} {ops:Array Oper} {o:Oper} {a:Act} {Q:Exit->Act->World->Prop} {w:World} {K:Act->World->Prop} {E:Prop}
theorem B6{g:Nat}{e:TypeId}{d:Nat×Nat}:∀(c:List Value) (o:Nat) (w:World) (b:Array Value),w.heap[g]?=some (.cells b e d)->o+c.length<=b.size ->
 ∃ cur',(w.setCells g o c).heap[g]?=some (.cells cur' e d)/\cur'.size=b.size/\cur'.toList.take (o+c.length)=b.toList.take o++c:=by
 intro c
 induction c with
 | nil=>intro o w b h _;exact⟨b,h,rfl,by simp⟩
 | cons v c ih =>
  intro o w b h f;simp only[zH] at f;obtain⟨cur',k,j,i⟩:=ih (o+1) (w.setCell ⟨g,o,none⟩ v) (b.setIfInBounds o v) (jd h v) (by simp;omega);refine⟨cur',k,by rw[j];simp,?_⟩;rw[zH,show o+(c.length+1)=o+1+c.length by omega,i]
  have l:(b.setIfInBounds o v).toList.take (o+1)=b.toList.take o++[v]:=by
   rw[Array.toList_setIfInBounds,XG (by simp;omega)];simp[List.take_set];rw[List.set_eq_of_length_le (by simp;omega)]
  rw[l];simp
theorem Hx(g:Nat):∀(b:List Value) (o:Nat) (w:World),w.grownBy (w.setCells g o b) (some g):=by
 intro b
 induction b with
 | nil=>intro o w;exact⟨rfl,rfl,rfl,zJ _,fun _ _ _=>rfl⟩
 | cons v b ih =>
  intro o w;have h:=ih (o+1) (w.setCell ⟨g,o,none⟩ v);have k:=ja.setCell w ⟨g,o,none⟩ v;refine⟨h.os.trans k.os,h.tape.trans k.tape,h.output.trans k.output,ZI k.size h.size,fun i hi hne=>?_⟩;exact(h.block i (ZH hi k.size) hne).trans (k.block i hi (fun e=>hne (by rw[show i=g from e])))
theorem Yn(w:World)(base:Nat)(t B H e:TypeId)(i:TypeInfo)(z:Value)(size bytes:Nat)(I:P.underlying t=some (.slice e))(M:P.info? e=some i)(V:i.zero=some z)(r:i.size=size)(T:i.bytes=bytes)(R:z.cells.size=size)(a2:0<size)(v:Value)(n:Nat)(xs:List Value)(c:w.ownsRow base e size v n xs)(x:Value)(m:Nat)(b:List Value)(o:Src P size B x m b w)(D:n+m<=maxLen)(f:(n+m)*bytes<=140737488355328)(y:base<=w.heap.size) :
 ∃ v' w',(Builtin.append_ #[t,B] H #[v,x]).run P w = .ok v' w'/\w'.ownsRow base e size v' (n+m) (xs++b)/\w.grownBy w' v.ownBlock/\(v'.ownBlock=v.ownBlock\/v'.ownBlock=some w.heap.size):=by
 subst r;subst T;have N:n+m<=9223372036854775807:=by simp only[maxLen] at D;omega
 have J:=o.newsLen;have d:(xs++b).length=(n+m)*i.size:=by rw[zW,c.1,J,Nat.add_mul]
 have grown:∀(old:Nat),old<n+m->∀(row:Option Nat),
  (w.drew.alloc (.cells ((xs++b).toArray++Builtin.zeroCells z.cells (grownCap w (n+m) old e-(n+m))) e)).ownsRow base e i.size
   (.slice (some ⟨w.heap.size,0,none⟩) (n+m) (grownCap w (n+m) old e)) (n+m) (xs++b) /\
  w.grownBy (w.drew.alloc (.cells ((xs++b).toArray++Builtin.zeroCells z.cells (grownCap w (n+m) old e-(n+m))) e)) row:=by
  intro old ho row
  have S:=grownCap_ge w (n+m) old e
  have p:grownCap w (n+m) old e<=maxLen:=grownCap_le_maxLen w (n+m) old e D
  refine⟨⟨d,.inr ⟨w.heap.size,_,_,rfl,y,heap_alloc_new w.drew _,S,p,?_,?_⟩⟩,⟨rfl,rfl,rfl,by simp,fun k L _=>Below.heap_alloc w.drew _ k L⟩⟩
  ·simp only[Array.size_append,xY,size_zeroCells,R,d,<-Nat.add_mul]
   congr 1;omega
  ·simp only[Array.toList_append]
   rw[<-d];exact XK
 rcases c.2 with⟨rfl,rfl⟩|⟨g,cap,E,rfl,U,O,a3,p,C,q⟩
 ·have W:xs=[]:=zT (by simpa using c.1)
  subst W;by_cases hm:m=0
  ·subst hm
   have X:b=[]:=zT (by simpa using J);subst X;refine⟨.slice none 0 0,w,?_,ZL w base e i.size,⟨rfl,rfl,rfl,zJ _,fun _ _ _=>rfl⟩,Or.inl rfl⟩;have Y:=o.cells;rcases o.kind with⟨e',L⟩|L<;>simp[Builtin.append_,run_underlying I,run_underlying L,sizeOf,typeInfo,M,o.len,Y]
  ·have A:=run_append_grow_src (P:=P) w t B H e i z I M V none 0 0 [] (run_firstCells_none w.drew i.size 0 0 0) x m b o (by omega) (by omega) (growslice_fits (by omega) f)
   have l:=grown 0 (by omega) (Value.ownBlock (.slice none 0 0));exact⟨_,_,A,l.1,l.2,Or.inr rfl⟩
 ·by_cases hroom:n+m<=cap
  ·have F:n*i.size+b.length<=E.size:=by rw[J,C,<-Nat.add_mul];exact Nat.mul_le_mul_right _ hroom
   have A:=run_append_room_src (P:=P) w t B H e i I M g 0 n cap x m b o hroom
    (fun j hj=>by rw[zA O];simp;omega) (fun j hj=>zB O)
   rw[xK] at A;obtain⟨G,h1,h2,Z⟩:=B6 b (n*i.size) w E O F;refine⟨_,_,A,⟨d,.inr ⟨g,cap,G,rfl,U,h1,hroom,p,by rw[h2];exact C,?_⟩⟩,Hx g b _ w,Or.inl rfl⟩;rw[Nat.add_mul,<-J,Z,q]
  ·have s:∀ j u,xs[j]?=some u->w.drew.cell? ((⟨g,0,none⟩:Addr).add j)=some u:=c.cells (g:=g) rfl
   have A:=run_append_grow_src (P:=P) w t B H e i z I M V (some ⟨g,0,none⟩) n cap xs (run_firstCells_some w.drew i.size n _ n cap xs c.1 s) x m b o (by omega) (by omega) (growslice_fits (by omega) f);have l:=grown cap (by omega) (Value.ownBlock (.slice (some ⟨g,0,none⟩) n cap));exact⟨_,_,A,l.1,l.2,Or.inr rfl⟩
theorem Xq(w:World){rest:List Oper}(d:o.guard=none)(s x:Operand)(t c:TypeId)(j:o.op = .call { callee:= .builtin .append,args:=#[s,x],argTypes:=#[t,c] })(base:Nat)(e:TypeId)(i:TypeInfo)(z:Value)(size bytes:Nat)(ht:P.underlying t=some (.slice e))(hi:P.info? e=some i)(hz:i.zero=some z)(hsize:i.size=size)(hby:i.bytes=bytes)(hzs:z.cells.size=size)(hsz:0<size)(v:Value)(n:Nat)(xs:List Value)(hs:a.eval s=v)(hown:w.ownsRow base e size v n xs)(u:Value)(m:Nat)(news:List Value)(hx:a.eval x=u)(hsrc:Src P size c u m news w)(h63:n+m<=maxLen)(hbytes:(n+m)*bytes<=140737488355328)(hbase:base<=w.heap.size)(hK:∀(p:Option Addr) (b:Nat) (w':World),w'.ownsRow base e size (.slice p (n+m) b) (n+m) (xs++news)->w.grownBy w' v.ownBlock->((Value.slice p (n+m) b).ownBlock=v.ownBlock\/(Value.slice p (n+m) b).ownBlock=some w.heap.size)->wpList P ops Q rest (a.put o.dst (.slice p (n+m) b)) w') :
 wpList P ops Q (o::rest) a w:=by
 refine wpList_plain d fun K hK'=>?_;obtain⟨v',w',g,f,l,k⟩:=Yn (P:=P) w base t c o.type e i z size bytes ht hi hz hsize hby hzs hsz v n xs hown u m news hsrc h63 hbytes hbase;unfold Oper.wp execOp;simp only[j,resolve,invoke,builtin,Sem.run_bind,Sem.run_pure,Result.andThen_ok,List.map_toArray,zP,List.map_nil,hs,hx,g];obtain⟨p,b,rfl⟩:=jl f;exact hK' _ _ (hK p b w' f l k)
theorem Yh(k:o.guard=none)(s x:Operand)(t c:TypeId)(d:o.op=Op.call { callee:=Callee.builtin Builtin.append,args:=#[s,x],argTypes:=#[t,c] })(base:Nat)(e:TypeId)(i:TypeInfo)(z:Value)(size bytes:Nat)(ht:P.underlying t=some (.slice e))(hi:P.info? e=some i)(hz:i.zero=some z)(hsize:i.size=size)(hby:i.bytes=bytes)(hzs:z.cells.size=size)(hsz:0<size)(v:Value)(n:Nat)(xs:List Value)(hs:a.eval s=v)(hown:w.ownsRow base e size v n xs)(u:Value)(m:Nat)(news:List Value)(hx:a.eval x=u)(hsrc:Src P size c u m news w)(h63:n+m<=maxLen)(hbytes:(n+m)*bytes<=140737488355328)(hbase:base<=w.heap.size)(hK:∀(p:Option Addr) (b:Nat) (w':World),w'.ownsRow base e size (.slice p (n+m) b) (n+m) (xs++news)->w.grownBy w' v.ownBlock->((Value.slice p (n+m) b).ownBlock=v.ownBlock\/(Value.slice p (n+m) b).ownBlock=some w.heap.size)->K (a.put o.dst (.slice p (n+m) b)) w') :
 if Region.wanted o (yielded ops a.tmps)=true then Oper.wp P o a w K Q else E:=by
 have g:Region.wanted o (yielded ops a.tmps)=true:=by simp[Region.wanted,k]
 rw[if_pos g];obtain⟨v',w',j,f,q,l⟩:=Yn (P:=P) w base t c o.type e i z size bytes ht hi hz hsize hby hzs hsz v n xs hown u m news hsrc h63 hbytes hbase;unfold Oper.wp;simp[execOp,d,resolve,invoke,builtin,hs,hx,j,Result.andThen];obtain⟨p,b,rfl⟩:=jl f;exact hK p b w' f q l
theorem jx(d:o.guard=none)(f:FuncId)(xs:List Operand)(ts:Array TypeId)(b:o.op=Op.call { callee:=Callee.value (.func f),args:=xs.toArray,argTypes:=ts })(hf:∀(ys:Array Value) (w:World),(callFunc f ys).run P w = .ok (.enter f ys) w)(ys:List Value)(hys:xs.map a.eval=ys){R:Ending->World->Prop}(hc:Calls P f ys.toArray w R)(hK:∀ e w',R e w'->∃ v,e = .returned v/\K (a.put o.dst v) w') :
 if Region.wanted o (yielded ops a.tmps)=true then Oper.wp P o a w K Q else E:=by
 have c:Region.wanted o (yielded ops a.tmps)=true:=by simp[Region.wanted,d]
 rw[if_pos c];unfold Oper.wp;subst hys;have i:a.eval (.func f) = .func (.func f) #[] #[]:=rfl;simp[execOp,b,resolve,invoke,i,Deferred.ofValue,hf];rw[Oper.upon_enter];refine hc.mono ?_;intro e w' h;obtain⟨v,rfl,g⟩:=hK e w' h;exact g
end Go.Proofs.YtnipbplghijdmaaGreatDoor

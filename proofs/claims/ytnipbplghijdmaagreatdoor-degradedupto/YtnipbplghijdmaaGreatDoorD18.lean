/-
  D: Copy.
-/
import Derived.Test.YtnipbplghijdmaaGreatDoorD10
set_option linter.unusedVariables false
set_option linter.unusedSimpArgs false
namespace Go.Proofs.YtnipbplghijdmaaGreatDoor
open RowKit Maps WideShapes
variable {P:Program} {w:World} {ops:Array Oper} {o:Oper} {a:Act} {Q:Exit->Act->World->Prop}
theorem Cq(w:World)(u y x c:TypeId)(g o f p:Nat)(a:Addr)(d k:Nat)(b:Array Value)(t:TypeId)(cs:List Value)(n size:Nat)(z:P.underlying u=some (.slice c))(s:(P.info? c).map (·.size)=some size)(D:w.heap[g]?=some (.cells b t (0,0)))(A:n=Nat.min d f)(B:cs.length=n*size)(l:∀ j v,cs[j]?=some v->w.cell? (a.add j)=some v)(m:o+cs.length<=b.size)(E:∀ v∈cs,v.oneCell'=true) :
 (Builtin.copy_ #[u,y] x #[.slice (some ⟨g,o,none⟩) f p,.slice (some a) d k]).run P w =
  .ok (goInt n) (w.setRow g (b.toList.take o++cs++b.toList.drop (o+cs.length)).toArray):=by
 have r:=run_loadCells_list (P:=P) w a cs l;have q:=run_storeCells_at P g o t cs 0 b w D (by simpa using m) E
 cases hq:P.info? c with
 | none=>simp[hq] at s
 | some i =>
  have C:i.size=size:=by simpa [hq] using s
  simp[Builtin.copy_,run_underlying z,Builtin.lenOf,Builtin.firstCells,sizeOf,typeInfo,hq,C,<-A,<-B,r,q]
def Wl(w:World)(g o:Nat)(cur:Array Value)(t:TypeId)(cs:List Value)(w':World):Prop :=
 w'.heap[g]?=some (.cells (cur.toList.take o++cs++cur.toList.drop (o+cs.length)).toArray t (0,0))/\ja w w' (fun i=>i=g)
theorem I1{g o:Nat}{b:Array Value}{t:TypeId}{cs:List Value}(c:w.heap[g]?=some (.cells b t (0,0))) :
 Wl w g o b t cs (w.setRow g (b.toList.take o++cs++b.toList.drop (o+cs.length)).toArray) :=
 ⟨setRow_heap w g b _ t _ c,⟨rfl,rfl,rfl,by simp[World.setRow],fun k _ hk=>setRow_other w g k _ hk⟩⟩
theorem ot{rest:List Oper}(f:o.guard=none)(d s:Operand)(c i:TypeId)(l:o.op = .call { callee:= .builtin .copy,args:=#[d,s],argTypes:=#[c,i] })(elem:TypeId)(size:Nat)(hu:P.underlying c=some (.slice elem))(hsz:(P.info? elem).map (·.size)=some size)(g off dLen dCap:Nat)(ad:Addr)(sLen sCap:Nat)(hd:a.eval d = .slice (some ⟨g,off,none⟩) dLen dCap)(hs:a.eval s = .slice (some ad) sLen sCap)(cur:Array Value)(t:TypeId)(hg:w.heap[g]?=some (.cells cur t (0,0)))(cs:List Value)(n:Nat)(hn:n=Nat.min sLen dLen)(hl:cs.length=n*size)(hsrc:∀ j v,cs[j]?=some v->w.cell? (ad.add j)=some v)(hfit:off+cs.length<=cur.size)(h1:∀ v∈cs,v.oneCell'=true)(h:∀ w',Wl w g off cur t cs w'->wpList P ops Q rest (a.put o.dst (goInt n)) w'):wpList P ops Q (o::rest) a w:=by
 refine wpList_plain f fun K hK=>?_;have b:=Cq (P:=P) w c i o.type elem g off dLen dCap ad sLen sCap cur t cs n size hu hsz hg hn hl hsrc hfit h1;unfold Oper.wp;simp[execOp,l,resolve,invoke,builtin,hd,hs,b,Result.andThen];have k:=I1 (o:=off) (cs:=cs) hg;simp only[XL] at k;exact hK _ _ (h _ k)
theorem Ae{K:Act->World->Prop}{E:Prop}(f:o.guard=none)(d s:Operand)(c i:TypeId)(m:o.op = .call { callee:= .builtin .copy,args:=#[d,s],argTypes:=#[c,i] })(elem:TypeId)(size:Nat)(hu:P.underlying c=some (.slice elem))(hsz:(P.info? elem).map (·.size)=some size)(g off dLen dCap:Nat)(ad:Addr)(sLen sCap:Nat)(hd:a.eval d = .slice (some ⟨g,off,none⟩) dLen dCap)(hs:a.eval s = .slice (some ad) sLen sCap)(cur:Array Value)(t:TypeId)(hg:w.heap[g]?=some (.cells cur t (0,0)))(cs:List Value)(n:Nat)(hn:n=Nat.min sLen dLen)(hl:cs.length=n*size)(hsrc:∀ j v,cs[j]?=some v->w.cell? (ad.add j)=some v)(hfit:off+cs.length<=cur.size)(h1:∀ v∈cs,v.oneCell'=true)(h:∀ w',Wl w g off cur t cs w'->K (a.put o.dst (goInt n)) w') :
 if Region.wanted o (yielded ops a.tmps)=true then Oper.wp P o a w K Q else E:=by
 have l:Region.wanted o (yielded ops a.tmps)=true:=by simp[Region.wanted,f]
 rw[if_pos l];have b:=Cq (P:=P) w c i o.type elem g off dLen dCap ad sLen sCap cur t cs n size hu hsz hg hn hl hsrc hfit h1;unfold Oper.wp;simp[execOp,m,resolve,invoke,builtin,hd,hs,b,Result.andThen];have k:=I1 (o:=off) (cs:=cs) hg;simp only[XL] at k;exact h _ k
def jhh(w:World)(e:TypeId)(size n m:Nat)(xs:List Value)(cap:Nat)(w':World):Prop :=
 n+m<=cap/\cap<=maxLen/\(∃ cur,w'.heap[w.heap.size]?=some (.cells cur e (0,0))/\cur.size=cap*size/\cur.toList.take (n*size)=xs)/\ja w w' (fun _=>False)
theorem po(w:World)(t D G e:TypeId)(i:TypeInfo)(z:Value)(size bytes:Nat)(J:P.underlying t=some (.slice e))(r:P.underlying D=some (.int .i64))(M:P.info? e=some i)(H:i.zero=some z)(c:i.size=size)(C:i.bytes=bytes)(q:z.cells.size=size)(s:0<size)(O:1<=bytes)(f:bytes<=64)(g n cap:Nat)(xs:List Value)(b:xs.length=n*size)(d:∀ j u,xs[j]?=some u->w.cell? ((⟨g,0,none⟩:Addr).add j)=some u)(k:Nat)(x:0<k)(v:n+k<=1099511627776)(F:cap<n+k) :
 ∃ cap' w',(Builtin.append_ #[t,D] G #[.slice (some ⟨g,0,none⟩) n cap,.int .i64 k]).run P w = .ok (.slice (some ⟨w.heap.size,0,none⟩) (n+k) cap') w'/\jhh w e size n k xs cap' w':=by
 have I:IntKind.i64.wrap (k:Int)=k:=zE (by omega) (by omega);have y:¬(k:Int)<0:=by omega
 have m:¬(281474976710656:Int)<(k:Int)*(bytes:Int):=by
  have N:k*bytes<=1099511627776*64:=Nat.mul_le_mul (by omega) f;have R:((k*bytes:Nat):Int)=(k:Int)*(bytes:Int):=by simp
  omega
 have L:¬(n+k<=cap):=by omega
 have o:¬(9223372036854775807<((n:Int)+(k:Int))):=by omega
 have E:Builtin.nextslicecap (n+k) cap*bytes<=281474976710656:=growslice_fits (by omega) (by
  have N:(n+k)*bytes<=1099511627776*64:=Nat.mul_le_mul v f
  omega)
 have p:¬(281474976710656<Builtin.nextslicecap (n+k) cap*bytes):=by omega
 subst c;subst C;have l:=run_firstCells_some (P:=P) w.drew i.size n ⟨g,0,none⟩ n cap xs b d;have A:=grownCap_ge w (n+k) cap e;have B:grownCap w (n+k) cap e<=maxLen:=grownCap_le_maxLen w (n+k) cap e (by unfold maxLen;omega);refine⟨grownCap w (n+k) cap e,w.drew.alloc (.cells (xs.toArray++Builtin.zeroCells z.cells k++Builtin.zeroCells z.cells (grownCap w (n+k) cap e-(n+k))) e),?_,A,B,⟨_,je w.drew _,?_,?_⟩,((ja.refl w _).draw).more _⟩
 ·simp[Builtin.append_,run_underlying J,run_underlying r,sizeOf,typeInfo,zeroValue,M,H,asInt,asIntOf,I,y,m,L,p,o,Question.forced,l,newRow,grownCap]
  intro S;have:=Nat.mul_pos x s;omega
 ·simp only[Array.size_append,xY,size_zeroCells,q,b,<-Nat.add_mul]
  congr 1;omega
 ·simp only[Array.toList_append]
  rw[XL,<-b];exact XK
end Go.Proofs.YtnipbplghijdmaaGreatDoor

/-
  D: Next SettleA PwA PwB PwC PwD PwE StoreR.
-/
import Derived.Test.YtnipbplghijdmaaGreatDoorD38
import Derived.Test.YtnipbplghijdmaaGreatDoorD32
set_option maxRecDepth 100000
set_option maxHeartbeats 8000000
set_option linter.unusedVariables false
set_option linter.unusedSimpArgs false
namespace Go.Proofs.YtnipbplghijdmaaGreatDoor
open RowKit Maps WideShapes Go.Proofs.Tryz
variable {x:Int} {n sr:Str} {b g:List UInt8} {bls bs:List (List Rf.Ch)} {P:DataW Nat->Prop} {m:Rf.Man} {U U' c f:Nat} {T:List Tok} {D:DataW Nat}
def Jr(c:Int)(n:Nat):Nat:=((if c<0 then -(c+1)else c)%n).toNat
theorem E8{k:IntKind}{a b:Int}(h:a=b):Ending.returned (.int k a) = .returned (.int k b):=by rw[h]
theorem Rn{n:Nat}(c:x<0)(d:0<n):-((x+1).tmod n)=(Jr x n:Int):=by
 unfold Jr;rw[if_pos c,<-Int.neg_tmod,Int.tmod_eq_emod_of_nonneg (by omega)];have:=Int.emod_nonneg (-(x+1)) (b:=(n:Int)) (by omega);omega
theorem Rm{n:Nat}(c:¬x<0)(d:0<n):x%(n:Int)=(Jr x n:Int):=by
 unfold Jr;rw[if_neg c];have:=Int.emod_nonneg x (b:=(n:Int)) (by omega);omega
theorem jdm(w:World)(p n:Nat)(a:Option Addr)(c:Nat)(h:w.heap[p]?=some (.cells #[.slice a 0 c] 144 (0,0))) :
 Calls prog 80 #[.pointer (some ⟨p,0,none⟩),.int .i64 n] w fun e w'=>e = .returned (.int .i64 0)/\w'=w:=by
 have b:=zA (o:=0) h;simp at b;clear h;go_enter func80,ntmps80;go_wp2;go_ret;exact⟨rfl,rfl⟩
theorem jbg(w:World)(p n g o c:Nat)(x:Int)(r:List Int)(b:0<n)(l:n<9223372036854775807)(h:w.heap[p]?=some (.cells #[.slice (some ⟨g,o,none⟩) (r.length+1) c] 144 (0,0)))(t:r.length+1<=c)(d:c<=maxLen)(s:w.cell? ⟨g,o,none⟩=some (.int .i64 x))(i:-9223372036854775808<=x/\x<=9223372036854775807) :
 Calls prog 80 #[.pointer (some ⟨p,0,none⟩),.int .i64 n] w fun e w'=>e = .returned (.int .i64 (Jr x n))/\w'=w.setCell ⟨p,0,none⟩ (.slice (if c=1 then some ⟨g,o,none⟩ else some ⟨g,o+1,none⟩) r.length (c-1)):=by
 have j:=zA (o:=0) h;have u:=zB (o:=0) h;simp at j;clear h;unfold maxLen at d;obtain⟨q,m⟩:=i;have k:¬(n:Int)=0:=by omega
 by_cases hc1:c=1
 ·subst hc1
  go_enter func80,ntmps80;go_wp2
  all_goals go_ret
  all_goals have f:r.length=0:=by omega
  ·exact⟨E8 (Rn (by omega) b),by rw[f]⟩
  ·exact⟨E8 (Rm (by omega) b),by rw[f]⟩
 ·go_enter func80,ntmps80
  go_wp2
  all_goals go_ret
  ·exact⟨E8 (Rn (by omega) b),rfl⟩
  ·exact⟨E8 (Rm (by omega) b),rfl⟩
theorem X8{P:Program}(w:World){c:Array Oper}{rest:List Oper}{o:Oper}{a:Act}{Q:Exit->Act->World->Prop}(f:o.guard=none)(s x:Operand)(t d:TypeId)(l:o.op = .call { callee:= .builtin .append,args:=#[s,x],argTypes:=#[t,d] })(base:Nat)(e:TypeId)(i:TypeInfo)(ht:P.underlying t=some (.slice e))(hti:P.underlying d=some (.int .i64))(hi:P.info? e=some i)(hz:i.zero=some (.int .u8 0))(hsize:i.size=1)(hby:i.bytes=1)(v:Value)(n:Nat)(xs:List Value)(hs:a.eval s=v)(hown:w.ownsRow base e 1 v n xs)(k:Nat)(hx:a.eval x = .int .i64 k)(hnk:n+k<=1099511627776)(hbase:base<=w.heap.size)(hK:∀(p:Option Addr) (b:Nat) (w':World),w'.ownsRow base e 1 (.slice p (n+k) b) (n+k) (xs++List.replicate k (.int .u8 0))->w.grownBy w' v.ownBlock->((Value.slice p (n+k) b).ownBlock=v.ownBlock\/(Value.slice p (n+k) b).ownBlock=some w.heap.size)->wpList P c Q rest (a.put o.dst (.slice p (n+k) b)) w') :
 wpList P c Q (o::rest) a w:=by
 refine wpList_plain f fun K' hK'=>?_;obtain⟨v',w',j,g,q,m⟩:=Bs (P:=P) w base t d o.type e i ht hti hi hz hsize hby v n xs hown k hnk hbase;obtain⟨p,b,rfl⟩:=jl g;unfold Oper.wp;simp[execOp,l,resolve,invoke,builtin,hs,hx,j,Result.andThen];exact hK' _ _ (hK p b w' g q m)
def sel:List (Nat×Nat)->List Int->List (Nat×Nat)
 | [],_=>[]
 | x::r,ch=>(if Jr (ch.headD 0) 2=1 then [x] else [])++sel r ch.tail
theorem P0:∀(l:List (Nat×Nat)) (x:Nat×Nat) (ch:List Int),sel (l++[x]) ch=sel l ch++if Jr ((ch.drop l.length).headD 0) 2=1 then [x] else []
 | [],x,ch=>by simp[sel]
 | y::r,x,ch=>by
  have ih:=P0 r x ch.tail
  simp only[xM,sel,ih,XL,zH]
  congr 3
  cases ch<;>simp
theorem Ky(l:List (Nat×Nat))(ch:List Int)(k:Nat)(h:k<l.length):sel (l.take (k+1)) ch=sel (l.take k) ch++if Jr ((ch.drop k).headD 0) 2=1 then [l[k]] else []:=by
 rw[XG h,P0];simp[xD (Nat.le_of_lt h)]
theorem Um(l:List (Nat×Nat))(ch:List Int):(sel l ch).length<=l.length:=by
 induction l generalizing ch with
 | nil=>simp[sel]
 | cons x r ih =>
  have:=ih ch.tail;simp only[sel,zW,zH]
  split<;>simp<;>omega
def td:Nat->List (Nat×Nat)->Nat->Prop
 | s,[],e=>s=e
 | s,x::r,e=>x.1=s/\0<x.2/\td (s+x.2) r e
def OkP:Nat->List (Nat×Nat)->Nat->Prop
 | s,[],e=>s<=e
 | s,x::r,e=>s<=x.1/\0<x.2/\OkP (x.1+x.2) r e
theorem OkP.mono:∀ {l:List (Nat×Nat)} {s s' e:Nat},OkP s l e->s'<=s->OkP s' l e
 | [],_,_,_,h,hs=>ZI hs h
 | x::r,_,_,_,h,hs=>⟨ZI hs h.1,h.2.1,h.2.2⟩
theorem OkP.le:∀ {l:List (Nat×Nat)} {s e:Nat},OkP s l e->s<=e
 | [],_,_,h=>h
 | x::r,s,e,h=>by have:=h.2.2.le;have:=h.1;omega
theorem td.sel:∀ {l:List (Nat×Nat)} {s e:Nat} (ch:List Int),td s l e->OkP s (sel l ch) e
 | [],_,_,_,h=>Nat.le_of_eq h
 | x::r,s,e,ch,h=>by
  have ih:=h.2.2.sel ch.tail
  unfold Go.Proofs.YtnipbplghijdmaaGreatDoor.sel
  split
  ·exact⟨by rw[h.1];exact zJ _,h.2.1,by rw[h.1];exact ih⟩
  ·exact ih.mono (by omega)
theorem td.snoc:∀ {l:List (Nat×Nat)} {s e:Nat} (n:Nat),td s l e->0<n->td s (l++[(e,n)]) (e+n)
 | [],s,e,n,h,hn=>⟨h.symm,hn,by rw[h];rfl⟩
 | x::r,s,e,n,h,hn=>⟨h.1,h.2.1,h.2.2.snoc n hn⟩
def Z9(bytes:List UInt8)(b:List UInt8)(x:Nat×Nat):List UInt8:=if 0<x.2 then b++List.replicate (x.1-b.length) 0++(bytes.drop x.1).take x.2 else b
def Qd:List (Nat×Nat)->Bool->List (Nat×Nat)
 | [],_=>[]
 | [x],t=>[(x.1,if t then x.2/2 else x.2)]
 | x::y::r,t=>x::Qd (y::r) t
theorem ow:∀(l:List (Nat×Nat)) (t:Bool),(Qd l t).length=l.length
 | [],_=>rfl
 | [_],_=>rfl
 | x::y::r,t=>by simp[Qd,ow (y::r) t]
theorem Po:∀(l:List (Nat×Nat)) (t:Bool) (k:Nat) (h:k<l.length),(Qd l t)[k]?=some (if k+1=l.length then(l[k].1,if t then l[k].2/2 else l[k].2)else l[k])
 | [x],t,0,_=>by simp[Qd]
 | x::y::r,t,0,_=>by simp[Qd]
 | x::y::r,t,k+1,h=>by
  have:=Po (y::r) t k (by simpa using h)
  simp only[Qd,xG,this]
  simp
def J0(bytes b0:List UInt8)(T:List (Nat×Nat))(t:Bool)(k:Nat):List UInt8:=((Qd T t).take k).foldl (Z9 bytes) b0
theorem C5(bytes c:List UInt8)(T:List (Nat×Nat))(t:Bool)(k:Nat)(h:k<T.length) :
 J0 bytes c T t (k+1)=Z9 bytes (J0 bytes c T t k) (if k+1=T.length then(T[k].1,if t then T[k].2/2 else T[k].2)else T[k]):=by
 have b:k<(Qd T t).length:=by rw[ow];exact h
 have e:=Po T t k h;rw[xB b] at e;unfold J0;rw[XG b,XM,Option.some.inj e];rfl
theorem Df{bytes:List UInt8}{x:Nat×Nat}(d:b.length<=x.1)(c:x.1+x.2<=bytes.length):(Z9 bytes b x).length<=x.1+x.2:=by
 unfold Z9
 split
 ·simp;omega
 ·omega
theorem Og(bytes:List UInt8)(t:Bool):∀(T:List (Nat×Nat)) (c:List UInt8) (s:Nat),OkP s T bytes.length->c.length<=s->∀ k (h:k<T.length),(J0 bytes c T t k).length<=T[k].1/\0<T[k].2/\T[k].1+T[k].2<=bytes.length
 | [],_,_,_,_,k,h=>by simp at h
 | x::r,c,s,hO,hb,0,_=>by
  have:=hO.2.2.le
  exact⟨by simp[J0];exact ZI hb hO.1,hO.2.1,this⟩
 | [x],c,s,hO,hb,k+1,h=>by simp at h
 | x::y::r,c,s,hO,hb,k+1,h=>by
  have d:=hO.2.2.le
  have f:=Df (bytes:=bytes) (b:=c) (x:=x) (ZI hb hO.1) d
  have ih:=Og bytes t (y::r) (Z9 bytes c x) (x.1+x.2) hO.2.2 f k (by simpa using h)
  simpa [J0,Qd] using ih
def jz.settled(a:jz)(ch:List Int):jz :=
 let T:=sel a.late ch
 let b:=J0 a.bytes (a.bytes.take a.safe) T (Jr ((ch.drop a.late.length).headD 0) 2=1) T.length
 ⟨b,b.length,[]⟩
def jz.left(a:jz)(ch:List Int):List Int:=if sel a.late ch=[] then ch.drop a.late.length else(ch.drop a.late.length).tail
def jz.Wf(a:jz):Prop:=a.safe<=a.bytes.length/\td a.safe a.late a.bytes.length
def oq(g:List UInt8):Prop:=∃ l r,r≠[]/\l.length<256^4/\g++r=Rf.frame l
theorem oq.take(h:oq g)(n:Nat):oq (g.take n):=by
 obtain⟨l,r,d,c,b⟩:=h;refine⟨l,g.drop n++r,fun e=>d (List.append_eq_nil_iff.1 e).2,c,?_⟩;rw[<-XL,xQ];exact b
theorem oq.of{l:List UInt8}(b:l.length<256^4){n:Nat}(c:n<(Rf.frame l).length):oq ((Rf.frame l).take n) :=
 ⟨l,(Rf.frame l).drop n,fun e=>by have:=congrArg List.length e;simp at this;omega,b,xQ _ _⟩
theorem oq.nil:oq []:=⟨[],Rf.frame [],fun e=>by have:=congrArg List.length e;simp[Rf.frame,Rf.js] at this,by decide,rfl⟩
theorem oq.over(h:oq g)(last:Nat)(bs:List (List Rf.Ch)):Rf.Over last bs g:=by
 obtain⟨l,r,i,f,b⟩:=h;refine .inr ?_
 have c:Rf.xh g=none:=by
  unfold Rf.xh;rw[if_neg];rintro⟨m,d,_⟩
  have e:g.take 4=Rf.big l.length 4:=by
   have k:(g++r).take 4=g.take 4:=xE (by omega);rw[<-k,b];unfold Rf.frame;rw[XL,xE (by rw[Rf.js];omega),xF (by rw[Rf.js];omega)]
  rw[e,Rf.Js _ _ f] at d;have j:=congrArg List.length b;have n:0<r.length:=ZX.2 i;simp[Rf.frame,Rf.js] at j;omega
 unfold Rf.zr;rw[c]
theorem Ua(n:Nat)(b:8<=n)(x:List UInt8)(last:Nat)(bs:List (List Rf.Ch)):Rf.Over last bs (List.replicate n 0++x):=by
 refine .inr ?_;obtain⟨m,rfl⟩:∃ m,n=8+m:=⟨n-8,by omega⟩
 have e:List.replicate (8+m) (0:UInt8)++x=Rf.frame []++(List.replicate m 0++x):=by
  rw[<-List.replicate_append_replicate,XL];rfl
 rw[e];unfold Rf.zr;rw[Rf.Xh _ _ (by decide)];simp[Rf.Y0]
theorem Wg(bytes b:List UInt8)(x:Nat×Nat):∃ y,Z9 bytes b x=b++y:=by
 unfold Z9
 split
 ·exact⟨_,XL _ _ _⟩
 ·exact⟨[],by simp⟩
theorem Mw(bytes:List UInt8):∀(T:List (Nat×Nat)) (b:List UInt8),∃ y,T.foldl (Z9 bytes) b=b++y
 | [],b=>⟨[],by simp⟩
 | x::r,b=>by
  obtain⟨y,hy⟩:=Wg bytes b x
  obtain⟨z,c⟩:=Mw bytes r (Z9 bytes b x)
  exact⟨y++z,by rw[XN,c,hy,XL]⟩
theorem Tu(bytes:List UInt8)(m:Nat):∀(T:List (Nat×Nat)) (b:List UInt8),(∀ x∈T,b.length+m<=x.1)->T.foldl (Z9 bytes) b=b\/∃ y,T.foldl (Z9 bytes) b=b++(List.replicate m 0++y)
 | [],b,_=> .inl rfl
 | x::r,b,h=>by
  rw[XN]
  have hx:=h x zR
  by_cases h0:0<x.2
  ·obtain⟨z,c⟩:=Mw bytes r (Z9 bytes b x)
   refine .inr ⟨List.replicate (x.1-b.length-m) 0++(bytes.drop x.1).take x.2++z,?_⟩
   rw[c]
   have e:List.replicate (x.1-b.length) (0:UInt8)=List.replicate m 0++List.replicate (x.1-b.length-m) 0:=by
    rw[List.replicate_append_replicate];congr 1;omega
   unfold Z9
   rw[if_pos h0,e]
   simp only[XL]
  ·have e:Z9 bytes b x=b:=by unfold Z9;rw[if_neg h0]
   rw[e];exact Tu bytes m r b (fun y hy=>h y (zQ _ hy))
theorem Fp:∀(T:List (Nat×Nat)) (t:Bool) (k:Nat),(∀ x∈T,k<=x.1)->∀ x∈Qd T t,k<=x.1
 | [],_,_,h,x,hx=>by cases hx
 | [y],t,k,h,x,hx=>by
  rw[zZ.1 hx]
  exact h y zR
 | y::z::r,t,k,h,x,hx=>by
  rcases zF.1 hx with rfl|hx
  ·exact h _ zR
  ·exact Fp (z::r) t k (fun u hu=>h u (zQ _ hu)) x hx
theorem Wz:∀(l:List (Nat×Nat)) (ch:List Int) (x:Nat×Nat),x∈sel l ch->x∈l
 | [],_,x,h=>by cases h
 | y::r,ch,x,h=>by
  rw[sel,ZA] at h
  rcases h with h|h
  ·split at h
   ·rw[zZ.1 h];exact zR
   ·cases h
  ·exact zQ _ (Wz r ch.tail x h)
def pcs:Nat->Nat->List (List Rf.Ch)->List (Nat×Nat)
 | _,_,[]=>[]
 | p,n,b::r=>(p,(Rf.jm n b).length)::pcs (p+(Rf.jm n b).length) (n+1) r
theorem Mb:∀(u:List (List Rf.Ch)) (p n:Nat),∀ x∈pcs p n u,p<=x.1
 | [],_,_,x,h=>by cases h
 | b::r,p,n,x,h=>by
  rcases zF.1 h with rfl|h
  ·exact zJ _
  ·have:=Mb r _ _ x h
   omega
theorem wh(n:Nat)(b:List Rf.Ch):17<=(Rf.jm n b).length:=by
 simp[Rf.jm,Rf.frame,Rf.js];omega
def Zb(last:Nat)(bs:List (List Rf.Ch))(p:Nat)(g:List UInt8):List (Nat×Nat):=if g=[] then [] else [(p+(Rf.jk last bs).length,g.length)]
theorem Q0(last:Nat)(b:List Rf.Ch)(r:List (List Rf.Ch)):Rf.jk last (b::r)=Rf.jm (last+1) b++Rf.jk (last+1) r:=rfl
theorem Dc(n:Nat)(b:List Rf.Ch)(h:(Rf.jm n b).length<256^4):∃ l,l.length<256^4/\Rf.jm n b=Rf.frame l:=by
 refine⟨_,?_,rfl⟩;have:(Rf.frame (Rf.big n 8++Rf.big b.length 1++b.flatMap Rf.entry)).length<256^4:=h;rw[Rf.frame,zW] at this;omega
theorem Tb(t:Bool)(g:List UInt8)(p:oq g):∀(u:List (List Rf.Ch)) (c bytes:List UInt8) (last:Nat) (ch:List Int),(∀ b∈u,∀ n,(Rf.jm n b).length<256^4)->bytes=c++Rf.jk last u++g ->
 ∃ i g',i<=u.length/\(Qd (sel (pcs c.length (last+1) u++Zb last u c.length g) ch) t).foldl (Z9 bytes) c=c++Rf.jk last (u.take i)++g'/\∀ k bs,Rf.Over k bs g'
 | [],c,bytes,last,ch,hs,e=>by
  by_cases h:g=[]
  ·refine⟨0,[],zJ _,?_,fun k bs=>Rf.X4 _ _⟩
   simp[pcs,Zb,h,sel,Qd,Rf.jk]
  ·have e1:Zb last [] c.length g=[(c.length,g.length)]:=by simp[Zb,h,Rf.jk]
   rw[e1]
   simp only[pcs,xL,sel,ZC]
   split
   ·have H:bytes.drop c.length=g:=by rw[e];simp[Rf.jk]
    have G:∀ n,n<=g.length->[(c.length,n)].foldl (Z9 bytes) c=c++g.take n:=by
     intro n I;by_cases h0:0<n
     ·simp[Z9,h0,H]
     ·have:n=0:=by omega
      subst this;simp[Z9]
    refine⟨0,g.take (if t then g.length/2 else g.length),zJ _,?_,(p.take _).over⟩
    rw[Qd,G _ (by split<;>omega)]
    simp[Rf.jk]
   ·refine⟨0,[],zJ _,?_,fun k bs=>Rf.X4 _ _⟩
    simp[Qd,Rf.jk]
 | b::r,c,bytes,last,ch,hs,e=>by
  have m:=wh (last+1) b;obtain⟨l,B,o⟩:=Dc (last+1) b (hs b zR _)
  have s:(bytes.drop c.length).take (Rf.jm (last+1) b).length=Rf.jm (last+1) b:=by
   rw[e,Q0];simp
  simp only[pcs,xM,sel]
  have F:Zb last (b::r) c.length g=Zb (last+1) r (c++Rf.jm (last+1) b).length g:=by
   unfold Zb;rw[Q0,zW,zW,XO]
  have A:c.length+(Rf.jm (last+1) b).length=(c++Rf.jm (last+1) b).length:=by rw[zW]
  rw[F,A];have ih:=Tb t g p r (c++Rf.jm (last+1) b) bytes (last+1) ch.tail (fun x f=>hs x (zQ _ f)) (by rw[e,Q0];simp[XL])
  have d:∀ x∈sel (pcs (c++Rf.jm (last+1) b).length (last+1+1) r++Zb (last+1) r (c++Rf.jm (last+1) b).length g) ch.tail,c.length+(Rf.jm (last+1) b).length<=x.1:=by
   intro x f;have:=Wz _ _ _ f;rw[A];rcases ZA.1 this with h|h
   ·exact Mb _ _ _ x h
   ·unfold Zb at h
    split at h
    ·cases h
    ·rw[zZ.1 h]
     exact Nat.le_add_right _ _
  generalize hT:sel (pcs (c++Rf.jm (last+1) b).length (last+1+1) r++Zb (last+1) r (c++Rf.jm (last+1) b).length g) ch.tail=T at ih d ⊢
  split
  ·have z:Z9 bytes c (c.length,(Rf.jm (last+1) b).length)=c++Rf.jm (last+1) b:=by
    unfold Z9;rw[if_pos (by show 0<(Rf.jm (last+1) b).length;omega)];simp[s]
   cases hTc:T with
   | nil =>
    cases t with
    | false =>
     refine⟨1,[],by simp,?_,fun k bs=>Rf.X4 _ _⟩;simp only[List.singleton_append,Qd,XN,List.foldl_nil];rw[show(if false=true then(Rf.jm (last+1) b).length/2 else(Rf.jm (last+1) b).length)=(Rf.jm (last+1) b).length from rfl,z,List.take_succ_cons,List.take_zero,Q0,Rf.jk,ZC,ZC]
    | true =>
     refine⟨0,(Rf.jm (last+1) b).take ((Rf.jm (last+1) b).length/2),zG _,?_,?_⟩
     ·simp only[List.singleton_append,Qd,XN,List.foldl_nil]
      unfold Z9;rw[if_pos (by show 0<(if true=true then(Rf.jm (last+1) b).length/2 else(Rf.jm (last+1) b).length);simp;omega)]
      have E:(bytes.drop c.length).take ((Rf.jm (last+1) b).length/2)=(Rf.jm (last+1) b).take ((Rf.jm (last+1) b).length/2):=by
       have v:=congrArg (List.take ((Rf.jm (last+1) b).length/2)) s;rw[List.take_take,xD (by omega)] at v;exact v
      simp[E,Rf.jk]
     ·have j:oq ((Rf.jm (last+1) b).take ((Rf.jm (last+1) b).length/2)):=by
       rw[o] at m ⊢;exact oq.of B (by omega)
      exact j.over
   | cons y q =>
    rw[hTc] at ih;obtain⟨i,g',J,D,C⟩:=ih;refine⟨i+1,g',by simp;omega,?_,C⟩;show(Qd ((c.length,(Rf.jm (last+1) b).length)::y::q) t).foldl (Z9 bytes) c=_;rw[Qd,XN,z,D,List.take_succ_cons,Q0];simp[XL]
  ·rw[xL]
   rcases Tu bytes (Rf.jm (last+1) b).length (Qd T t) c (Fp T t _ d)with h|⟨y,h⟩
   ·exact⟨0,[],zG _,by rw[h];simp[Rf.jk],fun k bs=>Rf.X4 _ _⟩
   ·exact⟨0,List.replicate (Rf.jm (last+1) b).length 0++y,zG _,by rw[h];simp[Rf.jk],fun k bs=>Ua _ (by omega) _ _ _⟩
structure Ex(a:jz)(last:Nat)(bs u:List (List Rf.Ch))(g:List UInt8):Prop where
 bytes:a.bytes=Rf.jk last (bs++u)++g
 safe:a.safe=(Rf.jk last bs).length
 late:a.late=pcs (Rf.jk last bs).length (last+bs.length+1) u++Zb (last+bs.length) u (Rf.jk last bs).length g
 stub:oq g
theorem Qn(last:Nat):∀(bs u:List (List Rf.Ch)),Rf.jk last (bs++u)=Rf.jk last bs++Rf.jk (last+bs.length) u
 | bs,[]=>by simp[Rf.jk]
 | bs,b::r=>by
  have ih:=Qn last (bs++[b]) r
  rw[XL,List.singleton_append] at ih
  rw[ih,Rf.al,Q0,XL,zW,ZK,XO]
theorem Ex.settled{a:jz}{last:Nat}{u:List (List Rf.Ch)}(h:Ex a last bs u g)(d:∀ b∈u,∀ n,(Rf.jm n b).length<256^4)(ch:List Int) :
 ∃ i g',i<=u.length/\(a.settled ch).bytes=Rf.jk last (bs++u.take i)++g'/\∀ k cs,Rf.Over k cs g':=by
 have c:a.bytes=Rf.jk last bs++Rf.jk (last+bs.length) u++g:=by rw[h.bytes,Qn]
 obtain⟨i,g',l,j,f⟩:=Tb (decide (Jr ((ch.drop a.late.length).headD 0) 2=1)) g h.stub u (Rf.jk last bs) a.bytes (last+bs.length) ch d c;refine⟨i,g',l,?_,f⟩;show J0 a.bytes (a.bytes.take a.safe) (sel a.late ch) (decide (Jr ((ch.drop a.late.length).headD 0) 2=1)) (sel a.late ch).length=_
 have m:a.bytes.take a.safe=Rf.jk last bs:=by
  rw[c,h.safe,XL,xE (zJ _),xR]
 rw[m,Qn,<-j,<-h.late];unfold J0;rw[xF (by rw[ow];exact zJ _)]
def tf(P:DataW Nat->Prop):DataW Nat->List y9->Prop
 | D,[]=>P D
 | D,c::r=>P D/\tf P (doA D c) r
theorem tf.snoc:∀ {l:List y9} {D:DataW Nat} {c:y9},tf P D l->P (doA (l.foldl doA D) c)->tf P D (l++[c])
 | [],D,c,h,k=>⟨h,k⟩
 | x::r,D,c,h,k=>⟨h.1,h.2.snoc k⟩
theorem tf.last:∀ {l:List y9} {D:DataW Nat},tf P D l->P (l.foldl doA D)
 | [],D,h=>h
 | x::r,D,h=>h.2.last
theorem tf.at:∀ {l:List y9} {D:DataW Nat} (j:Nat),tf P D l->P (Jp D l j)
 | [],D,j,h=>by
  have e:Jp D [] j=D:=by simp[Jp]
  rw[e];exact h
 | x::r,D,0,h=>by simpa [Jp] using h.1
 | x::r,D,j+1,h=>by simpa [Jp] using h.2.at j
theorem tf.mono{R:DataW Nat->Prop}(hP:∀ D,P D->R D):∀ {l:List y9} {D:DataW Nat},tf P D l->tf R D l
 | [],D,h=>hP D h
 | x::r,D,h=>⟨hP D h.1,h.2.mono hP⟩
structure yw(b:List UInt8)(a:jz):Prop where
 bytes:a.bytes=b
 safe:a.safe=b.length
 late:a.late=[]
theorem cy{a:jz}(d:a.safe=a.bytes.length)(c:a.late=[])(ch:List Int):a.settled ch=a:=by
 obtain⟨b,s,l⟩:=a;simp only at d c;subst d c;simp[jz.settled,sel,J0,Qd]
theorem yw.synced{a:jz}(h:yw b a):yw b a.synced:=⟨h.bytes,by simp[jz.synced,h.bytes],rfl⟩
theorem yw.settled{a:jz}(h:yw b a)(ch:List Int):yw b (a.settled ch):=by
 rw[cy (by rw[h.safe,h.bytes]) h.late];exact h
structure Want where
 Jj:Rf.St->Prop
 now:Rf.St->Prop
 le:∀ s,now s->Jj s
 Qd:Rf.St->Prop
structure Want.Le(Q R:Want):Prop where
 Jj:∀ s,Q.Jj s->R.Jj s
 now:∀ s,Q.now s->R.now s
 Qd:∀ s,Q.Qd s->R.Qd s
theorem Want.Le.refl(Q:Want):Q.Le Q:=⟨fun _ q=>q,fun _ q=>q,fun _ q=>q⟩
def Want.down(Q:Want):Want:=⟨Q.Jj,Q.Jj,fun _ q=>q,Q.Qd⟩
theorem Want.jgk(Q:Want):Q.Le Q.down:=⟨fun _ q=>q,Q.le,fun _ q=>q⟩
def Want.whole(Q:Want):Want:=⟨Q.Jj,Q.now,Q.le,fun _=>False⟩
theorem Want.Fc(Q:Want):Q.whole.Le Q:=⟨fun _ q=>q,fun _ q=>q,fun _ q=>q.elim⟩
def Lg(m:Rf.Man)(bls:List (List Rf.Ch))(P t:Rf.St->Prop)(b:List UInt8):Prop:=∃ bs g,b=Rf.jk m.last bs++g/\Rf.Over m.last bs g/\(⟨m,bs,bls⟩:Rf.St).Ok/\P ⟨m,bs,bls⟩/\(g≠[]->t ⟨m,bs,bls⟩)
theorem Lg.mono{P R t u:Rf.St->Prop}(h:Lg m bls P t b)(d:∀ s,P s->R s)(c:∀ s,t s->u s):Lg m bls R u b:=by
 obtain⟨bs,g,l,k,j,i,f⟩:=h;exact⟨bs,g,l,k,j,d _ i,fun e=>c _ (f e)⟩
def Jg(m:Rf.Man)(bls:List (List Rf.Ch))(Q:Want)(a:jz):Prop:=(∀ ch,Lg m bls Q.Jj Q.Qd (a.settled ch).bytes)/\Lg m bls Q.now Q.Qd a.bytes
theorem Jg.mono{Q R:Want}{a:jz}(h:Jg m bls Q a)(b:Q.Le R):Jg m bls R a:=⟨fun ch=>(h.1 ch).mono b.Jj b.Qd,h.2.mono b.now b.Qd⟩
theorem Jg.synced{Q:Want}{a:jz}(h:Jg m bls Q a):Jg m bls Q a.synced:=⟨fun ch=>by rw[cy rfl rfl];exact h.2.mono Q.le (fun _ q=>q),h.2⟩
theorem Jg.settled{Q:Want}{a:jz}(h:Jg m bls Q.down a)(ch:List Int):Jg m bls Q.down (a.settled ch):=⟨fun c=>by rw[cy rfl rfl];exact h.1 ch,h.1 ch⟩
theorem Jg.sure{Q:Want}{a:jz}(h:yw (Rf.jk m.last bs) a)(c:(⟨m,bs,bls⟩:Rf.St).Ok)(d:Q.now ⟨m,bs,bls⟩):Jg m bls Q a:=by
 have b:Lg m bls Q.now Q.Qd a.bytes:=⟨bs,[],by rw[h.bytes,ZC],Rf.X4 _ _,c,d,fun e=>absurd rfl e⟩;exact⟨fun ch=>by rw[cy (by rw[h.safe,h.bytes]) h.late];exact b.mono Q.le (fun _ q=>q),b⟩
abbrev Fls:=Nat->Option jz
def Fls.put(fs:Fls)(f:Nat)(a:jz):Fls:=fun i=>if i=f then some a else fs i
theorem Fls.yl(fs:Fls)(f:Nat)(a:jz):fs.put f a f=some a:=if_pos rfl
theorem Fls.yx(fs:Fls){g:Nat}(a:jz)(h:g≠f):fs.put f a g=fs g:=if_neg h
def Sat(T:List Tok)(fs:Fls)(n:Str)(P:jz->Prop):Prop:=∃ f a,(n,f)∈T/\fs f=some a/\P a
theorem Sat.mono{fs:Fls}{P R:jz->Prop}(h:Sat T fs n P)(b:∀ a,P a->R a):Sat T fs n R:=by
 obtain⟨f,a,g,d,c⟩:=h;exact⟨f,a,g,d,b a c⟩
theorem Sat.jn{fs:Fls}{x:Str}{P:jz->Prop}(h:Sat T fs n P)(b:n≠x):Sat (jn T x) fs n P:=by
 obtain⟨f,a,g,d,c⟩:=h;exact⟨f,a,qh.2 ⟨g,b⟩,d,c⟩
theorem Sat.cons{fs:Fls}{P:jz->Prop}(h:Sat T fs n P)(t:Tok):Sat (t::T) fs n P:=by
 obtain⟨f,a,d,c,b⟩:=h;exact⟨f,a,zQ _ d,c,b⟩
theorem Sat.fresh{fs:Fls}{P:jz->Prop}(h:Sat T fs n P)(d:fs f=none)(a:jz):Sat T (fs.put f a) n P:=by
 obtain⟨g,b,j,c,i⟩:=h;exact⟨g,b,j,(fs.yx a (fun e=>by rw[e,d] at c;cases c)).trans c,i⟩
theorem Sat.write{fs:Fls}{P:jz->Prop}{a a':jz}(h:Sat T fs n P)(j:fs f=some a)(k:P a->P a'):Sat T (fs.put f a') n P:=by
 obtain⟨g,b,i,c,d⟩:=h;by_cases e:g=f
 ·subst e
  rw[j] at c;cases c;exact⟨g,a',i,fs.yl _ _,k d⟩
 ·exact⟨g,b,i,(fs.yx a' e).trans c,d⟩
def Zv(fs:Fls)(T:List Tok):Nat:=(T.map (fun p=>(xm fs p.2).length+1)).sum
structure Names(D:DataW Nat)(fs:Fls)(U:Nat)(T:List Tok):Prop where
 X2:bz D T
 files:∀ p∈T,∃ a,fs p.2=some a
 apart:T.Pairwise (fun p q=>p.2≠q.2)
 size:Zv fs T<=U
 short:∀ p∈T,p.1.length<=60/\p.1≠[]
structure ue(T:List Tok)(fs:Fls)(m:Rf.Man)(bls:List (List Rf.Ch))(Q:Want):Prop where
 man:Sat T fs ji (yw m.bytes)
 runs:∀ p∈qq m.settled bls,Sat T fs p.1 (yw p.2)
 log:Sat T fs (jh m.log) (Jg m bls Q)
def Qw(fs:Fls)(U:Nat)(m:Rf.Man)(bls:List (List Rf.Ch))(Q:Want)(D:DataW Nat):Prop:=∃ T,Names D fs U T/\ue T fs m bls Q
def Mz(fs:Fls)(U:Nat)(Q:Want)(D:DataW Nat):Prop:=∃ m bls,Qw fs U m bls Q D
def Idle(m:Rf.Man)(n:Str):Prop:=n≠ji/\n∉jt m
theorem Idle.run(h:Idle m n){p:Str×List UInt8}(c:p∈qq m.settled bls):p.1≠n:=by
 obtain⟨q,b,rfl⟩:=J9.1 c;exact fun e=>h.2 (by rw[<-e];exact ZB _ (zS.2 ⟨q.1,(List.of_mem_zip b).1,rfl⟩))
theorem Idle.log(h:Idle m n):jh m.log≠n:=fun e=>h.2 (by rw[<-e];exact zY _ (zZ.2 rfl))
theorem ue.mono{fs:Fls}{Q R:Want}(h:ue T fs m bls Q)(b:Q.Le R):ue T fs m bls R :=
 ⟨h.man,h.runs,h.log.mono (fun a ha=>ha.mono b)⟩
theorem ue.fresh{fs:Fls}{Q:Want}(h:ue T fs m bls Q)(b:fs f=none)(a:jz):ue T (fs.put f a) m bls Q :=
 ⟨h.man.fresh b a,fun p hp=>(h.runs p hp).fresh b a,h.log.fresh b a⟩
theorem ue.idle{fs:Fls}{Q:Want}(h:ue T fs m bls Q)(b:Idle m n):ue (jn T n) fs m bls Q :=
 ⟨h.man.jn (Ne.symm b.1),fun p hp=>(h.runs p hp).jn (b.run hp),h.log.jn b.log⟩
theorem ue.cons{fs:Fls}{Q:Want}(h:ue T fs m bls Q)(t:Tok):ue (t::T) fs m bls Q :=
 ⟨h.man.cons t,fun p hp=>(h.runs p hp).cons t,h.log.cons t⟩
structure nu(Q:Want)(a a':jz):Prop where
 sure:∀ b,yw b a->yw b a'
 log:∀ m bls,Jg m bls Q a->Jg m bls Q a'
theorem nu.synced(Q:Want)(a:jz):nu Q a a.synced:=⟨fun b h=>h.synced,fun m bls h=>h.synced⟩
theorem nu.settled(Q:Want)(a:jz)(ch:List Int):nu Q.down a (a.settled ch):=⟨fun b h=>h.settled ch,fun m bls h=>h.settled ch⟩
theorem ue.write{fs:Fls}{Q:Want}{a a':jz}(h:ue T fs m bls Q)(b:fs f=some a)(g:nu Q a a'):ue T (fs.put f a') m bls Q :=
 ⟨h.man.write b (g.sure _),fun p hp=>(h.runs p hp).write b (g.sure _),h.log.write b (g.log _ _)⟩
theorem Qj(fs:Fls)(p:Tok)(T:List Tok):Zv fs (p::T)=(xm fs p.2).length+1+Zv fs T:=by simp[Zv]
theorem ao(fs:Fls)(T:List Tok)(n:Str):Zv fs (jn T n)<=Zv fs T:=by
 induction T with
 | nil=>exact zJ _
 | cons x r ih =>
  unfold jn at ih ⊢;rw[List.filter_cons]
  split
  ·rw[Qj,Qj];omega
  ·rw[Qj];omega
theorem Hz{fs b:Fls}(h:∀ p∈T,b p.2=fs p.2):Zv b T=Zv fs T:=by
 unfold Zv;congr 1;exact ZR (fun p hp=>by unfold xm;rw[h p hp])
theorem Ml{fs:Fls}{a a':jz}(d:fs f=some a)(g:a'.bytes.length<=a.bytes.length+c):∀ {T:List Tok},T.Pairwise (fun p q=>p.2≠q.2)->Zv (fs.put f a') T<=Zv fs T+c
 | [],_=>Nat.le_add_right _ _
 | x::r,h=>by
  have hp:=XD.1 h
  rw[Qj,Qj]
  by_cases e:x.2=f
  ·have j:Zv (fs.put f a') r=Zv fs r:=Hz (fun p hp'=>fs.yx a' (fun e'=>hp.1 p hp' (e.trans e'.symm)))
   have b:xm (fs.put f a') x.2=a'.bytes:=by unfold xm;rw[e,fs.yl];rfl
   have i:xm fs x.2=a.bytes:=by unfold xm;rw[e,d];rfl
   rw[j,b,i]
   omega
  ·have ih:=Ml d g hp.2
   have b:xm (fs.put f a') x.2=xm fs x.2:=by unfold xm;rw[fs.yx a' e]
   rw[b]
   omega
theorem Names.mono{fs:Fls}(h:Names D fs U T)(b:U<=U'):Names D fs U' T:=⟨h.X2,h.files,h.apart,ZI h.size b,h.short⟩
theorem Names.fresh{fs:Fls}(h:Names D fs U T)(g:fs f=none)(a:jz):Names D (fs.put f a) U T:=by
 have c:∀ p∈T,p.2≠f:=fun p hp e=>by obtain⟨b,d⟩:=h.files p hp;rw[e,g] at d;cases d
 refine⟨h.X2,fun p hp=>?_,h.apart,?_,h.short⟩
 ·rw[fs.yx a (c p hp)];exact h.files p hp
 ·rw[Hz (fun p hp=>fs.yx a (c p hp))];exact h.size
theorem Names.write{fs:Fls}{a a':jz}(h:Names D fs U T)(b:fs f=some a)(d:a'.bytes.length<=a.bytes.length+c):Names D (fs.put f a') (U+c) T:=by
 refine⟨h.X2,fun p hp=>?_,h.apart,ZI (Ml b d h.apart) (Nat.add_le_add_right h.size _),h.short⟩;by_cases e:p.2=f
 ·exact⟨a',by rw[e];exact fs.yl _ _⟩
 ·rw[fs.yx a' e];exact h.files p hp
theorem Names.ai{fs:Fls}(h:Names D fs U T)(n:Str):Names (doA D ⟨[],n,[],none⟩) fs U (jn T n) :=
 ⟨h.X2.del n,fun p hp=>h.files p (qh.1 hp).1,h.apart.sublist ZF,ZI (ao _ _ _) h.size,fun p hp=>h.short p (qh.1 hp).1⟩
theorem Names.made{fs:Fls}(h:Names D fs U T)(i:fs f=none)(a:jz)(l:n≠[])(m:n.length<=60):Names (doA D ⟨n,[],[],some f⟩) (fs.put f a) (U+1+a.bytes.length) ((n,f)::jn T n):=by
 have d:∀ p∈T,p.2≠f:=fun p c e=>by obtain⟨b,j⟩:=h.files p c;rw[e,i] at j;cases j
 have k:=h.fresh i a
 have o:doA D ⟨n,[],[],some f⟩=D.put (.string n) (.held f):=by
  have g:n.isEmpty=false:=by cases n<;>simp_all
  simp[doA,g,lh]
 refine⟨by rw[o];exact h.X2.put n f,fun p c=>?_,XD.2 ⟨fun p c=>Ne.symm (d p (qh.1 c).1),h.apart.sublist ZF⟩,?_,fun p c=>?_⟩
 ·rcases zF.1 c with rfl|c
  ·exact⟨a,fs.yl _ _⟩
  ·exact k.files p (qh.1 c).1
 ·rw[Qj]
  have e:xm (fs.put f a) f=a.bytes:=by unfold xm;rw[fs.yl];rfl
  have:=ao (fs.put f a) T n;have:=k.size;show(xm (fs.put f a) f).length+1+_<=_;rw[e];omega
 ·rcases zF.1 c with rfl|c
  ·exact⟨m,l⟩
  ·exact h.short p (qh.1 c).1
theorem Names.renamed{fs:Fls}{a:jz}(h:Names D fs U T){ds:Str}(q:(sr,f)∈T)(o:ds≠[])(g:ds≠sr)(v:ds.length<=60):Names (doA D ⟨[],sr,ds,some f⟩) fs (U+1+(xm fs f).length) ((ds,f)::jn (jn T ds) sr):=by
 have x:doA D ⟨[],sr,ds,some f⟩=(D.put (.string ds) (.held f)).del (.string sr):=by
  have m:ds.isEmpty=false:=by cases ds<;>simp_all
  simp[doA,m,lh,g]
 have z:jn ((ds,f)::jn T ds) sr=(ds,f)::jn (jn T ds) sr:=by
  show List.filter _ (_::_)=_;rw[List.filter_cons,if_pos (by simpa using g)];rfl
 have n:∀ p∈jn (jn T ds) sr,p.2≠f:=fun p b e=>by
  have u:=(qh.1 (qh.1 b).1).1;have t:=(qh.1 b).2
  have:p=(sr,f):=by
   have y:=h.apart;rcases ZG.1 u with⟨i,s,l⟩;rcases ZG.1 q with⟨j,r,k⟩;have d:=XF.1 y;rcases Nat.lt_trichotomy i j with c|c|c
   ·exact((d i j s r c) (by rw[l,k];exact e)).elim
   ·subst c;rw[<-l,k]
   ·exact((d j i r s c) (by rw[l,k];exact e.symm)).elim
  exact t (by rw[this])
 refine⟨by rw[x,<-z];exact(h.X2.put ds f).del sr,fun p b=>?_,XD.2 ⟨fun p b=>Ne.symm (n p b),(h.apart.sublist ZF).sublist ZF⟩,?_,fun p b=>?_⟩
 ·rcases zF.1 b with rfl|b
  ·exact h.files (sr,f) q
  ·exact h.files p (qh.1 (qh.1 b).1).1
 ·rw[Qj]
  have u:=ao fs (jn T ds) sr;have t:=ao fs T ds;have A:=h.size;show(xm fs f).length+1+_<=_;omega
 ·rcases zF.1 b with rfl|b
  ·exact⟨v,o⟩
  ·exact h.short p (qh.1 (qh.1 b).1).1
theorem Qw.mono{fs:Fls}{Q R:Want}(h:Qw fs U m bls Q D)(b:U<=U')(c:Q.Le R):Qw fs U' m bls R D:=by
 obtain⟨T,f,d⟩:=h;exact⟨T,f.mono b,d.mono c⟩
theorem Qw.fresh{fs:Fls}{Q:Want}(h:Qw fs U m bls Q D)(b:fs f=none)(a:jz):Qw (fs.put f a) U m bls Q D:=by
 obtain⟨T,d,c⟩:=h;exact⟨T,d.fresh b a,c.fresh b a⟩
theorem Qw.write{fs:Fls}{Q:Want}{a a':jz}(h:Qw fs U m bls Q D)(b:fs f=some a)(g:nu Q a a')(d:a'.bytes.length<=a.bytes.length+c):Qw (fs.put f a') (U+c) m bls Q D:=by
 obtain⟨T,j,i⟩:=h;exact⟨T,j.write b d,i.write b g⟩
theorem Qw.ai{fs:Fls}{Q:Want}(h:Qw fs U m bls Q D)(b:Idle m n):Qw fs U m bls Q (doA D ⟨[],n,[],none⟩):=by
 obtain⟨T,d,c⟩:=h;exact⟨_,d.ai n,c.idle b⟩
theorem Qw.made{fs:Fls}{Q:Want}(h:Qw fs U m bls Q D)(b:fs f=none)(a:jz)(c:Idle m n)(j:n≠[])(d:n.length<=60):Qw (fs.put f a) (U+1+a.bytes.length) m bls Q (doA D ⟨n,[],[],some f⟩):=by
 obtain⟨T,i,g⟩:=h;exact⟨_,i.made b a j d,((g.fresh b a).idle c).cons _⟩
theorem Qw.jbr{fs:Fls}{c:Rf.Man}{b:List (List Rf.Ch)}{Q:Want}(h:Qw fs U m bls Q D)(t:Names D fs U T)(d:Idle c sr){a:jz}(r:(sr,f)∈T)(j:fs f=some a)(k:yw c.bytes a)(l:∀ p∈qq c.settled b,Sat T fs p.1 (yw p.2))(s:Sat T fs (jh c.log) (Jg c b Q))(g:ji∉jt c):Qw fs (U+1+c.bytes.length) c b Q (doA D ⟨[],sr,ji,some f⟩):=by
 have e:xm fs f=c.bytes:=by unfold xm;rw[j];exact k.bytes
 have i:∀ {n:Str} {P:jz->Prop},Sat T fs n P->n∈jt c->Sat ((ji,f)::jn (jn T ji) sr) fs n P:=fun {n} {P} hs hn=>((hs.jn (show n≠ji from fun e=>g (by rw[<-e];exact hn))).jn (show n≠sr from fun e=>d.2 (by rw[<-e];exact hn))).cons _;refine⟨_,by rw[<-e];exact t.renamed (a:=a) r (by decide) (Ne.symm d.1) (by decide),⟨⟨f,a,zR,j,k⟩,fun p hp=>i (l p hp) ?_,i s ?_⟩⟩
 ·obtain⟨q,o,rfl⟩:=J9.1 hp
  exact ZB _ (zS.2 ⟨q.1,(List.of_mem_zip o).1,rfl⟩)
 ·exact zY _ (zZ.2 rfl)
end Go.Proofs.YtnipbplghijdmaaGreatDoor
namespace Go.Proofs.YtnipbplghijdmaaGreatDoor
open RowKit Maps WideShapes Go.Proofs.Tryz
structure Pow(S:jc)(U:Nat)(m:Rf.Man)(bls:List (List Rf.Ch))(Q:Want):Prop where
 tied:S.names=S.late.foldl doA S.safe
 wf:∀ f a,S.files f=some a->a.Wf
 small:∀ f a,S.files f=some a->a.bytes.length<=60000
 all:tf (Mz S.files U Q) S.safe S.late
 cur:Qw S.files U m bls Q S.names
def At(S:jc)(n:Str)(P:jz->Prop):Prop:=∃ f a,S.at n=some f/\S.files f=some a/\P a
theorem Names.fs{S:jc}{U:Nat}{T:List Tok}(h:Names S.names S.files U T):Fs S T:=⟨h.X2,h.files,h.apart⟩
theorem At.sat{S:jc}{n:Str}{P:jz->Prop}{U:Nat}{T:List Tok}(h:Names S.names S.files U T):At S n P↔Sat T S.files n P:=by
 constructor
 ·rintro⟨f,a,d,c,b⟩
  exact⟨f,a,h.fs.at.1 d,c,b⟩
 ·rintro⟨f,a,d,c,b⟩
  exact⟨f,a,h.fs.at.2 d,c,b⟩
theorem At.mono{S:jc}{n:Str}{P R:jz->Prop}(h:At S n P)(b:∀ a,P a->R a):At S n R:=by
 obtain⟨f,a,g,d,c⟩:=h;exact⟨f,a,g,d,b a c⟩
theorem At.zu{S S':jc}{n:Str}{P:jz->Prop}(h:At S n P)(i:S'.names=S.names)(g:S'.files=S.files):At S' n P:=by
 obtain⟨f,a,b,d,c⟩:=h;exact⟨f,a,by unfold jc.at at b ⊢;rw[i];exact b,by rw[g];exact d,c⟩
variable {S S':jc} {U:Nat} {m:Rf.Man} {bls:List (List Rf.Ch)} {Q:Want}
theorem Pow.zu(h:Pow S U m bls Q)(f:S'.names=S.names)(b:S'.files=S.files)(d:S'.safe=S.safe)(c:S'.late=S.late):Pow S' U m bls Q :=
 ⟨by rw[f,d,c];exact h.tied,by rw[b];exact h.wf,by rw[b];exact h.small,by rw[b,d,c];exact h.all,by rw[f,b];exact h.cur⟩
theorem Pow.called(h:Pow S U m bls Q)(c:Bool):Pow (S.called c) U m bls Q:=h.zu rfl rfl rfl rfl
theorem Pow.mono{R:Want}{V:Nat}(h:Pow S U m bls Q)(b:U<=V)(c:Q.Le R):Pow S V m bls R :=
 ⟨h.tied,h.wf,h.small,h.all.mono (fun D ⟨m',b',k⟩=>⟨m',b',k.mono b c⟩),h.cur.mono b c⟩
theorem Pow.grow{V:Nat}(h:Pow S U m bls Q)(b:U<=V):Pow S V m bls Q:=h.mono b (Want.Le.refl _)
theorem Pow.held(h:Pow S U m bls Q):At S ji (yw m.bytes)/\(∀ p∈qq m.settled bls,At S p.1 (yw p.2))/\At S (jh m.log) (Jg m bls Q):=by
 obtain⟨T,c,b⟩:=h.cur;exact⟨(At.sat c).2 b.man,fun p hp=>(At.sat c).2 (b.runs p hp),(At.sat c).2 b.log⟩
theorem Pow.total(h:Pow S U m bls Q):total S.files S.names<=U:=by
 obtain⟨T,b,c⟩:=h.cur;rw[b.X2.total];refine ZI ?_ b.size;unfold Zv xm;clear b c
 induction T with
 | nil=>exact zJ _
 | cons x r ih =>
  simp only[zP,List.sum_cons]
  have:(S.files x.2).elim 0 (fun a=>a.bytes.length)<=((S.files x.2).elim [] jz.bytes).length+1:=by
   cases S.files x.2<;>simp
  omega
theorem Pow.written(h:Pow S U m bls Q){f c:Nat}{a a':jz}(j:S.files f=some a)(g:nu Q a a')(n:a'.Wf)(l:a'.bytes.length<=a.bytes.length+c)(o:a'.bytes.length<=60000):Pow (S.withFile f a') (U+c) m bls Q:=by
 refine⟨h.tied,fun i b hb=>?_,fun i b hb=>?_,h.all.mono (fun D ⟨m',b',k⟩=>⟨m',b',k.write j g l⟩),h.cur.write j g l⟩
 all_goals
  have d:Fls.put S.files f a' i=some b:=hb;by_cases e:i=f
  ·subst e;rw[Fls.yl] at d;cases d;first|exact n|exact o
  ·rw[Fls.yx _ _ e] at d;first|exact h.wf i b d|exact h.small i b d
theorem Ly(a:jz):a.synced.Wf:=⟨zJ _,rfl⟩
theorem Yx(S:jc)(n:Str):(S.qn n=(S.called true,false)/\(S.bad=true\/S.at n=none\/∃ f,S.at n=some f/\S.files f=none))\/∃ f a,S.bad=false/\S.at n=some f/\S.files f=some a/\S.qn n=((S.called true).withFile f a.synced,true):=by
 unfold jc.qn
 cases hb:S.bad with
 | true=>exact .inl ⟨by simp,.inl rfl⟩
 | false =>
  cases hA:S.at n with
  | none=>exact .inl ⟨by simp,.inr (.inl rfl)⟩
  | some f =>
   cases hf:S.files f with
   | none=>exact .inl ⟨by simp[hf],.inr (.inr ⟨f,rfl,hf⟩)⟩
   | some a=>exact .inr ⟨f,a,rfl,rfl,hf,by simp[hf]⟩
theorem Pow.sync(h:Pow S U m bls Q)(n:Str):Pow (S.qn n).1 U m bls Q:=by
 rcases Yx S n with⟨e,_⟩|⟨f,a,_,_,b,e⟩
 ·rw[e];exact h.called true
 ·rw[e];exact(h.called true).written (c:=0) b (nu.synced Q a) (Ly a) (zJ _) (h.small f a b)
theorem At.withFile{n:Str}{P:jz->Prop}(h:At S n P){f:Nat}{a a':jz}(j:S.files f=some a)(k:P a->P a'):At (S.withFile f a') n P:=by
 obtain⟨g,b,i,c,d⟩:=h;by_cases e:g=f
 ·subst e
  rw[j] at c;cases c;exact⟨g,a',i,Fls.yl _ _ _,k d⟩
 ·exact⟨g,b,i,(Fls.yx _ a' e).trans c,d⟩
theorem At.sync{n:Str}{P:jz->Prop}(h:At S n P)(x:Str)(c:∀ a,P a->P a.synced):At (S.qn x).1 n P:=by
 rcases Yx S x with⟨e,_⟩|⟨f,a,_,_,b,e⟩
 ·rw[e];exact h.zu rfl rfl
 ·rw[e];exact At.withFile (S:=S.called true) (h.zu rfl rfl) b (c a)
theorem th(n:Str)(c:(S.qn n).2=true){P:jz->Prop}(h:At S n P):At (S.qn n).1 n (fun a'=>∃ a,P a/\a'=a.synced):=by
 rcases Yx S n with⟨e,_⟩|⟨f,a,_,d,k,e⟩
 ·rw[e] at c;cases c
 ·obtain⟨g,b,j,i,l⟩:=h
  rw[d] at j;cases j;rw[k] at i;cases i;rw[e];exact⟨f,a.synced,d,Fls.yl _ _ _,a,l,rfl⟩
theorem Lz(w:qe S){n:Str}{P:jz->Prop}(h:At S n P):(S.qn n).2=true/\qe (S.qn n).1:=by
 obtain⟨f,a,d,i,_⟩:=h;rcases Yx S n with⟨e,k⟩|⟨m,a',_,l,j,e⟩
 ·rcases k with k|k|⟨g,c,b⟩
  ·rw[w.bad] at k;cases k
  ·rw[d] at k;cases k
  ·rw[d] at c;cases c;rw[i] at b;cases b
 ·rw[e];exact⟨rfl,(w.called true).zu rfl rfl⟩
theorem Yu(S:jc):(S.bad=true/\S.Ye=(S.called true,false))\/(S.bad=false/\S.Ye=({ S.called true with safe:=S.late.foldl doA S.safe,late:=[] },true)):=by
 unfold jc.Ye
 cases hb:S.bad with
 | true=>exact .inl ⟨rfl,by simp⟩
 | false=>exact .inr ⟨rfl,by simp[jc.called]⟩
theorem Pow.dir(h:Pow S U m bls Q):Pow S.Ye.1 U m bls Q:=by
 rcases Yu S with⟨_,e⟩|⟨_,e⟩
 ·rw[e];exact h.called true
 ·rw[e]
  exact⟨h.tied,h.wf,h.small,by rw[<-h.tied];exact⟨m,bls,h.cur⟩,h.cur⟩
theorem Il(b:S.Ye.2=true):S.Ye.1.late=[]:=by
 rcases Yu S with⟨_,e⟩|⟨_,e⟩
 ·rw[e] at b;cases b
 ·rw[e]
theorem At.dir{n:Str}{P:jz->Prop}(h:At S n P):At S.Ye.1 n P:=by
 rcases Yu S with⟨_,e⟩|⟨_,e⟩<;>rw[e]<;>exact h.zu rfl rfl
theorem A6(w:qe S):S.Ye.2=true/\qe S.Ye.1:=by
 rcases Yu S with⟨k,e⟩|⟨_,e⟩
 ·rw[w.bad] at k;cases k
 ·rw[e];exact⟨rfl,(w.called true).zu rfl rfl⟩
theorem Pow.sure(h:Pow S U m bls Q)(ns:List Str):Pow (jc.xx ns S).1 U m bls Q:=by
 induction ns generalizing S with
 | nil=>exact h.dir
 | cons n r ih =>
  unfold jc.xx
  split
  ·exact ih (h.sync n)
  ·exact h.sync n
theorem L5(ns:List Str)(b:(jc.xx ns S).2=true):(jc.xx ns S).1.late=[]:=by
 induction ns generalizing S with
 | nil=>exact Il b
 | cons n r ih =>
  unfold jc.xx at b ⊢
  split
  ·rename_i h1;rw[if_pos h1] at b;exact ih b
  ·rename_i h1;rw[if_neg h1] at b;cases b
theorem At.sure{n:Str}{P:jz->Prop}(h:At S n P)(ns:List Str)(b:∀ a,P a->P a.synced):At (jc.xx ns S).1 n P:=by
 induction ns generalizing S with
 | nil=>exact h.dir
 | cons x r ih =>
  unfold jc.xx
  split
  ·exact ih (h.sync x b)
  ·exact h.sync x b
theorem tj{n:Str}{P:jz->Prop}(h:At S n P)(ns:List Str)(f:n∈ns)(c:(jc.xx ns S).2=true)(d:∀ a,P a->P a.synced):At (jc.xx ns S).1 n (fun a=>P a/\yw a.bytes a):=by
 induction ns generalizing S with
 | nil=>cases f
 | cons x r ih =>
  unfold jc.xx at c ⊢
  split
  ·rename_i h1
   rw[if_pos h1] at c;by_cases e:n=x
   ·subst e
    refine At.sure ((th n h1 h).mono ?_) r (fun a q=>⟨d a q.1,q.2.synced⟩);rintro a ⟨b,g,rfl⟩;exact⟨d b g,⟨rfl,rfl,rfl⟩⟩
   ·exact ih (h.sync x d) ((zF.1 f).resolve_left e) c
  ·rename_i h1;rw[if_neg h1] at c;cases c
theorem L0(w:qe S)(ns:List Str)(h:∀ n∈ns,At S n (fun _=>True)):(jc.xx ns S).2=true/\qe (jc.xx ns S).1:=by
 induction ns generalizing S with
 | nil=>exact A6 w
 | cons x r ih =>
  obtain⟨c,b⟩:=Lz w (h x zR);unfold jc.xx;rw[if_pos c];exact ih b (fun n hn=>(h n (zQ _ hn)).sync x (fun _ t=>t))
theorem Pow.made(h:Pow S U m bls Q){f:Nat}{a:jz}{n:Str}(g:S.files f=none)(p:a.Wf)(q:a.bytes.length<=60000)(r:Idle m n)(t:n≠[])(s:n.length<=60)(d:S'.names=doA S.names ⟨n,[],[],some f⟩)(o:S'.late=S.late++[⟨n,[],[],some f⟩])(l:S'.safe=S.safe)(c:S'.files=Fls.put S.files f a) :
 Pow S' (U+1+a.bytes.length) m bls Q:=by
 have j:Qw S'.files (U+1+a.bytes.length) m bls Q S'.names:=by rw[d,c];exact h.cur.made g a r t s
 refine⟨by rw[d,o,l,XM,<-h.tied];rfl,fun i b hb=>?_,fun i b hb=>?_,?_,j⟩
 ·rw[c] at hb
  by_cases e:i=f
  ·subst e;rw[Fls.yl] at hb;cases hb;exact p
  ·rw[Fls.yx _ _ e] at hb;exact h.wf i b hb
 ·rw[c] at hb
  by_cases e:i=f
  ·subst e;rw[Fls.yl] at hb;cases hb;exact q
  ·rw[Fls.yx _ _ e] at hb;exact h.small i b hb
 ·rw[o,l]
  refine tf.snoc (h.all.mono (fun D ⟨m',b',k⟩=>⟨m',b',?_⟩)) ⟨m,bls,by rw[<-h.tied,<-d];exact j⟩;rw[c];exact(k.fresh g a).mono (by omega) (Want.Le.refl _)
theorem Pb(h:Pow S U m bls Q){f:Nat}{a:jz}{n:Str}(b:S.files f=none)(l:Idle m n)(j:n≠[])(i:n.length<=60)(k:S'.names=doA S.names ⟨n,[],[],some f⟩)(g:S'.files=Fls.put S.files f a) :
 S'.at n=some f/\∀ x P,x≠n->At S x P->At S' x P:=by
 obtain⟨T,d,o⟩:=h.cur;have c:Names S'.names S'.files (U+1+a.bytes.length) ((n,f)::jn T n):=by rw[k,g];exact d.made b a j i
 refine⟨c.fs.at.2 zR,fun x P hx hP=>(At.sat c).2 ?_⟩;rw[g];exact((((At.sat d).1 hP).fresh b a).jn hx).cons _
theorem mj:qd.Wf:=⟨zJ _,rfl⟩
theorem Cu(x:List UInt8):(qd.put x).Wf/\(qd.put x).bytes=x:=by
 unfold jz.put qd
 split
 ·rename_i e;subst e;exact⟨⟨zJ _,rfl⟩,rfl⟩
 ·rename_i e
  have:0<x.length:=ZX.2 e;exact⟨⟨zG _,⟨rfl,this,by simp[td]⟩⟩,rfl⟩
theorem jab(fs:Fls)(f:Nat)(a b:jz):(fs.put f a).put f b=fs.put f b:=by
 funext i;by_cases e:i=f
 ·subst e;rw[Fls.yl,Fls.yl]
 ·rw[Fls.yx _ _ e,Fls.yx _ _ e,Fls.yx _ _ e]
theorem Pow.lay(h:Pow S U m bls Q){n:Str}{b:List UInt8}{F:Bool}(v:Idle m n)(A:n≠[])(z:n.length<=60)(h6:b.length<=60000)(r:Xp n b S S' F) :
 Pow S' (U+1+b.length) m bls Q/\(F=true->At S' n (fun a=>a.bytes=b/\(b=[]->yw [] a)))/\(∀ x P,x≠n->At S x P->At S' x P)/\(qe S->U+1+b.length<=20000->F=true/\qe S'):=by
 have i:∀ {j l},Lt n S j l->(j=S.called true/\l=false/\S.bad=true)\/(l=true/\∃ f,S.files f=none/\j=((S.called true).withFile f qd).named ⟨n,[],[],some f⟩):=by
  rintro j l (⟨R,N,M⟩|⟨R,N,f,M,a4⟩)
  ·exact .inl ⟨N,M,R⟩
  ·exact .inr ⟨N,f,M,a4⟩
 have D:∀ {j:jc},j=S.called true->S.bad=true->Pow j (U+1+b.length) m bls Q/\(∀ x P,x≠n->At S x P->At j x P)/\¬qe S:=fun e k=>by
  subst e;exact⟨(h.called true).grow (by omega),fun x P _ q=>q.zu rfl rfl,fun w=>by rw[w.bad] at k;cases k⟩
 unfold Xp at r
 split at r
 ·rename_i hb
  subst hb;rcases i r with⟨e,rfl,k⟩|⟨rfl,f,s,rfl⟩
  ·obtain⟨p,u,o⟩:=D e k
   exact⟨p,fun t=>(by cases t),u,fun w=>(o w).elim⟩
  ·obtain⟨g1,Z⟩:=Pb (S':=((S.called true).withFile f qd).named ⟨n,[],[],some f⟩) (a:=qd) h s v A z rfl rfl
   exact⟨h.made s mj (zG _) v A z rfl rfl rfl rfl,fun _=>⟨f,qd,g1,Fls.yl _ _ _,rfl,fun _=>⟨rfl,rfl,rfl⟩⟩,Z,fun w _=>⟨rfl,(w.called true).zu rfl rfl⟩⟩
 ·rename_i hb
  rcases r with⟨E,rfl⟩|⟨j,E,V⟩
  ·rcases i E with⟨e,_,k⟩|⟨e,_⟩
   ·obtain⟨p,u,o⟩:=D e k
    exact⟨p,fun t=>(by cases t),u,fun w=>(o w).elim⟩
   ·cases e
  ·rcases i E with⟨_,e,_⟩|⟨_,f,s,rfl⟩
   ·cases e
   ·have g:=Pb (S':=((S.called true).withFile f qd).named ⟨n,[],[],some f⟩) (a:=qd) h s v A z rfl rfl
    have O:Pow (((S.called true).withFile f qd).named ⟨n,[],[],some f⟩) (U+1+0) m bls Q:=h.made s mj (zG _) v A z rfl rfl rfl rfl
    have H:∀(x:List UInt8) (B:jc),x.length<=b.length->B=((((S.called true).withFile f qd).named ⟨n,[],[],some f⟩).called true).withFile f (qd.put x)->Pow B (U+1+b.length) m bls Q/\At B n (fun a=>a.bytes=x)/\(∀ y P,y≠n->At S y P->At B y P):=by
     rintro x B hx rfl;have L:(((((S.called true).withFile f qd).named ⟨n,[],[],some f⟩).called true).withFile f (qd.put x)).files=Fls.put S.files f (qd.put x):=jab S.files f qd (qd.put x);obtain⟨Y,X⟩:=Pb (S':=((((S.called true).withFile f qd).named ⟨n,[],[],some f⟩).called true).withFile f (qd.put x)) (a:=qd.put x) h s v A z rfl L;obtain⟨W,G⟩:=Cu x;refine⟨(Pow.made (S':=((((S.called true).withFile f qd).named ⟨n,[],[],some f⟩).called true).withFile f (qd.put x)) (a:=qd.put x) h s W (by rw[G];omega) v A z rfl rfl rfl L).grow (by rw[G];omega),⟨f,qd.put x,Y,by rw[L];exact Fls.yl _ _ _,G⟩,X⟩
    rcases V with⟨⟨f',a',C,J,I⟩,rfl⟩|⟨B,⟨f',a',C,J,I⟩,e2,rfl⟩
    ·rw[g.1] at C;cases C
     have d:Fls.put S.files f qd f=some a':=J;rw[Fls.yl] at d;cases d;rcases I with⟨c,e,_⟩|⟨_,_,_,e⟩
     ·obtain⟨p,u,o⟩:=H (b.take (b.length/2)) S' (by rw[zK];omega) e
      refine⟨p,fun t=>(by cases t),o,fun w hU=>?_⟩;exfalso;rcases c with c|c
      ·have T:qe (((S.called true).withFile f qd).named ⟨n,[],[],some f⟩):=(w.called true).zu rfl rfl
       rw[T.bad] at c;cases c
      ·have:=O.total
       omega
     ·cases e
    ·rw[g.1] at C;cases C
     have d:Fls.put S.files f qd f=some a':=J;rw[Fls.yl] at d;cases d;rcases I with⟨_,_,e⟩|⟨_,_,e,_⟩
     ·cases e
     ·subst e2
      obtain⟨p,u,o⟩:=H b S' (zJ _) e;refine⟨p,fun _=>u.mono (fun a q=>⟨q,fun e0=>(hb e0).elim⟩),o,fun w _=>⟨rfl,?_⟩⟩;rw[e];exact(((w.called true).zu rfl rfl:qe (((S.called true).withFile f qd).named ⟨n,[],[],some f⟩)).called true).zu rfl rfl
theorem Pow.named(h:Pow S U m bls Q){V:Nat}{d:Rf.Man}{b:List (List Rf.Ch)}{c:y9}(j:U<=V)(f:Qw S.files V d b Q (doA S.names c)):Pow ((S.called true).named c) V d b Q:=by
 have g:(S.late++[c]).foldl doA S.safe=doA S.names c:=by rw[XM,<-h.tied];rfl
 have i:tf (Mz S.files V Q) S.safe (S.late++[c]):=tf.snoc (h.all.mono (fun D ⟨m1,b1,k⟩=>⟨m1,b1,k.mono j (Want.Le.refl _)⟩)) ⟨d,b,by rw[<-h.tied];exact f⟩;exact⟨g.symm,h.wf,h.small,i,f⟩
theorem aj(S:jc)(n:Str):(S.xj n=(S.called true,false)/\(S.bad=true\/S.at n=none))\/(S.bad=false/\(∃ f,S.at n=some f)/\S.xj n=((S.called true).named ⟨[],n,[],none⟩,true)):=by
 unfold jc.xj
 cases hb:S.bad with
 | true=>exact .inl ⟨by simp,.inl rfl⟩
 | false =>
  cases hA:S.at n with
  | none=>exact .inl ⟨by simp,.inr rfl⟩
  | some f=>exact .inr ⟨rfl,⟨f,rfl⟩,by simp⟩
theorem Pow.remove(h:Pow S U m bls Q){n:Str}(b:Idle m n):Pow (S.xj n).1 U m bls Q:=by
 rcases aj S n with⟨e,_⟩|⟨_,_,e⟩
 ·rw[e];exact h.called true
 ·rw[e]
  exact h.named (zJ _) (h.cur.ai b)
theorem At.remove(h:Pow S U m bls Q){n x:Str}{P:jz->Prop}(b:At S x P)(d:x≠n):At (S.xj n).1 x P:=by
 rcases aj S n with⟨e,_⟩|⟨_,_,e⟩
 ·rw[e];exact b.zu rfl rfl
 ·rw[e]
  obtain⟨T,c,f⟩:=h.cur;exact(At.sat (S:=(S.called true).named ⟨[],n,[],none⟩) (c.ai n)).2 (((At.sat c).1 b).jn d)
theorem Rh(w:qe S){n:Str}(h:At S n (fun _=>True)):(S.xj n).2=true/\qe (S.xj n).1:=by
 obtain⟨f,a,b,_⟩:=h;rcases aj S n with⟨e,k⟩|⟨_,_,e⟩
 ·rcases k with k|k
  ·rw[w.bad] at k;cases k
  ·rw[b] at k;cases k
 ·rw[e];exact⟨rfl,(w.called true).zu rfl rfl⟩
theorem Pow.Yi(h:Pow S U m bls Q)(ns:List Str)(b:∀ n∈ns,Idle m n):Pow (jc.yf ns S).1 U m bls Q:=by
 induction ns generalizing S with
 | nil=>exact h
 | cons n r ih =>
  unfold jc.yf
  split
  ·exact ih (h.remove (b n zR)) (fun x hx=>b x (zQ _ hx))
  ·exact h.remove (b n zR)
theorem At.Yi(h:Pow S U m bls Q)(ns:List Str)(c:∀ n∈ns,Idle m n){x:Str}{P:jz->Prop}(d:At S x P)(b:x∉ns):At (jc.yf ns S).1 x P:=by
 induction ns generalizing S with
 | nil=>exact d
 | cons n r ih =>
  have f:=d.remove h (n:=n) (fun e=>b (by rw[e];exact zR));unfold jc.yf
  split
  ·exact ih (h.remove (c n zR)) (fun y hy=>c y (zQ _ hy)) f (fun t=>b (zQ _ t))
  ·exact f
theorem Nf(h:Pow S U m bls Q)(w:qe S)(ns:List Str)(c:∀ n∈ns,Idle m n)(f:ns.Nodup)(d:∀ n∈ns,At S n (fun _=>True)):(jc.yf ns S).2=true/\qe (jc.yf ns S).1:=by
 induction ns generalizing S with
 | nil=>exact⟨rfl,w⟩
 | cons n r ih =>
  obtain⟨i,g⟩:=Rh w (d n zR);have b:=XE.1 f;unfold jc.yf;rw[if_pos i];exact ih (h.remove (c n zR)) g (fun y hy=>c y (zQ _ hy)) b.2 (fun y hy=>(d y (zQ _ hy)).remove h (fun e=>b.1 (e▸hy)))
theorem Pow.removeAll(h:Pow S U m bls Q)(ns:List Str)(b:∀ n∈ns,Idle m n):Pow (jc.jr ns S).1 U m bls Q:=by
 unfold jc.jr xu
 split
 ·exact h
 ·split
  ·exact(h.Yi ns b).dir
  ·exact h.Yi ns b
theorem At.removeAll(h:Pow S U m bls Q)(ns:List Str)(d:∀ n∈ns,Idle m n){x:Str}{P:jz->Prop}(b:At S x P)(c:x∉ns):At (jc.jr ns S).1 x P:=by
 unfold jc.jr xu
 split
 ·exact b
 ·split
  ·exact(b.Yi h ns d c).dir
  ·exact b.Yi h ns d c
theorem ed(ns:List Str)(c:S.late=[])(b:(jc.jr ns S).2=true):(jc.jr ns S).1.late=[]:=by
 unfold jc.jr xu at b ⊢
 split
 ·exact c
 ·rename_i h1
  rw[if_neg h1] at b
  split
  ·rename_i h2;rw[if_pos h2] at b;exact Il b
  ·rename_i h2;rw[if_neg h2] at b;cases b
theorem Gp(h:Pow S U m bls Q)(w:qe S)(ns:List Str)(b:∀ n∈ns,Idle m n)(c:ns.Nodup)(d:∀ n∈ns,At S n (fun _=>True)):(jc.jr ns S).2=true/\qe (jc.jr ns S).1:=by
 unfold jc.jr xu
 split
 ·exact⟨rfl,w⟩
 ·obtain⟨g,f⟩:=Nf h w ns b c d
  rw[if_pos g];exact A6 f
theorem il(S:jc)(sr ds:Str)(b:ds≠[]):(S.qt sr ds=(S.called true,false)/\(S.bad=true\/S.at sr=none))\/∃ f,S.bad=false/\S.at sr=some f/\S.qt sr ds=((S.called true).named ⟨[],sr,ds,some f⟩,true):=by
 unfold jc.qt
 cases hb:S.bad with
 | true=>exact .inl ⟨by simp,.inl rfl⟩
 | false =>
  cases hA:S.at sr with
  | none=>exact .inl ⟨by simp,.inr rfl⟩
  | some f=>exact .inr ⟨f,rfl,rfl,by simp[b]⟩
theorem Pow.rename(h:Pow S U m bls Q){c:Rf.Man}{b:List (List Rf.Ch)}(j:Idle c jq)(l:ji∉jt c)(z:At S jq (yw c.bytes))(r:∀ p∈qq c.settled b,At S p.1 (yw p.2))(s:At S (jh c.log) (Jg c b Q)) :
 ((S.qt jq ji).2=true->Pow (S.qt jq ji).1 (U+1+c.bytes.length) c b Q)/\((S.qt jq ji).2=false->Pow (S.qt jq ji).1 (U+1+c.bytes.length) m bls Q) /\
 (∀ x P,x≠jq->x≠ji->At S x P->At (S.qt jq ji).1 x P)/\(qe S->(S.qt jq ji).2=true/\qe (S.qt jq ji).1):=by
 obtain⟨T,d,A⟩:=h.cur;obtain⟨f,a,i,v,o⟩:=z;rcases il S jq ji (by decide)with⟨e,k⟩|⟨B,_,g,e⟩
 ·rw[e]
  refine⟨fun t=>(by cases t),fun _=>(h.called true).grow (by omega),fun x P _ _ q=>q.zu rfl rfl,fun w=>?_⟩;rcases k with k|k
  ·rw[w.bad] at k;cases k
  ·rw[i] at k;cases k
 ·rw[i] at g;cases g
  rw[e];have n:=d.fs.at.1 i;have u:Qw S.files (U+1+c.bytes.length) c b Q (doA S.names ⟨[],jq,ji,some f⟩):=h.cur.jbr d j n v o (fun p hp=>(At.sat d).1 (r p hp)) ((At.sat d).1 s) l;refine⟨fun _=>h.named (by omega) u,fun t=>(by cases t),fun x P hx1 hx2 q=>?_,fun w=>⟨rfl,(w.called true).zu rfl rfl⟩⟩
  ·have y:=d.renamed (a:=a) n (ds:=ji) (by decide) (by decide) (by decide)
   exact(At.sat (S:=(S.called true).named ⟨[],jq,ji,some f⟩) y).2 (((((At.sat d).1 q).jn hx2).jn hx1).cons _)
end Go.Proofs.YtnipbplghijdmaaGreatDoor
namespace Go.Proofs.YtnipbplghijdmaaGreatDoor
open RowKit Maps WideShapes Go.Proofs.Tryz
variable {S S':jc} {U:Nat} {m:Rf.Man} {bls:List (List Rf.Ch)} {Q:Want}
theorem Hv(m:Rf.Man):Idle m jq:=⟨by decide,fun h=>by
 rcases ZA.1 h with h|h
 ·obtain⟨k,_,e⟩:=zS.1 h
  exact Ey k e.symm
 ·exact Ez _ (zZ.1 h)⟩
theorem Ry(m:Rf.Man):ji∉jt m:=fun h=>by
 rcases ZA.1 h with h|h
 ·obtain⟨k,_,e⟩:=zS.1 h
  exact gq k e.symm
 ·exact tn _ (zZ.1 h)
theorem rz{m:Rf.Man}(h:m.Good){n:Nat}(d:m.next<=n):Idle m (jo n):=⟨Ne.symm (gq n),fun b=>by
 rcases ZA.1 b with b|b
 ·obtain⟨k,c,e⟩:=zS.1 b
  have:=h.2.2.1 k (ZB _ c)
  have:=gj e
  omega
 ·exact Yj _ _ (zZ.1 b).symm⟩
theorem Ss{m:Rf.Man}(h:m.Good){n:Nat}(c:m.next<=n):Idle m (jh n):=⟨Ne.symm (tn n),fun b=>by
 rcases ZA.1 b with b|b
 ·obtain⟨k,d,e⟩:=zS.1 b
  exact Yj _ _ e.symm
 ·have:=h.2.2.1 m.log (zY _ (zZ.2 rfl))
  have:=rq (zZ.1 b)
  omega⟩
theorem jaa{m:Rf.Man}{b:List (List Rf.Ch)}{p:Str×List UInt8}(d:p∈qq m.settled b):p.1∈jt m:=by
 obtain⟨q,c,rfl⟩:=J9.1 d;exact ZB _ (zS.2 ⟨q.1,(List.of_mem_zip c).1,rfl⟩)
theorem Ff(m:Rf.Man):jh m.log∈jt m:=zY _ (zZ.2 rfl)
structure My(S:jc)(m:Rf.Man)(bls bs:List (List Rf.Ch))(Q:Want):Prop where
 runs:∀ p∈qq m.settled bls,At S p.1 (fun a=>a.bytes=p.2)
 log:At S (jh m.log) (fun a=>a.bytes=Rf.jk m.last bs)
 ok:(⟨m,bs,bls⟩:Rf.St).Ok
 all:∀ n∈jt m,At S n (fun _=>True)
 jh1:Q.now ⟨m,bs,bls⟩
theorem Pow.install(h:Pow S U m bls Q){c:Rf.Man}{f A:List (List Rf.Ch)}(R:My S c f A Q)(h6:c.bytes.length<=60000){G:Bool}(r:yt c S S' G) :
 (G=true->Pow S' (U+2+2*c.bytes.length) c f Q/\S'.late=[]/\At S' (jh c.log) (yw (Rf.jk c.last A))) /\
 (G=false->Pow S' (U+2+2*c.bytes.length) m bls Q\/Pow S' (U+2+2*c.bytes.length) c f Q) /\
 (∀ x P,x≠jq->x≠ji->(∀ a,P a->P a.synced)->At S x P->At S' x P) /\
 (qe S->U+1+c.bytes.length<=20000->G=true/\qe S'):=by
 unfold yt at r;have hb:c.bytes≠[]:=fun e=>by have:=congrArg List.length e;simp[Rf.Man.bytes,Rf.ff,Rf.frame,Rf.js] at this
 have J:=h.sure (jt c);have y:∀ x P,(∀ a,P a->P a.synced)->At S x P->At (jc.xx (jt c) S).1 x P:=fun x P hP hA=>hA.sure (jt c) hP;have u:qe S->(jc.xx (jt c) S).2=true/\qe (jc.xx (jt c) S).1:=fun w=>L0 w _ R.all;rcases r with⟨r,rfl⟩|⟨E,r,k⟩
 ·have l:jc.xx (jt c) S=(S',false):=r
  rw[l] at J y u;exact⟨fun t=>(by cases t),fun _=> .inl (J.grow (by omega)),fun x P _ _ hP hA=>y x P hP hA,fun w=>by have:=(u w).1;cases this⟩
 have l:jc.xx (jt c) S=(E,true):=r;have L1:E.late=[]:=by have:=L5 (S:=S) (jt c) (by rw[l]);rwa [l] at this
 have R1:∀ p∈qq c.settled f,At E p.1 (yw p.2):=fun p hp=>by
  have:=tj (R.runs p hp) (jt c) (jaa hp) (by rw[l]) (fun a e=>e);rw[l] at this;exact this.mono (fun a q=>by rw[<-q.1];exact q.2)
 have G1:At E (jh c.log) (yw (Rf.jk c.last A)):=by
  have:=tj R.log (jt c) (Ff c) (by rw[l]) (fun a e=>e);rw[l] at this;exact this.mono (fun a q=>by rw[<-q.1];exact q.2)
 rw[l] at J y u;have hi:=Hv m;have F:=Hv c;have s:∀ {n},n∈jt c->n≠jq/\n≠ji:=fun {n} hn=>⟨fun e=>F.2 (e▸hn),fun e=>Ry c (e▸hn)⟩;have Z:∀ {i:jc} {ok2:Bool},Xp jq c.bytes E i ok2->_:=fun {i} {ok2} q=>J.lay hi (by decide) (by decide) h6 q;rcases k with⟨T,rfl⟩|⟨i,T,k⟩
 ·obtain⟨a1,a2,a3,a4⟩:=Z T
  exact⟨fun t=>(by cases t),fun _=> .inl (a1.grow (by omega)),fun x P h1 _ hP hA=>a3 x P h1 (y x P hP hA),fun w hU=>by have:=(a4 (u w).2 hU).1;cases this⟩
 obtain⟨P2,L,C,H⟩:=Z T;have L:=L rfl;have R2:∀ p∈qq c.settled f,At i p.1 (yw p.2):=fun p hp=>C _ _ (s (jaa hp)).1 (R1 p hp);have G2:=C _ _ (s (Ff c)).1 G1;have I:=P2.sync jq;have v:∀ x P,(∀ a,P a->P a.synced)->At i x P->At (i.qn jq).1 x P:=fun x P hP hA=>hA.sync jq hP;have B:qe i->(i.qn jq).2=true/\qe (i.qn jq).1:=fun w=>Lz w L;rcases k with⟨O,rfl⟩|⟨o,O,k⟩
 ·have j:i.qn jq=(S',false):=O
  rw[j] at I v B;exact⟨fun t=>(by cases t),fun _=> .inl (I.grow (by omega)),fun x P h1 _ hP hA=>v x P hP (C x P h1 (y x P hP hA)),fun w hU=>by have:=(B (H (u w).2 hU).2).1;cases this⟩
 have j:i.qn jq=(o,true):=O
 have T3:At o jq (yw c.bytes):=by
  have:=th (S:=i) jq (by rw[j]) L;rw[j] at this;exact this.mono (fun a ⟨b,q,e⟩=>by rw[e];exact⟨q.1,by show b.bytes.length=_;rw[q.1],rfl⟩)
 rw[j] at I v B;have R3:∀ p∈qq c.settled f,At o p.1 (yw p.2):=fun p hp=>v _ _ (fun a q=>q.synced) (R2 p hp);have G3:=v _ _ (fun a q=>q.synced) G2;have X:At o (jh c.log) (Jg c f Q):=G3.mono (fun a q=>Jg.sure q R.ok R.jh1);obtain⟨Y,W,M,V⟩:=I.rename F (Ry c) T3 R3 X;rcases k with⟨N,rfl⟩|⟨S4,N,e4,rfl⟩
 ·have d:xu (o.qt jq ji)=(S',false):=N
  unfold xu at d
  split at d
  ·rename_i g
   have D:=(Y g).dir;rw[d] at D;refine⟨fun t=>(by cases t),fun _=> .inr (D.grow (by omega)),fun x P h1 h2 hP hA=>?_,fun w hU=>?_⟩
   ·have:=(M x P h1 h2 (v x P hP (C x P h1 (y x P hP hA)))).dir
    rwa [d] at this
   ·have:=(A6 (V (B (H (u w).2 hU).2).2).2).1
    rw[d] at this;cases this
  ·rename_i g
   have g:(o.qt jq ji).2=false:=by simpa using g
   have e:S'=(o.qt jq ji).1:=(congrArg Prod.fst d).symm;rw[e];refine⟨fun t=>(by cases t),fun _=> .inl ((W g).grow (by omega)),fun x P h1 h2 hP hA=>M x P h1 h2 (v x P hP (C x P h1 (y x P hP hA))),fun w hU=>?_⟩;have:=(V (B (H (u w).2 hU).2).2).1;rw[g] at this;cases this
 ·subst e4
  have d:xu (o.qt jq ji)=(S',true):=N;unfold xu at d
  split at d
  ·rename_i g
   have D:=(Y g).dir;have Dl:=Il (S:=(o.qt jq ji).1) (by rw[d]);have z:=(M _ _ (s (Ff c)).1 (s (Ff c)).2 G3).dir;rw[d] at D Dl z;refine⟨fun _=>⟨D.grow (by omega),Dl,z⟩,fun t=>(by cases t),fun x P h1 h2 hP hA=>?_,fun w hU=>⟨rfl,?_⟩⟩
   ·have:=(M x P h1 h2 (v x P hP (C x P h1 (y x P hP hA)))).dir
    rwa [d] at this
   ·have:=(A6 (V (B (H (u w).2 hU).2).2).2).2
    rwa [d] at this
  ·cases d
end Go.Proofs.YtnipbplghijdmaaGreatDoor
namespace Go.Proofs.YtnipbplghijdmaaGreatDoor
open RowKit Maps WideShapes Go.Proofs.Tryz
variable {S S':jc} {U:Nat} {m:Rf.Man} {bls:List (List Rf.Ch)} {Q:Want}
def Qf(S:jc)(ns:List Str):Prop:=∀ n f,S.at n=some f->n∈ns
theorem Qf.zu{ns:List Str}(h:Qf S ns)(e:S'.names=S.names):Qf S' ns:=fun n f hf=>h n f (by unfold jc.at at hf ⊢;rw[<-e];exact hf)
theorem Qf.sub{ns b:List Str}(h:Qf S ns)(c:∀ n∈ns,n∈b):Qf S b:=fun n f hf=>c n (h n f hf)
theorem au(S:jc)(n:Str):(S.qn n).1.names=S.names:=by
 rcases Yx S n with⟨e,_⟩|⟨f,a,_,_,b,e⟩<;>rw[e]<;>rfl
theorem vz(S:jc):S.Ye.1.names=S.names:=by
 rcases Yu S with⟨_,e⟩|⟨_,e⟩<;>rw[e]<;>rfl
theorem Ck(ns:List Str)(S:jc):(jc.xx ns S).1.names=S.names:=by
 induction ns generalizing S with
 | nil=>exact vz S
 | cons n r ih =>
  unfold jc.xx
  split
  ·rw[ih,au]
  ·exact au S n
theorem Qf.made(h:Pow S U m bls Q){ns:List Str}(d:Qf S ns){f:Nat}{a:jz}{n:Str}(k:S.files f=none)(o:n≠[])(j:n.length<=60)(q:S'.names=doA S.names ⟨n,[],[],some f⟩)(p:S'.files=Fls.put S.files f a):Qf S' (n::ns):=by
 obtain⟨T,b,r⟩:=h.cur;have l:Names S'.names S'.files (U+1+a.bytes.length) ((n,f)::jn T n):=by rw[q,p];exact b.made k a o j
 intro x g c;rcases zF.1 (l.fs.at.1 c)with e|i
 ·cases e;exact zR
 ·exact zQ _ (d x g (b.fs.at.2 (qh.1 i).1))
theorem Qf.lay(h:Pow S U m bls Q){ns:List Str}(i:Qf S ns){n:Str}{b:List UInt8}{o:Bool}(t:n≠[])(p:n.length<=60)(r:Xp n b S S' o):Qf S' (n::ns):=by
 have g:∀ {c:jc} {ok1:Bool},Lt n S c ok1->Qf c (n::ns):=fun {c} {ok1} q=>by
  rcases q with⟨_,e,_⟩|⟨_,_,f,s,e⟩
  ·rw[e];exact(i.zu rfl).sub (fun x hx=>zQ _ hx)
  ·rw[e];exact Qf.made (a:=qd) h i s t p rfl rfl
 unfold Xp at r
 split at r
 ·exact g r
 ·rcases r with⟨r,_⟩|⟨c,r,k⟩
  ·exact g r
  ·have l:=g r
   have j:∀ {d:jc} {ok2:Bool},Kp n b c d ok2->d.names=c.names:=fun {d} {ok2} q=>by
    obtain⟨f,a,_,_,⟨_,e,_⟩|⟨_,_,e,_⟩⟩:=q<;>rw[e]<;>rfl
   rcases k with⟨k,_⟩|⟨d,k,e,_⟩
   ·exact l.zu (j k)
   ·rw[e];exact l.zu (j k)
theorem Qf.remove(h:Pow S U m bls Q){ns:List Str}(i:Qf S ns)(n:Str)(b:(S.xj n).2=true):Qf (S.xj n).1 (ns.filter (fun x=>decide (x≠n))):=by
 rcases aj S n with⟨e,_⟩|⟨_,_,e⟩
 ·rw[e] at b;cases b
 ·rw[e]
  obtain⟨T,d,k⟩:=h.cur;have j:Fs ((S.called true).named ⟨[],n,[],none⟩) (jn T n):=Names.fs (S:=(S.called true).named ⟨[],n,[],none⟩) (d.ai n);intro x g f;have c:=qh.1 (j.at.1 f);exact ZD.2 ⟨i x g (d.fs.at.2 c.1),by simpa using c.2⟩
theorem Qf.Yi(h:Pow S U m bls Q){ks:List Str}(d:Qf S ks)(ns:List Str)(c:∀ n∈ns,Idle m n)(b:(jc.yf ns S).2=true):Qf (jc.yf ns S).1 (ks.filter (fun x=>decide (x∉ns))):=by
 induction ns generalizing S ks with
 | nil=>exact d.sub (fun n c=>ZD.2 ⟨c,by simp⟩)
 | cons n r ih =>
  unfold jc.yf at b ⊢
  split
  ·rename_i h1
   rw[if_pos h1] at b;refine(ih (h.remove (c n zR)) (d.remove h n h1) (fun x hx=>c x (zQ _ hx)) b).sub (fun x hx=>?_);obtain⟨j,g⟩:=ZD.1 hx;obtain⟨i,f⟩:=ZD.1 j;refine ZD.2 ⟨i,?_⟩;simp only[decide_eq_true_eq,zF,not_or] at g f ⊢;exact⟨f,g⟩
  ·rename_i h1;rw[if_neg h1] at b;cases b
theorem Qf.removeAll(h:Pow S U m bls Q){ks:List Str}(d:Qf S ks)(ns:List Str)(c:∀ n∈ns,Idle m n)(b:(jc.jr ns S).2=true):Qf (jc.jr ns S).1 (ks.filter (fun x=>decide (x∉ns))):=by
 unfold jc.jr xu at b ⊢
 split
 ·rename_i e
  subst e;exact d.sub (fun n c=>ZD.2 ⟨c,by simp⟩)
 ·rename_i e
  rw[if_neg e] at b
  split
  ·rename_i h1
   exact(d.Yi h ns c h1).zu (vz _)
  ·rename_i h1;rw[if_neg h1] at b;cases b
theorem Qf.rename{ns:List Str}(h:Pow S U m bls Q)(l:Qf S ns)(c:(S.qt jq ji).2=true):Qf (S.qt jq ji).1 (ji::ns.filter (fun x=>decide (x≠jq))):=by
 rcases il S jq ji (by decide)with⟨e,_⟩|⟨f,_,o,e⟩
 ·rw[e] at c;cases c
 ·rw[e]
  obtain⟨T,b,q⟩:=h.cur;have d:=b.fs.at.1 o;obtain⟨a,p⟩:=b.files _ d;have n:Fs ((S.called true).named ⟨[],jq,ji,some f⟩) ((ji,f)::jn (jn T ji) jq):=Names.fs (S:=(S.called true).named ⟨[],jq,ji,some f⟩) (b.renamed (a:=a) d (ds:=ji) (by decide) (by decide) (by decide));intro x g j;rcases zF.1 (n.at.1 j)with e|k
  ·cases e;exact zR
  ·have i:=qh.1 k
   exact zQ _ (ZD.2 ⟨l x g (b.fs.at.2 (qh.1 i.1).1),by simpa using i.2⟩)
theorem Qf.install(h:Pow S U m bls Q){c:Rf.Man}{g p:List (List Rf.Ch)}(R:My S c g p Q)(F:c.bytes.length<=60000){ns:List Str}(E:Qf S ns)(r:yt c S S' true):Qf S' (ji::ns):=by
 unfold yt at r;rcases r with⟨_,e⟩|⟨t,z,k⟩
 ·cases e
 have f:jc.xx (jt c) S=(t,true):=z;have o:=h.sure (jt c);have D:Qf t ns:=E.zu (by have:=Ck (jt c) S;rwa [f] at this);rw[f] at o;rcases k with⟨_,e⟩|⟨n,q,k⟩
 ·cases e
 have G:=(o.lay (Hv m) (by decide) (by decide) F q).1;have C:Qf n (jq::ns):=D.lay o (by decide) (by decide) q;rcases k with⟨_,e⟩|⟨i,y,k⟩
 ·cases e
 have d:n.qn jq=(i,true):=y;have u:=G.sync jq;have B:Qf i (jq::ns):=C.zu (by have:=au n jq;rwa [d] at this);rw[d] at u;rcases k with⟨_,e⟩|⟨H,v,e,_⟩
 ·cases e
 subst e;have b:xu (i.qt jq ji)=(S',true):=v;unfold xu at b
 split at b
 ·rename_i hok
  have A:=B.rename u hok;have e:S'=(i.qt jq ji).1.Ye.1:=by rw[b]
  rw[e];refine(A.zu (vz _)).sub (fun x j=>?_);rcases zF.1 j with e|j
  ·rw[e];exact zR
  ·obtain⟨l,s⟩:=ZD.1 j
   rcases zF.1 l with e|l
   ·rw[e] at s;simp at s
   ·exact zQ _ l
 ·cases b
end Go.Proofs.YtnipbplghijdmaaGreatDoor
namespace Go.Proofs.YtnipbplghijdmaaGreatDoor
open RowKit Maps WideShapes Go.Proofs.Tryz
abbrev ah(d:Nat)(m:Rf.Man)(rv:Value)(last:Nat)(mv:Value)(deg:Bool):Array Value:=qv (.pointer (some ⟨d,0,none⟩)) (jg m.next) (jg m.last) (jg m.log) (jg m.base) rv (jg last) mv deg false
structure StM(E:Nat->Addr)(B:Nat)(w:World)(ρ:Nat->j3)(d b:Nat)(S:jc)(k:Nat)(m:Rf.Man)(last:Nat)(ml:List Rf.Ch)(deg:Bool)(rv mv:Value):Prop where
 env:Env E B w
 xi:Dk E B w ρ d S
 fit:Fit k S
 row:w.heap[b]?=some (.cells (ah d m rv last mv deg) 121 (0,0))
 runs:Jw w rv m.runs
 mem:w.ownsRow B 88 3 mv ml.length (jj ml)
 nb:ρ b = .none/\B<=b
 nr:Calm ρ B b mv rv w
 nm:∀ g,mv.ownBlock=some g->ρ g = .none/\g≠b
 y7:m.Good
 rising:Rf.jw ml
 few:ml.length<60000
 ay:m.runs.length<60000
def y8(E:Nat->Addr)(B:Nat)(w:World)(ρ:Nat->j3)(d b:Nat)(rv mv:Value)(S:jc)(k:Nat)(m:Rf.Man)(last:Nat)(ml:List Rf.Ch)(deg:Bool)(w':World):Prop :=
 ∃ ρ' rv' mv',StM E B w' ρ' d b S k m last ml deg rv' mv'/\ja w w' (StF ρ b mv)/\(∀ i,i<w.heap.size->ρ' i=ρ i)/\(∀ g,mv'.ownBlock=some g->mv.ownBlock=some g\/w.heap.size<=g)/\(∀ p n c,rv' = .slice (some p) n c->(∃ n' c',rv = .slice (some p) n' c')\/w.heap.size<=p.block)
variable {E:Nat->Addr} {B:Nat} {w w':World} {ρ:Nat->j3} {d b k:Nat} {S:jc} {m:Rf.Man} {last:Nat} {ml:List Rf.Ch} {deg:Bool} {rv mv:Value}
theorem StM.keep{T:Nat->Prop}(h:StM E B w ρ d b S k m last ml deg rv mv)(l:ja w w' T)(j:∀ i,i<w.heap.size->T i->B<=i/\¬StF ρ b mv i/\∀ p n c,rv = .slice (some p) n c->i≠p.block):StM E B w' ρ d b S k m last ml deg rv mv:=by
 have f:ja w w' (fun i=>i<w.heap.size/\T i):=l.mono (fun i hi h=>⟨hi,h⟩);have o:Dk E B w' ρ d S:=⟨h.xi.rep.keep f (fun i t _=>yE (fun hn=>(j i t.1 t.2).2.1 (.inl hn))),h.xi.z8.keep f (fun i t=>(j i t.1 t.2).1),h.xi.yz,ZI h.xi.size l.size⟩
 refine⟨h.env.keep f (fun i t=>(j i t.1 t.2).1),o,h.fit,f.same h.row (fun t=>(j _ t.1 t.2).2.1 (.inr (.inl rfl))),
  h.runs.keep f (fun _ p n c e t=>(j _ t.1 t.2).2.2 p n c e rfl),f.row h.mem (fun g hg t=>(j g t.1 t.2).2.1 (.inr (.inr hg))),h.nb,fun p n c e=>?_,h.nm,h.y7,h.rising,h.few,h.ay⟩
 obtain⟨v,u,s,r,q⟩:=h.nr p n c e;exact⟨v,u,s,r,ZH q l.size⟩
theorem StM.same(h:StM E B w ρ d b S k m last ml deg rv mv)(c:ja w w' (fun _=>False)):StM E B w' ρ d b S k m last ml deg rv mv:=h.keep c (fun _ _ h=>h.elim)
theorem StM.blt(h:StM E B w ρ d b S k m last ml deg rv mv):b<w.heap.size:=zC h.row
theorem StM.old(h:StM E B w ρ d b S k m last ml deg rv mv){i:Nat}(c:StF ρ b mv i):B<=i/\i<w.heap.size:=by
 rcases c with c|rfl|c
 ·exact⟨h.xi.yz i c,h.xi.rep.lt i c⟩
 ·exact⟨h.nb.2,h.blt⟩
 ·exact h.mem.lt i c
theorem StM.next{q:Nat->j3}{S':jc}{k':Nat}{f:Bool}(h:StM E B w ρ d b S k m last ml deg rv mv)(j:ja w w' (fun i=>ρ i≠ .none\/i=b))(o:∀ i,i<w.heap.size->q i=ρ i)(D:Dk E B w' q d S')(F:Fit k' S')(l:w'.heap[b]?=some (.cells (ah d m rv last mv f) 121 (0,0))) :
 y8 E B w ρ d b rv mv S' k' m last ml f w':=by
 have y:ja w w' (StF ρ b mv):=j.mono (fun i _ t=>t.elim .inl (fun t=> .inr (.inl t)));refine⟨q,rv,mv,⟨h.env.keep j (fun i t=>t.elim (fun t=>h.xi.yz i t) (fun t=>by rw[t];exact h.nb.2)),D,F,l,h.runs.keep j (fun _ p n c e t=>?_),j.row h.mem (fun g hg t=>?_),⟨(o b h.blt).trans h.nb.1,h.nb.2⟩,fun p n c e=>?_,fun g hg=>?_,h.y7,h.rising,h.few,h.ay⟩,y,o,fun g hg=> .inl hg,fun p n c e=> .inl ⟨n,c,e⟩⟩
 ·obtain⟨u,s,x,v,r⟩:=h.nr p n c e
  exact t.elim (fun t=>t u) s
 ·exact t.elim (fun t=>t (h.nm g hg).1) (fun t=>(h.nm g hg).2 t)
 ·obtain⟨u,s,x,v,r⟩:=h.nr p n c e
  exact⟨(o _ r).trans u,s,x,v,ZH r j.size⟩
 ·exact⟨(o g (h.mem.lt g hg).2).trans (h.nm g hg).1,(h.nm g hg).2⟩
end Go.Proofs.YtnipbplghijdmaaGreatDoor

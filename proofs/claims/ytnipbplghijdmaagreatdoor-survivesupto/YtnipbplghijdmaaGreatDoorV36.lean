/-
  V: FactsA SurvivesF Zeros Next SettleA PwA PwB PwC PwD PwE StoreR.
-/
import Derived.Test.YtnipbplghijdmaaGreatDoorRows
import Derived.Test.YtnipbplghijdmaaGreatDoorV31
import Derived.Test.YtnipbplghijdmaaGreatDoorV45
set_option maxRecDepth 100000
set_option maxHeartbeats 8000000
set_option linter.unusedVariables false
set_option linter.unusedSimpArgs false
namespace Go.Proofs.YtnipbplghijdmaaGreatDoor
open RowKit Maps WideShapes Go.Proofs.Tryz
end Go.Proofs.YtnipbplghijdmaaGreatDoor
namespace Go.Proofs.YtnipbplghijdmaaGreatDoor
open RowKit Maps WideShapes Go.Proofs.Tryz
variable {x:Int} {n sr:Str} {b g:List UInt8} {bls bs:List (List Rf.Ch)} {P:DataW Nat->Prop} {m:Rf.Man} {U U' c f:Nat} {T:List Tok} {D:DataW Nat}
def Jq(c:Int)(n:Nat):Nat:=((if c<0 then -(c+1)else c)%n).toNat
theorem Et{k:IntKind}{a b:Int}(h:a=b):Ending.returned (.int k a) = .returned (.int k b):=by rw[h]
theorem Px{n:Nat}(c:x<0)(d:0<n):-((x+1).tmod n)=(Jq x n:Int):=by
 unfold Jq;rw[if_pos c,<-Int.neg_tmod,Int.tmod_eq_emod_of_nonneg (by omega)];have:=Int.emod_nonneg (-(x+1)) (b:=(n:Int)) (by omega);omega
theorem Pw{n:Nat}(c:¬x<0)(d:0<n):x%(n:Int)=(Jq x n:Int):=by
 unfold Jq;rw[if_neg c];have:=Int.emod_nonneg x (b:=(n:Int)) (by omega);omega
theorem jc6(w:World)(p n:Nat)(a:Option Addr)(c:Nat)(h:w.heap[p]?=some (.cells #[.slice a 0 c] 144 (0,0))) :
 Calls prog 80 #[.pointer (some ⟨p,0,none⟩),.int .i64 n] w fun e w'=>e = .returned (.int .i64 0)/\w'=w:=by
 have b:=zA (o:=0) h;simp at b;clear h;go_enter func80,ntmps80;go_wp2;go_ret;exact⟨rfl,rfl⟩
theorem jay(w:World)(p n g o c:Nat)(x:Int)(r:List Int)(b:0<n)(l:n<9223372036854775807)(h:w.heap[p]?=some (.cells #[.slice (some ⟨g,o,none⟩) (r.length+1) c] 144 (0,0)))(t:r.length+1<=c)(d:c<=maxLen)(s:w.cell? ⟨g,o,none⟩=some (.int .i64 x))(i:-9223372036854775808<=x/\x<=9223372036854775807) :
 Calls prog 80 #[.pointer (some ⟨p,0,none⟩),.int .i64 n] w fun e w'=>e = .returned (.int .i64 (Jq x n))/\w'=w.setCell ⟨p,0,none⟩ (.slice (if c=1 then some ⟨g,o,none⟩ else some ⟨g,o+1,none⟩) r.length (c-1)):=by
 have j:=zA (o:=0) h;have u:=zB (o:=0) h;simp at j;clear h;unfold maxLen at d;obtain⟨q,m⟩:=i;have k:¬(n:Int)=0:=by omega
 by_cases hc1:c=1
 ·subst hc1
  go_enter func80,ntmps80;go_wp2
  all_goals go_ret
  all_goals have f:r.length=0:=by omega
  ·exact⟨Et (Px (by omega) b),by rw[f]⟩
  ·exact⟨Et (Pw (by omega) b),by rw[f]⟩
 ·go_enter func80,ntmps80
  go_wp2
  all_goals go_ret
  ·exact⟨Et (Px (by omega) b),rfl⟩
  ·exact⟨Et (Pw (by omega) b),rfl⟩
theorem X3{P:Program}(w:World){c:Array Oper}{rest:List Oper}{o:Oper}{a:Act}{Q:Exit->Act->World->Prop}(f:o.guard=none)(s x:Operand)(t d:TypeId)(l:o.op = .call { callee:= .builtin .append,args:=#[s,x],argTypes:=#[t,d] })(base:Nat)(e:TypeId)(i:TypeInfo)(ht:P.underlying t=some (.slice e))(hti:P.underlying d=some (.int .i64))(hi:P.info? e=some i)(hz:i.zero=some (.int .u8 0))(hsize:i.size=1)(hby:i.bytes=1)(v:Value)(n:Nat)(xs:List Value)(hs:a.eval s=v)(hown:w.ownsRow base e 1 v n xs)(k:Nat)(hx:a.eval x = .int .i64 k)(hnk:n+k<=1099511627776)(hbase:base<=w.heap.size)(hK:∀(p:Option Addr) (b:Nat) (w':World),w'.ownsRow base e 1 (.slice p (n+k) b) (n+k) (xs++List.replicate k (.int .u8 0))->w.grownBy w' v.ownBlock->((Value.slice p (n+k) b).ownBlock=v.ownBlock\/(Value.slice p (n+k) b).ownBlock=some w.heap.size)->wpList P c Q rest (a.put o.dst (.slice p (n+k) b)) w') :
 wpList P c Q (o::rest) a w:=by
 refine wpList_plain f fun K' hK'=>?_;obtain⟨v',w',j,g,q,m⟩:=Bl (P:=P) w base t d o.type e i ht hti hi hz hsize hby v n xs hown k hnk hbase;obtain⟨p,b,rfl⟩:=jm g;unfold Oper.wp;simp[execOp,l,resolve,invoke,builtin,hs,hx,j,Result.andThen];exact hK' _ _ (hK p b w' g q m)
def sel:List (Nat×Nat)->List Int->List (Nat×Nat)
 | [],_=>[]
 | x::r,ch=>(if Jq (ch.headD 0) 2=1 then [x] else [])++sel r ch.tail
theorem Pf:∀(l:List (Nat×Nat)) (x:Nat×Nat) (ch:List Int),sel (l++[x]) ch=sel l ch++if Jq ((ch.drop l.length).headD 0) 2=1 then [x] else []
 | [],x,ch=>by simp[sel]
 | y::r,x,ch=>by
  have ih:=Pf r x ch.tail
  simp only[zW,sel,ih,zF,zP]
  congr 3
  cases ch<;>simp
theorem Kn(l:List (Nat×Nat))(ch:List Int)(k:Nat)(h:k<l.length):sel (l.take (k+1)) ch=sel (l.take k) ch++if Jq ((ch.drop k).headD 0) 2=1 then [l[k]] else []:=by
 rw[XF h,Pf];simp[xC (Nat.le_of_lt h)]
theorem Tv(l:List (Nat×Nat))(ch:List Int):(sel l ch).length<=l.length:=by
 induction l generalizing ch with
 | nil=>simp[sel]
 | cons x r ih =>
  have:=ih ch.tail;simp only[sel,ZC,zP]
  split<;>simp<;>omega
def su:Nat->List (Nat×Nat)->Nat->Prop
 | s,[],e=>s=e
 | s,x::r,e=>x.1=s/\0<x.2/\su (s+x.2) r e
def OkP:Nat->List (Nat×Nat)->Nat->Prop
 | s,[],e=>s<=e
 | s,x::r,e=>s<=x.1/\0<x.2/\OkP (x.1+x.2) r e
theorem OkP.mono:∀ {l:List (Nat×Nat)} {s s' e:Nat},OkP s l e->s'<=s->OkP s' l e
 | [],_,_,_,h,hs=>ZR hs h
 | x::r,_,_,_,h,hs=>⟨ZR hs h.1,h.2.1,h.2.2⟩
theorem OkP.le:∀ {l:List (Nat×Nat)} {s e:Nat},OkP s l e->s<=e
 | [],_,_,h=>h
 | x::r,s,e,h=>by have:=h.2.2.le;have:=h.1;omega
theorem su.sel:∀ {l:List (Nat×Nat)} {s e:Nat} (ch:List Int),su s l e->OkP s (sel l ch) e
 | [],_,_,_,h=>Nat.le_of_eq h
 | x::r,s,e,ch,h=>by
  have ih:=h.2.2.sel ch.tail
  unfold Go.Proofs.YtnipbplghijdmaaGreatDoor.sel
  split
  ·exact⟨by rw[h.1];exact ZQ _,h.2.1,by rw[h.1];exact ih⟩
  ·exact ih.mono (by omega)
theorem su.snoc:∀ {l:List (Nat×Nat)} {s e:Nat} (n:Nat),su s l e->0<n->su s (l++[(e,n)]) (e+n)
 | [],s,e,n,h,hn=>⟨h.symm,hn,by rw[h];rfl⟩
 | x::r,s,e,n,h,hn=>⟨h.1,h.2.1,h.2.2.snoc n hn⟩
def Z6(bytes:List UInt8)(b:List UInt8)(x:Nat×Nat):List UInt8:=if 0<x.2 then b++List.replicate (x.1-b.length) 0++(bytes.drop x.1).take x.2 else b
def Qc:List (Nat×Nat)->Bool->List (Nat×Nat)
 | [],_=>[]
 | [x],t=>[(x.1,if t then x.2/2 else x.2)]
 | x::y::r,t=>x::Qc (y::r) t
theorem oi:∀(l:List (Nat×Nat)) (t:Bool),(Qc l t).length=l.length
 | [],_=>rfl
 | [_],_=>rfl
 | x::y::r,t=>by simp[Qc,oi (y::r) t]
theorem Ov:∀(l:List (Nat×Nat)) (t:Bool) (k:Nat) (h:k<l.length),(Qc l t)[k]?=some (if k+1=l.length then(l[k].1,if t then l[k].2/2 else l[k].2)else l[k])
 | [x],t,0,_=>by simp[Qc]
 | x::y::r,t,0,_=>by simp[Qc]
 | x::y::r,t,k+1,h=>by
  have:=Ov (y::r) t k (by simpa using h)
  simp only[Qc,XO,this]
  simp
def J0(bytes b0:List UInt8)(T:List (Nat×Nat))(t:Bool)(k:Nat):List UInt8:=((Qc T t).take k).foldl (Z6 bytes) b0
theorem Ct(bytes c:List UInt8)(T:List (Nat×Nat))(t:Bool)(k:Nat)(h:k<T.length) :
 J0 bytes c T t (k+1)=Z6 bytes (J0 bytes c T t k) (if k+1=T.length then(T[k].1,if t then T[k].2/2 else T[k].2)else T[k]):=by
 have b:k<(Qc T t).length:=by rw[oi];exact h
 have e:=Ov T t k h;rw[xK b] at e;unfold J0;rw[XF b,xM,Option.some.inj e];rfl
theorem C4{bytes:List UInt8}{x:Nat×Nat}(d:b.length<=x.1)(c:x.1+x.2<=bytes.length):(Z6 bytes b x).length<=x.1+x.2:=by
 unfold Z6
 split
 ·simp;omega
 ·omega
theorem Nv(bytes:List UInt8)(t:Bool):∀(T:List (Nat×Nat)) (c:List UInt8) (s:Nat),OkP s T bytes.length->c.length<=s->∀ k (h:k<T.length),(J0 bytes c T t k).length<=T[k].1/\0<T[k].2/\T[k].1+T[k].2<=bytes.length
 | [],_,_,_,_,k,h=>by simp at h
 | x::r,c,s,hO,hb,0,_=>by
  have:=hO.2.2.le
  exact⟨by simp[J0];exact ZR hb hO.1,hO.2.1,this⟩
 | [x],c,s,hO,hb,k+1,h=>by simp at h
 | x::y::r,c,s,hO,hb,k+1,h=>by
  have d:=hO.2.2.le
  have f:=C4 (bytes:=bytes) (b:=c) (x:=x) (ZR hb hO.1) d
  have ih:=Nv bytes t (y::r) (Z6 bytes c x) (x.1+x.2) hO.2.2 f k (by simpa using h)
  simpa [J0,Qc] using ih
def jy.settled(a:jy)(ch:List Int):jy :=
 let T:=sel a.late ch
 let b:=J0 a.bytes (a.bytes.take a.safe) T (Jq ((ch.drop a.late.length).headD 0) 2=1) T.length
 ⟨b,b.length,[]⟩
def jy.left(a:jy)(ch:List Int):List Int:=if sel a.late ch=[] then ch.drop a.late.length else(ch.drop a.late.length).tail
def jy.Wf(a:jy):Prop:=a.safe<=a.bytes.length/\su a.safe a.late a.bytes.length
def og(g:List UInt8):Prop:=∃ l r,r≠[]/\l.length<256^4/\g++r=Rf.frame l
theorem og.take(h:og g)(n:Nat):og (g.take n):=by
 obtain⟨l,r,d,c,b⟩:=h;refine⟨l,g.drop n++r,fun e=>d (List.append_eq_nil_iff.1 e).2,c,?_⟩;rw[<-zF,zJ];exact b
theorem og.of{l:List UInt8}(b:l.length<256^4){n:Nat}(c:n<(Rf.frame l).length):og ((Rf.frame l).take n) :=
 ⟨l,(Rf.frame l).drop n,fun e=>by have:=congrArg List.length e;simp at this;omega,b,zJ _ _⟩
theorem og.nil:og []:=⟨[],Rf.frame [],fun e=>by have:=congrArg List.length e;simp[Rf.frame,Rf.js] at this,by decide,rfl⟩
theorem og.over(h:og g)(last:Nat)(bs:List (List Rf.Ch)):Rf.Over last bs g:=by
 obtain⟨l,r,i,f,b⟩:=h;refine .inr ?_
 have c:Rf.xf g=none:=by
  unfold Rf.xf;rw[if_neg];rintro⟨m,d,_⟩
  have e:g.take 4=Rf.big l.length 4:=by
   have k:(g++r).take 4=g.take 4:=XE (by omega);rw[<-k,b];unfold Rf.frame;rw[zF,XE (by rw[Rf.js];omega),ZF (by rw[Rf.js];omega)]
  rw[e,Rf.Jr _ _ f] at d;have j:=congrArg List.length b;have n:0<r.length:=ZY.2 i;simp[Rf.frame,Rf.js] at j;omega
 unfold Rf.zo;rw[c]
theorem Tg(n:Nat)(b:8<=n)(x:List UInt8)(last:Nat)(bs:List (List Rf.Ch)):Rf.Over last bs (List.replicate n 0++x):=by
 refine .inr ?_;obtain⟨m,rfl⟩:∃ m,n=8+m:=⟨n-8,by omega⟩
 have e:List.replicate (8+m) (0:UInt8)++x=Rf.frame []++(List.replicate m 0++x):=by
  rw[<-List.replicate_append_replicate,zF];rfl
 rw[e];unfold Rf.zo;rw[Rf.Xc _ _ (by decide)];simp[Rf.Yv]
theorem Vp(bytes b:List UInt8)(x:Nat×Nat):∃ y,Z6 bytes b x=b++y:=by
 unfold Z6
 split
 ·exact⟨_,zF _ _ _⟩
 ·exact⟨[],by simp⟩
theorem Mg(bytes:List UInt8):∀(T:List (Nat×Nat)) (b:List UInt8),∃ y,T.foldl (Z6 bytes) b=b++y
 | [],b=>⟨[],by simp⟩
 | x::r,b=>by
  obtain⟨y,hy⟩:=Vp bytes b x
  obtain⟨z,c⟩:=Mg bytes r (Z6 bytes b x)
  exact⟨y++z,by rw[xS,c,hy,zF]⟩
theorem Sy(bytes:List UInt8)(m:Nat):∀(T:List (Nat×Nat)) (b:List UInt8),(∀ x∈T,b.length+m<=x.1)->T.foldl (Z6 bytes) b=b\/∃ y,T.foldl (Z6 bytes) b=b++(List.replicate m 0++y)
 | [],b,_=> .inl rfl
 | x::r,b,h=>by
  rw[xS]
  have hx:=h x ZG
  by_cases h0:0<x.2
  ·obtain⟨z,c⟩:=Mg bytes r (Z6 bytes b x)
   refine .inr ⟨List.replicate (x.1-b.length-m) 0++(bytes.drop x.1).take x.2++z,?_⟩
   rw[c]
   have e:List.replicate (x.1-b.length) (0:UInt8)=List.replicate m 0++List.replicate (x.1-b.length-m) 0:=by
    rw[List.replicate_append_replicate];congr 1;omega
   unfold Z6
   rw[if_pos h0,e]
   simp only[zF]
  ·have e:Z6 bytes b x=b:=by unfold Z6;rw[if_neg h0]
   rw[e];exact Sy bytes m r b (fun y hy=>h y (ZH _ hy))
theorem E9:∀(T:List (Nat×Nat)) (t:Bool) (k:Nat),(∀ x∈T,k<=x.1)->∀ x∈Qc T t,k<=x.1
 | [],_,_,h,x,hx=>by cases hx
 | [y],t,k,h,x,hx=>by
  rw[ZW.1 hx]
  exact h y ZG
 | y::z::r,t,k,h,x,hx=>by
  rcases zN.1 hx with rfl|hx
  ·exact h _ ZG
  ·exact E9 (z::r) t k (fun u hu=>h u (ZH _ hu)) x hx
theorem Wd:∀(l:List (Nat×Nat)) (ch:List Int) (x:Nat×Nat),x∈sel l ch->x∈l
 | [],_,x,h=>by cases h
 | y::r,ch,x,h=>by
  rw[sel,ZV] at h
  rcases h with h|h
  ·split at h
   ·rw[ZW.1 h];exact ZG
   ·cases h
  ·exact ZH _ (Wd r ch.tail x h)
def pcs:Nat->Nat->List (List Rf.Ch)->List (Nat×Nat)
 | _,_,[]=>[]
 | p,n,b::r=>(p,(Rf.jl n b).length)::pcs (p+(Rf.jl n b).length) (n+1) r
theorem Ls:∀(u:List (List Rf.Ch)) (p n:Nat),∀ x∈pcs p n u,p<=x.1
 | [],_,_,x,h=>by cases h
 | b::r,p,n,x,h=>by
  rcases zN.1 h with rfl|h
  ·exact ZQ _
  ·have:=Ls r _ _ x h
   omega
theorem vy(n:Nat)(b:List Rf.Ch):17<=(Rf.jl n b).length:=by
 simp[Rf.jl,Rf.frame,Rf.js];omega
def Y7(last:Nat)(bs:List (List Rf.Ch))(p:Nat)(g:List UInt8):List (Nat×Nat):=if g=[] then [] else [(p+(Rf.jk last bs).length,g.length)]
theorem Qy(last:Nat)(b:List Rf.Ch)(r:List (List Rf.Ch)):Rf.jk last (b::r)=Rf.jl (last+1) b++Rf.jk (last+1) r:=rfl
theorem Cz(n:Nat)(b:List Rf.Ch)(h:(Rf.jl n b).length<256^4):∃ l,l.length<256^4/\Rf.jl n b=Rf.frame l:=by
 refine⟨_,?_,rfl⟩;have:(Rf.frame (Rf.big n 8++Rf.big b.length 1++b.flatMap Rf.entry)).length<256^4:=h;rw[Rf.frame,ZC] at this;omega
theorem Se(t:Bool)(g:List UInt8)(p:og g):∀(u:List (List Rf.Ch)) (c bytes:List UInt8) (last:Nat) (ch:List Int),(∀ b∈u,∀ n,(Rf.jl n b).length<256^4)->bytes=c++Rf.jk last u++g ->
 ∃ i g',i<=u.length/\(Qc (sel (pcs c.length (last+1) u++Y7 last u c.length g) ch) t).foldl (Z6 bytes) c=c++Rf.jk last (u.take i)++g'/\∀ k bs,Rf.Over k bs g'
 | [],c,bytes,last,ch,hs,e=>by
  by_cases h:g=[]
  ·refine⟨0,[],ZQ _,?_,fun k bs=>Rf.Xx _ _⟩
   simp[pcs,Y7,h,sel,Qc,Rf.jk]
  ·have e1:Y7 last [] c.length g=[(c.length,g.length)]:=by simp[Y7,h,Rf.jk]
   rw[e1]
   simp only[pcs,zV,sel,ZB]
   split
   ·have H:bytes.drop c.length=g:=by rw[e];simp[Rf.jk]
    have G:∀ n,n<=g.length->[(c.length,n)].foldl (Z6 bytes) c=c++g.take n:=by
     intro n I;by_cases h0:0<n
     ·simp[Z6,h0,H]
     ·have:n=0:=by omega
      subst this;simp[Z6]
    refine⟨0,g.take (if t then g.length/2 else g.length),ZQ _,?_,(p.take _).over⟩
    rw[Qc,G _ (by split<;>omega)]
    simp[Rf.jk]
   ·refine⟨0,[],ZQ _,?_,fun k bs=>Rf.Xx _ _⟩
    simp[Qc,Rf.jk]
 | b::r,c,bytes,last,ch,hs,e=>by
  have m:=vy (last+1) b;obtain⟨l,B,o⟩:=Cz (last+1) b (hs b ZG _)
  have s:(bytes.drop c.length).take (Rf.jl (last+1) b).length=Rf.jl (last+1) b:=by
   rw[e,Qy];simp
  simp only[pcs,zW,sel]
  have F:Y7 last (b::r) c.length g=Y7 (last+1) r (c++Rf.jl (last+1) b).length g:=by
   unfold Y7;rw[Qy,ZC,ZC,xF]
  have A:c.length+(Rf.jl (last+1) b).length=(c++Rf.jl (last+1) b).length:=by rw[ZC]
  rw[F,A];have ih:=Se t g p r (c++Rf.jl (last+1) b) bytes (last+1) ch.tail (fun x f=>hs x (ZH _ f)) (by rw[e,Qy];simp[zF])
  have d:∀ x∈sel (pcs (c++Rf.jl (last+1) b).length (last+1+1) r++Y7 (last+1) r (c++Rf.jl (last+1) b).length g) ch.tail,c.length+(Rf.jl (last+1) b).length<=x.1:=by
   intro x f;have:=Wd _ _ _ f;rw[A];rcases ZV.1 this with h|h
   ·exact Ls _ _ _ x h
   ·unfold Y7 at h
    split at h
    ·cases h
    ·rw[ZW.1 h]
     exact Nat.le_add_right _ _
  generalize hT:sel (pcs (c++Rf.jl (last+1) b).length (last+1+1) r++Y7 (last+1) r (c++Rf.jl (last+1) b).length g) ch.tail=T at ih d ⊢
  split
  ·have z:Z6 bytes c (c.length,(Rf.jl (last+1) b).length)=c++Rf.jl (last+1) b:=by
    unfold Z6;rw[if_pos (by show 0<(Rf.jl (last+1) b).length;omega)];simp[s]
   cases hTc:T with
   | nil =>
    cases t with
    | false =>
     refine⟨1,[],by simp,?_,fun k bs=>Rf.Xx _ _⟩;simp only[List.singleton_append,Qc,xS,List.foldl_nil];rw[show(if false=true then(Rf.jl (last+1) b).length/2 else(Rf.jl (last+1) b).length)=(Rf.jl (last+1) b).length from rfl,z,List.take_succ_cons,List.take_zero,Qy,Rf.jk,ZB,ZB]
    | true =>
     refine⟨0,(Rf.jl (last+1) b).take ((Rf.jl (last+1) b).length/2),zX _,?_,?_⟩
     ·simp only[List.singleton_append,Qc,xS,List.foldl_nil]
      unfold Z6;rw[if_pos (by show 0<(if true=true then(Rf.jl (last+1) b).length/2 else(Rf.jl (last+1) b).length);simp;omega)]
      have E:(bytes.drop c.length).take ((Rf.jl (last+1) b).length/2)=(Rf.jl (last+1) b).take ((Rf.jl (last+1) b).length/2):=by
       have v:=congrArg (List.take ((Rf.jl (last+1) b).length/2)) s;rw[List.take_take,xC (by omega)] at v;exact v
      simp[E,Rf.jk]
     ·have j:og ((Rf.jl (last+1) b).take ((Rf.jl (last+1) b).length/2)):=by
       rw[o] at m ⊢;exact og.of B (by omega)
      exact j.over
   | cons y q =>
    rw[hTc] at ih;obtain⟨i,g',J,D,C⟩:=ih;refine⟨i+1,g',by simp;omega,?_,C⟩;show(Qc ((c.length,(Rf.jl (last+1) b).length)::y::q) t).foldl (Z6 bytes) c=_;rw[Qc,xS,z,D,List.take_succ_cons,Qy];simp[zF]
  ·rw[zV]
   rcases Sy bytes (Rf.jl (last+1) b).length (Qc T t) c (E9 T t _ d)with h|⟨y,h⟩
   ·exact⟨0,[],zX _,by rw[h];simp[Rf.jk],fun k bs=>Rf.Xx _ _⟩
   ·exact⟨0,List.replicate (Rf.jl (last+1) b).length 0++y,zX _,by rw[h];simp[Rf.jk],fun k bs=>Tg _ (by omega) _ _ _⟩
structure Em(a:jy)(last:Nat)(bs u:List (List Rf.Ch))(g:List UInt8):Prop where
 bytes:a.bytes=Rf.jk last (bs++u)++g
 safe:a.safe=(Rf.jk last bs).length
 late:a.late=pcs (Rf.jk last bs).length (last+bs.length+1) u++Y7 (last+bs.length) u (Rf.jk last bs).length g
 stub:og g
theorem Qm(last:Nat):∀(bs u:List (List Rf.Ch)),Rf.jk last (bs++u)=Rf.jk last bs++Rf.jk (last+bs.length) u
 | bs,[]=>by simp[Rf.jk]
 | bs,b::r=>by
  have ih:=Qm last (bs++[b]) r
  rw[zF,List.singleton_append] at ih
  rw[ih,Rf.ai,Qy,zF,ZC,xO,xF]
theorem Em.settled{a:jy}{last:Nat}{u:List (List Rf.Ch)}(h:Em a last bs u g)(d:∀ b∈u,∀ n,(Rf.jl n b).length<256^4)(ch:List Int) :
 ∃ i g',i<=u.length/\(a.settled ch).bytes=Rf.jk last (bs++u.take i)++g'/\∀ k cs,Rf.Over k cs g':=by
 have c:a.bytes=Rf.jk last bs++Rf.jk (last+bs.length) u++g:=by rw[h.bytes,Qm]
 obtain⟨i,g',l,j,f⟩:=Se (decide (Jq ((ch.drop a.late.length).headD 0) 2=1)) g h.stub u (Rf.jk last bs) a.bytes (last+bs.length) ch d c;refine⟨i,g',l,?_,f⟩;show J0 a.bytes (a.bytes.take a.safe) (sel a.late ch) (decide (Jq ((ch.drop a.late.length).headD 0) 2=1)) (sel a.late ch).length=_
 have m:a.bytes.take a.safe=Rf.jk last bs:=by
  rw[c,h.safe,zF,XE (ZQ _),ZE]
 rw[m,Qm,<-j,<-h.late];unfold J0;rw[ZF (by rw[oi];exact ZQ _)]
def sv(P:DataW Nat->Prop):DataW Nat->List y7->Prop
 | D,[]=>P D
 | D,c::r=>P D/\sv P (doA D c) r
theorem sv.snoc:∀ {l:List y7} {D:DataW Nat} {c:y7},sv P D l->P (doA (l.foldl doA D) c)->sv P D (l++[c])
 | [],D,c,h,k=>⟨h,k⟩
 | x::r,D,c,h,k=>⟨h.1,h.2.snoc k⟩
theorem sv.last:∀ {l:List y7} {D:DataW Nat},sv P D l->P (l.foldl doA D)
 | [],D,h=>h
 | x::r,D,h=>h.2.last
theorem sv.at:∀ {l:List y7} {D:DataW Nat} (j:Nat),sv P D l->P (Jo D l j)
 | [],D,j,h=>by
  have e:Jo D [] j=D:=by simp[Jo]
  rw[e];exact h
 | x::r,D,0,h=>by simpa [Jo] using h.1
 | x::r,D,j+1,h=>by simpa [Jo] using h.2.at j
theorem sv.mono{R:DataW Nat->Prop}(hP:∀ D,P D->R D):∀ {l:List y7} {D:DataW Nat},sv P D l->sv R D l
 | [],D,h=>hP D h
 | x::r,D,h=>⟨hP D h.1,h.2.mono hP⟩
structure yt(b:List UInt8)(a:jy):Prop where
 bytes:a.bytes=b
 safe:a.safe=b.length
 late:a.late=[]
theorem cx{a:jy}(d:a.safe=a.bytes.length)(c:a.late=[])(ch:List Int):a.settled ch=a:=by
 obtain⟨b,s,l⟩:=a;simp only at d c;subst d c;simp[jy.settled,sel,J0,Qc]
theorem yt.synced{a:jy}(h:yt b a):yt b a.synced:=⟨h.bytes,by simp[jy.synced,h.bytes],rfl⟩
theorem yt.settled{a:jy}(h:yt b a)(ch:List Int):yt b (a.settled ch):=by
 rw[cx (by rw[h.safe,h.bytes]) h.late];exact h
structure Want where
 Jj:Rf.St->Prop
 now:Rf.St->Prop
 le:∀ s,now s->Jj s
 Qc:Rf.St->Prop
structure Want.Le(Q R:Want):Prop where
 Jj:∀ s,Q.Jj s->R.Jj s
 now:∀ s,Q.now s->R.now s
 Qc:∀ s,Q.Qc s->R.Qc s
theorem Want.Le.refl(Q:Want):Q.Le Q:=⟨fun _ q=>q,fun _ q=>q,fun _ q=>q⟩
def Want.down(Q:Want):Want:=⟨Q.Jj,Q.Jj,fun _ q=>q,Q.Qc⟩
theorem Want.jf0(Q:Want):Q.Le Q.down:=⟨fun _ q=>q,Q.le,fun _ q=>q⟩
def Want.whole(Q:Want):Want:=⟨Q.Jj,Q.now,Q.le,fun _=>False⟩
theorem Want.Ev(Q:Want):Q.whole.Le Q:=⟨fun _ q=>q,fun _ q=>q,fun _ q=>q.elim⟩
def Lg(m:Rf.Man)(bls:List (List Rf.Ch))(P t:Rf.St->Prop)(b:List UInt8):Prop:=∃ bs g,b=Rf.jk m.last bs++g/\Rf.Over m.last bs g/\(⟨m,bs,bls⟩:Rf.St).Ok/\P ⟨m,bs,bls⟩/\(g≠[]->t ⟨m,bs,bls⟩)
theorem Lg.mono{P R t u:Rf.St->Prop}(h:Lg m bls P t b)(d:∀ s,P s->R s)(c:∀ s,t s->u s):Lg m bls R u b:=by
 obtain⟨bs,g,l,k,j,i,f⟩:=h;exact⟨bs,g,l,k,j,d _ i,fun e=>c _ (f e)⟩
def Jg(m:Rf.Man)(bls:List (List Rf.Ch))(Q:Want)(a:jy):Prop:=(∀ ch,Lg m bls Q.Jj Q.Qc (a.settled ch).bytes)/\Lg m bls Q.now Q.Qc a.bytes
theorem Jg.mono{Q R:Want}{a:jy}(h:Jg m bls Q a)(b:Q.Le R):Jg m bls R a:=⟨fun ch=>(h.1 ch).mono b.Jj b.Qc,h.2.mono b.now b.Qc⟩
theorem Jg.synced{Q:Want}{a:jy}(h:Jg m bls Q a):Jg m bls Q a.synced:=⟨fun ch=>by rw[cx rfl rfl];exact h.2.mono Q.le (fun _ q=>q),h.2⟩
theorem Jg.settled{Q:Want}{a:jy}(h:Jg m bls Q.down a)(ch:List Int):Jg m bls Q.down (a.settled ch):=⟨fun c=>by rw[cx rfl rfl];exact h.1 ch,h.1 ch⟩
theorem Jg.sure{Q:Want}{a:jy}(h:yt (Rf.jk m.last bs) a)(c:(⟨m,bs,bls⟩:Rf.St).Ok)(d:Q.now ⟨m,bs,bls⟩):Jg m bls Q a:=by
 have b:Lg m bls Q.now Q.Qc a.bytes:=⟨bs,[],by rw[h.bytes,ZB],Rf.Xx _ _,c,d,fun e=>absurd rfl e⟩;exact⟨fun ch=>by rw[cx (by rw[h.safe,h.bytes]) h.late];exact b.mono Q.le (fun _ q=>q),b⟩
abbrev Fls:=Nat->Option jy
def Fls.put(fs:Fls)(f:Nat)(a:jy):Fls:=fun i=>if i=f then some a else fs i
theorem Fls.yl(fs:Fls)(f:Nat)(a:jy):fs.put f a f=some a:=if_pos rfl
theorem Fls.yu(fs:Fls){g:Nat}(a:jy)(h:g≠f):fs.put f a g=fs g:=if_neg h
def Sat(T:List Tok)(fs:Fls)(n:Str)(P:jy->Prop):Prop:=∃ f a,(n,f)∈T/\fs f=some a/\P a
theorem Sat.mono{fs:Fls}{P R:jy->Prop}(h:Sat T fs n P)(b:∀ a,P a->R a):Sat T fs n R:=by
 obtain⟨f,a,g,d,c⟩:=h;exact⟨f,a,g,d,b a c⟩
theorem Sat.jn{fs:Fls}{x:Str}{P:jy->Prop}(h:Sat T fs n P)(b:n≠x):Sat (jn T x) fs n P:=by
 obtain⟨f,a,g,d,c⟩:=h;exact⟨f,a,qe.2 ⟨g,b⟩,d,c⟩
theorem Sat.cons{fs:Fls}{P:jy->Prop}(h:Sat T fs n P)(t:Tok):Sat (t::T) fs n P:=by
 obtain⟨f,a,d,c,b⟩:=h;exact⟨f,a,ZH _ d,c,b⟩
theorem Sat.fresh{fs:Fls}{P:jy->Prop}(h:Sat T fs n P)(d:fs f=none)(a:jy):Sat T (fs.put f a) n P:=by
 obtain⟨g,b,j,c,i⟩:=h;exact⟨g,b,j,(fs.yu a (fun e=>by rw[e,d] at c;cases c)).trans c,i⟩
theorem Sat.write{fs:Fls}{P:jy->Prop}{a a':jy}(h:Sat T fs n P)(j:fs f=some a)(k:P a->P a'):Sat T (fs.put f a') n P:=by
 obtain⟨g,b,i,c,d⟩:=h;by_cases e:g=f
 ·subst e
  rw[j] at c;cases c;exact⟨g,a',i,fs.yl _ _,k d⟩
 ·exact⟨g,b,i,(fs.yu a' e).trans c,d⟩
def Zp(fs:Fls)(T:List Tok):Nat:=(T.map (fun p=>(yc fs p.2).length+1)).sum
structure Names(D:DataW Nat)(fs:Fls)(U:Nat)(T:List Tok):Prop where
 X6:bw D T
 files:∀ p∈T,∃ a,fs p.2=some a
 apart:T.Pairwise (fun p q=>p.2≠q.2)
 size:Zp fs T<=U
 short:∀ p∈T,p.1.length<=60/\p.1≠[]
structure tw(T:List Tok)(fs:Fls)(m:Rf.Man)(bls:List (List Rf.Ch))(Q:Want):Prop where
 man:Sat T fs ji (yt m.bytes)
 runs:∀ p∈qn m.settled bls,Sat T fs p.1 (yt p.2)
 log:Sat T fs (jh m.log) (Jg m bls Q)
def Qv(fs:Fls)(U:Nat)(m:Rf.Man)(bls:List (List Rf.Ch))(Q:Want)(D:DataW Nat):Prop:=∃ T,Names D fs U T/\tw T fs m bls Q
def Mj(fs:Fls)(U:Nat)(Q:Want)(D:DataW Nat):Prop:=∃ m bls,Qv fs U m bls Q D
def Idle(m:Rf.Man)(n:Str):Prop:=n≠ji/\n∉jt m
theorem Idle.run(h:Idle m n){p:Str×List UInt8}(c:p∈qn m.settled bls):p.1≠n:=by
 obtain⟨q,b,rfl⟩:=J8.1 c;exact fun e=>h.2 (by rw[<-e];exact xX _ (zO.2 ⟨q.1,(List.of_mem_zip b).1,rfl⟩))
theorem Idle.log(h:Idle m n):jh m.log≠n:=fun e=>h.2 (by rw[<-e];exact xY _ (ZW.2 rfl))
theorem tw.mono{fs:Fls}{Q R:Want}(h:tw T fs m bls Q)(b:Q.Le R):tw T fs m bls R :=
 ⟨h.man,h.runs,h.log.mono (fun a ha=>ha.mono b)⟩
theorem tw.fresh{fs:Fls}{Q:Want}(h:tw T fs m bls Q)(b:fs f=none)(a:jy):tw T (fs.put f a) m bls Q :=
 ⟨h.man.fresh b a,fun p hp=>(h.runs p hp).fresh b a,h.log.fresh b a⟩
theorem tw.idle{fs:Fls}{Q:Want}(h:tw T fs m bls Q)(b:Idle m n):tw (jn T n) fs m bls Q :=
 ⟨h.man.jn (Ne.symm b.1),fun p hp=>(h.runs p hp).jn (b.run hp),h.log.jn b.log⟩
theorem tw.cons{fs:Fls}{Q:Want}(h:tw T fs m bls Q)(t:Tok):tw (t::T) fs m bls Q :=
 ⟨h.man.cons t,fun p hp=>(h.runs p hp).cons t,h.log.cons t⟩
structure nd(Q:Want)(a a':jy):Prop where
 sure:∀ b,yt b a->yt b a'
 log:∀ m bls,Jg m bls Q a->Jg m bls Q a'
theorem nd.synced(Q:Want)(a:jy):nd Q a a.synced:=⟨fun b h=>h.synced,fun m bls h=>h.synced⟩
theorem nd.settled(Q:Want)(a:jy)(ch:List Int):nd Q.down a (a.settled ch):=⟨fun b h=>h.settled ch,fun m bls h=>h.settled ch⟩
theorem tw.write{fs:Fls}{Q:Want}{a a':jy}(h:tw T fs m bls Q)(b:fs f=some a)(g:nd Q a a'):tw T (fs.put f a') m bls Q :=
 ⟨h.man.write b (g.sure _),fun p hp=>(h.runs p hp).write b (g.sure _),h.log.write b (g.log _ _)⟩
theorem Qi(fs:Fls)(p:Tok)(T:List Tok):Zp fs (p::T)=(yc fs p.2).length+1+Zp fs T:=by simp[Zp]
theorem ak(fs:Fls)(T:List Tok)(n:Str):Zp fs (jn T n)<=Zp fs T:=by
 induction T with
 | nil=>exact ZQ _
 | cons x r ih =>
  unfold jn at ih ⊢;rw[List.filter_cons]
  split
  ·rw[Qi,Qi];omega
  ·rw[Qi];omega
theorem Hy{fs b:Fls}(h:∀ p∈T,b p.2=fs p.2):Zp b T=Zp fs T:=by
 unfold Zp;congr 1;exact XT (fun p hp=>by unfold yc;rw[h p hp])
theorem L0{fs:Fls}{a a':jy}(d:fs f=some a)(g:a'.bytes.length<=a.bytes.length+c):∀ {T:List Tok},T.Pairwise (fun p q=>p.2≠q.2)->Zp (fs.put f a') T<=Zp fs T+c
 | [],_=>Nat.le_add_right _ _
 | x::r,h=>by
  have hp:=XR.1 h
  rw[Qi,Qi]
  by_cases e:x.2=f
  ·have j:Zp (fs.put f a') r=Zp fs r:=Hy (fun p hp'=>fs.yu a' (fun e'=>hp.1 p hp' (e.trans e'.symm)))
   have b:yc (fs.put f a') x.2=a'.bytes:=by unfold yc;rw[e,fs.yl];rfl
   have i:yc fs x.2=a.bytes:=by unfold yc;rw[e,d];rfl
   rw[j,b,i]
   omega
  ·have ih:=L0 d g hp.2
   have b:yc (fs.put f a') x.2=yc fs x.2:=by unfold yc;rw[fs.yu a' e]
   rw[b]
   omega
theorem Names.mono{fs:Fls}(h:Names D fs U T)(b:U<=U'):Names D fs U' T:=⟨h.X6,h.files,h.apart,ZR h.size b,h.short⟩
theorem Names.fresh{fs:Fls}(h:Names D fs U T)(g:fs f=none)(a:jy):Names D (fs.put f a) U T:=by
 have c:∀ p∈T,p.2≠f:=fun p hp e=>by obtain⟨b,d⟩:=h.files p hp;rw[e,g] at d;cases d
 refine⟨h.X6,fun p hp=>?_,h.apart,?_,h.short⟩
 ·rw[fs.yu a (c p hp)];exact h.files p hp
 ·rw[Hy (fun p hp=>fs.yu a (c p hp))];exact h.size
theorem Names.write{fs:Fls}{a a':jy}(h:Names D fs U T)(b:fs f=some a)(d:a'.bytes.length<=a.bytes.length+c):Names D (fs.put f a') (U+c) T:=by
 refine⟨h.X6,fun p hp=>?_,h.apart,ZR (L0 b d h.apart) (Nat.add_le_add_right h.size _),h.short⟩;by_cases e:p.2=f
 ·exact⟨a',by rw[e];exact fs.yl _ _⟩
 ·rw[fs.yu a' e];exact h.files p hp
theorem Names.aa{fs:Fls}(h:Names D fs U T)(n:Str):Names (doA D ⟨[],n,[],none⟩) fs U (jn T n) :=
 ⟨h.X6.del n,fun p hp=>h.files p (qe.1 hp).1,h.apart.sublist XQ,ZR (ak _ _ _) h.size,fun p hp=>h.short p (qe.1 hp).1⟩
theorem Names.made{fs:Fls}(h:Names D fs U T)(i:fs f=none)(a:jy)(l:n≠[])(m:n.length<=60):Names (doA D ⟨n,[],[],some f⟩) (fs.put f a) (U+1+a.bytes.length) ((n,f)::jn T n):=by
 have d:∀ p∈T,p.2≠f:=fun p c e=>by obtain⟨b,j⟩:=h.files p c;rw[e,i] at j;cases j
 have k:=h.fresh i a
 have o:doA D ⟨n,[],[],some f⟩=D.put (.string n) (.held f):=by
  have g:n.isEmpty=false:=by cases n<;>simp_all
  simp[doA,g,ku]
 refine⟨by rw[o];exact h.X6.put n f,fun p c=>?_,XR.2 ⟨fun p c=>Ne.symm (d p (qe.1 c).1),h.apart.sublist XQ⟩,?_,fun p c=>?_⟩
 ·rcases zN.1 c with rfl|c
  ·exact⟨a,fs.yl _ _⟩
  ·exact k.files p (qe.1 c).1
 ·rw[Qi]
  have e:yc (fs.put f a) f=a.bytes:=by unfold yc;rw[fs.yl];rfl
  have:=ak (fs.put f a) T n;have:=k.size;show(yc (fs.put f a) f).length+1+_<=_;rw[e];omega
 ·rcases zN.1 c with rfl|c
  ·exact⟨m,l⟩
  ·exact h.short p (qe.1 c).1
theorem Names.renamed{fs:Fls}{a:jy}(h:Names D fs U T){ds:Str}(q:(sr,f)∈T)(o:ds≠[])(g:ds≠sr)(v:ds.length<=60):Names (doA D ⟨[],sr,ds,some f⟩) fs (U+1+(yc fs f).length) ((ds,f)::jn (jn T ds) sr):=by
 have x:doA D ⟨[],sr,ds,some f⟩=(D.put (.string ds) (.held f)).del (.string sr):=by
  have m:ds.isEmpty=false:=by cases ds<;>simp_all
  simp[doA,m,ku,g]
 have z:jn ((ds,f)::jn T ds) sr=(ds,f)::jn (jn T ds) sr:=by
  show List.filter _ (_::_)=_;rw[List.filter_cons,if_pos (by simpa using g)];rfl
 have n:∀ p∈jn (jn T ds) sr,p.2≠f:=fun p b e=>by
  have u:=(qe.1 (qe.1 b).1).1;have t:=(qe.1 b).2
  have:p=(sr,f):=by
   have y:=h.apart;rcases XX.1 u with⟨i,s,l⟩;rcases XX.1 q with⟨j,r,k⟩;have d:=XY.1 y;rcases Nat.lt_trichotomy i j with c|c|c
   ·exact((d i j s r c) (by rw[l,k];exact e)).elim
   ·subst c;rw[<-l,k]
   ·exact((d j i r s c) (by rw[l,k];exact e.symm)).elim
  exact t (by rw[this])
 refine⟨by rw[x,<-z];exact(h.X6.put ds f).del sr,fun p b=>?_,XR.2 ⟨fun p b=>Ne.symm (n p b),(h.apart.sublist XQ).sublist XQ⟩,?_,fun p b=>?_⟩
 ·rcases zN.1 b with rfl|b
  ·exact h.files (sr,f) q
  ·exact h.files p (qe.1 (qe.1 b).1).1
 ·rw[Qi]
  have u:=ak fs (jn T ds) sr;have t:=ak fs T ds;have A:=h.size;show(yc fs f).length+1+_<=_;omega
 ·rcases zN.1 b with rfl|b
  ·exact⟨v,o⟩
  ·exact h.short p (qe.1 (qe.1 b).1).1
theorem Qv.mono{fs:Fls}{Q R:Want}(h:Qv fs U m bls Q D)(b:U<=U')(c:Q.Le R):Qv fs U' m bls R D:=by
 obtain⟨T,f,d⟩:=h;exact⟨T,f.mono b,d.mono c⟩
theorem Qv.fresh{fs:Fls}{Q:Want}(h:Qv fs U m bls Q D)(b:fs f=none)(a:jy):Qv (fs.put f a) U m bls Q D:=by
 obtain⟨T,d,c⟩:=h;exact⟨T,d.fresh b a,c.fresh b a⟩
theorem Qv.write{fs:Fls}{Q:Want}{a a':jy}(h:Qv fs U m bls Q D)(b:fs f=some a)(g:nd Q a a')(d:a'.bytes.length<=a.bytes.length+c):Qv (fs.put f a') (U+c) m bls Q D:=by
 obtain⟨T,j,i⟩:=h;exact⟨T,j.write b d,i.write b g⟩
theorem Qv.aa{fs:Fls}{Q:Want}(h:Qv fs U m bls Q D)(b:Idle m n):Qv fs U m bls Q (doA D ⟨[],n,[],none⟩):=by
 obtain⟨T,d,c⟩:=h;exact⟨_,d.aa n,c.idle b⟩
theorem Qv.made{fs:Fls}{Q:Want}(h:Qv fs U m bls Q D)(b:fs f=none)(a:jy)(c:Idle m n)(j:n≠[])(d:n.length<=60):Qv (fs.put f a) (U+1+a.bytes.length) m bls Q (doA D ⟨n,[],[],some f⟩):=by
 obtain⟨T,i,g⟩:=h;exact⟨_,i.made b a j d,((g.fresh b a).idle c).cons _⟩
theorem Qv.jba{fs:Fls}{c:Rf.Man}{b:List (List Rf.Ch)}{Q:Want}(h:Qv fs U m bls Q D)(t:Names D fs U T)(d:Idle c sr){a:jy}(r:(sr,f)∈T)(j:fs f=some a)(k:yt c.bytes a)(l:∀ p∈qn c.settled b,Sat T fs p.1 (yt p.2))(s:Sat T fs (jh c.log) (Jg c b Q))(g:ji∉jt c):Qv fs (U+1+c.bytes.length) c b Q (doA D ⟨[],sr,ji,some f⟩):=by
 have e:yc fs f=c.bytes:=by unfold yc;rw[j];exact k.bytes
 have i:∀ {n:Str} {P:jy->Prop},Sat T fs n P->n∈jt c->Sat ((ji,f)::jn (jn T ji) sr) fs n P:=fun {n} {P} hs hn=>((hs.jn (show n≠ji from fun e=>g (by rw[<-e];exact hn))).jn (show n≠sr from fun e=>d.2 (by rw[<-e];exact hn))).cons _;refine⟨_,by rw[<-e];exact t.renamed (a:=a) r (by decide) (Ne.symm d.1) (by decide),⟨⟨f,a,ZG,j,k⟩,fun p hp=>i (l p hp) ?_,i s ?_⟩⟩
 ·obtain⟨q,o,rfl⟩:=J8.1 hp
  exact xX _ (zO.2 ⟨q.1,(List.of_mem_zip o).1,rfl⟩)
 ·exact xY _ (ZW.2 rfl)
end Go.Proofs.YtnipbplghijdmaaGreatDoor
namespace Go.Proofs.YtnipbplghijdmaaGreatDoor
open RowKit Maps WideShapes Go.Proofs.Tryz
structure Pow(S:jc)(U:Nat)(m:Rf.Man)(bls:List (List Rf.Ch))(Q:Want):Prop where
 tied:S.names=S.late.foldl doA S.safe
 wf:∀ f a,S.files f=some a->a.Wf
 small:∀ f a,S.files f=some a->a.bytes.length<=60000
 all:sv (Mj S.files U Q) S.safe S.late
 cur:Qv S.files U m bls Q S.names
def At(S:jc)(n:Str)(P:jy->Prop):Prop:=∃ f a,S.at n=some f/\S.files f=some a/\P a
theorem Names.fs{S:jc}{U:Nat}{T:List Tok}(h:Names S.names S.files U T):Fs S T:=⟨h.X6,h.files,h.apart⟩
theorem At.sat{S:jc}{n:Str}{P:jy->Prop}{U:Nat}{T:List Tok}(h:Names S.names S.files U T):At S n P↔Sat T S.files n P:=by
 constructor
 ·rintro⟨f,a,d,c,b⟩
  exact⟨f,a,h.fs.at.1 d,c,b⟩
 ·rintro⟨f,a,d,c,b⟩
  exact⟨f,a,h.fs.at.2 d,c,b⟩
theorem At.mono{S:jc}{n:Str}{P R:jy->Prop}(h:At S n P)(b:∀ a,P a->R a):At S n R:=by
 obtain⟨f,a,g,d,c⟩:=h;exact⟨f,a,g,d,b a c⟩
theorem At.zr{S S':jc}{n:Str}{P:jy->Prop}(h:At S n P)(i:S'.names=S.names)(g:S'.files=S.files):At S' n P:=by
 obtain⟨f,a,b,d,c⟩:=h;exact⟨f,a,by unfold jc.at at b ⊢;rw[i];exact b,by rw[g];exact d,c⟩
variable {S S':jc} {U:Nat} {m:Rf.Man} {bls:List (List Rf.Ch)} {Q:Want}
theorem Pow.zr(h:Pow S U m bls Q)(f:S'.names=S.names)(b:S'.files=S.files)(d:S'.safe=S.safe)(c:S'.late=S.late):Pow S' U m bls Q :=
 ⟨by rw[f,d,c];exact h.tied,by rw[b];exact h.wf,by rw[b];exact h.small,by rw[b,d,c];exact h.all,by rw[f,b];exact h.cur⟩
theorem Pow.called(h:Pow S U m bls Q)(c:Bool):Pow (S.called c) U m bls Q:=h.zr rfl rfl rfl rfl
theorem Pow.mono{R:Want}{V:Nat}(h:Pow S U m bls Q)(b:U<=V)(c:Q.Le R):Pow S V m bls R :=
 ⟨h.tied,h.wf,h.small,h.all.mono (fun D ⟨m',b',k⟩=>⟨m',b',k.mono b c⟩),h.cur.mono b c⟩
theorem Pow.grow{V:Nat}(h:Pow S U m bls Q)(b:U<=V):Pow S V m bls Q:=h.mono b (Want.Le.refl _)
theorem Pow.held(h:Pow S U m bls Q):At S ji (yt m.bytes)/\(∀ p∈qn m.settled bls,At S p.1 (yt p.2))/\At S (jh m.log) (Jg m bls Q):=by
 obtain⟨T,c,b⟩:=h.cur;exact⟨(At.sat c).2 b.man,fun p hp=>(At.sat c).2 (b.runs p hp),(At.sat c).2 b.log⟩
theorem Pow.total(h:Pow S U m bls Q):total S.files S.names<=U:=by
 obtain⟨T,b,c⟩:=h.cur;rw[b.X6.total];refine ZR ?_ b.size;unfold Zp yc;clear b c
 induction T with
 | nil=>exact ZQ _
 | cons x r ih =>
  simp only[ZP,List.sum_cons]
  have:(S.files x.2).elim 0 (fun a=>a.bytes.length)<=((S.files x.2).elim [] jy.bytes).length+1:=by
   cases S.files x.2<;>simp
  omega
theorem Pow.written(h:Pow S U m bls Q){f c:Nat}{a a':jy}(j:S.files f=some a)(g:nd Q a a')(n:a'.Wf)(l:a'.bytes.length<=a.bytes.length+c)(o:a'.bytes.length<=60000):Pow (S.withFile f a') (U+c) m bls Q:=by
 refine⟨h.tied,fun i b hb=>?_,fun i b hb=>?_,h.all.mono (fun D ⟨m',b',k⟩=>⟨m',b',k.write j g l⟩),h.cur.write j g l⟩
 all_goals
  have d:Fls.put S.files f a' i=some b:=hb;by_cases e:i=f
  ·subst e;rw[Fls.yl] at d;cases d;first|exact n|exact o
  ·rw[Fls.yu _ _ e] at d;first|exact h.wf i b d|exact h.small i b d
theorem Ll(a:jy):a.synced.Wf:=⟨ZQ _,rfl⟩
theorem Ys(S:jc)(n:Str):(S.qm n=(S.called true,false)/\(S.bad=true\/S.at n=none\/∃ f,S.at n=some f/\S.files f=none))\/∃ f a,S.bad=false/\S.at n=some f/\S.files f=some a/\S.qm n=((S.called true).withFile f a.synced,true):=by
 unfold jc.qm
 cases hb:S.bad with
 | true=>exact .inl ⟨by simp,.inl rfl⟩
 | false =>
  cases hA:S.at n with
  | none=>exact .inl ⟨by simp,.inr (.inl rfl)⟩
  | some f =>
   cases hf:S.files f with
   | none=>exact .inl ⟨by simp[hf],.inr (.inr ⟨f,rfl,hf⟩)⟩
   | some a=>exact .inr ⟨f,a,rfl,rfl,hf,by simp[hf]⟩
theorem Pow.sync(h:Pow S U m bls Q)(n:Str):Pow (S.qm n).1 U m bls Q:=by
 rcases Ys S n with⟨e,_⟩|⟨f,a,_,_,b,e⟩
 ·rw[e];exact h.called true
 ·rw[e];exact(h.called true).written (c:=0) b (nd.synced Q a) (Ll a) (ZQ _) (h.small f a b)
theorem At.withFile{n:Str}{P:jy->Prop}(h:At S n P){f:Nat}{a a':jy}(j:S.files f=some a)(k:P a->P a'):At (S.withFile f a') n P:=by
 obtain⟨g,b,i,c,d⟩:=h;by_cases e:g=f
 ·subst e
  rw[j] at c;cases c;exact⟨g,a',i,Fls.yl _ _ _,k d⟩
 ·exact⟨g,b,i,(Fls.yu _ a' e).trans c,d⟩
theorem At.sync{n:Str}{P:jy->Prop}(h:At S n P)(x:Str)(c:∀ a,P a->P a.synced):At (S.qm x).1 n P:=by
 rcases Ys S x with⟨e,_⟩|⟨f,a,_,_,b,e⟩
 ·rw[e];exact h.zr rfl rfl
 ·rw[e];exact At.withFile (S:=S.called true) (h.zr rfl rfl) b (c a)
theorem sx(n:Str)(c:(S.qm n).2=true){P:jy->Prop}(h:At S n P):At (S.qm n).1 n (fun a'=>∃ a,P a/\a'=a.synced):=by
 rcases Ys S n with⟨e,_⟩|⟨f,a,_,d,k,e⟩
 ·rw[e] at c;cases c
 ·obtain⟨g,b,j,i,l⟩:=h
  rw[d] at j;cases j;rw[k] at i;cases i;rw[e];exact⟨f,a.synced,d,Fls.yl _ _ _,a,l,rfl⟩
theorem Lm(w:qh S){n:Str}{P:jy->Prop}(h:At S n P):(S.qm n).2=true/\qh (S.qm n).1:=by
 obtain⟨f,a,d,i,_⟩:=h;rcases Ys S n with⟨e,k⟩|⟨m,a',_,l,j,e⟩
 ·rcases k with k|k|⟨g,c,b⟩
  ·rw[w.bad] at k;cases k
  ·rw[d] at k;cases k
  ·rw[d] at c;cases c;rw[i] at b;cases b
 ·rw[e];exact⟨rfl,(w.called true).zr rfl rfl⟩
theorem Yq(S:jc):(S.bad=true/\S.Yb=(S.called true,false))\/(S.bad=false/\S.Yb=({ S.called true with safe:=S.late.foldl doA S.safe,late:=[] },true)):=by
 unfold jc.Yb
 cases hb:S.bad with
 | true=>exact .inl ⟨rfl,by simp⟩
 | false=>exact .inr ⟨rfl,by simp[jc.called]⟩
theorem Pow.dir(h:Pow S U m bls Q):Pow S.Yb.1 U m bls Q:=by
 rcases Yq S with⟨_,e⟩|⟨_,e⟩
 ·rw[e];exact h.called true
 ·rw[e]
  exact⟨h.tied,h.wf,h.small,by rw[<-h.tied];exact⟨m,bls,h.cur⟩,h.cur⟩
theorem Ik(b:S.Yb.2=true):S.Yb.1.late=[]:=by
 rcases Yq S with⟨_,e⟩|⟨_,e⟩
 ·rw[e] at b;cases b
 ·rw[e]
theorem At.dir{n:Str}{P:jy->Prop}(h:At S n P):At S.Yb.1 n P:=by
 rcases Yq S with⟨_,e⟩|⟨_,e⟩<;>rw[e]<;>exact h.zr rfl rfl
theorem Az(w:qh S):S.Yb.2=true/\qh S.Yb.1:=by
 rcases Yq S with⟨k,e⟩|⟨_,e⟩
 ·rw[w.bad] at k;cases k
 ·rw[e];exact⟨rfl,(w.called true).zr rfl rfl⟩
theorem Pow.sure(h:Pow S U m bls Q)(ns:List Str):Pow (jc.xu ns S).1 U m bls Q:=by
 induction ns generalizing S with
 | nil=>exact h.dir
 | cons n r ih =>
  unfold jc.xu
  split
  ·exact ih (h.sync n)
  ·exact h.sync n
theorem Lo(ns:List Str)(b:(jc.xu ns S).2=true):(jc.xu ns S).1.late=[]:=by
 induction ns generalizing S with
 | nil=>exact Ik b
 | cons n r ih =>
  unfold jc.xu at b ⊢
  split
  ·rename_i h1;rw[if_pos h1] at b;exact ih b
  ·rename_i h1;rw[if_neg h1] at b;cases b
theorem At.sure{n:Str}{P:jy->Prop}(h:At S n P)(ns:List Str)(b:∀ a,P a->P a.synced):At (jc.xu ns S).1 n P:=by
 induction ns generalizing S with
 | nil=>exact h.dir
 | cons x r ih =>
  unfold jc.xu
  split
  ·exact ih (h.sync x b)
  ·exact h.sync x b
theorem sy{n:Str}{P:jy->Prop}(h:At S n P)(ns:List Str)(f:n∈ns)(c:(jc.xu ns S).2=true)(d:∀ a,P a->P a.synced):At (jc.xu ns S).1 n (fun a=>P a/\yt a.bytes a):=by
 induction ns generalizing S with
 | nil=>cases f
 | cons x r ih =>
  unfold jc.xu at c ⊢
  split
  ·rename_i h1
   rw[if_pos h1] at c;by_cases e:n=x
   ·subst e
    refine At.sure ((sx n h1 h).mono ?_) r (fun a q=>⟨d a q.1,q.2.synced⟩);rintro a ⟨b,g,rfl⟩;exact⟨d b g,⟨rfl,rfl,rfl⟩⟩
   ·exact ih (h.sync x d) ((zN.1 f).resolve_left e) c
  ·rename_i h1;rw[if_neg h1] at c;cases c
theorem Ln(w:qh S)(ns:List Str)(h:∀ n∈ns,At S n (fun _=>True)):(jc.xu ns S).2=true/\qh (jc.xu ns S).1:=by
 induction ns generalizing S with
 | nil=>exact Az w
 | cons x r ih =>
  obtain⟨c,b⟩:=Lm w (h x ZG);unfold jc.xu;rw[if_pos c];exact ih b (fun n hn=>(h n (ZH _ hn)).sync x (fun _ t=>t))
theorem Pow.made(h:Pow S U m bls Q){f:Nat}{a:jy}{n:Str}(g:S.files f=none)(p:a.Wf)(q:a.bytes.length<=60000)(r:Idle m n)(t:n≠[])(s:n.length<=60)(d:S'.names=doA S.names ⟨n,[],[],some f⟩)(o:S'.late=S.late++[⟨n,[],[],some f⟩])(l:S'.safe=S.safe)(c:S'.files=Fls.put S.files f a) :
 Pow S' (U+1+a.bytes.length) m bls Q:=by
 have j:Qv S'.files (U+1+a.bytes.length) m bls Q S'.names:=by rw[d,c];exact h.cur.made g a r t s
 refine⟨by rw[d,o,l,xM,<-h.tied];rfl,fun i b hb=>?_,fun i b hb=>?_,?_,j⟩
 ·rw[c] at hb
  by_cases e:i=f
  ·subst e;rw[Fls.yl] at hb;cases hb;exact p
  ·rw[Fls.yu _ _ e] at hb;exact h.wf i b hb
 ·rw[c] at hb
  by_cases e:i=f
  ·subst e;rw[Fls.yl] at hb;cases hb;exact q
  ·rw[Fls.yu _ _ e] at hb;exact h.small i b hb
 ·rw[o,l]
  refine sv.snoc (h.all.mono (fun D ⟨m',b',k⟩=>⟨m',b',?_⟩)) ⟨m,bls,by rw[<-h.tied,<-d];exact j⟩;rw[c];exact(k.fresh g a).mono (by omega) (Want.Le.refl _)
theorem Og(h:Pow S U m bls Q){f:Nat}{a:jy}{n:Str}(b:S.files f=none)(l:Idle m n)(j:n≠[])(i:n.length<=60)(k:S'.names=doA S.names ⟨n,[],[],some f⟩)(g:S'.files=Fls.put S.files f a) :
 S'.at n=some f/\∀ x P,x≠n->At S x P->At S' x P:=by
 obtain⟨T,d,o⟩:=h.cur;have c:Names S'.names S'.files (U+1+a.bytes.length) ((n,f)::jn T n):=by rw[k,g];exact d.made b a j i
 refine⟨c.fs.at.2 ZG,fun x P hx hP=>(At.sat c).2 ?_⟩;rw[g];exact((((At.sat d).1 hP).fresh b a).jn hx).cons _
theorem ma:qd.Wf:=⟨ZQ _,rfl⟩
theorem Cj(x:List UInt8):(qd.put x).Wf/\(qd.put x).bytes=x:=by
 unfold jy.put qd
 split
 ·rename_i e;subst e;exact⟨⟨ZQ _,rfl⟩,rfl⟩
 ·rename_i e
  have:0<x.length:=ZY.2 e;exact⟨⟨zX _,⟨rfl,this,by simp[su]⟩⟩,rfl⟩
theorem Wg(fs:Fls)(f:Nat)(a b:jy):(fs.put f a).put f b=fs.put f b:=by
 funext i;by_cases e:i=f
 ·subst e;rw[Fls.yl,Fls.yl]
 ·rw[Fls.yu _ _ e,Fls.yu _ _ e,Fls.yu _ _ e]
theorem Pow.lay(h:Pow S U m bls Q){n:Str}{b:List UInt8}{F:Bool}(v:Idle m n)(A:n≠[])(z:n.length<=60)(h6:b.length<=60000)(r:Xk n b S S' F) :
 Pow S' (U+1+b.length) m bls Q/\(F=true->At S' n (fun a=>a.bytes=b/\(b=[]->yt [] a)))/\(∀ x P,x≠n->At S x P->At S' x P)/\(qh S->U+1+b.length<=20000->F=true/\qh S'):=by
 have i:∀ {j l},Lf n S j l->(j=S.called true/\l=false/\S.bad=true)\/(l=true/\∃ f,S.files f=none/\j=((S.called true).withFile f qd).named ⟨n,[],[],some f⟩):=by
  rintro j l (⟨R,N,M⟩|⟨R,N,f,M,a4⟩)
  ·exact .inl ⟨N,M,R⟩
  ·exact .inr ⟨N,f,M,a4⟩
 have D:∀ {j:jc},j=S.called true->S.bad=true->Pow j (U+1+b.length) m bls Q/\(∀ x P,x≠n->At S x P->At j x P)/\¬qh S:=fun e k=>by
  subst e;exact⟨(h.called true).grow (by omega),fun x P _ q=>q.zr rfl rfl,fun w=>by rw[w.bad] at k;cases k⟩
 unfold Xk at r
 split at r
 ·rename_i hb
  subst hb;rcases i r with⟨e,rfl,k⟩|⟨rfl,f,s,rfl⟩
  ·obtain⟨p,u,o⟩:=D e k
   exact⟨p,fun t=>(by cases t),u,fun w=>(o w).elim⟩
  ·obtain⟨g1,Z⟩:=Og (S':=((S.called true).withFile f qd).named ⟨n,[],[],some f⟩) (a:=qd) h s v A z rfl rfl
   exact⟨h.made s ma (zX _) v A z rfl rfl rfl rfl,fun _=>⟨f,qd,g1,Fls.yl _ _ _,rfl,fun _=>⟨rfl,rfl,rfl⟩⟩,Z,fun w _=>⟨rfl,(w.called true).zr rfl rfl⟩⟩
 ·rename_i hb
  rcases r with⟨E,rfl⟩|⟨j,E,V⟩
  ·rcases i E with⟨e,_,k⟩|⟨e,_⟩
   ·obtain⟨p,u,o⟩:=D e k
    exact⟨p,fun t=>(by cases t),u,fun w=>(o w).elim⟩
   ·cases e
  ·rcases i E with⟨_,e,_⟩|⟨_,f,s,rfl⟩
   ·cases e
   ·have g:=Og (S':=((S.called true).withFile f qd).named ⟨n,[],[],some f⟩) (a:=qd) h s v A z rfl rfl
    have O:Pow (((S.called true).withFile f qd).named ⟨n,[],[],some f⟩) (U+1+0) m bls Q:=h.made s ma (zX _) v A z rfl rfl rfl rfl
    have H:∀(x:List UInt8) (B:jc),x.length<=b.length->B=((((S.called true).withFile f qd).named ⟨n,[],[],some f⟩).called true).withFile f (qd.put x)->Pow B (U+1+b.length) m bls Q/\At B n (fun a=>a.bytes=x)/\(∀ y P,y≠n->At S y P->At B y P):=by
     rintro x B hx rfl;have L:(((((S.called true).withFile f qd).named ⟨n,[],[],some f⟩).called true).withFile f (qd.put x)).files=Fls.put S.files f (qd.put x):=Wg S.files f qd (qd.put x);obtain⟨Y,X⟩:=Og (S':=((((S.called true).withFile f qd).named ⟨n,[],[],some f⟩).called true).withFile f (qd.put x)) (a:=qd.put x) h s v A z rfl L;obtain⟨W,G⟩:=Cj x;refine⟨(Pow.made (S':=((((S.called true).withFile f qd).named ⟨n,[],[],some f⟩).called true).withFile f (qd.put x)) (a:=qd.put x) h s W (by rw[G];omega) v A z rfl rfl rfl L).grow (by rw[G];omega),⟨f,qd.put x,Y,by rw[L];exact Fls.yl _ _ _,G⟩,X⟩
    rcases V with⟨⟨f',a',C,J,I⟩,rfl⟩|⟨B,⟨f',a',C,J,I⟩,e2,rfl⟩
    ·rw[g.1] at C;cases C
     have d:Fls.put S.files f qd f=some a':=J;rw[Fls.yl] at d;cases d;rcases I with⟨c,e,_⟩|⟨_,_,_,e⟩
     ·obtain⟨p,u,o⟩:=H (b.take (b.length/2)) S' (by rw[ZN];omega) e
      refine⟨p,fun t=>(by cases t),o,fun w hU=>?_⟩;exfalso;rcases c with c|c
      ·have T:qh (((S.called true).withFile f qd).named ⟨n,[],[],some f⟩):=(w.called true).zr rfl rfl
       rw[T.bad] at c;cases c
      ·have:=O.total
       omega
     ·cases e
    ·rw[g.1] at C;cases C
     have d:Fls.put S.files f qd f=some a':=J;rw[Fls.yl] at d;cases d;rcases I with⟨_,_,e⟩|⟨_,_,e,_⟩
     ·cases e
     ·subst e2
      obtain⟨p,u,o⟩:=H b S' (ZQ _) e;refine⟨p,fun _=>u.mono (fun a q=>⟨q,fun e0=>(hb e0).elim⟩),o,fun w _=>⟨rfl,?_⟩⟩;rw[e];exact(((w.called true).zr rfl rfl:qh (((S.called true).withFile f qd).named ⟨n,[],[],some f⟩)).called true).zr rfl rfl
theorem Pow.named(h:Pow S U m bls Q){V:Nat}{d:Rf.Man}{b:List (List Rf.Ch)}{c:y7}(j:U<=V)(f:Qv S.files V d b Q (doA S.names c)):Pow ((S.called true).named c) V d b Q:=by
 have g:(S.late++[c]).foldl doA S.safe=doA S.names c:=by rw[xM,<-h.tied];rfl
 have i:sv (Mj S.files V Q) S.safe (S.late++[c]):=sv.snoc (h.all.mono (fun D ⟨m1,b1,k⟩=>⟨m1,b1,k.mono j (Want.Le.refl _)⟩)) ⟨d,b,by rw[<-h.tied];exact f⟩;exact⟨g.symm,h.wf,h.small,i,f⟩
theorem ab(S:jc)(n:Str):(S.xh n=(S.called true,false)/\(S.bad=true\/S.at n=none))\/(S.bad=false/\(∃ f,S.at n=some f)/\S.xh n=((S.called true).named ⟨[],n,[],none⟩,true)):=by
 unfold jc.xh
 cases hb:S.bad with
 | true=>exact .inl ⟨by simp,.inl rfl⟩
 | false =>
  cases hA:S.at n with
  | none=>exact .inl ⟨by simp,.inr rfl⟩
  | some f=>exact .inr ⟨rfl,⟨f,rfl⟩,by simp⟩
theorem Pow.remove(h:Pow S U m bls Q){n:Str}(b:Idle m n):Pow (S.xh n).1 U m bls Q:=by
 rcases ab S n with⟨e,_⟩|⟨_,_,e⟩
 ·rw[e];exact h.called true
 ·rw[e]
  exact h.named (ZQ _) (h.cur.aa b)
theorem At.remove(h:Pow S U m bls Q){n x:Str}{P:jy->Prop}(b:At S x P)(d:x≠n):At (S.xh n).1 x P:=by
 rcases ab S n with⟨e,_⟩|⟨_,_,e⟩
 ·rw[e];exact b.zr rfl rfl
 ·rw[e]
  obtain⟨T,c,f⟩:=h.cur;exact(At.sat (S:=(S.called true).named ⟨[],n,[],none⟩) (c.aa n)).2 (((At.sat c).1 b).jn d)
theorem Pr(w:qh S){n:Str}(h:At S n (fun _=>True)):(S.xh n).2=true/\qh (S.xh n).1:=by
 obtain⟨f,a,b,_⟩:=h;rcases ab S n with⟨e,k⟩|⟨_,_,e⟩
 ·rcases k with k|k
  ·rw[w.bad] at k;cases k
  ·rw[b] at k;cases k
 ·rw[e];exact⟨rfl,(w.called true).zr rfl rfl⟩
theorem Pow.Ye(h:Pow S U m bls Q)(ns:List Str)(b:∀ n∈ns,Idle m n):Pow (jc.yf ns S).1 U m bls Q:=by
 induction ns generalizing S with
 | nil=>exact h
 | cons n r ih =>
  unfold jc.yf
  split
  ·exact ih (h.remove (b n ZG)) (fun x hx=>b x (ZH _ hx))
  ·exact h.remove (b n ZG)
theorem At.Ye(h:Pow S U m bls Q)(ns:List Str)(c:∀ n∈ns,Idle m n){x:Str}{P:jy->Prop}(d:At S x P)(b:x∉ns):At (jc.yf ns S).1 x P:=by
 induction ns generalizing S with
 | nil=>exact d
 | cons n r ih =>
  have f:=d.remove h (n:=n) (fun e=>b (by rw[e];exact ZG));unfold jc.yf
  split
  ·exact ih (h.remove (c n ZG)) (fun y hy=>c y (ZH _ hy)) f (fun t=>b (ZH _ t))
  ·exact f
theorem My(h:Pow S U m bls Q)(w:qh S)(ns:List Str)(c:∀ n∈ns,Idle m n)(f:ns.Nodup)(d:∀ n∈ns,At S n (fun _=>True)):(jc.yf ns S).2=true/\qh (jc.yf ns S).1:=by
 induction ns generalizing S with
 | nil=>exact⟨rfl,w⟩
 | cons n r ih =>
  obtain⟨i,g⟩:=Pr w (d n ZG);have b:=ZI.1 f;unfold jc.yf;rw[if_pos i];exact ih (h.remove (c n ZG)) g (fun y hy=>c y (ZH _ hy)) b.2 (fun y hy=>(d y (ZH _ hy)).remove h (fun e=>b.1 (e▸hy)))
theorem Pow.removeAll(h:Pow S U m bls Q)(ns:List Str)(b:∀ n∈ns,Idle m n):Pow (jc.jr ns S).1 U m bls Q:=by
 unfold jc.jr xq
 split
 ·exact h
 ·split
  ·exact(h.Ye ns b).dir
  ·exact h.Ye ns b
theorem At.removeAll(h:Pow S U m bls Q)(ns:List Str)(d:∀ n∈ns,Idle m n){x:Str}{P:jy->Prop}(b:At S x P)(c:x∉ns):At (jc.jr ns S).1 x P:=by
 unfold jc.jr xq
 split
 ·exact b
 ·split
  ·exact(b.Ye h ns d c).dir
  ·exact b.Ye h ns d c
theorem dx(ns:List Str)(c:S.late=[])(b:(jc.jr ns S).2=true):(jc.jr ns S).1.late=[]:=by
 unfold jc.jr xq at b ⊢
 split
 ·exact c
 ·rename_i h1
  rw[if_neg h1] at b
  split
  ·rename_i h2;rw[if_pos h2] at b;exact Ik b
  ·rename_i h2;rw[if_neg h2] at b;cases b
theorem Gp(h:Pow S U m bls Q)(w:qh S)(ns:List Str)(b:∀ n∈ns,Idle m n)(c:ns.Nodup)(d:∀ n∈ns,At S n (fun _=>True)):(jc.jr ns S).2=true/\qh (jc.jr ns S).1:=by
 unfold jc.jr xq
 split
 ·exact⟨rfl,w⟩
 ·obtain⟨g,f⟩:=My h w ns b c d
  rw[if_pos g];exact Az f
theorem ib(S:jc)(sr ds:Str)(b:ds≠[]):(S.qq sr ds=(S.called true,false)/\(S.bad=true\/S.at sr=none))\/∃ f,S.bad=false/\S.at sr=some f/\S.qq sr ds=((S.called true).named ⟨[],sr,ds,some f⟩,true):=by
 unfold jc.qq
 cases hb:S.bad with
 | true=>exact .inl ⟨by simp,.inl rfl⟩
 | false =>
  cases hA:S.at sr with
  | none=>exact .inl ⟨by simp,.inr rfl⟩
  | some f=>exact .inr ⟨f,rfl,rfl,by simp[b]⟩
theorem Pow.rename(h:Pow S U m bls Q){c:Rf.Man}{b:List (List Rf.Ch)}(j:Idle c jq)(l:ji∉jt c)(z:At S jq (yt c.bytes))(r:∀ p∈qn c.settled b,At S p.1 (yt p.2))(s:At S (jh c.log) (Jg c b Q)) :
 ((S.qq jq ji).2=true->Pow (S.qq jq ji).1 (U+1+c.bytes.length) c b Q)/\((S.qq jq ji).2=false->Pow (S.qq jq ji).1 (U+1+c.bytes.length) m bls Q) /\
 (∀ x P,x≠jq->x≠ji->At S x P->At (S.qq jq ji).1 x P)/\(qh S->(S.qq jq ji).2=true/\qh (S.qq jq ji).1):=by
 obtain⟨T,d,A⟩:=h.cur;obtain⟨f,a,i,v,o⟩:=z;rcases ib S jq ji (by decide)with⟨e,k⟩|⟨B,_,g,e⟩
 ·rw[e]
  refine⟨fun t=>(by cases t),fun _=>(h.called true).grow (by omega),fun x P _ _ q=>q.zr rfl rfl,fun w=>?_⟩;rcases k with k|k
  ·rw[w.bad] at k;cases k
  ·rw[i] at k;cases k
 ·rw[i] at g;cases g
  rw[e];have n:=d.fs.at.1 i;have u:Qv S.files (U+1+c.bytes.length) c b Q (doA S.names ⟨[],jq,ji,some f⟩):=h.cur.jba d j n v o (fun p hp=>(At.sat d).1 (r p hp)) ((At.sat d).1 s) l;refine⟨fun _=>h.named (by omega) u,fun t=>(by cases t),fun x P hx1 hx2 q=>?_,fun w=>⟨rfl,(w.called true).zr rfl rfl⟩⟩
  ·have y:=d.renamed (a:=a) n (ds:=ji) (by decide) (by decide) (by decide)
   exact(At.sat (S:=(S.called true).named ⟨[],jq,ji,some f⟩) y).2 (((((At.sat d).1 q).jn hx2).jn hx1).cons _)
end Go.Proofs.YtnipbplghijdmaaGreatDoor
namespace Go.Proofs.YtnipbplghijdmaaGreatDoor
open RowKit Maps WideShapes Go.Proofs.Tryz
variable {S S':jc} {U:Nat} {m:Rf.Man} {bls:List (List Rf.Ch)} {Q:Want}
theorem Hu(m:Rf.Man):Idle m jq:=⟨by decide,fun h=>by
 rcases ZV.1 h with h|h
 ·obtain⟨k,_,e⟩:=zO.1 h
  exact En k e.symm
 ·exact Eo _ (ZW.1 h)⟩
theorem Rc(m:Rf.Man):ji∉jt m:=fun h=>by
 rcases ZV.1 h with h|h
 ·obtain⟨k,_,e⟩:=zO.1 h
  exact gk k e.symm
 ·exact tg _ (ZW.1 h)
theorem rj{m:Rf.Man}(h:m.Good){n:Nat}(d:m.next<=n):Idle m (jo n):=⟨Ne.symm (gk n),fun b=>by
 rcases ZV.1 b with b|b
 ·obtain⟨k,c,e⟩:=zO.1 b
  have:=h.2.2.1 k (xX _ c)
  have:=fx e
  omega
 ·exact Yf _ _ (ZW.1 b).symm⟩
theorem Rx{m:Rf.Man}(h:m.Good){n:Nat}(c:m.next<=n):Idle m (jh n):=⟨Ne.symm (tg n),fun b=>by
 rcases ZV.1 b with b|b
 ·obtain⟨k,d,e⟩:=zO.1 b
  exact Yf _ _ e.symm
 ·have:=h.2.2.1 m.log (xY _ (ZW.2 rfl))
  have:=re (ZW.1 b)
  omega⟩
theorem We{m:Rf.Man}{b:List (List Rf.Ch)}{p:Str×List UInt8}(d:p∈qn m.settled b):p.1∈jt m:=by
 obtain⟨q,c,rfl⟩:=J8.1 d;exact xX _ (zO.2 ⟨q.1,(List.of_mem_zip c).1,rfl⟩)
theorem Ex(m:Rf.Man):jh m.log∈jt m:=xY _ (ZW.2 rfl)
structure Mi(S:jc)(m:Rf.Man)(bls bs:List (List Rf.Ch))(Q:Want):Prop where
 runs:∀ p∈qn m.settled bls,At S p.1 (fun a=>a.bytes=p.2)
 log:At S (jh m.log) (fun a=>a.bytes=Rf.jk m.last bs)
 ok:(⟨m,bs,bls⟩:Rf.St).Ok
 all:∀ n∈jt m,At S n (fun _=>True)
 jhj:Q.now ⟨m,bs,bls⟩
theorem Pow.install(h:Pow S U m bls Q){c:Rf.Man}{f A:List (List Rf.Ch)}(R:Mi S c f A Q)(h6:c.bytes.length<=60000){G:Bool}(r:yr c S S' G) :
 (G=true->Pow S' (U+2+2*c.bytes.length) c f Q/\S'.late=[]/\At S' (jh c.log) (yt (Rf.jk c.last A))) /\
 (G=false->Pow S' (U+2+2*c.bytes.length) m bls Q\/Pow S' (U+2+2*c.bytes.length) c f Q) /\
 (∀ x P,x≠jq->x≠ji->(∀ a,P a->P a.synced)->At S x P->At S' x P) /\
 (qh S->U+1+c.bytes.length<=20000->G=true/\qh S'):=by
 unfold yr at r;have hb:c.bytes≠[]:=fun e=>by have:=congrArg List.length e;simp[Rf.Man.bytes,Rf.er,Rf.frame,Rf.js] at this
 have J:=h.sure (jt c);have y:∀ x P,(∀ a,P a->P a.synced)->At S x P->At (jc.xu (jt c) S).1 x P:=fun x P hP hA=>hA.sure (jt c) hP;have u:qh S->(jc.xu (jt c) S).2=true/\qh (jc.xu (jt c) S).1:=fun w=>Ln w _ R.all;rcases r with⟨r,rfl⟩|⟨E,r,k⟩
 ·have l:jc.xu (jt c) S=(S',false):=r
  rw[l] at J y u;exact⟨fun t=>(by cases t),fun _=> .inl (J.grow (by omega)),fun x P _ _ hP hA=>y x P hP hA,fun w=>by have:=(u w).1;cases this⟩
 have l:jc.xu (jt c) S=(E,true):=r;have L1:E.late=[]:=by have:=Lo (S:=S) (jt c) (by rw[l]);rwa [l] at this
 have R1:∀ p∈qn c.settled f,At E p.1 (yt p.2):=fun p hp=>by
  have:=sy (R.runs p hp) (jt c) (We hp) (by rw[l]) (fun a e=>e);rw[l] at this;exact this.mono (fun a q=>by rw[<-q.1];exact q.2)
 have G1:At E (jh c.log) (yt (Rf.jk c.last A)):=by
  have:=sy R.log (jt c) (Ex c) (by rw[l]) (fun a e=>e);rw[l] at this;exact this.mono (fun a q=>by rw[<-q.1];exact q.2)
 rw[l] at J y u;have hi:=Hu m;have F:=Hu c;have s:∀ {n},n∈jt c->n≠jq/\n≠ji:=fun {n} hn=>⟨fun e=>F.2 (e▸hn),fun e=>Rc c (e▸hn)⟩;have Z:∀ {i:jc} {ok2:Bool},Xk jq c.bytes E i ok2->_:=fun {i} {ok2} q=>J.lay hi (by decide) (by decide) h6 q;rcases k with⟨T,rfl⟩|⟨i,T,k⟩
 ·obtain⟨a1,a2,a3,a4⟩:=Z T
  exact⟨fun t=>(by cases t),fun _=> .inl (a1.grow (by omega)),fun x P h1 _ hP hA=>a3 x P h1 (y x P hP hA),fun w hU=>by have:=(a4 (u w).2 hU).1;cases this⟩
 obtain⟨P2,L,C,H⟩:=Z T;have L:=L rfl;have R2:∀ p∈qn c.settled f,At i p.1 (yt p.2):=fun p hp=>C _ _ (s (We hp)).1 (R1 p hp);have G2:=C _ _ (s (Ex c)).1 G1;have I:=P2.sync jq;have v:∀ x P,(∀ a,P a->P a.synced)->At i x P->At (i.qm jq).1 x P:=fun x P hP hA=>hA.sync jq hP;have B:qh i->(i.qm jq).2=true/\qh (i.qm jq).1:=fun w=>Lm w L;rcases k with⟨O,rfl⟩|⟨o,O,k⟩
 ·have j:i.qm jq=(S',false):=O
  rw[j] at I v B;exact⟨fun t=>(by cases t),fun _=> .inl (I.grow (by omega)),fun x P h1 _ hP hA=>v x P hP (C x P h1 (y x P hP hA)),fun w hU=>by have:=(B (H (u w).2 hU).2).1;cases this⟩
 have j:i.qm jq=(o,true):=O
 have T3:At o jq (yt c.bytes):=by
  have:=sx (S:=i) jq (by rw[j]) L;rw[j] at this;exact this.mono (fun a ⟨b,q,e⟩=>by rw[e];exact⟨q.1,by show b.bytes.length=_;rw[q.1],rfl⟩)
 rw[j] at I v B;have R3:∀ p∈qn c.settled f,At o p.1 (yt p.2):=fun p hp=>v _ _ (fun a q=>q.synced) (R2 p hp);have G3:=v _ _ (fun a q=>q.synced) G2;have X:At o (jh c.log) (Jg c f Q):=G3.mono (fun a q=>Jg.sure q R.ok R.jhj);obtain⟨Y,W,M,V⟩:=I.rename F (Rc c) T3 R3 X;rcases k with⟨N,rfl⟩|⟨S4,N,e4,rfl⟩
 ·have d:xq (o.qq jq ji)=(S',false):=N
  unfold xq at d
  split at d
  ·rename_i g
   have D:=(Y g).dir;rw[d] at D;refine⟨fun t=>(by cases t),fun _=> .inr (D.grow (by omega)),fun x P h1 h2 hP hA=>?_,fun w hU=>?_⟩
   ·have:=(M x P h1 h2 (v x P hP (C x P h1 (y x P hP hA)))).dir
    rwa [d] at this
   ·have:=(Az (V (B (H (u w).2 hU).2).2).2).1
    rw[d] at this;cases this
  ·rename_i g
   have g:(o.qq jq ji).2=false:=by simpa using g
   have e:S'=(o.qq jq ji).1:=(congrArg Prod.fst d).symm;rw[e];refine⟨fun t=>(by cases t),fun _=> .inl ((W g).grow (by omega)),fun x P h1 h2 hP hA=>M x P h1 h2 (v x P hP (C x P h1 (y x P hP hA))),fun w hU=>?_⟩;have:=(V (B (H (u w).2 hU).2).2).1;rw[g] at this;cases this
 ·subst e4
  have d:xq (o.qq jq ji)=(S',true):=N;unfold xq at d
  split at d
  ·rename_i g
   have D:=(Y g).dir;have Dl:=Ik (S:=(o.qq jq ji).1) (by rw[d]);have z:=(M _ _ (s (Ex c)).1 (s (Ex c)).2 G3).dir;rw[d] at D Dl z;refine⟨fun _=>⟨D.grow (by omega),Dl,z⟩,fun t=>(by cases t),fun x P h1 h2 hP hA=>?_,fun w hU=>⟨rfl,?_⟩⟩
   ·have:=(M x P h1 h2 (v x P hP (C x P h1 (y x P hP hA)))).dir
    rwa [d] at this
   ·have:=(Az (V (B (H (u w).2 hU).2).2).2).2
    rwa [d] at this
  ·cases d
end Go.Proofs.YtnipbplghijdmaaGreatDoor
namespace Go.Proofs.YtnipbplghijdmaaGreatDoor
open RowKit Maps WideShapes Go.Proofs.Tryz
variable {S S':jc} {U:Nat} {m:Rf.Man} {bls:List (List Rf.Ch)} {Q:Want}
def Qe(S:jc)(ns:List Str):Prop:=∀ n f,S.at n=some f->n∈ns
theorem Qe.zr{ns:List Str}(h:Qe S ns)(e:S'.names=S.names):Qe S' ns:=fun n f hf=>h n f (by unfold jc.at at hf ⊢;rw[<-e];exact hf)
theorem Qe.sub{ns b:List Str}(h:Qe S ns)(c:∀ n∈ns,n∈b):Qe S b:=fun n f hf=>c n (h n f hf)
theorem an(S:jc)(n:Str):(S.qm n).1.names=S.names:=by
 rcases Ys S n with⟨e,_⟩|⟨f,a,_,_,b,e⟩<;>rw[e]<;>rfl
theorem vw(S:jc):S.Yb.1.names=S.names:=by
 rcases Yq S with⟨_,e⟩|⟨_,e⟩<;>rw[e]<;>rfl
theorem Ca(ns:List Str)(S:jc):(jc.xu ns S).1.names=S.names:=by
 induction ns generalizing S with
 | nil=>exact vw S
 | cons n r ih =>
  unfold jc.xu
  split
  ·rw[ih,an]
  ·exact an S n
theorem Qe.made(h:Pow S U m bls Q){ns:List Str}(d:Qe S ns){f:Nat}{a:jy}{n:Str}(k:S.files f=none)(o:n≠[])(j:n.length<=60)(q:S'.names=doA S.names ⟨n,[],[],some f⟩)(p:S'.files=Fls.put S.files f a):Qe S' (n::ns):=by
 obtain⟨T,b,r⟩:=h.cur;have l:Names S'.names S'.files (U+1+a.bytes.length) ((n,f)::jn T n):=by rw[q,p];exact b.made k a o j
 intro x g c;rcases zN.1 (l.fs.at.1 c)with e|i
 ·cases e;exact ZG
 ·exact ZH _ (d x g (b.fs.at.2 (qe.1 i).1))
theorem Qe.lay(h:Pow S U m bls Q){ns:List Str}(i:Qe S ns){n:Str}{b:List UInt8}{o:Bool}(t:n≠[])(p:n.length<=60)(r:Xk n b S S' o):Qe S' (n::ns):=by
 have g:∀ {c:jc} {ok1:Bool},Lf n S c ok1->Qe c (n::ns):=fun {c} {ok1} q=>by
  rcases q with⟨_,e,_⟩|⟨_,_,f,s,e⟩
  ·rw[e];exact(i.zr rfl).sub (fun x hx=>ZH _ hx)
  ·rw[e];exact Qe.made (a:=qd) h i s t p rfl rfl
 unfold Xk at r
 split at r
 ·exact g r
 ·rcases r with⟨r,_⟩|⟨c,r,k⟩
  ·exact g r
  ·have l:=g r
   have j:∀ {d:jc} {ok2:Bool},Kc n b c d ok2->d.names=c.names:=fun {d} {ok2} q=>by
    obtain⟨f,a,_,_,⟨_,e,_⟩|⟨_,_,e,_⟩⟩:=q<;>rw[e]<;>rfl
   rcases k with⟨k,_⟩|⟨d,k,e,_⟩
   ·exact l.zr (j k)
   ·rw[e];exact l.zr (j k)
theorem Qe.remove(h:Pow S U m bls Q){ns:List Str}(i:Qe S ns)(n:Str)(b:(S.xh n).2=true):Qe (S.xh n).1 (ns.filter (fun x=>decide (x≠n))):=by
 rcases ab S n with⟨e,_⟩|⟨_,_,e⟩
 ·rw[e] at b;cases b
 ·rw[e]
  obtain⟨T,d,k⟩:=h.cur;have j:Fs ((S.called true).named ⟨[],n,[],none⟩) (jn T n):=Names.fs (S:=(S.called true).named ⟨[],n,[],none⟩) (d.aa n);intro x g f;have c:=qe.1 (j.at.1 f);exact XC.2 ⟨i x g (d.fs.at.2 c.1),by simpa using c.2⟩
theorem Qe.Ye(h:Pow S U m bls Q){ks:List Str}(d:Qe S ks)(ns:List Str)(c:∀ n∈ns,Idle m n)(b:(jc.yf ns S).2=true):Qe (jc.yf ns S).1 (ks.filter (fun x=>decide (x∉ns))):=by
 induction ns generalizing S ks with
 | nil=>exact d.sub (fun n c=>XC.2 ⟨c,by simp⟩)
 | cons n r ih =>
  unfold jc.yf at b ⊢
  split
  ·rename_i h1
   rw[if_pos h1] at b;refine(ih (h.remove (c n ZG)) (d.remove h n h1) (fun x hx=>c x (ZH _ hx)) b).sub (fun x hx=>?_);obtain⟨j,g⟩:=XC.1 hx;obtain⟨i,f⟩:=XC.1 j;refine XC.2 ⟨i,?_⟩;simp only[decide_eq_true_eq,zN,not_or] at g f ⊢;exact⟨f,g⟩
  ·rename_i h1;rw[if_neg h1] at b;cases b
theorem Qe.removeAll(h:Pow S U m bls Q){ks:List Str}(d:Qe S ks)(ns:List Str)(c:∀ n∈ns,Idle m n)(b:(jc.jr ns S).2=true):Qe (jc.jr ns S).1 (ks.filter (fun x=>decide (x∉ns))):=by
 unfold jc.jr xq at b ⊢
 split
 ·rename_i e
  subst e;exact d.sub (fun n c=>XC.2 ⟨c,by simp⟩)
 ·rename_i e
  rw[if_neg e] at b
  split
  ·rename_i h1
   exact(d.Ye h ns c h1).zr (vw _)
  ·rename_i h1;rw[if_neg h1] at b;cases b
theorem Qe.rename{ns:List Str}(h:Pow S U m bls Q)(l:Qe S ns)(c:(S.qq jq ji).2=true):Qe (S.qq jq ji).1 (ji::ns.filter (fun x=>decide (x≠jq))):=by
 rcases ib S jq ji (by decide)with⟨e,_⟩|⟨f,_,o,e⟩
 ·rw[e] at c;cases c
 ·rw[e]
  obtain⟨T,b,q⟩:=h.cur;have d:=b.fs.at.1 o;obtain⟨a,p⟩:=b.files _ d;have n:Fs ((S.called true).named ⟨[],jq,ji,some f⟩) ((ji,f)::jn (jn T ji) jq):=Names.fs (S:=(S.called true).named ⟨[],jq,ji,some f⟩) (b.renamed (a:=a) d (ds:=ji) (by decide) (by decide) (by decide));intro x g j;rcases zN.1 (n.at.1 j)with e|k
  ·cases e;exact ZG
  ·have i:=qe.1 k
   exact ZH _ (XC.2 ⟨l x g (b.fs.at.2 (qe.1 i.1).1),by simpa using i.2⟩)
theorem Qe.install(h:Pow S U m bls Q){c:Rf.Man}{g p:List (List Rf.Ch)}(R:Mi S c g p Q)(F:c.bytes.length<=60000){ns:List Str}(E:Qe S ns)(r:yr c S S' true):Qe S' (ji::ns):=by
 unfold yr at r;rcases r with⟨_,e⟩|⟨t,z,k⟩
 ·cases e
 have f:jc.xu (jt c) S=(t,true):=z;have o:=h.sure (jt c);have D:Qe t ns:=E.zr (by have:=Ca (jt c) S;rwa [f] at this);rw[f] at o;rcases k with⟨_,e⟩|⟨n,q,k⟩
 ·cases e
 have G:=(o.lay (Hu m) (by decide) (by decide) F q).1;have C:Qe n (jq::ns):=D.lay o (by decide) (by decide) q;rcases k with⟨_,e⟩|⟨i,y,k⟩
 ·cases e
 have d:n.qm jq=(i,true):=y;have u:=G.sync jq;have B:Qe i (jq::ns):=C.zr (by have:=an n jq;rwa [d] at this);rw[d] at u;rcases k with⟨_,e⟩|⟨H,v,e,_⟩
 ·cases e
 subst e;have b:xq (i.qq jq ji)=(S',true):=v;unfold xq at b
 split at b
 ·rename_i hok
  have A:=B.rename u hok;have e:S'=(i.qq jq ji).1.Yb.1:=by rw[b]
  rw[e];refine(A.zr (vw _)).sub (fun x j=>?_);rcases zN.1 j with e|j
  ·rw[e];exact ZG
  ·obtain⟨l,s⟩:=XC.1 j
   rcases zN.1 l with e|l
   ·rw[e] at s;simp at s
   ·exact ZH _ l
 ·cases b
end Go.Proofs.YtnipbplghijdmaaGreatDoor
namespace Go.Proofs.YtnipbplghijdmaaGreatDoor
open RowKit Maps WideShapes Go.Proofs.Tryz
abbrev Z9(d:Nat)(m:Rf.Man)(rv:Value)(last:Nat)(mv:Value)(deg:Bool):Array Value:=qu (.pointer (some ⟨d,0,none⟩)) (jg m.next) (jg m.last) (jg m.log) (jg m.base) rv (jg last) mv deg false
structure StM(E:Nat->Addr)(B:Nat)(w:World)(ρ:Nat->j3)(d b:Nat)(S:jc)(k:Nat)(m:Rf.Man)(last:Nat)(ml:List Rf.Ch)(deg:Bool)(rv mv:Value):Prop where
 env:Env E B w
 xl:Dk E B w ρ d S
 fit:Fit k S
 row:w.heap[b]?=some (.cells (Z9 d m rv last mv deg) 121 (0,0))
 runs:Jw w rv m.runs
 mem:w.ownsRow B 88 3 mv ml.length (jj ml)
 nb:ρ b = .none/\B<=b
 nr:Calm ρ B b mv rv w
 nm:∀ g,mv.ownBlock=some g->ρ g = .none/\g≠b
 yy:m.Good
 rising:Rf.jw ml
 few:ml.length<60000
 au:m.runs.length<60000
def yz(E:Nat->Addr)(B:Nat)(w:World)(ρ:Nat->j3)(d b:Nat)(rv mv:Value)(S:jc)(k:Nat)(m:Rf.Man)(last:Nat)(ml:List Rf.Ch)(deg:Bool)(w':World):Prop :=
 ∃ ρ' rv' mv',StM E B w' ρ' d b S k m last ml deg rv' mv'/\ja w w' (StF ρ b mv)/\(∀ i,i<w.heap.size->ρ' i=ρ i)/\(∀ g,mv'.ownBlock=some g->mv.ownBlock=some g\/w.heap.size<=g)/\(∀ p n c,rv' = .slice (some p) n c->(∃ n' c',rv = .slice (some p) n' c')\/w.heap.size<=p.block)
variable {E:Nat->Addr} {B:Nat} {w w':World} {ρ:Nat->j3} {d b k:Nat} {S:jc} {m:Rf.Man} {last:Nat} {ml:List Rf.Ch} {deg:Bool} {rv mv:Value}
theorem StM.keep{T:Nat->Prop}(h:StM E B w ρ d b S k m last ml deg rv mv)(l:ja w w' T)(j:∀ i,i<w.heap.size->T i->B<=i/\¬StF ρ b mv i/\∀ p n c,rv = .slice (some p) n c->i≠p.block):StM E B w' ρ d b S k m last ml deg rv mv:=by
 have f:ja w w' (fun i=>i<w.heap.size/\T i):=l.mono (fun i hi h=>⟨hi,h⟩);have o:Dk E B w' ρ d S:=⟨h.xl.rep.keep f (fun i t _=>yD (fun hn=>(j i t.1 t.2).2.1 (.inl hn))),h.xl.z8.keep f (fun i t=>(j i t.1 t.2).1),h.xl.yx,ZR h.xl.size l.size⟩
 refine⟨h.env.keep f (fun i t=>(j i t.1 t.2).1),o,h.fit,f.same h.row (fun t=>(j _ t.1 t.2).2.1 (.inr (.inl rfl))),
  h.runs.keep f (fun _ p n c e t=>(j _ t.1 t.2).2.2 p n c e rfl),f.row h.mem (fun g hg t=>(j g t.1 t.2).2.1 (.inr (.inr hg))),h.nb,fun p n c e=>?_,h.nm,h.yy,h.rising,h.few,h.au⟩
 obtain⟨v,u,s,r,q⟩:=h.nr p n c e;exact⟨v,u,s,r,ZA q l.size⟩
theorem StM.same(h:StM E B w ρ d b S k m last ml deg rv mv)(c:ja w w' (fun _=>False)):StM E B w' ρ d b S k m last ml deg rv mv:=h.keep c (fun _ _ h=>h.elim)
theorem StM.blt(h:StM E B w ρ d b S k m last ml deg rv mv):b<w.heap.size:=zC h.row
theorem StM.old(h:StM E B w ρ d b S k m last ml deg rv mv){i:Nat}(c:StF ρ b mv i):B<=i/\i<w.heap.size:=by
 rcases c with c|rfl|c
 ·exact⟨h.xl.yx i c,h.xl.rep.lt i c⟩
 ·exact⟨h.nb.2,h.blt⟩
 ·exact h.mem.lt i c
theorem StM.next{q:Nat->j3}{S':jc}{k':Nat}{f:Bool}(h:StM E B w ρ d b S k m last ml deg rv mv)(j:ja w w' (fun i=>ρ i≠ .none\/i=b))(o:∀ i,i<w.heap.size->q i=ρ i)(D:Dk E B w' q d S')(F:Fit k' S')(l:w'.heap[b]?=some (.cells (Z9 d m rv last mv f) 121 (0,0))) :
 yz E B w ρ d b rv mv S' k' m last ml f w':=by
 have y:ja w w' (StF ρ b mv):=j.mono (fun i _ t=>t.elim .inl (fun t=> .inr (.inl t)));refine⟨q,rv,mv,⟨h.env.keep j (fun i t=>t.elim (fun t=>h.xl.yx i t) (fun t=>by rw[t];exact h.nb.2)),D,F,l,h.runs.keep j (fun _ p n c e t=>?_),j.row h.mem (fun g hg t=>?_),⟨(o b h.blt).trans h.nb.1,h.nb.2⟩,fun p n c e=>?_,fun g hg=>?_,h.yy,h.rising,h.few,h.au⟩,y,o,fun g hg=> .inl hg,fun p n c e=> .inl ⟨n,c,e⟩⟩
 ·obtain⟨u,s,x,v,r⟩:=h.nr p n c e
  exact t.elim (fun t=>t u) s
 ·exact t.elim (fun t=>t (h.nm g hg).1) (fun t=>(h.nm g hg).2 t)
 ·obtain⟨u,s,x,v,r⟩:=h.nr p n c e
  exact⟨(o _ r).trans u,s,x,v,ZA r j.size⟩
 ·exact⟨(o g (h.mem.lt g hg).2).trans (h.nm g hg).1,(h.nm g hg).2⟩
end Go.Proofs.YtnipbplghijdmaaGreatDoor

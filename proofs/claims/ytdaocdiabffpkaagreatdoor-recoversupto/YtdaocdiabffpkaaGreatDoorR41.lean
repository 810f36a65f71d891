/-
-/
import Derived.Test.YtdaocdiabffpkaaGreatDoorR40
import Derived.Test.YtdaocdiabffpkaaGreatDoorR30
set_option maxRecDepth 100000
set_option maxHeartbeats 8000000
set_option linter.all false
namespace Go.Proofs.YtdaocdiabffpkaaGreatDoor
open RowKit Maps WideShapes Go.Proofs.Tryz
section
variable {x:Int} {n sr:Str} {b g:List UInt8} {bls bs:List (List Rf.Ch)} {P:DataW Nat->Prop} {m:Rf.Man} {U U' c f:Nat} {T:List Tok} {D:DataW Nat}
def J1(c:Int)(n:Nat):Nat:=((if c<0 then -(c+1)else c)%n).toNat
theorem Ki{k:IntKind}{a b:Int}(h:a=b):Ending.returned (.int k a)=.returned (.int k b):=by rw[h]
theorem Wz{n:Nat}(c:x<0)(d:0<n):-((x+1).tmod n)=(J1 x n:Int):=by unfold J1;rw[if_pos c,<-Int.neg_tmod,Int.tmod_eq_emod_of_nonneg zC];have:=Int.emod_nonneg (-(x+1)) (b:=(n:Int)) zC;omega
theorem Wy{n:Nat}(c:¬x<0)(d:0<n):x%(n:Int)=(J1 x n:Int):=by unfold J1;rw[if_neg c];have:=Int.emod_nonneg x (b:=(n:Int)) zC;omega
theorem jjd(w:World)(p n:Nat)(a:Option Addr)(c:Nat)(h:w.heap[p]?=some (.cells #[.slice a 0 c] 213 (0,0))):Calls prog 144 #[P1 p,aA n] w λe w'=>e=.returned (aA 0)/\w'=w:=by have b:=zK 0 h;simp at b;clear h;go_enter func144,ntmps144;go_wp2;go_ret;exact⟨rfl,rfl⟩
theorem jgt(w:World)(p n g o c:Nat)(x:Int)(r:List Int)(b:0<n)(l:n<9223372036854775807)(h:w.heap[p]?=some (.cells #[.slice (some (B1 g o)) (r.length+1) c] 213 (0,0)))(t:r.length+1<=c)(d:c<=maxLen)(s:w.cell? (B1 g o)=some (aA x))(i:-9223372036854775808<=x/\x<=9223372036854775807):Calls prog 144 #[P1 p,aA n] w λe w'=>e=.returned (aA (J1 x n))/\w'=w.setCell (A2 p) (.slice (if c=1 then some (B1 g o) else some ⟨g,o+1,none⟩) r.length (c-1)):=by
 have j:=zK 0 h;have u:=zL 0 h;simp at j;clear h;unfold maxLen at d;obtain⟨q,m⟩:=i;have k:¬(n:Int)=0:=zC;by_cases hc1:c=1
 .subst hc1;go_enter func144,ntmps144;go_wp2;(all_goals go_ret);(all_goals have f:r.length=0:=zC);exact⟨Ki<|Wz zC b,by rw[f]⟩;exact⟨Ki<|Wy zC b,by rw[f]⟩
 .go_enter func144,ntmps144;go_wp2;(all_goals go_ret);exact⟨Ki<|Wz zC b,rfl⟩;exact⟨Ki<|Wy zC b,rfl⟩
theorem Yw{P:Program}(w:World){c:Array Oper}{rest:List Oper}{o:Oper}{a:Act}{Q:Exit->Act->World->Prop}(f:o.guard=none)(s x:Operand)(t d:TypeId)(l:o.op=.call { callee:=.builtin .append,args:=#[s,x],argTypes:=#[t,d] })(base:Nat)(e:TypeId)(i:TypeInfo)(ht:P.underlying t=some (.slice e))(hti:P.underlying d=some (.int .i64))(hi:P.info? e=some i)(hz:i.zero=some (.int .u8 0))(hsize:i.size=1)(hby:i.bytes=1)(v:Value)(n:Nat)(xs:List Value)(hs:a.eval s=v)(hown:w.ownsRow base e 1 v n xs)(k:Nat)(hx:a.eval x = aA k)(hnk:n+k<=1099511627776)(hbase:base<=w.heap.size)(hK:∀(p:Option Addr) (b:Nat) (w':World),w'.ownsRow base e 1 (.slice p (n+k) b) (n+k) (xs++List.replicate k (.int .u8 0))->w.grownBy w' v.ownBlock->((Value.slice p (n+k) b).ownBlock=v.ownBlock\/(Value.slice p (n+k) b).ownBlock=some w.heap.size)->wpList P c Q rest (a.put o.dst (.slice p (n+k) b)) w'):wpList P c Q (o::rest) a w:=by
 refine wpList_plain f λj r=>?_
 obtain⟨v',w',j,g,q,m⟩:=Fi (P:=P) w base t d o.type e i ht hti hi hz hsize hby v n xs hown k hnk hbase;obtain⟨p,b,rfl⟩:=jl g;unfold Oper.wp;simp[execOp,l,resolve,invoke,builtin,hs,hx,j,Result.andThen];exact r _ _<|hK p b w' g q m
def sel:List (Nat×Nat)->List Int->List (Nat×Nat)
 | [],_=>[]
 | x::r,ch=>(if J1 (ch.headD 0) 2=1 then [x] else [])++sel r ch.tail
theorem V6:∀(l:List (Nat×Nat)) (x:Nat×Nat) (b:List Int),sel (l++[x]) b=sel l b++if J1 ((b.drop l.length).headD 0) 2=1 then [x] else []
 | [],x,b=>by simp[sel]
 | y::r,x,b=>by
  have ih:=V6 r x b.tail
  simp only[xJ,sel,ih,xK,xC]
  congr 3
  cases b<;>simp
theorem O5(l:List (Nat×Nat))(b:List Int)(k:Nat)(h:k<l.length):sel (l.take (k+1)) b=sel (l.take k) b++if J1 ((b.drop k).headD 0) 2=1 then [l[k]] else []:=by grind [xZ,V6]
theorem jcm(l:List (Nat×Nat))(b:List Int):(sel l b).length<=l.length:=by induction l generalizing b with|nil=>simp[sel]|cons x r ih=>grind [sel]
def Ap:Nat->List (Nat×Nat)->Nat->Prop
 | s,[],e=>s=e
 | s,x::r,e=>x.1=s/\0<x.2/\Ap (s+x.2) r e
def OkP:Nat->List (Nat×Nat)->Nat->Prop
 | s,[],e=>s<=e
 | s,x::r,e=>s<=x.1/\0<x.2/\OkP (x.1+x.2) r e
theorem OkP.mono:∀ {l:List (Nat×Nat)} {s s' e:Nat},OkP s l e->s'<=s->OkP s' l e
 | [],_,_,_,h,hs=>zW hs h
 | x::r,_,_,_,h,hs=>⟨zW hs h.1,h.2.1,h.2.2⟩
theorem OkP.le:∀ {l:List (Nat×Nat)} {s e:Nat},OkP s l e->s<=e
 | [],_,_,h=>h
 | x::r,s,e,h=>by have:=h.2.2.le;have:=h.1;omega
theorem Ap.sel:∀ {l:List (Nat×Nat)} {s e:Nat} (b:List Int),Ap s l e->OkP s (sel l b) e
 | [],_,_,_,h=>Nat.le_of_eq h
 | x::r,s,e,b,h=>by
  have ih:=h.2.2.sel b.tail
  unfold Go.Proofs.YtdaocdiabffpkaaGreatDoor.sel
  split
  .exact⟨by rw[h.1];exact ZG _,h.2.1,by rw[h.1];exact ih⟩
  .exact ih.mono (by omega)
theorem Ap.snoc:∀ {l:List (Nat×Nat)} {s e:Nat} (n:Nat),Ap s l e->0<n->Ap s (l++[(e,n)]) (e+n)
 | [],s,e,n,h,hn=>⟨h.symm,hn,by rw[h];rfl⟩
 | x::r,s,e,n,h,hn=>⟨h.1,h.2.1,h.2.2.snoc n hn⟩
def fc(bytes:By)(b:By)(x:Nat×Nat):By:=if 0<x.2 then b++List.replicate (x.1-b.length) 0++(bytes.drop x.1).take x.2 else b
def Xl:List (Nat×Nat)->Bool->List (Nat×Nat)
 | [],_=>[]
 | [x],t=>[(x.1,if t then x.2/2 else x.2)]
 | x::y::r,t=>x::Xl (y::r) t
theorem u9:∀(l:List (Nat×Nat)) (t:Bool),(Xl l t).length=l.length
 | [],_=>rfl
 | [_],_=>rfl
 | x::y::r,t=>by simp[Xl,u9 (y::r) t]
theorem Vl:∀(l:List (Nat×Nat)) (t:Bool) (k:Nat) (h:k<l.length),(Xl l t)[k]?=some (if k+1=l.length then(l[k].1,if t then l[k].2/2 else l[k].2)else l[k])
 | [x],t,0,_=>by simp[Xl]
 | x::y::r,t,0,_=>by simp[Xl]
 | x::y::r,t,k+1,h=>by
  have:=Vl (y::r) t k (by simpa using h)
  grind [Xl]
def Qf(bytes b0:By)(T:List (Nat×Nat))(t:Bool)(k:Nat):By:=((Xl T t).take k).foldl (fc bytes) b0
theorem Hf(bytes b:By)(T:List (Nat×Nat))(t:Bool)(k:Nat)(h:k<T.length):Qf bytes b T t (k+1)=fc bytes (Qf bytes b T t k) (if k+1=T.length then(T[k].1,if t then T[k].2/2 else T[k].2)else T[k]):=by
 have c:k<(Xl T t).length:=by rw[u9];exact h
 have e:=Vl T t k h;grind [Qf,xZ]
theorem Hp{bytes:By}{x:Nat×Nat}(d:b.length<=x.1)(c:x.1+x.2<=bytes.length):(fc bytes b x).length<=x.1+x.2:=by grind [fc]
theorem Uy(bytes:By)(t:Bool):∀(T:List (Nat×Nat)) (c:By) (s:Nat),OkP s T bytes.length->c.length<=s->∀ k (h:k<T.length),(Qf bytes c T t k).length<=T[k].1/\0<T[k].2/\T[k].1+T[k].2<=bytes.length
 | [],_,_,_,_,k,h=>by simp at h
 | x::r,c,s,hO,hb,0,_=>by
  have:=hO.2.2.le
  exact⟨by simp[Qf];exact zW hb hO.1,hO.2.1,this⟩
 | [x],c,s,hO,hb,k+1,h=>by simp at h
 | x::y::r,c,s,hO,hb,k+1,h=>by
  have d:=hO.2.2.le
  have f:=Hp (bytes:=bytes) (b:=c) (x:=x) (zW hb hO.1) d
  have ih:=Uy bytes t (y::r) (fc bytes c x) (x.1+x.2) hO.2.2 f k (by simpa using h)
  simpa [Qf,Xl] using ih
def j2.settled(a:j2)(ch:List Int):j2:=let T:=sel a.late ch
 let b:=Qf a.bytes (a.bytes.take a.safe) T (J1 ((ch.drop a.late.length).headD 0) 2=1) T.length
 ⟨b,b.length,[]⟩
def j2.left(a:j2)(ch:List Int):List Int:=if sel a.late ch=[] then ch.drop a.late.length else(ch.drop a.late.length).tail
def j2.Wf(a:j2):Prop:=a.safe<=a.bytes.length/\Ap a.safe a.late a.bytes.length
def u2(g:By):Prop:=∃ l r,r≠[]/\l.length<256^4/\g++r=Rf.frame l
theorem u2.take(h:u2 g)(n:Nat):u2 (g.take n):=by obtain⟨l,r,c,b,d⟩:=h;refine⟨l,g.drop n++r,λe=>c (List.append_eq_nil_iff.1 e).2,b,?_⟩;grind [ZF]
theorem u2.of{l:By}(b:l.length<256^4){n:Nat}(c:n<(Rf.frame l).length):u2 ((Rf.frame l).take n):=⟨l,(Rf.frame l).drop n,λe=>by have:=congrArg List.length e;simp at this;omega,b,ZF _ _⟩
theorem u2.nil:u2 []:=⟨[],Rf.frame [],λe=>by grind [Rf.frame,Rf.jm],zE,rfl⟩
theorem u2.over(h:u2 g)(last:Nat)(bs:List L1):Rf.Over last bs g:=by
 obtain⟨l,r,j,f,d⟩:=h;refine .inr ?_;have b:Rf.xu g=none:=by unfold Rf.xu;rw[if_neg];rintro⟨i,c,_⟩;(have e:g.take 4=Rf.big l.length 4:=by have m:(g++r).take 4=g.take 4:=List.take_append_of_le_length zC;grind [Rf.frame,Rf.jm]);rw[e,Rf.J2 _ _ f] at c;have k:=congrArg List.length d;grind [XH,Rf.frame,Rf.jm]
 unfold Rf.zw;rw[b]
theorem jb6(n:Nat)(b:8<=n)(x:By)(last:Nat)(bs:List L1):Rf.Over last bs (List.replicate n 0++x):=by
 refine .inr ?_;obtain⟨m,rfl⟩:∃ m,n=8+m:=⟨n-8,zC⟩;have e:List.replicate (8+m) (0:UInt8)++x=Rf.frame []++(List.replicate m 0++x):=by rw[<-List.replicate_append_replicate,xK];rfl
 grind [Rf.zw,Rf.Xw,Rf.Zy]
theorem jeo(bytes b:By)(x:Nat×Nat):∃ y,fc bytes b x=b++y:=by unfold fc;split;simp_all;exact⟨[],zD⟩
theorem Sq(bytes:By):∀(T:List (Nat×Nat)) (b:By),∃ y,T.foldl (fc bytes) b=b++y
 | [],b=>⟨[],by simp⟩
 | x::r,b=>by
  obtain⟨y,hy⟩:=jeo bytes b x
  obtain⟨z,c⟩:=Sq bytes r (fc bytes b x)
  simp_all
theorem jby(bytes:By)(m:Nat):∀(T:List (Nat×Nat)) (b:By),(∀ x∈T,b.length+m<=x.1)->T.foldl (fc bytes) b=b\/∃ y,T.foldl (fc bytes) b=b++(List.replicate m 0++y)
 | [],b,_=>.inl rfl
 | x::r,b,h=>by
  rw[List.foldl_cons]
  have hx:=h x xO
  by_cases h0:0<x.2
  .obtain⟨z,c⟩:=Sq bytes r (fc bytes b x)
   refine .inr ⟨List.replicate (x.1-b.length-m) 0++(bytes.drop x.1).take x.2++z,?_⟩
   grind [List.replicate_append_replicate,fc]
  .have e:fc bytes b x=b:=by unfold fc;rw[if_neg h0]
   rw[e]
   exact jby bytes m r b (λy d=>h y (xP _ d))
theorem Ky:∀(T:List (Nat×Nat)) (t:Bool) (k:Nat),(∀ x∈T,k<=x.1)->∀ x∈Xl T t,k<=x.1
 | [],_,_,h,x,hx=>by cases hx
 | [y],t,k,h,x,hx=>by
  rw[xV.1 hx]
  exact h y xO
 | y::z::r,t,k,h,x,hx=>by
  rcases xN.1 hx with rfl|hx
  .exact h _ xO
  .exact Ky (z::r) t k (λu hu=>h u (xP _ hu)) x hx
theorem je6:∀(l:List (Nat×Nat)) (ch:List Int) (x:Nat×Nat),x∈sel l ch->x∈l
 | [],_,x,h=>by cases h
 | y::r,ch,x,h=>by
  rw[sel,ZM] at h
  rcases h with h|h
  .simp_all
  .exact xP _ (je6 r ch.tail x h)
def pcs:Nat->Nat->List (List Rf.Ch)->List (Nat×Nat)
 | _,_,[]=>[]
 | p,n,b::r=>(p,(Rf.jn n b).length)::pcs (p+(Rf.jn n b).length) (n+1) r
theorem Rp:∀(u:List L1) (p n:Nat),∀ x∈pcs p n u,p<=x.1
 | [],_,_,x,h=>by cases h
 | b::r,p,n,x,h=>by
  rcases xN.1 h with rfl|h
  .exact ZG _
  .have:=Rp r _ _ x h
   omega
theorem Ct(n:Nat)(b:L1):17<=(Rf.jn n b).length:=by simp[Rf.jn,Rf.frame,Rf.jm];omega
def al(last:Nat)(bs:List L1)(p:Nat)(g:By):List (Nat×Nat):=if g=[] then [] else [(p+(Rf.ji last bs).length,g.length)]
theorem Xf(last:Nat)(b:L1)(r:List L1):Rf.ji last (b::r)=Rf.jn (last+1) b++Rf.ji (last+1) r:=rfl
theorem Hm(n:Nat)(b:L1)(h:(Rf.jn n b).length<256^4):∃ l,l.length<256^4/\Rf.jn n b=Rf.frame l:=by refine⟨_,?_,rfl⟩;have:(Rf.frame (Rf.big n 8++Rf.big b.length 1++b.flatMap Rf.entry)).length<256^4:=h;grind [Rf.frame]
theorem jbf(t:Bool)(g:By)(o:u2 g):∀(u:List L1) (c bytes:By) (last:Nat) (f:List Int),(∀ b∈u,∀ n,(Rf.jn n b).length<256^4)->bytes=c++Rf.ji last u++g ->
 ∃ i g',i<=u.length/\(Xl (sel (pcs c.length (last+1) u++al last u c.length g) f) t).foldl (fc bytes) c=c++Rf.ji last (u.take i)++g'/\∀ k bs,Rf.Over k bs g'
 | [],c,bytes,last,f,hs,e=>by
  by_cases h:g=[]
  .refine⟨0,[],ZG _,?_,λk bs=>Rf.Qi _ _⟩
   simp[pcs,al,h,sel,Xl,Rf.ji]
  .have e1:al last [] c.length g=[(c.length,g.length)]:=by simp[al,h,Rf.ji]
   rw[e1]
   simp only[pcs,xI,sel,ZE]
   split
   .have C:bytes.drop c.length=g:=by rw[e];simp[Rf.ji]
    have J:∀ n,n<=g.length->[(c.length,n)].foldl (fc bytes) c=c++g.take n:=by
     intro n F
     by_cases h0:0<n
     .simp[fc,h0,C]
     .have:n=0:=by omega
      subst this
      simp[fc]
    refine⟨0,g.take (if t then g.length/2 else g.length),ZG _,?_,(o.take _).over⟩
    grind [Xl,Rf.ji]
   .refine⟨0,[],ZG _,?_,λk bs=>Rf.Qi _ _⟩
    simp[Xl,Rf.ji]
 | b::r,c,bytes,last,f,hs,e=>by
  have D:=Ct (last+1) b
  obtain⟨l,G,E⟩:=Hm (last+1) b (hs b xO _)
  have v:(bytes.drop c.length).take (Rf.jn (last+1) b).length=Rf.jn (last+1) b:=by
   grind [Xf]
  simp only[pcs,xJ,sel]
  have B:al last (b::r) c.length g=al (last+1) r (c++Rf.jn (last+1) b).length g:=by
   unfold al
   rw[Xf,ZA,ZA,Nat.add_assoc]
  have s:c.length+(Rf.jn (last+1) b).length=(c++Rf.jn (last+1) b).length:=by rw[ZA]
  rw[B,s]
  have ih:=jbf t g o r (c++Rf.jn (last+1) b) bytes (last+1) f.tail (λx j=>hs x (xP _ j)) (by grind [Xf])
  have d:∀ x∈sel (pcs (c++Rf.jn (last+1) b).length (last+1+1) r++al (last+1) r (c++Rf.jn (last+1) b).length g) f.tail,c.length+(Rf.jn (last+1) b).length<=x.1:=by
   intro x j
   have:=je6 _ _ _ j
   rw[s]
   rcases ZM.1 this with h|h
   .exact Rp _ _ _ x h
   .unfold al at h
    simp_all
  generalize hT:sel (pcs (c++Rf.jn (last+1) b).length (last+1+1) r++al (last+1) r (c++Rf.jn (last+1) b).length g) f.tail=T at ih d ⊢
  split
  .have I:fc bytes c (c.length,(Rf.jn (last+1) b).length)=c++Rf.jn (last+1) b:=by
    grind [fc]
   cases hTc:T with
   | nil =>
    cases t with
    | false =>
     refine⟨1,[],by simp,?_,λk bs=>Rf.Qi _ _⟩
     simp only[List.singleton_append,Xl,List.foldl_cons,List.foldl_nil]
     grind [Xf,Rf.ji]
    | true =>
     refine⟨0,(Rf.jn (last+1) b).take ((Rf.jn (last+1) b).length/2),zT _,?_,?_⟩
     .simp only[List.singleton_append,Xl,List.foldl_cons,List.foldl_nil]
      unfold fc
      rw[if_pos (by grind)]
      have A:(bytes.drop c.length).take ((Rf.jn (last+1) b).length/2)=(Rf.jn (last+1) b).take ((Rf.jn (last+1) b).length/2):=by
       have p:=congrArg (List.take ((Rf.jn (last+1) b).length/2)) v
       rw[List.take_take,ZV (by omega)] at p
       exact p
      simp[A,Rf.ji]
     .have m:u2 ((Rf.jn (last+1) b).take ((Rf.jn (last+1) b).length/2)):=by
       grind [u2.of]
      exact m.over
   | cons y q =>
    rw[hTc] at ih
    obtain⟨i,g',hi,H,z⟩:=ih
    refine⟨i+1,g',by simp;omega,?_,z⟩
    grind [Xl,Xf]
  .rw[xI]
   rcases jby bytes (Rf.jn (last+1) b).length (Xl T t) c (Ky T t _ d)with h|⟨y,h⟩
   .exact⟨0,[],zT _,by rw[h];simp[Rf.ji],λk bs=>Rf.Qi _ _⟩
   .exact⟨0,List.replicate (Rf.jn (last+1) b).length 0++y,zT _,by rw[h];simp[Rf.ji],λk bs=>jb6 _ (by omega) _ _ _⟩
structure Ka(a:j2)(last:Nat)(bs u:List (List Rf.Ch))(g:List UInt8):Prop where
 bytes:a.bytes=Rf.ji last (bs++u)++g
 safe:a.safe=(Rf.ji last bs).length
 late:a.late=pcs (Rf.ji last bs).length (last+bs.length+1) u++al (last+bs.length) u (Rf.ji last bs).length g
 stub:u2 g
theorem Qz(last:Nat):∀(bs u:List L1),Rf.ji last (bs++u)=Rf.ji last bs++Rf.ji (last+bs.length) u
 | bs,[]=>by simp[Rf.ji]
 | bs,b::r=>by
  have ih:=Qz last (bs++[b]) r
  grind [Rf.Y5,Xf]
theorem Ka.settled{a:j2}{last:Nat}{u:List L1}(h:Ka a last bs u g)(f:∀ b∈u,∀ n,(Rf.jn n b).length<256^4)(c:List Int):∃ i g',i<=u.length/\(a.settled c).bytes=Rf.ji last (bs++u.take i)++g'/\∀ k cs,Rf.Over k cs g':=by
 have d:a.bytes=Rf.ji last bs++Rf.ji (last+bs.length) u++g:=by rw[h.bytes,Qz]
 obtain⟨i,g',m,l,j⟩:=jbf (decide (J1 ((c.drop a.late.length).headD 0) 2=1)) g h.stub u (Rf.ji last bs) a.bytes (last+bs.length) c f d;refine⟨i,g',m,?_,j⟩;show Qf a.bytes (a.bytes.take a.safe) (sel a.late c) (decide (J1 ((c.drop a.late.length).headD 0) 2=1)) (sel a.late c).length=_;have o:a.bytes.take a.safe=Rf.ji last bs:=by rw[d,h.safe,xK,List.take_append_of_le_length (ZG _),xM]
 rw[o,Qz,<-l,<-h.late];grind [Qf,u9]
def Aq(P:DataW Nat->Prop):DataW Nat->List zh->Prop
 | D,[]=>P D
 | D,c::r=>P D/\Aq P (doA D c) r
theorem Aq.snoc:∀ {l:List zh} {D:DataW Nat} {c:zh},Aq P D l->P (doA (l.foldl doA D) c)->Aq P D (l++[c])
 | [],D,c,h,k=>⟨h,k⟩
 | x::r,D,c,h,k=>⟨h.1,h.2.snoc k⟩
theorem Aq.last:∀ {l:List zh} {D:DataW Nat},Aq P D l->P (l.foldl doA D)
 | [],D,h=>h
 | x::r,D,h=>h.2.last
theorem Aq.at:∀ {l:List zh} {D:DataW Nat} (j:Nat),Aq P D l->P (J0 D l j)
 | [],D,j,h=>by
  have e:J0 D [] j=D:=by simp[J0]
  rw[e];exact h
 | x::r,D,0,h=>by simpa [J0] using h.1
 | x::r,D,j+1,h=>by simpa [J0] using h.2.at j
theorem Aq.mono{R:DataW Nat->Prop}(hP:∀ D,P D->R D):∀ {l:List zh} {D:DataW Nat},Aq P D l->Aq R D l
 | [],D,h=>hP D h
 | x::r,D,h=>⟨hP D h.1,h.2.mono hP⟩
structure zo(b:List UInt8)(a:j2):Prop where
 bytes:a.bytes=b
 safe:a.safe=b.length
 late:a.late=[]
theorem ab{a:j2}(f:a.safe=a.bytes.length)(d:a.late=[])(c:List Int):a.settled c=a:=by obtain⟨b,s,l⟩:=a;grind [j2.settled,sel,Qf]
theorem zo.synced{a:j2}(h:zo b a):zo b a.synced:=⟨h.bytes,by simp[j2.synced,h.bytes],rfl⟩
theorem zo.settled{a:j2}(h:zo b a)(c:List Int):zo b (a.settled c):=by rw[ab (by rw[h.safe,h.bytes]) h.late];exact h
structure Want where
 Qn:Rf.St->Prop
 now:Rf.St->Prop
 le:∀ s,now s->Qn s
 Xl:Rf.St->Prop
structure Want.Le(Q R:Want):Prop where
 Qn:∀ s,Q.Qn s->R.Qn s
 now:∀ s,Q.now s->R.now s
 Xl:∀ s,Q.Xl s->R.Xl s
theorem Want.Le.refl(Q:Want):Q.Le Q:=⟨λ_ q=>q,λ_ q=>q,λ_ q=>q⟩
def Want.down(Q:Want):Want:=⟨Q.Qn,Q.Qn,λ_ q=>q,Q.Xl⟩
theorem Want.jna(Q:Want):Q.Le Q.down:=⟨λ_ q=>q,Q.le,λ_ q=>q⟩
def Want.whole(Q:Want):Want:=⟨Q.Qn,Q.now,Q.le,λ_=>False⟩
theorem Want.Uh(Q:Want):Q.whole.Le Q:=⟨λ_ q=>q,λ_ q=>q,λ_ q=>q.elim⟩
def Lg(m:Rf.Man)(bls:List L1)(P t:Rf.St->Prop)(b:By):Prop:=∃ bs g,b=Rf.ji m.last bs++g/\Rf.Over m.last bs g/\(⟨m,bs,bls⟩:Rf.St).Ok/\P ⟨m,bs,bls⟩/\(g≠[]->t ⟨m,bs,bls⟩)
theorem Lg.mono{P R t u:Rf.St->Prop}(h:Lg m bls P t b)(d:∀ s,P s->R s)(c:∀ s,t s->u s):Lg m bls R u b:=by obtain⟨bs,g,l,k,j,i,f⟩:=h;exact⟨bs,g,l,k,j,d _ i,λe=>c _<|f e⟩
def Jr(m:Rf.Man)(bls:List L1)(Q:Want)(a:j2):Prop:=(∀ ch,Lg m bls Q.Qn Q.Xl (a.settled ch).bytes)/\Lg m bls Q.now Q.Xl a.bytes
theorem Jr.mono{Q R:Want}{a:j2}(h:Jr m bls Q a)(b:Q.Le R):Jr m bls R a:=⟨λd=>(h.1 d).mono b.Qn b.Xl,h.2.mono b.now b.Xl⟩
theorem Jr.synced{Q:Want}{a:j2}(h:Jr m bls Q a):Jr m bls Q a.synced:=⟨λd=>by rw[ab rfl rfl];exact h.2.mono Q.le λ_ q=>q,h.2⟩
theorem Jr.settled{Q:Want}{a:j2}(h:Jr m bls Q.down a)(b:List Int):Jr m bls Q.down (a.settled b):=⟨λc=>by rw[ab rfl rfl];exact h.1 b,h.1 b⟩
theorem Jr.sure{Q:Want}{a:j2}(h:zo (Rf.ji m.last bs) a)(c:(⟨m,bs,bls⟩:Rf.St).Ok)(d:Q.now ⟨m,bs,bls⟩):Jr m bls Q a:=by have b:Lg m bls Q.now Q.Xl a.bytes:=⟨bs,[],by rw[h.bytes,ZE],Rf.Qi _ _,c,d,λe=>absurd rfl e⟩;exact⟨λi=>by rw[ab (by rw[h.safe,h.bytes]) h.late];exact b.mono Q.le λ_ q=>q,b⟩
abbrev yg:=Nat->Option j2
def yg.put(fs:yg)(f:Nat)(a:j2):yg:=λi=>if i=f then some a else fs i
theorem yg.yy(fs:yg)(f:Nat)(a:j2):fs.put f a f=some a:=if_pos rfl
theorem yg.zr(fs:yg){g:Nat}(a:j2)(h:g≠f):fs.put f a g=fs g:=if_neg h
def Sat(T:List Tok)(fs:yg)(n:Str)(P:j2->Prop):Prop:=∃ f a,(n,f)∈T/\fs f=some a/\P a
theorem Sat.mono{fs:yg}{P R:j2->Prop}(h:Sat T fs n P)(b:∀ a,P a->R a):Sat T fs n R:=by obtain⟨f,a,g,d,c⟩:=h;exact⟨f,a,g,d,b a c⟩
theorem Sat.js{fs:yg}{x:Str}{P:j2->Prop}(h:Sat T fs n P)(b:n≠x):Sat (js T x) fs n P:=by obtain⟨f,a,g,d,c⟩:=h;exact⟨f,a,qh.2 ⟨g,b⟩,d,c⟩
theorem Sat.cons{fs:yg}{P:j2->Prop}(h:Sat T fs n P)(t:Tok):Sat (t::T) fs n P:=by obtain⟨f,a,d,c,b⟩:=h;exact⟨f,a,xP _ d,c,b⟩
theorem Sat.fresh{fs:yg}{P:j2->Prop}(h:Sat T fs n P)(d:fs f=none)(a:j2):Sat T (fs.put f a) n P:=by obtain⟨g,b,j,c,i⟩:=h;exact⟨g,b,j,(fs.zr a λe=>by rw[e,d] at c;cases c).trans c,i⟩
theorem Sat.write{fs:yg}{P:j2->Prop}{a a':j2}(h:Sat T fs n P)(j:fs f=some a)(k:P a->P a'):Sat T (fs.put f a') n P:=by obtain⟨g,b,i,c,d⟩:=h;by_cases e:g=f;subst e;rw[j] at c;cases c;exact⟨g,a',i,fs.yy _ _,k d⟩;exact⟨g,b,i,(fs.zr a' e).trans c,d⟩
def Y7(fs:yg)(T:List Tok):Nat:=(T.map (λp=>(y9 fs p.2).length+1)).sum
structure Names(D:DataW Nat)(fs:yg)(U:Nat)(T:List Tok):Prop where
 Z9:di D T
 files:∀ p∈T,∃ a,fs p.2=some a
 apart:T.Pairwise (λp q=>p.2≠q.2)
 size:Y7 fs T<=U
 short:∀ p∈T,p.1.length<=60/\p.1≠[]
structure Al(T:List Tok)(fs:yg)(m:Rf.Man)(bls:List (List Rf.Ch))(Q:Want):Prop where
 man:Sat T fs jk (zo m.bytes)
 runs:∀ p∈j7 m.settled bls,Sat T fs p.1 (zo p.2)
 log:Sat T fs (jj m.log) (Jr m bls Q)
def Qx(fs:yg)(U:Nat)(m:Rf.Man)(bls:List L1)(Q:Want)(D:DataW Nat):Prop:=∃ T,Names D fs U T/\Al T fs m bls Q
def Sx(fs:yg)(U:Nat)(Q:Want)(D:DataW Nat):Prop:=∃ m bls,Qx fs U m bls Q D
def Idle(m:Rf.Man)(n:Str):Prop:=n≠jk/\n∉jz m
theorem Idle.run(h:Idle m n){p:Str×By}(c:p∈j7 m.settled bls):p.1≠n:=by obtain⟨q,b,rfl⟩:=Qj.1 c;exactλe=>h.2 (by rw[<-e];exact XQ _<|xR.2 ⟨q.1,(List.of_mem_zip b).1,rfl⟩)
theorem Idle.log(h:Idle m n):jj m.log≠n:=λe=>h.2 (by rw[<-e];exact XR _<|xV.2 rfl)
theorem Al.mono{fs:yg}{Q R:Want}(h:Al T fs m bls Q)(b:Q.Le R):Al T fs m bls R:=⟨h.man,h.runs,h.log.mono λa d=>d.mono b⟩
theorem Al.fresh{fs:yg}{Q:Want}(h:Al T fs m bls Q)(b:fs f=none)(a:j2):Al T (fs.put f a) m bls Q:=⟨h.man.fresh b a,λp d=>(h.runs p d).fresh b a,h.log.fresh b a⟩
theorem Al.idle{fs:yg}{Q:Want}(h:Al T fs m bls Q)(b:Idle m n):Al (js T n) fs m bls Q:=⟨h.man.js<|Ne.symm b.1,λp d=>(h.runs p d).js<|b.run d,h.log.js b.log⟩
theorem Al.cons{fs:yg}{Q:Want}(h:Al T fs m bls Q)(t:Tok):Al (t::T) fs m bls Q:=⟨h.man.cons t,λp d=>(h.runs p d).cons t,h.log.cons t⟩
structure ue(Q:Want)(a a':j2):Prop where
 sure:∀ b,zo b a->zo b a'
 log:∀ m bls,Jr m bls Q a->Jr m bls Q a'
theorem ue.synced(Q:Want)(a:j2):ue Q a a.synced:=⟨λb h=>h.synced,λm bls h=>h.synced⟩
theorem ue.settled(Q:Want)(a:j2)(c:List Int):ue Q.down a (a.settled c):=⟨λb h=>h.settled c,λm bls h=>h.settled c⟩
theorem Al.write{fs:yg}{Q:Want}{a a':j2}(h:Al T fs m bls Q)(b:fs f=some a)(g:ue Q a a'):Al T (fs.put f a') m bls Q:=⟨h.man.write b<|g.sure _,λp d=>(h.runs p d).write b<|g.sure _,h.log.write b<|g.log _ _⟩
theorem Yn(fs:yg)(p:Tok)(T:List Tok):Y7 fs (p::T)=(y9 fs p.2).length+1+Y7 fs T:=by simp[Y7]
theorem dx(fs:yg)(T:List Tok)(n:Str):Y7 fs (js T n)<=Y7 fs T:=by induction T with|nil=>exact ZG _|cons x r ih=>grind [js,Yn]
theorem Nd{fs b:yg}(h:∀ p∈T,b p.2=fs p.2):Y7 b T=Y7 fs T:=by grind [Y7,XE,y9]
theorem R8{fs:yg}{a a':j2}(d:fs f=some a)(g:a'.bytes.length<=a.bytes.length+c):∀ {T:List Tok},T.Pairwise (λp q=>p.2≠q.2)->Y7 (fs.put f a') T<=Y7 fs T+c
 | [],_=>Nat.le_add_right _ _
 | x::r,h=>by
  have hp:=XC.1 h
  rw[Yn,Yn]
  by_cases e:x.2=f
  .have i:Y7 (fs.put f a') r=Y7 fs r:=Nd (λp i=>fs.zr a' (λj=>hp.1 p i (e.trans j.symm)))
   have b:y9 (fs.put f a') x.2=a'.bytes:=by unfold y9;rw[e,fs.yy];rfl
   grind [y9]
  .have ih:=R8 d g hp.2
   have b:y9 (fs.put f a') x.2=y9 fs x.2:=by unfold y9;rw[fs.zr a' e]
   rw[b]
   omega
theorem Names.mono{fs:yg}(h:Names D fs U T)(b:U<=U'):Names D fs U' T:=⟨h.Z9,h.files,h.apart,zW h.size b,h.short⟩
theorem Names.fresh{fs:yg}(h:Names D fs U T)(g:fs f=none)(a:j2):Names D (fs.put f a) U T:=by
 have c:∀ p∈T,p.2≠f:=λp i e=>by obtain⟨b,d⟩:=h.files p i;rw[e,g] at d;cases d
 refine⟨h.Z9,λp i=>?_,h.apart,?_,h.short⟩;rw[fs.zr a (c p i)];exact h.files p i;rw[Nd (λp i=>fs.zr a<|c p i)];exact h.size
theorem Names.write{fs:yg}{a a':j2}(h:Names D fs U T)(b:fs f=some a)(d:a'.bytes.length<=a.bytes.length+c):Names D (fs.put f a') (U+c) T:=by refine⟨h.Z9,λp i=>?_,h.apart,zW (R8 b d h.apart)<|Nat.add_le_add_right h.size _,h.short⟩;by_cases e:p.2=f;exact⟨a',by rw[e];exact fs.yy _ _⟩;rw[fs.zr a' e];exact h.files p i
theorem Names.dt{fs:yg}(h:Names D fs U T)(n:Str):Names (doA D ⟨[],n,[],none⟩) fs U (js T n):=⟨h.Z9.del n,λp d=>h.files p (qh.1 d).1,h.apart.sublist xQ,zW (dx _ _ _) h.size,λp d=>h.short p (qh.1 d).1⟩
theorem Names.made{fs:yg}(h:Names D fs U T)(g:fs f=none)(a:j2)(k:n≠[])(l:n.length<=60):Names (doA D ⟨n,[],[],some f⟩) (fs.put f a) (U+1+a.bytes.length) ((n,f)::js T n):=by
 have d:∀ p∈T,p.2≠f:=λp c e=>by obtain⟨b,i⟩:=h.files p c;rw[e,g] at i;cases i
 have j:=h.fresh g a;have m:doA D ⟨n,[],[],some f⟩=D.put (.string n) (.held f):=by grind [doA,o7]
 refine⟨by rw[m];exact h.Z9.put n f,λp c=>?_,XC.2 ⟨λp c=>Ne.symm<|d p (qh.1 c).1,h.apart.sublist xQ⟩,?_,λp c=>?_⟩;obtain rfl|c:=xN.1 c;exact⟨a,fs.yy _ _⟩;exact j.files p (qh.1 c).1
 .rw[Yn];(have e:y9 (fs.put f a) f=a.bytes:=by unfold y9;rw[fs.yy];rfl);have:=dx (fs.put f a) T n;have:=j.size;grind
 obtain rfl|c:=xN.1 c;exact⟨l,k⟩;exact h.short p (qh.1 c).1
theorem Names.renamed{fs:yg}{a:j2}(h:Names D fs U T){ds:Str}(j:(sr,f)∈T)(g:ds≠[])(c:ds≠sr)(k:ds.length<=60):Names (doA D ⟨[],sr,ds,some f⟩) fs (U+1+(y9 fs f).length) ((ds,f)::js (js T ds) sr):=by
 have l:doA D ⟨[],sr,ds,some f⟩=(D.put (.string ds)<|.held f).del (.string sr):=by grind [doA,o7]
 have n:js ((ds,f)::js T ds) sr=(ds,f)::js (js T ds) sr:=by show List.filter _ (_::_)=_;rw[List.filter_cons,if_pos (by simpa using c)];rfl
 have d:∀ p∈js (js T ds) sr,p.2≠f:=λp b e=>by have m:=(qh.1 (qh.1 b).1).1;have i:=(qh.1 b).2;(have:p=(sr,f):=by have o:=h.apart;grind [XS,ZT]);exact i (by rw[this])
 refine⟨by rw[l,<-n];exact(h.Z9.put ds f).del sr,λp b=>?_,XC.2 ⟨λp b=>Ne.symm<|d p b,(h.apart.sublist xQ).sublist xQ⟩,?_,λp b=>?_⟩;obtain rfl|b:=xN.1 b;exact h.files (sr,f) j;exact h.files p (qh.1 (qh.1 b).1).1
 .rw[Yn];have m:=dx fs (js T ds) sr;have i:=dx fs T ds;have q:=h.size;grind
 obtain rfl|b:=xN.1 b;exact⟨k,g⟩;exact h.short p (qh.1 (qh.1 b).1).1
theorem Qx.mono{fs:yg}{Q R:Want}(h:Qx fs U m bls Q D)(b:U<=U')(c:Q.Le R):Qx fs U' m bls R D:=by obtain⟨T,f,d⟩:=h;exact⟨T,f.mono b,d.mono c⟩
theorem Qx.fresh{fs:yg}{Q:Want}(h:Qx fs U m bls Q D)(b:fs f=none)(a:j2):Qx (fs.put f a) U m bls Q D:=by obtain⟨T,d,c⟩:=h;exact⟨T,d.fresh b a,c.fresh b a⟩
theorem Qx.write{fs:yg}{Q:Want}{a a':j2}(h:Qx fs U m bls Q D)(b:fs f=some a)(g:ue Q a a')(d:a'.bytes.length<=a.bytes.length+c):Qx (fs.put f a') (U+c) m bls Q D:=by obtain⟨T,j,i⟩:=h;exact⟨T,j.write b d,i.write b g⟩
theorem Qx.dt{fs:yg}{Q:Want}(h:Qx fs U m bls Q D)(b:Idle m n):Qx fs U m bls Q (doA D ⟨[],n,[],none⟩):=by obtain⟨T,d,c⟩:=h;exact⟨_,d.dt n,c.idle b⟩
theorem Qx.made{fs:yg}{Q:Want}(h:Qx fs U m bls Q D)(b:fs f=none)(a:j2)(c:Idle m n)(j:n≠[])(d:n.length<=60):Qx (fs.put f a) (U+1+a.bytes.length) m bls Q (doA D ⟨n,[],[],some f⟩):=by obtain⟨T,i,g⟩:=h;exact⟨_,i.made b a j d,((g.fresh b a).idle c).cons _⟩
theorem Qx.jg7{fs:yg}{c:Rf.Man}{b:List L1}{Q:Want}(h:Qx fs U m bls Q D)(t:Names D fs U T)(d:Idle c sr){a:j2}(r:(sr,f)∈T)(j:fs f=some a)(k:zo c.bytes a)(l:∀ p∈j7 c.settled b,Sat T fs p.1 (zo p.2))(s:Sat T fs (jj c.log) (Jr c b Q))(g:jk∉jz c):Qx fs (U+1+c.bytes.length) c b Q (doA D ⟨[],sr,jk,some f⟩):=by
 have e:y9 fs f=c.bytes:=by unfold y9;rw[j];exact k.bytes
 have i:∀ {n:Str} {P:j2->Prop},Sat T fs n P->n∈jz c->Sat ((jk,f)::js (js T jk) sr) fs n P:=λ{n} {P} q o=>((q.js (show n≠jk fromλe=>g<|by rw[<-e];exact o)).js (show n≠sr fromλe=>d.2<|by rw[<-e];exact o)).cons _
 refine⟨_,by rw[<-e];exact t.renamed (a:=a) r zE (Ne.symm d.1) zE,⟨⟨f,a,xO,j,k⟩,λp u=>i (l p u) ?_,i s (XR _<|xV.2 rfl)⟩⟩;obtain⟨q,o,rfl⟩:=Qj.1 u;exact XQ _<|xR.2 ⟨q.1,(List.of_mem_zip o).1,rfl⟩
end
section
structure Pow(S:jd)(U:Nat)(m:Rf.Man)(bls:List (List Rf.Ch))(Q:Want):Prop where
 tied:S.names=S.late.foldl doA S.safe
 wf:∀ f a,S.files f=some a->a.Wf
 small:∀ f a,S.files f=some a->a.bytes.length<=60000
 all:Aq (Sx S.files U Q) S.safe S.late
 cur:Qx S.files U m bls Q S.names
def At(S:jd)(n:Str)(P:j2->Prop):Prop:=∃ f a,S.at n=some f/\S.files f=some a/\P a
theorem Names.fs{S:jd}{U:Nat}{T:List Tok}(h:Names S.names S.files U T):Fs S T:=⟨h.Z9,h.files,h.apart⟩
theorem At.sat{S:jd}{n:Str}{P:j2->Prop}{U:Nat}{T:List Tok}(h:Names S.names S.files U T):At S n P↔Sat T S.files n P:=by constructor;rintro⟨f,a,d,c,b⟩;exact⟨f,a,h.fs.at.1 d,c,b⟩;rintro⟨f,a,d,c,b⟩;exact⟨f,a,h.fs.at.2 d,c,b⟩
theorem At.mono{S:jd}{n:Str}{P R:j2->Prop}(h:At S n P)(b:∀ a,P a->R a):At S n R:=by obtain⟨f,a,g,d,c⟩:=h;exact⟨f,a,g,d,b a c⟩
theorem At.Jc{S S':jd}{n:Str}{P:j2->Prop}(h:At S n P)(i:S'.names=S.names)(d:S'.files=S.files):At S' n P:=by obtain⟨f,a,g,c,b⟩:=h;exact⟨f,a,by grind [jd.at],by rw[d];exact c,b⟩
variable {S S':jd} {U:Nat} {m:Rf.Man} {bls:List (List Rf.Ch)} {Q:Want}
theorem Pow.Jc(h:Pow S U m bls Q)(f:S'.names=S.names)(b:S'.files=S.files)(d:S'.safe=S.safe)(c:S'.late=S.late):Pow S' U m bls Q:=⟨by rw[f,d,c];exact h.tied,by rw[b];exact h.wf,by rw[b];exact h.small,by rw[b,d,c];exact h.all,by rw[f,b];exact h.cur⟩
theorem Pow.called(h:Pow S U m bls Q)(c:Bool):Pow (S.called c) U m bls Q:=h.Jc rfl rfl rfl rfl
theorem Pow.mono{R:Want}{V:Nat}(h:Pow S U m bls Q)(b:U<=V)(c:Q.Le R):Pow S V m bls R:=⟨h.tied,h.wf,h.small,h.all.mono λD ⟨f,d,k⟩=>⟨f,d,k.mono b c⟩,h.cur.mono b c⟩
theorem Pow.grow{V:Nat}(h:Pow S U m bls Q)(b:U<=V):Pow S V m bls Q:=h.mono b<|Want.Le.refl _
theorem Pow.held(h:Pow S U m bls Q):At S jk (zo m.bytes)/\(∀ p∈j7 m.settled bls,At S p.1 (zo p.2))/\At S (jj m.log) (Jr m bls Q):=by obtain⟨T,c,b⟩:=h.cur;exact⟨(At.sat c).2 b.man,λp d=>(At.sat c).2<|b.runs p d,(At.sat c).2 b.log⟩
theorem Pow.total(h:Pow S U m bls Q):total S.files S.names<=U:=by obtain⟨T,b,c⟩:=h.cur;rw[b.Z9.total];refine zW ?_ b.size;unfold Y7 y9;clear b c;induction T with|nil=>exact ZG _|cons x r ih=>simp only[XA,List.sum_cons];(have:(S.files x.2).elim 0 (λa=>a.bytes.length)<=((S.files x.2).elim [] j2.bytes).length+1:=by cases S.files x.2<;>simp);omega
theorem Pow.written(h:Pow S U m bls Q){f c:Nat}{a a':j2}(j:S.files f=some a)(g:ue Q a a')(n:a'.Wf)(l:a'.bytes.length<=a.bytes.length+c)(o:a'.bytes.length<=60000):Pow (S.withFile f a') (U+c) m bls Q:=by refine⟨h.tied,λi b p=>?_,λi b p=>?_,h.all.mono λD ⟨q,d,k⟩=>⟨q,d,k.write j g l⟩,h.cur.write j g l⟩;all_goals have d:yg.put S.files f a' i=some b:=p;by_cases e:i=f;grind [yg.yy];rw[yg.zr _ _ e] at d;first|exact h.wf i b d|exact h.small i b d
theorem Rb(a:j2):a.synced.Wf:=⟨ZG _,rfl⟩
theorem Zw(S:jd)(n:Str):(S.qo n=(S.called true,false)/\(S.bad=true\/S.at n=none\/∃ f,S.at n=some f/\S.files f=none))\/∃ f a,S.bad=false/\S.at n=some f/\S.files f=some a/\S.qo n=((S.called true).withFile f a.synced,true):=by grind [jd.qo]
theorem Pow.sync(h:Pow S U m bls Q)(n:Str):Pow (S.qo n).1 U m bls Q:=by obtain⟨e,_⟩|⟨f,a,_,_,b,e⟩:=Zw S n;rw[e];exact h.called true;rw[e];exact(h.called true).written (c:=0) b (ue.synced Q a) (Rb a) (ZG _)<|h.small f a b
theorem At.withFile{n:Str}{P:j2->Prop}(h:At S n P){f:Nat}{a a':j2}(j:S.files f=some a)(k:P a->P a'):At (S.withFile f a') n P:=by obtain⟨g,b,i,c,d⟩:=h;by_cases e:g=f;subst e;rw[j] at c;cases c;exact⟨g,a',i,yg.yy _ _ _,k d⟩;exact⟨g,b,i,(yg.zr _ a' e).trans c,d⟩
theorem At.sync{n:Str}{P:j2->Prop}(h:At S n P)(x:Str)(c:∀ a,P a->P a.synced):At (S.qo x).1 n P:=by obtain⟨e,_⟩|⟨f,a,_,_,b,e⟩:=Zw S x;rw[e];exact h.Jc rfl rfl;rw[e];exact At.withFile (S:=S.called true) (h.Jc rfl rfl) b<|c a
theorem As(n:Str)(c:(S.qo n).2=true){P:j2->Prop}(h:At S n P):At (S.qo n).1 n (λa'=>∃ a,P a/\a'=a.synced):=by obtain⟨e,_⟩|⟨f,a,_,d,k,e⟩:=Zw S n;rw[e] at c;cases c;obtain⟨g,b,j,i,l⟩:=h;rw[d] at j;cases j;rw[k] at i;cases i;rw[e];exact⟨f,a.synced,d,yg.yy _ _ _,a,l,rfl⟩
theorem Rc(w:qi S){n:Str}{P:j2->Prop}(h:At S n P):(S.qo n).2=true/\qi (S.qo n).1:=by obtain⟨f,a,b,l,_⟩:=h;obtain⟨e,k⟩|⟨m,a',_,j,i,e⟩:=Zw S n;obtain k|k|⟨g,d,c⟩:=k;rw[w.bad] at k;cases k;rw[b] at k;cases k;simp_all;rw[e];exact⟨rfl,(w.called true).Jc rfl rfl⟩
theorem Zt(S:jd):(S.bad=true/\S.Za=(S.called true,false))\/(S.bad=false/\S.Za=({ S.called true with safe:=S.late.foldl doA S.safe,late:=[] },true)):=by grind [jd.Za,jd.called]
theorem Pow.dir(h:Pow S U m bls Q):Pow S.Za.1 U m bls Q:=by obtain⟨_,e⟩|⟨_,e⟩:=Zt S;rw[e];exact h.called true;rw[e];exact⟨h.tied,h.wf,h.small,by rw[<-h.tied];exact⟨m,bls,h.cur⟩,h.cur⟩
theorem Nz(b:S.Za.2=true):S.Za.1.late=[]:=by obtain⟨_,e⟩|⟨_,e⟩:=Zt S;rw[e] at b;cases b;rw[e]
theorem At.dir{n:Str}{P:j2->Prop}(h:At S n P):At S.Za.1 n P:=by obtain⟨_,e⟩|⟨_,e⟩:=Zt S<;>rw[e]<;>exact h.Jc rfl rfl
theorem Ei(w:qi S):S.Za.2=true/\qi S.Za.1:=by obtain⟨k,e⟩|⟨_,e⟩:=Zt S;rw[w.bad] at k;cases k;rw[e];exact⟨rfl,(w.called true).Jc rfl rfl⟩
theorem Pow.sure(h:Pow S U m bls Q)(ns:List Str):Pow (jd.x8 ns S).1 U m bls Q:=by induction ns generalizing S with|nil=>exact h.dir|cons n r ih=>unfold jd.x8;split;exact ih<|h.sync n;exact h.sync n
theorem Rg(ns:List Str)(b:(jd.x8 ns S).2=true):(jd.x8 ns S).1.late=[]:=by induction ns generalizing S with|nil=>exact Nz b|cons n r ih=>grind [jd.x8]
theorem At.sure{n:Str}{P:j2->Prop}(h:At S n P)(ns:List Str)(b:∀ a,P a->P a.synced):At (jd.x8 ns S).1 n P:=by induction ns generalizing S with|nil=>exact h.dir|cons x r ih=>unfold jd.x8;split;exact ih<|h.sync x b;exact h.sync x b
theorem Au{n:Str}{P:j2->Prop}(h:At S n P)(ns:List Str)(f:n∈ns)(c:(jd.x8 ns S).2=true)(d:∀ a,P a->P a.synced):At (jd.x8 ns S).1 n (λa=>P a/\zo a.bytes a):=by induction ns generalizing S with|nil=>cases f|cons x r ih=>unfold jd.x8 at c ⊢;split;rename_i h1;rw[if_pos h1] at c;by_cases e:n=x;subst e;(refine At.sure ((As n h1 h).mono ?_) r λa q=>⟨d a q.1,q.2.synced⟩);rintro a ⟨b,g,rfl⟩;exact⟨d b g,⟨rfl,rfl,rfl⟩⟩;exact ih (h.sync x d) ((xN.1 f).resolve_left e) c;simp_all
theorem Rf(w:qi S)(ns:List Str)(h:∀ n∈ns,At S n (λ_=>True)):(jd.x8 ns S).2=true/\qi (jd.x8 ns S).1:=by induction ns generalizing S with|nil=>exact Ei w|cons x r ih=>obtain⟨c,b⟩:=Rc w<|h x xO;unfold jd.x8;rw[if_pos c];exact ih b λn b=>(h n<|xP _ b).sync x λ_ t=>t
theorem Pow.made(h:Pow S U m bls Q){f:Nat}{a:j2}{n:Str}(g:S.files f=none)(s:a.Wf)(t:a.bytes.length<=60000)(p:Idle m n)(r:n≠[])(q:n.length<=60)(d:S'.names=doA S.names ⟨n,[],[],some f⟩)(o:S'.late=S.late++[⟨n,[],[],some f⟩])(l:S'.safe=S.safe)(c:S'.files=yg.put S.files f a):Pow S' (U+1+a.bytes.length) m bls Q:=by
 have j:Qx S'.files (U+1+a.bytes.length) m bls Q S'.names:=by rw[d,c];exact h.cur.made g a p r q
 refine⟨by rw[d,o,l,List.foldl_append,<-h.tied];rfl,λi b k=>?_,λi b k=>?_,?_,j⟩;rw[c] at k;by_cases e:i=f;grind [yg.yy];rw[yg.zr _ _ e] at k;exact h.wf i b k;rw[c] at k;by_cases e:i=f;grind [yg.yy];rw[yg.zr _ _ e] at k;exact h.small i b k;rw[o,l];refine Aq.snoc (h.all.mono λD ⟨i,b,k⟩=>⟨i,b,?_⟩) ⟨m,bls,by rw[<-h.tied,<-d];exact j⟩;rw[c];exact(k.fresh g a).mono zC<|Want.Le.refl _
theorem Va(h:Pow S U m bls Q){f:Nat}{a:j2}{n:Str}(b:S.files f=none)(l:Idle m n)(j:n≠[])(i:n.length<=60)(k:S'.names=doA S.names ⟨n,[],[],some f⟩)(g:S'.files=yg.put S.files f a):S'.at n=some f/\∀ x P,x≠n->At S x P->At S' x P:=by
 obtain⟨T,d,o⟩:=h.cur;have c:Names S'.names S'.files (U+1+a.bytes.length) ((n,f)::js T n):=by rw[k,g];exact d.made b a j i
 refine⟨c.fs.at.2 xO,λx P p o=>(At.sat c).2 ?_⟩;rw[g];exact((((At.sat d).1 o).fresh b a).js p).cons _
theorem sn:qg.Wf:=⟨ZG _,rfl⟩
theorem G4(x:By):(qg.put x).Wf/\(qg.put x).bytes=x:=by unfold j2.put qg;split;rename_i e;subst e;exact⟨⟨ZG _,rfl⟩,rfl⟩;rename_i e;have:0<x.length:=XH.2 e;exact⟨⟨zT _,⟨rfl,this,by simp[Ap]⟩⟩,rfl⟩
theorem je9(fs:yg)(f:Nat)(a b:j2):(fs.put f a).put f b=fs.put f b:=by grind [yg.yy,yg.zr]
theorem Pow.lay(h:Pow S U m bls Q){n:Str}{b:By}{C:Bool}(p:Idle m n)(u:n≠[])(s:n.length<=60)(h6:b.length<=60000)(r:Yf n b S S' C):Pow S' (U+1+b.length) m bls Q/\(C=true->At S' n (λa=>a.bytes=b/\(b=[]->zo [] a)))/\(∀ x P,x≠n->At S x P->At S' x P)/\(qi S->U+1+b.length<=20000->C=true/\qi S'):=by
 have l:∀ {i j},P6 n S i j->(i=S.called true/\j=false/\S.bad=true)\/(j=true/\∃ f,S.files f=none/\i=((S.called true).withFile f qg).named ⟨n,[],[],some f⟩):=by rintro i j (⟨M,a2,a3⟩|⟨M,a2,f,a3,a4⟩);exact .inl ⟨a2,a3,M⟩;grind
 have a0:∀ {i:jd},i=S.called true->S.bad=true->Pow i (U+1+b.length) m bls Q/\(∀ x P,x≠n->At S x P->At i x P)/\¬qi S:=λe k=>by subst e;exact⟨(h.called true).grow zC,λx P _ q=>q.Jc rfl rfl,λw=>by rw[w.bad] at k;cases k⟩
 unfold Yf at r;split at r;rename_i hb;subst hb;obtain⟨e,rfl,k⟩|⟨rfl,f,o,rfl⟩:=l r;simp_all;obtain⟨X,W⟩:=Va (S':=((S.called true).withFile f qg).named ⟨n,[],[],some f⟩) (a:=qg) h o p u s rfl rfl;exact⟨h.made o sn (zT _) p u s rfl rfl rfl rfl,λ_=>⟨f,qg,X,yg.yy _ _ _,rfl,λ_=>⟨rfl,rfl,rfl⟩⟩,W,λw _=>⟨rfl,(w.called true).Jc rfl rfl⟩⟩;rename_i hb;obtain⟨J,rfl⟩|⟨i,J,O⟩:=r;grind;obtain⟨_,e,_⟩|⟨_,f,o,rfl⟩:=l J;cases e;have g:=Va (S':=((S.called true).withFile f qg).named ⟨n,[],[],some f⟩) (a:=qg) h o p u s rfl rfl;have I:Pow (((S.called true).withFile f qg).named ⟨n,[],[],some f⟩) (U+1+0) m bls Q:=h.made o sn (zT _) p u s rfl rfl rfl rfl;have H:∀(x:By) (v:jd),x.length<=b.length->v=((((S.called true).withFile f qg).named ⟨n,[],[],some f⟩).called true).withFile f (qg.put x)->Pow v (U+1+b.length) m bls Q/\At v n (λa=>a.bytes=x)/\(∀ y P,y≠n->At S y P->At v y P):=by rintro x v hx rfl;have G:(((((S.called true).withFile f qg).named ⟨n,[],[],some f⟩).called true).withFile f<|qg.put x).files=yg.put S.files f (qg.put x):=je9 S.files f qg<|qg.put x;obtain⟨V,T⟩:=Va (S':=((((S.called true).withFile f qg).named ⟨n,[],[],some f⟩).called true).withFile f<|qg.put x) (a:=qg.put x) h o p u s rfl G;obtain⟨R,D⟩:=G4 x;refine⟨(Pow.made (S':=((((S.called true).withFile f qg).named ⟨n,[],[],some f⟩).called true).withFile f<|qg.put x) (a:=qg.put x) h o R (by rw[D];omega) p u s rfl rfl rfl G).grow<|by rw[D];omega,⟨f,qg.put x,V,by rw[G];exact yg.yy _ _ _,D⟩,T⟩
 obtain⟨⟨Y,a',z,F,E⟩,rfl⟩|⟨v,⟨Y,a',z,F,E⟩,Z,rfl⟩:=O;rw[g.1] at z;cases z;have d:yg.put S.files f qg f=some a':=F;rw[yg.yy] at d;cases d;obtain⟨c,e,_⟩|⟨_,_,_,e⟩:=E;obtain⟨B,L,A⟩:=H (b.take (b.length/2)) S' (by rw[ZQ];omega) e;refine⟨B,λt=>(by cases t),A,λw hU=>?_⟩;exfalso;obtain c|c:=c;have N:qi (((S.called true).withFile f qg).named ⟨n,[],[],some f⟩):=(w.called true).Jc rfl rfl;rw[N.bad] at c;cases c;have:=I.total;omega;cases e;rw[g.1] at z;cases z;have d:yg.put S.files f qg f=some a':=F;rw[yg.yy] at d;cases d;obtain⟨_,_,e⟩|⟨_,_,e,_⟩:=E;cases e;subst Z;obtain⟨B,L,A⟩:=H b S' (ZG _) e;refine⟨B,λ_=>L.mono λa q=>⟨q,λe0=>(hb e0).elim⟩,A,λw _=>⟨rfl,?_⟩⟩;rw[e];exact(((w.called true).Jc rfl rfl:qi (((S.called true).withFile f qg).named ⟨n,[],[],some f⟩)).called true).Jc rfl rfl
theorem Pow.named(h:Pow S U m bls Q){V:Nat}{d:Rf.Man}{b:List L1}{c:zh}(j:U<=V)(f:Qx S.files V d b Q (doA S.names c)):Pow ((S.called true).named c) V d b Q:=by
 have g:(S.late++[c]).foldl doA S.safe=doA S.names c:=by rw[List.foldl_append,<-h.tied];rfl
 have i:Aq (Sx S.files V Q) S.safe (S.late++[c]):=Aq.snoc (h.all.mono (λD ⟨n,l,k⟩=>⟨n,l,k.mono j (Want.Le.refl _)⟩)) ⟨d,b,by rw[<-h.tied];exact f⟩;exact⟨g.symm,h.wf,h.small,i,f⟩
theorem du(S:jd)(n:Str):(S.xw n=(S.called true,false)/\(S.bad=true\/S.at n=none))\/(S.bad=false/\(∃ f,S.at n=some f)/\S.xw n=((S.called true).named ⟨[],n,[],none⟩,true)):=by grind [jd.xw]
theorem Pow.remove(h:Pow S U m bls Q){n:Str}(b:Idle m n):Pow (S.xw n).1 U m bls Q:=by obtain⟨e,_⟩|⟨_,_,e⟩:=du S n;rw[e];exact h.called true;rw[e];exact h.named (ZG _)<|h.cur.dt b
theorem At.remove(h:Pow S U m bls Q){n x:Str}{P:j2->Prop}(b:At S x P)(d:x≠n):At (S.xw n).1 x P:=by obtain⟨e,_⟩|⟨_,_,e⟩:=du S n;rw[e];exact b.Jc rfl rfl;rw[e];obtain⟨T,c,f⟩:=h.cur;exact(At.sat (S:=(S.called true).named ⟨[],n,[],none⟩)<|c.dt n).2<|((At.sat c).1 b).js d
theorem Wq(w:qi S){n:Str}(h:At S n (λ_=>True)):(S.xw n).2=true/\qi (S.xw n).1:=by obtain⟨f,a,b,_⟩:=h;obtain⟨e,k⟩|⟨_,_,e⟩:=du S n;obtain k|k:=k;rw[w.bad] at k;cases k;rw[b] at k;cases k;rw[e];exact⟨rfl,(w.called true).Jc rfl rfl⟩
theorem Pow.Ze(h:Pow S U m bls Q)(ns:List Str)(b:∀ n∈ns,Idle m n):Pow (jd.yj ns S).1 U m bls Q:=by induction ns generalizing S with|nil=>exact h|cons n r ih=>unfold jd.yj;split;(exact ih (h.remove<|b n xO) λx c=>b x<|xP _ c);exact h.remove<|b n xO
theorem At.Ze(h:Pow S U m bls Q)(ns:List Str)(c:∀ n∈ns,Idle m n){x:Str}{P:j2->Prop}(d:At S x P)(b:x∉ns):At (jd.yj ns S).1 x P:=by induction ns generalizing S with|nil=>exact d|cons n r ih=>have f:=d.remove h (n:=n) (λe=>b zG);unfold jd.yj;split;(exact ih (h.remove<|c n xO) (λy g=>c y<|xP _ g) f λt=>b<|xP _ t);exact f
theorem Tr(h:Pow S U m bls Q)(w:qi S)(ns:List Str)(c:∀ n∈ns,Idle m n)(f:ns.Nodup)(d:∀ n∈ns,At S n (λ_=>True)):(jd.yj ns S).2=true/\qi (jd.yj ns S).1:=by induction ns generalizing S with|nil=>exact⟨rfl,w⟩|cons n r ih=>obtain⟨i,g⟩:=Wq w<|d n xO;have b:=XI.1 f;unfold jd.yj;rw[if_pos i];exact ih (h.remove<|c n xO) g (λy g=>c y<|xP _ g) b.2 λy g=>(d y<|xP _ g).remove h λe=>b.1 (e▸g)
theorem Pow.removeAll(h:Pow S U m bls Q)(ns:List Str)(b:∀ n∈ns,Idle m n):Pow (jd.jt ns S).1 U m bls Q:=by unfold jd.jt x7;split;exact h;split;exact(h.Ze ns b).dir;exact h.Ze ns b
theorem At.removeAll(h:Pow S U m bls Q)(ns:List Str)(d:∀ n∈ns,Idle m n){x:Str}{P:j2->Prop}(b:At S x P)(c:x∉ns):At (jd.jt ns S).1 x P:=by unfold jd.jt x7;split;exact b;split;exact(b.Ze h ns d c).dir;exact b.Ze h ns d c
theorem ij(ns:List Str)(c:S.late=[])(b:(jd.jt ns S).2=true):(jd.jt ns S).1.late=[]:=by grind [jd.jt,x7,Nz]
theorem Lz(h:Pow S U m bls Q)(w:qi S)(ns:List Str)(b:∀ n∈ns,Idle m n)(c:ns.Nodup)(d:∀ n∈ns,At S n (λ_=>True)):(jd.jt ns S).2=true/\qi (jd.jt ns S).1:=by grind [jd.jt,x7,Tr,Ei]
theorem my(S:jd)(sr ds:Str)(b:ds≠[]):(S.qz sr ds=(S.called true,false)/\(S.bad=true\/S.at sr=none))\/∃ f,S.bad=false/\S.at sr=some f/\S.qz sr ds=((S.called true).named ⟨[],sr,ds,some f⟩,true):=by grind [jd.qz]
theorem Pow.rename(h:Pow S U m bls Q){c:Rf.Man}{b:List L1}(j:Idle c ju)(l:jk∉jz c)(v:At S ju (zo c.bytes))(r:∀ p∈j7 c.settled b,At S p.1 (zo p.2))(s:At S (jj c.log) (Jr c b Q)):((S.qz ju jk).2=true->Pow (S.qz ju jk).1 (U+1+c.bytes.length) c b Q)/\((S.qz ju jk).2=false->Pow (S.qz ju jk).1 (U+1+c.bytes.length) m bls Q)/\(∀ x P,x≠ju->x≠jk->At S x P->At (S.qz ju jk).1 x P)/\(qi S->(S.qz ju jk).2=true/\qi (S.qz ju jk).1):=by obtain⟨T,d,y⟩:=h.cur;obtain⟨f,a,i,u,o⟩:=v;obtain⟨e,k⟩|⟨z,_,g,e⟩:=my S ju jk zE;rw[e];refine⟨λt=>(by cases t),λ_=>(h.called true).grow zC,λx P _ _ q=>q.Jc rfl rfl,λw=>?_⟩;obtain k|k:=k;rw[w.bad] at k;cases k;rw[i] at k;cases k;rw[i] at g;cases g;rw[e];have n:=d.fs.at.1 i;refine⟨λ_=>h.named zC (h.cur.jg7 d j n u o (λp g=>(At.sat d).1<|r p g) ((At.sat d).1 s) l),λt=>(by cases t),λx P i g q=>?_,λw=>⟨rfl,(w.called true).Jc rfl rfl⟩⟩;exact(At.sat (S:=(S.called true).named ⟨[],ju,jk,some f⟩) (d.renamed (a:=a) n (ds:=jk) zE zE zE)).2<|((((At.sat d).1 q).js g).js i).cons _
end
section
variable {S S':jd} {U:Nat} {m:Rf.Man} {bls:List (List Rf.Ch)} {Q:Want}
theorem M8(m:Rf.Man):Idle m ju:=⟨zE,λh=>by obtain h|h:=ZM.1 h;grind [Kc];grind [Kd]⟩
theorem jaj(m:Rf.Man):jk∉jz m:=λh=>by obtain h|h:=ZM.1 h;grind [ma];grind [mc]
theorem wu{m:Rf.Man}(h:m.Good){n:Nat}(d:m.next<=n):Idle m (jq n):=⟨Ne.symm<|ma n,λb=>by obtain b|b:=ZM.1 b;obtain⟨k,c,e⟩:=xR.1 b;have:=h.2.2.1 k<|XQ _ c;grind [lr];grind [Yi]⟩
theorem ja2{m:Rf.Man}(h:m.Good){n:Nat}(c:m.next<=n):Idle m (jj n):=⟨Ne.symm<|mc n,λb=>by obtain b|b:=ZM.1 b;grind [Yi];have:=h.2.2.1 m.log<|XR _<|xV.2 rfl;grind [wi]⟩
theorem je7{m:Rf.Man}{bls:List L1}{p:Str×By}(c:p∈j7 m.settled bls):p.1∈jz m:=by obtain⟨q,b,rfl⟩:=Qj.1 c;exact XQ _<|xR.2 ⟨q.1,(List.of_mem_zip b).1,rfl⟩
theorem Km(m:Rf.Man):jj m.log∈jz m:=XR _<|xV.2 rfl
structure Su(S:jd)(m:Rf.Man)(bls bs:List (List Rf.Ch))(Q:Want):Prop where
 runs:∀ p∈j7 m.settled bls,At S p.1 (λa=>a.bytes=p.2)
 log:At S (jj m.log) (λa=>a.bytes=Rf.ji m.last bs)
 ok:(⟨m,bs,bls⟩:Rf.St).Ok
 all:∀ n∈jz m,At S n (λ_=>True)
 jov:Q.now ⟨m,bs,bls⟩
theorem Pow.install(h:Pow S U m bls Q){c:Rf.Man}{f u:List L1}(R:Su S c f u Q)(X:c.bytes.length<=60000){B:Bool}(r:za c S S' B):(B=true->Pow S' (U+2+2*c.bytes.length) c f Q/\S'.late=[]/\At S' (jj c.log) (zo (Rf.ji c.last u)))/\(B=false->Pow S' (U+2+2*c.bytes.length) m bls Q\/Pow S' (U+2+2*c.bytes.length) c f Q)/\(∀ x P,x≠ju->x≠jk->(∀ a,P a->P a.synced)->At S x P->At S' x P)/\(qi S->U+1+c.bytes.length<=20000->B=true/\qi S'):=by
 unfold za at r;have F:=h.sure<|jz c;have s:∀ x P,(∀ a,P a->P a.synced)->At S x P->At (jd.x8 (jz c) S).1 x P:=λx P hP hA=>hA.sure (jz c) hP
 have L:qi S->(jd.x8 (jz c) S).2=true/\qi (jd.x8 (jz c) S).1:=λw=>Rf w _ R.all
 obtain⟨r,rfl⟩|⟨C,r,k⟩:=r;rw[r] at F s L;exact⟨λt=>(by cases t),λ_=>.inl<|F.grow zC,λx P _ _ hP hA=>s x P hP hA,λw=>by have:=(L w).1;cases this⟩;have y:jd.x8 (jz c) S=(C,true):=r;have R1:∀ p∈j7 c.settled f,At C p.1 (zo p.2):=λp hp=>by(have:=Au (R.runs p hp) (jz c) (je7 hp) (by rw[y]) λa e=>e);rw[y] at this;exact this.mono (λa q=>by rw[<-q.1];exact q.2)
 have G1:At C (jj c.log) (zo<|Rf.ji c.last u):=by(have:=Au R.log (jz c) (Km c) (by rw[y]) λa e=>e);rw[y] at this;exact this.mono (λa q=>by rw[<-q.1];exact q.2)
 rw[y] at F s L;have A:=M8 c;have j:∀ {n},n∈jz c->n≠ju/\n≠jk:=λ{n} hn=>⟨λe=>A.2 (e▸hn),λe=>jaj c (e▸hn)⟩
 have T:∀ {g:jd} {ok2:Bool},Yf ju c.bytes C g ok2->_:=λ{g} {ok2} q=>F.lay (M8 m) zE zE X q
 obtain⟨J,rfl⟩|⟨g,J,k⟩:=k;obtain⟨Z,a2,a3,a4⟩:=T J;exact⟨λt=>(by cases t),λ_=>.inl<|Z.grow zC,λx P h1 _ hP hA=>a3 x P h1<|s x P hP hA,λw hU=>zG⟩;obtain⟨P2,G,z,W2⟩:=T J;have G:=G rfl;have R2:∀ p∈j7 c.settled f,At g p.1 (zo p.2):=λp hp=>z _ _ (j<|je7 hp).1<|R1 p hp
 have E:=P2.sync ju;have o:∀ x P,(∀ a,P a->P a.synced)->At g x P->At (g.qo ju).1 x P:=λx P hP hA=>hA.sync ju hP
 have N:qi g->(g.qo ju).2=true/\qi (g.qo ju).1:=λw=>Rc w G
 obtain⟨I,rfl⟩|⟨v,I,k⟩:=k;have i:g.qo ju=(S',false):=I;rw[i] at E o N;exact⟨λt=>(by cases t),λ_=>.inl<|E.grow zC,λx P h1 _ hP hA=>o x P hP<|z x P h1<|s x P hP hA,λw hU=>zG⟩;have i:g.qo ju=(v,true):=I;have T3:At v ju (zo c.bytes):=by have:=As (S:=g) ju (by rw[i]) G;rw[i] at this;exact this.mono (λa ⟨b,q,e⟩=>by rw[e];exact⟨q.1,by show b.bytes.length=_;rw[q.1],rfl⟩)
 rw[i] at E o N;have R3:∀ p∈j7 c.settled f,At v p.1 (zo p.2):=λp hp=>o _ _ (λa q=>q.synced)<|R2 p hp
 have V:=o _ _ (λa q=>q.synced) (z _ _ (j<|Km c).1 G1);obtain⟨O,aa,M,W4⟩:=E.rename A (jaj c) T3 R3 (V.mono λa q=>Jr.sure q R.ok R.jov);obtain⟨H,rfl⟩|⟨S4,H,Y,rfl⟩:=k;have d:x7 (v.qz ju jk)=(S',false):=H;unfold x7 at d;split at d;rename_i hok;have D:=(O hok).dir;rw[d] at D;refine⟨λt=>(by cases t),λ_=>.inr<|D.grow zC,λx P h1 h2 hP hA=>?_,λw hU=>?_⟩;have:=(M x P h1 h2<|o x P hP<|z x P h1<|s x P hP hA).dir;rwa [d] at this;grind [Ei];grind;subst Y;have d:x7 (v.qz ju jk)=(S',true):=H;unfold x7 at d;split at d;rename_i hok;have D:=(O hok).dir;have W:=Nz (S:=(v.qz ju jk).1) (by rw[d]);have l:=(M _ _ (j<|Km c).1 (j<|Km c).2 V).dir;rw[d] at D W l;refine⟨λ_=>⟨D.grow zC,W,l⟩,λt=>(by cases t),λx P h1 h2 hP hA=>?_,λw hU=>⟨rfl,?_⟩⟩;have:=(M x P h1 h2<|o x P hP<|z x P h1<|s x P hP hA).dir;rwa [d] at this;grind [Ei];cases d
end
section
variable {S S':jd} {U:Nat} {m:Rf.Man} {bls:List (List Rf.Ch)} {Q:Want}
def Qp(S:jd)(ns:List Str):Prop:=∀ n f,S.at n=some f->n∈ns
theorem Qp.Jc{ns:List Str}(h:Qp S ns)(e:S'.names=S.names):Qp S' ns:=λn f hf=>h n f (by grind [jd.at])
theorem Qp.sub{ns b:List Str}(h:Qp S ns)(c:∀ n∈ns,n∈b):Qp S b:=λn f hf=>c n<|h n f hf
theorem lj(S:jd)(n:Str):(S.qo n).1.names=S.names:=by obtain⟨e,_⟩|⟨f,a,_,_,b,e⟩:=Zw S n<;>rw[e]<;>rfl
theorem Cp(S:jd):S.Za.1.names=S.names:=by obtain⟨_,e⟩|⟨_,e⟩:=Zt S<;>rw[e]<;>rfl
theorem Gn(ns:List Str)(S:jd):(jd.x8 ns S).1.names=S.names:=by induction ns generalizing S with|nil=>exact Cp S|cons n r ih=>grind [jd.x8,lj]
theorem Qp.made(h:Pow S U m bls Q){ns:List Str}(d:Qp S ns){f:Nat}{a:j2}{n:Str}(k:S.files f=none)(o:n≠[])(j:n.length<=60)(q:S'.names=doA S.names ⟨n,[],[],some f⟩)(p:S'.files=yg.put S.files f a):Qp S' (n::ns):=by
 obtain⟨T,b,r⟩:=h.cur;have l:Names S'.names S'.files (U+1+a.bytes.length) ((n,f)::js T n):=by rw[q,p];exact b.made k a o j
 intro x g c;obtain e|i:=xN.1 (l.fs.at.1 c);simp_all;exact xP _<|d x g<|b.fs.at.2 (qh.1 i).1
theorem Qp.lay(h:Pow S U m bls Q){ns:List Str}(i:Qp S ns){n:Str}{b:By}{o:Bool}(t:n≠[])(p:n.length<=60)(r:Yf n b S S' o):Qp S' (n::ns):=by
 have g:∀ {c:jd} {d:Bool},P6 n S c d->Qp c (n::ns):=λ{c} {d} q=>by obtain⟨_,e,_⟩|⟨_,_,f,s,e⟩:=q;rw[e];(exact(i.Jc rfl).sub λx d=>xP _ d);rw[e];exact Qp.made (a:=qg) h i s t p rfl rfl
 unfold Yf at r;split at r;exact g r;obtain⟨r,_⟩|⟨c,r,k⟩:=r;exact g r;have l:=g r;have j:∀ {d:jd} {g:Bool},Oq n b c d g->d.names=c.names:=λ{d} {g} q=>by obtain⟨f,a,_,_,⟨_,e,_⟩|⟨_,_,e,_⟩⟩:=q<;>rw[e]<;>rfl
 obtain⟨k,_⟩|⟨d,k,e,_⟩:=k;exact l.Jc<|j k;rw[e];exact l.Jc<|j k
theorem Qp.remove(h:Pow S U m bls Q){ns:List Str}(i:Qp S ns)(n:Str)(b:(S.xw n).2=true):Qp (S.xw n).1 (ns.filter (λx=>decide (x≠n))):=by obtain⟨e,_⟩|⟨_,_,e⟩:=du S n;rw[e] at b;cases b;rw[e];obtain⟨T,d,j⟩:=h.cur;intro x g f;have c:=qh.1<|(Names.fs (S:=(S.called true).named ⟨[],n,[],none⟩)<|d.dt n).at.1 f;exact XB.2 ⟨i x g<|d.fs.at.2 c.1,by simpa using c.2⟩
theorem Qp.Ze(h:Pow S U m bls Q){ks:List Str}(d:Qp S ks)(ns:List Str)(b:∀ n∈ns,Idle m n)(c:(jd.yj ns S).2=true):Qp (jd.yj ns S).1 (ks.filter (λx=>decide (x∉ns))):=by induction ns generalizing S ks with|nil=>exact d.sub λn b=>XB.2 ⟨b,zD⟩|cons n r ih=>unfold jd.yj at c ⊢;split;rename_i h1;rw[if_pos h1] at c;(refine(ih (h.remove<|b n xO) (d.remove h n h1) (λx hx=>b x<|xP _ hx) c).sub λx hx=>?_);simp_all;simp_all
theorem Qp.removeAll(h:Pow S U m bls Q){ks:List Str}(d:Qp S ks)(ns:List Str)(b:∀ n∈ns,Idle m n)(c:(jd.jt ns S).2=true):Qp (jd.jt ns S).1 (ks.filter (λx=>decide (x∉ns))):=by
 unfold jd.jt x7 at c ⊢;split;rename_i e;subst e;exact d.sub λn b=>XB.2 ⟨b,zD⟩
 rename_i e;rw[if_neg e] at c;split;rename_i h1;exact(d.Ze h ns b h1).Jc<|Cp _;simp_all
theorem Qp.rename{ns:List Str}(h:Pow S U m bls Q)(l:Qp S ns)(c:(S.qz ju jk).2=true):Qp (S.qz ju jk).1 (jk::ns.filter (λx=>decide (x≠ju))):=by obtain⟨e,_⟩|⟨f,_,n,e⟩:=my S ju jk zE;rw[e] at c;cases c;rw[e];obtain⟨T,b,p⟩:=h.cur;have d:=b.fs.at.1 n;obtain⟨a,o⟩:=b.files _ d;intro x g j;obtain e|k:=xN.1 ((Names.fs (S:=(S.called true).named ⟨[],ju,jk,some f⟩) (b.renamed (a:=a) d (ds:=jk) zE zE zE)).at.1 j);simp_all;have i:=qh.1 k;exact xP _<|XB.2 ⟨l x g<|b.fs.at.2 (qh.1 i.1).1,by simpa using i.2⟩
theorem Qp.install(h:Pow S U m bls Q){c:Rf.Man}{d l:List L1}(R:Su S c d l Q)(B:c.bytes.length<=60000){ns:List Str}(A:Qp S ns)(r:za c S S' true):Qp S' (jk::ns):=by
 unfold za at r;obtain⟨_,e⟩|⟨o,t,k⟩:=r
 .cases e
 have j:jd.x8 (jz c) S=(o,true):=t;have g:=h.sure<|jz c;have z:Qp o ns:=A.Jc (by grind [Gn]);rw[j] at g;obtain⟨_,e⟩|⟨C,n,k⟩:=k
 .cases e
 have D:=(g.lay (M8 m) zE zE B n).1;have y:=z.lay g zE zE n;obtain⟨_,e⟩|⟨f,s,k⟩:=k
 .cases e
 have i:C.qo ju=(f,true):=s;have p:=D.sync ju;have v:Qp f (ju::ns):=y.Jc (by grind [lj]);rw[i] at p;obtain⟨_,e⟩|⟨E,q,e,_⟩:=k
 .cases e
 subst e;have b:x7 (f.qz ju jk)=(S',true):=q;unfold x7 at b;split at b
 .rename_i hok;have u:=v.rename p hok;(have e:S'=(f.qz ju jk).1.Za.1:=by rw[b]);rw[e];refine(u.Jc (Cp _)).sub (λx hx=>?_);grind
 .cases b
end
section
abbrev dq(d:Nat)(m:Rf.Man)(rv:Value)(last:Nat)(mv:Value)(deg:Bool):Array Value:=ql (.pointer (some ⟨d,0,none⟩)) (jg m.next) (jg m.last) (jg m.log) (jg m.base) rv (jg last) mv deg false
structure StM(E:Nat->Addr)(B:Nat)(w:World)(ρ:Nat->j4)(d b:Nat)(S:jd)(k:Nat)(m:Rf.Man)(last:Nat)(ml:List Rf.Ch)(deg:Bool)(rv mv:Value):Prop where
 env:Env E B w
 yk:Dk E B w ρ d S
 fit:Fit k S
 row:w.heap[b]?=some (.cells (dq d m rv last mv deg) 79 (0,0))
 runs:Jf w rv m.runs
 mem:w.ownsRow B 47 3 mv ml.length (jh ml)
 nb:ρ b=.none/\B<=b
 nr:Calm ρ B b mv rv w
 nm:∀ g,mv.ownBlock=some g->ρ g=.none/\g≠b
 yn:m.Good
 rising:Rf.j8 ml
 few:ml.length<60000
 bw:m.runs.length<60000
def zt(E:Nat->Addr)(B:Nat)(w:World)(ρ:Nat->j4)(d b:Nat)(rv mv:Value)(S:jd)(k:Nat)(m:Rf.Man)(last:Nat)(ml:L1)(deg:Bool)(w':World):Prop :=
 ∃ ρ' rv' mv',StM E B w' ρ' d b S k m last ml deg rv' mv'/\ja w w' (StF ρ b mv)/\(∀ i,i<w.heap.size->ρ' i=ρ i)/\(∀ g,mv'.ownBlock=some g->mv.ownBlock=some g\/w.heap.size<=g)/\(∀ p n c,rv'=.slice (some p) n c->(∃ n' c',rv=.slice (some p) n' c')\/w.heap.size<=p.block)
variable {E:Nat->Addr} {B:Nat} {w w':World} {ρ:Nat->j4} {d b k:Nat} {S:jd} {m:Rf.Man} {last:Nat} {ml:List Rf.Ch} {deg:Bool} {rv mv:Value}
theorem StM.keep{T:Nat->Prop}(h:StM E B w ρ d b S k m last ml deg rv mv)(l:ja w w' T)(j:∀ i,i<w.heap.size->T i->B<=i/\¬StF ρ b mv i/\∀ p n c,rv=.slice (some p) n c->i≠p.block):StM E B w' ρ d b S k m last ml deg rv mv:=by have f:ja w w' (λi=>i<w.heap.size/\T i):=l.mono (λi hi h=>⟨hi,h⟩);have o:Dk E B w' ρ d S:=⟨h.yk.rep.keep f (λi t _=>XX (λg=>(j i t.1 t.2).2.1 (.inl g))),h.yk.Jk.keep f (λi t=>(j i t.1 t.2).1),h.yk.yx,zW h.yk.size l.size⟩;refine⟨h.env.keep f (λi t=>(j i t.1 t.2).1),o,h.fit,f.same h.row (λt=>(j _ t.1 t.2).2.1 (.inr (.inl rfl))),h.runs.keep f (λ_ p n c e t=>(j _ t.1 t.2).2.2 p n c e rfl),f.row h.mem (λg f t=>(j g t.1 t.2).2.1 (.inr (.inr f))),h.nb,λp n c e=>?_,h.nm,h.yn,h.rising,h.few,h.bw⟩;obtain⟨q,a2,a3,a4,a5⟩:=h.nr p n c e;exact⟨q,a2,a3,a4,zZ a5 l.size⟩
theorem StM.same(h:StM E B w ρ d b S k m last ml deg rv mv)(c:ja w w' N_):StM E B w' ρ d b S k m last ml deg rv mv:=h.keep c λ_ _ h=>h.elim
theorem StM.blt(h:StM E B w ρ d b S k m last ml deg rv mv):b<w.heap.size:=zO h.row
theorem StM.old(h:StM E B w ρ d b S k m last ml deg rv mv){i:Nat}(hi:StF ρ b mv i):B<=i/\i<w.heap.size:=by obtain hi|rfl|hi:=hi;exact⟨h.yk.yx i hi,h.yk.rep.lt i hi⟩;exact⟨h.nb.2,h.blt⟩;exact h.mem.lt i hi
theorem StM.next{q:Nat->j4}{S':jd}{k':Nat}{f:Bool}(h:StM E B w ρ d b S k m last ml deg rv mv)(j:ja w w' (λi=>ρ i≠.none\/i=b))(o:∀ i,i<w.heap.size->q i=ρ i)(D:Dk E B w' q d S')(F:Fit k' S')(l:w'.heap[b]?=some (.cells (dq d m rv last mv f) 79 (0,0))):zt E B w ρ d b rv mv S' k' m last ml f w':=by
 have s:ja w w' (StF ρ b mv):=j.mono (λi _ t=>t.elim .inl (λt=>.inr (.inl t)));refine⟨q,rv,mv,⟨h.env.keep j λi t=>t.elim (λt=>h.yk.yx i t) λt=>by rw[t];exact h.nb.2,D,F,l,h.runs.keep j λ_ p n c e t=>?_,j.row h.mem λg r t=>t.elim (λt=>t (h.nm g r).1) λt=>(h.nm g r).2 t,⟨(o b h.blt).trans h.nb.1,h.nb.2⟩,λp n c e=>?_,λg r=>⟨(o g (h.mem.lt g r).2).trans (h.nm g r).1,(h.nm g r).2⟩,h.yn,h.rising,h.few,h.bw⟩,s,o,λg r=>.inl r,λp n c e=>.inl ⟨n,c,e⟩⟩
 .obtain⟨r,a2,a3,a4,a5⟩:=h.nr p n c e;simp_all
 .obtain⟨r,a2,a3,a4,a5⟩:=h.nr p n c e;exact⟨(o _ a5).trans r,a2,a3,a4,zZ a5 j.size⟩
end
def jk4(E:Nat->Addr)(B:Nat)(w:World)(ρ:Nat->j4)(d b:Nat)(S:jd)(m:Rf.Man)(t:TypeId)(old new:Array Value)(e:Ending)(w':World):Prop :=
 ∃ S' ok ρ',za m S S' ok/\ja w w' (λi=>ρ i≠.none\/i=b)/\(∀ i,i<w.heap.size->ρ' i=ρ i)/\Dk E B w' ρ' d S'/\jhy E w' e ok/\w'.heap[b]?=some (.cells (if ok=true then new else old) t (0,0))
theorem oz{E:Nat->Addr}{B:Nat}{w:World}{ρ:Nat->j4}{d b k:Nat}{S:jd}{t:TypeId}{a1 a2 a3 a4 a5 last mv:Value}{b6 cl:Bool}(D:Dk E B w ρ d S)(F:Fit k S)(H:Env E B w)(m:Rf.Man)(hg:m.Good)(hr:m.runs.length<65536)(rv:Value)(hv:Jf w rv m.runs)(cz:∀ p n c,rv=.slice (some p) n c->ρ p.block=.none/\p.block≠b)(hb:w.heap[b]?=some (.cells (ql (P1 d) a1 a2 a3 a4 a5 last mv b6 cl) t (0,0)))(b3:ρ b=.none)(d7:B<=b)(hk:k<540000000000):Calls prog 79 #[P1 b,ng m rv] w (jk4 E B w ρ d b S m t (ql (P1 d) a1 a2 a3 a4 a5 last mv b6 cl) (ql (P1 d) (jg m.next) (jg m.last) (jg m.log) (jg m.base) rv last mv b6 cl)):=by
 obtain⟨z,A,bp,f⟩:=id hv;have g:∃ n,rv=.slice z n A:=⟨_,bp⟩;clear bp f;obtain⟨G,rfl⟩:=g;have bv:=j5 m;have J:=hg.bounds;have O:=hg.1;have x:=hg.2.2.1;have R:=hg.log;have ao:∀ n∈m.settled,n<=9223372036854775807:=λn u=>by have:=x n<|ZM.2<|.inl u;omega
 have T:=x9 m;have d4:(jz m).length=m.settled.length+1:=by unfold jz;simp
 have Z:∀ r∈m.runs,r<m.next:=λr s=>(x r<|ZM.2<|.inl<|by grind [Rf.Man.settled]).2
 have U:m.base<m.next:=by by_cases e:m.base=0;omega;exact(x m.base<|ZM.2<|.inl<|by grind [Rf.Man.settled]).2
 have bd:=hg.2.1;obtain⟨f,N⟩:∃ f,f=w.heap.size:=⟨_,rfl⟩;obtain⟨o,bn⟩:∃ o,o=w.alloc (.cells #[jg m.next,jg m.last,jg m.log,jg m.base,.slice z G A] 75):=⟨_,rfl⟩;have j:ja w o N_:=by grind [ja.alloc]
 have bm:o.heap[f]?=some (.cells #[jg m.next,jg m.last,jg m.log,jg m.base,.slice z G A] 75 (0,0)):=by grind [jf]
 have y:=j.same hb id;have dt:=zO hb;have ay:b≠f:=by omega
 have C:=D.same j;have g:∀ i,ρ i≠.none->B<=i/\i<w.heap.size:=λi hi=>⟨D.yx i hi,D.rep.lt i hi⟩
 have bj:ρ f=.none:=XX (λu=>by have:=D.rep.lt f u;omega);have V:∀ W,ja o W (λi=>ρ i≠.none)->Jf W (.slice z G A) m.runs:=λW q=>(hv.same j).keep q λ_ p n c e t=>t (cz p n c e).1
 have X:∀ W,ja o W (λi=>ρ i≠.none)->Env E B W:=λW q=>(H.same j).keep q λi t=>D.yx i t
 have aw:∀ W,ja o W N_->Calls prog 131 #[ng m (.slice z G A)] W λe w'=>∃ p c,e=.returned (.slice p (jz m).length c)/\w'.ownsRow o.heap.size 9 1 (.slice p (jz m).length c) (jz m).length ((jz m).map je)/\ja W w' N_:=λW q=>by have ai:ja o W (λi=>ρ i≠.none):=q.up;refine(Dw m (.slice z G A) (X W ai) (V W ai) (by omega) ao<|by omega).mono ?_;rintro e w' ⟨p,c,rfl,h,k'⟩;exact⟨p,c,rfl,qn h q.size,k'⟩
 have Y:∀(W:World) (v:Value),ja o W N_->W.ownsRow o.heap.size 9 1 v (jz m).length ((jz m).map je)->Calls prog 115 #[P1 d,v] W λe w'=>∃ v3,e=.returned v3/\Yj E B o ρ d (jd.x8 (jz m) S) (.returned v3) w':=λW v q l=>by refine(Dy (C.same q) v (jz m) o.heap.size l (λg hg=>XX λu=>by have:=(l.lt g hg).1;have:=C.rep.lt g u;omega) (aj hg) (by omega)<|by have:=F.safe;omega).mono ?_;intro e w' h;(have M:=h.before<|yc.of q λ_ _ h=>h.elim);obtain⟨ρ',g,D',⟨_,L⟩|⟨_,v3,L,_⟩⟩:=id M;exact⟨_,L,L▸M⟩;simp_all
 have I:=jb aw;have a0:=jb Y;have al:=jb y;have u:=jb bm;have dd:=jb N;have cb:=jb V;have du:=jb X;have de:=jb J;have c5:=jb bv;have C:=jb ay;have dc:Hid ((m.next:Int)<=9223372036854775807/\(m.last:Int)<=9223372036854775807/\(m.log:Int)<=9223372036854775807/\(m.base:Int)<=9223372036854775807/\∀ r∈m.runs,(r:Int)<=9223372036854775807):=(show _/\_ from⟨by omega,by omega,by omega,by omega,λr s=>by have:=Z r s;omega⟩);have HR:=jb hr;have HK:=jb hk;obtain⟨s,bq⟩:∃ s,s=(jz m).length:=⟨_,rfl⟩;rw[<-bq] at I a0;clear aw Y y bm V X J bv O x R ao T d4 Z U bd hb hr hk ay N bq;have J:=zK 0 al;have x:=zK 0 u;have Y:=zK 1 u;have r:=zK 2 u;have X:=zK 3 u;have V:=zK 4 u;simp at J x Y r X V;have J:o.drew.cell? (A2 b)=some (.pointer<|some (A2 d)):=J;have x:o.drew.cell? (A2 f)=some (jg m.next):=x;have Y:o.drew.cell? (B1 f 1)=some (jg m.last):=Y;have r:o.drew.cell? (B1 f 2)=some (jg m.log):=r;have X:o.drew.cell? (B1 f 3)=some (jg m.base):=X;have V:o.drew.cell? (B1 f 4)=some (.slice z G A):=V;have C:ja o o.drew N_:=ja.drew _ _;go_enter func79,ntmps79;go_wp2_with fail;rw[<-bn,<-dd.out];clear bn;go_region_law (first|(refine jx rfl 131 [.tmp 13] _ rfl Ny [ng m (.slice z G A)] (by simp[Act.eval,Act.put]) (I.out _ C) ?_;rintro e y ⟨N,I,rfl,b4,y⟩;have J:=y.cell J id;have C:=C.tt y;refine⟨_,rfl,?_⟩)|(refine jx rfl 115 [.tmp 12,.tmp 14] _ rfl Aa [P1 d,.slice N s I] (by simp[Act.eval,Act.put]) (a0.out _ _ C b4) ?_;rintro e y ⟨v3,rfl,s⟩;refine⟨_,rfl,?_⟩));all_goals obtain⟨N,I,R,bc⟩:=s;have T:=F.x8<|jz m;obtain⟨ah,s⟩|⟨ah,O,s,bu⟩:=bc;rotate_left;(· cases s;obtain⟨t3,a3,rfl⟩:=bu.shape;(have O:=I.keeps.same al λt=>t b3);go_wp2;go_ret;exact⟨_,_,N,.inl ⟨Prod.ext rfl ah,rfl⟩,((j.up).trans I.keeps λi _ h=>.inl h),λi hi=>I.role i<|zZ hi j.size,R,.inr ⟨rfl,_,rfl,bu⟩,O⟩);cases s;generalize hS3:(jd.x8 (jz m) S).1=S3 at R T;have s:Fn (jd.x8 (jz m)) S S3 true:=Prod.ext hS3 ah;clear hS3 ah;have Z:=jb s;clear s;(have O:=I.keeps.same al λt=>t b3);(have s:=I.keeps.same u λt=>t bj);have U:N b=.none:=(I.role b<|zO al).trans b3;have ar:N f=.none:=(I.role f<|zO u).trans bj;(have av:∀ W,ja y W N_->Calls prog 132 #[ng m (.slice z G A)] W λe w'=>∃ p c,e=.returned (.slice p m.bytes.length c)/\w'.ownsRow y.heap.size 5 1 (.slice p m.bytes.length c) m.bytes.length (m.bytes.map qd)/\ja W w' N_:=λW q=>by(have ai:ja o W (λi=>ρ i≠.none):=I.keeps.trans q λ_ _ h=>h.elim);refine(Ul W m (.slice z G A) (cb.out W ai) (by have:=HR.out;omega) de dc).mono ?_;rintro e w' ⟨p,c,rfl,h,k'⟩;exact⟨p,c,rfl,qn h q.size,k'⟩);(have au:∀(W:World) (v:Value),ja y W N_->W.ownsRow y.heap.size 5 1 v m.bytes.length (m.bytes.map qd)->Calls prog 76 #[P1 d,je ju,v] W λe w'=>∃ v5,e=.returned v5/\fy E B y N d S3 (Yf ju m.bytes) (.returned v5) w':=λW v q l=>by refine(A5 (R.same q) T ju (by decide) v m.bytes (xh l) (Ug (λi hi=>R.rep.lt i hi) l)<|by have:=HK.out;have:=c5.out;have:=HR.out;have:ju.length=12:=rfl;omega).mono ?_;intro e w' h;(have M:=h.before<|yc.of q λ_ _ h=>h.elim);obtain⟨u,cy,l,ρ',g,D',⟨_,L⟩|⟨_,v3,L,_⟩⟩:=id M;exact⟨_,L,L▸M⟩;simp_all);have L:=jb av;have N:=jb au;have J:=zK 0 O;have x:=zK 0 s;have Y:=zK 1 s;have r:=zK 2 s;have X:=zK 3 s;have V:=zK 4 s;simp at J x Y r X V;have J:y.drew.cell? (A2 b)=some (.pointer<|some (A2 d)):=J;have x:y.drew.cell? (A2 f)=some (jg m.next):=x;have Y:y.drew.cell? (B1 f 1)=some (jg m.last):=Y;have r:y.drew.cell? (B1 f 2)=some (jg m.log):=r;have X:y.drew.cell? (B1 f 3)=some (jg m.base):=X;have V:y.drew.cell? (B1 f 4)=some (.slice z G A):=V;have C:ja y y.drew N_:=ja.drew _ _;have v:=jb O;have M:=jb s;obtain⟨q,g⟩:∃ q,q=m.bytes.length:=⟨_,rfl⟩;rw[<-g] at L N;have y:=jb g;clear av au O s g;go_wp2_with fail;go_region_law (first|(refine jx rfl 132 [.tmp 23] _ rfl Nx [ng m (.slice z G A)] (by simp[Act.eval,Act.put]) (L.out _ C) ?_;rintro e g ⟨s,y,rfl,b4,g⟩;have J:=g.cell J id;have C:=C.tt g;refine⟨_,rfl,?_⟩)|(refine jx rfl 76 [.tmp 22,.const (je ju),.tmp 24] _ rfl gy [P1 d,je ju,.slice s q y] (by simp[Act.eval,Act.put]) (N.out _ _ C b4) ?_;rintro e g ⟨v5,rfl,q⟩;refine⟨_,rfl,?_⟩))
 all_goals obtain⟨u,cy,l,y,g,C,L⟩:=q;obtain⟨q,s⟩|⟨q,N,s,bt⟩:=L;rotate_left;(· cases s;obtain⟨t5,a5,rfl⟩:=bt.shape;(have N:=g.keeps.same v λt=>t U);have L:=I.trans g;simp only at q;subst q;go_wp2;go_ret;exact⟨_,_,y,.inr ⟨_,Z,.inl ⟨l,rfl⟩⟩,((j.up).trans L.keeps λi _ h=>.inl h),λi hi=>L.role i<|zZ hi j.size,C,.inr ⟨rfl,_,rfl,bt⟩,N⟩);cases s;simp only at q;subst q;have R:=T.I1 (by decide) l;have O:=jb l;clear l;(have N:=g.keeps.same v λt=>t U);(have bl:=g.keeps.same M λt=>t ar);have T:y b=.none:=(g.role b<|zO v).trans U;have U:y f=.none:=(g.role f<|zO M).trans ar;have c1:=zK 0 N;simp at c1;have l:=wz C ju (by decide);have q:=jb l;have b9:=jb N;have W:=jb bl;clear l N bl J x Y r X V;go_wp2_with fail;refine q.out.mono ?_;rintro e l ⟨s,q,y,⟨l,rfl⟩|⟨l,v6,rfl,bs⟩⟩;rotate_left;(· obtain⟨v,v,rfl⟩:=bs.shape;(have M:=q.keeps.same b9 λt=>t T);have L:=(I.trans g).trans q;go_wp2;go_ret;exact⟨_,_,s,.inr ⟨_,Z,.inr ⟨_,O,.inl ⟨Prod.ext rfl l,rfl⟩⟩⟩,((j.up).trans L.keeps λi _ h=>.inl h),λi hi=>L.role i<|zZ hi j.size,y,.inr ⟨rfl,_,rfl,bs⟩,M⟩);have v:=R.qo ju;generalize hS6:(u.qo ju).1=S6 at y v;have C:Fn (λS=>S.qo ju) u S6 true:=Prod.ext hS6 l;clear hS6 l;have c4:=jb C;clear C;(have M:=q.keeps.same b9 λt=>t T);(have l:=q.keeps.same W λt=>t U);have R:s b=.none:=(q.role b<|zO b9).trans T;have T:s f=.none:=(q.role f<|zO W).trans U;have N:=zK 0 M;simp at N;(have s:k+1+ju.length+m.bytes.length<549755813000:=by have:=HK.out;have:=c5.out;have:=HR.out;have:ju.length=12:=rfl;omega);have f:=I3 y (v.small<|by omega) ju jk (by decide) (by decide) (by have:=v.safe;omega);have u:=jb f;have b8:=jb M;have U:=jb l;clear f M l c1 s;go_wp2_with fail;refine u.out.mono ?_;rintro e J ⟨v,f,s,⟨u,rfl⟩|⟨u,l,rfl,br⟩⟩;rotate_left;(· obtain⟨l,l,rfl⟩:=br.shape;(have l:=f.keeps.same b8 λt=>t R);have L:=((I.trans g).trans q).trans f;go_wp2;go_ret;exact⟨_,_,v,.inr ⟨_,Z,.inr ⟨_,O,.inr ⟨_,c4,.inl ⟨Prod.ext rfl u,rfl⟩⟩⟩⟩,((j.up).trans L.keeps λi _ h=>.inl h),λi hi=>L.role i<|zZ hi j.size,s,.inr ⟨rfl,_,rfl,br⟩,l⟩);have y:Fn (λS=>x7<|S.qz ju jk) S6 (x7<|S6.qz ju jk).1 true:=Prod.ext rfl u;generalize (x7<|S6.qz ju jk).1=S7 at s y;have W:=jb y;clear y u;(have l:=f.keeps.same b8 λt=>t R);(have C:=f.keeps.same U λt=>t T);have c7:v b=.none:=(f.role b<|zO b8).trans R;have x:=zK 0 C;have Y:=zK 1 C;have r:=zK 2 C;have X:=zK 3 C;have V:=zK 4 C;have y:=zK 1 l;have T:=zK 2 l;have u:=zK 3 l;have R:=zK 4 l;have M:=zK 5 l;have U:=zL 1 l;have U:=zL 2 l;have U:=zL 3 l;have U:=zL 4 l;have U:=zL 5 l;simp at x Y r X V y T u R M;have df:=jb l;have L:yc o ρ J v:=((I.trans g).trans q).trans f;clear l C N;go_wp2;go_ret;have ks:=((((ja.setCell J (B1 b 1)<|jg m.next).set (p:=(B1 b 2)) rfl<|jg m.last).set (p:=(B1 b 3)) rfl<|jg m.log).set (p:=(B1 b 4)) rfl<|jg m.base).set (p:=(B1 b 5)) rfl<|.slice z G A;refine⟨S7,true,v,.inr ⟨_,Z,.inr ⟨_,O,.inr ⟨_,c4,.inr ⟨_,W,rfl,rfl⟩⟩⟩⟩,((j.up).trans L.keeps λi _ h=>.inl h).trans ks λi _ e=>.inr e,λi hi=>L.role i<|zZ hi j.size,⟨s.rep.keep ks λi e _=>by rw[e];exact c7,s.Jk.keep ks λi e=>by rw[e];exact d7,s.yx,zW s.size ks.size⟩,.inl ⟨rfl,rfl⟩,(jc (jc (jc (jc (jc df _) _) _) _) _).trans rfl⟩

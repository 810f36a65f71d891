/-
  D: FrameSum FrameNum Reader.
-/
import Derived.Test.YtnipbplghijdmaaGreatDoorD01
import Derived.Test.YtnipbplghijdmaaGreatDoorD10
import Derived.Test.YtnipbplghijdmaaGreatDoorD07
set_option maxRecDepth 100000
set_option maxHeartbeats 8000000
set_option linter.unusedVariables false
set_option linter.unusedSimpArgs false
namespace Go.Proofs.YtnipbplghijdmaaGreatDoor
open RowKit Maps WideShapes Go.Proofs.Tryz
variable {B c k n r:Nat} {a b w w':World} {u v v':Value} {l:List UInt8} {p:Option Addr} {G:Nat->Prop} {E:Nat->Addr}
theorem Rf.jhc(h:c<4294967296):Rf.bit c<4294967296:=by
 unfold Rf.bit
 split
 ·exact Nat.xor_lt_two_pow (n:=32) (by omega) (by omega)
 ·omega
theorem Rf.jf4(h:c<4294967296):Rf.bits k c<4294967296:=by
 induction k generalizing c with
 | zero=>exact h
 | succ k ih=>exact ih (Rf.jhc h)
theorem jeb(c:Nat)(o:c<4294967296)(w:World) :
 Calls prog 188 #[.int .u32 c] w fun e w'=>e = .returned (.int .u32 (Rf.bits 8 c:Nat))/\w'=w:=by
 go_enter func188,ntmps188;go_wp2_with fail
 go_loopw [0,3] (fun v i wr=>∃(d k:Nat),v = .int .u32 d/\i = .int .i64 k/\k<=8/\d<4294967296/\Rf.bits (8-k) d=Rf.bits 8 c/\wr=w)
  (fun _ i _=>8-(intOf i).toNat)
 case atStart=>exact⟨c,0,rfl,rfl,by omega,o,rfl,rfl⟩
 case round =>
  obtain⟨d,k,rfl,rfl,q,m,b,rfl⟩:=hrel
  have l:bits .and .u32 (d:Int) 1=((d%2:Nat):Int):=by
   have:=u32_and_nat d 1 m (by omega);rw[Nat.and_one_is_mod] at this;exact this
  have p:bits .xor .u32 ((d:Int)/2) 2197175160=((d/2 ^^^ 2197175160:Nat):Int):=by
   have:=u32_xor_nat (d/2) 2197175160 (by omega) (by omega);rw[<-this];rfl
  rcases Nat.mod_two_eq_zero_or_one d with g|g
  ·have f:((d%2:Nat):Int)=0:=by omega
   rw[f] at l;go_wp2
   ·refine⟨⟨d/2,k+1,by simp,by simp,by omega,by omega,?_,trivial⟩,by simp[intOf];omega⟩
    rw[<-b,show 8-k=(8-(k+1))+1 by omega,Rf.bits];simp[Rf.bit,g]
   ·have j:k=8:=by omega
    subst j;go_ret;exact⟨by rw[<-b];rfl,rfl⟩
  ·have f:((d%2:Nat):Int)=1:=by omega
   rw[f] at l;go_wp2
   ·refine⟨⟨d/2 ^^^ 2197175160,k+1,by simp,by simp,by omega,Nat.xor_lt_two_pow (n:=32) (by omega) (by omega),?_,trivial⟩,by simp[intOf];omega⟩
    rw[<-b,show 8-k=(8-(k+1))+1 by omega,Rf.bits];simp[Rf.bit,g]
   ·have j:k=8:=by omega
    subst j;go_ret;exact⟨by rw[<-b];rfl,rfl⟩
def Bytes(w:World)(v:Value)(l:List UInt8):Prop :=
 ∃ p c,v = .slice p l.length c/\l.length<=c/\c<=maxLen/\(p=none->c=0)/\∀ ad,p=some ad->ad.spot=none/\∀ j u,l[j]?=some u->w.cell? (ad.add j)=some (j5 u)
theorem Bytes.keep{T:Nat->Prop}(h:Bytes w v l)(d:ja w w' T)(f:∀ p n c,v = .slice (some p) n c->¬T p.block):Bytes w' v l:=by
 obtain⟨p,c,rfl,k,i,g,b⟩:=h;exact⟨p,c,rfl,k,i,g,fun ad e=>⟨(b ad e).1,fun j u hu=>d.cell ((b ad e).2 j u hu) (by rw[Ju];exact f ad _ _ (by rw[e]))⟩⟩
theorem Bytes.same(h:Bytes w v l)(b:ja w w' (fun _=>False)):Bytes w' v l:=h.keep b (fun _ _ _ _ h=>h)
theorem Bytes.nil(w:World):Bytes w (.slice none 0 0) []:=⟨none,0,rfl,zJ _,zG _,fun _=>rfl,fun _ h=>by cases h⟩
theorem jdk{d:Nat}(h:d<4294967296):4294967295 ^^^ d=4294967295-d:=by
 apply Nat.eq_of_testBit_eq;intro i;have f:=Nat.testBit_two_pow_sub_succ (x:=d) (n:=32) (by omega) i;have c:=Nat.testBit_two_pow_sub_one 32 i;rw[Nat.testBit_xor,show(4294967295:Nat)=2^32-1 from rfl,c,show 2^32-1-d=2^32-(d+1) by omega,f];by_cases hi:i<32
 ·simp[hi]
 ·have b:d.testBit i=false:=Nat.testBit_lt_two_pow (ZH (show d<2^32 from h) (Nat.pow_le_pow_right (by omega) (by omega)))
  simp[hi,b]
theorem Ta(h:c<4294967296):l.foldl Rf.cx c<4294967296:=by
 induction l generalizing c with
 | nil=>exact h
 | cons x r ih =>
  refine ih ?_;unfold Rf.cx;exact Rf.jf4 (Nat.xor_lt_two_pow (n:=32) (by omega) (by have:=x.toNat_lt;omega))
theorem E6(v:Value)(l:List UInt8)(w:World)(s:Bytes w v l) :
 Calls prog 150 #[v] w fun e w'=>e = .returned (.int .u32 (Rf.sum l:Nat))/\w'=w:=by
 obtain⟨p,c,rfl,C,B,A,z⟩:=s;have y:=ZI C B;unfold maxLen at y;go_enter func150,ntmps150;go_wp2_with fail
 go_loopw [3,8] (fun v i wr=>∃(k:Nat),v = .int .u32 ((l.take k).foldl Rf.cx 4294967295:Nat)/\i = .int .i64 k/\k<=l.length/\wr=w)
  (fun _ i _=>l.length-(intOf i).toNat)
 case atStart=>exact⟨0,rfl,rfl,zG _,rfl⟩
 case round =>
  obtain⟨k,rfl,rfl,F,rfl⟩:=hrel;rcases zV k l.length with g|E
  ·have u:∃ f,p=some f:=by
    cases p with
    | none=>have:=A rfl;omega
    | some f=>exact⟨f,rfl⟩
   obtain⟨f,rfl⟩:=u
   have G:=(z f rfl).2 k l[k] (by simp[g])
   have b:=Ta (l:=l.take k) (c:=4294967295) (by omega)
   have o:(l.take (k+1)).foldl Rf.cx 4294967295=Rf.bits 8 ((l.take k).foldl Rf.cx 4294967295 ^^^ l[k].toNat):=by
    rw[XG g,XM];rfl
   have q:=jb o
   clear o
   generalize (l.take k).foldl Rf.cx 4294967295=d at b q ⊢
   have H:=l[k].toNat_lt
   have r:bits .xor .u32 (d:Int) (l[k].toNat:Int)=((d ^^^ l[k].toNat:Nat):Int):=u32_xor_nat d l[k].toNat b (by omega)
   have j:d ^^^ l[k].toNat<4294967296:=Nat.xor_lt_two_pow (n:=32) (by omega) (by omega)
   go_wp2_with (go_at_call 188;(try rw[r]);refine(jeb (d ^^^ l[k].toNat) j _).mono ?_;rintro e w' ⟨rfl,rfl⟩)
   exact⟨⟨k+1,by rw[q.out],by simp,by omega,trivial⟩,by simp[intOf];omega⟩
  ·have D:k=l.length:=by omega
   subst D;rw[xR];have b:=Ta (l:=l) (c:=4294967295) (by omega);have t:Rf.sum l=4294967295-l.foldl Rf.cx 4294967295:=rfl;generalize l.foldl Rf.cx 4294967295=d at b t ⊢;go_wp2;go_ret;refine⟨?_,rfl⟩;have x:IntKind.u32.max=((4294967295:Nat):Int):=by decide
   have m:=u32_xor_nat 4294967295 d (by omega) b;rw[jdk b] at m;rw[<-m,<-x];rfl
def Grown(w:World)(v:Value)(w':World)(v':Value):Prop:=(v'.ownBlock=v.ownBlock\/∃ g,v'.ownBlock=some g/\w.heap.size<=g)/\ja w w' (fun i=>some i=v.ownBlock)
theorem Grown.refl(w:World)(v:Value):Grown w v w v:=⟨.inl rfl,ja.refl _ _⟩
theorem Grown.keeps(h:Grown w v w' v'):ja w w' (fun i=>some i=v.ownBlock):=h.2
theorem Grown.trans{c:World}{x:Value}(h:Grown a u b v)(k:Grown b v c x):Grown a u c x:=by
 obtain⟨d,j⟩:=h;obtain⟨f,m⟩:=k;refine⟨?_,j.trans m (fun i hi e=>?_)⟩
 ·rcases f with f|⟨g,f,l⟩
  ·rw[f];exact d
  ·exact .inr ⟨g,f,ZI j.size l⟩
 ·rcases d with d|⟨g,d,n⟩
  ·exact e.trans d
  ·rw[d] at e;have:=Option.some.inj e;omega
theorem Grown.of(h:ja a b (fun _=>False))(v:Value):Grown a v b v:=⟨.inl rfl,h.up⟩
theorem Grown.grown(d:a.grownBy b u.ownBlock)(c:v.ownBlock=u.ownBlock\/v.ownBlock=some a.heap.size):Grown a u b v:=by
 refine⟨?_,ja.grown d⟩;rcases c with c|c
 ·exact .inl c
 ·exact .inr ⟨_,c,zJ _⟩
theorem Grown.new(h:Grown w v w' v')(b:v.ownBlock=none):ja w w' (fun _=>False):=h.2.mono (fun i _ e=>by rw[b] at e;cases e)
theorem Rf.jeo(x k m:Nat):Rf.big (x/256^(k+1)) m++[UInt8.ofNat (x/256^k%256)]=Rf.big (x/256^k) (m+1):=by
 rw[Rf.big,Nat.div_div_eq_div_mul,Nat.pow_succ]
theorem zm(v:Value)(m:Nat)(xs:List UInt8)(x n base:Nat)(w:World)(R:xs.length=m)(Y:x<18446744073709551616)(Z:n<=8)(hl:m<1099511627776)(G:base<=w.heap.size)(o:w.ownsRow base 5 1 v m (xs.map j5)) :
 Calls prog 107 #[v,.int .u64 x,.int .i64 n] w fun e w'=>∃ p c,e = .returned (.slice p (m+n) c) /\
  w'.ownsRow base 5 1 (.slice p (m+n) c) (m+n) ((xs++Rf.big x n).map j5) /\
  Grown w v w' (.slice p (m+n) c):=by
 subst R;obtain⟨H,L,rfl⟩:=jl o;obtain⟨O,S,B,A,z⟩:=info_parts Tryz.mn;go_enter func107,ntmps107;go_wp2_with fail
 go_loopw [0,7] (fun b i wr=>∃(k:Nat) (p:Option Addr) (c:Nat),k<=n/\i = .int .i64 ((k:Int)-1)/\b = .slice p (xs.length+(n-k)) c /\
  wr.ownsRow base 5 1 (.slice p (xs.length+(n-k)) c) (xs.length+(n-k)) ((xs++Rf.big (x/256^k) (n-k)).map j5) /\
  Grown w (.slice H xs.length L) wr (.slice p (xs.length+(n-k)) c))
  (fun _ i _=>(intOf i+1).toNat)
 case atStart =>
  refine⟨n,H,L,zJ _,rfl,by simp,?_,?_⟩
  ·simpa [Rf.big] using o
  ·simpa using Grown.refl _ _
 case round =>
  obtain⟨k,p,c,hk,rfl,rfl,g,l⟩:=hrel;rcases zN k with rfl|M
  ·have J:x/256^0=x:=by simp
   rw[J,Nat.sub_zero] at g;rw[Nat.sub_zero] at l;clear J;go_wp2;go_ret;refine⟨p,c,by simp,g,l⟩
  ·obtain⟨q,rfl⟩:∃ q,k=q+1:=⟨k-1,by omega⟩
   have s:((x:Int)/2^(8*q)%256)=((UInt8.ofNat (x/256^q%256)).toNat:Int):=by
    have y:(2:Nat)^(8*q)=256^q:=by rw[Nat.pow_mul]
    have U:(UInt8.ofNat (x/256^q%256)).toNat=x/256^q%256:=by simp[XU]
    rw[U,<-y];simp
   have V:=jb s;clear s;have d:=Rf.jeo x q (n-(q+1));have t:n-(q+1)+1=n-q:=by omega
   rw[t] at d;have HS:=jb d;clear d t;have r:=g.alloc (.cells #[.int .u8 ((x:Int)/2^(8*q)%256)] 5);have W:=l.keeps.size;have y:∀ u∈[Value.int .u8 ((x:Int)/2^(8*q)%256)],u.oneCell'=true:=by intro u I;simp at I;subst I;rfl
   have E:Hid (xs.length+(n-(q+1))+1<=maxLen):=by unfold Hid maxLen;omega
   have D:Hid ((xs.length+(n-(q+1))+1)*1<=140737488355328):=by unfold Hid;omega
   have T:base<=(wr.alloc (.cells #[.int .u8 ((x:Int)/2^(8*q)%256)] 5)).heap.size:=by simp;omega
   go_wp2_with (first|(at_builtin;refine jy _ rfl (.tmp 14) (.tmp 20) 84 rfl base 5 O (.int .u8 0) 1 1 underlying84 S B A z rfl (by decide) _ _ _ rfl r ⟨wr.heap.size,0,none⟩ 1 1 [.int .u8 ((x:Int)/2^(8*q)%256)] rfl rfl (cell_one_new _ _ _) y E.out D.out T ?_;intro N F X f C j)|go_in)
   have t:xs.length+(n-(q+1))+1=xs.length+(n-q):=by omega
   rw[t] at f j ⊢;refine⟨⟨q,N,F,by omega,rfl,rfl,?_,l.trans ((Grown.of (ja.alloc wr _ _) _).trans (Grown.grown C j))⟩,by simp[intOf]⟩;rw[<-HS.out,<-XL,xP,zP,List.map_nil];rw[V.out] at f;exact f
theorem xr{base:Nat}(h:w.ownsRow base 5 1 v l.length (l.map j5)):Bytes w v l:=by
 rcases h.2 with⟨e,d⟩|⟨g,cap,i,e,_,f,c,b,_⟩
 ·have:l=[]:=zT d
  subst this;rw[e];exact Bytes.nil w
 ·refine⟨some ⟨g,0,none⟩,cap,e,c,b,(fun h=>by cases h),fun ad had=>?_⟩
  cases had;refine⟨rfl,fun j u hu=>?_⟩;exact h.cells (by rw[e];rfl) j _ (by rw[ZN,hu];rfl)
theorem Bytes.src(h:Bytes w v l):Src prog 1 84 v l.length (l.map j5) w:=by
 obtain⟨p,c,rfl,i,g,f,d⟩:=h
 cases p with
 | none =>
  have:c=0:=f rfl;have b:l=[]:=zT (by omega);subst b;exact Src.ofNil w underlying84 c
 | some ad =>
  refine Src.ofSlice w underlying84 ad l.length c _ (by simp) (fun j u hu=>?_) (dt _);rw[ZN] at hu
  cases hj:l[j]? with
  | none=>rw[hj] at hu;cases hu
  | some x=>rw[hj] at hu;cases hu;exact(d ad rfl).2 j x hj
theorem lf(v:Value)(l:List UInt8)(w:World)(n:Bytes w v l)(N:l.length<1099511627776) :
 Calls prog 105 #[v] w fun e w'=>∃ p c,e = .returned (.slice p (8+l.length) c) /\
  w'.ownsRow w.heap.size 5 1 (.slice p (8+l.length) c) (8+l.length) ((Rf.frame l).map j5)/\ja w w' (fun _=>False):=by
 obtain⟨p,c,rfl,s⟩:=id n;clear s;obtain⟨F,G,r,q,o⟩:=info_parts Tryz.mn;go_enter func105,ntmps105;go_wp2_with fail;refine(zm (.slice none 0 0) 0 [] l.length 4 w.heap.size w rfl (by omega) (by omega) (by omega) (zJ _) (ZL _ _ _ _)).mono ?_;rintro e C ⟨E,H,rfl,f,b⟩;have B:=b.new rfl;have t:=n.same B;simp only[xL,xK] at f b ⊢;go_wp2_with fail;refine(E6 _ l C t).mono ?_;rintro e w' ⟨rfl,rfl⟩;have M:=Rf.M5 l;have O:((Rf.sum l:Nat):Int)%18446744073709551616=(Rf.sum l:Nat):=by omega
 go_wp2_with fail;refine(zm (.slice E 4 H) 4 (Rf.big l.length 4) (Rf.sum l) 4 w.heap.size _ (Rf.js _ _) (by omega) (by omega) (by omega) B.size f).mono ?_;rintro e J ⟨L,R,rfl,d,g⟩;have i:=b.trans g;have A:=i.new rfl;have m:=(n.same A).src;simp only[Nat.reduceAdd] at d g i ⊢;have y:Hid (8+l.length<=maxLen):=by unfold Hid maxLen;omega
 have x:Hid ((8+l.length)*1<=140737488355328):=by unfold Hid;omega
 go_wp2_with (first|(at_builtin;refine Xq _ rfl (.tmp 13) (.tmp 14) 84 84 rfl w.heap.size 5 F (.int .u8 0) 1 1 underlying84 G r q o rfl (by decide) _ 8 _ rfl d _ l.length _ rfl m y.out x.out A.size ?_;intro D z I j u k)|go_in)
 go_ret;refine⟨D,z,rfl,?_,(i.trans (Grown.grown u k)).new rfl⟩;simpa [Rf.frame] using j
theorem add_add(a:Addr)(i j:Nat)(h:a.spot=none):(a.add i).add j=a.add (i+j):=by
 obtain⟨b,o,s⟩:=a;simp only at h;subst h;unfold Addr.add;by_cases hi:i=0<;>by_cases hj:j=0<;>simp[hi,hj]<;>omega
theorem Gc(a:Addr)(i:Nat)(h:a.spot=none):(a.add i).spot=none:=by
 unfold Addr.add
 split
 ·exact h
 ·rfl
theorem Bytes.take(h:Bytes w (.slice p l.length c) l)(n:Nat)(d:n<=l.length):Bytes w (.slice p n c) (l.take n):=by
 obtain⟨i,m,e,k,g,f,b⟩:=h;cases e;refine⟨p,c,by simp[xD d],by simp;omega,g,f,fun ad e=>⟨(b ad e).1,fun j u hu=>(b ad e).2 j u ?_⟩⟩;rw[xW] at hu
 split at hu
 ·exact hu
 ·cases hu
theorem Bytes.drop(h:Bytes w (.slice p l.length c) l)(n:Nat)(g:n<=l.length):Bytes w (.slice (if c=n then p else p.map (·.add n)) (l.length-n) (c-n)) (l.drop n):=by
 obtain⟨f,m,e,k,i,d,b⟩:=h;cases e;refine⟨if c=n then p else p.map (·.add n),c-n,by simp,by simp;omega,by omega,fun e=>?_,fun ad e=>?_⟩
 ·split at e
  ·omega
  ·cases p with
   | none=>have:=d rfl;omega
   | some a=>cases e
 ·split at e
  ·rename_i hc
   refine⟨(b ad e).1,fun j u hu=>?_⟩;have:l.drop n=[]:=XR (by omega);rw[this] at hu;cases hu
  ·cases p with
   | none=>cases e
   | some a =>
    cases e;refine⟨Gc a n (b a rfl).1,fun j u hu=>?_⟩;rw[add_add a n j (b a rfl).1];exact(b a rfl).2 (n+j) u (by rw[List.getElem?_drop] at hu;exact hu)
theorem Bytes.ky{t:TypeId}(h:Bytes w v l)(k:w.heap[r]?=some (.cells #[u] t (0,0)))(g:∃ p n c,u = .slice p n c)(m:ja w w' (fun i=>i=r)):Bytes w' v l:=by
 obtain⟨p,c,rfl,y,s,q,d⟩:=h;refine⟨p,c,rfl,y,s,q,fun ad e=>⟨(d ad e).1,fun j x hx=>?_⟩⟩;have b:=(d ad e).2 j x hx;refine m.cell b (fun hb=>?_);obtain⟨z,A,B,rfl⟩:=g;have o:(ad.add j).spot=none:=Gc ad j (d ad e).1;simp only[World.cell?,hb,k,o] at b;rcases zN (ad.add j).off with f|f
 ·rw[f] at b;simp at b
 ·rw[zI (by simp;omega)] at b;simp at b
def RdB(G:Nat->Prop)(w:World)(r:Nat)(l:List UInt8):Prop:=∃ v,w.heap[r]?=some (.cells #[v] 335 (0,0))/\Bytes w v l/\(l≠[]->∀ p n c,v = .slice (some p) n c->p.block<r/\G p.block)
abbrev Rd(w:World)(r:Nat)(l:List UInt8):Prop:=RdB (fun _=>True) w r l
theorem RdB.same(h:RdB G w r l)(b:ja w w' (fun _=>False)):RdB G w' r l:=by
 obtain⟨v,f,d,c⟩:=h;exact⟨v,b.same f id,d.same b,c⟩
theorem Rd.same(h:Rd w r l)(b:ja w w' (fun _=>False)):Rd w' r l:=RdB.same h b
theorem Bytes.lt{p:Addr}(h:Bytes w (.slice (some p) n c) l)(b:l≠[]):p.block<w.heap.size:=by
 obtain⟨f,k,e,j,i,g,d⟩:=h;cases e
 cases l with
 | nil=>exact absurd rfl b
 | cons x r =>
  have:=xI w _ ((d p rfl).2 0 x rfl);rwa [Ju] at this
theorem Rd.bytes{m:List UInt8}(h:Rd w r l)(d:Bytes w u m)(b:ja w w' (fun i=>i=r)):Bytes w' u m:=by
 obtain⟨v,f,⟨p,c,rfl,_⟩,_⟩:=h;exact d.ky f ⟨_,_,_,rfl⟩ b
theorem Ap(v:Value)(l:List UInt8)(w:World)(b:Bytes w v l)(d:l≠[]->∀ p n c,v = .slice (some p) n c->G p.block) :
 Calls prog 217 #[v] w fun e w'=>∃ r,e = .returned (.pointer (some ⟨r,0,none⟩))/\w.heap.size<=r/\RdB G w' r l/\ja w w' (fun _=>False):=by
 obtain⟨p,c,rfl,_⟩:=id b;go_enter func217,ntmps217;go_wp2;go_ret;exact⟨_,rfl,zJ _,⟨_,je w _,b.same (ja.alloc w _ _),fun hl p' n' c' e=>by cases e;exact⟨b.lt hl,d hl _ _ _ rfl⟩⟩,ja.alloc w _ _⟩
theorem Xk(v:Value)(l:List UInt8)(w:World)(b:Bytes w v l) :
 Calls prog 217 #[v] w fun e w'=>∃ r,e = .returned (.pointer (some ⟨r,0,none⟩))/\w.heap.size<=r/\Rd w' r l/\ja w w' (fun _=>False) :=
 Ap v l w b (fun _ _ _ _ _=>trivial)
theorem Wu(d:RdB G w r l)(t:n<=l.length) :
 Calls prog 259 #[.pointer (some ⟨r,0,none⟩),.int .i64 n] w fun e w'=>∃ v1,e = .returned (.tuple #[v1,.nilIface])/\Bytes w' v1 (l.take n)/\RdB G w' r (l.drop n)/\ja w w' (fun i=>i=r):=by
 obtain⟨v,d,m,q⟩:=d;obtain⟨p,c,rfl,B,z,y⟩:=id m;clear y;unfold maxLen at z;have A:=zA (o:=0) d;have C:=zB (o:=0) d;simp at A;have g:=jb d;clear d;have b:c=n\/¬c=n:=by omega
 have u:n<=c:=by omega
 have s:=m.take n t;have k:=m.drop n t;have f:=fun x=>ja.setCell w ⟨r,0,none⟩ x;rcases b with rfl|b
 ·have j:l.length=c:=by omega
  simp only[if_true,Nat.sub_self,j] at k;go_enter func259,ntmps259;go_wp2;go_ret2;exact⟨_,rfl,s.ky g.out ⟨_,_,_,rfl⟩ (f _),⟨.slice p 0 0,(jd g.out _).trans (by simp),k.ky g.out ⟨_,_,_,rfl⟩ (f _),fun j=>absurd (XR (by omega)) j⟩,f _⟩
 ·simp only[if_neg b] at k
  go_enter func259,ntmps259;go_wp2;go_ret2
  exact⟨_,rfl,s.ky g.out ⟨_,_,_,rfl⟩ (f _),⟨.slice (p.map (·.add n)) (l.length-n) (c-n),(jd g.out _).trans (by simp),k.ky g.out ⟨_,_,_,rfl⟩ (f _),fun j p' n' c' e=>by
   cases p with
   | none=>cases e
   | some a=>cases e;rw[Ju];exact q (fun e=>j (by rw[e];simp)) a _ _ rfl⟩,f _⟩
theorem Fv(S:Xg E B w)(b:Rd w r l)(m:l.length<n)(k:n<=255) :
 Calls prog 259 #[.pointer (some ⟨r,0,none⟩),.int .i64 n] w fun e w'=>∃ v,e = .returned (.tuple #[.slice none 0 0,v])/\Err E w' v 7/\Rd w' r l/\ja w w' (fun _=>False):=by
 obtain⟨v,b,f,d⟩:=id b;obtain⟨p,c,rfl,s,q,g⟩:=id f;clear g;have i:=zA (o:=0) b;have s0:=S.cell 7 (by decide);simp at i;have j:=jb b;clear b;go_enter func259,ntmps259;go_wp2_with fail
 go_region
 all_goals
  go_wp2;go_ret2;exact⟨_,rfl,.base _ (by decide),Rd.same ⟨_,j.out,f,d⟩ (ja.drew w _),ja.drew w _⟩
theorem Rf.Bu(h:k<l.length):Rf.number (l.take (k+1))=Rf.number (l.take k)*256+l[k].toNat:=by
 rw[XG h,Rf.rm]
theorem yo(E:RdB G w r l)(H:n<=l.length)(O:n<=8) :
 Calls prog 242 #[.pointer (some ⟨r,0,none⟩),.int .i64 n] w fun e w'=>e = .returned (.tuple #[.int .u64 (Rf.number (l.take n):Nat),.nilIface])/\RdB G w' r (l.drop n)/\ja w w' (fun i=>i=r):=by
 go_enter func242,ntmps242;go_wp2_with fail;refine(Wu E H).mono ?_;rintro e C ⟨T,rfl,u,o,D⟩;obtain⟨p,c,rfl,J,W,I,z⟩:=id u;have t:(l.take n).length=n:=by simp;omega
 rw[t] at J ⊢;generalize hq:l.take n=q at u z t ⊢;go_wp2_with fail
 go_loopw [8,23] (fun v i wr=>∃(k:Nat),v = .int .u64 (Rf.number (q.take k):Nat)/\i = .int .i64 k/\k<=n/\wr=C)
  (fun _ i _=>n-(intOf i).toNat)
 case atStart=>exact⟨0,rfl,rfl,zG _,rfl⟩
 case round =>
  obtain⟨k,rfl,rfl,U,rfl⟩:=hrel;rcases zV k n with R|S
  ·have F:∃ f,p=some f:=by
    cases p with
    | none=>have:=I rfl;omega
    | some f=>exact⟨f,rfl⟩
   obtain⟨f,rfl⟩:=F
   have j:k<q.length:=by omega
   have V:=(z f rfl).2 k q[k] (by simp[j])
   have m:=Rf.Zz (q.take k)
   have g:(q.take k).length=k:=by simp;omega
   rw[g] at m
   have s:Rf.number (q.take k)<72057594037927936:=ZH m (ZI (Nat.pow_le_pow_right (by omega) (show k<=7 by omega)) (by decide))
   have A:=Rf.Bu j
   have B:=jb A
   clear A m g
   generalize Rf.number (q.take k)=d at s B ⊢
   have M:q[k].toNat<256:=q[k].toNat_lt
   have N:bits .or .u64 ((d:Int)*256) (q[k].toNat:Int)=((d*256+q[k].toNat:Nat):Int):=by
    have y:=u64_or_nat (d*256) q[k].toNat (by omega) (by omega);have x:=Nat.two_pow_add_eq_or_of_lt (i:=8) (b:=q[k].toNat) (by omega) d;rw[show 2^8*d=d*256 by omega] at x;rw[<-x] at y;rw[<-y];simp
   go_wp2
   exact⟨⟨k+1,by rw[B.out];simp,by simp,by omega,trivial⟩,by simp[intOf];omega⟩
  ·have L:k=n:=by omega
   subst L;rw[xF (show q.length<=k by omega)];go_wp2;go_ret2;exact⟨by rw[hq];rfl,o,D⟩
theorem Qq(S:Xg E B w)(i:Rd w r l)(j:l.length<n)(k:n<=8) :
 Calls prog 242 #[.pointer (some ⟨r,0,none⟩),.int .i64 n] w fun e w'=>∃ v,e = .returned (.tuple #[.int .u64 0,v])/\Err E w' v 7/\Rd w' r l/\ja w w' (fun _=>False):=by
 go_enter func242,ntmps242;go_wp2_with fail;refine(Fv S i j (by omega)).mono ?_;rintro e o ⟨v,rfl,f,b,g⟩;obtain⟨t,a,rfl⟩:=f.shape;go_wp2_with fail;refine(zw _ f).mono ?_;rintro e m ⟨p,rfl,c,d⟩;go_wp2;go_ret2;exact⟨_,rfl,c,b.same d,g.tt d⟩
theorem Vw(b:Rd w r []) :
 Calls prog 243 #[.pointer (some ⟨r,0,none⟩)] w fun e w'=>e = .returned .nilIface/\w'=w:=by
 obtain⟨v,b,d,_⟩:=b;obtain⟨p,c,rfl,_⟩:=d;have f:=zA (o:=0) b;simp at f;clear b;go_enter func243,ntmps243;go_wp2;go_ret;exact⟨rfl,rfl⟩
theorem Tg(S:Xg E B w)(b:Rd w r l)(g:l≠[]) :
 Calls prog 243 #[.pointer (some ⟨r,0,none⟩)] w fun e w'=>∃ v,e = .returned v/\Err E w' v 3/\w'=w:=by
 obtain⟨v,b,f,_⟩:=b;obtain⟨p,c,rfl,_⟩:=f;have i:=zA (o:=0) b;have s0:=S.cell 3 (by decide);simp at i;clear b;have d:0<l.length:=ZX.2 g;go_enter func243,ntmps243;go_wp2;go_ret;exact⟨_,rfl,.base _ (by decide),rfl⟩
end Go.Proofs.YtnipbplghijdmaaGreatDoor

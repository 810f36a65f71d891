/-
  D: Run2 ManRead.
-/
import Derived.Test.YtnipbplghijdmaaGreatDoorD01
set_option linter.unusedVariables false
set_option linter.unusedSimpArgs false
namespace Go.Proofs.YtnipbplghijdmaaGreatDoor.Rf
variable {ps:List (Nat×List UInt8)} {k:List UInt8} {i:Nat} {p:Nat×List UInt8} {bl:List (List Ch)} {b:List Ch}
def ahead(ps:List (Nat×List UInt8))(k:List UInt8):Nat:=(ps.takeWhile (fun p=>decide (p.2<k))).length
def ij(ps:List (Nat×List UInt8))(k:List UInt8):Nat :=
 if (ps[ahead ps k]?).map Prod.snd=some k then ahead ps k else ahead ps k-1
def qk(k:List UInt8)(c:Ch):Bool:=decide (¬c.key<k)
def jey(ps:List (Nat×List UInt8))(k:List UInt8):Prop:=∀ i p,ahead ps k<=i->ps[i]?=some p->¬p.2<k
theorem Bf(ps:List (Nat×List UInt8))(k:List UInt8):ahead ps k<=ps.length:=by
 have:=(List.takeWhile_sublist (fun p:Nat×List UInt8=>decide (p.2<k)) (l:=ps)).length_le;exact this
theorem Tt(h:i<ahead ps k)(b:ps[i]?=some p):p.2<k:=by
 unfold ahead at h
 induction ps generalizing i with
 | nil=>simp at h
 | cons x r ih =>
  by_cases hx:x.2<k
  ·rw[List.takeWhile_cons_of_pos (by simpa using hx),zH] at h
   cases i with
   | zero=>cases b;exact hx
   | succ i=>exact ih (by omega) b
  ·rw[List.takeWhile_cons_of_neg (by simpa using hx)] at h
   simp at h
theorem jcg(b:ps[ahead ps k]?=some p):¬p.2<k:=by
 unfold ahead at b
 induction ps with
 | nil=>simp at b
 | cons x r ih =>
  by_cases hx:x.2<k
  ·rw[List.takeWhile_cons_of_pos (by simpa using hx),zH] at b
   exact ih b
  ·rw[List.takeWhile_cons_of_neg (by simpa using hx)] at b
   cases b;exact hx
theorem Laid.order(h:Laid bl){j:Nat}{a:List Ch}(k:bl[i]?=some a)(d:bl[j]?=some b)(l:i<j):∀ x∈a,∀ y∈b,x.key<y.key:=by
 have m:=(zO.1 d).1;have c:=h.rising;rw[<-xQ (i+1) bl,List.flatten_append] at c;unfold jw at c;rw[List.pairwise_append] at c;intro x g y f;refine c.2.2 x (List.mem_flatten.2 ⟨a,?_,g⟩) y (List.mem_flatten.2 ⟨b,?_,f⟩)
 ·rw[xH,k];simp
 ·refine ZP (i:=j-(i+1)) ?_
  rw[List.getElem?_drop,show i+1+(j-(i+1))=j by omega];exact d
theorem Zj(h:1<=b.length):∃ c∈b,Jo b=c.key:=by
 cases b with
 | nil=>simp at h
 | cons c r=>exact⟨c,zR,rfl⟩
theorem Laid.jgz(h:Laid bl)(k:List UInt8):jey (j2 0 bl) k:=by
 intro i p r f;have j:i<(j2 0 bl).length:=(zO.1 f).1;have d:ahead (j2 0 bl) k<(j2 0 bl).length:=by omega
 obtain⟨q,c⟩:∃ q,(j2 0 bl)[ahead (j2 0 bl) k]?=some q:=⟨_,xB d⟩;have g:=jcg c;by_cases e:ahead (j2 0 bl) k=i
 ·rw[e,f] at c
  cases c;exact g
 ·intro b
  rw[xq] at j d;rw[Jd,xB d] at c;rw[Jd,xB j] at f;cases c;cases f;obtain⟨x,m,o⟩:=Zj (h.len _ (xV d)).1;obtain⟨y,l,n⟩:=Zj (h.len _ (xV j)).1;have:=h.order (xB d) (xB j) (by omega) x m y l;simp only at g b;rw[o] at g;rw[n] at b;exact g (XH this b)
theorem Laid.jfd(h:Laid bl)(k:List UInt8):∀ c∈(bl.take (ij (j2 0 bl) k)).flatten,c.key<k:=by
 intro c r;obtain⟨b,s,f⟩:=List.mem_flatten.1 r;obtain⟨j,m,e⟩:=List.getElem_of_mem s;rw[zK] at m;rw[List.getElem_take] at e;have p:=Bf (j2 0 bl) k;rw[xq] at p;have g:bl[j]?=some b:=by rw[xB (by omega),e]
 unfold ij at m
 split at m
 ·rename_i hf
  have d:ahead (j2 0 bl) k<bl.length:=by
   rcases zV (ahead (j2 0 bl) k) bl.length with q|q
   ·exact q
   ·rw[List.getElem?_eq_none_iff.2 (by rw[xq];omega)] at hf;cases hf
  rw[Jd,xB d] at hf;simp at hf;obtain⟨x,l,o⟩:=Zj (h.len _ (xV d)).1;rw[o] at hf;rw[<-hf];exact h.order g (xB d) (by omega) c f x l
 ·have d:ahead (j2 0 bl) k-1<bl.length:=by omega
  have n:=Tt (ps:=j2 0 bl) (k:=k) (i:=ahead (j2 0 bl) k-1) (by omega) (by rw[Jd,xB d];rfl);obtain⟨x,l,o⟩:=Zj (h.len _ (xV d)).1;simp only at n;rw[o] at n;exact XH (h.order g (xB d) (by omega) c f x l) n
def tm(l:List UInt8):Option (Nat×List UInt8):=if 8<=l.length/\number (l.take 8)<=2000000000 then some (number (l.take 8),l.drop 8)else none
def qy:Nat->List UInt8->Option (List Nat×List UInt8)
 | 0,l=>some ([],l)
 | n+1,l =>
  match tm l with
  | none=>none
  | some (x,q) =>
   match qy n q with
   | none=>none
   | some (xs,q')=>some (x::xs,q')
theorem dc{n:Nat}{l q:List UInt8}{xs:List Nat}:qy n l=some (xs,q)↔8*n<=l.length/\xs=zt n l/\q=l.drop (8*n)/\∀ x∈xs,x<=2000000000:=by
 induction n generalizing l xs q with
 | zero =>
  simp only[qy,zt,Nat.mul_zero,List.drop_zero,zG,true_and,Option.some.injEq,Prod.mk.injEq];constructor
  ·rintro⟨rfl,rfl⟩;exact⟨rfl,rfl,fun x b=>by cases b⟩
  ·rintro⟨rfl,rfl,_⟩;exact⟨rfl,rfl⟩
 | succ n ih =>
  unfold qy tm;by_cases hc:8<=l.length/\number (l.take 8)<=2000000000
  ·rw[if_pos hc]
   simp only
   cases h:qy n (l.drop 8)with
   | none =>
    simp only[reduceCtorEq,false_iff];rintro⟨d,rfl,rfl,c⟩;have:qy n (l.drop 8)=some (zt n (l.drop 8),(l.drop 8).drop (8*n)):=ih.2 ⟨by simp;omega,rfl,rfl,fun x b=>c x (by rw[zt];exact zQ _ b)⟩;rw[h] at this;cases this
   | some y =>
    obtain⟨i,j⟩:=y;obtain⟨d,c,f,g⟩:=ih.1 h;simp only[Option.some.injEq,Prod.mk.injEq];constructor
    ·rintro⟨rfl,rfl⟩
     refine⟨by simp at d;omega,by rw[zt,c],by rw[f,zU];congr 1;omega,fun x b=>?_⟩;rcases zF.1 b with rfl|b
     ·exact hc.2
     ·exact g x b
    ·rintro⟨_,rfl,rfl,_⟩
     exact⟨by rw[zt,c],by rw[f,zU];congr 1;omega⟩
  ·rw[if_neg hc]
   simp only[reduceCtorEq,false_iff];rintro⟨d,rfl,rfl,c⟩;exact hc ⟨by omega,c _ (by rw[zt];exact zR)⟩
def Qz(l:List UInt8):Option Man :=
 match qy 4 l with
 | some ([a,b,c,d],q) =>
  if 2<=q.length then
   match qy (number (q.take 2)) (q.drop 2)with
   | some (rs,[])=>some ⟨a,b,c,d,rs⟩
   | _=>none
  else none
 | _=>none
def jaf(l:List UInt8):Option Man :=
 match xh l with
 | some (h,[]) =>
  match Qz h with
  | some m=>if m.Good then some m else none
  | none=>none
 | _=>none
theorem uw(l:List UInt8):zt 4 l=[number (l.take 8),number ((l.drop 8).take 8),number ((l.drop 16).take 8),number ((l.drop 24).take 8)]:=by
 simp[zt,zU]
theorem og{h:List UInt8}{m:Man}(e:Qz h=some m):34<=h.length/\h.length=34+8*number ((h.drop 32).take 2) /\
 m=⟨number (h.take 8),number ((h.drop 8).take 8),number ((h.drop 16).take 8),number ((h.drop 24).take 8),zt (number ((h.drop 32).take 2)) (h.drop 34)⟩/\m.next<=2000000000/\m.last<=2000000000:=by
 unfold Qz at e
 cases h4:qy 4 h with
 | none=>rw[h4] at e;cases e
 | some y =>
  obtain⟨xs,q⟩:=y;obtain⟨n,c,l,b⟩:=dc.1 h4;rw[uw] at c;subst c;rw[h4] at e;simp only at e
  split at e
  ·rename_i h2
   cases hr:qy (number (q.take 2)) (q.drop 2)with
   | none=>rw[hr] at e;cases e
   | some z =>
    obtain⟨rs,d⟩:=z;rw[hr] at e
    cases d with
    | cons _ _=>cases e
    | nil =>
     simp only[Option.some.injEq] at e;obtain⟨k,j,i,o⟩:=dc.1 hr;subst l;have g:(h.drop 32).drop 2=h.drop 34:=by rw[zU]
     have f:=congrArg List.length i;simp at n h2 k f;refine⟨by omega,by omega,?_,?_,?_⟩
     ·rw[<-e,j,g]
     ·rw[<-e];exact b _ zR
     ·rw[<-e];exact b _ (zQ _ zR)
  ·cases e
theorem jdt(l:List UInt8):jaf l=Ak l:=by
 unfold jaf Ak
 cases hf:xh l with
 | none=>rfl
 | some y =>
  obtain⟨h,q⟩:=y
  cases q with
  | cons a b=>simp
  | nil =>
   simp only[true_and]
   cases hr:Qz h with
   | some m =>
    obtain⟨r,p,o,_,_⟩:=og hr;rw[if_pos ⟨r,p⟩];simp only[<-o]
   | none =>
    simp only;by_cases hc:34<=h.length/\h.length=34+8*number ((h.drop 32).take 2)
    ·rw[if_pos hc]
     by_cases hg:Man.Good ⟨number (h.take 8),number ((h.drop 8).take 8),number ((h.drop 16).take 8),number ((h.drop 24).take 8),zt (number ((h.drop 32).take 2)) (h.drop 34)⟩
     ·exfalso
      obtain⟨k,t,s,z⟩:=hg;simp only at k t;have c:∀ n∈Man.numbers ⟨number (h.take 8),number ((h.drop 8).take 8),number ((h.drop 16).take 8),number ((h.drop 24).take 8),zt (number ((h.drop 32).take 2)) (h.drop 34)⟩,n<=2000000000:=fun n hn=>by have:=(s n hn).2;simp only at this;omega
      have g:=c (number ((h.drop 16).take 8)) (by simp[Man.numbers])
      have f:number ((h.drop 24).take 8)<=2000000000:=by
       by_cases hb:number ((h.drop 24).take 8)=0
       ·omega
       ·exact c _ (by simp[Man.numbers,Man.settled,hb])
      have d:∀ n∈zt (number ((h.drop 32).take 2)) (h.drop 34),n<=2000000000:=fun n hn=>c n (by unfold Man.numbers Man.settled;split<;>simp[hn])
      have v:qy 4 h=some ([number (h.take 8),number ((h.drop 8).take 8),number ((h.drop 16).take 8),number ((h.drop 24).take 8)],h.drop 32):=dc.2 ⟨by omega,(uw h).symm,rfl,by
       intro x i
       simp only[zF,XJ,or_false] at i
       rcases i with rfl|rfl|rfl|rfl
       ·exact k
       ·omega
       ·exact g
       ·exact f⟩
      have j:(h.drop 32).drop 2=h.drop 34:=by rw[zU]
      have u:qy (number ((h.drop 32).take 2)) ((h.drop 32).drop 2)=some (zt (number ((h.drop 32).take 2)) (h.drop 34),[]):=dc.2 ⟨by simp;omega,by rw[j],by rw[j,zU];exact(XR (by omega)).symm,d⟩;unfold Qz at hr;rw[v] at hr;simp only at hr;rw[if_pos (by simp;omega),u] at hr;cases hr
     ·rw[if_neg hg]
    ·rw[if_neg hc]
end Go.Proofs.YtnipbplghijdmaaGreatDoor.Rf

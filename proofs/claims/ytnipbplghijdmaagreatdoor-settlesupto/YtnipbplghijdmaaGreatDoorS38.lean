/-
  S: RGood RGood2 RGood3 ROwn ROpen ROpen2 LawD LawE LawF ShutW ShutO LawP LawG LawH.
-/
import Derived.Test.YtnipbplghijdmaaGreatDoorS37
set_option maxRecDepth 100000
set_option maxHeartbeats 8000000
set_option linter.unusedVariables false
set_option linter.unusedSimpArgs false
namespace Go.Proofs.YtnipbplghijdmaaGreatDoor
open Go.Proofs.Tryz
variable {a b c r:List UInt8} {k m n:Nat} {l:List Rf.Ch}
theorem jev(n m:Nat):Rf.big n m=Rf.big (n%256^m) m:=by
 induction m generalizing n with
 | zero=>rfl
 | succ m ih =>
  show Rf.big (n/256) m++[UInt8.ofNat (n%256)]=Rf.big (n%256^(m+1)/256) m++[UInt8.ofNat (n%256^(m+1)%256)]
  have c:n%256^(m+1)/256=n/256%256^m:=by
   rw[xK,Nat.mul_comm,Nat.mod_mul_right_div_self]
  have b:n%256^(m+1)%256=n%256:=by
   rw[xK,Nat.mul_comm];exact Nat.mod_mul_right_mod n 256 (256^m)
  rw[c,b,<-ih]
theorem jbs(m:Nat):∀(n v:Nat),n<256^m->v*256^m+n<=4294967295->om (Rf.big n m) v=some (v*256^m+n):=by
 induction m with
 | zero =>
  intro n v f k;have:n=0:=by simpa using f
  subst this;simp[Rf.big,om]
 | succ m ih =>
  intro n v f k;rw[Kz];have g:0<256^m:=Nat.pow_pos (by omega);have i:256^(m+1)=256^m*256:=xK ..;have j:n/256^m<256:=by rw[Nat.div_lt_iff_lt_mul g];rw[i,Nat.mul_comm] at f;exact f
  have b:=Nat.div_add_mod n (256^m);have c:=Nat.mod_lt n g;generalize hq:n/256^m=d at j b;generalize hr:n%256^m=r at b c;have o:(UInt8.ofNat (d%256)).toNat=d:=by rw[XD];omega
  have l:(v*256+d)*256^m+r=v*256^(m+1)+n:=by
   rw[i,<-b,Nat.add_mul,Nat.mul_assoc,Nat.mul_comm 256 (256^m),Nat.mul_comm d,ZL]
  have p:v*256+d<=(v*256+d)*256^m:=Nat.le_mul_of_pos_right _ g;unfold om;rw[o,if_neg (by omega),jev,hr,ih r _ c (by omega),l]
theorem ah(d:n<256^m)(b:n<=4294967295):qo (a++(Rf.big n m++c)) a.length m=(n:Int):=by
 unfold qo;rw[if_neg (by simp only[ZY,Rf.ji];omega),List.drop_left,List.take_left' (Rf.ji n m),jbs m n 0 d (by simpa using b)];simp
theorem jbr(b:a.length<k+m):qo a k m = -1:=by
 unfold qo;rw[if_pos b]
theorem Bc(k:b.length<=4294967295):qt (a++(Rf.frame b++c)) a.length=(b,((a.length+(Rf.frame b).length:Nat):Int)):=by
 have l:=tt b
 have i:qo (a++(Rf.frame b++c)) a.length 4=(b.length:Int):=by
  unfold Rf.frame;rw[ZK,ZK];exact ah (by omega) k
 have g:qo (a++(Rf.frame b++c)) (a.length+4) 4=(Rf.sum b:Int):=by
  have e:a++(Rf.frame b++c)=(a++Rf.big b.length 4)++(Rf.big (Rf.sum b) 4++(b++c)):=by
   unfold Rf.frame;simp only[ZK]
  have d:a.length+4=(a++Rf.big b.length 4).length:=by rw[ZY,Rf.ji]
  rw[e,d];exact ah (by omega) (by omega)
 have j:((a++(Rf.frame b++c)).drop (a.length+8)).take b.length=b:=by
  have e:a++(Rf.frame b++c)=(a++(Rf.big b.length 4++Rf.big (Rf.sum b) 4))++(b++c):=by
   unfold Rf.frame;simp only[ZK]
  have d:a.length+8=(a++(Rf.big b.length 4++Rf.big (Rf.sum b) 4)).length:=by simp only[ZY,Rf.ji]
  rw[e,d,List.drop_left,List.take_left' rfl]
 have f:(Rf.frame b).length=8+b.length:=by unfold Rf.frame;simp only[ZY,Rf.ji]
 unfold qt
 rw[i,g,ZX,j,if_neg (by
  rintro(t|t|t)
  ·omega
  ·omega
  ·simp only[ZY,f] at t
   omega),if_neg (by simp),f]
 congr 1;omega
theorem Su(l:List UInt8):qt l l.length=([],-1):=by
 unfold qt;rw[if_pos (.inl (by rw[jbr (by omega)];omega))]
theorem Dg{t:List UInt8}{b most:Nat}(l:b<=t.length)(k:t.length<=most)(j:most<=255):yx (a++(Rf.text t++c)) a.length b most=(t,((a.length+(Rf.text t).length:Nat):Int)):=by
 have f:qo (a++(Rf.text t++c)) a.length 1=(t.length:Int):=by
  unfold Rf.text;rw[ZK];exact ah (by omega) (by omega)
 have g:((a++(Rf.text t++c)).drop (a.length+1)).take t.length=t:=by
  have e:a++(Rf.text t++c)=(a++Rf.big t.length 1)++(t++c):=by
   unfold Rf.text;simp only[ZK]
  have i:a.length+1=(a++Rf.big t.length 1).length:=by simp only[ZY,Rf.ji]
  rw[e,i,List.drop_left,List.take_left' rfl]
 have d:(Rf.text t).length=1+t.length:=by unfold Rf.text;simp only[ZY,Rf.ji]
 unfold yx
 rw[f,ZX,g,if_neg (by
  rintro(t|t|t)
  ·omega
  ·omega
  ·simp only[ZY,d] at t
   omega),d]
 congr 1;omega
theorem Ug{x:UInt8}:qo (a++(x::c)) a.length 1=(x.toNat:Int):=by
 have e:Rf.big x.toNat 1=[x]:=by
  unfold Rf.big;simp[Rf.big]
 have:=ah (a:=a) (c:=c) (n:=x.toNat) (m:=1) (by have:=x.toNat_lt;omega) (by have:=x.toNat_lt;omega);rw[e] at this;exact this
theorem jcq{c:Rf.Ch}(h:Rf.allowed c=true):tq (a++(Rf.entry c++r)) a.length=some (c,a.length+(Rf.entry c).length):=by
 obtain⟨k,j,m,l⟩:=(Rf.xz c).1 h;obtain⟨b,cv,p⟩:=c;simp only at k j m l
 cases p with
 | true =>
  have o:cv=[]:=l rfl;subst o;have e:Rf.entry ⟨b,[],true⟩=2::Rf.text b:=rfl;have i:qo (a++(Rf.entry ⟨b,[],true⟩++r)) a.length 1=2:=by rw[e];exact Ug
  have g:yx (a++(Rf.entry ⟨b,[],true⟩++r)) (a.length+1) 1 16=(b,((a.length+(Rf.entry ⟨b,[],true⟩).length:Nat):Int)):=by
   have f:a++(Rf.entry ⟨b,[],true⟩++r)=(a++[2])++(Rf.text b++r):=by rw[e];simp
   have d:a.length+1=(a++[(2:UInt8)]).length:=by simp
   rw[f,d,Dg k j (by omega),e];simp only[ZY,zX,xU];congr 2;omega
  unfold tq;rw[i,g];simp;omega
 | false =>
  have e:Rf.entry ⟨b,cv,false⟩=1::(Rf.text b++Rf.text cv):=rfl;have i:qo (a++(Rf.entry ⟨b,cv,false⟩++r)) a.length 1=1:=by rw[e];exact Ug
  have g:yx (a++(Rf.entry ⟨b,cv,false⟩++r)) (a.length+1) 1 16=(b,((a.length+1+(Rf.text b).length:Nat):Int)):=by
   have f:a++(Rf.entry ⟨b,cv,false⟩++r)=(a++[1])++(Rf.text b++(Rf.text cv++r)):=by rw[e];simp
   have d:a.length+1=(a++[(1:UInt8)]).length:=by simp
   rw[f,d,Dg k j (by omega)]
  have n:yx (a++(Rf.entry ⟨b,cv,false⟩++r)) (a.length+1+(Rf.text b).length) 0 40=(cv,((a.length+(Rf.entry ⟨b,cv,false⟩).length:Nat):Int)):=by
   have f:a++(Rf.entry ⟨b,cv,false⟩++r)=(a++(1::Rf.text b))++(Rf.text cv++r):=by rw[e];simp
   have d:a.length+1+(Rf.text b).length=(a++((1:UInt8)::Rf.text b)).length:=by simp;omega
   rw[f,d,Dg (by omega) m (by omega),e];simp only[ZY,zX];congr 2;omega
  unfold tq;rw[i,g,ZX,n];simp;omega
theorem jco(es:List Rf.Ch):∀(a r:List UInt8),(∀ c∈es,Rf.allowed c=true)->Zn (a++(es.flatMap Rf.entry++r)) es.length a.length=some (es,a.length+(es.flatMap Rf.entry).length):=by
 induction es with
 | nil=>intro a r _;simp[Zn]
 | cons c t ih =>
  intro a r h;rw[xL,ZK,zX];unfold Zn;rw[jcq (h c xJ)];simp only;have d:a++(Rf.entry c++(t.flatMap Rf.entry++r))=(a++Rf.entry c)++(t.flatMap Rf.entry++r):=by simp
  have b:a.length+(Rf.entry c).length=(a++Rf.entry c).length:=by simp
  rw[d,b,ih _ r (fun x hx=>h x (xI _ hx))];simp;omega
theorem Ur{es:List Rf.Ch}(h:∀ c∈es,Rf.allowed c=true):Yb (a++es.flatMap Rf.entry) a.length es.length=(es,true):=by
 have:=jco es a [] h;rw[ZC] at this;unfold Yb;rw[this];simp
theorem Vi{b:List Rf.Ch}(k:1<=b.length)(j:b.length<=4)(h:∀ c∈b,Rf.allowed c=true):Aw (a++(Rf.jm b++r)) a.length=some (b,a.length+(Rf.jm b).length):=by
 have i:=Rf.Jf h
 have f:qt (a++(Rf.jm b++r)) a.length=(Rf.big b.length 1++b.flatMap Rf.entry,((a.length+(Rf.jm b).length:Nat):Int)):=by
  unfold Rf.jm;exact Bc (by rw[ZY,Rf.ji];omega)
 have d:qo (Rf.big b.length 1++b.flatMap Rf.entry) 0 1=(b.length:Int):=by
  have:=ah (a:=[]) (c:=b.flatMap Rf.entry) (n:=b.length) (m:=1) (by omega) (by omega);simpa using this
 have g:Yb (Rf.big b.length 1++b.flatMap Rf.entry) 1 b.length=(b,true):=by
  have:=Ur (a:=Rf.big b.length 1) h;rw[Rf.ji] at this;exact this
 unfold Aw;rw[f];simp only;rw[d,ZX,g,if_neg (by rintro(t|t|t)<;>omega)];simp;omega
theorem G7(b:List Rf.Ch):0<(Rf.jm b).length:=by
 unfold Rf.jm Rf.frame;simp only[ZY,Rf.ji];omega
theorem jdu(cs:List (List Rf.Ch)):∀(a r:List UInt8) (f:Nat),(∀ b∈cs,1<=b.length/\b.length<=4/\∀ c∈b,Rf.allowed c=true)->cs.length<f->tu (a++(cs.flatMap Rf.jm++r)) (a.length+(cs.flatMap Rf.jm).length) f a.length=some cs.flatten:=by
 induction cs with
 | nil =>
  intro a r f _ g;obtain⟨d,rfl⟩:∃ d,f=d+1:=⟨f-1,by omega⟩;simp[tu]
 | cons b t ih =>
  intro a r f h g;obtain⟨d,rfl⟩:∃ d,f=d+1:=⟨f-1,by simp at g;omega⟩;obtain⟨k,j,i⟩:=h b xJ;have o:=G7 b;unfold tu;rw[if_pos (by rw[xL,ZY];omega),xL,ZK,Vi k j i];simp only;have n:a++(Rf.jm b++(t.flatMap Rf.jm++r))=(a++Rf.jm b)++(t.flatMap Rf.jm++r):=by simp
  have m:a.length+(Rf.jm b).length=(a++Rf.jm b).length:=by simp
  have l:a.length+(Rf.jm b++t.flatMap Rf.jm).length=(a++Rf.jm b).length+(t.flatMap Rf.jm).length:=by simp only[ZY];omega
  rw[n,m,l,ih _ r d (fun x hx=>h x (xI _ hx)) (by simpa using g)];simp
theorem Ie(h:Rf.jy l):Xu l l.length:=fun i hi a b ha hb=>by
 have c:i<l.length:=by omega
 rw[zL c] at ha
 rw[zL hi] at hb
 cases ha
 cases hb
 exact(List.pairwise_iff_getElem.1 h) i (i+1) c hi (by omega)
open Classical in
theorem Ns(h:Rf.mo l):rrR (Rf.jn l)=(l,true):=by
 have f:=Rf.mc h.allowed;have r:=h.few;obtain⟨d,i⟩:∃ d,d=(Rf.chunks l).flatMap Rf.jm:=⟨_,rfl⟩;obtain⟨g,p⟩:∃ g,g=Rf.frame (Rf.big (Rf.chunks l).length 2++(Rf.js 0 (Rf.chunks l)).flatMap Rf.xe):=⟨_,rfl⟩
 have e:Rf.jn l=d++g++Rf.big d.length 4:=by
  rw[i,p];rfl
 have j:(Rf.jn l).length=d.length+g.length+4:=by rw[e];simp only[ZY,Rf.ji]
 have s:qo (Rf.jn l) ((Rf.jn l).length-4) 4=(d.length:Int):=by
  have v:(Rf.jn l).length-4=(d++g).length:=by rw[j,ZY];omega
  have:=ah (a:=d++g) (c:=[]) (n:=d.length) (m:=4) (by omega) (by omega);rw[ZC] at this;rw[v,e];exact this
 have o:∀ b∈Rf.chunks l,1<=b.length/\b.length<=4/\∀ c∈b,Rf.allowed c=true:=fun b f=>⟨(Rf.cd f).1,(Rf.cd f).2,fun c hc=>h.allowed c (Rf.uj f c hc)⟩;have z:=Rf.Xl l
 have y:l.length<=(Rf.jn l).length:=by
  have u:∀ cs:List (List Rf.Ch),(∀ b∈cs,b.length<=4)->cs.flatten.length<=(cs.flatMap Rf.jm).length:=by
   intro cs
   induction cs with
   | nil=>intro _;simp
   | cons b t ih =>
    intro f;have q:=ih (fun x hx=>f x (xI _ hx));have B:=f b xJ;have A:4<=(Rf.jm b).length:=by unfold Rf.jm Rf.frame;simp only[ZY,Rf.ji];omega
    rw[List.flatten_cons,xL,ZY,ZY];omega
  have q:=u (Rf.chunks l) (fun b f=>(Rf.cd f).2);rw[Rf.Qd,<-i] at q;omega
 have k:=jdu (Rf.chunks l) [] (g++Rf.big d.length 4) ((Rf.jn l).length+1) o (by omega);rw[<-i,xZ,<-ZK,<-e,Rf.Qd] at k;simp only[xU,zP] at k;unfold rrR;rw[if_neg (by omega),s,if_neg (by omega),ZX,k];simp only;rw[if_pos (Ie h.rising)];simp[h.some]
theorem Vl{b:List Rf.Ch}{last:Nat}(h:Rf.qy b=true)(l:last+1<=1000000000):fk (a++(Rf.jt (last+1) b++r)) a.length last=some (b,a.length+(Rf.jt (last+1) b).length):=by
 obtain⟨p,o,d⟩:=(Rf.yd b).1 h;have k:=Rf.Jf d
 have i:qt (a++(Rf.jt (last+1) b++r)) a.length=(Rf.big (last+1) 8++Rf.big b.length 1++b.flatMap Rf.entry,((a.length+(Rf.jt (last+1) b).length:Nat):Int)):=by
  unfold Rf.jt;exact Bc (by simp only[ZY,Rf.ji];omega)
 have g:qo (Rf.big (last+1) 8++Rf.big b.length 1++b.flatMap Rf.entry) 0 8=(last:Int)+1:=by
  have:=ah (a:=[]) (c:=Rf.big b.length 1++b.flatMap Rf.entry) (n:=last+1) (m:=8) (by omega) (by omega);rw[ZK];simpa using this
 have f:qo (Rf.big (last+1) 8++Rf.big b.length 1++b.flatMap Rf.entry) 8 1=(b.length:Int):=by
  have:=ah (a:=Rf.big (last+1) 8) (c:=b.flatMap Rf.entry) (n:=b.length) (m:=1) (by omega) (by omega);rw[ZK];rw[Rf.ji] at this;exact this
 have j:Yb (Rf.big (last+1) 8++Rf.big b.length 1++b.flatMap Rf.entry) 9 b.length=(b,true):=by
  have:=Ur (a:=Rf.big (last+1) 8++Rf.big b.length 1) d;rw[ZY,Rf.ji,Rf.ji] at this;exact this
 unfold fk;rw[i];simp only;rw[g,f,ZX,j,if_neg (by omega),if_neg (by rintro(t|t|t|t)<;>omega)];simp;omega
theorem jdw(bs:List (List Rf.Ch)):∀(a:List UInt8) (last f:Nat),(∀ b∈bs,Rf.qy b=true)->last+bs.length<=1000000000->bs.length<f->Nu (a++Rf.jl last bs) f a.length last=bs:=by
 induction bs with
 | nil =>
  intro a last f _ _ d;obtain⟨c,rfl⟩:∃ c,f=c+1:=⟨f-1,by omega⟩
  have g:fk a a.length last=none:=by
   unfold fk;rw[Su];simp
  have e:a++Rf.jl last []=a:=by simp[Rf.jl]
  rw[e];unfold Nu;rw[g]
 | cons b t ih =>
  intro a last f h i d;obtain⟨c,rfl⟩:∃ c,f=c+1:=⟨f-1,by simp at d;omega⟩;have e:Rf.jl last (b::t)=Rf.jt (last+1) b++Rf.jl (last+1) t:=by simp[Rf.jl,Rf.jt]
  rw[zX] at i;unfold Nu;rw[e,Vl (h b xJ) (by omega)];simp only;have k:a++(Rf.jt (last+1) b++Rf.jl (last+1) t)=(a++Rf.jt (last+1) b)++Rf.jl (last+1) t:=by simp
  have j:a.length+(Rf.jt (last+1) b).length=(a++Rf.jt (last+1) b).length:=by simp
  rw[k,j,ih _ _ c (fun x hx=>h x (xI _ hx)) (by omega) (by simpa using d)]
theorem ja6{bs:List (List Rf.Ch)}{c:Nat}(h:∀ b∈bs,Rf.qy b=true)(f:c+bs.length<=1000000000):rlR (Rf.jl c bs) c=bs:=by
 have d:bs.length<=(Rf.jl c bs).length:=by
  have H:∀(bs:List (List Rf.Ch)) (c:Nat),bs.length<=(Rf.jl c bs).length:=by
   intro bs
   induction bs with
   | nil=>intro c;simp
   | cons b t ih =>
    intro c;have e:Rf.jl c (b::t)=Rf.jt (c+1) b++Rf.jl (c+1) t:=by simp[Rf.jl,Rf.jt]
    have i:=ih (c+1);have g:1<=(Rf.jt (c+1) b).length:=by unfold Rf.jt Rf.frame;simp only[ZY,Rf.ji];omega
    rw[e,ZY,zX];omega
  exact H bs c
 have:=jdw bs [] c ((Rf.jl c bs).length+1) h f (by omega);exact this
theorem ri{l:List UInt8}{p:Nat}(e:l=a++(Rf.big n k++c))(b:p=a.length)(f:n<256^k)(d:n<=4294967295):qo l p k=(n:Int):=by
 rw[e,b];exact ah f d
def sy(m:Rf.Man):List UInt8:=Rf.big m.next 8++Rf.big m.last 8++Rf.big m.log 8++Rf.big m.base 8++Rf.big m.runs.length 2++m.runs.flatMap fun r=>Rf.big r 8
theorem Cd(l:List Nat):(l.flatMap fun r=>Rf.big r 8).length=8*l.length:=by
 induction l with
 | nil=>rfl
 | cons a t ih=>rw[xL,ZY,Rf.ji,ih,zX];omega
theorem L8(m:Rf.Man):(sy m).length=34+8*m.runs.length:=by
 unfold sy;simp only[ZY,Rf.ji,Cd]
theorem Se{m:Rf.Man}(h:m.Good)(l:m.runs.length<65536):je6 m.bytes (sy m) m:=by
 have q:m.log<m.next:=(h.2.2.1 m.log (ZD.2 (.inr (ZE.2 rfl)))).2;have g:∀ i (h:i<m.runs.length),m.runs[i]<m.next:=fun i hi=>(h.2.2.1 _ (m.X7.subset (ZD.2 (.inr (zV hi))))).2
 have s:m.base<m.next:=by
  by_cases e:m.base=0
  ·omega
  ·exact(h.2.2.1 _ (m.X7.subset (ZD.2 (.inl (by unfold Rf.Man.na;rw[if_neg e];simp))))).2
 have j:=h.1;have t:=h.2.1;have f:=L8 m;have d:∀ n,n<=2000000000->n<256^8:=fun n j=>by omega
 refine⟨?_,?_,?_,?_,?_,?_,f,?_,h,l⟩
 ·have k:=Bc (a:=[]) (b:=sy m) (c:=[]) (by omega)
  rw[xZ,ZC,xU,zP] at k;exact k
 ·exact ri (a:=[]) (c:=Rf.big m.last 8++Rf.big m.log 8++Rf.big m.base 8++Rf.big m.runs.length 2++m.runs.flatMap fun r=>Rf.big r 8) (by unfold sy;simp only[ZK,xZ]) rfl (d _ j) (by omega)
 ·exact ri (a:=Rf.big m.next 8) (c:=Rf.big m.log 8++Rf.big m.base 8++Rf.big m.runs.length 2++m.runs.flatMap fun r=>Rf.big r 8) (by unfold sy;simp only[ZK]) (by simp only[Rf.ji]) (d _ (by omega)) (by omega)
 ·exact ri (a:=Rf.big m.next 8++Rf.big m.last 8) (c:=Rf.big m.base 8++Rf.big m.runs.length 2++m.runs.flatMap fun r=>Rf.big r 8) (by unfold sy;simp only[ZK]) (by simp only[ZY,Rf.ji]) (d _ (by omega)) (by omega)
 ·exact ri (a:=Rf.big m.next 8++Rf.big m.last 8++Rf.big m.log 8) (c:=Rf.big m.runs.length 2++m.runs.flatMap fun r=>Rf.big r 8) (by unfold sy;simp only[ZK]) (by simp only[ZY,Rf.ji]) (d _ (by omega)) (by omega)
 ·exact ri (a:=Rf.big m.next 8++Rf.big m.last 8++Rf.big m.log 8++Rf.big m.base 8) (c:=m.runs.flatMap fun r=>Rf.big r 8) (by unfold sy;simp only[ZK]) (by simp only[ZY,Rf.ji]) (by omega) (by omega)
 ·intro i hi
  have p:=g i hi
  have e:m.runs=m.runs.take i++m.runs[i]::m.runs.drop (i+1):=by
   rw[<-ZP hi,ZR]
  have o:(m.runs.flatMap fun r=>Rf.big r 8)=((m.runs.take i).flatMap fun r=>Rf.big r 8)++(Rf.big m.runs[i] 8++((m.runs.drop (i+1)).flatMap fun r=>Rf.big r 8)):=by
   conv=>lhs;rw[e]
   rw[xM,xL]
  refine ri (a:=Rf.big m.next 8++Rf.big m.last 8++Rf.big m.log 8++Rf.big m.base 8++Rf.big m.runs.length 2++((m.runs.take i).flatMap fun r=>Rf.big r 8)) (c:=(m.runs.drop (i+1)).flatMap fun r=>Rf.big r 8) ?_ ?_ (d _ (by omega)) (by omega)
  ·unfold sy
   rw[o];simp only[ZK]
  ·simp only[ZY,Rf.ji,Cd,ZT]
   omega
theorem jem{fs V:List (Str×List UInt8)}(c:fs.Perm V)(f:V.Pairwise (fun p q=>p.1≠q.1)){nm:Str}(d:(nm,b)∈V):∃(i:Nat) (h:i<fs.length),gy fs nm=(i:Int)/\fs[i].1=nm/\fs[i].2=b:=by
 rcases Pd fs nm with⟨_,h⟩|⟨i,hi,k,g⟩
 ·exact absurd rfl (h _ (c.symm.subset d))
 ·refine⟨i,hi,k,g,?_⟩
  have j:(nm,fs[i].2)∈V:=by
   have:=c.subset (zV hi);rw[<-g];exact this
  have m:=Ae f d;have l:=Ae f j;rw[<-l,m]
end Go.Proofs.YtnipbplghijdmaaGreatDoor
namespace Go.Proofs.YtnipbplghijdmaaGreatDoor
open RowKit Maps WideShapes Go.Proofs.Tryz
def ElG(W:World)(H:Nat->Prop)(x:Value)(es:List Rf.Ch):Prop:=Chs W x es/\∀ g,x.ownBlock=some g->H g
theorem ElG.keep{W W':World}{H b T:Nat->Prop}{x:Value}{es:List Rf.Ch}(h:ElG W H x es)(k:ja W W' T)(d:∀ i,H i->¬T i)(f:∀ i,H i->b i):ElG W' b x es :=
 ⟨h.1.keep k (fun _ p n c e hu=>d _ (h.2 p.block (by rw[e];rfl)) hu),fun g hg=>f g (h.2 g hg)⟩
def Vls(W:World)(v:Value)(ys:List Value):Prop :=
 ∃ p c,v = .slice p ys.length c/\ys.length<=c/\c<=maxLen/\(p=none->c=0)/\∀ ad,p=some ad->ad.spot=none/\∀ j u,ys[j]?=some u->W.cell? (ad.add j)=some u
theorem Vls.keep{W W':World}{v:Value}{b:List Value}{T:Nat->Prop}(h:Vls W v b)(k:ja W W' T)(f:∀ g,v.ownBlock=some g->¬T g):Vls W' v b:=by
 obtain⟨p,c,rfl,m,l,i,d⟩:=h;exact⟨p,c,rfl,m,l,i,fun ad e=>⟨(d ad e).1,fun j u hu=>k.cell ((d ad e).2 j u hu) (by rw[Jp];exact f ad.block (by rw[e];rfl))⟩⟩
theorem Vls.nil(W:World):Vls W (.slice none 0 0) []:=⟨none,0,rfl,xA _,zU _,fun _=>rfl,fun _ h=>by cases h⟩
theorem Dd{W:World}{base:Nat}{e:TypeId}{v:Value}{b:List Value}{n:Nat}(h:W.ownsRow base e 1 v n b):Vls W v b:=by
 have f:b.length=n:=by have:=h.1;omega
 rcases h.2 with⟨c,p⟩|⟨g,cap,l,c,_,d,o,k,m,i⟩
 ·have:b=[]:=xB (by omega)
  subst this;rw[c];exact Vls.nil W
 ·refine⟨some ⟨g,0,none⟩,cap,by rw[f];exact c,by omega,k,(fun h=>by cases h),fun ad had=>?_⟩
  cases had;refine⟨rfl,fun j u hu=>?_⟩;rw[Ju,zA d,zP];rw[<-i,zK] at hu
  split at hu
  ·simpa using hu
  ·cases hu
theorem Vls.src{W:World}{v:Value}{b:List Value}(h:Vls W v b)(f:∀ u∈b,u.oneCell'=true):Src prog 1 27 v b.length b W:=by
 obtain⟨p,c,rfl,l,k,i,g⟩:=h
 cases p with
 | none =>
  have:c=0:=i rfl;have d:b=[]:=xB (by omega);subst d;exact Src.ofNil W underlying27 c
 | some ad=>exact Src.ofSlice W underlying27 ad b.length c _ (by simp) (fun j u hu=>(g ad rfl).2 j u hu) f
structure pj(W:World)(y:Nat)(s:Rf.St)(cl:Bool)(G:Nat->Prop)(bv lv rv xv:Value)(H:Nat->Prop)(xs:List Value):Prop where
 row:W.heap[y]?=some (.cells #[jf s.m.next,jf s.m.last,jf s.m.log,jf s.m.base,bv,lv,rv,xv,.bool cl] 108 (0,0))
 G5:W.ownsRow 0 38 1 bv s.bs.length xs
 bel:∀ j (h:j<s.bs.length),∃ x,xs[j]?=some x/\ElG W H x s.bs[j]
 bas:ElG W H lv s.bl
 run:zl W rv s.m.runs
 Vf:∀ g,rv.ownBlock=some g->H g
 rls:∃ ys,Vls W xv ys/\ys.length=s.rls.length/\(∀ g,xv.ownBlock=some g->H g)/\∀ j (h:j<s.rls.length),∃ x,ys[j]?=some x/\ElG W H x s.rls[j]
 ok:s.Ok
 few:x7 s.bs+x7 s.bls<4000000/\s.bs.length<1000000/\s.bls.length<1000000
 ny:¬H y
 nb:∀ g,bv.ownBlock=some g->¬H g/\g≠y
 lt:∀ i,H i->i<W.heap.size
 J9:∀ i,G i↔(H i\/i=y\/bv.ownBlock=some i)
def dc(W:World)(y:Nat)(s:Rf.St)(cl:Bool)(G:Nat->Prop):Prop:=∃ bv lv rv xv H xs,pj W y s cl G bv lv rv xv H xs
def ym(W:World)(y:Nat)(s:Rf.St)(cl:Bool)(G:Nat->Prop)(W':World):Prop:=∃ G',dc W' y s cl G'/\ja W W' G/\∀ i,G' i->G i\/W.heap.size<=i
section
variable {W W':World} {y:Nat} {s:Rf.St} {cl:Bool} {G H:Nat->Prop} {bv lv rv xv:Value} {xs:List Value}
theorem pj.rat(h:pj W y s cl G bv lv rv xv H xs):RAt W y s cl bv lv rv xv:=by
 refine⟨h.row,?_,h.bas.1,h.run,?_,h.ok,h.few⟩
 ·obtain⟨p,c,e⟩:=jj h.G5
  refine⟨p,c,e,fun j hj=>?_⟩;obtain⟨x,f,d⟩:=h.bel j hj;rcases h.G5.2 with⟨_,B⟩|⟨g,cap,z,r,_,l,v,q,n,i⟩
  ·omega
  ·rw[e] at r
   injection r with e3 e4 e5;refine⟨g,0,x,e3,?_,d.1⟩;rw[zA l,zP];rw[<-i,zK] at f
   split at f
   ·simpa using f
   ·cases f
 ·obtain⟨A,⟨p,c,e,v,_,n,i⟩,u,_,q⟩:=h.rls
  refine⟨p,c,by rw[<-u];exact e,fun j hj=>?_⟩;obtain⟨x,f,d⟩:=q j hj
  cases p with
  | none=>have:=n rfl;omega
  | some ad =>
   obtain⟨b,o,t⟩:=ad;have k:t=none:=(i _ rfl).1;subst k;have m:=(i _ rfl).2 j x f;rw[Ju] at m;exact⟨b,o,x,rfl,m,d.1⟩
theorem pj.old(h:pj W y s cl G bv lv rv xv H xs){i:Nat}(hi:G i):i<W.heap.size:=by
 rcases(h.J9 i).1 hi with t|t|t
 ·exact h.lt i t
 ·rw[t];exact zC h.row
 ·exact(h.G5.lt i t).2
theorem pj.keep(h:pj W y s cl G bv lv rv xv H xs){T:Nat->Prop}(k:ja W W' T)(l:∀ i,T i->¬G i):pj W' y s cl G bv lv rv xv H xs:=by
 have d:∀ i,H i->¬T i:=fun i hi t=>l i t ((h.J9 i).2 (.inl hi));refine⟨k.same h.row (fun t=>l y t ((h.J9 y).2 (.inr (.inl rfl)))),k.row h.G5 (fun g hg t=>l g t ((h.J9 g).2 (.inr (.inr hg)))),fun j hj=>?_,h.bas.keep k d (fun _ t=>t),h.run.keep k (fun _ p n c e t=>d _ (h.Vf p.block (by rw[e];rfl)) t),h.Vf,?_,h.ok,h.few,h.ny,h.nb,fun i hi=>zT (h.lt i hi) k.size,h.J9⟩
 ·obtain⟨x,f,b⟩:=h.bel j hj
  exact⟨x,f,b.keep k d (fun _ t=>t)⟩
 ·obtain⟨o,q,r,m,u⟩:=h.rls
  refine⟨o,q.keep k (fun g hg=>d g (m g hg)),r,m,fun j hj=>?_⟩;obtain⟨x,f,b⟩:=u j hj;exact⟨x,f,b.keep k d (fun _ t=>t)⟩
theorem dc.keep(h:dc W y s cl G){T:Nat->Prop}(k:ja W W' T)(c:∀ i,T i->¬G i):dc W' y s cl G:=by
 obtain⟨bv,lv,rv,b,H,xs,h⟩:=h;exact⟨bv,lv,rv,b,H,xs,h.keep k c⟩
theorem dc.same(h:dc W y s cl G)(k:ja W W' (fun _=>False)):dc W' y s cl G:=h.keep k (fun _ t=>t.elim)
theorem dc.old(h:dc W y s cl G){i:Nat}(hi:G i):i<W.heap.size:=by
 obtain⟨bv,lv,rv,b,H,xs,h⟩:=h;exact h.old hi
theorem ym.same(h:dc W y s cl G)(k:ja W W' (fun _=>False)):ym W y s cl G W':=⟨G,h.same k,k.up,fun i t=> .inl t⟩
end
def Jb(s:Rf.St)(cl:Bool)(l:List Rf.Ch):Rf.St×Int:=if cl=true then(s,3)else if Rf.qy l=true then(s.write l,0)else(s,5)
theorem V6(a:List (List Rf.Ch))(b:List Rf.Ch):x7 (a++[b])=x7 a+b.length:=by rw[dy];simp[x7]
theorem Rl{W:World}{y:Nat}{s:Rf.St}{cl:Bool}{G:Nat->Prop}(h:dc W y s cl G)(v:Value)(l:List Rf.Ch)(hv:Chs W v l)(hl:l.length<100000000)(hs:∀ c∈l,c.key.length<1000000000/\c.value.length<1000000000)(C:s.last<900000000)(O:x7 s.bs+x7 s.bls<3000000/\s.bs.length<900000) :
 Calls prog 138 #[.pointer (some ⟨y,0,none⟩),v] W fun e W'=>e = .returned (.int .i64 (Jb s cl l).2)/\ym W y (Jb s cl l).1 cl G W':=by
 obtain⟨j1,bi,b9,b8,b7⟩:=info_parts Tryz.Jz;obtain⟨j0,hj,bc,bb,ba⟩:=info_parts Tryz.wx;obtain⟨bv,lv,rv,xv,H,xs,T⟩:=h;have V:=jb T;have F:=jb (R4 v l hv hl hs);have q1:=zA (o:=1) T.row;have Y:=zA (o:=4) T.row;have q8:=zA (o:=8) T.row;simp at q1 Y q8
 cases cl with
 | true =>
  have HW:Hid (Jb s true l=(s,3)):=jb (rfl);clear T;go_enter func138,ntmps138;go_wp2_with fail;refine F.out.mono ?_;rintro e w1 ⟨rfl,D⟩;have q8:=D.cell q8 id;go_wp2;go_ret;exact⟨by rw[HW.out];rfl,by rw[HW.out];exact ym.same ⟨_,_,_,_,_,_,V.out⟩ D⟩
 | false =>
  cases hok:Rf.qy l with
  | false =>
   have HW:Hid (Jb s false l=(s,5)):=jb (by unfold Jb;rw[if_neg (by simp),if_neg (by rw[hok];simp)]);rw[hok] at F;clear T hok;go_enter func138,ntmps138;go_wp2_with fail;refine F.out.mono ?_;rintro e w1 ⟨rfl,D⟩;have q8:=D.cell q8 id;go_wp2;go_ret;exact⟨by rw[HW.out];rfl,by rw[HW.out];exact ym.same ⟨_,_,_,_,_,_,V.out⟩ D⟩
  | true =>
   have HW:Hid (Jb s false l=(s.write l,0)):=jb (by unfold Jb;rw[if_neg (by simp),if_pos hok]);rw[hok] at F;obtain⟨pv,cv,rfl⟩:=hv.shape;obtain⟨S,U,rfl⟩:=jj T.G5;have ak:=(Rf.yd l).1 hok;have HV:=jb hv;have bn:=jb hok;have ap:=jb T.G5;obtain⟨b,L⟩:∃ b,b=s.bs.length:=⟨_,rfl⟩;have am:s.m.last+b<900000000:=by rw[L];exact C
   have c1:b<900000:=by rw[L];exact O.2
   rw[<-L] at Y ap;have M:=jb L;obtain⟨la,a3⟩:∃ la,la=s.m.last:=⟨_,rfl⟩;rw[<-a3] at q1 am;obtain⟨k,X⟩:∃ k,k=l.length:=⟨_,rfl⟩;have c0:k<=8:=by rw[X];exact ak.2.1
   have aa:=jb X;rw[<-X] at F ⊢;have ce:IntKind.i64.wrap ((la:Int)+(b:Int))=(la:Int)+(b:Int):=zE (by omega) (by omega);have c2:decide ((1000000000:Int)<=(la:Int)+(b:Int))=false:=by simp;omega
   have b0:=jb O;have ac:=jb C;clear T hok hv L a3 X ak O C hl hs am;go_enter func138,ntmps138;go_wp2_with fail;refine F.out.mono ?_;rintro e w1 ⟨rfl,D⟩;have q8:=D.cell q8 id;have q1:=D.cell q1 id;have Y:=D.cell Y id;have bl:=jb (HV.out.same D);go_wp2_with fail;go_quiet (fail);obtain⟨I,a7⟩:∃ wq,wq=World.drewN w1 nq:=⟨_,rfl⟩;rw[<-a7];have k2:ja w1 I (fun _=>False):=by rw[a7];exact ja.drewN w1 nq _
   have Y:=k2.cell Y id;have N:=(bl.out.same k2).src;rw[<-aa.out] at N;have a2:I.ownsRow I.heap.size 88 3 (.slice none 0 0) 0 []:=zS _ _ _ _;have bk:Hid (0+k<=maxLen):=jb (by unfold maxLen;omega);have bj:Hid ((0+k)*40<=140737488355328):=jb (by omega);have ay:Hid (b+1<=maxLen):=jb (by unfold maxLen;omega);have ax:Hid ((b+1)*24<=140737488355328):=jb (by omega);have au:=jb ((V.out.keep D (fun _ t=>t.elim)).keep k2 (fun _ t=>t.elim));have a4:=jb (k2.row (D.row ap.out (fun _ _ h=>h)) (fun _ _ h=>h));clear a7;have bo:Hid (∀ W3,I.grownBy W3 (Value.slice none 0 0).ownBlock->ja I W3 (fun _=>False)):=fun W3 d=>(ja.refl I _).grow d (fun i e _=>by cases e)
   go_upto_region 10 with(first|(at_builtin;refine za _ rfl (.tmp 26) (.tmp 27) 38 38 rfl I.heap.size 88 j1 Jy 3 40 underlying38 bi b9 b8 b7 rfl (ZG 2) _ 0 [] rfl a2 _ k (jg l) rfl N bk.out bj.out (xA _) ?_;intro A B R a8 r bg))
   have k3:=bo.out R r;simp only[zP,xZ] at a8;have Y:=k3.cell Y id;have aq:=jb a8;have ar:=jb (au.out.keep k3 (fun _ t=>t.elim));have az:=jb (k3.row a4.out (fun _ _ h=>h));have ab:=az.out.alloc (.cells #[.slice A k B] 38);have aw:∀ u∈[Value.slice A k B],u.oneCell'=true:=fun u hu=>by rw[ZE.1 hu];rfl
   have z:Hid (∀ g,(Value.slice S b U).ownBlock=some g->¬H g/\g≠y):=jb (by rw[M.out];exact V.out.nb)
   have bm:Hid (∀ W6,(R.alloc (.cells #[.slice A k B] 38)).grownBy W6 (Value.slice S b U).ownBlock->W6.cell? ⟨y,4,none⟩=some (.slice S b U)/\W6.frozen? ⟨y,4,none⟩=false/\W6.heap[y]?=some (.cells #[jf s.m.next,jf s.m.last,jf s.m.log,jf s.m.base,.slice S b U,lv,rv,xv,.bool false] 108 (0,0))):=fun W6 d=>by
    have hk:=(ja.grown d).same ((ja.alloc R (.cells #[.slice A k B] 38) (fun _=>False)).same ar.out.row id) (fun e=>(z.out y e.symm).2 rfl);rw[<-M.out] at hk;have hc:=zA (o:=4) hk;exact⟨by simpa using hc,zB hk,hk⟩
   clear a8 r bg N a2
   go_wp2_with (first|(at_builtin;refine jk _ rfl (.tmp 33) (.tmp 35) 27 rfl 0 38 j0 (.slice none 0 0) 1 24 underlying27 hj bc bb ba rfl xD _ _ _ rfl ab ⟨R.heap.size,0,none⟩ 1 1 [.slice A k B] rfl rfl (cell_one_new _ _ _) aw ay.out ax.out (zU _) ?_;intro Z c6 w6 be an bf;obtain⟨r2,r3,r4⟩:=bm.out w6 an))
   go_ret;have kA:=ja.alloc R (.cells #[.slice A k B] 38) (fun _=>False);have k6:ja R w6 (fun j=>(Value.slice S b U).ownBlock=some j):=(kA.up).trans (ja.grown an) (fun j _ e=>e.symm);have k7:=ja.setCell w6 ⟨y,4,none⟩ (.slice Z (b+1) c6);have q:ja R (w6.setCell ⟨y,4,none⟩ (.slice Z (b+1) c6)) (fun i=>(Value.slice S b U).ownBlock=some i\/i=y):=(k6.mono (fun _ _ t=> .inl t)).trans k7 (fun i _ e=> .inr e);have E:=ar.out;have cc:=k3.size;have bx:=q.size;have bz:=k6.size;have cd:y<I.heap.size:=zC au.out.row
   have f:∀ g,(Value.slice Z (b+1) c6).ownBlock=some g->(Value.slice S b U).ownBlock=some g\/R.heap.size<=g:=fun g d=>by
    rcases bf with h|h
    ·exact .inl (h▸d)
    ·rw[h] at d
     cases d;exact .inr kA.size
   have hT:∀ i,H i->¬((Value.slice S b U).ownBlock=some i\/i=y):=fun i hi t=>by
    rcases t with t|t
    ·exact(z.out i t).1 hi
    ·rw[t] at hi;exact E.ny hi
   have r:∀ g,(Value.slice A k B).ownBlock=some g->I.heap.size<=g/\g<R.heap.size:=fun g d=>aq.out.lt g d;have ao:∀ g,(Value.slice S b U).ownBlock=some g->g<I.heap.size:=fun g d=>(a4.out.lt g d).2;refine⟨by rw[HW.out];rfl,?_⟩;rw[HW.out];show ym W y (s.write l) false G _;refine⟨fun i=>(H i\/(Value.slice A k B).ownBlock=some i)\/i=y\/(Value.slice Z (b+1) c6).ownBlock=some i,⟨.slice Z (b+1) c6,lv,rv,xv,fun i=>H i\/(Value.slice A k B).ownBlock=some i,xs++[.slice A k B],?_⟩,?_,?_⟩
   ·refine⟨(jc r4 _).trans rfl,?_,?_,E.bas.keep q hT (fun _ t=> .inl t),E.run.keep q (fun _ p n c e t=>hT _ (E.Vf p.block (by rw[e];rfl)) t),fun g d=> .inl (E.Vf g d),?_,E.ok.write bn.out (by have:=ac.out;omega),?_,?_,?_,?_,fun i=>Iff.rfl⟩
    ·show(w6.setCell ⟨y,4,none⟩ (.slice Z (b+1) c6)).ownsRow 0 38 1 (.slice Z (b+1) c6) (s.bs++[l]).length (xs++[.slice A k B])
     rw[ZY,xC,<-M.out];refine k7.row be (fun g d e=>?_);have e':g=y:=e;rcases f g d with t|t
     ·exact(z.out g t).2 e'
     ·omega
    ·have key:∀ j (hj:j<(s.bs++[l]).length),∃ x,(xs++[Value.slice A k B])[j]?=some x/\ElG (w6.setCell ⟨y,4,none⟩ (.slice Z (b+1) c6)) (fun i=>H i\/(Value.slice A k B).ownBlock=some i) x ((s.bs++[l])[j]'hj):=fun j hj=>?_
     ·exact key
     have cf:j<s.bs.length+1:=by rw[ZY] at hj;exact hj
     have bd:xs.length=s.bs.length:=by have:=E.G5.1;omega
     rcases ZJ j s.bs.length with al|ch
     ·obtain⟨x,hx,a9⟩:=E.bel j al
      refine⟨x,by rw[zQ (by omega)];exact hx,?_⟩;rw[List.getElem_append_left al];exact a9.keep q hT (fun _ t=> .inl t)
     ·have bh:j=s.bs.length:=by omega
      subst bh;refine⟨.slice A k B,by rw[zR (by omega),bd];simp,?_⟩;rw[List.getElem_append_right (xA _)];refine⟨?_,fun g d=> .inr d⟩;have hc:Chs R (.slice A k B) l:=xw (by rw[<-aa.out];exact aq.out)
      have:=hc.keep q (fun _ p n c e t=>by
       have ci:=r p.block (by rw[e];rfl)
       rcases t with t|t
       ·have:=ao _ t;omega
       ·omega)
      simpa using this
    ·obtain⟨ys,hv,av,h1,h2⟩:=E.rls
     refine⟨ys,hv.keep q (fun g d=>hT g (h1 g d)),av,fun g d=> .inl (h1 g d),fun j hj=>?_⟩;obtain⟨x,hx,a9⟩:=h2 j hj;exact⟨x,hx,a9.keep q hT (fun _ t=> .inl t)⟩
    ·have h1:=b0.out
     have h2:=E.few;have h3:=aa.out;refine⟨?_,?_,h2.2.2⟩
     ·show x7 (s.bs++[l])+x7 s.bls<4000000
      rw[V6];omega
     ·show(s.bs++[l]).length<1000000
      rw[ZY,xC];omega
    ·rintro(t|t)
     ·exact E.ny t
     ·have:=r y t;omega
    ·intro g d
     refine⟨?_,fun e=>?_⟩
     ·rintro(t|t)
      ·rcases f g d with J|J
       ·exact(z.out g J).1 t
       ·have:=E.lt g t;omega
      ·have cg:=r g t
       rcases f g d with J|J
       ·have:=ao g J;omega
       ·omega
     ·rcases f g d with J|J
      ·exact(z.out g J).2 e
      ·omega
    ·rintro i (t|t)
     ·have:=E.lt i t;omega
     ·have:=r i t;omega
   ·refine((D.tt k2).tt k3).up |>.trans q (fun i _ t=>?_)
    rcases t with t|t
    ·exact(V.out.J9 i).2 (.inr (.inr (by rw[<-M.out];exact t)))
    ·exact(V.out.J9 i).2 (.inr (.inl t))
   ·have sW:W.heap.size<=I.heap.size:=(D.tt k2).size
    rintro i ((t|t)|t|t)
    ·exact .inl ((V.out.J9 i).2 (.inl t))
    ·have:=r i t;exact .inr (by omega)
    ·exact .inl ((V.out.J9 i).2 (.inr (.inl t)))
    ·rcases f i t with J|J
     ·exact .inl ((V.out.J9 i).2 (.inr (.inr (by rw[<-M.out];exact J))))
     ·exact .inr (by omega)
end Go.Proofs.YtnipbplghijdmaaGreatDoor
namespace Go.Proofs.YtnipbplghijdmaaGreatDoor
open RowKit Maps WideShapes Go.Proofs.Tryz
variable {W W' w wM wr:World} {cap cr g i j k m n nn np nr nt wb y:Nat} {s:Rf.St} {p pr:Option Addr} {lv nv pv sv tv v xv:Value} {c:List Value} {K T U:Nat->Prop} {e:TypeId} {f:Nat->List Value}
def Bh(w:World)(s:Rf.St)(e:Ending)(w':World):Prop :=
 ∃ y G,e = .returned (.tuple #[.pointer (some ⟨y,0,none⟩),.int .i64 0])/\dc w' y s false G/\(∀ i,G i->w.heap.size<=i)/\ja w w' (fun _=>False)
theorem Rn(h:w.heap[y]?=some (.cells #[.int .i64 2,.int .i64 0,.int .i64 1,.int .i64 0,.slice none 0 0,.slice none 0 0,.slice none 0 0,.slice none 0 0,.bool false] 108 (0,0))):dc w y Rf.St.first false (fun i=>i=y):=by
 refine⟨_,_,_,_,fun _=>False,[],h,zS _ _ _ _,fun j h=>(by cases h),⟨?_,fun g hg=>(by cases hg)⟩,zl.nil _,fun g hg=>(by cases hg),⟨[],Vls.nil _,rfl,fun g hg=>(by cases hg),fun j h=>(by cases h)⟩,Rf.St.Ok.first,⟨by decide,by decide,by decide⟩,id,fun g hg=>(by cases hg),fun i t=>t.elim,fun i=>⟨fun t=> .inr (.inl t),fun t=>?_⟩⟩
 ·exact xw (base:=0) (zS _ _ _ _)
 ·rcases t with t|t|t
  ·exact t.elim
  ·exact t
  ·cases t
theorem Vj(v:Value)(fs:List (Str×List UInt8))(f:Fls w v fs)(l:fs.length<10000000)(g:gy fs jw = -1) :
 Calls prog 48 #[v] w fun e w'=>Bh w Rf.St.first e w':=by
 have b:=Kf v fs f l jw;rw[g] at b;have k:=jb b;have j:jd jw = .string ⟨#[109,97,110,105,102,101,115,116]⟩:=rfl;rw[j] at k;clear b j g f;go_enter func48,ntmps48;go_wp2_with fail;refine k.out.mono ?_;rintro e c ⟨rfl,d⟩;go_wp2;go_ret2;refine⟨c.heap.size,_,rfl,Rn (je _ _),fun i t=>?_,d.more _⟩;have m:i=c.heap.size:=t;have:=d.size;omega
structure ly(wM wr:World)(y:Nat)(s:Rf.St)(pr:Option Addr)(nr cr j:Nat)(lv xv:Value):Prop where
 row:wr.heap[y]?=some (.cells #[jf s.m.next,jf s.m.last,jf s.m.log,jf s.m.base,.slice none 0 0,lv,.slice pr nr cr,xv,.bool false] 108 (0,0))
 bas:El wr (fun i=>i<wM.heap.size) lv (if j=0 then [] else s.bl)
 rls:Wr wM wr (fun i=>i<wM.heap.size) xv (s.rls.take (j-1))
 ap:∀ g,xv.ownBlock=some g->lv.ownBlock≠some g
 kk:ja wM wr (fun i=>i=y)
theorem El.nil(W:World)(T:Nat->Prop):El W T (.slice none 0 0) []:=⟨xw (base:=0) (zS _ _ _ _),fun g hg=>(by cases hg)⟩
theorem ly.same(h:ly wM wr y s pr nr cr j lv xv)(k:ja wr W (fun _=>False)):ly wM W y s pr nr cr j lv xv :=
 ⟨k.same h.row id,h.bas.step k (fun _ t=>t.elim) (fun _ t=> .inl t),h.rls.step k (fun _ t=>t.elim) (fun _ t=> .inl t),h.ap,h.kk.trans k (fun _ _ t=>t.elim)⟩
theorem ly.first(h:wM.heap[y]?=some (.cells #[jf s.m.next,jf s.m.last,jf s.m.log,jf s.m.base,.slice none 0 0,.slice none 0 0,.slice pr nr cr,.slice none 0 0,.bool false] 108 (0,0))):ly wM wM y s pr nr cr 0 (.slice none 0 0) (.slice none 0 0) :=
 ⟨h,El.nil _ _,Wr.first _ _ _,fun g hg=>(by cases hg),ja.refl _ _⟩
theorem ly.none(h:ly wM wr y s pr nr cr 0 lv xv)(b:s.bl=[]):ly wM wr y s pr nr cr 1 lv xv :=
 ⟨h.row,by rw[if_neg (by omega),b];exact h.bas,h.rls,h.ap,h.kk⟩
theorem ly.base(h:ly wM wr y s pr nr cr 0 lv xv)(j:y<wM.heap.size)(k:ja wr W (fun _=>False))(b:W.ownsRow wr.heap.size 88 3 v s.bl.length (jg s.bl)):ly wM (W.setCell ⟨y,5,.none⟩ v) y s pr nr cr 1 v xv:=by
 have d:=ja.setCell W ⟨y,5,.none⟩ v
 have l:∀ g,xv.ownBlock=some g->g<wr.heap.size:=fun g hg=>by
  obtain⟨xs,c,_⟩:=h.rls.row;exact(c.lt g hg).2
 have f:∀ i,i=y->i<wM.heap.size:=fun i e=>by rw[e];exact j
 refine⟨(jc (k.same h.row id) _).trans rfl,?_,(h.rls.step k (fun _ t=>t.elim) (fun _ t=> .inl t)).step d f (fun _ t=> .inl t),fun g hg e=>?_,(h.kk.trans k (fun _ _ t=>t.elim)).trans d (fun i _ e=>e)⟩
 ·rw[if_neg (by omega)]
  have c:El W (fun i=>i<wM.heap.size) v s.bl:=⟨xw b,fun g hg=>⟨by have:=(b.lt g hg).1;have:=h.kk.size;omega,(b.lt g hg).2⟩⟩;exact c.step d f (fun _ t=> .inl t)
 ·have c:=(b.lt g e).1
  have m:=l g hg;omega
theorem ly.run{v' x:Value}{xs:List Value}(h:ly wM W y s pr nr cr (j+1) lv xv)(u:y<wM.heap.size)(C:j<s.rls.length)(o:W.ownsRow wM.heap.size 38 1 xv j xs)(r:∀ i (h:i<(s.rls.take j).length),∃ y,xs[i]?=some y/\El W (fun i=>i<wM.heap.size) y (s.rls.take j)[i]/\∀ g,xv.ownBlock=some g->y.ownBlock≠some g)(A:El W (fun i=>i<wM.heap.size) x s.rls[j])(q:∀ g,xv.ownBlock=some g->x.ownBlock≠some g)(k:ja W W' (fun i=>xv.ownBlock=some i))(B:W'.ownsRow wM.heap.size 38 1 v' (j+1) (xs++[x]))(v:∀ g,v'.ownBlock=some g->xv.ownBlock=some g\/W.heap.size<=g):ly wM (W'.setCell ⟨y,7,.none⟩ v') y s pr nr cr (j+2) lv v':=by
 have m:=ja.setCell W' ⟨y,7,.none⟩ v';have z:∀ i,i=y->i<wM.heap.size:=fun i e=>by rw[e];exact u
 have d:(s.rls.take j).length=j:=by rw[ZT];omega
 have b:=h.bas;have E:j+1-1=j:=by omega
 have l:=h.rls;rw[E] at l;have f:=l.snoc (x:=x) (es:=s.rls[j]) (W':=W') (v':=v') (xs:=xs) (by rw[d];exact o) A q (fun i t=>zT t h.kk.size) k (by rw[d];exact B) v r;rw[List.take_append_getElem C] at f;refine⟨(jc (k.same h.row (fun e=>l.nv y e u)) _).trans rfl,?_,f.step m z (fun _ t=> .inl t),fun g hg e=>?_,(h.kk.trans k (fun i hi e=>absurd hi (l.nv i e))).trans m (fun i _ e=>e)⟩
 ·rw[if_neg (by omega)] at b ⊢
  have D:El W' (fun i=>i<wM.heap.size) lv s.bl:=⟨b.1.keep k (fun _ p n c e t=>h.ap _ t (by rw[e];rfl)),fun g hg=>⟨(b.2 g hg).1,by have:=(b.2 g hg).2;have:=k.size;omega⟩⟩;exact D.step m z (fun _ t=> .inl t)
 ·rcases v g hg with t|t
  ·exact h.ap g t e
  ·have:=(b.2 g e).2;omega
theorem ly.own{u f:World}{L:Nat}(h:ly wM u y s pr nr cr (nr+1) lv xv)(n:wM.ownsRow L 3 1 (.slice pr nr cr) nr (s.m.runs.map jf))(T:y<L)(W:w.heap.size<=y)(z:y<wM.heap.size)(o:nr=s.m.runs.length)(ok:s.Ok)(I:x7 s.bs+x7 s.bls<4000000/\s.bs.length<1000000/\s.bls.length<1000000)(R:al u y (jf s.m.next) (jf s.m.log) (jf s.m.base) lv (.slice pr nr cr) xv (.bool false) s.m.last s.bs f):∃ bv H xs G,pj f y s false G bv lv (.slice pr nr cr) xv H xs/\∀ i,G i->w.heap.size<=i:=by
 obtain⟨bv,r,E,v⟩:=R;obtain⟨xs,c,F⟩:=E.row;have D:∀ i,i=y->i<wM.heap.size:=fun i e=>by rw[e];exact z
 have V:=h.kk.size;have U:=v.size;have B:∀ g,w.heap.size<=g->g<u.heap.size->g≠y->(w.heap.size<=g/\g<f.heap.size/\g≠y/\bv.ownBlock≠some g):=fun g b h2 h3=>⟨b,by omega,h3,fun e=>by have:=(c.lt g e).1;omega⟩
 have d:∀ {x:Value} {es:List Rf.Ch},El u (fun i=>i<wM.heap.size) x es->ElG f (fun g=>w.heap.size<=g/\g<f.heap.size/\g≠y/\bv.ownBlock≠some g) x es:=fun k=>⟨(k.step v D (fun _ t=> .inl t)).1,fun g hg=>by
  have b:=k.2 g hg
  exact B g (by omega) b.2 (fun e=>b.1 (by rw[e];exact z))⟩
 have q:=(h.kk.trans v (fun i _ e=>e)).row n (fun g hg e=>by have J:g=y:=e;have:=(n.lt g hg).1;omega);refine⟨bv,(fun g=>w.heap.size<=g/\g<f.heap.size/\g≠y/\bv.ownBlock≠some g),xs,fun i=>(w.heap.size<=i/\i<f.heap.size/\i≠y/\bv.ownBlock≠some i)\/i=y\/bv.ownBlock=some i,⟨r,qg c (zU _),fun j hj=>?_,?_,ze q o.symm,fun g hg=>?_,?_,ok,I,fun t=>t.2.2.1 rfl,fun g hg=>⟨fun t=>t.2.2.2 hg,fun e=>?_⟩,fun i t=>t.2.1,fun i=>Iff.rfl⟩,fun i t=>?_⟩
 ·obtain⟨x,e,k,O⟩:=F j hj
  refine⟨x,e,k.1,fun g hg=>?_⟩;have b:=k.2 g hg;exact⟨by omega,b.2,fun e=>b.1 (by omega),fun e=>O g e hg⟩
 ·have:=h.bas
  rw[if_neg (by omega)] at this;exact d this
 ·have b:=n.lt g hg
  exact B g (by omega) (by omega) (by omega)
 ·have N:=C4 ok
  have S:s.rls.take (nr+1-1)=s.rls:=by rw[show nr+1-1=nr by omega,o,<-N];exact zW
  have A:=h.rls;rw[S] at A;obtain⟨M,l,C⟩:=A.row;have p:=v.row l (fun g hg e=>A.nv g hg (by have J:g=y:=e;rw[J];exact z));refine⟨M,Dd p,by have:=l.1;omega,fun g hg=>?_,fun j hj=>?_⟩
  ·have b:=l.lt g hg
   exact B g (by omega) b.2 (by omega)
  ·obtain⟨x,e,k,_⟩:=C j hj
   exact⟨x,e,d k⟩
 ·have:=(c.lt g hg).1
  omega
 ·rcases t with t|t|t
  ·exact t.1
  ·omega
  ·have:=(c.lt i t).1
   omega
theorem vn(s:Rf.St):(jw,s.m.bytes)∈yj s:=by unfold yj Y0;simp
theorem vo(s:Rf.St):(jx s.m.log,Rf.jl s.m.last s.bs)∈yj s:=by unfold yj Y0;simp
theorem sn(h:s.m.base≠0):(jq s.m.base,Rf.jn s.bl)∈yj s:=by unfold yj X6;rw[if_neg h];simp
theorem vl(f:j<s.m.runs.length)(d:j<s.rls.length):(jq s.m.runs[j],Rf.jn s.rls[j])∈yj s:=by
 unfold yj;refine ZD.2 (.inr ?_);have b:(jq s.m.runs[j],Rf.jn s.rls[j])∈ma s (j+1):=by rw[Ey f d];exact ZD.2 (.inr (ZE.2 rfl))
 unfold ma at b ⊢;rw[List.map_take] at b ⊢;have c:((s.m.runs.zip s.rls).map fun p=>(jq p.1,Rf.jn p.2)).take (j+1) <+: ((s.m.runs.zip s.rls).map fun p=>(jq p.1,Rf.jn p.2)).take s.m.runs.length:=List.take_prefix_take_left (by omega);exact c.subset b
structure Ux(w:World)(v:Value)(g n:Nat)(nm:Str)(b:List UInt8)(i:Nat):Prop where
 lt:i<n
 call:∀ W,ja w W (fun _=>False)->Calls prog 86 #[v,jd nm] W fun e w'=>e = .returned (.int .i64 (i:Int))/\ja W w' (fun _=>False)
 cell:∀ W,ja w W (fun _=>False)->W.cell? ⟨g,i*2+1,none⟩=some (jd b)
theorem O9{fs V:List (Str×List UInt8)}(d:Fls w v fs)(m:fs.length<10000000)(j:fs.Perm V)(n:V.Pairwise (fun p q=>p.1≠q.1)){nm:Str}{b:List UInt8}(l:(nm,b)∈V):∃ g c i,v = .slice (some ⟨g,0,none⟩) fs.length c/\Ux w v g fs.length nm b i:=by
 obtain⟨i,hi,r,s,o⟩:=jem j n l;obtain⟨g,c,e,t,f⟩:=d.at hi;refine⟨g,c,i,e,hi,fun W k=>?_,fun W k=>?_⟩
 ·have:=Kf v fs (d.same k) m nm
  rw[r] at this;exact this
 ·rw[o] at f
  exact k.cell f id
theorem Ro(v:Value)(fs:List (Str×List UInt8))(hv:Fls w v fs)(hl:fs.length<10000000)(ok:s.Ok)(hp:fs.Perm s.files)(bm:s.files.Pairwise (fun p q=>p.1≠q.1))(ag:∀ f∈s.files,f.2.length<200000)(aq:x7 s.bs+x7 s.bls<4000000/\s.bs.length<1000000/\s.bls.length<1000000) :
 Calls prog 48 #[v] w fun e w'=>Bh w s e w':=by
 obtain⟨j1,d7,d0,c3,c2⟩:=info_parts Tryz.wx;have az:=hp.trans (Xg ok).symm;have aa:(yj s).Pairwise (fun p q=>p.1≠q.1):=((Xg ok).pairwise_iff (fun {x y} h=>h.symm)).2 bm;have a9:∀ f∈yj s,f.2.length<200000:=fun f hf=>ag f ((Xg ok).subset hf);obtain⟨g,c,i0,rfl,a5⟩:=O9 hv hl az aa (vn s)
 have ak:Hid (∀ nm b,(nm,b)∈yj s->∃ i,Ux w (.slice (some ⟨g,0,none⟩) fs.length c) g fs.length nm b i):=fun nm b hm=>by
  obtain⟨g',c',i,e,h⟩:=O9 hv hl az aa hm;cases e;exact⟨i,h⟩
 obtain⟨n,hn⟩:∃ n,n=fs.length:=⟨_,rfl⟩;rw[<-hn] at a5 ak hl ⊢;have ef:(i0:Int)<(n:Int):=by have:=a5.lt;omega
 have HM:=jb (Se ok.Je (by have:=ok.runs;omega));have bw:Hid (s.m.bytes.length<200000):=a9 _ (vn s);have b4:=jb a9;have c0:=jb a5;have dp:Hid (Calls prog 86 #[.slice (some ⟨g,0,none⟩) n c,.string ⟨#[109,97,110,105,102,101,115,116]⟩] w fun e w'=>e = .returned (.int .i64 (i0:Int))/\ja w w' (fun _=>False)):=a5.call w (ja.refl _ _);have r:=jb ok;have ca:=jb aq;have HL:Hid (n<10000000):=hl;have ei:¬(i0:Int)<0:=by omega
 generalize s.m.bytes=MB at c0 HM bw;clear hv hp bm ag az aa a9 a5 hn ok aq hl;go_enter func48,ntmps48;go_wp2_with fail;refine dp.out.mono ?_;rintro e w1 ⟨rfl,k1⟩;have A:=je w1 (.cells #[.int .i64 0,.int .i64 0,.int .i64 0,.int .i64 0,.slice none 0 0,.slice none 0 0,.slice none 0 0,.slice none 0 0,.bool false] 108)
 go_upto_region 5 with fail
 obtain⟨w2,ax⟩:∃ w2,w2=w1.alloc (.cells #[.int .i64 0,.int .i64 0,.int .i64 0,.int .i64 0,.slice none 0 0,.slice none 0 0,.slice none 0 0,.slice none 0 0,.bool false] 108):=⟨_,rfl⟩;rw[<-ax] at A ⊢;obtain⟨y,hy⟩:∃ y,y=w1.heap.size:=⟨_,rfl⟩;rw[<-hy] at A ⊢;have k2:ja w w2 (fun _=>False):=by rw[ax];exact k1.more _
 have d1:w.heap.size<=y:=by rw[hy];exact k1.size
 have de:=jb (Ic A MB _ _ (by have:=bw.out;omega) HM.out);have d2:=zC A;have a0:=c0.out.cell w2 k2;clear ax hy A;go_wp2_with fail;refine de.out.mono ?_;rintro e w3 ⟨rfl,d9⟩;obtain⟨rv,F,a2,k3⟩:=d9;obtain⟨pr,cr,rfl⟩:=jj a2;obtain⟨nr,ah⟩:∃ nr,nr=s.m.runs.length:=⟨_,rfl⟩;rw[<-ah] at F a2;have cv:ja w w3 (fun _=>False):=k2.trans k3 (fun i hi e=>by have e':i=y:=e;omega);have ej:=jb (ze (l:=s.m.runs) a2 ah.symm);have b5:=jb a2;have av:y<w3.heap.size:=zC F;have bn:=ly.first (s:=s) F;have ai:=jb ah;have e3:nr<65536:=by have:=HM.out.few;omega
 have df:=jb bn;clear a0 F a2 ah bn;go_wp2_with fail
 go_loopw [7,8,9,10,11] (fun t7 _ _ _ _ wr=>∃(j:Nat) (z:Int) (lv xv:Value),t7 = .int .i64 z/\Hid (z=(j:Int)-1)/\j<=nr+1/\ly w3 wr y s pr nr cr j lv xv) (fun t7 _ _ _ _ _=>nr+1-(intOf t7+1).toNat)
 case atStart=>exact⟨0,-1,_,_,rfl,rfl,by omega,df.out⟩
 case round =>
  obtain⟨j,z,lv,xv,rfl,HZ,ee,Y⟩:=hrel;have HO:=jb Y;have q6:=zA (o:=6) Y.row;have q3:=zA (o:=3) Y.row;simp at q6 q3;have kr:ja w wr (fun _=>False):=cv.trans Y.kk (fun i hi e=>by have e':i=y:=e;omega);rcases ZJ j (nr+1)with ed|eg
  ·have ec:IntKind.i64.wrap (z+1)=z+1:=zE (by have:=HZ.out;omega) (by have:=HZ.out;omega)
   have cw:z<(nr:Int):=by have:=HZ.out;omega
   rcases ZB j with h0|h0
   ·subst h0
    have cz:z<0:=by have:=HZ.out;omega
    have cy:¬0<=z:=by omega
    have bp:Hid (z+1=((1:Nat):Int)-1):=jb (by have:=HZ.out;omega);obtain⟨T,C⟩:∃ T,T=s.m.base:=⟨_,rfl⟩;rw[<-C] at q3;by_cases hb:T=0
    ·have bk:((T:Int)==0)=true:=by simp[hb]
     have HS:Hid (s.bl=[]):=jb (by
      rcases Rf.St.lr r.out with⟨_,_,h,_⟩|⟨h,_⟩
      ·exact h
      ·rw[C] at hb;exact absurd hb h)
     clear Y C hb;go_wp2;exact⟨⟨1,z+1,_,_,rfl,bp,by omega,HO.out.none HS.out⟩,by have:=HZ.out;simp[intOf];omega⟩
    ·have bk:((T:Int)==0)=false:=by simp;omega
     have a4:s.m.base≠0:=by rw[<-C];exact hb
     obtain⟨i1,d⟩:=ak.out _ _ (sn a4)
     have N:Rf.mo s.bl:=by
      rcases Rf.St.lr r.out with⟨h,_⟩|⟨_,h,_⟩
      ·exact absurd h a4
      ·exact r.out.bl _ (by rw[h];exact ZD.2 (.inr (ZE.2 rfl)))
     have a6:Hid (∀ W,Calls prog 89 #[jd (Rf.jn s.bl)] W fun e w'=>∃ v',e = .returned (.tuple #[v',.bool true])/\w'.ownsRow W.heap.size 88 3 v' s.bl.length (jg s.bl)/\ja W w' (fun _=>False)):=fun W=>by
      have R:=vg (Rf.jn s.bl) (b4.out _ (sn a4)) W;rw[Ns N] at R;exact R
     have c9:T<2000000000:=by
      have R:=r.out.Je.1;have h2:=(r.out.Je.2.2.1 s.m.base (s.m.X7.subset (ZD.2 (.inl (by unfold Rf.Man.na;rw[if_neg a4];simp))))).2;omega
     have E:Hid (∀ W,Calls prog 88 #[.int .i64 (T:Nat)] W fun e w'=>e = .returned (jd (Rf.j4 T))/\ja W w' (fun _=>False)):=fun W=>J0 T (by omega) W;have a3:=Qn (n:=T) (by omega);have J:jq s.m.base=[114,117,110,45]++Rf.j4 T:=by rw[C];rfl
     rw[J] at d;have bh:(i1:Int)<(n:Int):=by have:=d.lt;omega
     have bo:¬(i1:Int)<0:=by omega
     generalize Rf.jn s.bl=RB at d a6;generalize Rf.j4 T=DB at E d a3;have c1:=yb [114,117,110,45] DB;have D:=jb d;clear Y C hb a4 N c9 J d;go_wp2_with fail;refine(E.out _).mono ?_;rintro e w4 ⟨rfl,k4⟩;have I:=kr.tt k4;go_wp2_with fail;refine(D.out.call _ I).mono ?_;rintro e w5 ⟨rfl,k5⟩;have U:=I.tt k5;have a1:=D.out.cell w5 U;go_wp2_with fail;refine(a6.out _).mono ?_;rintro e O ⟨v6,rfl,B,k6⟩;have S:=(k4.tt k5).tt k6;have ap:=qg B (k4.tt k5).size;have M:=HO.out.same S;have q5:=zA (o:=5) M.row;have f5:=zB (o:=5) M.row;simp at q5;obtain⟨p6,c6,rfl⟩:=jj B;have br:=jb ap;obtain⟨X,V⟩:∃ X,X=s.bl.length:=⟨_,rfl⟩;rw[<-V] at br ⊢;have dh:=jb V;clear B ap M V a1;go_wp2;exact⟨⟨1,z+1,_,_,rfl,bp,by omega,HO.out.base av S (by rw[<-dh.out];exact br.out)⟩,by have:=HZ.out;simp[intOf];omega⟩
   ·obtain⟨j,rfl⟩:∃ j',j=j'+1:=⟨j-1,by omega⟩
    obtain rfl:z=(j:Int):=by have:=HZ.out;omega
    have c8:j<nr:=by omega
    have cz:¬(j:Int)<0:=by omega
    have cy:0<=(j:Int):=by omega
    have R:j<s.m.runs.length:=by rw[<-ai.out];exact c8
    have h2:j<s.rls.length:=by rw[C4 r.out];exact R
    have bu:zl wr (.slice pr nr cr) s.m.runs:=ze (Y.kk.row b5.out (fun g hg e=>by have e':g=y:=e;have:=(b5.out.lt g hg).1;omega)) ai.out.symm;obtain⟨gr,og,rfl,a0⟩:=(by have:=bu;rw[ai.out] at this;exact this.at R:∃ b o,pr=some ⟨b,o,none⟩/\wr.cell? ⟨b,o+j,none⟩=some (jf s.m.runs[j]));obtain⟨i1,d⟩:=ak.out _ _ (vl R h2);have N:Rf.mo s.rls[j]:=r.out.bl _ (ZH (zV h2));obtain⟨L,hL⟩:∃ L,L=s.rls[j]:=⟨_,rfl⟩
    have a6:Hid (∀ W,Calls prog 89 #[jd (Rf.jn s.rls[j])] W fun e w'=>∃ v',e = .returned (.tuple #[v',.bool true])/\w'.ownsRow W.heap.size 88 3 v' L.length (jg L)/\ja W w' (fun _=>False)):=fun W=>by
     rw[hL];have R:=vg (Rf.jn s.rls[j]) (b4.out _ (vl R h2)) W;rw[Ns N] at R;exact R
    have C:1<=s.m.runs[j]/\s.m.runs[j]<2000000000:=by
     have h3:=r.out.Je.1;have h4:=r.out.Je.2.2.1 s.m.runs[j] (s.m.X7.subset (ZD.2 (.inr (zV R))));omega
    have E:Hid (∀ W,Calls prog 88 #[.int .i64 (s.m.runs[j]:Nat)] W fun e w'=>e = .returned (jd (Rf.j4 s.m.runs[j]))/\ja W w' (fun _=>False)):=fun W=>J0 _ (by omega) W;have a3:=Qn (n:=s.m.runs[j]) (by omega);have J:jq s.m.runs[j]=[114,117,110,45]++Rf.j4 s.m.runs[j]:=rfl;rw[J] at d;have bh:(i1:Int)<(n:Int):=by have:=d.lt;omega
    have bo:¬(i1:Int)<0:=by omega
    clear J;generalize Rf.jn s.rls[j]=RB at d a6;generalize Rf.j4 s.m.runs[j]=DB at E d a3;generalize s.m.runs[j]=T at a0 E C;have bk:((T:Int)==0)=false:=by simp;omega
    have c1:=yb [114,117,110,45] DB;have D:=jb d;obtain⟨xs,aw,bj⟩:=Y.rls.row;have bg:(s.rls.take j).length=j:=by rw[ZT];omega
    have e9:j+1-1=j:=by omega
    have a8:wr.ownsRow w3.heap.size 38 1 xv j xs:=by
     have h3:(s.rls.take (j+1-1)).length=j:=by rw[e9];exact bg
     rw[h3] at aw;exact aw
    have au:∀ i (h:i<(s.rls.take j).length),∃ y,xs[i]?=some y/\El wr (fun i=>i<w3.heap.size) y (s.rls.take j)[i]/\∀ g,xv.ownBlock=some g->y.ownBlock≠some g:=fun i hi=>by
     have h3:=bj i (by rw[e9];exact hi);exact h3
    obtain⟨px,cx,rfl⟩:=jj a8;have dm:=jb au;have b3:=jb a8;have dl:=jb h2;have aj:=jb hL;clear hL Y N d C bu aw bj a8 au bg e9;go_wp2_with fail;refine(E.out _).mono ?_;rintro e w4 ⟨rfl,k4⟩;have I:=kr.tt k4;go_wp2_with fail;refine(D.out.call _ I).mono ?_;rintro e w5 ⟨rfl,k5⟩;have U:=I.tt k5;have a1:=D.out.cell w5 U;go_wp2_with fail;refine(a6.out _).mono ?_;rintro e O ⟨v6,rfl,B,k6⟩;have Z:=k4.tt k5;have S:=Z.tt k6;have M:=HO.out.same S;have q7:=zA (o:=7) M.row;simp at q7;have ag:=HO.out.kk.size;have b2:El O (fun i=>i<w3.heap.size) v6 L:=⟨xw B,fun g hg=>⟨by have:=(B.lt g hg).1;have:=Z.size;omega,(B.lt g hg).2⟩⟩
    have ay:∀ g,(Value.slice px j cx).ownBlock=some g->v6.ownBlock≠some g:=fun g hg e=>by
     have h9:=(B.lt g e).1;have h8:=(b3.out.lt g hg).2;have:=Z.size;omega
    obtain⟨p6,c6,rfl⟩:=jj B;obtain⟨X,V⟩:∃ X,X=L.length:=⟨_,rfl⟩;rw[<-V] at b2 ay ⊢;have a7:=S.row b3.out (fun _ _ h=>h)
    have ar:∀ i (h:i<(s.rls.take j).length),∃ y,xs[i]?=some y/\El O (fun i=>i<w3.heap.size) y (s.rls.take j)[i]/\∀ g,(Value.slice px j cx).ownBlock=some g->y.ownBlock≠some g:=fun i hi=>by
     obtain⟨x,e,hx,hn⟩:=dm.out i hi;exact⟨x,e,hx.step S (fun _ t=>t.elim) (fun _ t=> .inl t),hn⟩
    have b6:=a7.alloc (.cells #[.slice p6 X c6] 38);have c5:∀ u∈[Value.slice p6 X c6],u.oneCell'=true:=fun u hu=>by rw[ZE.1 hu];rfl
    have da:Hid (j+1<=maxLen):=jb (by unfold maxLen;omega);have d8:Hid ((j+1)*24<=140737488355328):=jb (by omega);have c4:w3.heap.size<=(O.alloc (.cells #[.slice p6 X c6] 38)).heap.size:=ZF ag (ZF S.size (ja.alloc O _ (fun _=>False)).size)
    have dd:Hid (∀ W7,(O.alloc (.cells #[.slice p6 X c6] 38)).grownBy W7 (Value.slice px j cx).ownBlock->W7.cell? ⟨y,7,none⟩=some (.slice px j cx)/\W7.frozen? ⟨y,7,none⟩=false):=fun W7 hg=>by
     have hk:=(ja.grown hg).same ((ja.alloc O (.cells #[.slice p6 X c6] 38) (fun _=>False)).same M.row id) (fun e=>by have:=(b3.out.lt y e.symm).1;omega);have hc:=zA (o:=7) hk;exact⟨by simpa using hc,zB hk⟩
    have dg:=jb M;have dn:=jb b2;have dc:=jb ay;have db:=jb a7;have dk:=jb ar;clear B M b2 ay a7 ar V a1
    go_wp2_with (first|(at_builtin;refine jk _ rfl (.tmp 83) (.tmp 85) 27 rfl w3.heap.size 38 j1 (.slice none 0 0) 1 24 underlying27 d7 d0 c3 c2 rfl xD _ _ _ rfl b6 ⟨O.heap.size,0,none⟩ 1 1 [.slice p6 X c6] rfl rfl (cell_one_new _ _ _) c5 da.out d8.out c4 ?_;intro p7 c7 w7 d3 bi d5;obtain⟨r2,r3⟩:=dd.out w7 bi))
    have kA:=ja.alloc O (.cells #[.slice p6 X c6] 38) (fun _=>False);have cu:ja O w7 (fun i=>(Value.slice px j cx).ownBlock=some i):=(kA.up).trans (ja.grown bi) (fun i _ e=>e.symm)
    exact⟨⟨j+2,(j:Int)+1,_,_,rfl,(show(j:Int)+1=((j+2:Nat):Int)-1 from by omega),by omega,dg.out.run av dl.out db.out dk.out (by rw[<-aj.out];exact dn.out) dc.out cu d3 (fun g hg=>by
     rcases d5 with h|h
     ·exact .inl (h▸hg)
     ·rw[h] at hg
      cases hg
      exact .inr kA.size)⟩,by simp[intOf];omega⟩
  ·obtain rfl:j=nr+1:=by omega
   have cw:¬z<(nr:Int):=by have:=HZ.out;omega
   obtain⟨i1,d⟩:=ak.out _ _ (vo s);have aj:Hid ((Rf.jl s.m.last s.bs).length<200000):=b4.out _ (vo s);have bq:Hid (rlR (Rf.jl s.m.last s.bs) s.m.last=s.bs):=(show _=_ from ja6 r.out.log r.out.cap)
   have d4:s.m.log<2000000000:=by
    have R:=r.out.Je.1;have h2:=(r.out.Je.2.2.1 s.m.log (ZD.2 (.inr (ZE.2 rfl)))).2;omega
   have dj:Hid (s.m.last<=1000000000):=r.out.Je.2.1;have q2:=zA (o:=2) Y.row;simp at q2;obtain⟨lo,b0⟩:∃ lo,lo=s.m.log:=⟨_,rfl⟩;rw[<-b0] at q2 d4;have E:Hid (∀ W,Calls prog 88 #[.int .i64 (lo:Nat)] W fun e w'=>e = .returned (jd (Rf.j4 lo))/\ja W w' (fun _=>False)):=fun W=>J0 _ (by omega) W;have a3:=Qn (n:=lo) (by omega);have J:jx s.m.log=[108,111,103,45]++Rf.j4 lo:=by rw[b0];rfl
   rw[J] at d;have bh:(i1:Int)<(n:Int):=by have:=d.lt;omega
   have bo:¬(i1:Int)<0:=by omega
   have bx:Hid (∀ W,ly w3 W y s pr nr cr (nr+1) lv xv->Calls prog 90 #[.pointer (some ⟨y,0,none⟩),jd (Rf.jl s.m.last s.bs)] W fun e w'=>e = .returned (.tuple #[])/\al W y (jf s.m.next) (jf s.m.log) (jf s.m.base) lv (.slice pr nr cr) xv (.bool false) s.m.last s.bs w'):=fun W h=>by
    have R:=Lm h.row (Rf.jl s.m.last s.bs) aj.out dj.out;rw[bq.out] at R;exact R
   have bz:Hid (∀ W bv,RAt W y s false bv lv (.slice pr nr cr) xv->Calls prog 91 #[.pointer (some ⟨y,0,none⟩)] W fun e w'=>e = .returned (jd (Rf.jl s.m.last s.bs))/\ja W w' (fun _=>False)):=fun W bv h=>Nt h;clear J b0 bq aj;generalize Rf.jl s.m.last s.bs=LB at d bx bz;generalize Rf.j4 lo=DB at E d a3;have c1:=yb [108,111,103,45] DB;have D:=jb d;have eh:(LB==LB)=true:=by simp
   clear Y d;go_wp2_with fail;refine(E.out _).mono ?_;rintro e w4 ⟨rfl,k4⟩;have I:=kr.tt k4;go_wp2_with fail;refine(D.out.call _ I).mono ?_;rintro e w5 ⟨rfl,k5⟩;have U:=I.tt k5;have a1:=D.out.cell w5 U;have Z:=k4.tt k5;have bt:=jb (HO.out.same Z);go_wp2_with fail;refine(bx.out _ bt.out).mono ?_;rintro e O ⟨rfl,b1⟩;have d6:=b1;obtain⟨_,_,_,k6⟩:=d6;obtain⟨bv,H,xs,G,hB,hG⟩:=bt.out.own (w:=w) b5.out d2 d1 av ai.out r.out ca.out b1;have bf:ja w O (fun _=>False):=U.trans k6 (fun i hi e=>by have e':i=y:=e;omega);have HB:=jb hB;have HG:=jb hG;have a1:=D.out.cell O bf;have di:Hid (∀ W,ja O W (fun _=>False)->Calls prog 91 #[.pointer (some ⟨y,0,none⟩)] W fun e w'=>e = .returned (jd LB)/\ja W w' (fun _=>False)):=fun W k=>bz.out W bv (HB.out.rat.same k);clear hB hG b1 q2 q3 q6;go_wp2_with fail
   go_region_held (fun W=>W.cell? ⟨g,i1*2+1,none⟩=some (jd LB)/\ja O W (fun _=>False)) (first|exact⟨a1,kq⟩|exact⟨a1,ja.drew _ _⟩)
    (first
     | (go_at_call 91;have hq:=‹_/\ja O _ (fun _=>False)›;refine(di.out _ hq.2).mono ?_;rintro e w7 ⟨rfl,k7⟩;have a1:=k7.cell hq.1 id;have kq:=hq.2.tt k7;clear hq))
   all_goals
    go_wp2;go_ret2;exact⟨y,G,rfl,⟨_,_,_,_,_,_,HB.out.keep kq (fun _ t=>t.elim)⟩,HG.out,bf.tt kq⟩
def Cst(W:World)(c:List Value)(v:Value):Prop :=
 v = .slice none 0 0\/∃ g n cap,v = .slice (some ⟨g,0,none⟩) n cap/\(g<W.heap.size/\n<=maxLen)/\∀ k,k<n->∀ j u,c[j]?=some u->W.cell? ⟨g,k*c.length+j,none⟩=some u
def cst(n:Nat)(c:List Value):List Value:=(List.replicate n c).flatten
theorem Tg(n:Nat)(c:List Value):(cst n c).length=n*c.length:=by
 unfold cst
 induction n with
 | zero=>simp
 | succ n ih=>rw[List.replicate_succ,List.flatten_cons,ZY,ih,Nat.succ_mul];omega
theorem o7(n:Nat)(c:List Value):cst (n+1) c=cst n c++c:=by
 unfold cst;rw[List.replicate_succ',List.flatten_append];simp
theorem jf2{u:Value}(f:k<n)(b:c[j]?=some u):(cst n c)[k*c.length+j]?=some u:=by
 have g:j<c.length:=(XA.1 b).1
 induction n generalizing k with
 | zero=>omega
 | succ n ih =>
  rw[o7];have d:=Tg n c;rcases ZJ k n with h|h
  ·have i:k*c.length+j<n*c.length:=by
    have:(k+1)*c.length<=n*c.length:=XJ _ h;rw[Nat.succ_mul] at this;omega
   rw[zQ (by omega)]
   exact ih h
  ·have e:k=n:=by omega
   subst e;rw[zR (by omega),d,yF];exact b
theorem Cst.keep(h:Cst W c v)(k:ja W W' T)(d:∀ g,v.ownBlock=some g->¬T g):Cst W' c v:=by
 rcases h with h|⟨g,n,cap,rfl,b,h⟩
 ·exact .inl h
 ·exact .inr ⟨g,n,cap,rfl,⟨zT b.1 k.size,b.2⟩,fun i hi j u hu=>k.cell (h i hi j u hu) (d g rfl)⟩
theorem Cst.old(h:Cst W c v)(b:v.ownBlock=some g):g<W.heap.size:=by
 rcases h with rfl|⟨d,n,cap,rfl,h,_⟩
 ·cases b
 ·cases b;exact h.1
theorem Cst.shape(h:Cst W c v):∃ p n cap,v = .slice p n cap:=by
 rcases h with rfl|⟨b,n,cap,rfl,h,_⟩
 ·exact⟨_,_,_,rfl⟩
 ·exact⟨_,_,_,rfl⟩
theorem Cst.max(h:Cst W c (.slice p n cap)):n<=maxLen:=by
 rcases h with e|⟨f,d,b,e,h,_⟩
 ·injection e with e1 e2 e3
  omega
 ·injection e with e1 e2 e3
  omega
theorem Cst.at(h:Cst W c (.slice p n cap))(d:k<n):∃ g,p=some ⟨g,0,none⟩/\∀ j u,c[j]?=some u->W.cell? ⟨g,k*c.length+j,none⟩=some u:=by
 rcases h with e|⟨f,i,b,e,_,h⟩
 ·injection e with e1 e2 e3
  omega
 ·injection e with e1 e2 e3
  subst e1;subst e2;exact⟨f,rfl,h k d⟩
theorem jcu{base b:Nat}(h:W.ownsRow base e c.length (.slice (some ⟨g,0,none⟩) m cap) m (cst m c))(t:n<=m):Cst W c (.slice (some ⟨g,0,none⟩) n b):=by
 have v:m<=maxLen:=by
  rcases h.2 with⟨e,_⟩|⟨s,f,l,e,_,d,r,q,p,o⟩
  ·cases e
  ·omega
 refine .inr ⟨g,n,b,rfl,⟨(h.lt g rfl).2,by omega⟩,fun k hk j u hu=>?_⟩;have x:j<c.length:=(XA.1 hu).1;rcases h.2 with⟨e,_⟩|⟨s,f,l,e,_,d,r,q,p,o⟩
 ·cases e
 ·injection e with e1 e2 e3
  cases e1;rw[zA d];have i:=jf2 (n:=m) (by omega:k<m) hu;rw[<-o,zK] at i
  split at i
  ·simpa using i
  ·cases i
theorem Tf{base:Nat}(h:W.ownsRow base e c.length v m (cst m c)):Cst W c v:=by
 rcases h.2 with⟨rfl,_⟩|⟨g,b,f,rfl,_,d,_⟩
 ·exact .inl rfl
 ·exact jcu h (xA _)
def CL(W:World)(e:TypeId)(v:Value)(f:Nat->List Value)(n:Nat)(T:Nat->Prop):Prop :=
 ∃ us,W.ownsRow 0 e 1 v n us/\∀ i,i<n->∃ u,us[i]?=some u/\Cst W (f i) u/\∀ g,u.ownBlock=some g->T g/\v.ownBlock≠some g
theorem CL.keep{T':Nat->Prop}(h:CL W e v f n T)(k:ja W W' U)(p:∀ g,v.ownBlock=some g->¬U g)(o:∀ g,T g->¬U g)(m:∀ g,T g->T' g):CL W' e v f n T':=by
 obtain⟨c,j,d⟩:=h;refine⟨c,k.row j p,fun i hi=>?_⟩;obtain⟨u,e,l,b⟩:=d i hi;exact⟨u,e,l.keep k (fun g hh=>o g (b g hh).1),fun g hh=>⟨m g (b g hh).1,(b g hh).2⟩⟩
theorem CL.nil(W:World)(e:TypeId)(f:Nat->List Value)(T:Nat->Prop):CL W e (.slice none 0 0) f 0 T:=⟨[],zS _ _ _ _,fun i h=>by cases h⟩
theorem CL.shape(h:CL W e v f n T):∃ p c,v = .slice p n c:=by
 obtain⟨d,b,_⟩:=h;obtain⟨p,c,e⟩:=jj b;exact⟨p,c,e⟩
theorem CL.at{c:Nat}(h:CL W e (.slice p n c) f n T)(hi:i<n):∃ g u,p=some ⟨g,0,none⟩/\W.cell? ⟨g,i,none⟩=some u/\Cst W (f i) u:=by
 obtain⟨q,j,d⟩:=h;obtain⟨u,e,k,_⟩:=d i hi;rcases j.2 with⟨_,v⟩|⟨g,cap,o,m,_,b,t,s,r,l⟩
 ·omega
 ·injection m with e1 e2 e3
  refine⟨g,u,e1,?_,k⟩;rw[zA b];rw[<-l,zK] at e
  split at e
  ·simpa using e
  ·cases e
def su:List UInt8:=[109,105,110,101]
def Cz:List UInt8:=[116,117,114,110,101,100]
def Ud:List UInt8:=[111,118,101,114]
def fP(i:Nat):List Value:=[jd su,jd (Rf.j4 (i/4*4))]
def fN(i:Nat):List Value:=[.int .i64 (-1-((i/4*4:Nat):Int))]
def fT(_:Nat):List Value:=[jd Cz,jd Ud,.bool false]
structure lz(W:World)(wb:Nat)(sv pv nv tv:Value)(np nn nt:Nat)(T K:Nat->Prop):Prop where
 row:W.heap[wb]?=some (.cells #[sv,pv,nv,tv] 29 (0,0))
 p:CL W 55 pv fP np T
 n:CL W 39 nv fN nn T
 t:CL W 38 tv fT nt T
 m4:np%4=0/\nn%4=0
 nT:¬T wb/\(∀ g,pv.ownBlock=some g->¬T g)/\(∀ g,nv.ownBlock=some g->¬T g)/\(∀ g,tv.ownBlock=some g->¬T g)
 ap:∀ g,pv.ownBlock=some g->g≠wb/\nv.ownBlock≠some g/\tv.ownBlock≠some g
 an:∀ g,nv.ownBlock=some g->g≠wb/\tv.ownBlock≠some g
 at':∀ g,tv.ownBlock=some g->g≠wb
 lt:∀ g,T g->g<W.heap.size
 J9:∀ g,K g↔(T g\/g=wb\/pv.ownBlock=some g\/nv.ownBlock=some g\/tv.ownBlock=some g)
def Z8(W:World)(wb:Nat)(sv:Value)(np nn nt:Nat)(K:Nat->Prop):Prop:=∃ pv nv tv T,lz W wb sv pv nv tv np nn nt T K
theorem lz.old(h:lz W wb sv pv nv tv np nn nt T K)(hi:K i):i<W.heap.size:=by
 rcases(h.J9 i).1 hi with t|t|t|t|t
 ·exact h.lt i t
 ·rw[t];exact zC h.row
 ·obtain⟨c,b,_⟩:=h.p;exact(b.lt i t).2
 ·obtain⟨c,b,_⟩:=h.n;exact(b.lt i t).2
 ·obtain⟨c,b,_⟩:=h.t;exact(b.lt i t).2
theorem lz.keep(h:lz W wb sv pv nv tv np nn nt T K)(k:ja W W' U)(b:∀ i,U i->¬K i):lz W' wb sv pv nv tv np nn nt T K:=by
 have c:∀ g,T g->¬U g:=fun g t u=>b g u ((h.J9 g).2 (.inl t));exact⟨k.same h.row (fun u=>b _ u ((h.J9 _).2 (.inr (.inl rfl)))),h.p.keep k (fun g e u=>b g u ((h.J9 g).2 (.inr (.inr (.inl e))))) c (fun _ t=>t),h.n.keep k (fun g e u=>b g u ((h.J9 g).2 (.inr (.inr (.inr (.inl e)))))) c (fun _ t=>t),h.t.keep k (fun g e u=>b g u ((h.J9 g).2 (.inr (.inr (.inr (.inr e)))))) c (fun _ t=>t),h.m4,h.nT,h.ap,h.an,h.at',fun g t=>zT (h.lt g t) k.size,h.J9⟩
theorem Z8.keep(h:Z8 W wb sv np nn nt K)(k:ja W W' U)(b:∀ i,U i->¬K i):Z8 W' wb sv np nn nt K:=by
 obtain⟨pv,nv,tv,T,h⟩:=h;exact⟨pv,nv,tv,T,h.keep k b⟩
theorem Z8.same(h:Z8 W wb sv np nn nt K)(k:ja W W' (fun _=>False)):Z8 W' wb sv np nn nt K:=h.keep k (fun _ t=>t.elim)
theorem Z8.old(h:Z8 W wb sv np nn nt K)(hi:K i):i<W.heap.size:=by
 obtain⟨pv,nv,tv,T,h⟩:=h;exact h.old hi
theorem quarter(h:i<1000000000):wrap64 (wrap64 ((i:Int)/4)*4)=((i/4*4:Nat):Int):=by
 rw[wrap_small (z:=(i:Int)/4) (by omega) (by omega),wrap_small (by omega) (by omega)];omega
theorem oq(h:Z8 w wb sv np nn nt K)(hb:np<1000000000/\nn<1000000000/\nt<1000000000) :
 Calls prog 54 #[.pointer (some ⟨wb,0,none⟩)] w fun e w'=>e = .returned (.bool true)/\ja w w' (fun _=>False):=by
 obtain⟨pv,nv,tv,T,z⟩:=h;obtain⟨pp,pc,rfl⟩:=z.p.shape;obtain⟨ap,ac,rfl⟩:=z.n.shape;obtain⟨tp,tc,rfl⟩:=z.t.shape;have HP:=jb z.p;have HN:=jb z.n;have HT:=jb z.t;have G:=zA (o:=1) z.row;have A:=zA (o:=2) z.row;have F:=zA (o:=3) z.row;simp at G A F;obtain⟨b1,b2,b3⟩:=hb;have C:=jb b1;have B:=jb b2;have U:=jb b3;clear z b1 b2 b3;go_enter func54,ntmps54;go_wp2_with fail
 go_loopw [3,4,5] (fun t3 _ _ wr=>∃ i:Nat,t3 = .int .i64 i/\i<=np/\ja w wr (fun _=>False)) (fun t3 _ _ _=>np-(intOf t3).toNat)
 case atStart=>exact⟨0,rfl,zU _,ja.refl _ _⟩
 case round =>
  obtain⟨i,rfl,an,kk⟩:=hrel;have q1:=kk.cell G id;rcases ZJ i np with s|ao
  ·have a4:(i:Int)<(np:Int):=by omega
   have O:IntKind.i64.wrap ((i:Int)+1)=(i:Int)+1:=zE (by have:=C.out;omega) (by have:=C.out;omega);obtain⟨g,u,rfl,j,b⟩:=HP.out.at s;obtain⟨up,c,uc,rfl⟩:=b.shape;have hu:=kk.cell j id;have r:wrap64 (wrap64 ((i:Int)/4)*4)=((i/4*4:Nat):Int):=quarter (by have:=C.out;omega);have HD:Hid (∀ W,Calls prog 88 #[.int .i64 (wrap64 (wrap64 ((i:Int)/4)*4))] W fun e w'=>e = .returned (jd (Rf.j4 (i/4*4)))/\ja W w' (fun _=>False)):=fun W=>by rw[r];exact J0 _ (by have:=C.out;omega) W
   have L:Hid (∀ k,k<c->∃ f,up=some ⟨f,0,none⟩/\w.cell? ⟨f,k*2,none⟩=some (.string ⟨#[109,105,110,101]⟩)/\w.cell? ⟨f,k*2+1,none⟩=some (jd (Rf.j4 (i/4*4)))):=fun k hk=>by
    obtain⟨f,e,E⟩:=b.at hk;exact⟨f,e,E 0 _ rfl,E 1 _ rfl⟩
   generalize Rf.j4 (i/4*4)=DB at HD L;have y:Hid (c<=9223372036854775807):=jb (by have:=b.max;unfold maxLen at this;omega);have x:=jb j;clear b r j;go_wp2_with fail;refine(HD.out _).mono ?_;rintro e w2 ⟨rfl,k2⟩;have m:=kk.tt k2;clear q1 hu;go_wp2_with fail
   go_loopw [5] (fun t5 wr=>∃ k:Nat,t5 = .int .i64 k/\k<=c/\ja w wr (fun _=>False)) (fun t5 _=>c-(intOf t5).toNat)
   case atStart=>exact⟨0,rfl,zU _,m⟩
   case round =>
    obtain⟨k,rfl,S,d⟩:=hrel;have q1:=d.cell G id;have hu:=d.cell x.out id;rcases ZJ k c with l|a0
    ·have v:(k:Int)<(c:Int):=by omega
     have N:IntKind.i64.wrap ((k:Int)+1)=(k:Int)+1:=zE (by omega) (by have:=y.out;omega);obtain⟨f,rfl,D,I⟩:=L.out k l;have y0:=d.cell D id;have y1:=d.cell I id;clear D I;go_wp2;exact⟨⟨k+1,by simp,by omega,d⟩,by simp[intOf];omega⟩
    ·have v:¬(k:Int)<(c:Int):=by omega
     go_wp2;exact⟨⟨i+1,by simp,by omega,d⟩,by simp[intOf];omega⟩
  ·have a4:¬(i:Int)<(np:Int):=by omega
   go_wp2_with fail;clear q1
   go_loopw [6,7] (fun t6 _ wr=>∃ i:Nat,t6 = .int .i64 i/\i<=nn/\ja w wr (fun _=>False)) (fun t6 _ _=>nn-(intOf t6).toNat)
   case atStart=>exact⟨0,rfl,zU _,kk⟩
   case round =>
    obtain⟨q,rfl,af,m⟩:=hrel;have M:=m.cell A id;rcases ZJ q nn with s|a0
    ·have Y:(q:Int)<(nn:Int):=by omega
     have O:IntKind.i64.wrap ((q:Int)+1)=(q:Int)+1:=zE (by have:=B.out;omega) (by have:=B.out;omega);obtain⟨g,u,rfl,j,b⟩:=HN.out.at s;obtain⟨up,c,uc,rfl⟩:=b.shape;have r:=quarter (i:=q) (by have:=B.out;omega);have R:wrap64 (-1-((q/4*4:Nat):Int)) = -1-((q/4*4:Nat):Int):=by have:=B.out;unfold wrap64;omega
     have L:Hid (∀ k,k<c->∃ f X,up=some ⟨f,0,none⟩/\w.cell? ⟨f,k,none⟩=some (.int .i64 X)/\(X !=wrap64 (-1-wrap64 (wrap64 ((q:Int)/4)*4)))=false):=fun k hk=>by
      obtain⟨f,e,E⟩:=b.at hk;refine⟨f,-1-((q/4*4:Nat):Int),e,?_,by rw[r,R];simp⟩;have:=E 0 _ rfl;simpa [fN] using this
     have y:Hid (c<=9223372036854775807):=jb (by have:=b.max;unfold maxLen at this;omega);have x:=jb j;clear b j r R;clear M;have M:=m.cell A id;go_wp2_with fail;clear M
     go_loopw [7] (fun t7 wr=>∃ k:Nat,t7 = .int .i64 k/\k<=c/\ja w wr (fun _=>False)) (fun t7 _=>c-(intOf t7).toNat)
     case atStart=>exact⟨0,rfl,zU _,m⟩
     case round =>
      obtain⟨k,rfl,S,d⟩:=hrel;have M:=d.cell A id;have hu:=d.cell x.out id;rcases ZJ k c with l|Z
      ·have v:(k:Int)<(c:Int):=by omega
       have N:IntKind.i64.wrap ((k:Int)+1)=(k:Int)+1:=zE (by omega) (by have:=y.out;omega);obtain⟨f,X,rfl,D,I⟩:=L.out k l;have y0:=d.cell D id;clear D;go_wp2;exact⟨⟨k+1,by simp,by omega,d⟩,by simp[intOf];omega⟩
      ·have v:¬(k:Int)<(c:Int):=by omega
       go_wp2;exact⟨⟨q+1,by simp,by omega,d⟩,by simp[intOf];omega⟩
    ·have Y:¬(q:Int)<(nn:Int):=by omega
     go_wp2_with fail;clear M
     go_loopw [8,9,10] (fun t8 _ _ wr=>∃ i:Nat,t8 = .int .i64 i/\i<=nt/\ja w wr (fun _=>False)) (fun t8 _ _ _=>nt-(intOf t8).toNat)
     case atStart=>exact⟨0,rfl,zU _,m⟩
     case round =>
      obtain⟨J,rfl,ae,H⟩:=hrel;have q3:=H.cell F id;rcases ZJ J nt with s|Z
      ·have V:(J:Int)<(nt:Int):=by omega
       have O:IntKind.i64.wrap ((J:Int)+1)=(J:Int)+1:=zE (by have:=U.out;omega) (by have:=U.out;omega);obtain⟨g,u,rfl,j,b⟩:=HT.out.at s;obtain⟨up,c,uc,rfl⟩:=b.shape
       have L:Hid (∀ k,k<c->∃ f,up=some ⟨f,0,none⟩/\w.cell? ⟨f,k*3,none⟩=some (.string ⟨#[116,117,114,110,101,100]⟩)/\w.cell? ⟨f,k*3+1,none⟩=some (.string ⟨#[111,118,101,114]⟩)/\w.cell? ⟨f,k*3+2,none⟩=some (.bool false)):=fun k hk=>by
        obtain⟨f,e,E⟩:=b.at hk;exact⟨f,e,E 0 _ rfl,E 1 _ rfl,E 2 _ rfl⟩
       have y:Hid (c<=9223372036854775807):=jb (by have:=b.max;unfold maxLen at this;omega);have x:=jb j;clear b j;go_wp2_with fail;clear q3
       go_loopw [9,10] (fun t9 _ wr=>∃ k:Nat,t9 = .int .i64 k/\k<=c/\ja w wr (fun _=>False)) (fun t9 _ _=>c-(intOf t9).toNat)
       case atStart=>exact⟨0,rfl,zU _,H⟩
       case round =>
        obtain⟨k,rfl,S,d⟩:=hrel;have q3:=d.cell F id;have hu:=d.cell x.out id;rcases ZJ k c with l|ag
        ·have v:(k:Int)<(c:Int):=by omega
         have N:IntKind.i64.wrap ((k:Int)+1)=(k:Int)+1:=zE (by omega) (by have:=y.out;omega);obtain⟨f,rfl,D,I,x2⟩:=L.out k l;have y0:=d.cell D id;have y1:=d.cell I id;have y2:=d.cell x2 id;clear D I x2;go_wp2;exact⟨⟨k+1,by simp,by omega,d.more _⟩,by simp[intOf];omega⟩
        ·have v:¬(k:Int)<(c:Int):=by omega
         go_wp2;exact⟨⟨J+1,by simp,by omega,d⟩,by simp[intOf];omega⟩
      ·have V:¬(J:Int)<(nt:Int):=by omega
       go_wp2;go_ret;exact⟨rfl,H⟩
end Go.Proofs.YtnipbplghijdmaaGreatDoor
namespace Go.Proofs.YtnipbplghijdmaaGreatDoor
open RowKit Maps WideShapes Go.Proofs.Tryz
theorem As{P:Program}(w:World)(base:Nat)(t B e:TypeId)(i:TypeInfo)(z:Value)(size bytes:Nat)(D:P.underlying t=some (.slice e))(hi:P.info? e=some i)(L:i.zero=some z)(o:i.size=size)(s:i.bytes=bytes)(G:z.cells.size=size)(H:0<size)(v:Value)(n:Nat)(xs:List Value)(f:w.ownsRow base e size v n xs)(a:Addr)(m c:Nat)(b:List Value)(C:b.length=m*size)(d:∀ j u,b[j]?=some u->w.cell? (a.add j)=some u)(N:∀ u∈b,u.oneCell'=true)(x:n+m<=maxLen)(l:(n+m)*bytes<=140737488355328)(q:base<=w.heap.size) :
 ∃ v' w',(Builtin.append_ #[t,t] B #[v,.slice (some a) m c]).run P w = .ok v' w'/\w'.ownsRow base e size v' (n+m) (xs++b)/\w.grownBy w' v.ownBlock /\
  (v'.ownBlock=v.ownBlock\/(v'.ownBlock=some w.heap.size/\w.grownBy w' none)):=by
 obtain⟨v',w',E,S,M,W,r⟩:=run_append_own_at (P:=P) w base t B e i z size bytes D hi L o s G H v n xs f a m c b C d N x l q;refine⟨v',w',E,S,M,?_⟩;subst o;subst s;rcases f.2 with⟨rfl,rfl⟩|⟨g,cap,y,rfl,V,R,T,U,I,J⟩
 ·rcases r with r|r
  ·exact .inl r
  ·exact .inr ⟨r,M⟩
 ·by_cases hroom:n+m<=cap
  ·have A:n*i.size+b.length<=y.size:=by rw[C,I,<-Nat.add_mul];exact XJ _ hroom
   have F:=E.symm.trans (run_append_room (P:=P) w t B e i D hi g n cap y R a m c b C d N hroom A);injection F with e1 e2;exact .inl (by rw[e1];rfl)
  ·have p:∀ j u,xs[j]?=some u->w.cell? ((⟨g,0,none⟩:Addr).add j)=some u:=f.cells (g:=g) rfl
   have O:n+m<=9223372036854775807:=by simp only[maxLen] at x;omega
   have F:=E.symm.trans (run_append_grow (P:=P) w t B e i z D hi L ⟨g,0,none⟩ n cap xs f.1 p a m c b C d (by omega) (by omega) (growslice_fits (by omega) l));injection F with e1 e2;subst e2;exact .inr ⟨by rw[e1];rfl,⟨rfl,rfl,rfl,by simp,fun k hk _=>heap_alloc_old w.drew _ hk⟩⟩
theorem Z0{P:Program}(w:World){f:Array Oper}{rest:List Oper}{o:Oper}{a:Act}{Q:Exit->Act->World->Prop}(g:o.guard=none)(s x:Operand)(t:TypeId)(q:o.op = .call { callee:= .builtin .append,args:=#[s,x],argTypes:=#[t,t] })(base:Nat)(e:TypeId)(i:TypeInfo)(z:Value)(size bytes:Nat)(ht:P.underlying t=some (.slice e))(hi:P.info? e=some i)(hz:i.zero=some z)(hsize:i.size=size)(hby:i.bytes=bytes)(hzs:z.cells.size=size)(hsz:0<size)(v:Value)(n:Nat)(xs:List Value)(hs:a.eval s=v)(hown:w.ownsRow base e size v n xs)(ad:Addr)(m c:Nat)(news:List Value)(hx:a.eval x = .slice (some ad) m c)(hl:news.length=m*size)(hnews:∀ j u,news[j]?=some u->w.cell? (ad.add j)=some u)(h1:∀ u∈news,u.oneCell'=true)(h63:n+m<=maxLen)(hbytes:(n+m)*bytes<=140737488355328)(hbase:base<=w.heap.size)(hK:∀(p:Option Addr) (d:Nat) (b:World),b.ownsRow base e size (.slice p (n+m) d) (n+m) (xs++news)->w.grownBy b v.ownBlock->((Value.slice p (n+m) d).ownBlock=v.ownBlock\/((Value.slice p (n+m) d).ownBlock=some w.heap.size/\w.grownBy b none))->wpList P f Q rest (a.put o.dst (.slice p (n+m) d)) b) :
 wpList P f Q (o::rest) a w:=by
 refine wpList_plain g fun K hK'=>?_;obtain⟨v',b,l,k,y,r⟩:=As (P:=P) w base t o.type e i z size bytes ht hi hz hsize hby hzs hsz v n xs hown ad m c news hl hnews h1 h63 hbytes hbase;obtain⟨p,d,rfl⟩:=jj k;unfold Oper.wp execOp;simp only[q,resolve,invoke,builtin,Sem.run_bind,Sem.run_pure,Result.andThen_ok,List.map_toArray,zI,ZI,hs,hx,l];exact hK' _ _ (hK p d b k y r)
structure Gr(W:World)(es e:TypeId)(c:List Value)(f:Nat->List Value)(pv lv:Value)(n m:Nat)(us:List Value)(T:Nat->Prop):Prop where
 row:W.ownsRow 0 es 1 pv n us
 el:∀ i,i<n->∃ u,us[i]?=some u/\Cst W (f i) u/\(∀ g,u.ownBlock=some g->T g)/\∀ g,lv.ownBlock=some g->u.ownBlock=some g->f i=c/\∃ n' cap',u = .slice (some ⟨g,0,none⟩) n' cap'/\n'<=m
 l:W.ownsRow 0 e c.length lv m (cst m c)
 lT:∀ g,lv.ownBlock=some g->T g
 nT:∀ g,pv.ownBlock=some g->¬T g
 lt:∀ g,T g->g<W.heap.size
section
variable {W W':World} {es e:TypeId} {c:List Value} {f:Nat->List Value} {pv lv:Value} {n m:Nat} {us:List Value} {T:Nat->Prop}
theorem Kg{base d:Nat}{v:Value}{xs:List Value}(h:W.ownsRow base e d v m xs){g:Nat}(b:v.ownBlock=some g):∃ cap,v = .slice (some ⟨g,0,none⟩) m cap:=by
 rcases h.2 with⟨rfl,_⟩|⟨i,c,f,rfl,_⟩
 ·cases b
 ·cases b;exact⟨_,rfl⟩
theorem Gr.push{b:Value}(h:Gr W es e c f pv lv n m us T){U:Nat->Prop}(k:ja W W' U)(o:∀ i,U i->¬T i)(s:W'.ownsRow 0 es 1 b (n+1) (us++[lv]))(r:∀ g,b.ownBlock=some g->pv.ownBlock=some g\/W.heap.size<=g)(j:f n=c):Gr W' es e c f b lv (n+1) m (us++[lv]) T:=by
 have v:us.length=n:=by have:=h.row.1;omega
 have p:=k.row h.l (fun g e t=>o g t (h.lT g e));refine⟨s,fun i hi=>?_,p,h.lT,fun g e t=>?_,fun g t=>zT (h.lt g t) k.size⟩
 ·rcases ZJ i n with d|A
  ·obtain⟨u,z,x,q,y⟩:=h.el i d
   exact⟨u,by rw[zQ (by omega)];exact z,x.keep k (fun g hg t=>o g t (q g hg)),q,y⟩
  ·have e:i=n:=by omega
   subst e;refine⟨lv,by rw[zR (by omega),v];simp,?_,h.lT,fun g hg _=>?_⟩
   ·rw[j];exact Tf p
   ·obtain⟨cap,e⟩:=Kg h.l hg
    exact⟨j,m,cap,e,xA _⟩
 ·rcases r g e with e|e
  ·exact h.nT g e t
  ·have:=h.lt g t;omega
theorem Gr.grow{k:Value}(h:Gr W es e c f pv lv n m us T)(q:W'.ownsRow 0 e c.length k (m+1) (cst m c++c))(r:ja W W' (fun j=>lv.ownBlock=some j))(d:k.ownBlock=lv.ownBlock\/((∀ g,k.ownBlock=some g->W.heap.size<=g)/\ja W W' (fun _=>False))):Gr W' es e c f pv k n (m+1) us (fun g=>T g\/k.ownBlock=some g):=by
 rw[<-o7] at q;refine⟨r.row h.row (fun g l e2=>h.nT g l (h.lT g e2)),fun i hi=>?_,q,fun g e=> .inr e,fun g l t=>?_,fun g t=>?_⟩
 ·obtain⟨u,l,v,y,x⟩:=h.el i hi
  rcases d with d|⟨d,z⟩
  ·refine⟨u,l,?_,fun g b=> .inl (y g b),fun g b p=>?_⟩
   ·by_cases hx:∃ g,lv.ownBlock=some g/\u.ownBlock=some g
    ·obtain⟨g,b,p⟩:=hx
     obtain⟨s,A,o,rfl,B⟩:=x g b p;obtain⟨cap,rfl⟩:=Kg q (d.trans b);rw[s];exact jcu q (by omega)
    ·exact v.keep r (fun g b t=>hx ⟨g,t,b⟩)
   ·obtain⟨s,A,o,e,B⟩:=x g (d▸b) p
    exact⟨s,A,o,e,by omega⟩
  ·refine⟨u,l,v.keep z (fun _ _ t=>t),fun g b=> .inl (y g b),fun g b p=>?_⟩
   have:=d g b;have:=v.old p;omega
 ·rcases t with t|t
  ·exact h.nT g l t
  ·rcases d with d|⟨d,_⟩
   ·exact h.nT g l (h.lT g (d▸t))
   ·have y:=d g t
    have x:=(h.row.lt g l).2;omega
 ·rcases t with t|t
  ·exact zT (h.lt g t) r.size
  ·exact(q.lt g t).2
theorem Gr.cl(h:Gr W es e c f pv lv n m us T):CL W es pv f n T:=by
 refine⟨us,h.row,fun i hi=>?_⟩;obtain⟨u,j,d,b,k⟩:=h.el i hi;exact⟨u,j,d,fun g hg=>⟨b g hg,fun e=>h.nT g e (b g hg)⟩⟩
theorem CL.gr{v lv:Value}{T':Nat->Prop}(h:CL W es v f n T)(q:W.ownsRow 0 e c.length lv m (cst m c))(s:∀ g,T g->T' g)(b:∀ g,lv.ownBlock=some g->T' g/\¬T g)(j:∀ g,v.ownBlock=some g->¬T' g)(k:∀ g,T' g->g<W.heap.size):∃ us,Gr W es e c f v lv n m us T':=by
 obtain⟨us,p,l⟩:=h;refine⟨us,p,fun i hi=>?_,q,fun g e=>(b g e).1,j,k⟩;obtain⟨u,d,r,o⟩:=l i hi;exact⟨u,d,r,fun g hg=>s g (o g hg).1,fun g d e2=>((b g d).2 (o g e2).1).elim⟩
end
end Go.Proofs.YtnipbplghijdmaaGreatDoor
namespace Go.Proofs.YtnipbplghijdmaaGreatDoor
open RowKit Maps WideShapes Go.Proofs.Tryz
section
variable {w:World} {b:Nat} {t:TypeId} {dv nx la lo ba ru last mv:Value} {deg:Bool}
theorem P6(d:w.heap[b]?=some (.cells (qe dv nx la lo ba ru last mv deg true) t (0,0)))(i:Value):Calls prog 24 #[.pointer (some ⟨b,0,none⟩),i] w fun e w'=>e = .returned (.int .i64 3)/\w'=w:=by
 have f:=jb (Jc d);have c:Qi deg true=3:=rfl;rw[c] at f;clear d c;go_enter func24,ntmps24;go_wp2_with fail;refine f.out.mono ?_;rintro e j ⟨rfl,g⟩;subst g;go_wp2;go_ret;exact⟨rfl,rfl⟩
theorem U4(d:w.heap[b]?=some (.cells (qe dv nx la lo ba ru last mv deg true) t (0,0))):Calls prog 77 #[.pointer (some ⟨b,0,none⟩)] w fun e w'=>e = .returned (.int .i64 3)/\w'=w:=by
 have f:=jb (Jc d);have c:Qi deg true=3:=rfl;rw[c] at f;clear d c;go_enter func77,ntmps77;go_wp2_with fail;refine f.out.mono ?_;rintro e i ⟨rfl,g⟩;subst g;go_wp2;go_ret;exact⟨rfl,rfl⟩
theorem Sv(d:w.heap[b]?=some (.cells (qe dv nx la lo ba ru last mv deg true) t (0,0))):Calls prog 26 #[.pointer (some ⟨b,0,none⟩)] w fun e w'=>e = .returned (.int .i64 3)/\w'=w:=by
 have f:=jb (Jc d);have c:Qi deg true=3:=rfl;rw[c] at f;clear d c;go_enter func26,ntmps26;go_wp2_with fail;refine f.out.mono ?_;rintro e i ⟨rfl,g⟩;subst g;go_wp2;go_ret;exact⟨rfl,rfl⟩
theorem Mo(d:w.heap[b]?=some (.cells (qe dv nx la lo ba ru last mv deg true) t (0,0))):Calls prog 27 #[.pointer (some ⟨b,0,none⟩)] w fun e w'=>e = .returned (.int .i64 3)/\w'=w:=by
 have f:=jb (Jc d);have c:Qi deg true=3:=rfl;rw[c] at f;clear d c;go_enter func27,ntmps27;go_wp2_with fail;refine f.out.mono ?_;rintro e i ⟨rfl,g⟩;subst g;go_wp2;go_ret;exact⟨rfl,rfl⟩
end
end Go.Proofs.YtnipbplghijdmaaGreatDoor
namespace Go.Proofs.YtnipbplghijdmaaGreatDoor
open RowKit Maps WideShapes Go.Proofs.Tryz
section
variable {E:Nat->Addr} {B:Nat} {w w':World} {d b k:Nat} {s:Rf.St} {F:Nat->Prop} {ρ:Nat->jz} {rv mv:Value}
theorem qz.jfz{f:Nat->jz}(S:qz E B w ρ d b s k rv mv)(g:xo w ρ w' f)(D:DW E B w' f d s.files k):Qo E B w ρ d b rv mv s k w':=by
 have j:∀ g',mv.ownBlock=some g'->ρ g' = .none/\g'≠b:=S.nm;refine⟨f,rv,mv,⟨S.env.keep g.keeps (fun i t=>(S.zw.ya i t).1),D,g.keeps.same S.row (fun t=>t S.nb.1),S.runs.keep g.keeps (fun _ p n c e t=>t (S.nr p n c e).1),g.keeps.row S.mem (fun g' hg t=>t (j g' hg).1),⟨(g.role b (zC S.row)).trans S.nb.1,S.nb.2⟩,fun p n c e=>?_,fun g' hg=>⟨(g.role g' (S.mem.lt g' hg).2).trans (j g' hg).1,(j g' hg).2⟩,S.ok,S.few⟩,g.keeps.mono (fun i _ t=> .inl t),g.role,fun g' hg=> .inl hg,fun p n c e=> .inl ⟨n,c,e⟩⟩;obtain⟨r,q,o,m,l⟩:=S.nr p n c e;exact⟨(g.role _ l).trans r,q,o,m,zT l g.keeps.size⟩
theorem jfc(h:Own E B w d b s k F):Calls prog 77 #[.pointer (some ⟨b,0,none⟩)] w fun e w'=>e = .returned (.int .i64 0)/\Qu E B w d b s k F w':=by
 obtain⟨ρ,rv,x,S,j⟩:=h
 have c:s.m.log<=9223372036854775807:=by
  have:=(S.ok.Je.2.2.1 s.m.log (ZD.2 (.inr (ZE.2 rfl)))).2;have:=S.ok.Je.1;omega
 have l:=jb (Jc S.row);have i:Qi false false=0:=rfl;rw[i] at l;have HS:=jb (An S.zw S.env c (xi.2 (.inr (.inl rfl))) S.row);have f:=jb S;have g:=jb j;clear S j i c;go_enter func77,ntmps77;go_wp2_with fail;refine l.out.mono ?_;rintro e v ⟨rfl,o⟩;subst o;go_wp2_with fail;refine HS.out.mono ?_;rintro e u ⟨rfl,r,p,q⟩;go_wp2_with fail;refine(um b).mono ?_;rintro e t ⟨rfl,n⟩;subst n;go_wp2;go_ret;exact⟨rfl,Qu.of f.out g.out (f.out.jfz p q)⟩
theorem Uz(h:Own E B w d b s k F)(i:Value)(es:List Rf.Ch)(g:Chs w i es)(f:Rf.qy es=false)(m:es.length<1099511627776)(j:∀ c∈es,c.key.length<1099511627776/\c.value.length<1099511627776) :
 Calls prog 24 #[.pointer (some ⟨b,0,none⟩),i] w fun e w'=>e = .returned (.int .i64 5)/\ja w w' (fun _=>False):=by
 obtain⟨ρ,rv,v,S,q⟩:=h;have n:=jb (Jc S.row);have l:Qi false false=0:=rfl;rw[l] at n;have o:=jb (ic i es w g m j);rw[f] at o;clear S q l f m j g;go_enter func24,ntmps24;go_wp2_with fail;refine n.out.mono ?_;rintro e u ⟨rfl,r⟩;subst r;go_wp2_with fail;refine o.out.mono ?_;rintro e t ⟨rfl,p⟩;go_wp2;go_ret;exact⟨rfl,p⟩
def ry(E:Nat->Addr)(B:Nat)(w:World)(d b:Nat)(s:Rf.St)(k:Nat)(F:Nat->Prop):Prop :=
 ∃ ρ rv,Env E B w/\DW E B w ρ d s.files k/\w.heap[b]?=some (.cells (qe (.pointer none) (jf s.m.next) (jf s.m.last) (jf s.m.log) (jf s.m.base) rv (jf s.last) (.slice none 0 0) false true) 121 (0,0))/\zl w rv s.m.runs/\ρ b = .none/\B<=b/\s.Ok/\s.mem.length<60000/\(∀ i,ρ i≠ .none->F i)/\F b/\(∀ g,rv.ownBlock=some g->F g)/\(∀ i,F i->B<=i/\i<w.heap.size)
theorem ry.keep(h:ry E B w d b s k F){T:Nat->Prop}(g:ja w w' T)(m:∀ i,i<w.heap.size->T i->B<=i/\¬F i):ry E B w' d b s k F:=by
 obtain⟨ρ,rv,C,A,z,y,x,v,u,r,q,l,j,f⟩:=h;have o:∀ i,F i->¬T i:=fun i hi t=>(m i (f i hi).2 t).2 hi;refine⟨ρ,rv,C.keep (g.mono (U:=fun i=>T i/\i<w.heap.size) (fun i hi t=>⟨t,hi⟩)) (fun i t=>(m i t.2 t.1).1),A.keep g (fun i hi t=>⟨yG (fun hne=>(m i hi t).2 (q i hne)),(m i hi t).1⟩),g.same z (o b l),y.keep g (fun _ p n c e t=>o _ (j p.block (by rw[e];rfl)) t),x,v,u,r,q,l,j,fun i hi=>⟨(f i hi).1,zT (f i hi).2 g.size⟩⟩
theorem ry.row(h:ry E B w d b s k F):∃ rv,w.heap[b]?=some (.cells (qe (.pointer none) (jf s.m.next) (jf s.m.last) (jf s.m.log) (jf s.m.base) rv (jf s.last) (.slice none 0 0) false true) 121 (0,0))/\zl w rv s.m.runs:=by
 obtain⟨ρ,rv,i,g,f,c,_⟩:=h;exact⟨rv,f,c⟩
theorem jeq(h:Own E B w d b s k F):Calls prog 40 #[.pointer (some ⟨b,0,none⟩)] w fun e w'=>e = .returned (.int .i64 0)/\ry E B w' d b s k F/\ja w w' (fun i=>i=b):=by
 have f:=fun i hi=>h.old (i:=i) hi;obtain⟨ρ,rv,r,S,m⟩:=h;refine(Ku S.row).mono ?_;rintro e q ⟨j,⟨h,_⟩|⟨_,rfl,l⟩⟩
 ·cases h
 ·have o:∀ i,i=b->B<=i:=fun i e=>by rw[e];exact S.nb.2
  refine⟨rfl,⟨ρ,rv,S.env.keep j o,S.zw.keep j (fun i _ e=>by rw[e];exact S.nb),l,S.runs.keep j (fun _ p n c e t=>(S.nr p n c e).2.1 t),S.nb.1,S.nb.2,S.ok,S.few,fun i t=>(m i).2 (.inl (.inl t)),(m b).2 (.inl (.inr (.inl rfl))),fun g hg=>?_,fun i hi=>⟨(f i hi).1,zT (f i hi).2 j.size⟩⟩,j⟩;obtain⟨p,n,c,rfl,_⟩:∃ p n c,rv = .slice p n c/\True:=by obtain⟨p,c,e,_⟩:=S.runs;exact⟨p,_,c,e,trivial⟩
  cases p with
  | none=>cases hg
  | some ad =>
   cases hg;exact(m _).2 (.inr ⟨ad,n,c,rfl,rfl⟩)
theorem jer(h:ry E B w d b s k F):Calls prog 40 #[.pointer (some ⟨b,0,none⟩)] w fun e w'=>e = .returned (.int .i64 3)/\w'=w:=by
 obtain⟨rv,c,_⟩:=h.row;refine(Ku c).mono ?_;rintro e f ⟨g,⟨_,rfl,h⟩|⟨h,_⟩⟩
 ·exact⟨rfl,h⟩
 ·cases h
def jgp(s:Rf.St)(w:World)(e:Ending)(w':World):Prop:=∃ p c,e = .returned (.agg #[ju s.last,ju s.m.log,ju s.m.base,ju s.m.next,.slice p s.m.runs.length c,.bool false,.bool true])/\w'.ownsRow w.heap.size 3 1 (.slice p s.m.runs.length c) s.m.runs.length (s.m.runs.map jf)/\ja w w' (fun _=>False)
theorem jfr(h:ry E B w d b s k F):Calls prog 32 #[.pointer (some ⟨b,0,none⟩)] w (jgp s w):=by
 obtain⟨ρ,rv,m,l,g,f,j,i,c,_⟩:=h;exact(Oj g f (by have:=c.runs;omega)).mono (fun e w' h=>h)
theorem ry.zw(h:ry E B w d b s k F):∃ ρ,DW E B w ρ d s.files k/\Env E B w/\∀ i,ρ i≠ .none->F i:=by
 obtain⟨ρ,rv,g,f,p,o,n,m,l,j,c,_⟩:=h;exact⟨ρ,f,g,c⟩
theorem jci{t:TypeId}{l i k lo m f last j:Value}{c:Bool}(d:w.heap[b]?=some (.cells (qe l i k lo m f last j c true) t (0,0)))(key:Str):Calls prog 33 #[.pointer (some ⟨b,0,none⟩),jd key] w fun e w'=>e = .returned (.tuple #[jd [],.bool false,.int .i64 3])/\ja w w' (fun _=>False):=by
 have g:=zA (o:=9) d;simp at g;clear d;go_enter func33,ntmps33;go_wp2;go_ret3;exact⟨rfl,ja.refl _ _⟩
theorem Ve{w:World}{b:Nat}{t:TypeId}{u s r q p n m l k:Value}(j:w.heap[b]?=some (.cells #[u,s,r,q,p,n,m,l,k,.bool true] t (0,0)))(lo hi:Str)(most:Int) :
 Calls prog 29 #[.pointer (some ⟨b,0,none⟩),jd lo,jd hi,.int .i64 most] w fun e w'=>e = .returned (.tuple #[.slice none 0 0,.int .i64 3])/\ja w w' (fun _=>False):=by
 obtain⟨d,c⟩:∃ d,d=(((w.alloc (.cells #[.pointer (some ⟨b,0,none⟩)] 49)).alloc (.cells #[.int .i64 most] 3)).alloc (.cells #[.slice none 0 0] 55)).alloc (.cells #[.int .i64 0] 48):=⟨_,rfl⟩;have i:ja w d (fun _=>False):=by rw[c];exact(((ja.alloc w _ _).more _).more _).more _
 have f:=zA (o:=9) (i.same j id);simp at f;have g:=f;rw[c] at g;clear j c f i;go_enter func29,ntmps29;go_wp2;refine bodyPost_ret (v:= .tuple #[.slice none 0 0,.int .i64 3]) (by simp[results,Tryz.results29,go_sem]) rfl ?_;exact⟨rfl,(((ja.alloc w _ _).more _).more _).more _⟩
end
end Go.Proofs.YtnipbplghijdmaaGreatDoor
namespace Go.Proofs.YtnipbplghijdmaaGreatDoor.Rf
open Go.Proofs.Tryz
variable {l:List Ch}
def sg(l:List Ch):Nat:=(l.flatMap entry).length
theorem Yd(c:Ch)(l:List Ch):sg (c::l)=(entry c).length+sg l:=by simp[sg]
theorem Kc(a b:List Ch):sg (a++b)=sg a+sg b:=by simp[sg]
theorem jff(c:Ch)(l:List Ch):sg (ins c l)<=(entry c).length+sg l:=by
 induction l with
 | nil=>simp[ins,sg]
 | cons x r ih =>
  unfold ins
  split
  ·rw[Yd];exact xA _
  ·split
   ·rw[Yd,Yd];omega
   ·rw[Yd,Yd];omega
theorem T7(h:jy l)(b:List Ch):sg (over l b)<=sg l+sg b:=by
 induction b generalizing l with
 | nil=>exact Nat.le_add_right _ _
 | cons c r ih =>
  have d:over l (c::r)=over (put l c) r:=rfl;rw[d,dt h,Yd];have g:=ih (Yv (c:=c) h);have f:=jff c l;omega
def sgs(bs:List (List Ch)):Nat:=(bs.map sg).sum
theorem nh(b:List Ch)(bs:List (List Ch)):sgs (b::bs)=sg b+sgs bs:=by simp[sgs]
theorem jau(h:jy l)(bs:List (List Ch)):sg (bs.foldl over l)<=sg l+sgs bs:=by
 induction bs generalizing l with
 | nil=>exact Nat.le_add_right _ _
 | cons b r ih =>
  rw[List.foldl_cons,nh];have d:=ih (J2 (more:=b) h);have c:=T7 h b;omega
theorem Vc(bs:List (List Ch)):sg (memory bs)<=sgs bs:=by
 have:=jau (l:=[]) List.Pairwise.nil bs;simpa [memory,sg] using this
theorem Vb(ls:List (List Ch)):sg (merged ls)<=sgs ls:=by
 induction ls with
 | nil=>exact xA _
 | cons l r ih =>
  rw[Qx,nh];have:=T7 (yu r) l;omega
theorem jat(l:List Ch):sg (there l)<=sg l:=by
 induction l with
 | nil=>exact xA _
 | cons c r ih =>
  unfold there at ih ⊢;by_cases h:c.gone=true
  ·rw[XZ (by simp[h]),Yd];omega
  ·rw[XT (by simpa using h),Yd,Yd];omega
theorem Ks(c:Ch):c.key.length+2<=(entry c).length:=by
 unfold entry text
 split
 ·simp only[zX,ZY,ji];omega
 ·simp only[zX,ZY,ji];omega
theorem Cf{c:Ch}(h:allowed c=true):1<=c.key.length/\c.key.length<=16:=by
 unfold allowed at h;simp only[XR,decide_eq_true_eq] at h;exact⟨h.1.1.1,h.1.1.2⟩
theorem Rj(h:∀ c∈l,allowed c=true):3*l.length<=sg l:=by
 induction l with
 | nil=>exact xA _
 | cons c r ih =>
  have f:=ih (fun x hx=>h x (xI _ hx));have d:=Ks c;have b:=(Cf (h c xJ)).1;rw[Yd,zX];omega
theorem Ip(h:∀ c∈l,allowed c=true)(m:Nat)(f:4*m<=l.length):(x9 l m).length+6*m<=sg (l.take (4*m)):=by
 induction m with
 | zero=>simp[x9,js]
 | succ m ih =>
  have j:=ih (by omega);rw[Xh l m (by omega)]
  have e:l.take (4*(m+1))=l.take (4*m)++(l.drop (4*m)).take 4:=by
   rw[show 4*(m+1)=4*m+4 by omega,List.take_add]
  rw[e,Kc];have d:((l.drop (4*m)).take 4).length=4:=by rw[ZT,ZU];omega
  have b:∀ c∈(l.drop (4*m)).take 4,allowed c=true:=fun c hc=>h c (xS (ZH hc));generalize hB:(l.drop (4*m)).take 4=B at d b ⊢
  match B,d with
  | c::r,d =>
   have i:=Rj (l:=r) (fun x hx=>b x (xI _ hx));have g:=Ks c;rw[zX] at d;rw[Yd];show((x9 l m++big (qh l m).length 4)++text c.key).length+6*(m+1)<=_;unfold text;simp only[ZY,ji];omega
theorem jdq(l:List Ch)(n:Nat):sg (l.take n)<=sg l:=by
 have:=Kc (l.take n) (l.drop n);rw[ZR] at this;omega
theorem nk(h:∀ c∈l,allowed c=true):4*(jn l).length<=9*sg l+176/\sg l<=(jn l).length:=by
 rw[dq];have j:=I4 l ((l.length+3)/4) (by omega);rw[ZO (by omega)] at j;have m:(l.flatMap entry).length=sg l:=rfl;have o:=Rj h
 have i:(x9 l ((l.length+3)/4)).length<=sg l+21-6*(l.length/4)/\6*(l.length/4)<=sg l/\((l.length+3)/4=l.length/4->(x9 l ((l.length+3)/4)).length<=sg l-6*(l.length/4)):=by
  have k:=Ip h (l.length/4) (by omega);have g:=jdq l (4*(l.length/4));refine⟨?_,by omega,fun e=>by rw[e];omega⟩;by_cases hc:4*(l.length/4)<l.length
  ·have e:(l.length+3)/4=l.length/4+1:=by omega
   rw[e,Xh l _ hc]
   have n:(zq ((l.drop (4*(l.length/4))).take 4)).length<=16:=by
    obtain⟨c,f,d⟩:=Yn (b:=(l.drop (4*(l.length/4))).take 4) (by rw[ZT,ZU];omega);rw[d];exact(Cf (h c (xS (ZH f)))).2
   unfold text;simp only[ZY,ji];omega
  ·have e:(l.length+3)/4=l.length/4:=by omega
   rw[e];omega
 obtain⟨i,k,g⟩:=i;simp only[ZY,ji,frame];rw[m] at j;by_cases hc:(l.length+3)/4=l.length/4
 ·have:=g hc
  omega
 ·omega
theorem Ya(last:Nat)(bs:List (List Ch)):(jl last bs).length=sgs bs+17*bs.length:=by
 induction bs generalizing last with
 | nil=>simp[jl,sgs]
 | cons b r ih =>
  have e:jl last (b::r)=jt (last+1) b++jl (last+1) r:=by simp[jl,jt]
  have g:=ih (last+1);have f:=gd (last+1) b;have d:=C7 b;have c:(b.flatMap entry).length=sg b:=rfl;rw[e,ZY,nh,zX];omega
theorem Za{b:List Ch}(h:qy b=true)(n:Nat):(jt n b).length<=489:=by
 have c:=(yd b).1 h;have g:=Jf c.2.2;have f:=gd n b;have d:=C7 b;omega
theorem Om{ls:List (List Ch)}(h:∀ l∈ls,∀ c∈l,allowed c=true):3*x7 ls<=sgs ls:=by
 induction ls with
 | nil=>simp[x7,sgs]
 | cons l r ih =>
  have f:=ih (fun x hx=>h x (xI _ hx));have d:=Rj (h l xJ);have b:x7 (l::r)=l.length+x7 r:=by simp[x7]
  rw[b,nh];omega
end Go.Proofs.YtnipbplghijdmaaGreatDoor.Rf
namespace Go.Proofs.YtnipbplghijdmaaGreatDoor
open Go.Proofs.Tryz
variable {n:Nat} {s:Rf.St}
theorem fc:∀(ns:List Nat) (ls:List (List Rf.Ch)),ls.length=ns.length->(∀ l∈ls,∀ c∈l,Rf.allowed c=true)->Rf.sgs ls<=j3 (j9 ns ls)
 | [],[],_,_=>by simp[j9,j3,Rf.sgs]
 | n::r,l::q,hl,h=>by
  have h1:=fc r q (by simpa using hl) (fun x hx=>h x (xI _ hx))
  have b:=(Rf.nk (h l xJ)).2
  have e:j9 (n::r) (l::q)=(jq n,Rf.jn l)::j9 r q:=rfl
  rw[e,y7,Rf.nh]
  show Rf.sg l+Rf.sgs q<=(Rf.jn l).length+_
  omega
theorem J6(s:Rf.St):j3 s.files=s.m.bytes.length+((Rf.jl s.m.last s.bs).length+j3 (j9 s.m.settled s.bls)):=by
 unfold Rf.St.files;rw[y7,y7]
structure Fits(n:Nat)(s:Rf.St):Prop where
 ok:s.Ok
 size:j3 s.files<=20000
 last:s.last<=n
 next:1<=s.m.next/\s.m.next<=2+2*n
theorem Fits.first:Fits 0 Rf.St.first:=⟨Rf.St.Ok.first,by decide,by decide,by decide⟩
theorem Fits.mono{m:Nat}(h:Fits n s)(b:n<=m):Fits m s:=⟨h.ok,h.size,ZF h.last b,by have:=h.next;omega⟩
structure Bnd(s:Rf.St):Prop where
 lens:x7 s.bs+x7 s.bls<20000
 bs:s.bs.length<20000
 bls:s.bls.length<20000
 runs:s.m.runs.length<20000
 mem:s.mem.length<20000
 all:s.all.length<20000
 mrg:(Rf.merged s.bls).length<20000
 live:s.live.length<20000
theorem cn(h:s.Ok):(∀ b∈s.bs,∀ c∈b,Rf.allowed c=true)/\∀ l∈s.bls,∀ c∈l,Rf.allowed c=true:=⟨fun b hb=>((Rf.yd b).1 (h.log b hb)).2.2,fun l hl=>(h.bl l hl).allowed⟩
theorem Fits.bnd(h:Fits n s):Bnd s:=by
 have c:=h.size;rw[J6,yg,Rf.Ya] at c;obtain⟨d,b⟩:=cn h.ok;have r:=fc s.m.settled s.bls h.ok.len b;have q:=Rf.Om d;have p:=Rf.Om b;have o:=h.ok.len;have l:=ve s.m;have k:s.mem.length<=x7 s.bs:=bq s.bs;have j:s.all.length<=x7 (s.mem::s.bls):=Yz _;have i:x7 (s.mem::s.bls)=s.mem.length+x7 s.bls:=by simp[x7]
 have g:(Rf.merged s.bls).length<=x7 s.bls:=Yz _;have f:s.live.length<=(Rf.merged s.bls).length:=XF _ _;exact⟨by omega,by omega,by omega,by omega,by omega,by omega,by omega,by omega⟩
theorem tw(h:s.Ok)(f:j3 s.files<=6000):(s.m.qn s.last).bytes.length+(Rf.jn s.mem).length+j3 s.files<=20000:=by
 have i:=f;rw[J6,yg,Rf.Ya] at i;have o:=yg (s.m.qn s.last);have n:(s.m.qn s.last).runs.length=s.m.runs.length+1:=rfl
 have k:=(Rf.nk (l:=s.mem) (fun c hc=>by
  obtain⟨b,g,d⟩:=Rf.ud hc
  exact(cn h).1 b g c d)).1
 have j:Rf.sg s.mem<=Rf.sgs s.bs:=Rf.Vc s.bs;omega
theorem vh(h:s.Ok)(f:j3 s.files<=6000):42+(Rf.jn s.live).length+j3 s.files<=20000:=by
 have g:=f;rw[J6,yg,Rf.Ya] at g;have n:=fc s.m.settled s.bls h.len (cn h).2
 have k:=(Rf.nk (l:=s.live) (fun c hc=>by
  obtain⟨l,b,d⟩:=Rf.F7 (fun l b=>(h.bl l b).rising) (Rf.I8 _ c hc)
  exact(h.bl l b).allowed c d)).1
 have j:Rf.sg s.live<=Rf.sg (Rf.merged s.bls):=Rf.jat _;have i:=Rf.Vb s.bls;omega
theorem Fits.write(h:Fits n s){b:List Rf.Ch}(c:Rf.qy b=true)(d:j3 s.files<=6000)(j:n<2000000):Fits (n+1) (s.write b):=by
 have f:=h.last;have i:=h.next;refine⟨h.ok.write c (by omega),?_,?_,by show 1<=s.m.next/\s.m.next<=_;omega⟩
 ·rw[J6] at d ⊢
  have e:(Rf.jl s.m.last (s.bs++[b])).length=(Rf.jl s.m.last s.bs).length+(Rf.jt (s.last+1) b).length:=by
   rw[Rf.Ya,Rf.Ya];have o:=Rf.gd (s.last+1) b;have l:=Rf.C7 b;have k:(b.flatMap Rf.entry).length=Rf.sg b:=rfl;have g:Rf.sgs (s.bs++[b])=Rf.sgs s.bs+Rf.sg b:=by simp[Rf.sgs]
   rw[g,ZY,xC];omega
  have p:=Rf.Za c (s.last+1);show s.m.bytes.length+((Rf.jl s.m.last (s.bs++[b])).length+j3 (j9 s.m.settled s.bls))<=20000;rw[e];omega
 ·show s.m.last+(s.bs++[b]).length<=n+1
  rw[ZY,xC];unfold Rf.St.last at f;omega
theorem Fits.flush(h:Fits n s)(c:j3 s.files<=6000)(k:n<2000000):Fits (n+1) s.flush:=by
 by_cases hb:s.bs=[]
 ·have e:s.flush=s:=by unfold Rf.St.flush;rw[if_pos hb]
  rw[e];exact h.mono (by omega)
 ·have e:s.flush=⟨s.m.qn s.last,[],s.mem::s.bls⟩:=by unfold Rf.St.flush;rw[if_neg hb]
  have o:=h.last;have b:=h.next;have B:=h.bnd;have l:=B.mem;have j:=B.runs;have d:=tw h.ok c;have ok:=h.ok.flush (by omega) (by omega) b.1 (by omega);rw[e] at ok ⊢;refine⟨ok,?_,?_,?_⟩
  ·rw[J6] at d ⊢
   have i:(Rf.jl s.last []).length=0:=by rw[Rf.Ya];simp[Rf.sgs]
   have g:(s.m.qn s.last).settled=s.m.next::s.m.settled:=by
    unfold Rf.Man.settled Rf.Man.qn;dsimp only
    split<;>simp
   show(s.m.qn s.last).bytes.length+((Rf.jl s.last []).length+j3 (j9 (s.m.qn s.last).settled (s.mem::s.bls)))<=20000;have f:j9 (s.m.next::s.m.settled) (s.mem::s.bls)=(jq s.m.next,Rf.jn s.mem)::j9 s.m.settled s.bls:=rfl;rw[i,g,f,y7];show(s.m.qn s.last).bytes.length+(0+((Rf.jn s.mem).length+_))<=20000;omega
  ·show s.last+0<=n+1
   omega
  ·show 1<=s.m.next+2/\s.m.next+2<=_
   omega
theorem Fits.qd(h:Fits n s)(b:j3 s.files<=6000)(k:n<2000000):Fits (n+1) s.qd:=by
 have o:=h.last;have j:=h.next;have B:=h.bnd;have l:=B.live;have d:=vh h.ok b;have ok:=h.ok.qd (by omega) (by omega);rw[J6] at d;by_cases hr:s.m.runs=[]
 ·have e:s.qd=s:=by unfold Rf.St.qd;rw[if_pos hr]
  rw[e];exact h.mono (by omega)
 ·by_cases b:s.live=[]
  ·have e:s.qd=⟨s.m.bare,s.bs,[]⟩:=by unfold Rf.St.qd;rw[if_neg hr,if_pos b]
   rw[e] at ok ⊢;refine⟨ok,?_,by show s.last<=_;omega,by show 1<=s.m.next/\s.m.next<=_;omega⟩;rw[J6];have i:=yg s.m.bare;have g:s.m.bare.runs.length=0:=rfl;have c:j3 (j9 s.m.bare.settled [])=0:=by unfold j9;rw[List.zip_nil_right];rfl
   show s.m.bare.bytes.length+((Rf.jl s.m.last s.bs).length+j3 (j9 s.m.bare.settled []))<=20000;rw[c];have:=h.size;rw[J6] at this;omega
  ·have e:s.qd=⟨s.m.yf,s.bs,[s.live]⟩:=by unfold Rf.St.qd;rw[if_neg hr,if_neg b]
   rw[e] at ok ⊢;refine⟨ok,?_,by show s.last<=_;omega,by show 1<=s.m.next+1/\s.m.next+1<=_;omega⟩;rw[J6];have i:=yg s.m.yf;have g:s.m.yf.runs.length=0:=rfl
   have c:s.m.yf.settled=[s.m.next]:=by
    unfold Rf.Man.settled Rf.Man.yf;rw[if_neg (by show ¬s.m.next=0;omega)];rfl
   have f:j3 (j9 [s.m.next] [s.live])=(Rf.jn s.live).length:=by simp[j9,j3]
   show s.m.yf.bytes.length+((Rf.jl s.m.last s.bs).length+j3 (j9 s.m.yf.settled [s.live]))<=20000;rw[c,f];omega
end Go.Proofs.YtnipbplghijdmaaGreatDoor
namespace Go.Proofs.YtnipbplghijdmaaGreatDoor
open RowKit Maps WideShapes Go.Proofs.Tryz
def Yc(E:Nat->Addr)(B:Nat)(w:World)(d b:Nat)(s:Rf.St)(k:Nat)(cl:Bool)(F:Nat->Prop):Prop:=(cl=false/\Own E B w d b s k F)\/(cl=true/\ry E B w d b s k F)
section
variable {E:Nat->Addr} {B:Nat} {w w':World} {d b k:Nat} {s:Rf.St} {cl:Bool} {F:Nat->Prop}
theorem ry.old(h:ry E B w d b s k F){i:Nat}(hi:F i):B<=i/\i<w.heap.size:=by
 obtain⟨ρ,rv,_,_,_,_,_,_,_,_,_,_,_,h⟩:=h;exact h i hi
theorem ry.size(h:ry E B w d b s k F):B<=w.heap.size:=by
 obtain⟨ρ,rv,_,_,c,_,_,f,_⟩:=h;have:=zC c;omega
theorem Yc.old(h:Yc E B w d b s k cl F){i:Nat}(hi:F i):B<=i/\i<w.heap.size:=by
 rcases h with⟨_,h⟩|⟨_,h⟩
 ·exact h.old hi
 ·exact h.old hi
theorem Yc.size(h:Yc E B w d b s k cl F):B<=w.heap.size:=by
 rcases h with⟨_,h⟩|⟨_,h⟩
 ·exact h.size
 ·exact h.size
theorem Yc.keep(h:Yc E B w d b s k cl F){T:Nat->Prop}(c:ja w w' T)(f:∀ i,i<w.heap.size->T i->B<=i/\¬F i):Yc E B w' d b s k cl F:=by
 rcases h with⟨e,h⟩|⟨e,h⟩
 ·exact .inl ⟨e,h.keep c f⟩
 ·exact .inr ⟨e,h.keep c f⟩
theorem Yc.env(h:Yc E B w d b s k cl F):Env E B w:=by
 rcases h with⟨_,h⟩|⟨_,h⟩
 ·exact h.env
 ·obtain⟨ρ,_,h,_⟩:=h.zw;exact h
theorem Yc.zw(h:Yc E B w d b s k cl F):∃ ρ,DW E B w ρ d s.files k/\∀ i,ρ i≠ .none->F i:=by
 rcases h with⟨_,h⟩|⟨_,h⟩
 ·exact h.zw
 ·obtain⟨ρ,f,_,c⟩:=h.zw;exact⟨ρ,f,c⟩
theorem Yc.op(h:Yc E B w d b s k false F):Own E B w d b s k F:=by
 rcases h with⟨_,h⟩|⟨e,_⟩
 ·exact h
 ·cases e
theorem Yc.shut(h:Yc E B w d b s k true F):ry E B w d b s k F:=by
 rcases h with⟨e,_⟩|⟨_,h⟩
 ·cases e
 ·exact h
end
structure ik(E:Nat->Addr)(B:Nat)(W:World)(sd d x y:Nat)(s:Rf.St)(cl:Bool)(k:Nat)(F G:Nat->Prop):Prop where
 row:W.heap[sd]?=some (.cells #[.pointer (some ⟨d,0,none⟩),.pointer (some ⟨x,0,none⟩),.pointer (some ⟨y,0,none⟩)] 96 (0,0))
 x:Yc E B W d x s k cl F
 y:dc W y s cl G
 fg:∀ i,F i->¬G i
 sF:¬F sd
 sG:¬G sd
 ge:B<=sd/\∀ i,G i->B<=i
def I5(E:Nat->Addr)(B:Nat)(W:World)(sd:Nat)(s:Rf.St)(cl:Bool)(k:Nat)(Q:Nat->Prop):Prop:=∃ d x y F G,ik E B W sd d x y s cl k F G/\∀ i,Q i↔(F i\/G i\/i=sd)
section
variable {E:Nat->Addr} {B:Nat} {W W':World} {sd d x y k:Nat} {s:Rf.St} {cl:Bool} {F G Q:Nat->Prop}
theorem ik.keep(h:ik E B W sd d x y s cl k F G){T:Nat->Prop}(c:ja W W' T)(b:∀ i,i<W.heap.size->T i->B<=i/\¬(F i\/G i\/i=sd)):ik E B W' sd d x y s cl k F G :=
 ⟨c.same h.row (fun t=>(b _ (zC h.row) t).2 (.inr (.inr rfl))),h.x.keep c (fun i hi t=>⟨(b i hi t).1,fun f=>(b i hi t).2 (.inl f)⟩),h.y.keep (T:=fun i=>T i/\i<W.heap.size) (c.mono (fun i hi t=>⟨t,hi⟩)) (fun i t g=>(b i t.2 t.1).2 (.inr (.inl g))),h.fg,h.sF,h.sG,h.ge⟩
theorem I5.keep(h:I5 E B W sd s cl k Q){T:Nat->Prop}(f:ja W W' T)(b:∀ i,i<W.heap.size->T i->B<=i/\¬Q i):I5 E B W' sd s cl k Q:=by
 obtain⟨d,x,y,F,G,h,c⟩:=h;exact⟨d,x,y,F,G,h.keep f (fun i hi t=>⟨(b i hi t).1,fun q=>(b i hi t).2 ((c i).2 q)⟩),c⟩
theorem I5.same(h:I5 E B W sd s cl k Q)(b:ja W W' (fun _=>False)):I5 E B W' sd s cl k Q:=h.keep b (fun _ _ t=>t.elim)
theorem I5.old(h:I5 E B W sd s cl k Q){i:Nat}(hi:Q i):B<=i/\i<W.heap.size:=by
 obtain⟨d,x,y,F,G,h,b⟩:=h;rcases(b i).1 hi with t|t|t
 ·exact h.x.old t
 ·exact⟨h.ge.2 i t,h.y.old t⟩
 ·rw[t];exact⟨h.ge.1,zC h.row⟩
end
structure Wd(E:Nat->Addr)(B:Nat)(W:World)(wb:Nat)(sv:Value)(sd:Nat)(s:Rf.St)(cl:Bool)(k np nn nt:Nat)(Q K:Nat->Prop):Prop where
 side:I5 E B W sd s cl k Q
 lists:Z8 W wb sv np nn nt K
 apart:∀ i,Q i->¬K i
 ge:∀ i,K i->B<=i
def qi(E:Nat->Addr)(B:Nat)(W:World)(wb:Nat)(sv:Value)(sd n k np nn nt:Nat)(Q K:Nat->Prop)(W':World):Prop :=
 ∃ s' cl' k' np' nn' nt' Q' K',Wd E B W' wb sv sd s' cl' k' np' nn' nt' Q' K'/\Fits n s'/\k'<=k/\np'<=np/\nn'<=nn/\nt'<=nt/\ja W W' (fun i=>Q i\/K i)/\(∀ i,Q' i->Q i\/W.heap.size<=i)/\(∀ i,K' i->K i\/W.heap.size<=i)
def Jk(E:Nat->Addr)(B:Nat)(W:World)(wb:Nat)(sv:Value)(sd n k np nn nt:Nat)(Q K:Nat->Prop)(e:Ending)(W':World):Prop :=
 e = .returned (.bool true)/\qi E B W wb sv sd (n+1) (k+100000) (np+4) (nn+4) (nt+1) Q K W'
section
variable {E:Nat->Addr} {B:Nat} {W W' W2:World} {wb sd n k np nn nt:Nat} {sv:Value} {s:Rf.St} {cl:Bool} {Q K:Nat->Prop}
theorem Wd.same(h:Wd E B W wb sv sd s cl k np nn nt Q K)(b:ja W W' (fun _=>False)):Wd E B W' wb sv sd s cl k np nn nt Q K:=⟨h.side.same b,h.lists.same b,h.apart,h.ge⟩
theorem qi.same(h:Wd E B W wb sv sd s cl k np nn nt Q K)(c:Fits n s)(b:ja W W' (fun _=>False)):qi E B W wb sv sd n k np nn nt Q K W' :=
 ⟨s,cl,k,np,nn,nt,Q,K,h.same b,c,xA _,xA _,xA _,xA _,b.up,fun _ t=> .inl t,fun _ t=> .inl t⟩
theorem qi.mono{l k' c d b:Nat}(h:qi E B W wb sv sd n k np nn nt Q K W')(s:n<=l)(y:k<=k')(x:np<=c)(v:nn<=d)(u:nt<=b):qi E B W wb sv sd l k' c d b Q K W':=by
 obtain⟨m,j,o,g,i,f,Q',t,p,q,D,C,A,z,r⟩:=h;exact⟨m,j,o,g,i,f,Q',t,p,q.mono s,by omega,by omega,by omega,by omega,r⟩
theorem qi.side{c:Rf.St}{b:Bool}{k':Nat}{Q':Nat->Prop}(h:Wd E B W wb sv sd s cl k np nn nt Q K)(g:I5 E B W' sd c b k' Q')(d:ja W W' Q)(f:∀ i,Q' i->Q i\/W.heap.size<=i)(j:Fits n c):qi E B W wb sv sd n k' np nn nt Q K W' :=
 ⟨c,b,k',np,nn,nt,Q',K,⟨g,h.lists.keep d (fun i q=>h.apart i q),fun i q t=>by
  rcases f i q with q|q
  ·exact h.apart i q t
  ·have:=h.lists.old t;omega,h.ge⟩,j,xA _,xA _,xA _,xA _,d.mono (fun _ _ t=> .inl t),f,fun _ t=> .inl t⟩
theorem qi.lists{c d b:Nat}{r X o p:Nat->Prop}{f:World}(h:Wd E B W wb sv sd s cl k np nn nt Q K)(z:Fits n s)(y:Z8 W' wb sv c d b r)(x:ja f W (fun i=>o i\/p i))(u:∀ i,Q i->o i\/f.heap.size<=i)(j:∀ i,K i->p i\/f.heap.size<=i)(v:ja W W' (fun i=>K i\/X i))(l:∀ i,X i->f.heap.size<=i)(A:B<=f.heap.size)(g:∀ i,X i->¬Q i)(m:∀ i,r i->K i\/X i\/W.heap.size<=i):qi E B f wb sv sd n k c d b o p W':=by
 have C:=x.size;refine⟨s,cl,k,c,d,b,Q,r,⟨h.side.keep v (fun i hi t=>?_),y,fun i q t=>?_,fun i t=>?_⟩,z,xA _,xA _,xA _,xA _,?_,u,fun i t=>?_⟩
 ·rcases t with t|t
  ·exact⟨h.ge i t,fun q=>h.apart i q t⟩
  ·have:=l i t
   exact⟨by omega,g i t⟩
 ·rcases m i t with t|t|t
  ·exact h.apart i q t
  ·exact g i t q
  ·have:=(h.side.old q).2;omega
 ·rcases m i t with t|t|t
  ·exact h.ge i t
  ·have:=l i t;omega
  ·omega
 ·refine x.trans v (fun i hi t=>?_)
  rcases t with t|t
  ·rcases j i t with t|t
   ·exact .inr t
   ·omega
  ·have:=l i t;omega
 ·rcases m i t with t|t|t
  ·exact j i t
  ·exact .inr (l i t)
  ·exact .inr (by omega)
theorem qi.back(g:ja W W' (fun _=>False))(h:qi E B W' wb sv sd n k np nn nt Q K W2):qi E B W wb sv sd n k np nn nt Q K W2:=by
 obtain⟨j,f,k',c,d,b,Q',x,p,q,v,u,s,r,o,m,l⟩:=h;have y:=g.size;refine⟨j,f,k',c,d,b,Q',x,p,q,v,u,s,r,(g.up).trans o (fun i hi t=>t),fun i t=>?_,fun i t=>?_⟩
 ·rcases m i t with t|t
  ·exact .inl t
  ·exact .inr (by omega)
 ·rcases l i t with t|t
  ·exact .inl t
  ·exact .inr (by omega)
theorem qi.trans{l n c d b:Nat}{q r:Nat->Prop}(m:ja W W' (fun i=>Q i\/K i))(o:∀ i,q i->Q i\/W.heap.size<=i)(p:∀ i,r i->K i\/W.heap.size<=i)(h:qi E B W' wb sv sd l n c d b q r W2):qi E B W wb sv sd l n c d b Q K W2:=by
 obtain⟨s,k,k',g,j,f,Q',G,y,z,F,D,C,A,x,v,u⟩:=h;have H:=m.size;refine⟨s,k,k',g,j,f,Q',G,y,z,F,D,C,A,m.trans x (fun i hi t=>?_),fun i t=>?_,fun i t=>?_⟩
 ·rcases t with t|t
  ·rcases o i t with t|t
   ·exact .inl t
   ·omega
  ·rcases p i t with t|t
   ·exact .inr t
   ·omega
 ·rcases v i t with t|t
  ·exact o i t
  ·exact .inr (by omega)
 ·rcases u i t with t|t
  ·exact p i t
  ·exact .inr (by omega)
end
end Go.Proofs.YtnipbplghijdmaaGreatDoor
namespace Go.Proofs.YtnipbplghijdmaaGreatDoor
open RowKit Maps WideShapes Go.Proofs.Tryz
theorem Ql{α:Type}{l:List α}{p:Nat}(h:p<l.length)(a:α):(l.set p a).take (p+1)=l.take p++[a]:=by
 rw[zY,XP h,zZ,List.take_set_of_le (xA p)]
def mw(W wr:World)(e:TypeId)(c:List Value)(v:Value)(n i:Nat):Prop:=∃ cs,wr.ownsRow 0 e c.length v n cs/\cs.take (i*c.length)=cst i c/\ja W wr (fun j=>v.ownBlock=some j)
theorem mw.first{W:World}{e:TypeId}{c:List Value}{v:Value}{n:Nat}{cs:List Value}(h:W.ownsRow 0 e c.length v n cs):mw W W e c v n 0:=⟨cs,h,by simp[cst],ja.refl _ _⟩
theorem mw.done{W wr:World}{e:TypeId}{c:List Value}{v:Value}{n:Nat}(h:mw W wr e c v n n):wr.ownsRow 0 e c.length v n (cst n c)/\ja W wr (fun j=>v.ownBlock=some j):=by
 obtain⟨cs,b,d,k⟩:=h;rw[ZO (by rw[b.1];exact xA _)] at d;rw[d] at b;exact⟨b,k⟩
theorem mw.heap{W wr:World}{e:TypeId}{c:List Value}{g n i cap:Nat}(h:mw W wr e c (.slice (some ⟨g,0,none⟩) n cap) n i):∃ cur:Array Value,wr.heap[g]?=some (.cells cur e (0,0))/\n*c.length<=cur.size:=by
 obtain⟨cs,f,_,_⟩:=h;rcases f.2 with⟨e,_⟩|⟨o,d,cur,e,_,b,k,m,j,l⟩
 ·cases e
 ·cases e
  exact⟨cur,b,by rw[j];exact XJ _ k⟩
theorem mw.one{W wr:World}{e:TypeId}{a:Value}{g n i cap:Nat}(h:mw W wr e [a] (.slice (some ⟨g,0,none⟩) n cap) n i)(hi:i<n):mw W (wr.setCell ⟨g,i,none⟩ a) e [a] (.slice (some ⟨g,0,none⟩) n cap) n (i+1):=by
 obtain⟨cs,b,c,k⟩:=h;have d:=b.1;simp only[zX,xU,zP,Nat.mul_one] at d c b ⊢;refine⟨cs.set i a,Q8 b (by omega) a,?_,k.set (p:=⟨g,i,none⟩) rfl a⟩;show(cs.set i a).take ((i+1)*1)=_;rw[Nat.mul_one,Ql (by omega),c,o7]
theorem mw.two{W wr:World}{e:TypeId}{a b:Value}{g n i cap:Nat}(h:mw W wr e [a,b] (.slice (some ⟨g,0,none⟩) n cap) n i)(hi:i<n):mw W ((wr.setCell ⟨g,i*2,none⟩ a).setCell ⟨g,i*2+1,none⟩ b) e [a,b] (.slice (some ⟨g,0,none⟩) n cap) n (i+1):=by
 obtain⟨cs,d,c,k⟩:=h;have f:cs.length=n*2:=d.1;have c:cs.take (i*2)=cst i [a,b]:=c;refine⟨(cs.set (i*2) a).set (i*2+1) b,Q8 (Q8 d (by show i*2<n*2;omega) a) (by show i*2+1<n*2;omega) b,?_,(k.set (p:=⟨g,i*2,none⟩) rfl a).set (p:=⟨g,i*2+1,none⟩) rfl b⟩;show((cs.set (i*2) a).set (i*2+1) b).take ((i+1)*2)=_;rw[show(i+1)*2=i*2+1+1 by omega,Ql (by rw[XK];omega),Ql (by omega),c,o7,ZK];rfl
def Zs(w:World)(wb:Nat)(sv:Value)(np nn nt:Nat)(K:Nat->Prop)(v:Value)(w':World):Prop:=∃ K',Z8 w' wb sv np nn nt K'/\ja w w' (fun i=>K i\/v.ownBlock=some i)/\∀ i,K' i->K i\/v.ownBlock=some i\/w.heap.size<=i
structure KP(w1 wr:World)(wb:Nat)(es e:TypeId)(c:List Value)(f:Nat->List Value)(mk:Value->Array Value)(pv0 v:Value)(T0:Nat->Prop)(N M:Nat)(pv lv:Value)(us:List Value)(T:Nat->Prop):Prop where
 row:wr.heap[wb]?=some (.cells (mk pv) 29 (0,0))
 gr:Gr wr es e c f pv lv N M us T
 tT:∀ g,T0 g->T g
 nT:∀ g,T g->T0 g\/v.ownBlock=some g\/w1.heap.size<=g
 pvb:∀ g,pv.ownBlock=some g->pv0.ownBlock=some g\/w1.heap.size<=g
 kk:ja w1 wr (fun i=>i=wb\/pv0.ownBlock=some i\/v.ownBlock=some i)
section
variable {w1 wr:World} {wb N M:Nat} {es e t:TypeId} {c:List Value} {f:Nat->List Value} {mk:Value->Array Value} {pv0 v pv lv:Value} {T0 T:Nat->Prop} {us:List Value}
theorem KP.wT(h:KP w1 wr wb es e c f mk pv0 v T0 N M pv lv us T)(d:¬T0 wb)(b:v.ownBlock≠some wb)(g:wb<w1.heap.size):¬T wb:=fun t=>by
 rcases h.nT wb t with t|t|t
 ·exact d t
 ·exact b t
 ·omega
theorem KP.push{k:World}{b:Value}{i:Nat}{x:Obj}(h:KP w1 wr wb es e c f mk pv0 v T0 N M pv lv us T)(E:¬T0 wb)(A:v.ownBlock≠some wb)(C:pv0.ownBlock≠some wb)(z:wb<w1.heap.size)(D:f N=c)(B:k.ownsRow 0 es 1 b (N+1) (us++[lv]))(d:(wr.alloc x).grownBy k pv.ownBlock)(l:b.ownBlock=pv.ownBlock\/b.ownBlock=some (wr.alloc x).heap.size)(q:∀ p,(mk p).setIfInBounds i b=mk b) :
 KP w1 (k.setCell ⟨wb,i,none⟩ b) wb es e c f mk pv0 v T0 (N+1) M b lv (us++[lv]) T:=by
 have r:=ja.alloc wr x (fun _=>False);have y:ja wr k (fun j=>pv.ownBlock=some j):=(r.up).trans (ja.grown d) (fun j _ e=>e.symm);have s:=ja.setCell k ⟨wb,i,none⟩ b;have m:ja wr (k.setCell ⟨wb,i,none⟩ b) (fun j=>pv.ownBlock=some j\/j=wb):=(y.mono (fun _ _ t=> .inl t)).trans s (fun j _ e=> .inr e)
 have n:pv.ownBlock≠some wb:=fun t=>by
  rcases h.pvb wb t with t|t
  ·exact C t
  ·omega
 have o:∀ g,b.ownBlock=some g->pv.ownBlock=some g\/wr.heap.size<=g:=fun g d=>by
  rcases l with l|l
  ·exact .inl (l▸d)
  ·rw[l] at d
   cases d;exact .inr r.size
 have H:=h.kk.size;refine⟨?_,h.gr.push m (fun j t u=>?_) (s.row B (fun g d e=>?_)) o D,h.tT,h.nT,fun g d=>?_,?_⟩
 ·have F:=y.same h.row n
  rw[jc F,q]
 ·rcases t with t|t
  ·exact h.gr.nT j t u
  ·rw[t] at u;exact h.wT E A z u
 ·have G:g=wb:=e
  rcases o g d with t|t
  ·rw[G] at t;exact n t
  ·omega
 ·rcases o g d with t|t
  ·exact h.pvb g t
  ·exact .inr (by omega)
 ·refine h.kk.trans m (fun j hj t=>?_)
  rcases t with t|t
  ·rcases h.pvb j t with t|t
   ·exact .inr (.inl t)
   ·omega
  ·exact .inl t
theorem KP.grow{k:World}{b:Value}{x:Obj}(h:KP w1 wr wb es e c f mk pv0 v T0 N M pv lv us T)(y:¬T0 wb)(r:v.ownBlock≠some wb)(q:wb<w1.heap.size)(l:∀ g,lv.ownBlock=some g->v.ownBlock=some g\/w1.heap.size<=g)(s:k.ownsRow 0 e c.length b (M+1) (cst M c++c))(i:(wr.alloc x).grownBy k lv.ownBlock)(d:b.ownBlock=lv.ownBlock\/(b.ownBlock=some (wr.alloc x).heap.size/\(wr.alloc x).grownBy k none)) :
 KP w1 k wb es e c f mk pv0 v T0 N (M+1) pv b us (fun g=>T g\/b.ownBlock=some g)/\∀ g,b.ownBlock=some g->v.ownBlock=some g\/w1.heap.size<=g:=by
 have n:=ja.alloc wr x (fun _=>False);have o:ja wr k (fun j=>lv.ownBlock=some j):=(n.up).trans (ja.grown i) (fun j _ e=>e.symm);have z:=h.kk.size;have p:=n.size
 have m:∀ g,b.ownBlock=some g->v.ownBlock=some g\/w1.heap.size<=g:=fun g i=>by
  rcases d with d|⟨d,_⟩
  ·exact l g (d▸i)
  ·rw[d] at i
   cases i;exact .inr (by omega)
 refine⟨⟨o.same h.row (fun t=>?_),h.gr.grow s o ?_,fun g t=> .inl (h.tT g t),fun g t=>?_,h.pvb,h.kk.trans o (fun j hj t=>?_)⟩,m⟩
 ·exact h.wT y r q (h.gr.lT wb t)
 ·rcases d with d|⟨d,u⟩
  ·exact .inl d
  ·refine .inr ⟨fun g i=>?_,n.trans (ja.grown u) (fun j _ e=>by cases e)⟩
   rw[d] at i;cases i;exact p
 ·rcases t with t|t
  ·exact h.nT g t
  ·exact .inr (m g t)
 ·rcases l j t with t|t
  ·exact .inr (.inr t)
  ·omega
end
theorem KP.ends{w q wr:World}{d N M:Nat}{p b c v a z:Value}{E x:List Value}{m T K:Nat->Prop}{D e:TypeId}{f:Nat->List Value}{y:Value->Array Value}(o:∀ g,(m g\/g=d\/p.ownBlock=some g\/b.ownBlock=some g\/c.ownBlock=some g)->K g/\g<w.heap.size)(n:¬m d/\(∀ g,p.ownBlock=some g->¬m g)/\(∀ g,b.ownBlock=some g->¬m g)/\∀ g,c.ownBlock=some g->¬m g)(s:∀ g,p.ownBlock=some g->g≠d/\b.ownBlock≠some g/\c.ownBlock≠some g)(C:∀ g,b.ownBlock=some g->g≠d)(B:∀ g,c.ownBlock=some g->g≠d)(l:∀ g,v.ownBlock=some g->¬K g)(r:ja w q (fun j=>v.ownBlock=some j))(h:KP q wr d D e E f y p v m N M a z x T) :
 (∀ g,(g=d\/p.ownBlock=some g\/v.ownBlock=some g)->¬m g/\b.ownBlock≠some g/\c.ownBlock≠some g)/\(∀ g,T g->¬(g=d\/b.ownBlock=some g\/c.ownBlock=some g))/\(∀ g,a.ownBlock=some g->g≠d/\b.ownBlock≠some g/\c.ownBlock≠some g)/\ja w wr (fun i=>K i\/v.ownBlock=some i)/\∀ i,(T i\/i=d\/a.ownBlock=some i\/b.ownBlock=some i\/c.ownBlock=some i)->K i\/v.ownBlock=some i\/w.heap.size<=i:=by
 have F:=r.size;have k:∀ g,(g=d\/b.ownBlock=some g\/c.ownBlock=some g)->K g/\g<w.heap.size:=fun g t=>o g (t.elim (fun t=> .inr (.inl t)) (fun t=> .inr (.inr (.inr t))));refine⟨fun g t=>?_,fun g t u=>?_,fun g t=>?_,(r.mono (fun _ _ t=> .inr t)).trans h.kk (fun j hj t=>?_),fun i t=>?_⟩
 ·rcases t with t|t|t
  ·subst t
   exact⟨n.1,fun e=>C _ e rfl,fun e=>B _ e rfl⟩
  ·exact⟨n.2.1 g t,(s g t).2⟩
  ·exact⟨fun u=>l g t (o g (.inl u)).1,fun u=>l g t (k g (.inr (.inl u))).1,fun u=>l g t (k g (.inr (.inr u))).1⟩
 ·have A:=k g u
  rcases h.nT g t with t|t|t
  ·rcases u with u|u|u
   ·rw[u] at t;exact n.1 t
   ·exact n.2.2.1 g u t
   ·exact n.2.2.2 g u t
  ·exact l g t A.1
  ·omega
 ·rcases h.pvb g t with t|t
  ·exact s g t
  ·exact⟨fun u=>by have:=(k g (.inl u)).2;omega,fun u=>by have:=(k g (.inr (.inl u))).2;omega,fun u=>by have:=(k g (.inr (.inr u))).2;omega⟩
 ·rcases t with t|t|t
  ·exact .inl (k j (.inl t)).1
  ·exact .inl (o j (.inr (.inr (.inl t)))).1
  ·exact .inr t
 ·rcases t with t|t|t|t
  ·rcases h.nT i t with t|t|t
   ·exact .inl (o i (.inl t)).1
   ·exact .inr (.inl t)
   ·exact .inr (.inr (by omega))
  ·exact .inl (k i (.inl t)).1
  ·rcases h.pvb i t with t|t
   ·exact .inl (o i (.inr (.inr (.inl t)))).1
   ·exact .inr (.inr (by omega))
  ·exact .inl (k i (.inr t)).1
theorem Zy{A B a b c:Prop}(h:A\/B\/a\/b\/c):A\/B\/b\/a\/c:=h.elim .inl (fun h=> .inr (h.elim .inl (fun h=> .inr (h.elim (fun h=> .inr (.inl h)) (fun h=>h.elim .inl (fun h=> .inr (.inr h)))))))
theorem KP.jg0{w x wr:World}{f r z y M:Nat}{q i m l v pv lv:Value}{c D:List Value}{B T K:Nat->Prop}{e:TypeId}(b:lz w f q i m l r z y B K)(k:∀ g,v.ownBlock=some g->¬K g)(A:ja w x (fun j=>v.ownBlock=some j))(h:KP x wr f 55 e c fP (fun p=>#[q,p,m,l]) i v B (r+4) M pv lv D T):Zs w f q (r+4) z y K v wr:=by
 have C:=b.keep A k;obtain⟨o,d,s,F,hi⟩:=h.ends (fun g t=>⟨(b.J9 g).2 t,b.old ((b.J9 g).2 t)⟩) b.nT b.ap (fun g e=>(b.an g e).1) b.at' k A;have E:=b.m4;exact⟨fun g=>T g\/g=f\/pv.ownBlock=some g\/m.ownBlock=some g\/l.ownBlock=some g,⟨pv,m,l,T,⟨h.row,h.gr.cl,C.n.keep h.kk (fun g e u=>(o g u).2.1 e) (fun g t u=>(o g u).1 t) h.tT,C.t.keep h.kk (fun g e u=>(o g u).2.2 e) (fun g t u=>(o g u).1 t) h.tT,⟨by omega,E.2⟩,⟨fun t=>d f t (.inl rfl),h.gr.nT,fun g u t=>d g t (.inr (.inl u)),fun g u t=>d g t (.inr (.inr u))⟩,s,b.an,b.at',h.gr.lt,fun g=>Iff.rfl⟩⟩,F,hi⟩
theorem KP.jg1{w y wr:World}{l A x z M:Nat}{s o n m v pv lv:Value}{c E:List Value}{C T K:Nat->Prop}{e:TypeId}(d:lz w l s n o m A x z C K)(q:∀ g,v.ownBlock=some g->¬K g)(B:ja w y (fun j=>v.ownBlock=some j))(h:KP y wr l 39 e c fN (fun p=>#[s,n,p,m]) o v C (x+4) M pv lv E T):Zs w l s A (x+4) z K v wr:=by
 have D:=d.keep B q;obtain⟨r,f,k,G,hi⟩:=h.ends (b:=n) (c:=m) (K:=K) (fun g t=>⟨(d.J9 g).2 (Zy t),d.old ((d.J9 g).2 (Zy t))⟩) ⟨d.nT.1,d.nT.2.2.1,d.nT.2.1,d.nT.2.2.2⟩ (fun g t=>⟨(d.an g t).1,fun e=>(d.ap g e).2.1 t,(d.an g t).2⟩) (fun g e=>(d.ap g e).1) d.at' q B;have F:=d.m4;exact⟨fun g=>T g\/g=l\/n.ownBlock=some g\/pv.ownBlock=some g\/m.ownBlock=some g,⟨n,pv,m,T,⟨h.row,D.p.keep h.kk (fun g e u=>(r g u).2.1 e) (fun g t u=>(r g u).1 t) h.tT,h.gr.cl,D.t.keep h.kk (fun g e u=>(r g u).2.2 e) (fun g t u=>(r g u).1 t) h.tT,⟨F.1,by omega⟩,⟨fun t=>f l t (.inl rfl),fun g u t=>f g t (.inr (.inl u)),h.gr.nT,fun g u t=>f g t (.inr (.inr u))⟩,fun g e=>⟨(d.ap g e).1,fun t=>(k g t).2.1 e,(d.ap g e).2.2⟩,fun g e=>⟨(k g e).1,(k g e).2.2⟩,d.at',h.gr.lt,fun g=>Iff.rfl⟩⟩,G,fun i t=>hi i (Zy t)⟩
end Go.Proofs.YtnipbplghijdmaaGreatDoor

/-
  D: Read Settle SettleRep Crash.
-/
import Derived.Test.YtnipbplghijdmaaGreatDoorD39
set_option maxRecDepth 100000
set_option maxHeartbeats 8000000
set_option linter.unusedVariables false
set_option linter.unusedSimpArgs false
namespace Go.Proofs.YtnipbplghijdmaaGreatDoor
open RowKit Maps WideShapes Go.Proofs.Tryz
variable {w:World} {g k p:Nat} {l:List Int}
theorem ja5{cap:Nat}{l:List UInt8}(d:∀ j u,(l.map j5)[j]?=some u->w.cell? ((⟨g,0,none⟩:Addr).add j)=some u)(i:p+k<=l.length)(b:l.length<=cap) :
 Reads w (.slice (if cap=p then some ⟨g,0,none⟩ else some ⟨g,p,none⟩) k (cap-p)) ((l.drop p).take k):=by
 have c:((l.drop p).take k).length=k:=by simp;omega
 by_cases hcp:cap=p
 ·have f:k=0:=by omega
  subst f;exact .inr ⟨⟨g,0,none⟩,cap-p,by rw[if_pos hcp];simp,fun j u hu=>by simp at hu⟩
 refine .inr ⟨⟨g,p,none⟩,cap-p,by rw[c,if_neg hcp],fun j u hu=>?_⟩
 have e:(⟨g,p,none⟩:Addr).add j=(⟨g,0,none⟩:Addr).add (p+j):=by
  rw[add_zero];unfold Addr.add
  split<;>simp_all
 rw[e];refine d (p+j) u ?_;rw[ZN] at hu ⊢;rw[xW] at hu
 split at hu
 ·rw[List.getElem?_drop] at hu;exact hu
 ·simp at hu
theorem iq(l:List (Nat×Nat))(k:Nat)(h:k<l.length):(qz l)[k*2]?=some (.int .i64 l[k].1)/\(qz l)[k*2+1]?=some (.int .i64 l[k].2):=by
 induction l generalizing k with
 | nil=>simp at h
 | cons c r ih =>
  have e:qz (c::r)=qz [c]++qz r:=by simp[qz]
  have b:(qz [c]).length=2:=rfl;rw[e]
  cases k with
  | zero=>exact⟨rfl,rfl⟩
  | succ k =>
   rw[ZW (by omega),ZW (by omega),b,show(k+1)*2-2=k*2 by omega,show(k+1)*2+1-2=k*2+1 by omega];simpa using ih k (by simpa using h)
def Qa(w:World)(p g:Nat)(l:List Int):Prop :=
 g≠p/\∃ o c,w.heap[p]?=some (.cells #[.slice o l.length c] 144 (0,0))/\l.length<=c/\c<=maxLen/\(∀ x∈l,-9223372036854775808<=x/\x<=9223372036854775807)/\(l≠[]->∃ k,o=some ⟨g,k,none⟩/\∀ j,j<l.length->w.cell? ⟨g,k+j,none⟩=some (.int .i64 (l.getD j 0)))
theorem Qa.keep{w':World}{T:Nat->Prop}(h:Qa w p g l)(d:ja w w' T)(f:¬T p)(i:¬T g):Qa w' p g l:=by
 obtain⟨b,o,c,t,s,r,q,n⟩:=h;refine⟨b,o,c,d.same t f,s,r,q,fun hl=>?_⟩;obtain⟨k,e,m⟩:=n hl;exact⟨k,e,fun j hj=>d.cell (m j hj) i⟩
theorem U7(n:Nat)(A:0<n)(t:n<9223372036854775807)(h:Qa w p g l) :
 Calls prog 80 #[.pointer (some ⟨p,0,none⟩),.int .i64 n] w fun e w'=>e = .returned (.int .i64 (Jr (l.headD 0) n))/\Qa w' p g l.tail/\ja w w' (fun i=>i=p):=by
 obtain⟨d,o,c,m,f,z,q,v⟩:=h
 cases l with
 | nil =>
  refine(jdm w p n o c m).mono ?_;rintro e w' ⟨rfl,rfl⟩;exact⟨by simp[Jr],⟨d,o,c,m,f,z,q,v⟩,ja.refl _ _⟩
 | cons x r =>
  obtain⟨k,rfl,b⟩:=v (by simp);refine(jbg w p n g k c x r A t m f z (by simpa using b 0 (by simp)) (q x (by simp))).mono ?_;rintro e w' ⟨rfl,rfl⟩;refine⟨rfl,⟨d,_,c-1,by rw[jd m];rfl,by simp at f ⊢;omega,by omega,fun y hy=>q y (by simp at hy ⊢;exact .inr hy),fun hr=>?_⟩,ja.setCell _ _ _⟩;have s:r≠[]:=hr;have C:0<r.length:=ZX.2 s;have u:¬c=1:=by simp at f;omega
  refine⟨k+1,by rw[if_neg u],fun j hj=>?_⟩;have B:=b (j+1) (by simpa using hj);rw[show k+1+j=k+(j+1) by omega,(ja.setCell w _ _).cell B d];simp
theorem Y1(n:Nat)(c:0<n)(b:n<9223372036854775807)(h:Qa w p g l) :
 Calls prog 80 #[.pointer (some ⟨p,0,none⟩),.int .i64 n] w fun e w'=>∃ q:Nat,Hid (q=Jr (l.headD 0) n)/\e = .returned (.int .i64 q)/\Qa w' p g l.tail/\ja w w' (fun i=>i=p) :=
 (U7 n c b h).mono (fun e w' h=>⟨_,rfl,h.1,h.2.1,h.2.2⟩)
theorem B8{l:List UInt8}(c:∀ j u,(l.map j5)[j]?=some u->w.cell? ((⟨g,0,none⟩:Addr).add j)=some u):∀ j u,(((l.drop p).take k).map j5)[j]?=some u->w.cell? ((⟨g,p,none⟩:Addr).add j)=some u:=by
 intro j u b
 have e:(⟨g,p,none⟩:Addr).add j=(⟨g,0,none⟩:Addr).add (p+j):=by
  rw[add_zero];unfold Addr.add
  split<;>simp_all
 rw[e];refine c (p+j) u ?_;rw[ZN] at b ⊢;rw[xW] at b
 split at b
 ·rw[List.getElem?_drop] at b;exact b
 ·simp at b
theorem Ih(B bytes:List UInt8)(G b N:Nat):(B.map j5++List.replicate G (Value.int .u8 0))++((bytes.drop b).take N).map j5=(B++List.replicate G 0++(bytes.drop b).take N).map j5:=by
 simp
theorem gl{base size n:Nat}{e:TypeId}{v:Value}{xs:List Value}{p:Addr}(h:w.ownsRow base e size v n xs)(b:∀ g,v.ownBlock=some g->¬g=p.block)(u:Value):(w.setCell p u).ownsRow base e size v n xs :=
 (ja.setCell w p u).row h b
theorem tail_drop(l:List Int)(k:Nat):(l.drop k).tail=l.drop (k+1):=by simp
theorem Pz(f E pg:Nat)(a:jz)(ch:List Int)(bv pv:Value)(w:World)(eh:a.Wf)(hz:a.bytes.length<1099511627776)(g4:a.late.length<1099511627776)(h:w.heap[f]?=some (.cells #[bv,.int .i64 a.safe,pv] 154 (0,0)))(hb:w.ownsRow 0 5 1 bv a.bytes.length (a.bytes.map j5))(hp:w.ownsRow 0 192 2 pv a.late.length (qz a.late))(ek:Qa w E pg ch)(az:f≠E)(eq:f≠pg)(es:bv.ownBlock≠some E)(ej:pv.ownBlock≠some E)(a6:pg<w.heap.size)(a7:E<w.heap.size) :
 Calls prog 82 #[.pointer (some ⟨f,0,none⟩),.pointer (some ⟨E,0,none⟩)] w fun e w'=>e = .returned (.tuple #[]) /\
  ∃ bv',w'.heap[f]?=some (.cells #[bv',.int .i64 (a.settled ch).safe,.slice none 0 0] 154 (0,0)) /\
   w'.ownsRow w.heap.size 5 1 bv' (a.settled ch).bytes.length ((a.settled ch).bytes.map j5)/\Qa w' E pg (a.left ch)/\ja w w' (fun i=>i=f\/i=E):=by
 obtain⟨ey,bw⟩:=eh;have c0:=zA (o:=0) h;have c1:=zA (o:=1) h;have c2:=zA (o:=2) h;simp at c0 c1 c2;have HD:=jb h;have g5:=zC h;clear h;have ei:=mg hb;go_enter func82,ntmps82;go_wp2_with fail
 go_cut [4] from 10 to 19 (fun v wc=>∃ p c,v = .slice p a.safe c/\wc.ownsRow w.heap.size 5 1 (.slice p a.safe c) a.safe ((a.bytes.take a.safe).map j5)/\ja w wc (fun _=>False))
 case first =>
  rcases hb.2 with⟨rfl,h0⟩|⟨g,cap,ev,rfl,_,hg,dr,er,cf,ca⟩
  ·have bq:a.safe=0:=by omega
   have d5:a.bytes.take a.safe=[]:=by rw[bq];rfl
   rw[bq] at c1;simp at c1;have HS:=jb bq;have HT:=jb d5;clear bq d5
   go_region_with (go_at_call 85;refine(tz w.drew _ [] (by simp) (.inl ⟨rfl,rfl⟩)).mono ?_;rintro e w2 ⟨p1,cj,rfl,a8,k1⟩)
   all_goals
    go_wp2_with fail;go_meet;exact⟨p1,cj,by rw[HS.out],by rw[HT.out,HS.out];exact a8,(ja.drew w _).tt k1⟩
  ·have M:=hb.cells (g:=g) rfl
   have c3:=ja5 (p:=0) (k:=a.safe) (cap:=cap) M (by omega) (by omega);have bh:Reads w (.slice (some ⟨g,0,none⟩) a.safe cap) (a.bytes.take a.safe):=by simpa using c3
   have dh:Reads w.drew (.slice (some ⟨g,0,none⟩) a.safe cap) (a.bytes.take a.safe):=bh;have c5:(a.bytes.take a.safe).length=a.safe:=by simp;omega
   have HL:=jb c5;have ci:(a.safe:Int)<=(cap:Int):=by omega
   have cg:a.safe<=cap:=by omega
   clear hg cf ca c3 bh M ei c5
   go_region_with (go_at_call 85;refine(tz w.drew _ (a.bytes.take a.safe) (by rw[HL.out];omega) dh).mono ?_;rintro e w2 ⟨p1,cj,rfl,a8,k1⟩)
   all_goals
    go_wp2_with fail;go_meet;rw[HL.out] at a8;exact⟨p1,cj,rfl,a8,(ja.drew w _).tt k1⟩
 case rest =>
  obtain⟨p4,c4,rfl,al,k4⟩:=hcut;have b8:=k4.same HD.out id;have d0:=zA (o:=0) b8;have d1:=zA (o:=1) b8;have d2:=zA (o:=2) b8;simp at d0 d1 d2;have ga:=jb b8;clear b8;have dj:=ek.keep k4 id id;obtain⟨pp,cp,rfl⟩:=jl hp;have fa:w.heap.size<=wc.heap.size:=k4.size;obtain⟨i0,hi,eg,ef,ee⟩:=info_parts Tryz.Mk;obtain⟨j0,hj,aw,av,au⟩:=info_parts Tryz.mn;go_wp2_with fail
  go_loopw [5,25] (fun v i wr=>∃(k:Nat) (p:Option Addr) (c:Nat),k<=a.late.length/\i = .int .i64 k/\v = .slice p (sel (a.late.take k) ch).length c /\
   wr.ownsRow wc.heap.size 192 2 (.slice p (sel (a.late.take k) ch).length c) (sel (a.late.take k) ch).length (qz (sel (a.late.take k) ch))/\Qa wr E pg (ch.drop k)/\ja wc wr (fun i=>i=E))
   (fun _ i _=>a.late.length-(intOf i).toNat)
  case atStart=>exact⟨0,none,0,zG _,rfl,rfl,ZL _ _ _ _,dj,ja.refl _ _⟩
  case round =>
   obtain⟨k,p,c,hk,rfl,rfl,J,bc,ay⟩:=hrel;have f9:wc.heap.size<=wr.heap.size:=ay.size;have d6:=Um (a.late.take k) ch;have fc:(a.late.take k).length<=k:=List.length_take_le _ _;by_cases hlt:k<a.late.length
   ·have bg:=Ky a.late ch k hlt
    rcases hp.2 with⟨e,h0⟩|⟨g,cap,ev,e,_,hg,dr,er,cf,ca⟩
    ·exfalso;omega
    cases e;have M:=hp.cells (g:=g) rfl;have ep:¬g=E:=fun e=>ej (by rw[<-e];rfl)
    have am:∀ j u,(qz a.late)[j]?=some u->wr.cell? ⟨g,j,none⟩=some u:=fun j u hu=>by
     have h1:=M j u hu;rw[add_zero] at h1;exact ay.cell (k4.cell h1 id) ep
    have e0:=am _ _ (iq a.late k hlt).1;have e1:=am _ _ (iq a.late k hlt).2;have de:=jb bg;clear am M hg cf ca bg;have H:Jr ((ch.drop k).headD 0) 2=1\/¬Jr ((ch.drop k).headD 0) 2=1:=by omega
    have d7:(ch.drop k).tail=ch.drop (k+1):=tail_drop ch k;rcases H with H|H
    ·have HP:=jb H
     clear H
     go_wp2_with (first
      | (go_at_call 80;refine(Y1 2 (by omega) (by omega) (bc.keep (ja.alloc wr _ (fun _=>False)) id id)).mono ?_;rintro e w5 ⟨q,hq,rfl,A,n⟩;rw[d7] at A;have br:((q:Int)==1)=true:=(by rw[hq.out,HP.out];rfl);have r:=n.same (je wr _) (by omega);have b0:=zA (o:=0) r;have b1:=zA (o:=1) r;simp at b0 b1;clear r;have ak:=n.row (J.alloc _) (fun l b e=>(by have:=(J.lt l b).1;omega));have aj:=n.size)
      | (at_builtin;refine jy _ rfl (.tmp 32) (.tmp 34) 152 rfl wc.heap.size 192 i0 Ux 2 16 underlying152 hi eg ef ee rfl (by decide) _ _ _ rfl (ak.alloc _) ⟨w5.heap.size,0,none⟩ 1 1 (qz [a.late[k]]) rfl rfl (J8 (je w5 _) rfl) (Ma _) (by unfold maxLen;omega) (by omega) (by simp at aj ⊢;omega) ?_;intro p3 ew w3 ck da ez)
      | go_in)
     go_roundw
     case rel =>
      have ai:=de.out;rw[if_pos HP.out] at ai;have cc:∀ x,x<wc.heap.size->¬some x=(Value.slice p (sel (a.late.take k) ch).length c).ownBlock:=fun x hx e=>by have:=(J.lt x e.symm).1;omega
      have di:=(A.keep (ja.alloc w5 _ (fun _=>False)) id id).keep (ja.grown da) (cc E (by omega)) (cc pg (by omega));have em:ja wc w3 (fun i=>i=E):=(((ay.more _).tt n).more _).grow da (fun x e hx=>absurd e.symm (cc x hx));refine⟨k+1,p3,ew,by omega,by go_num,by rw[ai,zW];rfl,?_,di,em⟩;rw[ai,zW,oi];exact ck
     case measure=>simp[intOf];omega
    ·have HP:=jb H
     clear H
     go_wp2_with (first
      | (go_at_call 80;refine(Y1 2 (by omega) (by omega) (bc.keep (ja.alloc wr _ (fun _=>False)) id id)).mono ?_;rintro e w5 ⟨q,hq,rfl,A,n⟩;rw[d7] at A;have br:((q:Int)==1)=false:=beq_eq_false_iff_ne.2 (fun e=>HP.out (by rw[<-hq.out];omega));have ak:=n.row (J.alloc _) (fun l b e=>(by have:=(J.lt l b).1;omega)))
      | go_in)
     go_roundw
     case rel=>
      have ai:=de.out;rw[if_neg HP.out,ZC] at ai;exact⟨k+1,p,c,by omega,by go_num,by rw[ai],by rw[ai];exact ak,A,((ay.more _).tt n)⟩
     case measure=>simp[intOf];omega
   ·have ce:k=a.late.length:=by omega
    subst ce;rw[xR] at J d6 ⊢;obtain⟨T,hT⟩:∃ T,T=sel a.late ch:=⟨_,rfl⟩;rw[<-hT] at J d6 ⊢;obtain⟨t,ht⟩:∃ t:Bool,t=decide (Jr ((ch.drop a.late.length).headD 0) 2=1):=⟨_,rfl⟩;have d8:OkP a.safe T a.bytes.length:=by rw[hT];exact bw.sel ch
    have bj:=Og a.bytes t T (a.bytes.take a.safe) a.safe d8 (by simp;omega);have dl:ja w wr (fun i=>i=E):=(k4.up).tt ay;have cl:=ay.row al (fun l b e=>(by have:=(al.lt l b).1;omega));have ds:∀ l,(Value.slice p4 a.safe c4).ownBlock=some l->(Value.slice p T.length c).ownBlock≠some l:=fun l b e=>by have h1:=(al.lt l b).2;have h2:=(J.lt l e).1;omega
    have HT:=jb hT;have Ht:=jb ht;have HF:=jb bj;clear hT ht bj d8;go_wp2_with fail
    go_loopw [4,39] (fun v i wq=>∃(k:Nat) (pq:Option Addr) (cq:Nat),k<=T.length/\i = .int .i64 k/\v = .slice pq (J0 a.bytes (a.bytes.take a.safe) T t k).length cq /\
     wq.ownsRow w.heap.size 5 1 (.slice pq (J0 a.bytes (a.bytes.take a.safe) T t k).length cq) (J0 a.bytes (a.bytes.take a.safe) T t k).length ((J0 a.bytes (a.bytes.take a.safe) T t k).map j5) /\
     (∀ l,(Value.slice pq (J0 a.bytes (a.bytes.take a.safe) T t k).length cq).ownBlock=some l->(Value.slice p T.length c).ownBlock≠some l) /\
     wq.ownsRow wc.heap.size 192 2 (.slice p T.length c) T.length (qz T)/\Qa wq E pg (if k<T.length\/T=[] then ch.drop a.late.length else(ch.drop a.late.length).tail)/\ja w wq (fun i=>i=E))
     (fun _ i _=>T.length-(intOf i).toNat)
    case atStart =>
     have cd:(a.bytes.take a.safe).length=a.safe:=by simp;omega
     refine⟨0,p4,c4,zG _,rfl,by simp[J0,cd],by simp only[J0,List.take_zero,List.foldl_nil,cd];exact cl,by simp only[J0,List.take_zero,List.foldl_nil,cd];exact ds,J,?_,dl⟩;have:(0<T.length\/T=[]):=by cases T<;>simp
     rw[if_pos this];exact bc
    case round =>
     obtain⟨k,pq,cq,hk,rfl,rfl,F,ac,S,ax,aa⟩:=hrel;by_cases hlt2:k<T.length
     ·have hf:=HF.out k hlt2
      have d:=C5 a.bytes (a.bytes.take a.safe) T t k hlt2;have bs:=iq T k hlt2;have en:(k<T.length\/T=[]):= .inl hlt2;rw[if_pos en] at ax;obtain⟨m,bp⟩:∃ m,m=T[k].1:=⟨_,rfl⟩;obtain⟨s,bo⟩:∃ s,s=T[k].2:=⟨_,rfl⟩;obtain⟨B,hB⟩:∃ B,B=J0 a.bytes (a.bytes.take a.safe) T t k:=⟨_,rfl⟩;rw[<-hB] at F ac hf d ⊢;rw[<-bp,<-bo] at hf;rw[<-bp,<-bo] at bs;obtain⟨G,hG⟩:∃ G,m=B.length+G:=⟨m-B.length,by omega⟩;have fb:(m:Int)-(B.length:Int)=(G:Int):=by omega
      rcases S.2 with⟨e,h0⟩|⟨gt,fj,fh,e,fe,eo,f0,dp,dm,df⟩
      ·exfalso;omega
      cases e;rcases hb.2 with⟨e,h0⟩|⟨gb,y,fi,e,_,d9,f1,dq,dn,dg⟩
      ·exfalso;omega
      subst e;have a5:=hb.cells (g:=gb) rfl;have bf:¬gb=E:=fun e=>es (by rw[<-e];rfl);have ff:gb<w.heap.size:=zC d9;have a4:=S.cells (g:=gt) rfl;have t0:=a4 _ _ bs.1;have t1:=a4 _ _ bs.2;rw[add_zero] at t0 t1;have bz:w.heap.size<=wr.heap.size:=aa.size;have U:=aa.same HD.out az;have q0:=zA (o:=0) U;simp at q0;have HQ:=jb U;have HX:=jb (And.intro bp bo);have HB:=jb hB;have HG:=jb hG;have bt:=jb d;obtain⟨g8,g7,g6⟩:=hf;unfold maxLen at dq dp;clear U bs bp bo hB hG d a4 eo dm df d9 dn dg;by_cases hlast:k+1=T.length
      ·have el:((k:Int)==(T.length:Int)-1)=true:=beq_iff_eq.2 (by omega)
       have be:¬wr.heap.size=E:=by omega
       have cb:∀ l,(Value.slice pq B.length cq).ownBlock=some l->¬l=E:=fun l b e=>by have:=(F.lt l b).1;omega
       have bd:∀ l,(Value.slice (some ⟨gt,0,none⟩) T.length c).ownBlock=some l->¬l=E:=fun l b e=>by have:=(S.lt l b).1;omega
       have dk:Jr ((ch.drop a.late.length).headD 0) 2=1\/¬Jr ((ch.drop a.late.length).headD 0) 2=1:=by omega
       rcases dk with O|O
       ·obtain⟨N,hN⟩:∃ N,N=s/2:=⟨_,rfl⟩
        have g9:(s:Int)/2=(N:Int):=by omega
        have fg:N<=s:=by omega
        have HN:=jb hN;clear hN;by_cases hN0:0<N
        ·have eu:(0:Int)<(N:Int):=by omega
         go_wp2_with (first
          | (go_at_call 80;refine(Y1 2 (by omega) (by omega) (ax.keep (ja.alloc wr _ (fun _=>False)) id id)).mono ?_;rintro e w5 ⟨q,hq,rfl,A,z⟩;have br:((q:Int)==1)=true:=(by rw[hq.out,O];rfl);have r:=z.same (je wr _) be;have b0:=zA (o:=0) r;have b1:=zA (o:=1) r;have dd:=zB (o:=1) r;simp at b0 b1;have bu:=jb r;clear r;have ag:=z.row (F.alloc _) cb;have ad:=z.row (S.alloc _) bd;have b6:=z.size;simp at b6)
          | (at_builtin;refine X8 _ rfl (.tmp 61) (.tmp 66) 84 3 rfl w.heap.size 5 j0 underlying84 underlying3 hj aw av au _ B.length (B.map j5) rfl (gl (p:=⟨wr.heap.size,1,none⟩) ag (fun l b e=>(by have e':l=wr.heap.size:=e;have:=(F.lt l b).2;omega)) _) G rfl (by omega) (by first|omega|(simp;omega)|(simp[World.setCell];omega)) ?_;intro p6 I w6 D X a3)
          | go_in)
         have Z:∀ x,x<w.heap.size->¬some x=(Value.slice pq B.length cq).ownBlock:=fun x hx e=>by have:=(F.lt x e.symm).1;omega
         have b9:¬some wr.heap.size=(Value.slice pq B.length cq).ownBlock:=fun e=>by have:=(F.lt _ e.symm).2;omega
         have k6:=ja.grown X;have n:ja w w6 (fun i=>i=E):=(((aa.more _).tt z).Xd (p:=⟨wr.heap.size,1,none⟩) (by exact bz) _).grow X (fun x e hx=>absurd e.symm (Z x hx));have C:=k6.same (jd bu.out _) b9;have y0:=zA (o:=0) C;have y1:=zA (o:=1) C;have ab:=n.same HD.out az;have z0:=zA (o:=0) ab;simp at y0 y1 z0;have ae:∀ j u,(((a.bytes.drop m).take N).map j5)[j]?=some u->w6.drew.cell? ((⟨gb,m,none⟩:Addr).add j)=some u:=B8 (fun j u hu=>n.cell (a5 j u hu) (by rw[Ju];exact bf));have a1:(((a.bytes.drop m).take N).map j5).length=N*1:=by simp;omega
         have d3:IntKind.i64.wrap ((m:Int)+(N:Nat))=(m:Int)+(N:Nat):=zE (by omega) (by omega);have d4:((m:Int)+(N:Nat)).toNat=m+N:=by omega
         have ci:(m:Int)<=(m:Int)+(N:Nat):=by omega
         have cg:(m:Int)+(N:Nat)<=(y:Int):=by omega
         have dc:m<=y:=by omega
         have db:¬y=m:=by omega
         have L:w6.drew.ownsRow w.heap.size 5 1 (.slice p6 (B.length+G) I) (B.length+G) (B.map j5++List.replicate G (.int .u8 0)):=D;have aj:w.heap.size<=w6.drew.heap.size:=n.size;clear C ab
         go_region_law (refine ye rfl (.tmp 68) (.tmp 80) 84 rfl w.heap.size 5 j0 (.int .u8 0) 1 1 underlying84 hj aw av au rfl (by decide) (.slice p6 (B.length+G) I) (B.length+G) (B.map j5++List.replicate G (.int .u8 0)) rfl L ⟨gb,m,none⟩ N (y-m) (((a.bytes.drop m).take N).map j5) rfl a1 ae (dt _) (by unfold maxLen;omega) (by omega) aj ?_;intro p8 bb w8 a0 W a2)
         all_goals
          go_wp2;go_roundw
          case rel =>
           have d:=bt.out;rw[<-HX.out.1,<-HX.out.2] at d;rw[if_pos hlast] at d;have b5:t=true:=by rw[Ht.out];exact decide_eq_true O
           have af:(if t=true then s/2 else s)=N:=by rw[b5];exact HN.out.symm
           rw[af] at d;have hG:m-B.length=G:=by have:=HG.out;omega
           simp only[Z9,hG] at d;rw[if_pos (by omega)] at d;have Y:∀ x,x<w.heap.size->¬some x=(Value.slice p6 (B.length+G) I).ownBlock:=fun x hx e=>by have:=(D.lt x e.symm).1;omega
           have b7:ja w w8 (fun i=>i=E):=n.draw.grow W (fun x e hx=>absurd e.symm (Y x hx));have V:(B++List.replicate G 0++(a.bytes.drop m).take N).length=B.length+G+N:=by simp;omega
           have c6:gt<wr.heap.size:=(S.lt gt rfl).2
           have R:∀ l,(Value.slice p6 (B.length+G) I).ownBlock=some l->¬l=gt:=fun l b e=>by
            subst e;rcases a3 with e6|e6
            ·exact ac l (e6▸b) rfl
            ·have:=Option.some.inj (b.symm.trans e6);(try simp at this);omega
           refine⟨k+1,p8,bb,by omega,by go_num,by rw[d,V],by rw[d,V,<-Ih];exact a0,?_,?_,?_,b7⟩
           ·rw[d,V]
            intro l b e;have e':gt=l:=Option.some.inj e;rcases a2 with e8|e8
            ·exact R l (e8▸b) e'.symm
            ·have h9:=Option.some.inj (b.symm.trans e8)
             have ba:=X.size;simp at h9 ba;omega
           ·refine(ja.grown W).row (k6.row (gl (p:=⟨wr.heap.size,1,none⟩) ad (fun l b e=>(by have e':l=wr.heap.size:=e;have:=(S.lt l b).2;omega)) _) (fun l b e=>ac l e.symm b)) (fun l b e=>R l e.symm (Option.some.inj b).symm)
           ·rw[if_neg (by intro h;rcases h with h|h;omega;rw[h] at hlt2;simp at hlt2)]
            exact(((A.keep (ja.setCell w5 ⟨wr.heap.size,1,none⟩ _) (fun e=>(by have e':E=wr.heap.size:=e;omega)) (fun e=>(by have e':pg=wr.heap.size:=e;omega))).keep k6 (Z E a7) (Z pg a6)).keep (ja.drew w6 (fun _=>False)) id id).keep (ja.grown W) (Y E a7) (Y pg a6)
          case measure=>simp[intOf];omega
        ·have eu:¬(0:Int)<(N:Int):=by omega
         go_wp2_with (first
          | (go_at_call 80;refine(Y1 2 (by omega) (by omega) (ax.keep (ja.alloc wr _ (fun _=>False)) id id)).mono ?_;rintro e w5 ⟨q,hq,rfl,A,z⟩;have br:((q:Int)==1)=true:=(by rw[hq.out,O];rfl);have r:=z.same (je wr _) be;have b0:=zA (o:=0) r;have b1:=zA (o:=1) r;have dd:=zB (o:=1) r;simp at b0 b1;have bu:=jb r;clear r;have ag:=z.row (F.alloc _) cb;have ad:=z.row (S.alloc _) bd;have b6:=z.size;simp at b6)
          | go_in)
         go_roundw
         case rel =>
          have d:=bt.out;rw[<-HX.out.1,<-HX.out.2,if_pos hlast] at d;have b5:t=true:=by rw[Ht.out];exact decide_eq_true O
          have af:(if t=true then s/2 else s)=N:=by rw[b5];exact HN.out.symm
          rw[af] at d;simp only[Z9] at d;rw[if_neg (by omega)] at d;refine⟨k+1,pq,cq,by omega,by go_num,by rw[d],?_,by rw[d];exact ac,gl (p:=⟨wr.heap.size,1,none⟩) ad (fun l b e=>(by have e':l=wr.heap.size:=e;have:=(S.lt l b).2;omega)) _,?_,(((aa.more _).tt z).Xd (p:=⟨wr.heap.size,1,none⟩) (by exact bz) _)⟩
          ·rw[d];exact gl (p:=⟨wr.heap.size,1,none⟩) ag (fun l b e=>(by have e':l=wr.heap.size:=e;have:=(F.lt l b).2;omega)) _
          ·rw[if_neg (by intro h;rcases h with h|h;omega;rw[h] at hlt2;simp at hlt2)]
           exact A.keep (ja.setCell w5 ⟨wr.heap.size,1,none⟩ _) (fun e=>(by have e':E=wr.heap.size:=e;omega)) (fun e=>(by have e':pg=wr.heap.size:=e;omega))
         case measure=>simp[intOf];omega
       ·have fd:=O
        go_wp2_with (first
         | (go_at_call 80;refine(Y1 2 (by omega) (by omega) (ax.keep (ja.alloc wr _ (fun _=>False)) id id)).mono ?_;rintro e w5 ⟨q,hq,rfl,A,z⟩;have br:((q:Int)==1)=false:=beq_eq_false_iff_ne.2 (fun e=>O (by rw[<-hq.out];omega));have r:=z.same (je wr _) be;have b0:=zA (o:=0) r;have b1:=zA (o:=1) r;have dd:=zB (o:=1) r;simp at b0 b1;have bu:=jb r;clear r;have ag:=z.row (F.alloc _) cb;have ad:=z.row (S.alloc _) bd;have b6:=z.size;simp at b6)
         | (at_builtin;refine X8 _ rfl (.tmp 61) (.tmp 66) 84 3 rfl w.heap.size 5 j0 underlying84 underlying3 hj aw av au _ B.length (B.map j5) rfl ag G rfl (by omega) (by first|omega|(simp;omega)|(simp[World.setCell];omega)) ?_;intro p6 I w6 D X a3)
         | go_in)
        have Z:∀ x,x<w.heap.size->¬some x=(Value.slice pq B.length cq).ownBlock:=fun x hx e=>by have:=(F.lt x e.symm).1;omega
        have b9:¬some wr.heap.size=(Value.slice pq B.length cq).ownBlock:=fun e=>by have:=(F.lt _ e.symm).2;omega
        have k6:=ja.grown X;have n:ja w w6 (fun i=>i=E):=((aa.more _).tt z).grow X (fun x e hx=>absurd e.symm (Z x hx));have C:=k6.same bu.out b9;have y0:=zA (o:=0) C;have y1:=zA (o:=1) C;have ab:=n.same HD.out az;have z0:=zA (o:=0) ab;simp at y0 y1 z0;have ae:∀ j u,(((a.bytes.drop m).take s).map j5)[j]?=some u->w6.drew.cell? ((⟨gb,m,none⟩:Addr).add j)=some u:=B8 (fun j u hu=>n.cell (a5 j u hu) (by rw[Ju];exact bf));have a1:(((a.bytes.drop m).take s).map j5).length=s*1:=by simp;omega
        have d3:IntKind.i64.wrap ((m:Int)+(s:Nat))=(m:Int)+(s:Nat):=zE (by omega) (by omega);have d4:((m:Int)+(s:Nat)).toNat=m+s:=by omega
        have ci:(m:Int)<=(m:Int)+(s:Nat):=by omega
        have cg:(m:Int)+(s:Nat)<=(y:Int):=by omega
        have dc:m<=y:=by omega
        have db:¬y=m:=by omega
        have L:w6.drew.ownsRow w.heap.size 5 1 (.slice p6 (B.length+G) I) (B.length+G) (B.map j5++List.replicate G (.int .u8 0)):=D;have aj:w.heap.size<=w6.drew.heap.size:=n.size;clear C ab
        go_region_law (refine ye rfl (.tmp 68) (.tmp 80) 84 rfl w.heap.size 5 j0 (.int .u8 0) 1 1 underlying84 hj aw av au rfl (by decide) (.slice p6 (B.length+G) I) (B.length+G) (B.map j5++List.replicate G (.int .u8 0)) rfl L ⟨gb,m,none⟩ s (y-m) (((a.bytes.drop m).take s).map j5) rfl a1 ae (dt _) (by unfold maxLen;omega) (by omega) aj ?_;intro p8 bb w8 a0 W a2)
        all_goals
         go_wp2;go_roundw
         case rel =>
          have d:=bt.out;rw[<-HX.out.1,<-HX.out.2] at d;rw[if_pos hlast] at d;have b5:t=false:=by rw[Ht.out];exact decide_eq_false O
          have af:(if t=true then s/2 else s)=s:=by rw[b5];rfl
          rw[af] at d;have hG:m-B.length=G:=by have:=HG.out;omega
          simp only[Z9,hG] at d;rw[if_pos (by omega)] at d;have Y:∀ x,x<w.heap.size->¬some x=(Value.slice p6 (B.length+G) I).ownBlock:=fun x hx e=>by have:=(D.lt x e.symm).1;omega
          have b7:ja w w8 (fun i=>i=E):=n.draw.grow W (fun x e hx=>absurd e.symm (Y x hx));have V:(B++List.replicate G 0++(a.bytes.drop m).take s).length=B.length+G+s:=by simp;omega
          have c6:gt<wr.heap.size:=(S.lt gt rfl).2
          have R:∀ l,(Value.slice p6 (B.length+G) I).ownBlock=some l->¬l=gt:=fun l b e=>by
           subst e;rcases a3 with e6|e6
           ·exact ac l (e6▸b) rfl
           ·have:=Option.some.inj (b.symm.trans e6);(try simp at this);omega
          refine⟨k+1,p8,bb,by omega,by go_num,by rw[d,V],by rw[d,V,<-Ih];exact a0,?_,?_,?_,b7⟩
          ·rw[d,V]
           intro l b e;have e':gt=l:=Option.some.inj e;rcases a2 with e8|e8
           ·exact R l (e8▸b) e'.symm
           ·have h9:=Option.some.inj (b.symm.trans e8)
            have ba:=X.size;simp at h9 ba;omega
          ·refine(ja.grown W).row (k6.row ad (fun l b e=>ac l e.symm b)) (fun l b e=>R l e.symm (Option.some.inj b).symm)
          ·rw[if_neg (by intro h;rcases h with h|h;omega;rw[h] at hlt2;simp at hlt2)]
           exact((A.keep k6 (Z E a7) (Z pg a6)).keep (ja.drew w6 (fun _=>False)) id id).keep (ja.grown W) (Y E a7) (Y pg a6)
         case measure=>simp[intOf];omega
      ·have el:((k:Int)==(T.length:Int)-1)=false:=beq_eq_false_iff_ne.2 (by omega)
       go_wp2_with (first
        | (at_builtin;refine X8 _ rfl (.tmp 61) (.tmp 66) 84 3 rfl w.heap.size 5 j0 underlying84 underlying3 hj aw av au _ B.length (B.map j5) rfl (F.alloc _) G rfl (by omega) (by first|omega|(simp;omega)|(simp[World.setCell];omega)) ?_;intro p6 I w6 D X a3)
        | go_in)
       have Z:∀ x,x<w.heap.size->¬some x=(Value.slice pq B.length cq).ownBlock:=fun x hx e=>by have:=(F.lt x e.symm).1;omega
       have b9:¬some wr.heap.size=(Value.slice pq B.length cq).ownBlock:=fun e=>by have:=(F.lt _ e.symm).2;omega
       have k6:=ja.grown X;have n:ja w w6 (fun i=>i=E):=(aa.more _).grow X (fun x e hx=>absurd e.symm (Z x hx));have C:=k6.same (je wr _) b9;have y0:=zA (o:=0) C;have y1:=zA (o:=1) C;have ab:=n.same HD.out az;have z0:=zA (o:=0) ab;simp at y0 y1 z0;have ae:∀ j u,(((a.bytes.drop m).take s).map j5)[j]?=some u->w6.drew.cell? ((⟨gb,m,none⟩:Addr).add j)=some u:=B8 (fun j u hu=>n.cell (a5 j u hu) (by rw[Ju];exact bf));have a1:(((a.bytes.drop m).take s).map j5).length=s*1:=by simp;omega
       have d3:IntKind.i64.wrap ((m:Int)+(s:Nat))=(m:Int)+(s:Nat):=zE (by omega) (by omega);have d4:((m:Int)+(s:Nat)).toNat=m+s:=by omega
       have ci:(m:Int)<=(m:Int)+(s:Nat):=by omega
       have cg:(m:Int)+(s:Nat)<=(y:Int):=by omega
       have dc:m<=y:=by omega
       have db:¬y=m:=by omega
       have L:w6.drew.ownsRow w.heap.size 5 1 (.slice p6 (B.length+G) I) (B.length+G) (B.map j5++List.replicate G (.int .u8 0)):=D;have aj:w.heap.size<=w6.drew.heap.size:=n.size;clear C ab
       go_region_law (refine ye rfl (.tmp 68) (.tmp 80) 84 rfl w.heap.size 5 j0 (.int .u8 0) 1 1 underlying84 hj aw av au rfl (by decide) (.slice p6 (B.length+G) I) (B.length+G) (B.map j5++List.replicate G (.int .u8 0)) rfl L ⟨gb,m,none⟩ s (y-m) (((a.bytes.drop m).take s).map j5) rfl a1 ae (dt _) (by unfold maxLen;omega) (by omega) aj ?_;intro p8 bb w8 a0 W a2)
       all_goals
        go_wp2;go_roundw
        case rel =>
         have d:=bt.out;rw[<-HX.out.1,<-HX.out.2] at d;rw[if_neg hlast] at d;have et:T[k]=(m,s):=by rw[HX.out.1,HX.out.2]
         rw[et] at d;have hG:m-B.length=G:=by have:=HG.out;omega
         simp only[Z9,hG] at d;rw[if_pos (by omega)] at d;have Y:∀ x,x<w.heap.size->¬some x=(Value.slice p6 (B.length+G) I).ownBlock:=fun x hx e=>by have:=(D.lt x e.symm).1;omega
         have b7:ja w w8 (fun i=>i=E):=n.draw.grow W (fun x e hx=>absurd e.symm (Y x hx));have V:(B++List.replicate G 0++(a.bytes.drop m).take s).length=B.length+G+s:=by simp;omega
         have c6:gt<wr.heap.size:=(S.lt gt rfl).2
         have R:∀ l,(Value.slice p6 (B.length+G) I).ownBlock=some l->¬l=gt:=fun l b e=>by
          subst e;rcases a3 with e6|e6
          ·exact ac l (e6▸b) rfl
          ·have:=Option.some.inj (b.symm.trans e6);(try simp at this);omega
         refine⟨k+1,p8,bb,by omega,by go_num,by rw[d,V],by rw[d,V,<-Ih];exact a0,?_,?_,?_,b7⟩
         ·rw[d,V]
          intro l b e;have e':gt=l:=Option.some.inj e;rcases a2 with e8|e8
          ·exact R l (e8▸b) e'.symm
          ·have h9:=Option.some.inj (b.symm.trans e8)
           have ba:=X.size;simp at h9 ba;omega
         ·refine(ja.grown W).row (k6.row (S.alloc _) (fun l b e=>ac l e.symm b)) (fun l b e=>R l e.symm (Option.some.inj b).symm)
         ·rw[if_pos (Or.inl (by omega))]
          exact(((ax.keep (ja.alloc wr _ (fun _=>False)) id id).keep k6 (Z E a7) (Z pg a6)).keep (ja.drew w6 (fun _=>False)) id id).keep (ja.grown W) (Y E a7) (Y pg a6)
        case measure=>simp[intOf];omega
     ·have ce:k=T.length:=by omega
      subst ce;have U:=aa.same HD.out az;have q0:=zA (o:=0) U;have q1:=zA (o:=1) U;have q2:=zA (o:=2) U;have g0:=zB (o:=0) U;have g1:=zB (o:=1) U;have g2:=zB (o:=2) U;simp at q0 q1 q2;have HQ:=jb U;clear U;have c7:a.settled ch=⟨J0 a.bytes (a.bytes.take a.safe) T t T.length,(J0 a.bytes (a.bytes.take a.safe) T t T.length).length,[]⟩:=by rw[HT.out,Ht.out];rfl
      have bi:a.left ch=(if T.length<T.length\/T=[] then ch.drop a.late.length else(ch.drop a.late.length).tail):=by
       unfold jz.left;rw[<-HT.out];simp
      have HE:=jb c7;have ex:=jb bi;clear c7 bi;go_wp2;go_end0;have kf:=((ja.setCell wr ⟨f,0,none⟩ (.slice pq (J0 a.bytes (a.bytes.take a.safe) T t T.length).length cq)).set (p:=⟨f,1,none⟩) (by exact rfl) (.int .i64 (J0 a.bytes (a.bytes.take a.safe) T t T.length).length)).set (p:=⟨f,2,none⟩) (by exact rfl) (.slice none 0 0);rw[HE.out,ex.out];exact⟨rfl,_,by rw[jd (jd (jd HQ.out _) _)];rfl,kf.row F (fun l b e=>(by have:=(F.lt l b).1;have e':l=f:=e;omega)),ax.keep kf az.symm eq.symm,((aa.mono (fun _ _ h=> .inr h)).trans kf (fun _ _ h=> .inl h))⟩
theorem Uk{ρ:Nat->j3}{d f j t:Nat}{S:jc}{a:jz}(ch:List Int)(R:Rep w ρ d S)(Z:Small S)(X:S.files f=some a)(I:a.Wf)(J:Qa w j t ch)(m:ρ j = .none)(L:ρ t = .none)(A:j<w.heap.size)(z:t<w.heap.size) :
 Calls prog 82 #[.pointer (some ⟨f,0,none⟩),.pointer (some ⟨j,0,none⟩)] w fun e w'=>e = .returned (.tuple #[])/\Qa w' j t (a.left ch) /\
  ∃ ρ',Rep w' ρ' d (S.withFile f (a.settled ch))/\ja w w' (fun i=>ρ i≠ .none\/i=j)/\(∀ i,i<w.heap.size->ρ' i=ρ i):=by
 obtain⟨o,bv,pv,F,hb,rb,hp,rp⟩:=R.files f a X;have O:=Z.files f a X;have n1:f≠j:=fun e=>by rw[e,m] at o;cases o
 have n2:f≠t:=fun e=>by rw[e,L] at o;cases o
 have n3:bv.ownBlock≠some j:=fun e=>by have:=rb j e;rw[m] at this;cases this
 have n4:pv.ownBlock≠some j:=fun e=>by have:=rp j e;rw[m] at this;cases this
 refine(Pz f j t a ch bv pv w I O.1 O.2.1 F hb hp J n1 n2 n3 n4 z A).mono ?_;rintro e w' ⟨rfl,l,N,s,y,p⟩;have M:ja w w' (fun i=>ρ i≠ .none\/i=j):=p.mono (fun i _ h=>h.elim (fun e=> .inl (by rw[e,o];decide)) .inr);have B:∀ g,l.ownBlock=some g->w.heap.size<=g:=fun g hg=>(s.lt g hg).1
 have D:∀ i,i<w.heap.size->(if some i=l.ownBlock then j3.bytes f else ρ i)=ρ i:=by
  intro i q
  split
  ·rename_i e;have:=B i e.symm;omega
  ·rfl
 refine⟨rfl,y,fun i=>if some i=l.ownBlock then .bytes f else ρ i,?_,M,D⟩;obtain⟨⟨nm,T,lv,hd,U,rs,on,os,ol,V⟩,W,H,nt,st,lo,v,fb,cb⟩:=R
 have Y:∀ i,ρ i≠ .none->i≠f->¬(i=f\/i=j):=by
  rintro i C G (e|e)
  ·exact G e
  ·exact C (e▸m)
 have k:∀ i r,ρ i=r->r≠ .file->r≠ .none->¬(i=f\/i=j):=fun i r C G h3=>Y i (by rw[C];exact h3) (fun e=>G (by rw[<-C,e,o]))
 have E:∀ g b,S.files g=some b->∃ b',(S.withFile f (a.settled ch)).files g=some b':=by
  intro g b h;by_cases e:g=f
  ·exact⟨_,by simp[jc.withFile,e];rfl⟩
  ·exact⟨b,by simp[jc.withFile,e,h]⟩
 have u:∀ i r,ρ i=r->r≠ .none->(if some i=l.ownBlock then j3.bytes f else ρ i)=r:=fun i r h hr=>(D i (v i (by rw[h];exact hr))).trans h
 refine⟨⟨nm,T,lv,p.same hd (k d _ W (by decide) (by decide)),u _ _ U (by decide),u _ _ rs (by decide),p.map on (k nm _ U (by decide) (by decide)),p.map os (k T _ rs (by decide) (by decide)),
  p.row ol (fun g hg=>k g _ (V g hg) (by decide) (by decide)),fun g hg=>u _ _ (V g hg) (by decide)⟩,u _ _ W (by decide),?_,nt.mono E,st.mono E,fun c F=>(lo c F).mono E,?_,fb,cb⟩
 ·intro g b n
  simp only[jc.withFile] at n
  split at n
  ·rename_i e
   cases n;subst e;refine⟨u _ _ o (by decide),l,.slice none 0 0,N,xd s (zG _),fun g' hg'=>by simp[hg'],ZL _ _ _ _,fun g' hg'=>(by cases hg')⟩
  ·rename_i e
   have x:=H g b n;refine x.keep p D (Y g (by rw[x.1];decide) e) (fun i q=>k i _ q (fun h=>by cases h) (fun h=>by cases h)) (fun i q=>k i _ q (fun h=>by cases h) (fun h=>by cases h))
 ·intro i q
  split at q
  ·rename_i e;exact(s.lt i e.symm).2
  ·exact ZH (v i q) p.size
end Go.Proofs.YtnipbplghijdmaaGreatDoor
namespace Go.Proofs.YtnipbplghijdmaaGreatDoor
open RowKit Maps WideShapes Go.Sort Go.Proofs.Tryz
variable {w:World} {d n:Nat} {D:DataW Nat} {x:Str}
def Xi(S:jc)(ch:List Int)(x:Str):jc×List Int :=
 match (S.at x).bind (fun f=>(S.files f).map fun a=>(f,a))with
 | some p=>(S.withFile p.1 (p.2.settled ch),p.2.left ch)
 | none=>(S,ch)
def zg(l:List Str)(S:jc)(ch:List Int):jc×List Int:=l.foldl (fun p x=>Xi p.1 p.2 x) (S,ch)
theorem Gh(l:List Str)(S:jc)(ch:List Int)(k:Nat)(h:k<l.length):zg (l.take (k+1)) S ch=Xi (zg (l.take k) S ch).1 (zg (l.take k) S ch).2 l[k]:=by
 unfold zg;rw[XG h,XM];rfl
def jc.Zl(S:jc)(j:Nat):jc:={ S with names:=Jp S.safe S.late j,safe:=Jp S.safe S.late j,late:=[] }
def jc.crashed(S:jc)(ch:List Int):jc :=
 let S1:=S.Zl (Jr (ch.headD 0) (S.late.length+1))
 { (zg S1.keys S1 ch.tail).1 with fail:= -1,cut:= -1 }
theorem jba(c:Int)(n:Nat)(h:0<n):Jr c n<n:=by
 unfold Jr;have f:=Int.emod_lt_of_pos (if c<0 then -(c+1)else c) (b:=(n:Int)) (by omega);have d:=Int.emod_nonneg (if c<0 then -(c+1)else c) (b:=(n:Int)) (by omega);omega
theorem Gg(a:jz)(ch:List Int):(a.settled ch).Wf:=⟨zJ _,rfl⟩
theorem jee{bytes c:List UInt8}{T:List (Nat×Nat)}{s:Nat}(t:Bool)(f:OkP s T bytes.length)(g:c.length<=s):(J0 bytes c T t T.length).length<=bytes.length:=by
 cases hT:T.length with
 | zero=>simp[J0];have:=f.le;omega
 | succ k =>
  have d:k<T.length:=by omega
  obtain⟨i,m,l⟩:=Og bytes t T c s f g k d;rw[C5 bytes c T t k d,if_pos (by omega)];have j:(if t then T[k].2/2 else T[k].2)<=T[k].2:=by split<;>omega
  have:=Df (bytes:=bytes) (b:=J0 bytes c T t k) (x:=(T[k].1,if t then T[k].2/2 else T[k].2)) i (by simp only;omega);simp only at this;omega
theorem Cn{a:jz}(h:a.Wf)(ch:List Int):(a.settled ch).bytes.length<=a.bytes.length :=
 jee _ (h.2.sel ch) (by simp;omega)
structure Lr(S1 S:jc):Prop where
 names:S.names=S1.names
 safe:S.safe=S1.safe
 late:S.late=S1.late
 small:Small S
 wf:∀ f a,S.files f=some a->a.Wf
theorem Lr.one{k S:jc}(h:Lr k S)(ch:List Int)(x:Str):Lr k (Xi S ch x).1:=by
 unfold Xi
 split
 ·rename_i p hp
  obtain⟨f,_,c⟩:=Option.bind_eq_some_iff.1 hp;obtain⟨a,j,rfl⟩:=ZO.1 c;have l:=h.wf f a j;have d:=h.small.files f a j;have i:=Cn l ch;refine⟨h.names,h.safe,h.late,h.small.withFile f ⟨XP i d.1,by simp[jz.settled],?_⟩,fun g b hb=>?_⟩
  ·exact XP i d.1
  ·simp only[jc.withFile] at hb
   split at hb
   ·cases hb;exact Gg a ch
   ·exact h.wf g b hb
 ·exact h
theorem Lr.all{b:jc}(ch:List Int):∀(l:List Str) (S:jc),Lr b S->Lr b (zg l S ch).1:=by
 intro l;suffices H:∀(p:jc×List Int),Lr b p.1->Lr b (l.foldl (fun p x=>Xi p.1 p.2 x) p).1 from fun S h=>H (S,ch) h
 induction l with
 | nil=>intro p h;exact h
 | cons x r ih=>intro p h;exact ih _ (h.one p.2 x)
theorem Sg{s:Str}(h:s.length<=maxLen):keyOf prog 9 (jf s)=some (.string s) :=
 WideMaps.keyOf_string_mk (s:=⟨s.toArray⟩) underlying9 (by show s.toArray.size<=maxLen;simpa using h)
theorem jft{b:Nat}(h:w.ownsMap prog 9 yi b n D)(d:x∈strKeys D):Maps.has D (.string x)=true/\x.length<=maxLen:=by
 refine⟨?_,strKeys_le h underlying9 x d⟩;obtain⟨i,rfl,c⟩:=h.keysOf;obtain⟨p,f,rfl⟩:=zS.1 d;obtain⟨v,g⟩:=c p f;obtain⟨y,_,e,_⟩:=Maps.keyOf_str underlying9 g;refine List.any_eq_true.2 ⟨p,f,?_⟩;rw[e];exact WideAt.sameKey_self (by trivial)
theorem Rep.cut{l:World}{ρ:Nat->j3}{o b m:Nat}{S:jc}(R:Rep w ρ d S)(rs:ρ o = .safe)(u:l.heap[d]?=some (.cells #[.map (some b),.map (some o),.slice none 0 0,.int .i64 S.calls,.int .i64 S.fail,.int .i64 S.cut,.int .i64 S.wrote] 101 (0,0)))(z:w.heap.size<=b)(x:l.ownsMap prog 9 yi b n D)(A:l.ownsMap prog 9 yi o m D)(y:bm D S.files)(s:ja w l (fun i=>i=d\/i=o)) :
 Rep l (fun i=>if i=b then .names else ρ i) d { S with names:=D,safe:=D,late:=[] }/\x7 w ρ l (fun i=>if i=b then .names else ρ i):=by
 have p:=R.xi;have q:∀ i,i<w.heap.size->(if i=b then j3.names else ρ i)=ρ i:=fun i j=>if_neg (by omega);have v:∀ i r,ρ i=r->r≠ .none->(if i=b then j3.names else ρ i)=r:=fun i r h hr=>(q i (R.lt i (by rw[h];exact hr))).trans h
 have t:∀ i,ρ i≠ .safe->ρ i≠ .xi->¬(i=d\/i=o):=by
  rintro i E C (e|e)
  ·exact C (e▸p)
  ·exact E (e▸rs)
 refine⟨⟨⟨b,o,.slice none 0 0,u,by simp,v _ _ rs (by decide),tight x,tight A,ZL _ _ _ _,fun g hg=>(by cases hg)⟩,v _ _ p (by decide),?_,y,y,fun c hc=>(by cases hc),?_,R.Oi,R.jaq⟩,⟨s.mono ?_,q⟩⟩
 ·intro f a B
  have k:=R.files f a B;exact k.keep s q (t f (by rw[k.1];decide) (by rw[k.1];decide)) (fun i j=>t i (by rw[j];exact fun h=>by cases h) (by rw[j];exact fun h=>by cases h)) (fun i j=>t i (by rw[j];exact fun h=>by cases h) (by rw[j];exact fun h=>by cases h))
 ·intro i j
  by_cases e:i=b
  ·rw[e];exact x.lt
  ·rw[if_neg e] at j;exact ZH (R.lt i j) s.size
 ·rintro i _ (e|e)
  ·rw[e,p];decide
  ·rw[e,rs];decide
theorem Nb{S:jc}{f:Nat}{a:jz}(ch:List Int)(c:S.at x=some f)(b:S.files f=some a):Xi S ch x=(S.withFile f (a.settled ch),a.left ch):=by
 unfold Xi;rw[c];simp[b]
def Bj(w:World)(ρ:Nat->j3)(v:Value)(g:Nat)(l:List Int):Prop :=
 g<w.heap.size/\ρ g = .none/\∃ o c,v = .slice o l.length c/\l.length<=c/\c<=maxLen/\(∀ x∈l,-9223372036854775808<=x/\x<=9223372036854775807)/\(l≠[]->∃ k,o=some ⟨g,k,none⟩/\∀ j,j<l.length->w.cell? ⟨g,k+j,none⟩=some (.int .i64 (l.getD j 0)))
theorem Bj.boxed{ρ:Nat->j3}{o:Option Addr}{c g:Nat}{l:List Int}(h:Bj w ρ (.slice o l.length c) g l):Qa (w.alloc (.cells #[.slice o l.length c] 144 (0,0))) w.heap.size g l:=by
 obtain⟨p,_,n,q,e,m,i,f,d⟩:=h;cases e;refine⟨by omega,o,c,je w _,m,i,f,fun hl=>?_⟩;obtain⟨k,e,b⟩:=d hl;exact⟨k,e,fun j hj=>(ja.alloc w _ (fun _=>False)).cell (b j hj) id⟩
theorem jb1{ρ:Nat->j3}{S:jc}(v:Value)(O:Nat)(ch:List Int)(R:Rep w ρ d S)(Z:Small S)(dg:∀ f a,S.files f=some a->a.Wf)(hz:Maps.size S.safe+S.late.length<1099511627776)(hv:Bj w ρ v O ch) :
 Calls prog 43 #[.pointer (some ⟨d,0,none⟩),v] w fun e w'=>e = .returned (.tuple #[])/\∃ ρ',Rep w' ρ' d (S.crashed ch)/\x7 w ρ w' ρ':=by
 obtain⟨eu,D,ov,cv,e,_⟩:=id hv;subst e;have bg:=hv.boxed;obtain⟨nb,s,lv,hd,rn,rs,on,os,ol,rl⟩:=R.mem;have g0:=zC hd;have e8:∀ x,(w.alloc x).cell? ⟨d,2,none⟩=some lv:=fun x=>(Jf (o:=2) hd x);have HD:=jb hd;clear hd hv;have rd:=R.xi;have ak:s≠d:=fun e=>by rw[e,rd] at rs;cases rs
 have di:=os.lt;have cc:¬O=s:=fun e=>by rw[e,rs] at D;cases D
 have ce:¬O=d:=fun e=>by rw[e,rd] at D;cases D
 obtain⟨pl,cl,rfl⟩:=jl ol
 have dr:S.late.length<=cl/\cl<=maxLen:=by
  rcases ol.2 with⟨e,h0⟩|⟨g,cap,e7,e,_,hg,h1,h2,_⟩
  ·injection e with e1 e2 e3;exact⟨by omega,by unfold maxLen;omega⟩
  ·injection e with e1 e2 e3;exact⟨by omega,by omega⟩
 obtain⟨ew,cm⟩:=dr;unfold maxLen at cm;have fp:=Z.late;go_enter func43,ntmps43;go_wp2_with fail;have fq:IntKind.i64.wrap ((S.late.length:Int)+1)=((S.late.length+1:Nat):Int):=by rw[zE (by omega) (by omega)];omega
 go_cut [26,27,28] from 14 to 25 (fun v26 v27 v28 wc=>∃(q:Nat) (p:Option Addr) (c:Nat),Hid (q=Jr (ch.headD 0) (S.late.length+1))/\q<=S.late.length/\v26 = .slice p q c/\v27 = .int .i64 q/\v28 = .int .i64 0/\q<=c /\
  (0<q->∃ g,p=some ⟨g,0,none⟩/\(Value.slice pl S.late.length cl).ownBlock=some g)/\Qa wc w.heap.size O ch.tail/\ja w wc (fun _=>False))
 case first =>
  have c8:Qa (w.alloc (.cells #[.slice ov ch.length cv] 144 (0,0))).drew w.heap.size O ch:=bg.keep (ja.drew _ (fun _=>False)) id id
  go_region_with (go_at_call 80;refine(Y1 (S.late.length+1) (by omega) (by omega) c8).mono ?_;rintro e w5 ⟨q,hq,rfl,cb,bl⟩;have et:q<S.late.length+1:=(by rw[hq.out];exact jba _ _ (by omega));have fv:(q:Int)<=(cl:Int):=(by omega);have br:=bl.same (((ja.alloc w _ (fun _=>False)).draw).same HD.out id) (by omega);have e6:=zA (o:=2) br;simp at e6;clear br)
  all_goals
   go_wp2_with fail;go_meet;refine⟨q,_,cl,hq,by omega,rfl,rfl,rfl,by omega,fun h0=>?_,cb,ja.trans (((ja.refl w _).more _).draw) bl (fun i hi e=>(by omega))⟩;rcases ol.2 with⟨e,h1⟩|⟨g,cap,e7,e,_⟩
   ·exfalso;omega
   ·injection e with e1 e2 e3
    subst e1;exact⟨g,by first|rfl|(split<;>rfl)|simp,rfl⟩
 case rest =>
  obtain⟨q,p,c,hq,ft,rfl,rfl,rfl,fu,bh,W,kc⟩:=hcut;have bs:=kc.same HD.out id;have c3:=jb bs;have bb:=kc.map os id;have er:s<wc.heap.size:=ZH di kc.size;clear bs;have ep:=kc.size;have ev:w.heap.size<wc.heap.size:=by obtain⟨_,_,_,h,_⟩:=W;exact zC h
  go_wp2_with fail
  go_loopw [28] (fun i wr=>∃ k:Nat,k<=q/\i = .int .i64 k/\wr.ownsMap prog 9 yi s (Maps.size S.safe+k) (Jp S.safe S.late k)/\ja wc wr (fun i=>i=s))
   (fun i _=>q-(intOf i).toNat)
  case atStart=>exact⟨0,zG _,rfl,bb,ja.refl _ _⟩
  case round =>
   obtain⟨k,hk,rfl,r,z⟩:=hrel;have B:=z.same c3.out ak.symm;have b0:=zA (o:=0) B;have b1:=zA (o:=1) B;have b2:=zA (o:=2) B;have c0:∀ x,(wr.alloc x).cell? ⟨d,1,none⟩=some (.map (some s)):=fun x=>(Jf (o:=1) B x);have f0:=zB (o:=0) B;have f2:=zB (o:=2) B;simp at b0 b1 b2;have E:=jb B;clear B;by_cases hlt:k<q
   ·obtain⟨g,rfl,bo⟩:=bh (by omega)
    have a4:k<S.late.length:=by omega
    have J:=ol.cells (g:=g) bo;have dv:¬g=s:=fun e=>by have:=rl g bo;rw[e,rs] at this;cases this
    have b:∀ i u,(xe [S.late[k]])[i]?=some u->i<4->wr.cell? ⟨g,k*4+i,none⟩=some u:=fun i u hu hi=>by
     have h1:=J (k*4+i) u ((sj S.late k a4 i hi).trans hu);rw[add_zero] at h1;exact z.cell (kc.cell h1 id) dv
    have e0:=b 0 _ rfl (by omega);have e1:=b 1 _ rfl (by omega);have e2:=b 2 _ rfl (by omega);have e3:=b 3 _ rfl (by omega);simp only[Nat.add_zero] at e0;have bi:=R.N8 S.late[k] (xV a4);have fr:=z.size;have es:s<wr.heap.size:=r.lt;have ax:=jb bi;clear J b bi;go_wp2_with fail
    go_region_with (go_at_call 81;refine(Vy s (Maps.size S.safe+k) (Jp S.safe S.late k) S.late[k].make S.late[k].src S.late[k].dst S.late[k].f _ ?_ (by omega) ax.out.1 ax.out.2.1 ax.out.2.2.1).mono ?_;exact r.alloc _;rintro e w2 ⟨rfl,az,bn⟩)
    all_goals
     have dt:ja wc w2 (fun i=>i=s):=(z.more _).draw.tt bn;clear bn e0 e1 e2 e3 c0;go_wp2;go_roundw
     case rel=>exact⟨k+1,by omega,by go_num,by rw[Cp _ _ _ a4];exact az,dt⟩
     case measure=>simp[intOf];omega
   ·have ds:k=q:=by omega
    subst ds;have dp:=@run_makeMap prog;have a6:d<wr.heap.size:=zC E.out;have dh:s<wr.heap.size:=r.lt;have ea:∀ x,(wr.alloc x).cell? ⟨d,0,none⟩=some (.map (some nb)):=fun x=>(Jf (o:=0) E.out x);have e9:∀ x,(wr.alloc x).cell? ⟨d,2,none⟩=some (.slice pl S.late.length cl):=fun x=>(Jf (o:=2) E.out x);have e5:∀ x,(wr.alloc x).frozen? ⟨d,0,none⟩=false:=fun x=>zB ((Below.heap_alloc wr x d a6).trans E.out);have e4:∀ x,(wr.alloc x).frozen? ⟨d,2,none⟩=false:=fun x=>zB ((Below.heap_alloc wr x d a6).trans E.out);have bx:bm (Jp S.safe S.late k) S.files:=vt (S.late.take k) S.safe os.isMap R.Jp (fun x hx=>R.N8 x (zM hx));have a0:(((wr.setCell ⟨d,2,none⟩ (.slice none 0 0)).setCell ⟨d,0,none⟩ (.map (some wr.heap.size))).alloc (.map #[] 0)).ownsMap prog 9 yi s (Maps.size S.safe+k) (Jp S.safe S.late k):=((r.setCell ak _).setCell ak _).alloc _;have bf:(((wr.setCell ⟨d,2,none⟩ (.slice none 0 0)).setCell ⟨d,0,none⟩ (.map (some wr.heap.size))).alloc (.map #[] 0)).heap.size=wr.heap.size+1:=by simp[World.setCell]
    have bj:(((wr.setCell ⟨d,2,none⟩ (.slice none 0 0)).setCell ⟨d,0,none⟩ (.map (some wr.heap.size))).alloc (.map #[] 0)).ownsMap prog 9 yi wr.heap.size 0 (.map []):=by
     have h:=World.ownsMap_made (H:=Nat) ((wr.setCell ⟨d,2,none⟩ (.slice none 0 0)).setCell ⟨d,0,none⟩ (.map (some wr.heap.size))) prog 9 yi;have e:((wr.setCell ⟨d,2,none⟩ (.slice none 0 0)).setCell ⟨d,0,none⟩ (.map (some wr.heap.size))).heap.size=wr.heap.size:=by simp[World.setCell]
     rwa [e] at h
    have k6:ja wr (((wr.setCell ⟨d,2,none⟩ (.slice none 0 0)).setCell ⟨d,0,none⟩ (.map (some wr.heap.size))).alloc (.map #[] 0)) (fun i=>i=d):=(((ja.setCell wr _ _).set (by exact rfl) _).more _)
    have bt:(((wr.setCell ⟨d,2,none⟩ (.slice none 0 0)).setCell ⟨d,0,none⟩ (.map (some wr.heap.size))).alloc (.map #[] 0)).heap[d]?=some (.cells #[.map (some wr.heap.size),.map (some s),.slice none 0 0,.int .i64 S.calls,.int .i64 S.fail,.int .i64 S.cut,.int .i64 S.wrote] 101 (0,0)):=by
     rw[Below.heap_alloc _ _ d (by simp[World.setCell];exact a6),jd (jd E.out _)];rfl
    have c2:=jb bf;have c4:=jb bt;clear bf bt
    go_wp2_with (first
     | (at_range;refine wpList_range_own _ rfl _ 98 rfl 9 146 law underlying98 _ s _ _ rfl a0 ?_;intro w0 C bp dk)
     | go_in)
    go_frame;rw[c2.out] at C ⊢;have k0:=ja.grown bp;have al:=k0.map bj (by simp);have au:=k0.same c4.out (by simp);have bd:ja w w0 (fun i=>i=d\/i=s):=(((kc.up).trans z (fun _ _ h=> .inr h)).trans k6 (fun _ _ h=> .inl h)).trans k0 (fun _ _ h=>(by simp at h));have aa:wc.heap.size<=wr.heap.size:=z.size;have a9:wr.heap.size+1<w0.heap.size:=C.lt;have ad:Qa w0 w.heap.size O ch.tail:=((W.keep z (by omega) cc).keep k6 (by omega) ce).keep k0 (by simp) (by simp);obtain⟨NB,av⟩:∃ n,n=wr.heap.size:=⟨_,rfl⟩;rw[<-av] at C al au a9 aa ⊢;have ey:wc.heap.size<=NB:=aa;have g1:=jb av;have c5:=jb au;clear au dk av
    go_loopw [7] (fun _ w2=>∃(left:Lit->Bool) (aw:Nat) (I:DataW Nat) (m:Nat),w2.ranges prog 9 yi s (NB+1) (Maps.size S.safe+k) (Jp S.safe S.late k) left aw/\w2.ownsMap prog 9 yi NB m I/\m+aw<=Maps.size S.safe+k /\
     Agree I (Jp S.safe S.late k) left/\ja w0 w2 (fun i=>i=NB\/i=NB+1))
     (fun _ w2=>w2.rangeLeft s (NB+1))
    case atStart=>exact⟨_,_,_,0,C,al,by have:=r.size_le;omega,agree_start _,ja.refl _ _⟩
    case round =>
     obtain⟨left,aw,I,m,L,M,dq,hA,N⟩:=hrel;have ar:=N.same c5.out (by omega);have d0:=zA (o:=0) ar;simp at d0;have ay:=jb ar;clear ar
     go_wp2_with (first
      | (at_next;refine Y6 _ rfl _ rfl s (NB+1) _ _ _ _ rfl L bx ?_ ?_)
      | go_in)
     ·intro dx bk
      have bz:I=Jp S.safe S.late k:=agree_end hA bk (M.canon law) (L.owns.canon law);rw[bz] at M;have eq:=L.owns.size_le;have de:ja w wr (fun i=>i=d\/i=s):=bd.trans N (fun i hi e=>(by omega));have ac:Qa wr w.heap.size O ch.tail:=ad.keep N (by omega) (by omega)
      obtain⟨ρ3,R3,G3,dn,dm⟩:∃ ρ3,Rep wr ρ3 d (S.Zl k)/\x7 w ρ wr ρ3/\ρ3 w.heap.size = .none/\ρ3 O = .none:=by
       obtain⟨R3,G3⟩:=R.cut rs ay.out (by omega) M L.owns bx de;refine⟨_,R3,G3,?_,?_⟩
       ·have h1:¬w.heap.size=NB:=by omega
        simp only[if_neg h1];by_cases h2:ρ w.heap.size = .none
        ·exact h2
        ·exfalso
         have:=R.lt w.heap.size h2;omega
       ·have h1:¬O=NB:=by omega
        simp only[if_neg h1];exact D
      have Z3:Small (S.Zl k):=⟨by show Maps.size (Jp S.safe S.late k)<_;omega,by show Maps.size (Jp S.safe S.late k)<_;omega,by simp[jc.Zl],Z.files⟩;have b3:Lr (S.Zl k) (S.Zl k):=⟨rfl,rfl,rfl,Z3,dg⟩;have dz:w.heap.size+1<=wr.heap.size:=by have:=N.size;omega
      clear L M dq hA N C al c5 ay d0 bz ad bd a9 r z b0 b1 b2 c0 f0 f2 E dp a6 dh ea e9 e5 e4 a0 bj k6 c2 c4 bp k0 bk dx bh W bg bb c3 e8
      go_wp2_with (first
       | (go_at_call 70;refine(Fi R3 Z3).mono ?_;rintro e w7 ⟨k7,p7,c7,rfl,t⟩)
       | go_in)
      have R7:=R3.keep k7 (fun _ h=>h.elim);have ca:=ac.keep k7 id id;have G7:x7 w ρ w7 ρ3:=G3.trans (x7.of k7 (fun _ _ h=>h.elim));obtain⟨y,a7⟩:∃ y,y=(S.Zl k).keys:=⟨_,rfl⟩;obtain⟨NC,G⟩:∃ n,n=wr.heap.size:=⟨_,rfl⟩;rw[<-a7] at t ⊢;rw[<-G] at t dz;have X:∀ i,ρ3 i≠ .none->i<NC:=by rw[G];exact R3.lt
      have ck:∀ x∈y,Maps.has (S.Zl k).names (.string x)=true/\x.length<=maxLen:=by
       intro x hx;rw[a7] at hx;obtain⟨fn,fm,fo,_,_,_,dc,_⟩:=R3.mem;exact jft dc ((xU _ _).mem_iff.1 hx)
      have eb:=jb a7;have fs:NC<=w7.heap.size:=by rw[G];exact k7.size
      clear a7 G k7 ac R3 G3
      go_loopw [65] (fun i w8=>∃(j:Nat) (ρj:Nat->j3),j<=y.length/\i = .int .i64 j/\Rep w8 ρj d (zg (y.take j) (S.Zl k) ch.tail).1/\Qa w8 w.heap.size O (zg (y.take j) (S.Zl k) ch.tail).2 /\
       ja w7 w8 (fun i=>ρ3 i≠ .none\/i=w.heap.size)/\(∀ i,i<w7.heap.size->ρj i=ρ3 i))
       (fun i _=>y.length-(intOf i).toNat)
      case atStart=>exact⟨0,ρ3,zG _,rfl,R7,ca,ja.refl _ _,fun _ _=>rfl⟩
      case round =>
       obtain⟨j,ρj,hj,rfl,Rj,V,a5,T⟩:=hrel;by_cases hltj:j<y.length
       ·have F:=Lr.all ch.tail (y.take j) (S.Zl k) b3
        have l:=Gh y (S.Zl k) ch.tail j hltj;obtain⟨Sj,bw⟩:∃ Sj,Sj=(zg (y.take j) (S.Zl k) ch.tail).1:=⟨_,rfl⟩;obtain⟨cj,bv⟩:∃ cj,cj=(zg (y.take j) (S.Zl k) ch.tail).2:=⟨_,rfl⟩;rw[<-bw] at Rj F l;rw[<-bv] at V l;obtain⟨x,hx⟩:∃ x,x=y[j]:=⟨_,rfl⟩;have be:=ck x (by rw[hx];exact xV hltj);have am:=Sg be.2;have af:Maps.has Sj.names (.string x)=true:=by rw[F.names];exact be.1
        obtain⟨f,fa,bq,aq⟩:=Rj.z7 _ af;have Y:Sj.at x=some f:=by unfold jc.at;rw[bq];rfl
        have ae:=Nb cj Y aq;rw[<-hx,ae] at l;rcases t.2 with⟨e,h0⟩|⟨g7,f1,ez,e,ex,dw,ec,co,cn,c6⟩
        ·exfalso;omega
        cases e;have b:=t.cells (g:=g7) rfl;have an:=b j (encStr x) (by rw[hx];simp[xB hltj]);rw[add_zero] at an;have fw:=a5.cell an (fun h=>h.elim (fun h=>(by have:=X g7 h;omega)) (fun e=>(by have e':g7=w.heap.size:=e;omega)));obtain⟨bc,da,dd,A,_,_,db,_⟩:=Rj.mem;have b0:=zA (o:=0) A;simp at b0;have cf:ρj w.heap.size = .none:=(T _ (by omega)).trans dn;have cd:ρj O = .none:=(T _ (by omega)).trans dm;have eo:=a5.size;have HA:=jb Y;have c1:=jb l;unfold maxLen at co;clear A dw cn c6 b an l Y ae bw bv bq af hx
        go_wp2_with (first
         | (at_lookup;refine xf _ rfl _ _ rfl bc _ _ rfl db _ _ rfl am (.pointer (some ⟨f,0,none⟩)) (congrArg fy HA.out) ?_)
         | (go_at_call 82;refine(Uk cj Rj F.small aq (F.wf f fa aq) V cf cd (by omega) (by omega)).mono ?_;rintro e w9 ⟨rfl,c9,ρ9,R9,k9,dl⟩)
         | go_in)
        go_roundw
        case rel =>
         refine⟨j+1,ρ9,by omega,by go_num,by rw[c1.out];exact R9,by rw[c1.out];exact c9,?_,fun i hi=>(dl i (by omega)).trans (T i hi)⟩;exact a5.trans k9 (fun i hi h=>h.elim (fun h=> .inl (by rw[<-T i hi];exact h)) .inr)
        case measure=>simp[intOf];omega
       ·have du:j=y.length:=by omega
        subst du;rw[xR] at Rj V;obtain⟨bc,da,dd,A,_⟩:=Rj.mem;have b4:=zA (o:=4) A;have b5:=zA (o:=5) A;have g4:=zB (o:=4) A;have g5:=zB (o:=5) A;simp at b4 b5;clear A;go_wp2;go_end0
        obtain⟨RF,GF⟩:=Rj.Aj (w':=(wr.setCell ⟨d,4,none⟩ (.int .i64 (-1))).setCell ⟨d,5,none⟩ (.int .i64 (-1))) (zg y (S.Zl k) ch.tail).1.calls (-1) (-1) (zg y (S.Zl k) ch.tail).1.wrote ((ja.setCell wr _ _).set (by exact rfl) _)
         (fun _ _ _ h=>by rw[jd (jd h _)];rfl) (by omega) (by omega)
        refine⟨rfl,ρj,?_,?_⟩
        ·have e:S.crashed ch={ (zg y (S.Zl k) ch.tail).1 with fail:= -1,cut:= -1 }:=by
          unfold jc.crashed;rw[<-hq.out,eb.out]
         rw[e]
         exact RF
        ·have G8:x7 w ρ wr ρj:=⟨G7.keeps.trans a5 (fun i hi h=>h.elim (fun h=>(by rw[<-G7.role i hi];exact h)) (fun e=>(by omega))),fun i hi=>(T i (ZH hi G7.keeps.size)).trans (G7.role i hi)⟩
         exact G8.trans GF
     ·intro x f' w3 cp df a4 fa fx dy ab X ap dj fz
      have bu:=(ja.grown ap).same ay.out (by simp;omega);have d3:=zA (o:=0) bu;simp at d3;clear bu dj;have ci:=(ja.grown ap).map M (by simp);have am:=Sg df
      go_wp2_with (first
       | (at_mapUpdate;refine wpList_mapUpdate_own _ rfl (.tmp 59) (.tmp 60) (.tmp 61) 98 rfl 9 146 law underlying98 _ NB m _ rfl ci (by unfold maxLen;omega) _ _ _ rfl rfl am (.held f') [] rfl ?_;intro w4 cg ao)
       | go_in)
      go_frame;go_roundw
      case rel =>
       have U:=ab.kept ao (by simp;omega) (by simp);exact⟨_,cp,_,m+1,U,cg,by omega,agree_step hA M.isMap (by trivial) dy,((N.trans (ja.grown ap) (fun i _ e=> .inr (Option.some.inj e))).trans (ja.grown ao) (fun i _ e=> .inl (Option.some.inj e)))⟩
      case measure =>
       have U:=ab.kept ao (by simp;omega) (by simp);rw[U.left_eq,L.left_eq];exact X
end Go.Proofs.YtnipbplghijdmaaGreatDoor
